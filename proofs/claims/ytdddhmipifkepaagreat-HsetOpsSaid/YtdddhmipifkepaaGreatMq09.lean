/- Several texts in one. -/
import Derived.Test.YtdddhmipifkepaaGreatMq08
import Derived.Test.YtdddhmipifkepaaGreatProg
import Derived.Test.YtdddhmipifkepaaGreatMq01
import Derived.Test.YtdddhmipifkepaaGreatMq02
import Derived.WalkLawsBesides
import Derived.WalkSpells
import Derived.Deep.RegionWith
import Derived.Lib.Hide
import Derived.RangeFuncNested
namespace Go.Proofs.YtdddhmipifkepaaGreat

def Chd (k : Ky) (new : Pr → Prop) (l l' : List Pr) : Prop := ∀ q, q ∈ l' ↔ new q ∨ (q ∈ l ∧ q.1 ≠ k)
def OfK (k : Ky) (new : Pr → Prop) : Prop := ∀ q, new q → q.1 = k

theorem cnt_set {s s' d : Nat} (h0 : s.testBit d = false) (h1 : s'.testBit d = true) (hs : ∀ e, e ≠ d → s'.testBit e = s.testBit e) : ∀ e, cnt s' e = cnt s e + if d < e then 1 else 0
  | 0 => rfl
  | e + 1 => by
    show cnt s' e + (s'.testBit e).toNat = cnt s e + (s.testBit e).toNat + _
    rw [cnt_set h0 h1 hs e]
    by_cases ed : e = d
    · subst ed
      rw [h0, h1, if_neg (Nat.lt_irrefl _), if_pos (Nat.lt_succ_self _)]
      simp
    · rw [hs e ed]
      by_cases h : d < e
      · rw [if_pos h, if_pos (by omega)]; omega
      · rw [if_neg h, if_neg (by omega)]; omega
theorem or_bit {s d : Nat} : (s ||| 2 ^ d).testBit d = true ∧ ∀ e, e ≠ d → (s ||| 2 ^ d).testBit e = s.testBit e := by
  refine ⟨by rw [Nat.testBit_or, Nat.testBit_two_pow]; simp, fun e h => ?_⟩
  rw [Nat.testBit_or, Nat.testBit_two_pow, decide_eq_false (Ne.symm h), Bool.or_false]
theorem or_lt {s d : Nat} (h : s < 4294967296) (hd : d < 32) : s ||| 2 ^ d < 4294967296 :=
  Nat.or_lt_two_pow (n := 32) h (pow_32 hd)

section
variable {M M' : Cells} {hs : Ky → Nat} {lv i i' k' r r' b s : Nat} {l : List Pr} {c : Hc} {ow : Int} {K : Nat → Nat} {L : Nat → List Pr} {k : Ky} {new : Pr → Prop}
theorem node_set {Ld : List Pr} (h : NodeF M hs lv i l c r b s K L) (hl : l ≠ []) (hd : s.testBit (dg (hs k) b) = true) (hT : ∀ e, e < 32 → s.testBit e = true → e ≠ dg (hs k) b → HT M' hs (b + 1) (K e) (L e))
    (hc : M' i' = some ({ c with kids := c.kids.set (cnt s (dg (hs k) b)) k', owner := ow }, r')) (hk : HT M' hs (b + 1) k' Ld) (hn : OfK k new) (hch : Chd k new (L (dg (hs k) b)) Ld) (ha : ∀ q ∈ l, ∀ j, j < b → dg (hs k) j = dg (hs q.1) j) :
    ∃ l', HT M' hs lv i' l' ∧ Chd k new l l' := by
  obtain ⟨d, hdd⟩ : ∃ d, d = dg (hs k) b := ⟨_, rfl⟩
  rw [← hdd] at hd hT hc hch
  have hd32 : d < 32 := by rw [hdd]; exact dg_lt _ _
  have hdl : cnt s d < c.kids.length := by rw [h.len]; exact cnt_lt hd hd32
  have hold : ∀ q, q ∈ Ld → dg (hs q.1) b = d ∧ ∀ x ∈ l, ∀ j, j < b → dg (hs q.1) j = dg (hs x.1) j := fun q hq => by
    rcases (hch q).1 hq with h1 | ⟨h1, _⟩
    · rw [hn q h1]; exact ⟨hdd.symm, fun x hx j hj => ha x hx j hj⟩
    · exact ⟨h.dig d q h1, fun x hx j hj => h.agr q (by rw [h.eq]; exact mem_joinL.2 ⟨d, hd32, h1⟩) x hx j hj⟩
  have hmem : ∀ q, q ∈ joinL (fun e => if e = d then Ld else L e) ↔ q ∈ Ld ∨ (q ∈ l ∧ dg (hs q.1) b ≠ d) := fun q => by
    rw [mem_joinL]
    constructor
    · rintro ⟨e, he, hq⟩
      by_cases ed : e = d
      · rw [if_pos ed] at hq; exact .inl hq
      · rw [if_neg ed] at hq
        refine .inr ⟨by rw [h.eq]; exact mem_joinL.2 ⟨e, he, hq⟩, ?_⟩
        rw [h.dig e q hq]; exact ed
    · rintro (hq | ⟨hq, hne⟩)
      · exact ⟨d, hd32, by rw [if_pos rfl]; exact hq⟩
      · exact ⟨_, dg_lt (hs q.1) b, by rw [if_neg hne]; exact h.mem.1 hq⟩
  refine ⟨joinL fun e => if e = d then Ld else L e, .node (c := { c with kids := c.kids.set (cnt s d) k', owner := ow }) (r := r') (b := b) (s := s) (K := fun e => if e = d then k' else K e) (L := fun e => if e = d then Ld else L e) ⟨hc, h.lv, h.b13, h.cb, h.s32, h.ca, h.vals, ?_, h.two, rfl, ?_, ?_, ?_, ?_⟩ ?_, fun q => ?_⟩
  · show (c.kids.set _ _).length = _
    rw [List.length_set]; exact h.len
  · intro p hp q hq j hj
    rcases (hmem p).1 hp with h1 | ⟨h1, _⟩ <;> rcases (hmem q).1 hq with h2 | ⟨h2, _⟩
    · obtain ⟨x, hx⟩ := List.exists_mem_of_ne_nil _ hl
      exact ((hold p h1).2 x hx j hj).trans ((hold q h2).2 x hx j hj).symm
    · exact (hold p h1).2 q h2 j hj
    · exact ((hold q h2).2 p h1 j hj).symm
    · exact h.agr p h1 q h2 j hj
  · intro e he
    rw [if_neg (fun e' => by rw [e', hd] at he; cases he)]
    exact h.no e he
  · intro e he hb
    show (c.kids.set _ _)[cnt s e]? = _
    by_cases ed : e = d
    · rw [ed, if_pos rfl, List.getElem?_set_self hdl]
    · rw [if_neg ed, List.getElem?_set_ne (fun e' => ed (cnt_inj hb hd e'.symm))]
      exact h.kid e he hb
  · intro e p hp
    by_cases ed : e = d
    · rw [if_pos ed] at hp; rw [ed]; exact (hold p hp).1
    · rw [if_neg ed] at hp; exact h.dig e p hp
  · intro e he hb
    by_cases ed : e = d
    · rw [if_pos ed, if_pos ed]; exact hk
    · rw [if_neg ed, if_neg ed]; exact hT e he hb ed
  · rw [hmem q, hch q]
    constructor
    · rintro ((h1 | ⟨h1, h2⟩) | ⟨h1, h2⟩)
      · exact .inl h1
      · exact .inr ⟨by rw [h.eq]; exact mem_joinL.2 ⟨d, hd32, h1⟩, h2⟩
      · exact .inr ⟨h1, fun e => h2 (by rw [e]; exact hdd.symm)⟩
    · rintro (h1 | ⟨h1, h2⟩)
      · exact .inl (.inl h1)
      · by_cases ed : dg (hs q.1) b = d
        · exact .inl (.inr ⟨by rw [← ed]; exact h.mem.1 h1, h2⟩)
        · exact .inr ⟨h1, ed⟩
theorem leaf_one {k v : Ky} {a : Int} (hc : M' i' = some (⟨ow, a, 13, [k, v], []⟩, r')) (h13 : lv ≤ 13) : HT M' hs lv i' [(k, v)] :=
  .leaf ⟨hc, h13, rfl, rfl, rfl, by simp, by simp, fun p hp q hq j hj => by
    rw [List.mem_singleton] at hp hq
    rw [hp, hq]⟩
theorem node_add {Ld : List Pr} (h : NodeF M hs lv i l c r b s K L) (hd : s.testBit (dg (hs k) b) = false) (hT : ∀ e, e < 32 → s.testBit e = true → HT M' hs (b + 1) (K e) (L e))
    (hc : M' i' = some ({ c with kids := c.kids.insertIdx (cnt s (dg (hs k) b)) k', a := ((s ||| 2 ^ dg (hs k) b : Nat) : Int), owner := ow }, r')) (hk : HT M' hs (b + 1) k' Ld) (hn : OfK k new) (hch : ∀ q, q ∈ Ld ↔ new q) (ha : ∀ q ∈ l, ∀ j, j < b → dg (hs k) j = dg (hs q.1) j) :
    ∃ l', HT M' hs lv i' l' ∧ Chd k new l l' := by
  obtain ⟨d, hdd⟩ : ∃ d, d = dg (hs k) b := ⟨_, rfl⟩
  rw [← hdd] at hd hc
  have hd32 : d < 32 := by rw [hdd]; exact dg_lt _ _
  have hdl : cnt s d ≤ c.kids.length := by rw [h.len]; exact cnt_mono s (Nat.le_of_lt hd32)
  obtain ⟨o1, o2⟩ := @or_bit s d
  have hcs := cnt_set hd o1 o2
  have hold : ∀ q, q ∈ Ld → q.1 = k := fun q hq => hn q ((hch q).1 hq)
  have hmem : ∀ q, q ∈ joinL (fun e => if e = d then Ld else L e) ↔ q ∈ Ld ∨ q ∈ l := fun q => by
    rw [mem_joinL]
    constructor
    · rintro ⟨e, he, hq⟩
      by_cases ed : e = d
      · rw [if_pos ed] at hq; exact .inl hq
      · rw [if_neg ed] at hq
        exact .inr (by rw [h.eq]; exact mem_joinL.2 ⟨e, he, hq⟩)
    · rintro (hq | hq)
      · exact ⟨d, hd32, by rw [if_pos rfl]; exact hq⟩
      · have h1 := h.mem.1 hq
        refine ⟨_, dg_lt (hs q.1) b, ?_⟩
        rw [if_neg (fun e => by rw [e, h.no d hd] at h1; cases h1)]
        exact h1
  refine ⟨joinL fun e => if e = d then Ld else L e, .node (c := { c with kids := c.kids.insertIdx (cnt s d) k', a := ((s ||| 2 ^ d : Nat) : Int), owner := ow }) (r := r') (b := b) (s := s ||| 2 ^ d) (K := fun e => if e = d then k' else K e) (L := fun e => if e = d then Ld else L e) ⟨hc, h.lv, h.b13, h.cb, or_lt h.s32 hd32, rfl, h.vals, ?_, ?_, rfl, ?_, ?_, ?_, ?_⟩ ?_, fun q => ?_⟩
  · show (c.kids.insertIdx _ _).length = _
    rw [List.length_insertIdx_of_le_length hdl, hcs, if_pos hd32, h.len]
  · have := h.two
    rw [hcs]; omega
  · intro p hp q hq j hj
    rcases (hmem p).1 hp with h1 | h1 <;> rcases (hmem q).1 hq with h2 | h2
    · rw [hold p h1, hold q h2]
    · rw [hold p h1]; exact ha q h2 j hj
    · rw [hold q h2]; exact (ha p h1 j hj).symm
    · exact h.agr p h1 q h2 j hj
  · intro e he
    have ed : e ≠ d := fun e' => by rw [e', o1] at he; cases he
    rw [if_neg ed]
    exact h.no e (by rw [← o2 e ed]; exact he)
  · intro e he hb
    show (c.kids.insertIdx _ _)[cnt (s ||| 2 ^ d) e]? = _
    rw [hcs]
    by_cases ed : e = d
    · rw [ed, if_pos rfl, if_neg (Nat.lt_irrefl _), Nat.add_zero, List.getElem?_insertIdx_self, if_pos hdl]
    · have hb' : s.testBit e = true := by rw [← o2 e ed]; exact hb
      rw [if_neg ed]
      by_cases hde : d < e
      · have hle : cnt s d ≤ cnt s e := cnt_mono s (Nat.le_of_lt hde)
        rw [if_pos hde, List.getElem?_insertIdx_of_gt (by omega), Nat.add_sub_cancel]
        exact h.kid e he hb'
      · have hlt : cnt s e < cnt s d := cnt_lt hb' (by omega)
        rw [if_neg hde, Nat.add_zero, List.getElem?_insertIdx_of_lt hlt]
        exact h.kid e he hb'
  · intro e p hp
    by_cases ed : e = d
    · rw [if_pos ed] at hp; rw [ed, hold p hp]; exact hdd.symm
    · rw [if_neg ed] at hp; exact h.dig e p hp
  · intro e he hb
    by_cases ed : e = d
    · rw [if_pos ed, if_pos ed]; exact hk
    · rw [if_neg ed, if_neg ed]; exact hT e he (by rw [← o2 e ed]; exact hb)
  · rw [hmem q, hch q]
    refine ⟨fun h1 => h1.imp id fun h1 => ⟨h1, fun e => ?_⟩, fun h1 => h1.imp id fun h1 => h1.1⟩
    have h2 := h.mem.1 h1
    rw [e, ← hdd, h.no d hd] at h2
    cases h2
theorem node_fork {Ld : List Pr} {i0 lv0 : Nat} {near : Ky} (h : HT M' hs lv0 i0 l) (hb0 : b < lv0) (hlv : lv ≤ b) (hp : pt (hs near) (hs k) = b) (hb13 : b < 13) (hag : ∀ q ∈ l, ∀ j, j ≤ b → dg (hs near) j = dg (hs q.1) j)
    (hc : M' i' = some (⟨ow, ((2 ^ dg (hs near) b ||| 2 ^ dg (hs k) b : Nat) : Int), (b : Int), [], [i0].insertIdx (cnt (2 ^ dg (hs near) b) (dg (hs k) b)) k'⟩, r')) (hk : HT M' hs (b + 1) k' Ld) (hn : OfK k new) (hch : ∀ q, q ∈ Ld ↔ new q) :
    ∃ l', HT M' hs lv i' l' ∧ Chd k new l l' := by
  have hne : dg (hs near) b ≠ dg (hs k) b := by rw [← hp]; exact pt_ne (by rw [hp]; exact hb13)
  obtain ⟨d, hdd⟩ : ∃ d, d = dg (hs k) b := ⟨_, rfl⟩
  obtain ⟨n, hnn⟩ : ∃ n, n = dg (hs near) b := ⟨_, rfl⟩
  rw [← hdd, ← hnn] at hc hne
  have hd32 : d < 32 := by rw [hdd]; exact dg_lt _ _
  have hn32 : n < 32 := by rw [hnn]; exact dg_lt _ _
  have b1 : ∀ e, (2 ^ n : Nat).testBit e = decide (n = e) := fun e => Nat.testBit_two_pow
  have hcn : ∀ e, cnt (2 ^ n) e = if n < e then 1 else 0 := fun e => by
    have h0 := cnt_set (s := 0) (s' := 2 ^ n) (d := n) (by simp) (by rw [b1]; simp) (fun e he => by rw [b1, decide_eq_false (Ne.symm he)]; simp) e
    rw [cnt_zero] at h0
    omega
  obtain ⟨o1, o2⟩ := @or_bit (2 ^ n) d
  have hcs := cnt_set (s := 2 ^ n) (d := d) (by rw [b1]; exact decide_eq_false hne) o1 o2
  have bits : ∀ e, (2 ^ n ||| 2 ^ d : Nat).testBit e = true → e = n ∨ e = d := fun e he => by
    by_cases ed : e = d
    · exact .inr ed
    · rw [o2 e ed, b1, decide_eq_true_eq] at he; exact .inl he.symm
  have hold : ∀ q, q ∈ Ld → q.1 = k := fun q hq => hn q ((hch q).1 hq)
  have hdig : ∀ q ∈ l, dg (hs q.1) b = n := fun q hq => by rw [hnn, hag q hq b (Nat.le_refl _)]
  have hka : ∀ q ∈ l, ∀ j, j < b → dg (hs k) j = dg (hs q.1) j := fun q hq j hj => ((pt_eq (by rw [hp]; exact hj)).symm).trans (hag q hq j (Nat.le_of_lt hj))
  have hmem : ∀ q, q ∈ joinL (fun e => if e = d then Ld else if e = n then l else []) ↔ q ∈ Ld ∨ q ∈ l := fun q => by
    rw [mem_joinL]
    constructor
    · rintro ⟨e, he, hq⟩
      by_cases ed : e = d
      · rw [if_pos ed] at hq; exact .inl hq
      · rw [if_neg ed] at hq
        by_cases en : e = n
        · rw [if_pos en] at hq; exact .inr hq
        · rw [if_neg en] at hq; cases hq
    · rintro (hq | hq)
      · exact ⟨d, hd32, by rw [if_pos rfl]; exact hq⟩
      · exact ⟨n, hn32, by rw [if_neg hne, if_pos rfl]; exact hq⟩
  have hlen : ([i0].insertIdx (cnt (2 ^ n) d) k').length = 2 := by
    rw [List.length_insertIdx_of_le_length (by rw [hcn]; simp; split <;> omega)]
    rfl
  have hc2 : cnt (2 ^ n ||| 2 ^ d) 32 = 2 := by rw [hcs, hcn, if_pos hn32, if_pos hd32]
  refine ⟨joinL fun e => if e = d then Ld else if e = n then l else [], .node (c := ⟨ow, ((2 ^ n ||| 2 ^ d : Nat) : Int), (b : Int), [], [i0].insertIdx (cnt (2 ^ n) d) k'⟩) (r := r') (b := b) (s := 2 ^ n ||| 2 ^ d) (K := fun e => if e = d then k' else i0) (L := fun e => if e = d then Ld else if e = n then l else []) ⟨hc, hlv, hb13, rfl, or_lt (pow_32 hn32) hd32, rfl, rfl, by rw [hc2]; exact hlen, by rw [hc2]; exact Nat.le_refl _, rfl, ?_, ?_, ?_, ?_⟩ ?_, fun q => ?_⟩
  · intro p hp' q hq j hj
    rcases (hmem p).1 hp' with h1 | h1 <;> rcases (hmem q).1 hq with h2 | h2
    · rw [hold p h1, hold q h2]
    · rw [hold p h1]; exact hka q h2 j hj
    · rw [hold q h2]; exact (hka p h1 j hj).symm
    · exact (hag p h1 j (Nat.le_of_lt hj)).symm.trans (hag q h2 j (Nat.le_of_lt hj))
  · intro e he
    have ed : e ≠ d := fun e' => by rw [e', o1] at he; cases he
    have en : e ≠ n := fun e' => by rw [o2 e ed, b1, e'] at he; simp at he
    rw [if_neg ed, if_neg en]
  · intro e he hb
    show ([i0].insertIdx (cnt (2 ^ n) d) k')[cnt (2 ^ n ||| 2 ^ d) e]? = _
    rw [hcs]
    by_cases ed : e = d
    · rw [ed, if_pos rfl, if_neg (Nat.lt_irrefl _), Nat.add_zero, List.getElem?_insertIdx_self, if_pos (by rw [hcn]; simp; split <;> omega)]
    · have en : e = n := (bits e hb).resolve_right ed
      subst en
      rw [if_neg ed, hcn, hcn, if_neg (Nat.lt_irrefl e)]
      by_cases hde : d < e
      · rw [if_pos hde, if_neg (by omega), List.getElem?_insertIdx_of_gt (by omega)]
        rfl
      · rw [if_neg hde, if_pos (by omega), List.getElem?_insertIdx_of_lt (by omega)]
        rfl
  · intro e p hp'
    by_cases ed : e = d
    · rw [if_pos ed] at hp'; rw [ed, hold p hp']; exact hdd.symm
    · rw [if_neg ed] at hp'
      by_cases en : e = n
      · rw [if_pos en] at hp'; rw [en]; exact hdig p hp'
      · rw [if_neg en] at hp'; cases hp'
  · intro e he hb
    by_cases ed : e = d
    · rw [if_pos ed, if_pos ed]; exact hk
    · have en : e = n := (bits e hb).resolve_right ed
      rw [if_neg ed, if_neg ed, if_pos en]
      exact h.weak hb0
  · rw [hmem q, hch q]
    refine ⟨fun h1 => h1.imp id fun h1 => ⟨h1, fun e => ?_⟩, fun h1 => h1.imp id fun h1 => h1.1⟩
    have h2 := hdig q h1
    rw [e, ← hdd] at h2
    exact hne h2.symm
end

end Go.Proofs.YtdddhmipifkepaaGreat

namespace Go.Proofs.YtdddhmipifkepaaGreat

abbrev Vso (l : List Pr) : Prop := l.Pairwise fun p q => vc p.1 q.1 = -1
def lowN (k : Ky) : List Pr → Nat
  | [] => 0
  | q :: l => if vc k q.1 = 1 then lowN k l + 1 else 0
theorem lowN_le (k : Ky) : ∀ l, lowN k l ≤ l.length
  | [] => Nat.le_refl _
  | q :: l => by
    have := lowN_le k l
    unfold lowN
    split
    · exact Nat.succ_le_succ this
    · exact Nat.zero_le _
theorem lowN_lt {k : Ky} : ∀ {l : List Pr} {j : Nat} {q : Pr}, j < lowN k l → l[j]? = some q → vc k q.1 = 1
  | [], _, _, _, h => by simp at h
  | x :: l, j, q, hj, h => by
    unfold lowN at hj
    by_cases e : vc k x.1 = 1
    · rw [if_pos e] at hj
      cases j with
      | zero =>
        obtain rfl : x = q := by simpa using h
        exact e
      | succ j => exact lowN_lt (l := l) (j := j) (by omega) (by simpa using h)
    · rw [if_neg e] at hj; omega
theorem lowN_ge {k : Ky} : ∀ {l : List Pr} {j : Nat} {q : Pr}, Vso l → lowN k l ≤ j → l[j]? = some q → vc k q.1 ≠ 1
  | [], _, _, _, _, h => by simp at h
  | x :: l, j, q, hs, hj, h => by
    obtain ⟨h1, h2⟩ := List.pairwise_cons.1 hs
    unfold lowN at hj
    by_cases e : vc k x.1 = 1
    · rw [if_pos e] at hj
      cases j with
      | zero => omega
      | succ j => exact lowN_ge (l := l) (j := j) h2 (by omega) (by simpa using h)
    · cases j with
      | zero =>
        obtain rfl : x = q := by simpa using h
        exact e
      | succ j =>
        have hm : q ∈ l := List.mem_of_getElem? (by simpa using h)
        intro e1
        have h3 := h1 q hm
        have h4 : vc q.1 k = -1 := by rw [vc_swap k q.1, e1]
        have h5 := vc_trans h3 h4
        rw [vc_swap k x.1] at h5
        omega
theorem vc_refl (a : Ky) : vc a a = 0 := vc_eq.2 rfl
def hasN (k : Ky) (l : List Pr) : Bool := match l[lowN k l]? with
  | some q => decide (q.1 = k)
  | none => false
theorem hasN_iff {k : Ky} {l : List Pr} (hs : Vso l) : hasN k l = true ↔ ∃ q ∈ l, q.1 = k := by
  constructor
  · intro h
    unfold hasN at h
    cases e : l[lowN k l]? with
    | none => rw [e] at h; cases h
    | some q => rw [e] at h; exact ⟨q, List.mem_of_getElem? e, of_decide_eq_true h⟩
  · rintro ⟨q, hq, e⟩
    obtain ⟨j, hj⟩ := List.getElem?_of_mem hq
    have h1 : ¬ j < lowN k l := fun h => by
      have := lowN_lt h hj
      rw [e, vc_refl] at this
      omega
    have hjl := (List.getElem?_eq_some_iff.1 hj).1
    have hx := List.getElem?_eq_getElem (l := l) (i := lowN k l) (by omega)
    have h2 := lowN_ge hs (Nat.le_refl _) hx
    have ej : j = lowN k l := by
      refine Nat.le_antisymm ?_ (by omega)
      refine Nat.le_of_not_lt fun hlt => ?_
      have h3 : vc (l[lowN k l]).1 q.1 = -1 := by
        have := List.pairwise_iff_getElem.1 hs (lowN k l) j (by omega) hjl hlt
        rwa [(List.getElem?_eq_some_iff.1 hj).2] at this
      rw [e, vc_swap k] at h3
      omega
    unfold hasN
    rw [← ej, hj]
    exact decide_eq_true e
theorem hasN_at {k : Ky} {l : List Pr} (h : hasN k l = true) : ∃ v, l[lowN k l]? = some (k, v) := by
  unfold hasN at h
  cases e : l[lowN k l]? with
  | none => rw [e] at h; cases h
  | some q =>
    rw [e] at h
    have h1 : q.1 = k := of_decide_eq_true h
    exact ⟨q.2, by rw [← h1]⟩
theorem Vso.key {l : List Pr} (h : Vso l) {p q : Pr} (hp : p ∈ l) (hq : q ∈ l) (e : p.1 = q.1) : p = q := by
  obtain ⟨i, hi⟩ := List.getElem?_of_mem hp
  obtain ⟨j, hj⟩ := List.getElem?_of_mem hq
  obtain ⟨hi1, hi2⟩ := List.getElem?_eq_some_iff.1 hi
  obtain ⟨hj1, hj2⟩ := List.getElem?_eq_some_iff.1 hj
  rcases Nat.lt_trichotomy i j with h1 | h1 | h1
  · have := List.pairwise_iff_getElem.1 h i j hi1 hj1 h1
    rw [hi2, hj2, e, vc_refl] at this
    omega
  · subst h1
    rw [hi] at hj
    exact Option.some.inj hj
  · have := List.pairwise_iff_getElem.1 h j i hj1 hi1 h1
    rw [hi2, hj2, e, vc_refl] at this
    omega
theorem so_ins {k v : Ky} : ∀ {l : List Pr}, Vso l → (∀ q ∈ l, q.1 ≠ k) → Vso (l.insertIdx (lowN k l) (k, v)) ∧ ∀ q, q ∈ l.insertIdx (lowN k l) (k, v) ↔ q = (k, v) ∨ q ∈ l
  | [], _, _ => by
    refine ⟨?_, fun q => ?_⟩
    · show Vso [(k, v)]
      simp
    · show q ∈ [(k, v)] ↔ _
      simp
  | x :: l, hs, hn => by
    obtain ⟨h1, h2⟩ := List.pairwise_cons.1 hs
    obtain ⟨i1, i2⟩ := so_ins (k := k) (v := v) h2 fun q hq => hn q (by simp [hq])
    unfold lowN
    by_cases e : vc k x.1 = 1
    · rw [if_pos e, List.insertIdx_succ_cons]
      refine ⟨List.pairwise_cons.2 ⟨fun q hq => ?_, i1⟩, fun q => ?_⟩
      · rcases (i2 q).1 hq with rfl | hq
        · show vc x.1 k = -1
          rw [vc_swap k x.1, e]
        · exact h1 q hq
      · rw [List.mem_cons, i2 q, List.mem_cons]
        exact ⟨fun h => h.elim (fun h => .inr (.inl h)) (fun h => h.imp id .inr), fun h => h.elim (fun h => .inr (.inl h)) (fun h => h.imp id .inr)⟩
    · rw [if_neg e, List.insertIdx_zero]
      have hkx : vc k x.1 = -1 := by
        have h3 := vc_range k x.1
        have h4 : vc k x.1 ≠ 0 := fun e0 => hn x (by simp) (vc_eq.1 e0).symm
        omega
      refine ⟨List.pairwise_cons.2 ⟨fun q hq => ?_, hs⟩, fun q => List.mem_cons⟩
      rcases List.mem_cons.1 hq with rfl | hq
      · exact hkx
      · exact vc_trans hkx (h1 q hq)
theorem so_set {k v v0 : Ky} {l : List Pr} (hs : Vso l) (h : l[lowN k l]? = some (k, v0)) : Vso (l.set (lowN k l) (k, v)) ∧ ∀ q, q ∈ l.set (lowN k l) (k, v) ↔ q = (k, v) ∨ (q ∈ l ∧ q.1 ≠ k) := by
  obtain ⟨hlt, he⟩ := List.getElem?_eq_some_iff.1 h
  have hkey : ∀ j (hj : j < (l.set (lowN k l) (k, v)).length), ((l.set (lowN k l) (k, v))[j]).1 = (l[j]'(by rw [List.length_set] at hj; exact hj)).1 := fun j hj => by
    rw [List.getElem_set]
    split
    · rename_i e
      subst e
      rw [he]
    · rfl
  refine ⟨List.pairwise_iff_getElem.2 fun i j hi hj hij => ?_, fun q => ?_⟩
  · rw [hkey i hi, hkey j hj]
    exact List.pairwise_iff_getElem.1 hs i j _ _ hij
  · constructor
    · intro hq
      obtain ⟨j, hj⟩ := List.getElem?_of_mem hq
      by_cases e : lowN k l = j
      · rw [← e, List.getElem?_set_self hlt] at hj
        exact .inl (Option.some.inj hj).symm
      · rw [List.getElem?_set_ne e] at hj
        refine .inr ⟨List.mem_of_getElem? hj, fun e' => ?_⟩
        have := hs.key (List.mem_of_getElem? hj) (List.mem_of_getElem? h) e'
        subst this
        obtain ⟨hj1, hj2⟩ := List.getElem?_eq_some_iff.1 hj
        rcases Nat.lt_trichotomy j (lowN k l) with h1 | h1 | h1
        · have := List.pairwise_iff_getElem.1 hs _ _ hj1 hlt h1
          rw [hj2, he, vc_refl] at this; omega
        · exact e h1.symm
        · have := List.pairwise_iff_getElem.1 hs _ _ hlt hj1 h1
          rw [hj2, he, vc_refl] at this; omega
    · rintro (rfl | ⟨hq, hne⟩)
      · exact List.mem_of_getElem? (List.getElem?_set_self hlt)
      · obtain ⟨j, hj⟩ := List.getElem?_of_mem hq
        have e : lowN k l ≠ j := fun e => by
          rw [← e, h] at hj
          exact hne (by rw [← Option.some.inj hj])
        exact List.mem_of_getElem? (by rw [List.getElem?_set_ne e]; exact hj)
section
variable {M M' : Cells} {hs : Ky → Nat} {lv i i' r r' : Nat} {l : List Pr} {c : Hc} {ow a : Int} {k v : Ky}
theorem leaf_put (h : LeafF M hs lv i l c r) (ha : ∀ q ∈ l, ∀ j, j < 13 → dg (hs k) j = dg (hs q.1) j)
    (hc : M' i' = some (⟨ow, a, 13, flatP (if hasN k l = true then l.set (lowN k l) (k, v) else l.insertIdx (lowN k l) (k, v)), []⟩, r')) :
    ∃ l', HT M' hs lv i' l' ∧ Chd k (fun q => q = (k, v)) l l' := by
  have hb : ∃ l', l' = (if hasN k l = true then l.set (lowN k l) (k, v) else l.insertIdx (lowN k l) (k, v)) ∧ Vso l' ∧ Chd k (fun q => q = (k, v)) l l' := by
    cases e : hasN k l with
    | true =>
      obtain ⟨v0, h0⟩ := hasN_at e
      obtain ⟨h1, h2⟩ := so_set (v := v) h.so h0
      exact ⟨_, rfl, by rw [if_pos rfl]; exact h1, fun q => by rw [if_pos rfl]; exact h2 q⟩
    | false =>
      have hn : ∀ q ∈ l, q.1 ≠ k := fun q hq e' => by
        have := (hasN_iff h.so).2 ⟨q, hq, e'⟩
        rw [e] at this; cases this
      obtain ⟨h1, h2⟩ := so_ins (v := v) h.so hn
      refine ⟨_, rfl, by rw [if_neg (by simp)]; exact h1, fun q => ?_⟩
      rw [if_neg (by simp), h2 q]
      exact ⟨fun h => h.imp id fun h => ⟨h, hn q h⟩, fun h => h.imp id fun h => h.1⟩
  obtain ⟨l', e, h1, h2⟩ := hb
  rw [← e] at hc
  have hm : ∀ q ∈ l', q.1 = k ∨ q ∈ l := fun q hq => ((h2 q).1 hq).imp (fun e => by rw [e]) (fun e => e.1)
  obtain ⟨x, hx⟩ := List.exists_mem_of_ne_nil _ h.ne
  refine ⟨l', .leaf ⟨hc, h.lv, rfl, rfl, rfl, List.ne_nil_of_mem ((h2 (k, v)).2 (.inl rfl)), h1, fun p hp q hq j hj => ?_⟩, h2⟩
  have key : ∀ q ∈ l', dg (hs q.1) j = dg (hs x.1) j := fun q hq => by
    rcases hm q hq with e | e
    · rw [e]; exact ha x hx j hj
    · exact h.agr q e x hx j hj
  rw [key p hp, key q hq]
end

end Go.Proofs.YtdddhmipifkepaaGreat

namespace Go.Proofs.YtdddhmipifkepaaGreat
open Go.RowKit

abbrev vv (k n : Int) (s : ByteArray) : Value := .agg #[.int .u8 k, .int .i64 n, .string s]

set_option maxHeartbeats 400000 in
theorem ref_right (k n : Int) (s : ByteArray) (w : World) :
    Calls Tryz.prog 54 #[vv k n s] w fun e w' => e = .returned (.bool (rightB k n s)) ∧ Gw w w' := by
  go_enter Tryz.func54, Tryz.ntmps54
  go_wp2
  all_goals go_ret
  all_goals exact ⟨ret_bool (by simp_all [rightB]), (Gw.refl _).alloc _ _⟩

theorem right_small {k n : Int} {s : ByteArray} (h : rightB k n s = true) : s.size ≤ 4096 := by
  have e : s.toList.isEmpty = true → s.size ≤ 4096 := fun h => by rw [← len_toList, List.isEmpty_iff.1 h]; simp
  unfold rightB at h
  split at h
  · exact e ((Bool.and_eq_true _ _).mp h).2
  · split at h
    · exact e ((Bool.and_eq_true _ _).mp h).2
    · split at h
      · exact e h
      · split at h
        · have := of_decide_eq_true ((Bool.and_eq_true _ _).mp h).2
          omega
        · cases h

end Go.Proofs.YtdddhmipifkepaaGreat

namespace Go.Proofs.YtdddhmipifkepaaGreat
set_option maxRecDepth 100000
open Go.RowKit


theorem nan_kind (x : Int) (w : World) : Calls Tryz.prog 239 #[.int .u8 x] w fun e w' => e = .returned (.bool false) ∧ w = w' := by
  go_enter Tryz.func239, Tryz.ntmps239
  go_wp2
  go_ret
  simp
theorem nan_int (x : Int) (w : World) : Calls Tryz.prog 240 #[.int .i64 x] w fun e w' => e = .returned (.bool false) ∧ w = w' := by
  go_enter Tryz.func240, Tryz.ntmps240
  go_wp2
  go_ret
  simp
theorem nan_string (x : ByteArray) (w : World) : Calls Tryz.prog 241 #[.string x] w fun e w' => e = .returned (.bool false) ∧ w = w' := by
  go_enter Tryz.func241, Tryz.ntmps241
  go_wp2
  go_ret
  simp
theorem cmp_kind (a b : Int) (w : World) : Calls Tryz.prog 199 #[.int .u8 a, .int .u8 b] w fun e w' => e = .returned (.int .i64 (icmp a b)) ∧ w = w' := by
  go_enter Tryz.func199, Tryz.ntmps199
  go_wp2_with (go_at_call 239; refine (nan_kind _ _).mono ?_; rintro e w' ⟨rfl, rfl⟩)
  all_goals go_ret
  all_goals exact ⟨ret_int (by first | exact icmp_m1 ‹_› | exact icmp_p1 ‹_› | exact icmp_0 ‹_› ‹_›), rfl⟩
theorem cmp_int (a b : Int) (w : World) : Calls Tryz.prog 200 #[.int .i64 a, .int .i64 b] w fun e w' => e = .returned (.int .i64 (icmp a b)) ∧ w = w' := by
  go_enter Tryz.func200, Tryz.ntmps200
  go_wp2_with (go_at_call 240; refine (nan_int _ _).mono ?_; rintro e w' ⟨rfl, rfl⟩)
  all_goals go_ret
  all_goals exact ⟨ret_int (by first | exact icmp_m1 ‹_› | exact icmp_p1 ‹_› | exact icmp_0 ‹_› ‹_›), rfl⟩
theorem cmp_string (a b : ByteArray) (w : World) : Calls Tryz.prog 201 #[.string a, .string b] w fun e w' => e = .returned (.int .i64 (lcmp a.toList b.toList)) ∧ w = w' := by
  go_enter Tryz.func201, Tryz.ntmps201
  go_wp2_with (go_at_call 241; refine (nan_string _ _).mono ?_; rintro e w' ⟨rfl, rfl⟩)
  all_goals go_ret
  all_goals exact ⟨ret_int (by first | exact lcmp_m1 ‹_› | exact lcmp_p1 ‹_› ‹_› | exact lcmp_0 ‹_›), rfl⟩

set_option maxHeartbeats 400000 in
theorem compare (k n : Int) (s : ByteArray) (k' n' : Int) (s' : ByteArray) (w : World) :
    Calls Tryz.prog 136 #[vv k n s, vv k' n' s'] w fun e w' => e = .returned (.int .i64 (vcmp k n s k' n' s')) ∧ Gw w w' := by
  go_enter Tryz.func136, Tryz.ntmps136
  go_wp2_with (first | (go_at_call 199; refine (cmp_kind _ _ _).mono ?_; rintro e w' ⟨rfl, rfl⟩) | (go_at_call 200; refine (cmp_int _ _ _).mono ?_; rintro e w' ⟨rfl, rfl⟩) | (go_at_call 201; refine (cmp_string _ _ _).mono ?_; rintro e w' ⟨rfl, rfl⟩))
  all_goals go_ret
  all_goals exact ⟨ret_int (by first | exact vc_0 ‹_› ‹_› ‹_› | exact vc_s ‹_› ‹_› | exact vc_n ‹_› ‹_› | exact vc_k ‹_›), ((Gw.refl _).alloc _ _).alloc _ _⟩




theorem ref_less_k (k n : Int) (s : ByteArray) (k' n' : Int) (s' : ByteArray) (w : World) (h : ¬ k = k') :
    Calls Tryz.prog 198 #[vv k n s, vv k' n' s'] w fun e w' => e = .returned (.bool (lessB k n s k' n' s')) ∧ Gw w w' := by
  have h1 : (k != k') = true := by simpa using h
  go_enter Tryz.func198, Tryz.ntmps198
  go_wp2
  go_ret
  exact ⟨ret_bool (less_k h), ((Gw.refl _).alloc _ _).alloc _ _⟩
theorem ref_less_n (k n : Int) (s : ByteArray) (n' : Int) (s' : ByteArray) (w : World) (h : ¬ n = n') :
    Calls Tryz.prog 198 #[vv k n s, vv k n' s'] w fun e w' => e = .returned (.bool (lessB k n s k n' s')) ∧ Gw w w' := by
  have h1 : (n != n') = true := by simpa using h
  go_enter Tryz.func198, Tryz.ntmps198
  go_wp2
  go_ret
  exact ⟨ret_bool (less_n rfl h), ((Gw.refl _).alloc _ _).alloc _ _⟩

set_option maxHeartbeats 1000000 in
theorem ref_less_s (k n : Int) (s s' : ByteArray) (w : World) (hs : s.size ≤ 9223372036854775807) (_hs' : s'.size ≤ 9223372036854775807) :
    Calls Tryz.prog 198 #[vv k n s, vv k n s'] w fun e w' => e = .returned (.bool (lessB k n s k n s')) ∧ Gw w w' := by
  go_enter Tryz.func198, Tryz.ntmps198
  go_wp2
  go_loopw [5] (fun i wr => ∃ j q : Nat, j ≤ s.size ∧ j ≤ s'.size ∧ i = .int .i64 j ∧ Hid (lcmp s.toList s'.toList = lcmp (s.toList.drop j) (s'.toList.drop j)) ∧ wr = ((w.alloc (.cells #[.int .u8 k, .int .i64 n, .string s] 98)).alloc (.cells #[.int .u8 k, .int .i64 n, .string s'] 98)).drewN q) (fun i _ => s.size - (intOf i).toNat)
  case atStart => exact ⟨0, 0, Nat.zero_le _, Nat.zero_le _, rfl, rfl, rfl⟩
  case round =>
    obtain ⟨j, q, hj, hj', rfl, HD, rfl⟩ := hrel
    by_cases h1 : j < s.size
    · by_cases h2 : j < s'.size
      · cases hne : ((s[j].toNat : Int) != (s'[j].toNat : Int))
        · go_wp2
          go_quiet (fail)
          go_wp2
          refine ⟨⟨j + 1, q + nq, by omega, by omega, by go_num, lc_on h1 h2 HD.out hne, rfl⟩, ?_⟩
          simp [intOf]; omega
        · go_wp2
          go_quiet (fail)
          go_wp2
          go_quiet (fail)
          go_wp2
          go_ret
          exact ⟨ret_bool (by rw [less_s]; exact lc_part h1 h2 HD.out hne), (((((Gw.refl _).alloc _ _).alloc _ _).drewN _).drewN _).drewN _⟩
      · go_wp2
        go_ret
        exact ⟨ret_bool (by rw [less_s]; exact lc_end hj hj' HD.out (by omega)), (((Gw.refl _).alloc _ _).alloc _ _).drewN _⟩
    · go_wp2
      go_ret
      exact ⟨ret_bool (by rw [less_s]; exact lc_end hj hj' HD.out (by omega)), (((Gw.refl _).alloc _ _).alloc _ _).drewN _⟩

theorem ref_less (k n : Int) (s : ByteArray) (k' n' : Int) (s' : ByteArray) (w : World) (hs : s.size ≤ 9223372036854775807) (hs' : s'.size ≤ 9223372036854775807) :
    Calls Tryz.prog 198 #[vv k n s, vv k' n' s'] w fun e w' => e = .returned (.bool (lessB k n s k' n' s')) ∧ Gw w w' := by
  by_cases h : k = k'
  · subst h
    by_cases h2 : n = n'
    · subst h2; exact ref_less_s k n s s' w hs hs'
    · exact ref_less_n k n s n' s' w h2
  · exact ref_less_k k n s k' n' s' w h

theorem drop_get {α : Type} {l : List α} {j : Nat} {x : α} (h : l[j]? = some x) : l.drop j = x :: l.drop (j + 1) := by
  obtain ⟨hlt, rfl⟩ := List.getElem?_eq_some_iff.1 h
  exact List.drop_eq_getElem_cons hlt
end Go.Proofs.YtdddhmipifkepaaGreat

namespace Go.Proofs.YtdddhmipifkepaaGreat
open Go.RowKit

def C1 (w : World) (b : Nat) (t : TypeId) (x : Value) : Prop := w.heap[b]? = some (.cells #[x] t (0, 0))
section
variable {w w' : World} {b : Nat} {t : TypeId} {x : Value}
theorem C1.c0 (h : C1 w b t x) : w.cell? ⟨b, 0, none⟩ = some x := by simpa using cell_of_row w b 0 _ _ (0, 0) h
theorem C1.fz (h : C1 w b t x) : w.frozen? ⟨b, 0, none⟩ = false := frozen_of_row w b 0 _ _ h
theorem C1.all (h : C1 w b t x) : w.cell? ⟨b, 0, none⟩ = some x ∧ w.frozen? ⟨b, 0, none⟩ = false := ⟨h.c0, h.fz⟩
theorem C1.set (h : C1 w b t x) (y : Value) : C1 (w.setCell ⟨b, 0, none⟩ y) b t y := by
  have := heap_setCell_same w b 0 _ _ y h
  simpa [C1] using this
theorem C1.other (h : C1 w b t x) {g o : Nat} (hg : b ≠ g) (y : Value) : C1 (w.setCell ⟨g, o, none⟩ y) b t x := (Below.heap_setCell w ⟨g, o, none⟩ y b hg).trans h
theorem C1.lt (h : C1 w b t x) : b < w.heap.size := (Array.getElem?_eq_some_iff.1 h).1
theorem C1.kp {F : Nat → Prop} (h : C1 w b t x) (hk : Kp F w w') (hF : ¬ F b) : C1 w' b t x := hk.at h hF
theorem C1.below (h : C1 w b t x) (hb : Below w.heap.size w w') : C1 w' b t x := (hb.block b h.lt).trans h
theorem C1.new (w : World) (t : TypeId) (x : Value) : C1 (w.alloc (.cells #[x] t)) w.heap.size t x := heap_alloc_new w _
theorem C1.alloc (h : C1 w b t x) (o : Obj) : C1 (w.alloc o) b t x := (Below.heap_alloc w o b h.lt).trans h
theorem C1.drew (h : C1 w b t x) : C1 w.drew b t x := h
theorem C1.own (h : C1 w b t x) {row : Option Nat} {B : Nat} (hg : w.grownBy w' row) (hr : ∀ r, row = some r → B ≤ r ∧ ∃ o : Obj, w.heap[r]? = some o ∧ o.isCells = false) : C1 w' b t x :=
  (hg.block b h.lt fun e => by
    obtain ⟨_, o, ho, hc⟩ := hr b e.symm
    rw [h] at ho
    cases ho
    cases hc).trans h
theorem C1.stored {y : Value} (h : C1 (w.setCell ⟨b, 0, none⟩ y) b t x) : C1 (w.setCell ⟨b, 0, none⟩ y) b t y := by
  have hlt := h.lt
  simp only [World.setCell, Array.size_modify] at hlt
  have := h
  simp only [C1, World.setCell, Array.getElem?_modify, if_true] at this ⊢
  rw [Array.getElem?_eq_getElem hlt] at this ⊢
  simp only [Option.map_some, Option.some.injEq] at this ⊢
  cases ho : w.heap[b] with
  | cells c e f =>
    rw [ho] at this
    simp only [Option.isSome_none, Bool.false_eq_true, if_false, Obj.cells.injEq] at this ⊢
    obtain ⟨h1, rfl, rfl⟩ := this
    have h2 : 0 < c.size := by
      have := congrArg Array.size h1
      simp at this
      omega
    have h3 := congrArg (fun A => A[0]?) h1
    simp [h2] at h3
    rw [h1, h3]
    simp
  | _ => rw [ho] at this; simp at this
theorem C1.put (h : C1 w b t x) {k : Nat} (hk : b ≠ k) (o : Obj) : C1 (w.putObj k o) b t x := (World.putObj_heap_other hk).trans h
theorem cells_own {A : Array Value} {z : Nat × Nat} (h : w.heap[b]? = some (.cells A t z)) {row : Option Nat} {B : Nat} (hg : w.grownBy w' row) (hr : ∀ r, row = some r → B ≤ r ∧ ∃ o : Obj, w.heap[r]? = some o ∧ o.isCells = false) : w'.heap[b]? = some (.cells A t z) :=
  (hg.block b (Array.getElem?_eq_some_iff.1 h).1 fun e => by
    obtain ⟨_, o, ho, hc⟩ := hr b e.symm
    rw [h] at ho
    cases ho
    cases hc).trans h
end

end Go.Proofs.YtdddhmipifkepaaGreat
