/- Several texts in one. -/
import Derived.Test.YtkkfhbcnfknmaaaGreatMg02
import Derived.Test.YtkkfhbcnfknmaaaGreatMg06
import Derived.Test.YtkkfhbcnfknmaaaGreatProg
import Derived.Test.YtkkfhbcnfknmaaaGreatMg01
import Derived.WalkLawsBesides
import Derived.WalkSpells
import Derived.Deep.RegionWith
import Derived.Lib.Hide
import Derived.RangeFuncNested
import Derived.BigQuiet
import Derived.Deep.RegionHeld3
import Derived.Laws.EntriesVeiled
import Derived.IntWalk
import Derived.Deep.DeepCutAuto
import Derived.Lib.AppendZerosOnto
import Derived.Lib.Overlaps
import Derived.Laws.Externs
import Derived.Shelf.Spec.SlicesInsert
import Derived.Deep.RegionLaw
import Derived.Lib.SliceRun
import Derived.Laws.Bits64b
import Derived.LoopTactic
namespace Go.Proofs.YtkkfhbcnfknmaaaGreat

def flatP (l : List Pr) : List Ky := l.flatMap fun p => [p.1, p.2]
theorem flatP_length : ∀ l : List Pr, (flatP l).length = 2 * l.length
  | [] => rfl
  | p :: l => by
    show ([p.1, p.2] ++ flatP l).length = _
    rw [List.length_append, flatP_length l]
    simp only [List.length_cons, List.length_nil]
    omega
theorem cnt_mono (s : Nat) {a b : Nat} (h : a ≤ b) : cnt s a ≤ cnt s b := by
  obtain ⟨k, rfl⟩ := Nat.exists_eq_add_of_le h
  rw [cnt_add]; exact Nat.le_add_right _ _
theorem cnt_succ {s d : Nat} (h : s.testBit d = true) : cnt s (d + 1) = cnt s d + 1 := by
  show cnt s d + (s.testBit d).toNat = _
  rw [h]; rfl
theorem cnt_lt {s d e : Nat} (h : s.testBit d = true) (hde : d < e) : cnt s d < cnt s e := by
  have h1 := cnt_succ h
  have h2 := cnt_mono s (show d + 1 ≤ e by omega)
  omega
theorem cnt_inj {s d e : Nat} (hd : s.testBit d = true) (he : s.testBit e = true) (h : cnt s d = cnt s e) : d = e := by
  rcases Nat.lt_trichotomy d e with h1 | h1 | h1
  · have := cnt_lt hd h1; omega
  · exact h1
  · have := cnt_lt he h1; omega

section
variable (M : Cells) (hs : Ky → Nat)
def Agr (b : Nat) (l : List Pr) : Prop := ∀ p ∈ l, ∀ q ∈ l, ∀ j, j < b → dg (hs p.1) j = dg (hs q.1) j
structure LeafF (lv i : Nat) (l : List Pr) (c : Hc) (r : Nat) : Prop where
  cell : M i = some (c, r)
  lv : lv ≤ 13
  cb : c.b = 13
  kids : c.kids = []
  vals : c.vals = flatP l
  ne : l ≠ []
  so : l.Pairwise fun p q => vc p.1 q.1 = -1
  agr : Agr hs 13 l
def joinL (L : Nat → List Pr) : List Pr := (List.range 32).flatMap L
structure NodeF (lv i : Nat) (l : List Pr) (c : Hc) (r b s : Nat) (K : Nat → Nat) (L : Nat → List Pr) : Prop where
  cell : M i = some (c, r)
  lv : lv ≤ b
  b13 : b < 13
  cb : c.b = (b : Int)
  s32 : s < 4294967296
  ca : c.a = (s : Int)
  vals : c.vals = []
  len : c.kids.length = cnt s 32
  two : 2 ≤ cnt s 32
  eq : l = joinL L
  agr : Agr hs b l
  no : ∀ d, s.testBit d = false → L d = []
  kid : ∀ d, d < 32 → s.testBit d = true → c.kids[cnt s d]? = some (K d)
  dig : ∀ d, ∀ p ∈ L d, dg (hs p.1) b = d
inductive HT : Nat → Nat → List Pr → Prop
  | leaf {lv i : Nat} {l : List Pr} {c : Hc} {r : Nat} (h : LeafF M hs lv i l c r) : HT lv i l
  | node {lv i : Nat} {l : List Pr} {c : Hc} {r b s : Nat} {K : Nat → Nat} {L : Nat → List Pr} (h : NodeF M hs lv i l c r b s K L) (hT : ∀ d, d < 32 → s.testBit d = true → HT (b + 1) (K d) (L d)) : HT lv i l
end
section
variable {M M' : Cells} {hs : Ky → Nat} {lv i : Nat} {l : List Pr}
theorem mem_joinL {L : Nat → List Pr} {q : Pr} : q ∈ joinL L ↔ ∃ d, d < 32 ∧ q ∈ L d := by
  unfold joinL
  rw [List.mem_flatMap]
  simp
theorem bit_lt {s d : Nat} (h : s < 4294967296) (hd : s.testBit d = true) : d < 32 := by
  refine Nat.lt_of_not_le fun h32 => ?_
  have : s < 2 ^ d := Nat.lt_of_lt_of_le h (Nat.pow_le_pow_right (n := 2) (by decide) h32)
  rw [Nat.testBit_lt_two_pow this] at hd
  cases hd
theorem NodeF.mem {c : Hc} {r b s : Nat} {K : Nat → Nat} {L : Nat → List Pr} (h : NodeF M hs lv i l c r b s K L) {q : Pr} : q ∈ l ↔ q ∈ L (dg (hs q.1) b) := by
  rw [h.eq, mem_joinL]
  constructor
  · rintro ⟨d, _, hq⟩
    rw [h.dig d q hq]; exact hq
  · intro hq
    exact ⟨_, dg_lt _ _, hq⟩
theorem NodeF.bit {c : Hc} {r b s : Nat} {K : Nat → Nat} {L : Nat → List Pr} (h : NodeF M hs lv i l c r b s K L) {d : Nat} {q : Pr} (hq : q ∈ L d) : s.testBit d = true := by
  cases e : s.testBit d with
  | true => rfl
  | false => rw [h.no d e] at hq; cases hq
theorem HT.cell (h : HT M hs lv i l) : M i ≠ none := by
  cases h with
  | leaf h => rw [h.cell]; simp
  | node h _ => rw [h.cell]; simp
theorem HT.pos (h : HT M hs lv i l) (hz : M 0 = none) : i ≠ 0 := fun e => h.cell (by rw [e]; exact hz)
theorem bit_exists {s : Nat} (h : 1 ≤ cnt s 32) : ∃ d, d < 32 ∧ s.testBit d = true := by
  have key : ∀ n, 1 ≤ cnt s n → ∃ d, d < n ∧ s.testBit d = true := fun n => by
    induction n with
    | zero => intro h; simp [cnt] at h
    | succ n ih =>
      intro h
      cases e : s.testBit n with
      | true => exact ⟨n, Nat.lt_succ_self _, e⟩
      | false =>
        have h' : cnt s n + (s.testBit n).toNat = cnt s (n + 1) := rfl
        rw [e] at h'
        obtain ⟨d, hd, hb⟩ := ih (by simp at h'; omega)
        exact ⟨d, by omega, hb⟩
  exact key 32 h
theorem HT.ne (h : HT M hs lv i l) : l ≠ [] := by
  induction h with
  | leaf h => exact h.ne
  | node h _ ih =>
    obtain ⟨d, hd, hb⟩ := bit_exists (Nat.le_trans (by decide) h.two)
    obtain ⟨q, hq⟩ := List.exists_mem_of_ne_nil _ (ih d hd hb)
    exact List.ne_nil_of_mem ((by rw [h.eq]; exact mem_joinL.2 ⟨d, hd, hq⟩ : q ∈ _))
theorem HT.srt (h : HT M hs lv i l) : Srt hs l := by
  induction h with
  | leaf h =>
    refine List.Pairwise.imp_of_mem ?_ h.so
    intro p q hp hq hv
    rw [klt_vc (pt_uniq (Nat.le_refl _) (fun j hj => h.agr p hp q hq j hj) (fun h => absurd h (Nat.lt_irrefl _)))]
    exact hv
  | @node lv i l c r b s K L h _ ih =>
    rw [h.eq]
    unfold joinL
    refine List.pairwise_flatMap.2 ⟨fun d hd => ?_, ?_⟩
    · cases e : s.testBit d with
      | true => exact ih d (List.mem_range.1 hd) e
      | false => rw [h.no d e]; exact List.Pairwise.nil
    · refine List.Pairwise.imp_of_mem ?_ List.pairwise_lt_range
      intro d e hd he hde p hp q hq
      have h1 := h.dig d p hp
      have h2 := h.dig e q hq
      have hpl : p ∈ l := by rw [h.eq]; exact mem_joinL.2 ⟨d, List.mem_range.1 hd, hp⟩
      have hql : q ∈ l := by rw [h.eq]; exact mem_joinL.2 ⟨e, List.mem_range.1 he, hq⟩
      have hp' : pt (hs p.1) (hs q.1) = b := pt_uniq (Nat.le_of_lt h.b13) (fun j hj => h.agr p hpl q hql j hj) (fun _ => by omega)
      rw [klt_dg (by rw [hp']; exact h.b13), hp']
      omega
theorem HT.pres (h : HT M hs lv i l) (hz : M 0 = none) (hp : Pres M M' i) : HT M' hs lv i l := by
  induction h with
  | leaf h =>
    obtain ⟨r', e⟩ := hp _ _ _ .refl h.cell
    exact .leaf { h with cell := e }
  | @node lv i l c r b s K L h hT ih =>
    obtain ⟨r', e⟩ := hp _ _ _ .refl h.cell
    exact .node { h with cell := e } fun d hd hb => ih d hd hb (hp.kid h.cell (List.mem_of_getElem? (h.kid d hd hb)) ((hT d hd hb).pos hz))
end

end Go.Proofs.YtkkfhbcnfknmaaaGreat

namespace Go.Proofs.YtkkfhbcnfknmaaaGreat

def Chd (k : Ky) (new : Pr → Prop) (l l' : List Pr) : Prop := ∀ q, q ∈ l' ↔ new q ∨ (q ∈ l ∧ q.1 ≠ k)
section
variable {M M' : Cells} {hs : Ky → Nat} {lv i i' k' r r' b s : Nat} {l : List Pr} {c : Hc} {ow : Int} {K : Nat → Nat} {L : Nat → List Pr} {k : Ky} {new : Pr → Prop}
end

end Go.Proofs.YtkkfhbcnfknmaaaGreat

namespace Go.Proofs.YtkkfhbcnfknmaaaGreat

abbrev Vso (l : List Pr) : Prop := l.Pairwise fun p q => vc p.1 q.1 = -1
def lowN (k : Ky) : List Pr → Nat
  | [] => 0
  | q :: l => if vc k q.1 = 1 then lowN k l + 1 else 0
theorem lowN_lt {k : Ky} : ∀ {l : List Pr} {j : Nat} {q : Pr}, j < lowN k l → l[j]? = some q → vc k q.1 = 1
  | [], _, _, _, h => by simp at h
  | x :: l, j, q, hj, h => by
    unfold lowN at hj
    by_cases e : vc k x.1 = 1
    · rw [if_pos e] at hj
      cases j with
      | zero =>
        obtain rfl : x = q := by simpa using h
        exact e
      | succ j => exact lowN_lt (l := l) (j := j) (by omega) (by simpa using h)
    · rw [if_neg e] at hj; omega
theorem lowN_ge {k : Ky} : ∀ {l : List Pr} {j : Nat} {q : Pr}, Vso l → lowN k l ≤ j → l[j]? = some q → vc k q.1 ≠ 1
  | [], _, _, _, _, h => by simp at h
  | x :: l, j, q, hs, hj, h => by
    obtain ⟨h1, h2⟩ := List.pairwise_cons.1 hs
    unfold lowN at hj
    by_cases e : vc k x.1 = 1
    · rw [if_pos e] at hj
      cases j with
      | zero => omega
      | succ j => exact lowN_ge (l := l) (j := j) h2 (by omega) (by simpa using h)
    · cases j with
      | zero =>
        obtain rfl : x = q := by simpa using h
        exact e
      | succ j =>
        have hm : q ∈ l := List.mem_of_getElem? (by simpa using h)
        intro e1
        have h3 := h1 q hm
        have h4 : vc q.1 k = -1 := by rw [vc_swap k q.1, e1]
        have h5 := vc_trans h3 h4
        rw [vc_swap k x.1] at h5
        omega
theorem vc_refl (a : Ky) : vc a a = 0 := vc_eq.2 rfl
def hasN (k : Ky) (l : List Pr) : Bool := match l[lowN k l]? with
  | some q => decide (q.1 = k)
  | none => false
theorem hasN_iff {k : Ky} {l : List Pr} (hs : Vso l) : hasN k l = true ↔ ∃ q ∈ l, q.1 = k := by
  constructor
  · intro h
    unfold hasN at h
    cases e : l[lowN k l]? with
    | none => rw [e] at h; cases h
    | some q => rw [e] at h; exact ⟨q, List.mem_of_getElem? e, of_decide_eq_true h⟩
  · rintro ⟨q, hq, e⟩
    obtain ⟨j, hj⟩ := List.getElem?_of_mem hq
    have h1 : ¬ j < lowN k l := fun h => by
      have := lowN_lt h hj
      rw [e, vc_refl] at this
      omega
    have hjl := (List.getElem?_eq_some_iff.1 hj).1
    have hx := List.getElem?_eq_getElem (l := l) (i := lowN k l) (by omega)
    have h2 := lowN_ge hs (Nat.le_refl _) hx
    have ej : j = lowN k l := by
      refine Nat.le_antisymm ?_ (by omega)
      refine Nat.le_of_not_lt fun hlt => ?_
      have h3 : vc (l[lowN k l]).1 q.1 = -1 := by
        have := List.pairwise_iff_getElem.1 hs (lowN k l) j (by omega) hjl hlt
        rwa [(List.getElem?_eq_some_iff.1 hj).2] at this
      rw [e, vc_swap k] at h3
      omega
    unfold hasN
    rw [← ej, hj]
    exact decide_eq_true e
theorem Vso.key {l : List Pr} (h : Vso l) {p q : Pr} (hp : p ∈ l) (hq : q ∈ l) (e : p.1 = q.1) : p = q := by
  obtain ⟨i, hi⟩ := List.getElem?_of_mem hp
  obtain ⟨j, hj⟩ := List.getElem?_of_mem hq
  obtain ⟨hi1, hi2⟩ := List.getElem?_eq_some_iff.1 hi
  obtain ⟨hj1, hj2⟩ := List.getElem?_eq_some_iff.1 hj
  rcases Nat.lt_trichotomy i j with h1 | h1 | h1
  · have := List.pairwise_iff_getElem.1 h i j hi1 hj1 h1
    rw [hi2, hj2, e, vc_refl] at this
    omega
  · subst h1
    rw [hi] at hj
    exact Option.some.inj hj
  · have := List.pairwise_iff_getElem.1 h j i hj1 hi1 h1
    rw [hi2, hj2, e, vc_refl] at this
    omega
section
variable {M M' : Cells} {hs : Ky → Nat} {lv i i' r r' : Nat} {l : List Pr} {c : Hc} {ow a : Int} {k v : Ky}
end

end Go.Proofs.YtkkfhbcnfknmaaaGreat

namespace Go.Proofs.YtkkfhbcnfknmaaaGreat
open Go.RowKit

abbrev vv (k n : Int) (s : ByteArray) : Value := .agg #[.int .u8 k, .int .i64 n, .string s]

set_option maxHeartbeats 400000 in
theorem ref_right (k n : Int) (s : ByteArray) (w : World) :
    Calls Tryz.prog 36 #[vv k n s] w fun e w' => e = .returned (.bool (rightB k n s)) ∧ Gw w w' := by
  go_enter Tryz.func36, Tryz.ntmps36
  go_wp2
  all_goals go_ret
  all_goals exact ⟨ret_bool (by simp_all [rightB]), (Gw.refl _).alloc _ _⟩

end Go.Proofs.YtkkfhbcnfknmaaaGreat

namespace Go.Proofs.YtkkfhbcnfknmaaaGreat
set_option maxRecDepth 100000
open Go.RowKit


theorem nan_kind (x : Int) (w : World) : Calls Tryz.prog 180 #[.int .u8 x] w fun e w' => e = .returned (.bool false) ∧ w = w' := by
  go_enter Tryz.func180, Tryz.ntmps180
  go_wp2
  go_ret
  simp
theorem nan_int (x : Int) (w : World) : Calls Tryz.prog 181 #[.int .i64 x] w fun e w' => e = .returned (.bool false) ∧ w = w' := by
  go_enter Tryz.func181, Tryz.ntmps181
  go_wp2
  go_ret
  simp
theorem nan_string (x : ByteArray) (w : World) : Calls Tryz.prog 182 #[.string x] w fun e w' => e = .returned (.bool false) ∧ w = w' := by
  go_enter Tryz.func182, Tryz.ntmps182
  go_wp2
  go_ret
  simp
theorem cmp_kind (a b : Int) (w : World) : Calls Tryz.prog 151 #[.int .u8 a, .int .u8 b] w fun e w' => e = .returned (.int .i64 (icmp a b)) ∧ w = w' := by
  go_enter Tryz.func151, Tryz.ntmps151
  go_wp2_with (go_at_call 180; refine (nan_kind _ _).mono ?_; rintro e w' ⟨rfl, rfl⟩)
  all_goals go_ret
  all_goals exact ⟨ret_int (by first | exact icmp_m1 ‹_› | exact icmp_p1 ‹_› | exact icmp_0 ‹_› ‹_›), rfl⟩
theorem cmp_int (a b : Int) (w : World) : Calls Tryz.prog 152 #[.int .i64 a, .int .i64 b] w fun e w' => e = .returned (.int .i64 (icmp a b)) ∧ w = w' := by
  go_enter Tryz.func152, Tryz.ntmps152
  go_wp2_with (go_at_call 181; refine (nan_int _ _).mono ?_; rintro e w' ⟨rfl, rfl⟩)
  all_goals go_ret
  all_goals exact ⟨ret_int (by first | exact icmp_m1 ‹_› | exact icmp_p1 ‹_› | exact icmp_0 ‹_› ‹_›), rfl⟩
theorem cmp_string (a b : ByteArray) (w : World) : Calls Tryz.prog 153 #[.string a, .string b] w fun e w' => e = .returned (.int .i64 (lcmp a.toList b.toList)) ∧ w = w' := by
  go_enter Tryz.func153, Tryz.ntmps153
  go_wp2_with (go_at_call 182; refine (nan_string _ _).mono ?_; rintro e w' ⟨rfl, rfl⟩)
  all_goals go_ret
  all_goals exact ⟨ret_int (by first | exact lcmp_m1 ‹_› | exact lcmp_p1 ‹_› ‹_› | exact lcmp_0 ‹_›), rfl⟩

set_option maxHeartbeats 400000 in
theorem compare (k n : Int) (s : ByteArray) (k' n' : Int) (s' : ByteArray) (w : World) :
    Calls Tryz.prog 98 #[vv k n s, vv k' n' s'] w fun e w' => e = .returned (.int .i64 (vcmp k n s k' n' s')) ∧ Gw w w' := by
  go_enter Tryz.func98, Tryz.ntmps98
  go_wp2_with (first | (go_at_call 151; refine (cmp_kind _ _ _).mono ?_; rintro e w' ⟨rfl, rfl⟩) | (go_at_call 152; refine (cmp_int _ _ _).mono ?_; rintro e w' ⟨rfl, rfl⟩) | (go_at_call 153; refine (cmp_string _ _ _).mono ?_; rintro e w' ⟨rfl, rfl⟩))
  all_goals go_ret
  all_goals exact ⟨ret_int (by first | exact vc_0 ‹_› ‹_› ‹_› | exact vc_s ‹_› ‹_› | exact vc_n ‹_› ‹_› | exact vc_k ‹_›), ((Gw.refl _).alloc _ _).alloc _ _⟩




theorem ref_less_k (k n : Int) (s : ByteArray) (k' n' : Int) (s' : ByteArray) (w : World) (h : ¬ k = k') :
    Calls Tryz.prog 150 #[vv k n s, vv k' n' s'] w fun e w' => e = .returned (.bool (lessB k n s k' n' s')) ∧ Gw w w' := by
  have h1 : (k != k') = true := by simpa using h
  go_enter Tryz.func150, Tryz.ntmps150
  go_wp2
  go_ret
  exact ⟨ret_bool (less_k h), ((Gw.refl _).alloc _ _).alloc _ _⟩
theorem ref_less_n (k n : Int) (s : ByteArray) (n' : Int) (s' : ByteArray) (w : World) (h : ¬ n = n') :
    Calls Tryz.prog 150 #[vv k n s, vv k n' s'] w fun e w' => e = .returned (.bool (lessB k n s k n' s')) ∧ Gw w w' := by
  have h1 : (n != n') = true := by simpa using h
  go_enter Tryz.func150, Tryz.ntmps150
  go_wp2
  go_ret
  exact ⟨ret_bool (less_n rfl h), ((Gw.refl _).alloc _ _).alloc _ _⟩

set_option maxHeartbeats 1000000 in
theorem ref_less_s (k n : Int) (s s' : ByteArray) (w : World) (hs : s.size ≤ 9223372036854775807) (_hs' : s'.size ≤ 9223372036854775807) :
    Calls Tryz.prog 150 #[vv k n s, vv k n s'] w fun e w' => e = .returned (.bool (lessB k n s k n s')) ∧ Gw w w' := by
  go_enter Tryz.func150, Tryz.ntmps150
  go_wp2
  go_loopw [5] (fun i wr => ∃ j q : Nat, j ≤ s.size ∧ j ≤ s'.size ∧ i = .int .i64 j ∧ Hid (lcmp s.toList s'.toList = lcmp (s.toList.drop j) (s'.toList.drop j)) ∧ wr = ((w.alloc (.cells #[.int .u8 k, .int .i64 n, .string s] 82)).alloc (.cells #[.int .u8 k, .int .i64 n, .string s'] 82)).drewN q) (fun i _ => s.size - (intOf i).toNat)
  case atStart => exact ⟨0, 0, Nat.zero_le _, Nat.zero_le _, rfl, rfl, rfl⟩
  case round =>
    obtain ⟨j, q, hj, hj', rfl, HD, rfl⟩ := hrel
    by_cases h1 : j < s.size
    · by_cases h2 : j < s'.size
      · cases hne : ((s[j].toNat : Int) != (s'[j].toNat : Int))
        · go_wp2
          go_quiet (fail)
          go_wp2
          refine ⟨⟨j + 1, q + nq, by omega, by omega, by go_num, lc_on h1 h2 HD.out hne, rfl⟩, ?_⟩
          simp [intOf]; omega
        · go_wp2
          go_quiet (fail)
          go_wp2
          go_quiet (fail)
          go_wp2
          go_ret
          exact ⟨ret_bool (by rw [less_s]; exact lc_part h1 h2 HD.out hne), (((((Gw.refl _).alloc _ _).alloc _ _).drewN _).drewN _).drewN _⟩
      · go_wp2
        go_ret
        exact ⟨ret_bool (by rw [less_s]; exact lc_end hj hj' HD.out (by omega)), (((Gw.refl _).alloc _ _).alloc _ _).drewN _⟩
    · go_wp2
      go_ret
      exact ⟨ret_bool (by rw [less_s]; exact lc_end hj hj' HD.out (by omega)), (((Gw.refl _).alloc _ _).alloc _ _).drewN _⟩

theorem ref_less (k n : Int) (s : ByteArray) (k' n' : Int) (s' : ByteArray) (w : World) (hs : s.size ≤ 9223372036854775807) (hs' : s'.size ≤ 9223372036854775807) :
    Calls Tryz.prog 150 #[vv k n s, vv k' n' s'] w fun e w' => e = .returned (.bool (lessB k n s k' n' s')) ∧ Gw w w' := by
  by_cases h : k = k'
  · subst h
    by_cases h2 : n = n'
    · subst h2; exact ref_less_s k n s s' w hs hs'
    · exact ref_less_n k n s n' s' w h2
  · exact ref_less_k k n s k' n' s' w h

theorem ref_compare (k n : Int) (s : ByteArray) (k' n' : Int) (s' : ByteArray) (w : World) (hs : s.size ≤ 9223372036854775807) (hs' : s'.size ≤ 9223372036854775807) :
    Calls Tryz.prog 97 #[vv k n s, vv k' n' s'] w fun e w' => e = .returned (.int .i64 (vcmp k n s k' n' s')) ∧ Gw w w' := by
  go_enter Tryz.func97, Tryz.ntmps97
  go_wp2_with fail
  refine (ref_less _ _ _ _ _ _ _ hs hs').mono ?_
  rintro e w1 ⟨rfl, g1⟩
  obtain ⟨a0, a1, a2, b0, b1, b2⟩ := g1.two3
  go_wp2_with fail
  refine (ref_less _ _ _ _ _ _ _ hs' hs).mono ?_
  rintro e w2 ⟨rfl, g2⟩
  clear a0 a1 a2 b0 b1 b2
  go_wp2_with fail
  all_goals go_ret
  all_goals exact ⟨ret_int (by first | exact cm_m1 ‹_› | exact cm_p1 ‹_› | exact cm_0 ‹_› ‹_›), (((Gw.refl _).alloc _ _).alloc _ _).trans (g1.trans g2)⟩




end Go.Proofs.YtkkfhbcnfknmaaaGreat

namespace Go.Proofs.YtkkfhbcnfknmaaaGreat
open Go.RowKit

def C1 (w : World) (b : Nat) (t : TypeId) (x : Value) : Prop := w.heap[b]? = some (.cells #[x] t (0, 0))
section
variable {w w' : World} {b : Nat} {t : TypeId} {x : Value}
theorem C1.c0 (h : C1 w b t x) : w.cell? ⟨b, 0, none⟩ = some x := by simpa using cell_of_row w b 0 _ _ (0, 0) h
theorem C1.fz (h : C1 w b t x) : w.frozen? ⟨b, 0, none⟩ = false := frozen_of_row w b 0 _ _ h
theorem C1.all (h : C1 w b t x) : w.cell? ⟨b, 0, none⟩ = some x ∧ w.frozen? ⟨b, 0, none⟩ = false := ⟨h.c0, h.fz⟩
theorem C1.set (h : C1 w b t x) (y : Value) : C1 (w.setCell ⟨b, 0, none⟩ y) b t y := by
  have := heap_setCell_same w b 0 _ _ y h
  simpa [C1] using this
theorem C1.other (h : C1 w b t x) {g o : Nat} (hg : b ≠ g) (y : Value) : C1 (w.setCell ⟨g, o, none⟩ y) b t x := (Below.heap_setCell w ⟨g, o, none⟩ y b hg).trans h
theorem C1.lt (h : C1 w b t x) : b < w.heap.size := (Array.getElem?_eq_some_iff.1 h).1
theorem C1.kp {F : Nat → Prop} (h : C1 w b t x) (hk : Kp F w w') (hF : ¬ F b) : C1 w' b t x := hk.at h hF
theorem C1.below (h : C1 w b t x) (hb : Below w.heap.size w w') : C1 w' b t x := (hb.block b h.lt).trans h
theorem C1.new (w : World) (t : TypeId) (x : Value) : C1 (w.alloc (.cells #[x] t)) w.heap.size t x := heap_alloc_new w _
theorem C1.alloc (h : C1 w b t x) (o : Obj) : C1 (w.alloc o) b t x := (Below.heap_alloc w o b h.lt).trans h
theorem C1.drew (h : C1 w b t x) : C1 w.drew b t x := h
theorem C1.own (h : C1 w b t x) {row : Option Nat} {B : Nat} (hg : w.grownBy w' row) (hr : ∀ r, row = some r → B ≤ r ∧ ∃ o : Obj, w.heap[r]? = some o ∧ o.isCells = false) : C1 w' b t x :=
  (hg.block b h.lt fun e => by
    obtain ⟨_, o, ho, hc⟩ := hr b e.symm
    rw [h] at ho
    cases ho
    cases hc).trans h
theorem C1.stored {y : Value} (h : C1 (w.setCell ⟨b, 0, none⟩ y) b t x) : C1 (w.setCell ⟨b, 0, none⟩ y) b t y := by
  have hlt := h.lt
  simp only [World.setCell, Array.size_modify] at hlt
  have := h
  simp only [C1, World.setCell, Array.getElem?_modify, if_true] at this ⊢
  rw [Array.getElem?_eq_getElem hlt] at this ⊢
  simp only [Option.map_some, Option.some.injEq] at this ⊢
  cases ho : w.heap[b] with
  | cells c e f =>
    rw [ho] at this
    simp only [Option.isSome_none, Bool.false_eq_true, if_false, Obj.cells.injEq] at this ⊢
    obtain ⟨h1, rfl, rfl⟩ := this
    have h2 : 0 < c.size := by
      have := congrArg Array.size h1
      simp at this
      omega
    have h3 := congrArg (fun A => A[0]?) h1
    simp [h2] at h3
    rw [h1, h3]
    simp
  | _ => rw [ho] at this; simp at this
theorem C1.put (h : C1 w b t x) {k : Nat} (hk : b ≠ k) (o : Obj) : C1 (w.putObj k o) b t x := (World.putObj_heap_other hk).trans h
end

end Go.Proofs.YtkkfhbcnfknmaaaGreat

namespace Go.Proofs.YtkkfhbcnfknmaaaGreat
set_option maxRecDepth 100000
open Go.RowKit

end Go.Proofs.YtkkfhbcnfknmaaaGreat

namespace Go.Proofs.YtkkfhbcnfknmaaaGreat

def sdx (s g b : Nat) : Nat := if s.testBit (dg g b) = true then cnt s (dg g b) else 0
section
variable (M : Cells) (hs : Ky → Nat) (g : Nat)
inductive Wy : Nat → Nat → List Pr → List (Nat × Nat) → List Pr → Prop
  | leaf {lv i : Nat} {l : List Pr} {c : Hc} {r : Nat} (h : LeafF M hs lv i l c r) : Wy lv i l [(i, 13)] l
  | node {lv i : Nat} {l : List Pr} {c : Hc} {r b s : Nat} {K : Nat → Nat} {L : Nat → List Pr} {d : Nat} {cl : List (Nat × Nat)} {lf : List Pr} (h : NodeF M hs lv i l c r b s K L) (hT : ∀ d, d < 32 → s.testBit d = true → HT M hs (b + 1) (K d) (L d))
    (hd : s.testBit d = true) (hx : cnt s d = sdx s g b) (hw : Wy (b + 1) (K d) (L d) cl lf) : Wy lv i l ((i, b) :: cl) lf
inductive Wp (k : Ky) : Nat → Nat → List Pr → List (Nat × Nat) → Nat → Nat → List Pr → Prop
  | nil {lv i : Nat} {l : List Pr} (h : HT M hs lv i l) : Wp k lv i l [] lv i l
  | cons {lv i : Nat} {l : List Pr} {c : Hc} {r b s : Nat} {K : Nat → Nat} {L : Nat → List Pr} {cl : List (Nat × Nat)} {lvj j : Nat} {lj : List Pr} (h : NodeF M hs lv i l c r b s K L) (hT : ∀ d, d < 32 → s.testBit d = true → HT M hs (b + 1) (K d) (L d))
    (hd : s.testBit (dg (hs k) b) = true) (ha : ∀ q ∈ l, ∀ x, x < b → dg (hs k) x = dg (hs q.1) x) (hw : Wp k (b + 1) (K (dg (hs k) b)) (L (dg (hs k) b)) cl lvj j lj) : Wp k lv i l ((i, b) :: cl) lvj j lj
end
section
variable {M M' : Cells} {hs : Ky → Nat} {g lv i : Nat} {l lf : List Pr} {cl : List (Nat × Nat)}
theorem Wy.ht (h : Wy M hs g lv i l cl lf) : HT M hs lv i l := by
  cases h with
  | leaf h => exact .leaf h
  | node h hT => exact .node h hT
theorem Wy.sub (h : Wy M hs g lv i l cl lf) : ∀ q ∈ lf, q ∈ l := by
  induction h with
  | leaf h => exact fun _ h => h
  | @node lv i l c r b s K L d cl lf h hT hd hx hw ih =>
    intro q hq
    rw [h.eq]
    exact mem_joinL.2 ⟨d, bit_lt h.s32 hd, ih q hq⟩
theorem Wy.ne (h : Wy M hs g lv i l cl lf) : lf ≠ [] := by
  induction h with
  | leaf h => exact h.ne
  | node _ _ _ _ _ ih => exact ih
theorem Wy.leafF (h : Wy M hs g lv i l cl lf) : ∃ lv' j c r, LeafF M hs lv' j lf c r ∧ cl.getLast? = some (j, 13) := by
  induction h with
  | @leaf lv i l c r h => exact ⟨lv, i, c, r, h, rfl⟩
  | @node lv i l c r b s K L d cl lf h hT hd hx hw ih =>
    obtain ⟨lv', j, c', r', h1, h2⟩ := ih
    refine ⟨lv', j, c', r', h1, ?_⟩
    rw [List.getLast?_cons, h2]
    rfl
theorem Wy.look {p : Pr} (hg : hs p.1 = g) (h : Wy M hs g lv i l cl lf) (hp : p ∈ l) : p ∈ lf := by
  induction h with
  | leaf h => exact hp
  | @node lv i l c r b s K L d cl lf h hT hd hx hw ih =>
    have h1 := h.mem.1 hp
    rw [hg] at h1
    have hb := h.bit h1
    have e : d = dg g b := by
      unfold sdx at hx
      rw [if_pos hb] at hx
      exact cnt_inj hd hb hx
    exact ih (by rw [e]; exact h1)
theorem Wy.has {k : Ky} (hg : hs k = g) (h : Wy M hs g lv i l cl lf) : hasN k lf = true ↔ ∃ q ∈ l, q.1 = k := by
  obtain ⟨_, _, _, _, hl, _⟩ := h.leafF
  rw [hasN_iff hl.so]
  constructor
  · rintro ⟨q, hq, e⟩
    exact ⟨q, h.sub q hq, e⟩
  · rintro ⟨q, hq, e⟩
    exact ⟨q, h.look (by rw [e]; exact hg) hq, e⟩
theorem Wy.split {k : Ky} {near : Pr} {level : Nat} (h : Wy M hs (hs k) lv i l cl lf) (hn : near ∈ lf) (hl : level ≤ pt (hs near.1) (hs k)) :
    ∃ pre post lvj j lj, cl = pre ++ post ∧ Wp M hs k lv i l pre lvj j lj ∧ Wy M hs (hs k) lvj j lj post lf ∧ (∀ x ∈ pre, x.2 < level) ∧ ∃ y rest, post = y :: rest ∧ level ≤ y.2 := by
  have h13 := pt_le (hs near.1) (hs k)
  induction h with
  | leaf h => exact ⟨[], _, _, _, _, rfl, .nil (.leaf h), .leaf h, fun x hx => (by cases hx), _, _, rfl, (by show level ≤ 13; omega)⟩
  | @node lv i l c r b s K L d cl lf h hT hd hx hw ih =>
    by_cases hb : b < level
    · have hnl : near ∈ L d := hw.sub near hn
      have hdd : d = dg (hs k) b := by
        rw [← h.dig d near hnl]
        exact pt_eq (by omega)
      obtain ⟨pre, post, lvj, j, lj, e1, e2, e3, e4, e5⟩ := ih hn
      subst hdd
      have hnl' : near ∈ l := by rw [h.eq]; exact mem_joinL.2 ⟨_, dg_lt _ _, hnl⟩
      refine ⟨(i, b) :: pre, post, lvj, j, lj, by rw [e1]; rfl, .cons h hT hd (fun q hq x hx => ?_) e2, e3, fun x hx => ?_, e5⟩
      · rw [← pt_eq (show x < pt (hs near.1) (hs k) by omega)]
        exact h.agr near hnl' q hq x hx
      · rcases List.mem_cons.1 hx with rfl | hx
        · exact hb
        · exact e4 x hx
    · exact ⟨[], _, _, _, _, rfl, .nil (.node h hT), .node h hT hd hx hw, fun x hx => (by cases hx), _, _, rfl, (by show level ≤ b; omega)⟩
end

end Go.Proofs.YtkkfhbcnfknmaaaGreat

namespace Go.Proofs.YtkkfhbcnfknmaaaGreat
set_option maxRecDepth 100000
open Go.RowKit

end Go.Proofs.YtkkfhbcnfknmaaaGreat

namespace Go.Proofs.YtkkfhbcnfknmaaaGreat
set_option maxRecDepth 100000
open Go.RowKit

theorem vsound_leaf (o s : Int) (A1 A2 : Option Addr) (n1 c1 n2 c2 : Nat) (w : World) (hn : 0 < n1) :
    Calls Tryz.prog 157 #[cagg o s 13 (.slice A1 n1 c1) (.slice A2 n2 c2)] w fun e w' => e = .returned (.bool true) ∧ Below w.heap.size w w' := by
  have HB := Lib.hid ((Below.refl w.heap.size w).alloc (Nat.le_refl _) (.cells #[.int .u32 o, .int .u32 s, .int .u32 13, .slice A1 n1 c1, .slice A2 n2 c2] 94))
  have hn' : (0 : Int) < (n1 : Int) := by omega
  go_enter Tryz.func157, Tryz.ntmps157
  go_wp2_with fail
  go_ret
  exact ⟨rfl, HB.out⟩
set_option maxHeartbeats 1600000 in
theorem vsound_node (o : Int) (s b : Nat) (A1 A2 : Option Addr) (n1 c1 n2 c2 : Nat) (w : World) (hs : s < 4294967296) (hb : b < 13) (h2 : 2 ≤ n2) (hn : n2 = cnt s 32) :
    Calls Tryz.prog 157 #[cagg o (s : Nat) (b : Nat) (.slice A1 n1 c1) (.slice A2 n2 c2)] w fun e w' => e = .returned (.bool true) ∧ Below w.heap.size w w' := by
  have hb1 : Below w.heap.size w (w.alloc (.cells #[.int .u32 o, .int .u32 (s : Nat), .int .u32 (b : Nat), .slice A1 n1 c1, .slice A2 n2 c2] 94)) := (Below.refl w.heap.size w).alloc (Nat.le_refl _) _
  have q := C5.new w 94 (.int .u32 o) (.int .u32 (s : Nat)) (.int .u32 (b : Nat)) (.slice A1 n1 c1) (.slice A2 n2 c2)
  have HL := Lib.hid (len s hs)
  rw [← hn] at HL
  have hb' : (b : Int) < 13 := by omega
  have h2' : (1 : Int) < (n2 : Int) := by omega
  clear hn
  go_enter Tryz.func157, Tryz.ntmps157
  go_upto_region 2 with fail
  generalize w.alloc (.cells #[.int .u32 o, .int .u32 (s : Nat), .int .u32 (b : Nat), .slice A1 n1 c1, .slice A2 n2 c2] 94) = w1 at q hb1 ⊢
  have HB := Lib.hid hb1
  obtain ⟨z, hz⟩ : ∃ z, z = w.heap.size := ⟨_, rfl⟩
  rw [← hz] at q ⊢
  have HQ := Lib.hid q
  have s0 : ∀ W', Below w1.heap.size w1 W' → W'.cell? ⟨z, 1, none⟩ = some (.int .u32 (s : Nat)) := fun W' h => (HQ.out.below h).c1
  have s1 : ∀ W', Below w1.heap.size w1 W' → W'.cell? ⟨z, 4, none⟩ = some (.slice A2 n2 c2) := fun W' h => (HQ.out.below h).c4
  clear hb1 q hz
  refine wp_region_noPanic ?_
  go_region_held (fun W' => Below w1.heap.size w1 W') (first | with_reducible assumption | exact (Below.refl _ _).drew)
    ((go_at_call 187; refine (HL.out _).mono ?_; rintro e w2 ⟨rfl, gw⟩; have hbn : Below w1.heap.size w1 w2 := (Below.refl _ _).drew.trans (gw.below.mono (Nat.le_refl _))))
  refine NoPanic.normal ?_
  go_wp2_with fail
  go_ret
  exact ⟨rfl, HB.out.trans (hbn.mono HB.out.size)⟩

abbrev land (b bh : Nat) : Value := .agg #[ap b, .pointer (some ⟨bh, 0, none⟩)]
def Sound (c : Hc) : Prop := ∀ (A1 A2 : Option Addr) (c1 c2 : Nat) (w : World), Calls Tryz.prog 157 #[cagg c.owner c.a c.b (.slice A1 c.vals.length c1) (.slice A2 c.kids.length c2)] w fun e w' => e = .returned (.bool true) ∧ Below w.heap.size w w'
theorem LeafF.sound {M : Cells} {hs : Ky → Nat} {lv i : Nat} {l : List Pr} {c : Hc} {r : Nat} (h : LeafF M hs lv i l c r) : Sound c := fun A1 A2 c1 c2 w => by
  rw [h.cb]
  refine vsound_leaf c.owner c.a A1 A2 _ c1 _ c2 w ?_
  rw [h.vals, flatP_length]
  have := List.length_pos_iff.2 h.ne
  omega
theorem NodeF.sound {M : Cells} {hs : Ky → Nat} {lv i : Nat} {l : List Pr} {c : Hc} {r b s : Nat} {K : Nat → Nat} {L : Nat → List Pr} (h : NodeF M hs lv i l c r b s K L) : Sound c := fun A1 A2 c1 c2 w => by
  rw [h.cb, h.ca]
  exact vsound_node c.owner s b A1 A2 _ c1 _ c2 w h.s32 h.b13 (by rw [h.len]; exact h.two) h.len
section
variable {b most : Nat} {M : Cells} {F : Nat → Prop}
end

end Go.Proofs.YtkkfhbcnfknmaaaGreat

namespace Go.Proofs.YtkkfhbcnfknmaaaGreat
set_option maxRecDepth 100000
open Go.RowKit

structure Wv where
  b : Nat
  bh : Nat
  ow : Int
  g : Nat
  root : Nat
  A4 : Option Addr
  n4 : Nat
  c4 : Nat
  A5 : Option Addr
  n5 : Nat
  c5 : Nat
  A6 : Option Addr
  n6 : Nat
  c6 : Nat
  at' : Nat
  has : Bool
abbrev wcells (x : Wv) : Array Value := #[ap x.b, .pointer (some ⟨x.bh, 0, none⟩), .int .u32 x.ow, .int .u64 x.g, .int .i64 x.root, .slice x.A4 x.n4 x.c4, .slice x.A5 x.n5 x.c5, .slice x.A6 x.n6 x.c6, .int .i64 x.at', .bool x.has]
def WC (w : World) (z : Nat) (x : Wv) : Prop := w.heap[z]? = some (.cells (wcells x) 124 (0, 0))
section
variable {w w' : World} {z : Nat} {x : Wv}
theorem WC.at {i : Nat} {u : Value} (h : WC w z x) (hi : (wcells x)[i]? = some u) : w.cell? ⟨z, i, none⟩ = some u := by
  have := cell_of_row w z i _ _ (0, 0) h
  rw [this]
  exact hi
theorem WC.lt (h : WC w z x) : z < w.heap.size := (Array.getElem?_eq_some_iff.1 h).1
theorem WC.below (h : WC w z x) (hb : Below w.heap.size w w') : WC w' z x := (hb.block z h.lt).trans h
theorem WC.kp {F : Nat → Prop} (h : WC w z x) (hk : Kp F w w') (hF : ¬ F z) : WC w' z x := hk.at h hF
theorem WC.new (w : World) (x : Wv) : WC (w.alloc (.cells (wcells x) 124)) w.heap.size x := heap_alloc_new w _
theorem WC.alloc (h : WC w z x) (o : Obj) : WC (w.alloc o) z x := (Below.heap_alloc w o z h.lt).trans h
end
section
end

end Go.Proofs.YtkkfhbcnfknmaaaGreat

namespace Go.Proofs.YtkkfhbcnfknmaaaGreat
set_option maxRecDepth 100000
open Go.RowKit

theorem WC.all {w : World} {z : Nat} {x : Wv} (h : WC w z x) : w.cell? ⟨z, 0, none⟩ = some (ap x.b) ∧ w.cell? ⟨z, 1, none⟩ = some (.pointer (some ⟨x.bh, 0, none⟩)) ∧ w.cell? ⟨z, 2, none⟩ = some (.int .u32 x.ow) ∧ w.cell? ⟨z, 3, none⟩ = some (.int .u64 x.g) ∧ w.cell? ⟨z, 4, none⟩ = some (.int .i64 x.root) ∧ w.cell? ⟨z, 5, none⟩ = some (.slice x.A4 x.n4 x.c4) ∧ w.cell? ⟨z, 6, none⟩ = some (.slice x.A5 x.n5 x.c5) ∧ w.cell? ⟨z, 7, none⟩ = some (.slice x.A6 x.n6 x.c6) ∧ w.cell? ⟨z, 8, none⟩ = some (.int .i64 x.at') ∧ w.cell? ⟨z, 9, none⟩ = some (.bool x.has) :=
  ⟨h.at rfl, h.at rfl, h.at rfl, h.at rfl, h.at rfl, h.at rfl, h.at rfl, h.at rfl, h.at rfl, h.at rfl⟩
section
end

end Go.Proofs.YtkkfhbcnfknmaaaGreat

namespace Go.Proofs.YtkkfhbcnfknmaaaGreat
set_option maxRecDepth 100000
open Go.RowKit
section
end

end Go.Proofs.YtkkfhbcnfknmaaaGreat

namespace Go.Proofs.YtkkfhbcnfknmaaaGreat
set_option maxRecDepth 100000
open Go.RowKit
section
end

end Go.Proofs.YtkkfhbcnfknmaaaGreat

namespace Go.Proofs.YtkkfhbcnfknmaaaGreat
set_option maxRecDepth 100000
open Go.RowKit
theorem Rd.pair (w : World) (k v : V3) (t : TypeId) (b : Nat) (hb : b = w.heap.size) : Rd (w.alloc (.cells #[.int .u8 k.1, .int .i64 k.2.1, .string k.2.2, .int .u8 v.1, .int .i64 v.2.1, .string v.2.2] t)) (.slice (some ⟨b, 0, none⟩) 2 2) 2 ([k, v].flatMap cells3) := by
  subst hb
  refine .inr ⟨_, 0, 2, rfl, Nat.le_refl _, fun j u hu => ?_⟩
  match j, hu with
  | 0, hu => simp [cells3] at hu; subst hu; simp [go_sem]
  | 1, hu => simp [cells3] at hu; subst hu; simp [go_sem]
  | 2, hu => simp [cells3] at hu; subst hu; simp [go_sem]
  | 3, hu => simp [cells3] at hu; subst hu; simp [go_sem]
  | 4, hu => simp [cells3] at hu; subst hu; simp [go_sem]
  | 5, hu => simp [cells3] at hu; subst hu; simp [go_sem]
  | j + 6, hu => simp [cells3] at hu
section
end

end Go.Proofs.YtkkfhbcnfknmaaaGreat

namespace Go.Proofs.YtkkfhbcnfknmaaaGreat
open Go.RowKit

def kI (W : World) (g m : Nat) : Int := match W.cell? ⟨g, m, none⟩ with
  | some (.int _ u) => u
  | _ => 0
structure Sk (W : World) (z5 z6 z4 zn zf gk m n : Nat) (x : Wv) (o ca cb : Int) (v k fn : Value) : Prop where
  box : C5 W z5 94 (.int .u32 o) (.int .u32 ca) (.int .u32 cb) v k
  out : C5 W z6 94 (.int .u32 0) (.int .u32 0) (.int .u32 0) (.slice none 0 0) (.slice none 0 0)
  wy : WC W z4 x
  cn : W.cell? ⟨zn, 0, none⟩ = some (.int .i64 (n : Int))
  cf : W.cell? ⟨zf, 0, none⟩ = some fn
  kc : W.cell? ⟨gk, m, none⟩ = some (.int .i64 (kI W gk m))
  kf : W.frozen? ⟨gk, m, none⟩ = false
  ne : gk ≠ z5 ∧ gk ≠ z6 ∧ gk ≠ z4 ∧ gk ≠ zn ∧ gk ≠ zf
theorem Sk.drew {W : World} {z5 z6 z4 zn zf gk m n : Nat} {x : Wv} {o ca cb : Int} {v k fn : Value} (h : Sk W z5 z6 z4 zn zf gk m n x o ca cb v k fn) : Sk W.drew z5 z6 z4 zn zf gk m n x o ca cb v k fn := ⟨h.box, h.out, h.wy, h.cn, h.cf, h.kc, h.kf, h.ne⟩
theorem Sk.store {W : World} {z5 z6 z4 zn zf gk m n : Nat} {x : Wv} {o ca cb : Int} {v k fn : Value} (h : Sk W z5 z6 z4 zn zf gk m n x o ca cb v k fn) (u : Int) : Sk (W.setCell ⟨gk, m, none⟩ (.int .i64 u)) z5 z6 z4 zn zf gk m n x o ca cb v k fn := by
  have far : ∀ z y, gk ≠ z → W.cell? ⟨z, 0, none⟩ = some y → (W.setCell ⟨gk, m, none⟩ (.int .i64 u)).cell? ⟨z, 0, none⟩ = some y := fun z y hz hy => (World.cell?_setCell_other _ _ _ _ (fun e => hz (by injection e))).trans hy
  have hk := World.cell?_setCell_same W ⟨gk, m, none⟩ (.int .i64 u) h.kc
  exact ⟨h.box.other h.ne.1.symm _, h.out.other h.ne.2.1.symm _, (Below.heap_setCell W ⟨gk, m, none⟩ (.int .i64 u) z4 (fun e => h.ne.2.2.1 e.symm)).trans h.wy, far _ _ h.ne.2.2.2.1 h.cn, far _ _ h.ne.2.2.2.2 h.cf, by unfold kI; rw [hk], (World.frozen?_setCell _ _ _ _).trans h.kf, h.ne⟩

section
variable {most : Nat} {M1 : Cells} {F : Nat → Prop}
end
end Go.Proofs.YtkkfhbcnfknmaaaGreat

namespace Go.Proofs.YtkkfhbcnfknmaaaGreat
set_option maxRecDepth 100000
open Go.RowKit

section
end

end Go.Proofs.YtkkfhbcnfknmaaaGreat

namespace Go.Proofs.YtkkfhbcnfknmaaaGreat

end Go.Proofs.YtkkfhbcnfknmaaaGreat

namespace Go.Proofs.YtkkfhbcnfknmaaaGreat
open Go.RowKit

end Go.Proofs.YtkkfhbcnfknmaaaGreat

namespace Go.Proofs.YtkkfhbcnfknmaaaGreat
set_option maxRecDepth 100000
open Go.RowKit
section
end

end Go.Proofs.YtkkfhbcnfknmaaaGreat

namespace Go.Proofs.YtkkfhbcnfknmaaaGreat
open Go.RowKit

end Go.Proofs.YtkkfhbcnfknmaaaGreat

namespace Go.Proofs.YtkkfhbcnfknmaaaGreat
open Go.RowKit

theorem ChgS.mono {f : FuncId} {caps : Array Value} {b most : Nat} {F : Nat → Prop} {w : World} {M1 : Cells} {c : Hc} {R R' : Hc → Cells → Prop} (h : ChgS f caps b most F w M1 c R) (hR : ∀ c' M2, R c' M2 → R' c' M2) : ChgS f caps b most F w M1 c R' := by
  intro o v k W F1 h1 h2 h3 h4 h5
  refine (h o v k W F1 h1 h2 h3 h4 h5).mono ?_
  rintro e W' ⟨v', k', c', M2, F2, a1, a2, a3, a4, a5, a6, a7⟩
  exact ⟨v', k', c', M2, F2, a1, a2, a3, a4, a5, a6, hR _ _ a7⟩
section
variable {b most : Nat} {M : Cells} {F : Nat → Prop} {P : Nat → Nat}
theorem bk_rf {hs : List Nat} (hm : most ≤ 1048576) (hP : ∀ j, P j ≤ 576460752303423488) (hb : Bk (most + 1) M [] P hs) (hl : hs.length ≤ 64) (j : Nat) : rf (M j) ≤ 4611686018420000000 := by
  have h1 := hb.rfb j
  have h2 := hP j
  have h3 : hs.count j ≤ 64 := Nat.le_trans List.count_le_length hl
  have h4 : (most + 1) * 64 ≤ 1048577 * 64 := Nat.mul_le_mul_right _ (by omega)
  omega
end

end Go.Proofs.YtkkfhbcnfknmaaaGreat

namespace Go.Proofs.YtkkfhbcnfknmaaaGreat
set_option maxRecDepth 100000
open Go.RowKit

section
end

end Go.Proofs.YtkkfhbcnfknmaaaGreat

namespace Go.Proofs.YtkkfhbcnfknmaaaGreat
set_option maxRecDepth 100000


open Go.RowKit
structure Q3S (W : World) (zw zk zv zc : Nat) (x : Wv) (k v : Ky) (o ca cb : Int) (V K : Value) : Prop where
  wy : WC W zw x
  ck : C3 W zk 36 (.int .u8 k.1) (.int .i64 k.2.1) (.string k.2.2)
  cv : C3 W zv 36 (.int .u8 v.1) (.int .i64 v.2.1) (.string v.2.2)
  cc : C5 W zc 94 (.int .u32 o) (.int .u32 ca) (.int .u32 cb) V K
theorem Q3S.kp {W W' : World} {zw zk zv zc : Nat} {x : Wv} {k v : Ky} {o ca cb : Int} {V K : Value} {G : Nat → Prop} (h : Q3S W zw zk zv zc x k v o ca cb V K) (hk : Kp G W W') (hn : ¬ G zw ∧ ¬ G zk ∧ ¬ G zv ∧ ¬ G zc) : Q3S W' zw zk zv zc x k v o ca cb V K :=
  ⟨h.wy.kp hk hn.1, h.ck.kp hk hn.2.1, h.cv.kp hk hn.2.2.1, h.cc.kp hk hn.2.2.2⟩
section
variable {b most : Nat} {M1 : Cells} {F : Nat → Prop}
end

end Go.Proofs.YtkkfhbcnfknmaaaGreat

namespace Go.Proofs.YtkkfhbcnfknmaaaGreat
set_option maxRecDepth 100000
open Go.RowKit
section
variable {most : Nat} {M : Cells} {F : Nat → Prop}
end

end Go.Proofs.YtkkfhbcnfknmaaaGreat

namespace Go.Proofs.YtkkfhbcnfknmaaaGreat
set_option maxRecDepth 100000
open Go.RowKit
section
variable {most : Nat} {M : Cells} {F : Nat → Prop}
end

end Go.Proofs.YtkkfhbcnfknmaaaGreat

namespace Go.Proofs.YtkkfhbcnfknmaaaGreat
set_option maxRecDepth 100000
open Go.RowKit
section
variable {b most : Nat} {M : Cells} {F : Nat → Prop}
end

section
variable {b most : Nat} {M : Cells} {F : Nat → Prop}
end

section
variable {b most : Nat} {M : Cells} {F : Nat → Prop} {H : List Nat} {P : Nat → Nat}
end


end Go.Proofs.YtkkfhbcnfknmaaaGreat

namespace Go.Proofs.YtkkfhbcnfknmaaaGreat
open Go.RowKit

end Go.Proofs.YtkkfhbcnfknmaaaGreat

namespace Go.Proofs.YtkkfhbcnfknmaaaGreat
set_option maxRecDepth 100000
open Go.RowKit
structure Q4S (W : World) (zw zc g m n cp : Nat) (x : Wv) (o ca cb : Int) (V : Value) (kid : Nat) : Prop where
  wy : WC W zw x
  cc : C5 W zc 94 (.int .u32 o) (.int .u32 ca) (.int .u32 cb) V (.slice (some ⟨g, 0, none⟩) n cp)
  kid : W.cell? ⟨g, m, none⟩ = some (.int .i64 (kid : Int))
structure Q5S (W : World) (zw zc : Nat) (x : Wv) (cb : Int) : Prop where
  wy : WC W zw x
  cc : ∃ o a V K, C5 W zc 94 o a (.int .u32 cb) V K
theorem Q5S.kp {W W' : World} {zw zc : Nat} {x : Wv} {cb : Int} {G : Nat → Prop} (h : Q5S W zw zc x cb) (hk : Kp G W W') (hn : ¬ G zw ∧ ¬ G zc) : Q5S W' zw zc x cb := by
  obtain ⟨o, a, V, K, hc⟩ := h.cc
  exact ⟨h.wy.kp hk hn.1, o, a, V, K, hc.kp hk hn.2⟩
theorem Q5S.set {W : World} {zw zc : Nat} {x : Wv} {cb : Int} (h : Q5S W zw zc x cb) (hne : zw ≠ zc) (u : Value) : Q5S (W.setCell ⟨zc, 1, none⟩ u) zw zc x cb := by
  obtain ⟨o, a, V, K, hc⟩ := h.cc
  exact ⟨(Below.heap_setCell W ⟨zc, 1, none⟩ u zw hne).trans h.wy, o, u, V, K, hc.set1 u⟩
section
variable {most : Nat} {M1 : Cells} {F : Nat → Prop}
end

end Go.Proofs.YtkkfhbcnfknmaaaGreat

namespace Go.Proofs.YtkkfhbcnfknmaaaGreat
set_option maxRecDepth 100000
open Go.RowKit
section
variable {b most : Nat} {M : Cells} {F : Nat → Prop}
end

end Go.Proofs.YtkkfhbcnfknmaaaGreat

namespace Go.Proofs.YtkkfhbcnfknmaaaGreat
open Go.RowKit

def mixA (n : Nat) : Nat := (n ^^^ n / 1073741824) * 13787848793156543929 % 18446744073709551616
def mixB (n : Nat) : Nat := (n ^^^ n / 134217728) * 10723151780598845931 % 18446744073709551616
def mixC (n : Nat) : Nat := n ^^^ n / 2147483648
def mixN (n : Nat) : Nat := mixC (mixB (mixA n))

theorem mixA_lt (n : Nat) : mixA n < 18446744073709551616 := Nat.mod_lt _ (by decide)
theorem mixB_lt (n : Nat) : mixB n < 18446744073709551616 := Nat.mod_lt _ (by decide)
theorem mixC_lt {n : Nat} (h : n < 18446744073709551616) : mixC n < 18446744073709551616 :=
  Nat.xor_lt_two_pow (n := 64) h (Nat.lt_of_le_of_lt (Nat.div_le_self _ _) h)
theorem mixN_lt (n : Nat) : mixN n < 18446744073709551616 := mixC_lt (mixB_lt _)

def keyN (seed : Nat) : Nat := mixN ((seed + 11400714819323198485) % 18446744073709551616)
theorem keyN_lt (seed : Nat) : keyN seed < 18446744073709551616 := mixN_lt _

theorem mixA_run {n : Nat} (hn : n < 18446744073709551616) : IntKind.u64.wrap (bits .xor .u64 (n : Int) ((n : Int) / 1073741824) * 13787848793156543929) = ((mixA n : Nat) : Int) := mixStep_u64 n 1073741824 13787848793156543929 hn
theorem mixB_run {n : Nat} (hn : n < 18446744073709551616) : IntKind.u64.wrap (bits .xor .u64 (n : Int) ((n : Int) / 134217728) * 10723151780598845931) = ((mixB n : Nat) : Int) := mixStep_u64 n 134217728 10723151780598845931 hn
theorem mixC_run {n : Nat} (hn : n < 18446744073709551616) : bits .xor .u64 (n : Int) ((n : Int) / 2147483648) = ((mixC n : Nat) : Int) := xorShift_u64 n 2147483648 hn

theorem mix (n : Nat) (hn : n < 18446744073709551616) (w : World) : Calls Tryz.prog 156 #[.int .u64 n] w fun e w' => e = .returned (.int .u64 (mixN n)) ∧ w = w' := by
  go_enter Tryz.func156, Tryz.ntmps156
  go_wp2
  go_ret
  exact ⟨ret_int (by rw [mixA_run hn, mixB_run (mixA_lt n), mixC_run (mixB_lt _)]; rfl), rfl⟩

end Go.Proofs.YtkkfhbcnfknmaaaGreat
