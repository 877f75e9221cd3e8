/- Several texts in one. -/
import GoSem.Claim
import Derived.Laws.StructEq
import Derived.Laws.BitsAllLaws
import Derived.Lib.BitFns
/- Plain mathematics of layer 1: the order of numbers, of strings of bytes, and of values (kind, number, bytes). -/
namespace Go.Proofs.YtacoingheieceaaGreat

/-- -1, 0, 1: of numbers. -/
def icmp (a b : Int) : Int := if a < b then -1 else if b < a then 1 else 0
/-- -1, 0, 1: of bytes. -/
def lcmp : List UInt8 → List UInt8 → Int
  | [], [] => 0
  | [], _ :: _ => -1
  | _ :: _, [] => 1
  | a :: x, b :: y => if a < b then -1 else if b < a then 1 else lcmp x y
/-- of values. -/
def vcmp (k n : Int) (s : ByteArray) (k' n' : Int) (s' : ByteArray) : Int :=
  if k = k' then (if n = n' then lcmp s.toList s'.toList else icmp n n') else icmp k k'

theorem icmp_range (a b : Int) : -1 ≤ icmp a b ∧ icmp a b ≤ 1 := by unfold icmp; split <;> (try split) <;> omega
theorem icmp_swap (a b : Int) : icmp b a = - icmp a b := by unfold icmp; split <;> (try split) <;> (try split) <;> omega
theorem icmp_zero (a b : Int) : icmp a b = 0 ↔ a = b := by unfold icmp; split <;> (try split) <;> omega
theorem icmp_lt (a b : Int) : icmp a b = -1 ↔ a < b := by unfold icmp; split <;> (try split) <;> omega

theorem u8_ext (a b : UInt8) (h1 : ¬ a < b) (h2 : ¬ b < a) : a = b := by
  rw [UInt8.lt_iff_toNat_lt] at h1 h2
  exact UInt8.toNat_inj.1 (by omega)
theorem u8_irrefl (a : UInt8) : ¬ a < a := by rw [UInt8.lt_iff_toNat_lt]; omega

theorem lcmp_range : ∀ a b : List UInt8, -1 ≤ lcmp a b ∧ lcmp a b ≤ 1
  | [], [] => by simp [lcmp]
  | [], _ :: _ => by simp [lcmp]
  | _ :: _, [] => by simp [lcmp]
  | a :: x, b :: y => by rw [lcmp]; split <;> (try split) <;> first | omega | exact lcmp_range x y
theorem lcmp_swap : ∀ a b : List UInt8, lcmp b a = - lcmp a b
  | [], [] => by simp [lcmp]
  | [], _ :: _ => by simp [lcmp]
  | _ :: _, [] => by simp [lcmp]
  | a :: x, b :: y => by
    have ih := lcmp_swap x y
    rw [lcmp, lcmp]
    by_cases h1 : a < b
    · have h2 : ¬ b < a := by rw [UInt8.lt_iff_toNat_lt] at *; omega
      simp [h1, h2]
    · by_cases h2 : b < a <;> simp [h1, h2, ih]
theorem lcmp_zero : ∀ a b : List UInt8, lcmp a b = 0 ↔ a = b
  | [], [] => by simp [lcmp]
  | [], _ :: _ => by simp [lcmp]
  | _ :: _, [] => by simp [lcmp]
  | a :: x, b :: y => by
    have ih := lcmp_zero x y
    rw [lcmp]
    by_cases h1 : a < b
    · have : a ≠ b := fun e => u8_irrefl b (by rwa [e] at h1)
      simp [h1, this]
    · by_cases h2 : b < a
      · have : a ≠ b := fun e => u8_irrefl b (by rwa [e] at h2)
        simp [h1, h2, this]
      · simp [ih, u8_ext a b h1 h2]
theorem lcmp_less : ∀ a b : List UInt8, Op.bytesLess a b = decide (lcmp a b = -1)
  | [], [] => by simp [lcmp, Op.bytesLess]
  | [], _ :: _ => by simp [lcmp, Op.bytesLess]
  | _ :: _, [] => by simp [lcmp, Op.bytesLess]
  | a :: x, b :: y => by
    have ih := lcmp_less x y
    rw [lcmp, Op.bytesLess]
    by_cases h1 : a < b
    · simp [h1]
    · by_cases h2 : b < a
      · have : a ≠ b := fun e => u8_irrefl b (by rwa [e] at h2)
        simp [h1, h2, this]
      · simp [ih, u8_ext a b h1 h2]
theorem lcmp_trans : ∀ a b c : List UInt8, lcmp a b ≤ 0 → lcmp b c ≤ 0 → lcmp a c ≤ 0 ∧ (lcmp a c = 0 → lcmp a b = 0 ∧ lcmp b c = 0)
  | [], [], [] => by simp [lcmp]
  | [], [], _ :: _ => by simp [lcmp]
  | [], _ :: _, [] => by simp [lcmp]
  | [], _ :: _, _ :: _ => by simp [lcmp]
  | _ :: _, [], _ => by simp [lcmp]
  | _ :: _, _ :: _, [] => by simp [lcmp]
  | a :: x, b :: y, c :: z => by
    have ih := lcmp_trans x y z
    rw [lcmp, lcmp, lcmp]
    simp only [UInt8.lt_iff_toNat_lt]
    generalize a.toNat = a
    generalize b.toNat = b
    generalize c.toNat = c
    intro h1 h2
    repeat' split at h1
    all_goals repeat' split at h2
    all_goals repeat' split
    all_goals first | omega | exact ih h1 h2

theorem icmp_m1 {a b : Int} (h : a < b) : -1 = icmp a b := by simp [icmp, h]
theorem icmp_p1 {a b : Int} (h : b < a) : 1 = icmp a b := by unfold icmp; rw [if_neg (by omega), if_pos h]
theorem icmp_0 {a b : Int} (h : b ≤ a) (h' : a ≤ b) : 0 = icmp a b := by unfold icmp; rw [if_neg (by omega), if_neg (by omega)]
theorem lcmp_m1 {a b : List UInt8} (h : Op.bytesLess a b = true) : -1 = lcmp a b := by rw [lcmp_less] at h; exact (of_decide_eq_true h).symm
theorem lcmp_p1 {a b : List UInt8} (h : Op.bytesLess a b = false) (h' : (!a == b) = true) : 1 = lcmp a b := by
  rw [lcmp_less] at h
  have h1 := of_decide_eq_false h
  have h2 : ¬ lcmp a b = 0 := fun e => by rw [(lcmp_zero a b).1 e] at h'; simp at h'
  have := lcmp_range a b
  omega
theorem lcmp_0 {a b : List UInt8} (h' : (!a == b) = false) : 0 = lcmp a b := by
  have : a = b := by simpa using h'
  exact ((lcmp_zero a b).2 this).symm

theorem vcmp_range (k n : Int) (s : ByteArray) (k' n' : Int) (s' : ByteArray) : -1 ≤ vcmp k n s k' n' s' ∧ vcmp k n s k' n' s' ≤ 1 := by
  unfold vcmp; split <;> (try split)
  · exact lcmp_range _ _
  · exact icmp_range _ _
  · exact icmp_range _ _
theorem vcmp_swap (k n : Int) (s : ByteArray) (k' n' : Int) (s' : ByteArray) : vcmp k' n' s' k n s = - vcmp k n s k' n' s' := by
  unfold vcmp
  by_cases h1 : k = k'
  · by_cases h2 : n = n'
    · simp [h1, h2, lcmp_swap s.toList]
    · simp [h1, h2, Ne.symm h2, icmp_swap n]
  · simp [h1, Ne.symm h1, icmp_swap k]
theorem vcmp_zero (k n : Int) (s : ByteArray) (k' n' : Int) (s' : ByteArray) : vcmp k n s k' n' s' = 0 ↔ k = k' ∧ n = n' ∧ s.toList = s'.toList := by
  unfold vcmp
  by_cases h1 : k = k'
  · by_cases h2 : n = n'
    · simp [h1, h2, lcmp_zero]
    · simp [h1, h2, icmp_zero]
  · simp [h1, icmp_zero]
theorem vcmp_self (k n : Int) (s : ByteArray) : vcmp k n s k n s = 0 := (vcmp_zero _ _ _ _ _ _).2 ⟨rfl, rfl, rfl⟩
theorem icmp_trans (a b c : Int) : icmp a b ≤ 0 → icmp b c ≤ 0 → icmp a c ≤ 0 ∧ (icmp a c = 0 → icmp a b = 0 ∧ icmp b c = 0) := by
  unfold icmp; intro h1 h2
  repeat' split at h1
  all_goals repeat' split at h2
  all_goals repeat' split
  all_goals omega
theorem vcmp_trans (k1 n1 : Int) (s1 : ByteArray) (k2 n2 : Int) (s2 : ByteArray) (k3 n3 : Int) (s3 : ByteArray) :
    vcmp k1 n1 s1 k2 n2 s2 ≤ 0 → vcmp k2 n2 s2 k3 n3 s3 ≤ 0 → vcmp k1 n1 s1 k3 n3 s3 ≤ 0 ∧ (vcmp k1 n1 s1 k3 n3 s3 = 0 → vcmp k1 n1 s1 k2 n2 s2 = 0 ∧ vcmp k2 n2 s2 k3 n3 s3 = 0) := by
  have e1 : ∀ a b : Int, icmp a b ≤ 0 → a ≠ b → a < b := fun a b h hne => by unfold icmp at h; split at h <;> (try split at h) <;> omega
  have e2 : ∀ a b : Int, a < b → icmp a b = -1 := fun a b h => (icmp_lt a b).2 h
  unfold vcmp
  have L := lcmp_trans s1.toList s2.toList s3.toList
  by_cases ha : k1 = k2
  · subst ha
    by_cases hb : k1 = k3
    · subst hb
      simp only [if_true]
      by_cases hc : n1 = n2
      · subst hc
        by_cases hd : n1 = n3
        · subst hd; simpa using L
        · simp only [if_true, if_neg hd]; intro _ h; have := e2 _ _ (e1 _ _ h hd); omega
      · simp only [if_neg hc]
        by_cases hd : n2 = n3
        · subst hd; simp only [if_true, if_neg hc]; intro h _; have := e2 _ _ (e1 _ _ h hc); omega
        · simp only [if_neg hd]; intro h h'
          have a1 := e1 _ _ h hc; have a2 := e1 _ _ h' hd
          rw [if_neg (by omega), e2 n1 n3 (by omega)]; omega
    · simp only [if_true, if_neg hb]; intro _ h; have := e2 _ _ (e1 _ _ h hb); omega
  · simp only [if_neg ha]
    by_cases hb : k2 = k3
    · subst hb; simp only [if_true, if_neg ha]; intro h _; have := e2 _ _ (e1 _ _ h ha); omega
    · simp only [if_neg hb]; intro h h'
      have a1 := e1 _ _ h ha; have a2 := e1 _ _ h' hb
      rw [if_neg (by omega), e2 k1 k3 (by omega)]; omega

theorem vc_0 {k n k' n' : Int} {s s' : ByteArray} (h1 : k = k') (h2 : n = n') (h3 : s.toList = s'.toList) : 0 = vcmp k n s k' n' s' := ((vcmp_zero _ _ _ _ _ _).2 ⟨h1, h2, h3⟩).symm
theorem vc_s {k n k' n' : Int} {s s' : ByteArray} (h1 : k = k') (h2 : n = n') : lcmp s.toList s'.toList = vcmp k n s k' n' s' := by simp [vcmp, h1, h2]
theorem vc_n {k n k' n' : Int} {s s' : ByteArray} (h1 : k = k') (h2 : ¬ n = n') : icmp n n' = vcmp k n s k' n' s' := by simp [vcmp, h1, h2]
theorem vc_k {k n k' n' : Int} {s s' : ByteArray} (h1 : ¬ k = k') : icmp k k' = vcmp k n s k' n' s' := by simp [vcmp, h1]

/-- May a value be? -/
def rightB (k n : Int) (s : ByteArray) : Bool :=
  if k = 0 then decide (n = 0) && s.toList.isEmpty else if k = 1 then (decide (n = 0) || decide (n = 1)) && s.toList.isEmpty else if k = 2 then s.toList.isEmpty
  else if k = 3 then decide (n = 0) && decide ((s.size : Int) ≤ 4096) else false

theorem drop_at (s : ByteArray) (i : Nat) (h : i < s.size) : s.toList.drop i = s[i] :: s.toList.drop (i + 1) := by
  rw [ByteArray.toList_eq, List.drop_eq_getElem_cons (by simpa using h)]; rfl
theorem len_toList (s : ByteArray) : s.toList.length = s.size := by rw [ByteArray.toList_eq]; simp
/-- Where two strings are alike up to i and part there. -/
theorem lc_part {s t : ByteArray} {i : Nat} (hi : i < s.size) (hj : i < t.size) (hd : lcmp s.toList t.toList = lcmp (s.toList.drop i) (t.toList.drop i)) (hne : ((s[i].toNat : Int) != (t[i].toNat : Int)) = true) :
    decide (s[i].toNat < t[i].toNat) = decide (lcmp s.toList t.toList = -1) := by
  rw [hd, drop_at s i hi, drop_at t i hj, lcmp]
  simp only [UInt8.lt_iff_toNat_lt]
  have : ¬ (s[i].toNat : Int) = (t[i].toNat : Int) := by simpa using hne
  by_cases h : s[i].toNat < t[i].toNat
  · simp [h]
  · have h' : t[i].toNat < s[i].toNat := by omega
    simp [h, h']
theorem lc_on {s t : ByteArray} {i : Nat} (hi : i < s.size) (hj : i < t.size) (hd : lcmp s.toList t.toList = lcmp (s.toList.drop i) (t.toList.drop i)) (hne : ((s[i].toNat : Int) != (t[i].toNat : Int)) = false) :
    lcmp s.toList t.toList = lcmp (s.toList.drop (i + 1)) (t.toList.drop (i + 1)) := by
  rw [hd, drop_at s i hi, drop_at t i hj, lcmp]
  have e : s[i].toNat = t[i].toNat := by have : (s[i].toNat : Int) = (t[i].toNat : Int) := by simpa using hne
                                         omega
  simp only [UInt8.lt_iff_toNat_lt]
  rw [if_neg (by omega), if_neg (by omega)]
theorem lc_end {s t : ByteArray} {i : Nat} (hi : i ≤ s.size) (hj : i ≤ t.size) (hd : lcmp s.toList t.toList = lcmp (s.toList.drop i) (t.toList.drop i)) (h : ¬ (i < s.size ∧ i < t.size)) :
    decide (s.size < t.size) = decide (lcmp s.toList t.toList = -1) := by
  rw [hd]
  by_cases h1 : i < s.size
  · have h2 : i = t.size := by omega
    rw [drop_at s i h1, List.drop_eq_nil_of_le (as := t.toList) (by rw [len_toList]; omega)]
    simp [lcmp]; omega
  · have h1' : i = s.size := by omega
    rw [List.drop_eq_nil_of_le (as := s.toList) (by rw [len_toList]; omega)]
    by_cases h2 : i < t.size
    · rw [drop_at t i h2]; simp [lcmp]; omega
    · rw [List.drop_eq_nil_of_le (as := t.toList) (by rw [len_toList]; omega)]; simp [lcmp]; omega
/-- Is a value ahead of another one? -/
def lessB (k n : Int) (s : ByteArray) (k' n' : Int) (s' : ByteArray) : Bool := decide (vcmp k n s k' n' s' = -1)
theorem less_k {k n k' n' : Int} {s s' : ByteArray} (h : ¬ k = k') : decide (k < k') = lessB k n s k' n' s' := by simp [lessB, vcmp, h, icmp_lt]
theorem less_n {k n k' n' : Int} {s s' : ByteArray} (h : k = k') (h2 : ¬ n = n') : decide (n < n') = lessB k n s k' n' s' := by simp [lessB, vcmp, h, h2, icmp_lt]
theorem less_s (k n : Int) (s s' : ByteArray) : lessB k n s k n s' = decide (lcmp s.toList s'.toList = -1) := by simp [lessB, vcmp]
theorem cm_m1 {k n k' n' : Int} {s s' : ByteArray} (h : lessB k n s k' n' s' = true) : -1 = vcmp k n s k' n' s' := (of_decide_eq_true h).symm
theorem cm_p1 {k n k' n' : Int} {s s' : ByteArray} (h : lessB k' n' s' k n s = true) : 1 = vcmp k n s k' n' s' := by
  have := of_decide_eq_true h
  rw [vcmp_swap] at this
  omega
theorem cm_0 {k n k' n' : Int} {s s' : ByteArray} (h : lessB k n s k' n' s' = false) (h' : lessB k' n' s' k n s = false) : 0 = vcmp k n s k' n' s' := by
  have h1 := of_decide_eq_false h
  have h2 := of_decide_eq_false h'
  rw [vcmp_swap] at h2
  have := vcmp_range k n s k' n' s'
  omega

theorem bytes_ext {s t : ByteArray} (h : s.toList = t.toList) : s = t := by
  rw [ByteArray.toList_eq, ByteArray.toList_eq] at h
  obtain ⟨⟨a⟩⟩ := s
  obtain ⟨⟨b⟩⟩ := t
  simp at h
  rw [h]

/-- What three values' orders may be: one of thirteen. -/
theorem vcmp_thirteen (k1 n1 : Int) (s1 : ByteArray) (k2 n2 : Int) (s2 : ByteArray) (k3 n3 : Int) (s3 : ByteArray) :
    ∃ x y z : Int, vcmp k1 n1 s1 k2 n2 s2 = x ∧ vcmp k2 n2 s2 k3 n3 s3 = y ∧ vcmp k1 n1 s1 k3 n3 s3 = z ∧
      ((x = 0 ∧ y = 0 ∧ z = 0) ∨ (x = -1 ∧ y = -1 ∧ z = -1) ∨ (x = -1 ∧ y = 0 ∧ z = -1) ∨ (x = 0 ∧ y = -1 ∧ z = -1) ∨ (x = 1 ∧ y = 1 ∧ z = 1) ∨ (x = 1 ∧ y = 0 ∧ z = 1) ∨ (x = 0 ∧ y = 1 ∧ z = 1) ∨
       (x = -1 ∧ y = 1 ∧ z = -1) ∨ (x = -1 ∧ y = 1 ∧ z = 0) ∨ (x = -1 ∧ y = 1 ∧ z = 1) ∨ (x = 1 ∧ y = -1 ∧ z = -1) ∨ (x = 1 ∧ y = -1 ∧ z = 0) ∨ (x = 1 ∧ y = -1 ∧ z = 1)) := by
  refine ⟨_, _, _, rfl, rfl, rfl, ?_⟩
  have a := vcmp_range k1 n1 s1 k2 n2 s2
  have b := vcmp_range k2 n2 s2 k3 n3 s3
  have c := vcmp_range k1 n1 s1 k3 n3 s3
  have f := vcmp_trans k1 n1 s1 k2 n2 s2 k3 n3 s3
  have b' := vcmp_trans k3 n3 s3 k2 n2 s2 k1 n1 s1
  rw [vcmp_swap k2 n2 s2 k3 n3 s3, vcmp_swap k1 n1 s1 k2 n2 s2, vcmp_swap k1 n1 s1 k3 n3 s3] at b'
  have e1 : vcmp k1 n1 s1 k2 n2 s2 = 0 → vcmp k2 n2 s2 k3 n3 s3 = 0 → vcmp k1 n1 s1 k3 n3 s3 = 0 := fun h1 h2 => by
    obtain ⟨p1, p2, p3⟩ := (vcmp_zero _ _ _ _ _ _).1 h1
    obtain ⟨q1, q2, q3⟩ := (vcmp_zero _ _ _ _ _ _).1 h2
    exact (vcmp_zero _ _ _ _ _ _).2 ⟨p1.trans q1, p2.trans q2, p3.trans q3⟩
  generalize vcmp k1 n1 s1 k2 n2 s2 = x at *
  generalize vcmp k2 n2 s2 k3 n3 s3 = y at *
  generalize vcmp k1 n1 s1 k3 n3 s3 = z at *
  have hx : x = -1 ∨ x = 0 ∨ x = 1 := by omega
  have hy : y = -1 ∨ y = 0 ∨ y = 1 := by omega
  have hz : z = -1 ∨ z = 0 ∨ z = 1 := by omega
  clear a b c
  rcases hx with rfl | rfl | rfl <;> rcases hy with rfl | rfl | rfl <;> rcases hz with rfl | rfl | rfl <;> first | decide | (exfalso; revert f b' e1; decide)

end Go.Proofs.YtacoingheieceaaGreat

/- Plain: the order of keys (by the digits of their hashes, the lowest level first, then as values), and lists of pairs that are sorted by it: Put, Take and Look of such a list. -/
namespace Go.Proofs.YtacoingheieceaaGreat

abbrev Ky := Int × Int × ByteArray
abbrev Pr := Ky × Ky
/-- The digit of a number at a level. -/
def dg (g i : Nat) : Nat := g / 32 ^ i % 32
theorem dg_lt (g i : Nat) : dg g i < 32 := Nat.mod_lt _ (by decide)
/-- As values. -/
def vc (a b : Ky) : Int := vcmp a.1 a.2.1 a.2.2 b.1 b.2.1 b.2.2
theorem vc_eq {a b : Ky} : vc a b = 0 ↔ a = b := by
  obtain ⟨a1, a2, a3⟩ := a
  obtain ⟨b1, b2, b3⟩ := b
  unfold vc
  rw [vcmp_zero]
  constructor
  · rintro ⟨h1, h2, h3⟩
    simp only at h1 h2 h3
    rw [h1, h2, bytes_ext h3]
  · intro h
    simp only [Prod.mk.injEq] at h
    exact ⟨h.1, h.2.1, by rw [h.2.2]⟩
theorem vc_swap (a b : Ky) : vc b a = - vc a b := vcmp_swap _ _ _ _ _ _
theorem vc_range (a b : Ky) : -1 ≤ vc a b ∧ vc a b ≤ 1 := vcmp_range _ _ _ _ _ _
theorem vc_trans {a b c : Ky} (h1 : vc a b = -1) (h2 : vc b c = -1) : vc a c = -1 := by
  obtain ⟨h3, h4⟩ := vcmp_trans a.1 a.2.1 a.2.2 b.1 b.2.1 b.2.2 c.1 c.2.1 c.2.2 (by show vc a b ≤ 0; omega) (by show vc b c ≤ 0; omega)
  have h5 := vc_range a c
  have h6 : vc a c ≤ 0 := h3
  have h7 : vc a c = 0 → vc a b = 0 ∧ vc b c = 0 := h4
  by_cases e : vc a c = 0
  · have := h7 e; omega
  · omega

/-- The first level at which two numbers have different digits; 13: there is none. -/
def ptF (g h : Nat) : Nat → Nat → Nat
  | 0, l => l
  | f + 1, l => if dg g l = dg h l then ptF g h f (l + 1) else l
theorem ptF_spec (g h : Nat) : ∀ f l, l ≤ ptF g h f l ∧ ptF g h f l ≤ l + f ∧ (∀ j, l ≤ j → j < ptF g h f l → dg g j = dg h j) ∧ (ptF g h f l < l + f → dg g (ptF g h f l) ≠ dg h (ptF g h f l))
  | 0, l => ⟨Nat.le_refl _, Nat.le_refl _, fun j h1 h2 => absurd h2 (Nat.not_lt.2 h1), fun h1 => absurd h1 (Nat.lt_irrefl _)⟩
  | f + 1, l => by
    unfold ptF
    by_cases e : dg g l = dg h l
    · rw [if_pos e]
      obtain ⟨h1, h2, h3, h4⟩ := ptF_spec g h f (l + 1)
      refine ⟨by omega, by omega, fun j j1 j2 => ?_, fun h5 => h4 (by omega)⟩
      by_cases ej : j = l
      · rw [ej]; exact e
      · exact h3 j (by omega) j2
    · rw [if_neg e]
      exact ⟨Nat.le_refl _, by omega, fun j j1 j2 => by omega, fun _ => e⟩
def pt (g h : Nat) : Nat := ptF g h 13 0
theorem pt_le (g h : Nat) : pt g h ≤ 13 := by have := (ptF_spec g h 13 0).2.1; unfold pt; omega
theorem pt_eq {g h j : Nat} (hj : j < pt g h) : dg g j = dg h j := (ptF_spec g h 13 0).2.2.1 j (Nat.zero_le _) hj
theorem pt_ne {g h : Nat} (hp : pt g h < 13) : dg g (pt g h) ≠ dg h (pt g h) := (ptF_spec g h 13 0).2.2.2 (by unfold pt at hp; omega)
theorem pt_uniq {g h p : Nat} (hp : p ≤ 13) (he : ∀ j, j < p → dg g j = dg h j) (hn : p < 13 → dg g p ≠ dg h p) : pt g h = p := by
  rcases Nat.lt_trichotomy (pt g h) p with e | e | e
  · exact absurd (he _ e) (pt_ne (by omega))
  · exact e
  · exact absurd (pt_eq e) (hn (by have := pt_le g h; omega))
theorem pt_swap (g h : Nat) : pt h g = pt g h := pt_uniq (pt_le g h) (fun _ hj => (pt_eq hj).symm) (fun hp => (pt_ne hp).symm)
theorem pt_self (g : Nat) : pt g g = 13 := pt_uniq (Nat.le_refl _) (fun _ _ => rfl) (fun h => absurd h (Nat.lt_irrefl _))
/-- Numbers below 2^64 with the same digits are one. -/
theorem dg_ext {g h : Nat} (hg : g < 18446744073709551616) (hh : h < 18446744073709551616) (e : ∀ j, j < 13 → dg g j = dg h j) : g = h := by
  have key : ∀ n, n ≤ 13 → g % 32 ^ n = h % 32 ^ n := fun n => by
    induction n with
    | zero => intro _; simp [Nat.mod_one]
    | succ n ih =>
      intro hn
      have h1 := ih (by omega)
      have h2 := e n (by omega)
      unfold dg at h2
      rw [Nat.pow_succ, Nat.mod_mul, Nat.mod_mul, h1, h2]
  have h13 := key 13 (Nat.le_refl _)
  have e1 : (32 : Nat) ^ 13 = 36893488147419103232 := by decide
  rw [e1] at h13
  omega
theorem pt_13 {g h : Nat} (hg : g < 18446744073709551616) (hh : h < 18446744073709551616) : pt g h = 13 ↔ g = h :=
  ⟨fun e => dg_ext hg hh fun j hj => pt_eq (by omega), fun e => by rw [e]; exact pt_self h⟩

section
variable (hs : Ky → Nat)
/-- Is a key ahead of another one? -/
def kltB (a b : Ky) : Bool := if pt (hs a) (hs b) < 13 then decide (dg (hs a) (pt (hs a) (hs b)) < dg (hs b) (pt (hs a) (hs b))) else decide (vc a b = -1)
abbrev klt (a b : Ky) : Prop := kltB hs a b = true
variable {hs}
theorem klt_dg {a b : Ky} (hp : pt (hs a) (hs b) < 13) : klt hs a b ↔ dg (hs a) (pt (hs a) (hs b)) < dg (hs b) (pt (hs a) (hs b)) := by
  unfold klt kltB
  rw [if_pos hp, decide_eq_true_eq]
theorem klt_vc {a b : Ky} (hp : pt (hs a) (hs b) = 13) : klt hs a b ↔ vc a b = -1 := by
  unfold klt kltB
  rw [if_neg (by omega), decide_eq_true_eq]
theorem klt_irrefl (a : Ky) : ¬ klt hs a a := by
  rw [klt_vc (pt_self _), vc_eq.2 rfl]
  decide
theorem klt_total {a b : Ky} (h : a ≠ b) : klt hs a b ∨ klt hs b a := by
  by_cases hp : pt (hs a) (hs b) < 13
  · rw [klt_dg hp, klt_dg (by rw [pt_swap]; exact hp), pt_swap (hs a) (hs b)]
    have := pt_ne hp
    omega
  · have hp' : pt (hs a) (hs b) = 13 := by have := pt_le (hs a) (hs b); omega
    rw [klt_vc hp', klt_vc (by rw [pt_swap]; exact hp'), vc_swap a b]
    have h1 := vc_range a b
    have h2 : vc a b ≠ 0 := fun e => h (vc_eq.1 e)
    omega
theorem klt_trans {a b c : Ky} (h1 : klt hs a b) (h2 : klt hs b c) : klt hs a c := by
  rcases Nat.lt_trichotomy (pt (hs a) (hs b)) (pt (hs b) (hs c)) with e | e | e
  · have hp : pt (hs a) (hs c) = pt (hs a) (hs b) := by
      have h13 : pt (hs a) (hs b) < 13 := by have := pt_le (hs b) (hs c); omega
      refine pt_uniq (by omega) (fun j hj => (pt_eq hj).trans (pt_eq (by omega))) (fun _ => ?_)
      rw [← pt_eq e]
      exact pt_ne h13
    have h13 : pt (hs a) (hs b) < 13 := by have := pt_le (hs b) (hs c); omega
    rw [klt_dg h13] at h1
    rw [klt_dg (by rw [hp]; exact h13), hp, ← pt_eq e]
    exact h1
  · by_cases h13 : pt (hs a) (hs b) < 13
    · have h13' : pt (hs b) (hs c) < 13 := by omega
      rw [klt_dg h13] at h1
      rw [klt_dg h13', ← e] at h2
      have hp : pt (hs a) (hs c) = pt (hs a) (hs b) := pt_uniq (by omega) (fun j hj => (pt_eq hj).trans (pt_eq (by omega))) (fun _ => by omega)
      rw [klt_dg (by rw [hp]; exact h13), hp]
      omega
    · have hp1 : pt (hs a) (hs b) = 13 := by have := pt_le (hs a) (hs b); omega
      have hp2 : pt (hs b) (hs c) = 13 := by omega
      have hp : pt (hs a) (hs c) = 13 := pt_uniq (Nat.le_refl _) (fun j hj => (pt_eq (show j < pt (hs a) (hs b) by omega)).trans (pt_eq (by omega))) (fun h => by omega)
      rw [klt_vc hp1] at h1
      rw [klt_vc hp2] at h2
      rw [klt_vc hp]
      exact vc_trans h1 h2
  · have h13 : pt (hs b) (hs c) < 13 := by have := pt_le (hs a) (hs b); omega
    have hp : pt (hs a) (hs c) = pt (hs b) (hs c) := by
      refine pt_uniq (by omega) (fun j hj => (pt_eq (show j < pt (hs a) (hs b) by omega)).trans (pt_eq hj)) (fun _ => ?_)
      rw [pt_eq e]
      exact pt_ne h13
    rw [klt_dg h13] at h2
    rw [klt_dg (by rw [hp]; exact h13), hp, pt_eq e]
    exact h2
theorem klt_asymm {a b : Ky} (h1 : klt hs a b) : ¬ klt hs b a := fun h2 => klt_irrefl a (klt_trans h1 h2)

/-- Sorted by their keys. -/
abbrev Srt (hs : Ky → Nat) (l : List Pr) : Prop := l.Pairwise (fun p q => klt hs p.1 q.1)
theorem Srt.key_inj {l : List Pr} (h : Srt hs l) {p q : Pr} (hp : p ∈ l) (hq : q ∈ l) (e : p.1 = q.1) : p = q := by
  induction l with
  | nil => cases hp
  | cons x l ih =>
    obtain ⟨h1, h2⟩ := List.pairwise_cons.1 h
    rcases List.mem_cons.1 hp with rfl | hp'
    · rcases List.mem_cons.1 hq with rfl | hq'
      · rfl
      · exact absurd (e ▸ h1 q hq') (klt_irrefl _)
    · rcases List.mem_cons.1 hq with rfl | hq'
      · exact absurd (e ▸ h1 p hp') (klt_irrefl _)
      · exact ih h2 hp' hq'
/-- A sorted list is told by what is in it. -/
theorem Srt.ext : ∀ {l m : List Pr}, Srt hs l → Srt hs m → (∀ q, q ∈ l ↔ q ∈ m) → l = m
  | [], [], _, _, _ => rfl
  | [], y :: m, _, _, h => absurd ((h y).2 (by simp)) (by simp)
  | x :: l, [], _, _, h => absurd ((h x).1 (by simp)) (by simp)
  | x :: l, y :: m, hl, hm, h => by
    obtain ⟨l1, l2⟩ := List.pairwise_cons.1 hl
    obtain ⟨m1, m2⟩ := List.pairwise_cons.1 hm
    have exy : x = y := by
      rcases List.mem_cons.1 ((h x).1 (by simp)) with e | e
      · exact e
      · rcases List.mem_cons.1 ((h y).2 (by simp)) with e' | e'
        · exact e'.symm
        · exact absurd (m1 x e) (klt_asymm (l1 y e'))
    subst exy
    have hx : ∀ q, q ∈ l → q ≠ x := fun q hq e => klt_irrefl x.1 (by have := l1 q hq; rwa [e] at this)
    have hx' : ∀ q, q ∈ m → q ≠ x := fun q hq e => klt_irrefl x.1 (by have := m1 q hq; rwa [e] at this)
    rw [Srt.ext l2 m2 fun q => ⟨fun hq => (List.mem_cons.1 ((h q).1 (by simp [hq]))).resolve_left (hx q hq), fun hq => (List.mem_cons.1 ((h q).2 (by simp [hq]))).resolve_left (hx' q hq)⟩]

/-- Put, as the document's loop does it. -/
def putD (hs : Ky → Nat) (p : Pr) : Bool → List Pr → List Pr
  | done, [] => if done then [] else [p]
  | done, q :: l => if q.1 = p.1 then p :: putD hs p true l else if done = false ∧ klt hs p.1 q.1 then p :: q :: putD hs p true l else q :: putD hs p done l
def putL (hs : Ky → Nat) (p : Pr) (l : List Pr) : List Pr := putD hs p false l
def takeL (k : Ky) (l : List Pr) : List Pr := l.filter (fun q => decide (q.1 ≠ k))
def lookL (k : Ky) (l : List Pr) : Option Ky := (l.find? (fun q => decide (q.1 = k))).map Prod.snd
theorem putD_true {p : Pr} : ∀ {l : List Pr}, (∀ q ∈ l, klt hs p.1 q.1) → putD hs p true l = l
  | [], _ => rfl
  | q :: l, h => by
    have h1 : q.1 ≠ p.1 := fun e => klt_irrefl p.1 (by have := h q (by simp); rwa [e] at this)
    unfold putD
    rw [if_neg h1, if_neg (by simp), putD_true fun x hx => h x (by simp [hx])]
theorem putL_spec {p : Pr} : ∀ {l : List Pr}, Srt hs l → Srt hs (putL hs p l) ∧ ∀ q, q ∈ putL hs p l ↔ q = p ∨ (q ∈ l ∧ q.1 ≠ p.1)
  | [], _ => ⟨by unfold putL putD; simp, fun q => by unfold putL putD; simp⟩
  | x :: l, h => by
    obtain ⟨h1, h2⟩ := List.pairwise_cons.1 h
    obtain ⟨i1, i2⟩ := putL_spec (p := p) h2
    unfold putL putD
    by_cases e : x.1 = p.1
    · rw [if_pos e, putD_true fun q hq => by rw [← e]; exact h1 q hq]
      refine ⟨List.pairwise_cons.2 ⟨fun q hq => by rw [← e]; exact h1 q hq, h2⟩, fun q => ?_⟩
      constructor
      · intro hq
        rcases List.mem_cons.1 hq with rfl | hq
        · exact .inl rfl
        · exact .inr ⟨by simp [hq], fun e' => klt_irrefl p.1 (by have := h1 q hq; rw [e, e'] at this; exact this)⟩
      · rintro (rfl | ⟨hq, hne⟩)
        · simp
        · rcases List.mem_cons.1 hq with rfl | hq
          · exact absurd e hne
          · simp [hq]
    · rw [if_neg e]
      by_cases hk : klt hs p.1 x.1
      · rw [if_pos ⟨rfl, hk⟩, putD_true fun q hq => klt_trans hk (h1 q hq)]
        refine ⟨List.pairwise_cons.2 ⟨fun q hq => ?_, h⟩, fun q => ?_⟩
        · rcases List.mem_cons.1 hq with rfl | hq
          · exact hk
          · exact klt_trans hk (h1 q hq)
        · constructor
          · intro hq
            rcases List.mem_cons.1 hq with rfl | hq
            · exact .inl rfl
            · refine .inr ⟨hq, fun e' => ?_⟩
              rcases List.mem_cons.1 hq with rfl | hq
              · exact e e'
              · exact klt_irrefl p.1 (by have := klt_trans hk (h1 q hq); rwa [e'] at this)
          · rintro (rfl | ⟨hq, _⟩)
            · simp
            · simp [List.mem_cons.1 hq]
      · rw [if_neg (fun h => hk h.2)]
        have hxp : klt hs x.1 p.1 := (klt_total e).resolve_right hk
        refine ⟨List.pairwise_cons.2 ⟨fun q hq => ?_, i1⟩, fun q => ?_⟩
        · rcases (i2 q).1 hq with rfl | ⟨hq, _⟩
          · exact hxp
          · exact h1 q hq
        · constructor
          · intro hq
            rcases List.mem_cons.1 hq with rfl | hq
            · exact .inr ⟨by simp, e⟩
            · rcases (i2 q).1 hq with rfl | ⟨hq, hne⟩
              · exact .inl rfl
              · exact .inr ⟨by simp [hq], hne⟩
          · rintro (rfl | ⟨hq, hne⟩)
            · exact List.mem_cons_of_mem _ ((i2 q).2 (.inl rfl))
            · rcases List.mem_cons.1 hq with rfl | hq
              · simp
              · exact List.mem_cons_of_mem _ ((i2 q).2 (.inr ⟨hq, hne⟩))
theorem takeL_spec {k : Ky} {l : List Pr} (h : Srt hs l) : Srt hs (takeL k l) ∧ ∀ q, q ∈ takeL k l ↔ q ∈ l ∧ q.1 ≠ k :=
  ⟨h.filter _, fun q => by unfold takeL; rw [List.mem_filter]; simp⟩
/-- What is put is Put. -/
theorem putL_uniq {p : Pr} {l m : List Pr} (hl : Srt hs l) (hm : Srt hs m) (h : ∀ q, q ∈ m ↔ q = p ∨ (q ∈ l ∧ q.1 ≠ p.1)) : m = putL hs p l :=
  hm.ext (putL_spec hl).1 fun q => (h q).trans ((putL_spec hl).2 q).symm
theorem takeL_uniq {k : Ky} {l m : List Pr} (hl : Srt hs l) (hm : Srt hs m) (h : ∀ q, q ∈ m ↔ q ∈ l ∧ q.1 ≠ k) : m = takeL k l :=
  hm.ext (takeL_spec hl).1 fun q => (h q).trans ((takeL_spec hl).2 q).symm
def hasB (k : Ky) (l : List Pr) : Bool := l.any (fun q => decide (q.1 = k))
theorem hasB_iff {k : Ky} {l : List Pr} : hasB k l = true ↔ ∃ q ∈ l, q.1 = k := by
  unfold hasB
  rw [List.any_eq_true]
  simp
theorem putL_length {p : Pr} : ∀ {l : List Pr}, Srt hs l → (putL hs p l).length = if hasB p.1 l = true then l.length else l.length + 1
  | [], _ => rfl
  | x :: l, h => by
    obtain ⟨h1, h2⟩ := List.pairwise_cons.1 h
    have ih := putL_length (p := p) h2
    unfold putL at ih ⊢
    unfold putD
    by_cases e : x.1 = p.1
    · rw [if_pos e, putD_true fun q hq => by rw [← e]; exact h1 q hq, if_pos (hasB_iff.2 ⟨x, by simp, e⟩)]
      rfl
    · rw [if_neg e]
      by_cases hk : klt hs p.1 x.1
      · rw [if_pos ⟨rfl, hk⟩, putD_true fun q hq => klt_trans hk (h1 q hq)]
        have hno : ¬ hasB p.1 (x :: l) = true := fun hm => by
          obtain ⟨q, hq, eq⟩ := hasB_iff.1 hm
          rcases List.mem_cons.1 hq with rfl | hq
          · exact e eq
          · exact klt_irrefl p.1 (by have := klt_trans hk (h1 q hq); rwa [eq] at this)
        rw [if_neg hno]
        rfl
      · rw [if_neg (fun h => hk h.2)]
        have hb : hasB p.1 (x :: l) = hasB p.1 l := by
          unfold hasB
          rw [List.any_cons, decide_eq_false e, Bool.false_or]
        rw [hb, List.length_cons, ih, List.length_cons]
        split <;> rfl
theorem lookL_some {k v : Ky} {l : List Pr} (h : Srt hs l) : lookL k l = some v ↔ (k, v) ∈ l := by
  unfold lookL
  constructor
  · intro e
    obtain ⟨q, hq, rfl⟩ := Option.map_eq_some_iff.1 e
    have h1 := List.find?_some hq
    have h2 := List.mem_of_find?_eq_some hq
    rw [decide_eq_true_eq] at h1
    rw [← h1]
    exact h2
  · intro hm
    cases e : l.find? (fun q => decide (q.1 = k)) with
    | none =>
      have := List.find?_eq_none.1 e (k, v) hm
      simp at this
    | some q =>
      have h1 := List.find?_some e
      have h2 := List.mem_of_find?_eq_some e
      rw [decide_eq_true_eq] at h1
      rw [h.key_inj h2 hm h1]
      rfl
theorem lookL_none {k : Ky} {l : List Pr} : lookL k l = none ↔ ∀ q ∈ l, q.1 ≠ k := by
  unfold lookL
  rw [Option.map_eq_none_iff, List.find?_eq_none]
  simp
end

end Go.Proofs.YtacoingheieceaaGreat

/- Layer 5, plain: how many digits of a set lie below one; and, or and without, bit by bit. -/
namespace Go.Proofs.YtacoingheieceaaGreat

/-- How many bits of n below the i-th are 1. -/
def cnt (n : Nat) : Nat → Nat
  | 0 => 0
  | i + 1 => cnt n i + (n.testBit i).toNat

theorem cnt_le (n : Nat) : ∀ i, cnt n i ≤ i
  | 0 => Nat.le_refl _
  | i + 1 => by have := cnt_le n i; have := Bool.toNat_le (n.testBit i); unfold cnt; omega
theorem cnt_congr {m n : Nat} : ∀ i, (∀ k, k < i → m.testBit k = n.testBit k) → cnt m i = cnt n i
  | 0, _ => rfl
  | i + 1, h => by unfold cnt; rw [cnt_congr i fun k hk => h k (by omega), h i (by omega)]
theorem cnt_add (n a : Nat) : ∀ b, cnt n (a + b) = cnt n a + cnt (n / 2 ^ a) b
  | 0 => by simp [cnt]
  | b + 1 => by
    have : (n / 2 ^ a).testBit b = n.testBit (a + b) := by rw [Nat.testBit_div_two_pow, Nat.add_comm]
    rw [← Nat.add_assoc, show cnt n (a + b + 1) = cnt n (a + b) + (n.testBit (a + b)).toNat from rfl, show cnt (n / 2 ^ a) (b + 1) = cnt (n / 2 ^ a) b + ((n / 2 ^ a).testBit b).toNat from rfl, cnt_add n a b, this]
    omega
theorem cnt_zero : ∀ i, cnt 0 i = 0
  | 0 => rfl
  | i + 1 => by unfold cnt; rw [cnt_zero i]; simp
theorem cnt_small {n a : Nat} (h : n < 2 ^ a) (b : Nat) : cnt n (a + b) = cnt n a := by
  rw [cnt_add, Nat.div_eq_of_lt h, cnt_zero]; rfl
theorem cnt_mod (n a : Nat) : cnt (n % 2 ^ a) a = cnt n a :=
  cnt_congr a fun k hk => by rw [Nat.testBit_mod_two_pow]; simp [hk]
theorem pop_cnt : ∀ f n, Lib.popAux f n = cnt n f
  | 0, _ => rfl
  | f + 1, n => by
    rw [Lib.popAux, pop_cnt f, Nat.add_comm f 1, cnt_add n 1 f]
    have : cnt n 1 = n % 2 := by
      unfold cnt cnt
      rw [Nat.testBit_zero]
      have : n % 2 = 0 ∨ n % 2 = 1 := by omega
      rcases this with h | h <;> simp [h]
    rw [this]
/-- The table's byte. -/
theorem pop8_cnt (x : Nat) (h : x < 256) : Lib.pop8 (x : Int) = (cnt x 8 : Nat) := by
  have e := Lib.pop8_eq ⟨x, h⟩
  simp only at e
  rw [e, Lib.onesCount, pop_cnt, show (64 : Nat) = 8 + 56 from rfl, cnt_small (a := 8) (by omega)]
theorem cnt_32 (n : Nat) : cnt n 32 = cnt (n / 16777216) 8 + cnt (n / 65536 % 256) 8 + cnt (n / 256 % 256) 8 + cnt (n % 256) 8 := by
  have h1 : cnt (n % 256) 8 = cnt n 8 := cnt_mod n 8
  have h2 : cnt (n / 256 % 256) 8 = cnt (n / 256) 8 := cnt_mod _ 8
  have h3 : cnt (n / 65536 % 256) 8 = cnt (n / 65536) 8 := cnt_mod _ 8
  rw [h1, h2, h3, show (32 : Nat) = 8 + (8 + (8 + 8)) from rfl, cnt_add n 8, cnt_add _ 8, cnt_add _ 8, Nat.div_div_eq_div_mul, Nat.div_div_eq_div_mul]
  show cnt n 8 + (cnt (n / 256) 8 + (cnt (n / 65536) 8 + cnt (n / 16777216) 8)) = _
  omega

theorem and_255 (x : Nat) (h : x < 4294967296) : bits .and .u32 (x : Int) 255 = ((x % 256 : Nat) : Int) := by
  have := u32_and_nat x 255 h (by decide)
  rw [nat_mask8] at this
  exact this
theorem and_1 (x : Nat) (h : x < 4294967296) : bits .and .u32 (x : Int) 1 = ((x % 2 : Nat) : Int) := by
  have := u32_and_nat x 1 h (by decide)
  rw [nat_mask1] at this
  exact this
/-- The bits below the i-th. -/
theorem and_low (n i : Nat) (h : n < 4294967296) (hi : i < 32) : bits .and .u32 (n : Int) ((2 ^ i - 1 : Nat) : Int) = ((n % 2 ^ i : Nat) : Int) := by
  have hp : 2 ^ i ≤ 2 ^ 31 := Nat.pow_le_pow_right (by decide) (by omega)
  rw [u32_and_nat n _ h (by omega), Nat.and_two_pow_sub_one_eq_mod]
theorem cnt_low (n i : Nat) (hi : i ≤ 32) : cnt (n % 2 ^ i) 32 = cnt n i := by
  obtain ⟨j, hj⟩ : ∃ j, 32 = i + j := ⟨32 - i, by omega⟩
  rw [hj, cnt_small (Nat.mod_lt _ (Nat.two_pow_pos i)), cnt_mod]

theorem bit_mod (n k : Nat) : (n / 2 ^ k % 2 = 1) ↔ n.testBit k = true := by
  rw [Nat.testBit_eq_decide_div_mod_eq]; simp

/-- The set of those of the numbers that are digits. -/
def ofN : List Int → Nat
  | [] => 0
  | x :: l => (if 0 ≤ x ∧ x < 32 then 2 ^ x.toNat else 0) ||| ofN l
theorem pow_32 {k : Nat} (h : k < 32) : 2 ^ k < 4294967296 := Nat.pow_lt_pow_right (m := k) (n := 32) (by decide) h
theorem ofN_lt : ∀ l, ofN l < 4294967296
  | [] => by decide
  | x :: l => by
    unfold ofN
    refine Nat.or_lt_two_pow (n := 32) ?_ (ofN_lt l)
    split
    · exact pow_32 (by omega)
    · decide
theorem ofN_bit (k : Nat) (hk : k < 32) : ∀ l, (ofN l).testBit k = decide ((k : Int) ∈ l)
  | [] => by simp [ofN]
  | x :: l => by
    unfold ofN
    rw [Nat.testBit_or, ofN_bit k hk l]
    by_cases hx : 0 ≤ x ∧ x < 32
    · rw [if_pos hx, Nat.testBit_two_pow]
      rw [Bool.eq_iff_iff]
      simp only [Bool.or_eq_true, decide_eq_true_eq, List.mem_cons]
      constructor
      · rintro (h | h)
        · left; omega
        · exact .inr h
      · rintro (h | h)
        · left; omega
        · exact .inr h
    · rw [if_neg hx, Nat.zero_testBit, Bool.false_or, Bool.eq_iff_iff]
      simp only [decide_eq_true_eq, List.mem_cons]
      constructor
      · exact .inr
      · rintro (h | h)
        · omega
        · exact h
theorem ofN_snoc : ∀ l x, ofN (l ++ [x]) = ofN l ||| (if 0 ≤ x ∧ x < 32 then 2 ^ x.toNat else 0)
  | [], x => by simp [ofN]
  | y :: l, x => by rw [List.cons_append]; unfold ofN; rw [ofN_snoc l x, Nat.or_assoc]
theorem not_bit (b k : Nat) (hb : b < 4294967296) (hk : k < 32) : (4294967295 - b).testBit k = !b.testBit k := by
  have := Nat.testBit_two_pow_sub_succ (x := b) (n := 32) (by omega) k
  simp [hk] at this
  rw [← this]
end Go.Proofs.YtacoingheieceaaGreat
