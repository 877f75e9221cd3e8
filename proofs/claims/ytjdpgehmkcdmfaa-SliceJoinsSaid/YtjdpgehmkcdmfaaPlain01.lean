/- Plain mathematics of layer 1: the order of numbers, of strings of bytes, and of values (kind, number, bytes). -/
import GoSem.Claim
import Derived.Laws.StructEq
namespace Go.Proofs.Ytjdpgehmkcdmfaa

/-- -1, 0, 1: of numbers. -/
def icmp (a b : Int) : Int := if a < b then -1 else if b < a then 1 else 0
/-- -1, 0, 1: of bytes. -/
def lcmp : List UInt8 → List UInt8 → Int
  | [], [] => 0
  | [], _ :: _ => -1
  | _ :: _, [] => 1
  | a :: x, b :: y => if a < b then -1 else if b < a then 1 else lcmp x y
/-- of values. -/
def vcmp (k n : Int) (s : ByteArray) (k' n' : Int) (s' : ByteArray) : Int :=
  if k = k' then (if n = n' then lcmp s.toList s'.toList else icmp n n') else icmp k k'

theorem icmp_range (a b : Int) : -1 ≤ icmp a b ∧ icmp a b ≤ 1 := by unfold icmp; split <;> (try split) <;> omega
theorem icmp_swap (a b : Int) : icmp b a = - icmp a b := by unfold icmp; split <;> (try split) <;> (try split) <;> omega
theorem icmp_zero (a b : Int) : icmp a b = 0 ↔ a = b := by unfold icmp; split <;> (try split) <;> omega
theorem icmp_lt (a b : Int) : icmp a b = -1 ↔ a < b := by unfold icmp; split <;> (try split) <;> omega

theorem u8_ext (a b : UInt8) (h1 : ¬ a < b) (h2 : ¬ b < a) : a = b := by
  rw [UInt8.lt_iff_toNat_lt] at h1 h2
  exact UInt8.toNat_inj.1 (by omega)
theorem u8_irrefl (a : UInt8) : ¬ a < a := by rw [UInt8.lt_iff_toNat_lt]; omega

theorem lcmp_range : ∀ a b : List UInt8, -1 ≤ lcmp a b ∧ lcmp a b ≤ 1
  | [], [] => by simp [lcmp]
  | [], _ :: _ => by simp [lcmp]
  | _ :: _, [] => by simp [lcmp]
  | a :: x, b :: y => by rw [lcmp]; split <;> (try split) <;> first | omega | exact lcmp_range x y
theorem lcmp_swap : ∀ a b : List UInt8, lcmp b a = - lcmp a b
  | [], [] => by simp [lcmp]
  | [], _ :: _ => by simp [lcmp]
  | _ :: _, [] => by simp [lcmp]
  | a :: x, b :: y => by
    have ih := lcmp_swap x y
    rw [lcmp, lcmp]
    by_cases h1 : a < b
    · have h2 : ¬ b < a := by rw [UInt8.lt_iff_toNat_lt] at *; omega
      simp [h1, h2]
    · by_cases h2 : b < a <;> simp [h1, h2, ih]
theorem lcmp_zero : ∀ a b : List UInt8, lcmp a b = 0 ↔ a = b
  | [], [] => by simp [lcmp]
  | [], _ :: _ => by simp [lcmp]
  | _ :: _, [] => by simp [lcmp]
  | a :: x, b :: y => by
    have ih := lcmp_zero x y
    rw [lcmp]
    by_cases h1 : a < b
    · have : a ≠ b := fun e => u8_irrefl b (by rwa [e] at h1)
      simp [h1, this]
    · by_cases h2 : b < a
      · have : a ≠ b := fun e => u8_irrefl b (by rwa [e] at h2)
        simp [h1, h2, this]
      · simp [ih, u8_ext a b h1 h2]
theorem lcmp_less : ∀ a b : List UInt8, Op.bytesLess a b = decide (lcmp a b = -1)
  | [], [] => by simp [lcmp, Op.bytesLess]
  | [], _ :: _ => by simp [lcmp, Op.bytesLess]
  | _ :: _, [] => by simp [lcmp, Op.bytesLess]
  | a :: x, b :: y => by
    have ih := lcmp_less x y
    rw [lcmp, Op.bytesLess]
    by_cases h1 : a < b
    · simp [h1]
    · by_cases h2 : b < a
      · have : a ≠ b := fun e => u8_irrefl b (by rwa [e] at h2)
        simp [h1, h2, this]
      · simp [ih, u8_ext a b h1 h2]
theorem lcmp_trans : ∀ a b c : List UInt8, lcmp a b ≤ 0 → lcmp b c ≤ 0 → lcmp a c ≤ 0 ∧ (lcmp a c = 0 → lcmp a b = 0 ∧ lcmp b c = 0)
  | [], [], [] => by simp [lcmp]
  | [], [], _ :: _ => by simp [lcmp]
  | [], _ :: _, [] => by simp [lcmp]
  | [], _ :: _, _ :: _ => by simp [lcmp]
  | _ :: _, [], _ => by simp [lcmp]
  | _ :: _, _ :: _, [] => by simp [lcmp]
  | a :: x, b :: y, c :: z => by
    have ih := lcmp_trans x y z
    rw [lcmp, lcmp, lcmp]
    simp only [UInt8.lt_iff_toNat_lt]
    generalize a.toNat = a
    generalize b.toNat = b
    generalize c.toNat = c
    intro h1 h2
    repeat' split at h1
    all_goals repeat' split at h2
    all_goals repeat' split
    all_goals first | omega | exact ih h1 h2

theorem icmp_m1 {a b : Int} (h : a < b) : -1 = icmp a b := by simp [icmp, h]
theorem icmp_p1 {a b : Int} (h : b < a) : 1 = icmp a b := by unfold icmp; rw [if_neg (by omega), if_pos h]
theorem icmp_0 {a b : Int} (h : b ≤ a) (h' : a ≤ b) : 0 = icmp a b := by unfold icmp; rw [if_neg (by omega), if_neg (by omega)]
theorem lcmp_m1 {a b : List UInt8} (h : Op.bytesLess a b = true) : -1 = lcmp a b := by rw [lcmp_less] at h; exact (of_decide_eq_true h).symm
theorem lcmp_p1 {a b : List UInt8} (h : Op.bytesLess a b = false) (h' : (!a == b) = true) : 1 = lcmp a b := by
  rw [lcmp_less] at h
  have h1 := of_decide_eq_false h
  have h2 : ¬ lcmp a b = 0 := fun e => by rw [(lcmp_zero a b).1 e] at h'; simp at h'
  have := lcmp_range a b
  omega
theorem lcmp_0 {a b : List UInt8} (h' : (!a == b) = false) : 0 = lcmp a b := by
  have : a = b := by simpa using h'
  exact ((lcmp_zero a b).2 this).symm

theorem vcmp_range (k n : Int) (s : ByteArray) (k' n' : Int) (s' : ByteArray) : -1 ≤ vcmp k n s k' n' s' ∧ vcmp k n s k' n' s' ≤ 1 := by
  unfold vcmp; split <;> (try split)
  · exact lcmp_range _ _
  · exact icmp_range _ _
  · exact icmp_range _ _
theorem vcmp_swap (k n : Int) (s : ByteArray) (k' n' : Int) (s' : ByteArray) : vcmp k' n' s' k n s = - vcmp k n s k' n' s' := by
  unfold vcmp
  by_cases h1 : k = k'
  · by_cases h2 : n = n'
    · simp [h1, h2, lcmp_swap s.toList]
    · simp [h1, h2, Ne.symm h2, icmp_swap n]
  · simp [h1, Ne.symm h1, icmp_swap k]
theorem vcmp_zero (k n : Int) (s : ByteArray) (k' n' : Int) (s' : ByteArray) : vcmp k n s k' n' s' = 0 ↔ k = k' ∧ n = n' ∧ s.toList = s'.toList := by
  unfold vcmp
  by_cases h1 : k = k'
  · by_cases h2 : n = n'
    · simp [h1, h2, lcmp_zero]
    · simp [h1, h2, icmp_zero]
  · simp [h1, icmp_zero]
theorem vcmp_self (k n : Int) (s : ByteArray) : vcmp k n s k n s = 0 := (vcmp_zero _ _ _ _ _ _).2 ⟨rfl, rfl, rfl⟩
theorem icmp_trans (a b c : Int) : icmp a b ≤ 0 → icmp b c ≤ 0 → icmp a c ≤ 0 ∧ (icmp a c = 0 → icmp a b = 0 ∧ icmp b c = 0) := by
  unfold icmp; intro h1 h2
  repeat' split at h1
  all_goals repeat' split at h2
  all_goals repeat' split
  all_goals omega
theorem vcmp_trans (k1 n1 : Int) (s1 : ByteArray) (k2 n2 : Int) (s2 : ByteArray) (k3 n3 : Int) (s3 : ByteArray) :
    vcmp k1 n1 s1 k2 n2 s2 ≤ 0 → vcmp k2 n2 s2 k3 n3 s3 ≤ 0 → vcmp k1 n1 s1 k3 n3 s3 ≤ 0 ∧ (vcmp k1 n1 s1 k3 n3 s3 = 0 → vcmp k1 n1 s1 k2 n2 s2 = 0 ∧ vcmp k2 n2 s2 k3 n3 s3 = 0) := by
  have e1 : ∀ a b : Int, icmp a b ≤ 0 → a ≠ b → a < b := fun a b h hne => by unfold icmp at h; split at h <;> (try split at h) <;> omega
  have e2 : ∀ a b : Int, a < b → icmp a b = -1 := fun a b h => (icmp_lt a b).2 h
  unfold vcmp
  have L := lcmp_trans s1.toList s2.toList s3.toList
  by_cases ha : k1 = k2
  · subst ha
    by_cases hb : k1 = k3
    · subst hb
      simp only [if_true]
      by_cases hc : n1 = n2
      · subst hc
        by_cases hd : n1 = n3
        · subst hd; simpa using L
        · simp only [if_true, if_neg hd]; intro _ h; have := e2 _ _ (e1 _ _ h hd); omega
      · simp only [if_neg hc]
        by_cases hd : n2 = n3
        · subst hd; simp only [if_true, if_neg hc]; intro h _; have := e2 _ _ (e1 _ _ h hc); omega
        · simp only [if_neg hd]; intro h h'
          have a1 := e1 _ _ h hc; have a2 := e1 _ _ h' hd
          rw [if_neg (by omega), e2 n1 n3 (by omega)]; omega
    · simp only [if_true, if_neg hb]; intro _ h; have := e2 _ _ (e1 _ _ h hb); omega
  · simp only [if_neg ha]
    by_cases hb : k2 = k3
    · subst hb; simp only [if_true, if_neg ha]; intro h _; have := e2 _ _ (e1 _ _ h ha); omega
    · simp only [if_neg hb]; intro h h'
      have a1 := e1 _ _ h ha; have a2 := e1 _ _ h' hb
      rw [if_neg (by omega), e2 k1 k3 (by omega)]; omega

theorem vc_0 {k n k' n' : Int} {s s' : ByteArray} (h1 : k = k') (h2 : n = n') (h3 : s.toList = s'.toList) : 0 = vcmp k n s k' n' s' := ((vcmp_zero _ _ _ _ _ _).2 ⟨h1, h2, h3⟩).symm
theorem vc_s {k n k' n' : Int} {s s' : ByteArray} (h1 : k = k') (h2 : n = n') : lcmp s.toList s'.toList = vcmp k n s k' n' s' := by simp [vcmp, h1, h2]
theorem vc_n {k n k' n' : Int} {s s' : ByteArray} (h1 : k = k') (h2 : ¬ n = n') : icmp n n' = vcmp k n s k' n' s' := by simp [vcmp, h1, h2]
theorem vc_k {k n k' n' : Int} {s s' : ByteArray} (h1 : ¬ k = k') : icmp k k' = vcmp k n s k' n' s' := by simp [vcmp, h1]

/-- May a value be? -/
def rightB (k n : Int) (s : ByteArray) : Bool :=
  if k = 0 then decide (n = 0) && s.toList.isEmpty else if k = 1 then (decide (n = 0) || decide (n = 1)) && s.toList.isEmpty else if k = 2 then s.toList.isEmpty
  else if k = 3 then decide (n = 0) && decide ((s.size : Int) ≤ 4096) else false

theorem drop_at (s : ByteArray) (i : Nat) (h : i < s.size) : s.toList.drop i = s[i] :: s.toList.drop (i + 1) := by
  rw [ByteArray.toList_eq, List.drop_eq_getElem_cons (by simpa using h)]; rfl
theorem len_toList (s : ByteArray) : s.toList.length = s.size := by rw [ByteArray.toList_eq]; simp
/-- Where two strings are alike up to i and part there. -/
theorem lc_part {s t : ByteArray} {i : Nat} (hi : i < s.size) (hj : i < t.size) (hd : lcmp s.toList t.toList = lcmp (s.toList.drop i) (t.toList.drop i)) (hne : ((s[i].toNat : Int) != (t[i].toNat : Int)) = true) :
    decide (s[i].toNat < t[i].toNat) = decide (lcmp s.toList t.toList = -1) := by
  rw [hd, drop_at s i hi, drop_at t i hj, lcmp]
  simp only [UInt8.lt_iff_toNat_lt]
  have : ¬ (s[i].toNat : Int) = (t[i].toNat : Int) := by simpa using hne
  by_cases h : s[i].toNat < t[i].toNat
  · simp [h]
  · have h' : t[i].toNat < s[i].toNat := by omega
    simp [h, h']
theorem lc_on {s t : ByteArray} {i : Nat} (hi : i < s.size) (hj : i < t.size) (hd : lcmp s.toList t.toList = lcmp (s.toList.drop i) (t.toList.drop i)) (hne : ((s[i].toNat : Int) != (t[i].toNat : Int)) = false) :
    lcmp s.toList t.toList = lcmp (s.toList.drop (i + 1)) (t.toList.drop (i + 1)) := by
  rw [hd, drop_at s i hi, drop_at t i hj, lcmp]
  have e : s[i].toNat = t[i].toNat := by have : (s[i].toNat : Int) = (t[i].toNat : Int) := by simpa using hne
                                         omega
  simp only [UInt8.lt_iff_toNat_lt]
  rw [if_neg (by omega), if_neg (by omega)]
theorem lc_end {s t : ByteArray} {i : Nat} (hi : i ≤ s.size) (hj : i ≤ t.size) (hd : lcmp s.toList t.toList = lcmp (s.toList.drop i) (t.toList.drop i)) (h : ¬ (i < s.size ∧ i < t.size)) :
    decide (s.size < t.size) = decide (lcmp s.toList t.toList = -1) := by
  rw [hd]
  by_cases h1 : i < s.size
  · have h2 : i = t.size := by omega
    rw [drop_at s i h1, List.drop_eq_nil_of_le (as := t.toList) (by rw [len_toList]; omega)]
    simp [lcmp]; omega
  · have h1' : i = s.size := by omega
    rw [List.drop_eq_nil_of_le (as := s.toList) (by rw [len_toList]; omega)]
    by_cases h2 : i < t.size
    · rw [drop_at t i h2]; simp [lcmp]; omega
    · rw [List.drop_eq_nil_of_le (as := t.toList) (by rw [len_toList]; omega)]; simp [lcmp]; omega
/-- Is a value ahead of another one? -/
def lessB (k n : Int) (s : ByteArray) (k' n' : Int) (s' : ByteArray) : Bool := decide (vcmp k n s k' n' s' = -1)
theorem less_k {k n k' n' : Int} {s s' : ByteArray} (h : ¬ k = k') : decide (k < k') = lessB k n s k' n' s' := by simp [lessB, vcmp, h, icmp_lt]
theorem less_n {k n k' n' : Int} {s s' : ByteArray} (h : k = k') (h2 : ¬ n = n') : decide (n < n') = lessB k n s k' n' s' := by simp [lessB, vcmp, h, h2, icmp_lt]
theorem less_s (k n : Int) (s s' : ByteArray) : lessB k n s k n s' = decide (lcmp s.toList s'.toList = -1) := by simp [lessB, vcmp]
theorem cm_m1 {k n k' n' : Int} {s s' : ByteArray} (h : lessB k n s k' n' s' = true) : -1 = vcmp k n s k' n' s' := (of_decide_eq_true h).symm
theorem cm_p1 {k n k' n' : Int} {s s' : ByteArray} (h : lessB k' n' s' k n s = true) : 1 = vcmp k n s k' n' s' := by
  have := of_decide_eq_true h
  rw [vcmp_swap] at this
  omega
theorem cm_0 {k n k' n' : Int} {s s' : ByteArray} (h : lessB k n s k' n' s' = false) (h' : lessB k' n' s' k n s = false) : 0 = vcmp k n s k' n' s' := by
  have h1 := of_decide_eq_false h
  have h2 := of_decide_eq_false h'
  rw [vcmp_swap] at h2
  have := vcmp_range k n s k' n' s'
  omega

theorem bytes_ext {s t : ByteArray} (h : s.toList = t.toList) : s = t := by
  rw [ByteArray.toList_eq, ByteArray.toList_eq] at h
  obtain ⟨⟨a⟩⟩ := s
  obtain ⟨⟨b⟩⟩ := t
  simp at h
  rw [h]

/-- What three values' orders may be: one of thirteen. -/
theorem vcmp_thirteen (k1 n1 : Int) (s1 : ByteArray) (k2 n2 : Int) (s2 : ByteArray) (k3 n3 : Int) (s3 : ByteArray) :
    ∃ x y z : Int, vcmp k1 n1 s1 k2 n2 s2 = x ∧ vcmp k2 n2 s2 k3 n3 s3 = y ∧ vcmp k1 n1 s1 k3 n3 s3 = z ∧
      ((x = 0 ∧ y = 0 ∧ z = 0) ∨ (x = -1 ∧ y = -1 ∧ z = -1) ∨ (x = -1 ∧ y = 0 ∧ z = -1) ∨ (x = 0 ∧ y = -1 ∧ z = -1) ∨ (x = 1 ∧ y = 1 ∧ z = 1) ∨ (x = 1 ∧ y = 0 ∧ z = 1) ∨ (x = 0 ∧ y = 1 ∧ z = 1) ∨
       (x = -1 ∧ y = 1 ∧ z = -1) ∨ (x = -1 ∧ y = 1 ∧ z = 0) ∨ (x = -1 ∧ y = 1 ∧ z = 1) ∨ (x = 1 ∧ y = -1 ∧ z = -1) ∨ (x = 1 ∧ y = -1 ∧ z = 0) ∨ (x = 1 ∧ y = -1 ∧ z = 1)) := by
  refine ⟨_, _, _, rfl, rfl, rfl, ?_⟩
  have a := vcmp_range k1 n1 s1 k2 n2 s2
  have b := vcmp_range k2 n2 s2 k3 n3 s3
  have c := vcmp_range k1 n1 s1 k3 n3 s3
  have f := vcmp_trans k1 n1 s1 k2 n2 s2 k3 n3 s3
  have b' := vcmp_trans k3 n3 s3 k2 n2 s2 k1 n1 s1
  rw [vcmp_swap k2 n2 s2 k3 n3 s3, vcmp_swap k1 n1 s1 k2 n2 s2, vcmp_swap k1 n1 s1 k3 n3 s3] at b'
  have e1 : vcmp k1 n1 s1 k2 n2 s2 = 0 → vcmp k2 n2 s2 k3 n3 s3 = 0 → vcmp k1 n1 s1 k3 n3 s3 = 0 := fun h1 h2 => by
    obtain ⟨p1, p2, p3⟩ := (vcmp_zero _ _ _ _ _ _).1 h1
    obtain ⟨q1, q2, q3⟩ := (vcmp_zero _ _ _ _ _ _).1 h2
    exact (vcmp_zero _ _ _ _ _ _).2 ⟨p1.trans q1, p2.trans q2, p3.trans q3⟩
  generalize vcmp k1 n1 s1 k2 n2 s2 = x at *
  generalize vcmp k2 n2 s2 k3 n3 s3 = y at *
  generalize vcmp k1 n1 s1 k3 n3 s3 = z at *
  have hx : x = -1 ∨ x = 0 ∨ x = 1 := by omega
  have hy : y = -1 ∨ y = 0 ∨ y = 1 := by omega
  have hz : z = -1 ∨ z = 0 ∨ z = 1 := by omega
  clear a b c
  rcases hx with rfl | rfl | rfl <;> rcases hy with rfl | rfl | rfl <;> rcases hz with rfl | rfl | rfl <;> first | decide | (exfalso; revert f b' e1; decide)

end Go.Proofs.Ytjdpgehmkcdmfaa
