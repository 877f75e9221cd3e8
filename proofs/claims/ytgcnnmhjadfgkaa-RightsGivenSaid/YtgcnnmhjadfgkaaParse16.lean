/- Package rights: Parse: the contract, for every string. -/
import Derived.Test.YtgcnnmhjadfgkaaText16
namespace Go.Proofs.Ytgcnnmhjadfgkaa
set_option maxRecDepth 100000
set_option linter.unusedSimpArgs false
set_option linter.unusedVariables false
open Go.RowKit
theorem lt1_or (n j : Nat) : lt1 n j = ltr j ∨ lt1 n j = 45 := by
  unfold lt1
  split <;> simp
theorem rt_at (n j : Nat) (hj : j < 5) : (rt n)[j]? = some (lt1 n j) := by
  have h5 : j = 0 ∨ j = 1 ∨ j = 2 ∨ j = 3 ∨ j = 4 := by omega
  rcases h5 with rfl | rfl | rfl | rfl | rfl <;> rfl
/-- What Parse has read: the first j letters are those of n. -/
structure Pj (l : List UInt8) (j n : Nat) : Prop where
  lt : n < 2 ^ j
  at' : ∀ i, i < j → l[i]? = some (lt1 n i)
theorem or_lt {n j : Nat} (h : n < 2 ^ j) : n ||| 2 ^ j < 2 ^ (j + 1) := Nat.or_lt_two_pow (Nat.lt_of_lt_of_le h (Nat.pow_le_pow_right (by decide) (by omega))) (Nat.pow_lt_pow_right (by decide) (by omega))
theorem lt1_or_self {n j : Nat} : lt1 (n ||| 2 ^ j) j = ltr j := by
  unfold lt1
  rw [Nat.testBit_or, Nat.testBit_two_pow]
  simp
theorem lt1_or_less {n j i : Nat} (h : i < j) : lt1 (n ||| 2 ^ j) i = lt1 n i := by
  unfold lt1
  rw [Nat.testBit_or, Nat.testBit_two_pow, decide_eq_false (by omega), Bool.or_false]
theorem lt1_small {n j : Nat} (h : n < 2 ^ j) : lt1 n j = 45 := by
  unfold lt1
  rw [Nat.testBit_lt_two_pow h]
  rfl
theorem Pj.yes {l : List UInt8} {j n : Nat} (h : Pj l j n) (hl : l[j]? = some (ltr j)) : Pj l (j + 1) (n ||| 2 ^ j) := by
  refine ⟨or_lt h.lt, fun i hi => ?_⟩
  by_cases e : i = j
  · subst e; rw [hl, lt1_or_self]
  · rw [lt1_or_less (by omega), h.at' i (by omega)]
theorem Pj.no {l : List UInt8} {j n : Nat} (h : Pj l j n) (hl : l[j]? = some 45) : Pj l (j + 1) n := by
  refine ⟨Nat.lt_of_lt_of_le h.lt (Nat.pow_le_pow_right (by decide) (by omega)), fun i hi => ?_⟩
  by_cases e : i = j
  · subst e; rw [hl, lt1_small h.lt]
  · exact h.at' i (by omega)
theorem Pj.eq {l : List UInt8} {n : Nat} (h : Pj l 5 n) (hl : l.length = 5) : rt n = l := by
  refine List.ext_getElem? fun i => ?_
  by_cases hi : i < 5
  · rw [rt_at n i hi, h.at' i hi]
  · rw [List.getElem?_eq_none (by show (rt n).length ≤ i; show 5 ≤ i; omega), List.getElem?_eq_none (by omega)]
/-- What Parse tells of a text. -/
def ParseR (l : List UInt8) (e : Ending) : Prop := (∃ k : Nat, k < 32 ∧ rt k = l ∧ e = .returned (.tuple #[.int .u8 k, .int .i64 0])) ∨ ((∀ k, k < 32 → rt k ≠ l) ∧ e = .returned (.tuple #[.int .u8 0, .int .i64 10]))
set_option maxHeartbeats 2000000 in
theorem rparse (s : ByteArray) (hs : s.size ≤ 140737488355328) (w : World) : Calls Try.prog 12 #[.string s] w fun e w' => ParseR s.data.toList e ∧ w = w' := by
  have hl0 : s.data.toList.length = s.size := Array.length_toList
  by_cases h5 : s.size = 5
  · have HS := Lib.hid h5
    have hi5 : (s.size : Int) = 5 := by omega
    clear h5
    go_enter Try.func12, Try.ntmps12
    go_wp2_with fail
    go_loopg [11, 4] 5 (fun c' s11 s4 wr => ∃ j n : Nat, j + c' = 5 ∧ s11 = .int .i64 j ∧ s4 = .int .u8 n ∧ Pj s.data.toList j n ∧ wr = w)
    case atStart => exact ⟨0, 0, rfl, rfl, rfl, ⟨by decide, fun i hi => absurd hi (Nat.not_lt_zero _)⟩, rfl⟩
    case round =>
      obtain ⟨j, n, hj, rfl, rfl, hp, rfl⟩ := hrel
      have HJ := Lib.hid (And.intro hj (And.intro hp hl0))
      by_cases h1 : j < 5
      · have hjs : j < s.size := by rw [HS.out]; exact h1
        have hx : s.data.toList[j]? = some s[j] := by
          rw [List.getElem?_eq_getElem (by rw [hl0]; exact hjs)]
          simp [ByteArray.getElem_eq_getElem_data]
        have HX := Lib.hid hx
        have hra := fun W => rat j h1 W
        obtain ⟨m, hm⟩ : ∃ m, m = j + 1 := ⟨_, rfl⟩
        have HM := Lib.hid (show m + (gk - 1) = 5 by omega)
        have HG := Lib.hid (show 0 < gk by omega)
        have h10 : (j : Int) < 5 := by omega
        have h11 : (0 : Int) ≤ (j : Int) := by omega
        have HO := Lib.hid (show bits .or .u8 (n : Int) ((2 ^ j : Nat) : Int) = ((n ||| 2 ^ j : Nat) : Int) from u8_or_nat n (2 ^ j) (Nat.lt_trans hp.lt (pow5 h1)) (pow5 h1))
        clear hj hp hl0 hx
        have h5 : j = 0 ∨ j = 1 ∨ j = 2 ∨ j = 3 ∨ j = 4 := by omega
        by_cases e1 : s[j] = ltr j
        · have e2 : ((s[j].toNat : Nat) : Int) = ((ltr j).toNat : Int) := by rw [e1]
          rcases h5 with rfl | rfl | rfl | rfl | rfl <;>
          · simp only [ltr] at e2
            go_wp2_with fail
            refine (hra _).mono ?_
            rintro e w' ⟨rfl, rfl⟩
            go_wp2_with fail
            go_roundg (gk - 1)
            case measure => have := HG.out; omega
            case rel => exact ⟨m, _, HM.out, by rw [hm]; rfl, by have := HO.out; simp only [Nat.reducePow] at this; first | exact congrArg (Value.int .u8) this | rw [← this], by rw [hm]; exact HJ.out.2.1.yes (by rw [HX.out, e1]), rfl⟩
        · have e2 : ¬ ((s[j].toNat : Nat) : Int) = ((ltr j).toNat : Int) := fun e => e1 (UInt8.toNat.inj (Int.ofNat.inj e))
          by_cases e3 : s[j] = 45
          · have e4 : ((s[j].toNat : Nat) : Int) = 45 := by rw [e3]; rfl
            rcases h5 with rfl | rfl | rfl | rfl | rfl <;>
            · simp only [ltr] at e2
              go_wp2_with fail
              go_roundg (gk - 1)
              case measure => have := HG.out; omega
              case rel => exact ⟨m, _, HM.out, by rw [hm]; rfl, rfl, by rw [hm]; exact HJ.out.2.1.no (by rw [HX.out, e3]), rfl⟩
          · have e4 : ¬ ((s[j].toNat : Nat) : Int) = 45 := fun e => e3 (UInt8.toNat.inj (Int.ofNat.inj e))
            have hno : ∀ k, k < 32 → rt k ≠ s.data.toList := fun k hk e => by
              have h1' := rt_at k j h1
              rw [e, HX.out] at h1'
              have h2' := Option.some.inj h1'
              rcases lt1_or k j with h3 | h3
              · exact e1 (h2'.trans h3)
              · exact e3 (h2'.trans h3)
            have HNO := Lib.hid hno
            have e5 : (((s[j].toNat : Nat) : Int) == (((⟨#[114, 100, 116, 103, 118]⟩ : ByteArray)[j]'h1).toNat : Int)) = false := by
              rw [beq_eq_false_iff_ne]
              rcases h5 with rfl | rfl | rfl | rfl | rfl <;> exact e2
            clear hno e2
            rcases h5 with rfl | rfl | rfl | rfl | rfl <;>
            · go_wp2_with fail
              go_ret2
              exact ⟨.inr ⟨HNO.out, rfl⟩, rfl⟩
      · obtain rfl : j = 5 := by omega
        clear hj hp hl0
        go_wp2_with fail
        go_ret2
        exact ⟨.inl ⟨n, HJ.out.2.1.lt, HJ.out.2.1.eq (by rw [HJ.out.2.2, HS.out]), rfl⟩, rfl⟩
  · have HN := Lib.hid (show ∀ k, k < 32 → rt k ≠ s.data.toList from fun k _ e => h5 (by have := congrArg List.length e; rw [hl0] at this; exact this.symm))
    have hi5 : ¬ (s.size : Int) = 5 := by omega
    clear h5 hl0
    go_enter Try.func12, Try.ntmps12
    go_wp2_with fail
    go_ret2
    exact ⟨.inr ⟨HN.out, rfl⟩, rfl⟩
end Go.Proofs.Ytgcnnmhjadfgkaa
