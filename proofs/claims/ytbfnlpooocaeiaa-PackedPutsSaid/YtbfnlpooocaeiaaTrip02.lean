/- What was put is read: the plain side of it (bytes of numbers, texts and values, and what a reader makes of them). -/
import Derived.Test.YtbfnlpooocaeiaaVread02
namespace Go.Proofs.Ytbfnlpooocaeiaa
open Go.RowKit

theorem tk_app {x m : List UInt8} {k : Nat} (h : x.length = k) : tkB (x ++ m) 0 k = x ∧ tkL (x ++ m) 0 k = m ∧ tkE (x ++ m) 0 k = 0 := by
  have hle : k ≤ (x ++ m).length := by simp; omega
  refine ⟨?_, ?_, ?_⟩
  · rw [tkB, if_pos ⟨rfl, hle⟩, ← h]; simp
  · rw [tkL, if_pos ⟨rfl, hle⟩, ← h]; simp
  · rw [tkE, if_pos rfl, if_pos hle]

theorem leNat_leBytes_mod : ∀ (k n : Nat), Lib.leNat (Lib.leBytes k n) = n % 256 ^ k
  | 0, n => by simp [Lib.leBytes, Lib.leNat, Nat.mod_one]
  | k + 1, n => by
    rw [Lib.leBytes, Lib.leNat, leNat_leBytes_mod k, Lib.toUInt8_mod, Nat.pow_succ, Nat.mul_comm (256 ^ k) 256, Nat.mod_mul]

theorem txR_app {s : ByteArray} {m : List UInt8} {most : Int} (h : (s.size : Int) ≤ most) (h2 : s.size < 65536) : txR (txtB s ++ m) 0 most = (s.data.toList, m, 0) := by
  obtain ⟨a1, a2, a3⟩ := tk_app (x := Lib.leBytes 2 s.size) (m := s.data.toList ++ m) (Lib.leBytes_length 2 s.size)
  have hn : Lib.leNat (Lib.leBytes 2 s.size) = s.size := by rw [leNat_leBytes_mod]; exact Nat.mod_eq_of_lt h2
  obtain ⟨c1, c2, c3⟩ := tk_app (x := s.data.toList) (m := m) (k := s.size) (by simp)
  unfold txtB txR
  rw [List.append_assoc, a1, a2, a3, hn, if_pos rfl, if_neg (by omega), c1, c2, c3]

theorem txR_all {s : ByteArray} {most : Int} (h : (s.size : Int) ≤ most) (h2 : s.size < 65536) : txR (txtB s) 0 most = (s.data.toList, [], 0) := by
  have := txR_app (m := []) h h2
  rwa [List.append_nil] at this

theorem valB0 (n : Int) (s : ByteArray) : valB 0 n s = Lib.leBytes 1 0 ++ [] := by simp [valB]
theorem valB1 (n : Int) (s : ByteArray) : valB 1 n s = Lib.leBytes 1 1 ++ Lib.leBytes 1 (u64of n) := by simp [valB]
theorem valB2 (n : Int) (s : ByteArray) : valB 2 n s = Lib.leBytes 1 2 ++ Lib.leBytes 8 (u64of n) := by simp [valB]
theorem valB3 (n : Int) (s : ByteArray) : valB 3 n s = Lib.leBytes 1 3 ++ txtB s := by simp [valB]

theorem head_read (k : Nat) (hk : k < 256) (m : List UInt8) : rk (Lib.leBytes 1 k ++ m) 0 = k ∧ tkL (Lib.leBytes 1 k ++ m) 0 1 = m ∧ tkE (Lib.leBytes 1 k ++ m) 0 1 = 0 := by
  obtain ⟨a1, a2, a3⟩ := tk_app (x := Lib.leBytes 1 k) (m := m) (Lib.leBytes_length 1 _)
  refine ⟨?_, a2, a3⟩
  unfold rk
  rw [a1, leNat_leBytes_mod]
  exact Nat.mod_eq_of_lt (by omega)

/-- What is read of bytes that begin with a kind. -/
def ReadsAs (x : List UInt8) (k n : Int) (s : ByteArray) : Prop := (rk x 0 : Int) = k ∧ rN x 0 = n ∧ rS x 0 = s ∧ rL x 0 = [] ∧ rE x 0 = 0
theorem readsAs (k : Nat) (hk : k < 256) (m : List UInt8) (n : Int) (s : ByteArray) (hn : vmN k m 0 = n) (hs : vmS k m 0 = s) (hl : vmL k m 0 = []) (he : vmE k m 0 = 0) : ReadsAs (Lib.leBytes 1 k ++ m) k n s := by
  obtain ⟨e1, e2, e3⟩ := head_read k hk m
  unfold ReadsAs rN rS rL rE
  rw [e1, e2, e3]
  exact ⟨rfl, hn, hs, hl, he⟩

theorem val_read0 : ReadsAs (valB 0 0 ⟨#[]⟩) 0 0 ⟨#[]⟩ := by
  rw [valB0]
  exact readsAs 0 (by omega) [] 0 _ (by simp [vmN]) (by simp [vmS]) (by simp [vmL]) (by simp [vmE])
theorem val_read1 (n : Int) (h : n = 0 ∨ n = 1) : ReadsAs (valB 1 n ⟨#[]⟩) 1 n ⟨#[]⟩ := by
  rw [valB1]
  obtain ⟨c1, c2, c3⟩ := tk_app (x := Lib.leBytes 1 (u64of n)) (m := []) (Lib.leBytes_length 1 _)
  rw [List.append_nil] at c1 c2 c3
  refine readsAs 1 (by omega) _ n _ ?_ (by simp [vmS]) (by simpa [vmL] using c2) (by simpa [vmE] using c3)
  simp only [vmN, if_true]
  rw [c1, leNat_leBytes_mod]
  unfold u64of
  rcases h with rfl | rfl <;> simp
theorem val_read2 (n : Int) (hn : -9223372036854775808 ≤ n) (hn' : n ≤ 9223372036854775807) : ReadsAs (valB 2 n ⟨#[]⟩) 2 n ⟨#[]⟩ := by
  rw [valB2]
  obtain ⟨c1, c2, c3⟩ := tk_app (x := Lib.leBytes 8 (u64of n)) (m := []) (Lib.leBytes_length 8 _)
  rw [List.append_nil] at c1 c2 c3
  refine readsAs 2 (by omega) _ n _ ?_ (by simp [vmS]) (by simpa [vmL] using c2) (by simpa [vmE] using c3)
  have hp : (256 : Nat) ^ 8 = 18446744073709551616 := by decide
  have e : vmN 2 (Lib.leBytes 8 (u64of n)) 0 = wrap64 (Lib.leNat (tkB (Lib.leBytes 8 (u64of n)) 0 8) : Nat) := by simp [vmN]
  rw [e, c1, leNat_leBytes_mod, hp, Nat.mod_eq_of_lt (u64of_lt n)]
  unfold wrap64 u64of
  omega
theorem val_read3 (s : ByteArray) (h : (s.size : Int) ≤ 4096) : ReadsAs (valB 3 0 s) 3 0 s := by
  rw [valB3]
  have ht := txR_all (s := s) (most := 4096) h (by omega)
  exact readsAs 3 (by omega) _ 0 _ (by simp [vmN]) (by simp [vmS, ht]) (by simp [vmL, ht]) (by simp [vmE, ht])

/-- A value's bytes are read as that value. -/
theorem val_read (k n : Int) (s : ByteArray) (hn : -9223372036854775808 ≤ n) (hn' : n ≤ 9223372036854775807) (hr : rightB k n s = true) : ReadsAs (valB k n s) k n s := by
  unfold rightB at hr
  by_cases h0 : k = 0
  · subst h0
    have h : n = 0 ∧ s.toList = [] := by simpa using hr
    rw [h.1, bytes_empty h.2]
    exact val_read0
  · by_cases h1 : k = 1
    · subst h1
      have h : (n = 0 ∨ n = 1) ∧ s.toList = [] := by simpa using hr
      rw [bytes_empty h.2]
      exact val_read1 n h.1
    · by_cases h2 : k = 2
      · subst h2
        have h : s.toList = [] := by simpa using hr
        rw [bytes_empty h]
        exact val_read2 n hn hn'
      · by_cases h3 : k = 3
        · subst h3
          have h : n = 0 ∧ (s.size : Int) ≤ 4096 := by simpa using hr
          rw [h.1]
          exact val_read3 s h.2
        · simp [h0, h1, h2, h3] at hr
end Go.Proofs.Ytbfnlpooocaeiaa
