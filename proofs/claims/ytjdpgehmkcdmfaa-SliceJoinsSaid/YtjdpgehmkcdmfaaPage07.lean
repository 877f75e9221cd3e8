/- Package slice: Page. -/
import Derived.Test.YtjdpgehmkcdmfaaPart07
namespace Go.Proofs.Ytjdpgehmkcdmfaa
open Go.RowKit

section
variable {b most : Nat} {M : Cells} {F : Nat → Prop}
set_option maxRecDepth 100000 in
theorem vpage_arg (a : Value) (v : Vc) (f n : Int) (w : World) (h : n < 0 ∨ 64 < n) :
    Calls Try.prog 34 #[a, vagg v, .int .i64 f, .int .i64 n] w fun e w' => e = .returned (.tuple #[.slice none 0 0, .int .i64 1]) ∧ Below w.heap.size w w' := by
  rcases Int.lt_or_le n 0 with h1 | h1
  · clear h
    go_enter Try.func34, Try.ntmps34
    go_wp2_with fail
    exact bodyPost_ret (v := .tuple #[.slice none 0 0, .int .i64 1]) (by simp [results, Try.results34, go_sem]) rfl ⟨rfl, (Below.refl _ w).alloc (Nat.le_refl _) _⟩
  · have h2 : 64 < n := by omega
    have h3 : ¬ n < 0 := by omega
    clear h
    go_enter Try.func34, Try.ntmps34
    go_wp2_with fail
    exact bodyPost_ret (v := .tuple #[.slice none 0 0, .int .i64 1]) (by simp [results, Try.results34, go_sem]) rfl ⟨rfl, (Below.refl _ w).alloc (Nat.le_refl _) _⟩
set_option maxRecDepth 100000 in
theorem vpage_range (a : Value) (v : Vc) (f n : Int) (w : World) (h0 : 0 ≤ n) (h64 : n ≤ 64) (h : f < 0 ∨ (v.n : Int) < f) :
    Calls Try.prog 34 #[a, vagg v, .int .i64 f, .int .i64 n] w fun e w' => e = .returned (.tuple #[.slice none 0 0, .int .i64 3]) ∧ Below w.heap.size w w' := by
  have g1 : ¬ n < 0 := by omega
  have g2 : ¬ 64 < n := by omega
  rcases Int.lt_or_le f 0 with h1 | h1
  · clear h
    go_enter Try.func34, Try.ntmps34
    go_wp2_with fail
    exact bodyPost_ret (v := .tuple #[.slice none 0 0, .int .i64 3]) (by simp [results, Try.results34, go_sem]) rfl ⟨rfl, (Below.refl _ w).alloc (Nat.le_refl _) _⟩
  · have h2 : (v.n : Int) < f := by omega
    have h3 : ¬ f < 0 := by omega
    clear h
    go_enter Try.func34, Try.ntmps34
    go_wp2_with fail
    exact bodyPost_ret (v := .tuple #[.slice none 0 0, .int .i64 3]) (by simp [results, Try.results34, go_sem]) rfl ⟨rfl, (Below.refl _ w).alloc (Nat.le_refl _) _⟩
def Paged (w : World) (xs : Vs) (e : Ending) (w' : World) : Prop := ∃ x, e = .returned (.tuple #[x, .int .i64 0]) ∧ w'.ownsRow w.heap.size 38 3 x xs.length (xs.flatMap cells3) ∧ Below w.heap.size w w'
set_option maxRecDepth 100000 in
theorem vpage (v : Vc) (l : Vs) (f n : Nat) (w : World) (h : Ar w b most M F) (hv : VecIs M v l) (h64 : n ≤ 64) (hf : f ≤ l.length) :
    Calls Try.prog 34 #[ap b, vagg v, .int .i64 f, .int .i64 n] w (Paged w ((l.drop f).take n)) := by
  have hn := hv.n
  have hle := hv.le
  have hvn : (v.n : Int) ≤ 1024 := by omega
  have g1 : ¬ (n : Int) < 0 := by omega
  have g2 : ¬ 64 < (n : Int) := by omega
  have g3 : ¬ (f : Int) < 0 := by omega
  have g4 : ¬ (v.n : Int) < (f : Int) := by omega
  have hb1 : Below w.heap.size w (w.alloc (.cells #[.int .i64 (v.n : Int), .int .i64 (v.root : Int), .int .i64 (v.tail : Int)] 30)) := (Below.refl _ w).alloc (Nat.le_refl _) _
  have hp := vpart v l f (f + min n (l.length - f)) _ (h.below hb1) hv (by omega) (by omega)
  rw [show f + min n (l.length - f) - f = min n (l.length - f) by omega, show (l.drop f).take (min n (l.length - f)) = (l.drop f).take n by
    rcases Nat.le_total n (l.length - f) with e | e
    · rw [Nat.min_eq_left e]
    · rw [Nat.min_eq_right e, List.take_of_length_le (by rw [List.length_drop]; omega), List.take_of_length_le (by rw [List.length_drop]; omega)]] at hp
  have HB := Lib.hid hb1
  have fin : ∀ (w2 : World) (x : Value), w2.ownsRow (w.alloc (.cells #[.int .i64 (v.n : Int), .int .i64 (v.root : Int), .int .i64 (v.tail : Int)] 30)).heap.size 38 3 x ((l.drop f).take n).length (((l.drop f).take n).flatMap cells3) → Below (w.alloc (.cells #[.int .i64 (v.n : Int), .int .i64 (v.root : Int), .int .i64 (v.tail : Int)] 30)).heap.size (w.alloc (.cells #[.int .i64 (v.n : Int), .int .i64 (v.root : Int), .int .i64 (v.tail : Int)] 30)) w2 → Paged w ((l.drop f).take n) (.returned (.tuple #[x, .int .i64 0])) w2 := fun w2 x ho hb => ⟨x, rfl, own_less ho hb1.size, hb1.trans (hb.mono hb1.size)⟩
  have FIN := Lib.hid fin
  by_cases hm : (v.n : Int) - (f : Int) < (n : Int)
  · have he : ((f + min n (l.length - f) : Nat) : Int) = (v.n : Int) := by omega
    rw [he] at hp
    have HP := Lib.hid hp
    have he2 := Lib.hid (show (f : Int) + ((v.n : Int) - (f : Int)) = (v.n : Int) by omega)
    clear hp h hv hb1 he hn fin
    go_enter Try.func34, Try.ntmps34
    go_wp2_with fail
    rw [he2.out]
    refine HP.out.mono ?_
    rintro e w2 ⟨x, rfl, ho, hb2⟩
    have HO := Lib.hid ho
    have HB2 := Lib.hid hb2
    obtain ⟨A1, m1, rfl, _⟩ := (Rd.of_own ho).form
    clear ho hb2
    go_wp2_with fail
    exact bodyPost_ret (v := .tuple #[.slice A1 ((l.drop f).take n).length m1, .int .i64 0]) (by simp [results, Try.results34, go_sem]) rfl (FIN.out _ _ HO.out HB2.out)
  · have he : ((f + min n (l.length - f) : Nat) : Int) = (f : Int) + (n : Int) := by omega
    rw [he] at hp
    have HP := Lib.hid hp
    clear hp h hv hb1 he hn fin
    go_enter Try.func34, Try.ntmps34
    go_wp2_with fail
    refine HP.out.mono ?_
    rintro e w2 ⟨x, rfl, ho, hb2⟩
    have HO := Lib.hid ho
    have HB2 := Lib.hid hb2
    obtain ⟨A1, m1, rfl, _⟩ := (Rd.of_own ho).form
    clear ho hb2
    go_wp2_with fail
    exact bodyPost_ret (v := .tuple #[.slice A1 ((l.drop f).take n).length m1, .int .i64 0]) (by simp [results, Try.results34, go_sem]) rfl (FIN.out _ _ HO.out HB2.out)
/-- Page, of any two numbers. -/
def PagedAny (l : Vs) (f n : Int) (w : World) (e : Ending) (w' : World) : Prop := ∃ x xs er, e = .returned (.tuple #[x, .int .i64 er]) ∧ Rd w' x xs.length (xs.flatMap cells3) ∧ Below w.heap.size w w' ∧
  (((n < 0 ∨ 64 < n) ∧ er = 1 ∧ xs = []) ∨ ((0 ≤ n ∧ n ≤ 64) ∧ (f < 0 ∨ (l.length : Int) < f) ∧ er = 3 ∧ xs = []) ∨ ((0 ≤ n ∧ n ≤ 64) ∧ (0 ≤ f ∧ f ≤ l.length) ∧ er = 0 ∧ xs = (l.drop f.toNat).take n.toNat))
theorem vpage_any (v : Vc) (l : Vs) (f n : Int) (w : World) (h : Ar w b most M F) (hv : VecIs M v l) :
    Calls Try.prog 34 #[ap b, vagg v, .int .i64 f, .int .i64 n] w (PagedAny l f n w) := by
  have hn := hv.n
  by_cases h1 : n < 0 ∨ 64 < n
  · refine (vpage_arg (ap b) v f n w h1).mono ?_
    rintro e w' ⟨rfl, hb⟩
    exact ⟨_, [], 1, rfl, Rd.nil _, hb, .inl ⟨h1, rfl, rfl⟩⟩
  · by_cases h2 : f < 0 ∨ (v.n : Int) < f
    · refine (vpage_range (ap b) v f n w (by omega) (by omega) h2).mono ?_
      rintro e w' ⟨rfl, hb⟩
      exact ⟨_, [], 3, rfl, Rd.nil _, hb, .inr (.inl ⟨by omega, by omega, rfl, rfl⟩)⟩
    · have hp := vpage v l f.toNat n.toNat w h hv (by omega) (by omega)
      rw [show ((f.toNat : Nat) : Int) = f by omega, show ((n.toNat : Nat) : Int) = n by omega] at hp
      refine hp.mono ?_
      rintro e w' ⟨x, rfl, ho, hb⟩
      exact ⟨x, _, 0, rfl, Rd.of_own ho, hb, .inr (.inr ⟨by omega, by omega, rfl, rfl⟩)⟩
end

end Go.Proofs.Ytjdpgehmkcdmfaa
