/- For every byte, as rights, and every string: the text of the rights, and what Parse tells of that text and of the string (RightsTexts returns true). No condition. -/
import Derived.Test.YtgcnnmhjadfgkaaRows
import Derived.Test.YtgcnnmhjadfgkaaLaw16
import Derived.OpenShut
import Derived.ShutString
import Derived.Laws.StructEq
namespace Go.Proofs.Ytgcnnmhjadfgkaa.rightsTexts
set_option maxRecDepth 100000
set_option linter.unusedSimpArgs false
set_option linter.unusedVariables false
open Go.ChangeShapes Go.WideShapes Go.ChangeAt Go.RowKit
open Go.ChangeMaps (open_string shut_string)
theorem own : ownKnob Try.prog.godebug = none := by kernel_rfl
theorem laidOut : laidOutB Try.prog = true := by kernel_rfl
theorem rt_mod : ∀ n : Fin 256, rt (n.1 % 32) = rt n.1 := by decide +kernel
theorem rt_inj : ∀ a b : Fin 32, rt a.1 = rt b.1 → a = b := by decide +kernel
theorem str_ne {s : ByteArray} {l : List UInt8} (h : l ≠ s.data.toList) : ¬ (⟨l.toArray⟩ : ByteArray) = s := fun e => h (by rw [← e])
theorem str_eq {s : ByteArray} {l : List UInt8} (h : l = s.data.toList) : (⟨l.toArray⟩ : ByteArray) = s := by subst h; rfl
theorem bytes_eq {s t : ByteArray} (h : s.toList = t.toList) : s = t := by
  rw [ByteArray.toList_eq, ByteArray.toList_eq] at h
  obtain ⟨⟨a⟩⟩ := s
  obtain ⟨⟨b⟩⟩ := t
  simp at h
  rw [h]
theorem walk_big (n : Nat) (s : ByteArray) (w : World) (hs : 100 < s.size) :
    Calls Try.prog 4 #[.int .u8 n, .string s] w fun e w' => e = .returned (.bool true) ∧ Below w.heap.size w w' := by
  have h10 : (100 : Int) < (s.size : Int) := by omega
  go_enter Try.func4, Try.ntmps4
  go_wp2_with fail
  refine (lives16 _).mono ?_
  rintro e w1 ⟨rfl, g1⟩
  have G1 := Lib.hid g1
  clear g1
  go_wp2_with fail
  refine (lives16 _).mono ?_
  rintro e w2 ⟨rfl, g2⟩
  have G2 := Lib.hid g2
  clear g2
  go_wp2_with fail
  go_ret
  exact ⟨rfl, G1.out.trans (G2.out.mono G1.out.size)⟩
set_option maxHeartbeats 8000000 in
theorem walk_small (n : Nat) (s : ByteArray) (w : World) (hn : n < 256) (hs : s.size ≤ 100) :
    Calls Try.prog 4 #[.int .u8 n, .string s] w fun e w' => e = .returned (.bool true) ∧ Below w.heap.size w w' := by
  have h10 : ¬ (100 : Int) < (s.size : Int) := by omega
  have e32 : (n : Int).tmod 32 = ((n % 32 : Nat) : Int) := by rw [Int.tmod_eq_emod_of_nonneg (Int.natCast_nonneg _)]; omega
  have hm := rt_mod ⟨n, hn⟩
  simp only at hm
  obtain ⟨m, hmm⟩ : ∃ m, m = n % 32 := ⟨_, rfl⟩
  have hm32 : m < 32 := by rw [hmm]; exact Nat.mod_lt _ (by decide)
  rw [← hmm] at e32 hm
  have HT := Lib.hid (fun W => rtext n hn W)
  have HS := Lib.hid hs
  rw [← hm] at HT
  clear hm hmm
  go_enter Try.func4, Try.ntmps4
  go_wp2_with fail
  refine (lives16 _).mono ?_
  rintro e w1 ⟨rfl, g1⟩
  have G1 := Lib.hid g1
  clear g1
  go_wp2_with fail
  refine (HT.out _).mono ?_
  rintro e w2 ⟨rfl, g2⟩
  have G2 := Lib.hid (G1.out.trans (g2.mono G1.out.size))
  clear g2 G1
  go_wp2_with fail
  refine (ltext m (by omega) _).mono ?_
  rintro e w' ⟨rfl, rfl⟩
  go_wp2_with fail
  refine (ltext m (by omega) _).mono ?_
  rintro e w' ⟨rfl, rfl⟩
  go_wp2_with fail
  refine (rparse _ (by simp [ByteArray.size, rt]) _).mono ?_
  rintro e w' ⟨hp, rfl⟩
  obtain rfl : e = .returned (.tuple #[.int .u8 m, .int .i64 0]) := by
    rcases hp with ⟨k, hk, e1, e2⟩ | ⟨e1, _⟩
    · have := rt_inj ⟨k, hk⟩ ⟨m, hm32⟩ (by simpa using e1)
      rw [e2, (Fin.mk.inj this)]
    · exact absurd (by simp) (e1 m hm32)
  clear hp
  go_wp2_with fail
  refine (rparse s (by omega) _).mono ?_
  rintro e w' ⟨hp, rfl⟩
  obtain ⟨g, er, rfl, hge⟩ : ∃ (g er : Int), e = .returned (.tuple #[.int .u8 g, .int .i64 er]) ∧ ((∃ k : Nat, k < 32 ∧ rt k = s.data.toList ∧ g = k ∧ er = 0) ∨ ((∀ k, k < 32 → rt k ≠ s.data.toList) ∧ g = 0 ∧ er = 10)) := by
    rcases hp with ⟨k, hk, e1, e2⟩ | ⟨e1, e2⟩
    · exact ⟨_, _, e2, .inl ⟨k, hk, e1, rfl, rfl⟩⟩
    · exact ⟨_, _, e2, .inr ⟨e1, rfl, rfl⟩⟩
  have HP := Lib.hid hge
  clear hp hge
  go_wp2_with fail
  go_loopg [36] 32 (fun c' s36 wr => ∃ j : Nat, j + c' = 32 ∧ s36 = .int .u8 j ∧ (∀ k, k < j → rt k ≠ s.data.toList) ∧ wr = w2)
  case atStart => exact ⟨0, rfl, rfl, fun k hk => absurd hk (Nat.not_lt_zero _), rfl⟩
  case round =>
    obtain ⟨j, hj, rfl, hno, rfl⟩ := hrel
    by_cases h1 : j < 32
    · have HM := Lib.hid (show j + 1 + (gk - 1) = 32 by omega)
      have HG := Lib.hid (show 0 < gk by omega)
      have HN := Lib.hid hno
      have h11 : (j : Int) < 32 := by omega
      have h12 : (0 : Int) ≤ (j : Int) := by omega
      clear hj hno
      go_wp2_with fail
      refine (ltext j (by omega) _).mono ?_
      rintro e w' ⟨rfl, rfl⟩
      by_cases h2 : rt j = s.data.toList
      · have h3 := str_eq h2
        rw [h3]
        obtain ⟨rfl, rfl⟩ : g = (j : Int) ∧ er = 0 := by
          rcases HP.out with ⟨k, hk, e1, e2, e3⟩ | ⟨e1, _⟩
          · have := rt_inj ⟨k, hk⟩ ⟨j, h1⟩ (e1.trans h2.symm)
            exact ⟨by rw [e2, Fin.mk.inj this], e3⟩
          · exact absurd h2 (e1 j h1)
        go_wp2_with fail
        go_ret
        exact ⟨rfl, G2.out⟩
      · have h3 := str_ne h2
        generalize (⟨(rt j).toArray⟩ : ByteArray) = T at h3 ⊢
        have h4 : (T.toList == s.toList) = false := beq_eq_false_iff_ne.2 fun h => h3 (bytes_eq h)
        go_wp2_with fail
        go_roundg (gk - 1)
        case measure => have := HG.out; omega
        case rel => exact ⟨_, HM.out, rfl, fun k hk => by
          by_cases e : k = j
          · rw [e]; exact h2
          · exact HN.out k (by omega), rfl⟩
    · obtain rfl : j = 32 := by omega
      obtain ⟨rfl, rfl⟩ : g = 0 ∧ er = 10 := by
        rcases HP.out with ⟨k, hk, e1, _⟩ | ⟨_, e2, e3⟩
        · exact absurd e1 (hno k hk)
        · exact ⟨e2, e3⟩
      clear hj hno
      go_wp2_with fail
      go_ret
      exact ⟨rfl, G2.out⟩
theorem walk (n : Nat) (s : ByteArray) (w : World) (hn : n < 256) :
    Calls Try.prog 4 #[.int .u8 n, .string s] w fun e w' => e = .returned (.bool true) ∧ Below w.heap.size w w' := by
  by_cases h : s.size ≤ 100
  · exact walk_small n s w hn h
  · exact walk_big n s w (by omega)

set_option maxRecDepth 100000 in
theorem lifted (os : Go.Os) (started : os.Started) (H : Type) (enc : TypeId × Value → H) :
    ReturnsInHanded {} Try.checked os 4 .any (Rows.rightsTextsSpec.pre6 enc Try.prog Try.f4 Rows.rightsTextsRow.domain false) (Rows.rightsTextsSpec.post enc Try.prog Try.f4 false true false false) := by
  refine returnsInHanded_of_change (C := Try.checked) own started (by kernel_rfl) Try.func4
    (ChangeSpec.witness6 (enc := enc) (C := Try.checked) false ⟨#[], #[.int .u8 0, .string ByteArray.empty], []⟩ 8 (by kernel_rfl) (by kernel_rfl) (by kernel_rfl) (by kernel_rfl)) ?_
  intro W base args ds gs before hval0 hW _ _
  have hval : ∀ (j : Nat) t v, Try.f4.params[j]? = some t → args[j]? = some v → Value.okWide Try.prog W .any base t v := hval0
  have hW' := hW
  obtain ⟨p, q, hA0, hV, rfl, _, _⟩ := hW
  have hA : DataW.TrodAll enc Try.prog W 0 (fun _ => true) true Try.f4.params.toList args.toList ds p := hA0
  rw [Try.params4] at hA hval
  obtain ⟨v0, vs0, d0, ds0, p0, q0, hargs, rfl, rfl, h0, r0⟩ := trodAll_cons hA
  obtain ⟨v1, vs1, d1, ds1, p1, q1, rfl, rfl, rfl, h1, r1⟩ := trodAll_cons r0
  obtain ⟨rfl, rfl, rfl⟩ := trodAll_nil r1
  obtain rfl : args = #[v0, v1] := by cases args; simp_all
  obtain ⟨rfl, rfl⟩ := trodVars_none hV
  simp only [List.append_nil] at hW'
  obtain ⟨a0, rfl, rfl, rfl, w0⟩ := open_int Try.underlying5 (hval 0 5 v0 rfl rfl) h0
  have b0 := bounds_u8 w0
  obtain ⟨a0, rfl⟩ := Int.eq_ofNat_of_zero_le b0.1
  obtain ⟨a1, rfl, rfl, rfl, w1⟩ := open_string Try.underlying9 (hval 1 9 v1 rfl rfl) h1
  clear hA0 hval0
  refine (walk a0 a1 W (by omega)).mono fun e W' ⟨he, hg⟩ => ?_
  subst he
  refine ⟨_, rfl, _, _, _, [], [], [], hW', ?_, ?_, ?_, hg.frame _, fun h => by cases h⟩
  · exact trodAll_cons_mk (shut_bool Try.underlying4 _) trodAll_mk0
  · exact (trodAll_cons_mk (shut_int Try.underlying5 w0) (trodAll_cons_mk (shut_string Try.underlying9 w1) trodAll_mk0))
  · rfl

theorem over : Rows.rightsTextsRow.holds Try.pinned (OpenSpec.ofChange Rows.rightsTextsSpec) :=
  OpenClaim.holds_of_wide 4 Try.f4 rfl rfl rfl rfl rfl rfl rfl ⟨rfl, rfl, rfl, rfl, rfl⟩ rfl rfl rfl rfl rfl (by kernel_rfl) Try.func4 (by kernel_rfl)
    (of_decide_eq_true (by kernel_rfl)) (by unfold Func.isWrapper; first | (rw [if_pos (by decide +kernel)]; kernel_rfl) | (rw [if_neg (by decide +kernel)]; exact ⟨rfl, rfl⟩))
    (fun os started H enc _ => lifted os started H enc)

theorem proved : Rows.RightsTextsSaid :=
  over
#print axioms proved
end Go.Proofs.Ytgcnnmhjadfgkaa.rightsTexts
