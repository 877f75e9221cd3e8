/- Layer 15's law: is a handle among some; the law's closure. -/
import Derived.Test.YtdhgblkmlkkpeaaArgs15
import Derived.Deep.CutRange
import Derived.Deep.CutBlock
import Derived.Deep.RegionHeldLaw
import Derived.Deep.LoopGhost
namespace Go.Proofs.Ytdhgblkmlkkpeaa
set_option maxRecDepth 100000
set_option linter.unusedSimpArgs false
set_option linter.unusedVariables false
open Go.RowKit
def hasB (tk : List (Int × Int)) (x y : Int) : Bool := decide ((x, y) ∈ tk)
theorem hasB_take {tk : List (Int × Int)} {j : Nat} {x y : Int} {p : Int × Int} (h : hasB (tk.take j) x y = false) (hp : tk[j]? = some p) (hn : p ≠ (x, y)) : hasB (tk.take (j + 1)) x y = false := by
  unfold hasB at h ⊢
  rw [decide_eq_false_iff_not] at h ⊢
  intro hm
  obtain ⟨i, hi⟩ := List.mem_iff_getElem?.1 hm
  rw [List.getElem?_take] at hi
  split at hi
  · rename_i h1
    rcases Nat.lt_succ_iff_lt_or_eq.1 h1 with h2 | rfl
    · exact h (List.mem_iff_getElem?.2 ⟨i, by rw [List.getElem?_take, if_pos h2]; exact hi⟩)
    · rw [hp] at hi
      exact hn (Option.some.inj hi)
  · cases hi
set_option maxHeartbeats 2000000 in
theorem lhas {v : Value} {tk : List (Int × Int)} (x y : Int) (w : World) (hr : Rw w v tk.length (h2 tk)) (hl : tk.length ≤ 1000) :
    Calls Try.prog 10 #[v, ha x y] w fun e w' => e = .returned (.bool (hasB tk x y)) ∧ Below w.heap.size w w' := by
  obtain ⟨A, c, rfl⟩ := hr.form
  obtain ⟨W0, hW0⟩ : ∃ W0, W0 = w.alloc (.cells #[.int .u64 x, .int .u64 y] 35) := ⟨_, rfl⟩
  have hb0 : Below w.heap.size w W0 := by rw [hW0]; exact (Below.refl _ w).alloc (Nat.le_refl _) _
  have hq : W0.heap[w.heap.size]? = some (.cells #[.int .u64 x, .int .u64 y] 35 (0, 0)) := by rw [hW0]; exact heap_alloc_new w _
  have HR := Lib.hid hr
  have H0 := Lib.hid (And.intro hb0 (And.intro hq hl))
  have HW := Lib.hid hW0
  have hz := H0.out.1.size
  clear hr hl hb0 hq hW0
  go_enter Try.func10, Try.ntmps10
  go_upto_region 1 with fail
  rw [← HW.out]
  generalize hzz : w.heap.size = z at hz ⊢
  clear HW
  go_wp2_with fail
  go_loopg [9] tk.length (fun c' s9 wr => ∃ j : Nat, j + c' = tk.length ∧ s9 = .int .i64 j ∧ hasB (tk.take j) x y = false ∧ Below W0.heap.size W0 wr)
  case atStart => exact ⟨0, by omega, rfl, by simp [hasB], Below.refl _ _⟩
  case round =>
    obtain ⟨j, hj, rfl, hn, hb⟩ := hrel
    subst hzz
    have HJ := Lib.hid (And.intro hj (And.intro hn hb))
    by_cases h1 : j < tk.length
    · obtain ⟨p, hp⟩ : ∃ p, tk[j]? = some p := ⟨_, List.getElem?_eq_getElem h1⟩
      obtain ⟨u0, u1⟩ := h2_at tk j p hp
      obtain ⟨g, o, c', e, hg, hat⟩ := HR.out.at u0
      simp only [Value.slice.injEq, true_and] at e
      obtain ⟨rfl, rfl⟩ := e
      have hbw : Below w.heap.size w wr := H0.out.1.trans (hb.mono hz)
      have d0 : wr.cell? ⟨g, o + j * 2, none⟩ = some (.int .u64 p.1) := (hbw.cell (p := ⟨g, _, none⟩) hg).trans (hat _ _ u0)
      have d1 : wr.cell? ⟨g, o + j * 2 + 1, none⟩ = some (.int .u64 p.2) := (hbw.cell (p := ⟨g, _, none⟩) hg).trans (by have := hat _ _ u1; rwa [← Nat.add_assoc] at this)
      have hz1 : w.heap.size < W0.heap.size := (Array.getElem?_eq_some_iff.1 H0.out.2.1).1
      have hq1 : wr.heap[w.heap.size]? = some _ := (hb.block _ hz1).trans H0.out.2.1
      obtain ⟨b0, b1, _, _⟩ := row2 hq1
      have hsz : W0.heap.size ≤ wr.heap.size := hb.size
      have h10 : (j : Int) < (tk.length : Int) := by omega
      have h11 : (0 : Int) ≤ (j : Int) := by omega
      have hw2 : wrap64 ((j : Int) + 1) = ((j + 1 : Nat) : Int) := by rw [IntWalk.wrap64_in _ (by have := H0.out.2.2; omega)]; rfl
      have HP := Lib.hid (And.intro hp hw2)
      clear hj hn hb u0 u1 hat hbw hq1 hp hw2 h1
      obtain ⟨p1, p2⟩ := p
      simp only at d0 d1
      have hbl : w.heap.size < wr.heap.size := by omega
      by_cases e1 : p1 = x
      · by_cases e2 : p2 = y
        · subst e1 e2
          go_wp2_with fail
          go_ret
          refine ⟨ret_bool ?_, (H0.out.1.trans (HJ.out.2.2.mono hz)).alloc (by omega) _⟩
          unfold hasB
          rw [eq_comm, decide_eq_true_iff]
          exact List.mem_of_getElem? HP.out.1
        · subst e1
          go_wp2_with fail
          go_roundg (tk.length - (j + 1))
          case measure => have := HJ.out.1; omega
          case rel => exact ⟨j + 1, by have := HJ.out.1; omega, by rw [HP.out.2], hasB_take HJ.out.2.1 HP.out.1 (fun e => e2 (congrArg Prod.snd e)), HJ.out.2.2.alloc hsz _⟩
      · go_wp2_with fail
        go_roundg (tk.length - (j + 1))
        case measure => have := HJ.out.1; omega
        case rel => exact ⟨j + 1, by have := HJ.out.1; omega, by rw [HP.out.2], hasB_take HJ.out.2.1 HP.out.1 (fun e => e1 (congrArg Prod.fst e)), HJ.out.2.2.alloc hsz _⟩
    · obtain rfl : j = tk.length := by omega
      clear hj hn hb
      go_wp2_with fail
      go_ret
      refine ⟨ret_bool ?_, H0.out.1.trans (HJ.out.2.2.mono hz)⟩
      have := HJ.out.2.1
      rw [List.take_length] at this
      exact this.symm
/-- The law's closure: is it among the act's taken ones? -/
theorem ltaken {v : Value} {tk : List (Int × Int)} {za : Nat} (x y : Int) (w : World) (hc : w.cell? ⟨za, 1, none⟩ = some v) (hr : Rw w v tk.length (h2 tk)) (hl : tk.length ≤ 1000) :
    Calls Try.prog 9 (#[ha x y] ++ #[.pointer (some ⟨za, 0, none⟩)]) w fun e w' => e = .returned (.bool (hasB tk x y)) ∧ Below w.heap.size w w' := by
  obtain ⟨A, c, rfl⟩ := hr.form
  have hza := World.block_lt_of_cell? w ⟨za, 1, none⟩ hc
  have hb : Below w.heap.size w (w.alloc (.cells #[.int .u64 x, .int .u64 y] 35)) := (Below.refl _ w).alloc (Nat.le_refl _) _
  have HR := Lib.hid (And.intro (hr.below hb) (And.intro hb hl))
  clear hr hb hl
  simp only [List.append_toArray, List.cons_append, List.nil_append]
  go_enter Try.func9, Try.ntmps9
  go_wp2_with fail
  refine (lhas x y _ HR.out.1 HR.out.2.2).mono ?_
  rintro e w1 ⟨rfl, h1⟩
  have H1 := Lib.hid h1
  clear h1
  go_wp2_with fail
  go_ret
  exact ⟨rfl, HR.out.2.1.trans (H1.out.mono HR.out.2.1.size)⟩
end Go.Proofs.Ytdhgblkmlkkpeaa
