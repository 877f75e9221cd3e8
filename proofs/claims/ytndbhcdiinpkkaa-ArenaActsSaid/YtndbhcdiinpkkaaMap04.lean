/- A set of numbers, kept as a map[int]bool. -/
import Derived.Test.YtndbhcdiinpkkaaProg
import Derived.Test.YtndbhcdiinpkkaaSlices
import Derived.Carry
import Derived.Maps.Own
namespace Go.Proofs.Ytndbhcdiinpkkaa
open Go.RowKit

/-- Block b is a map whose keys are numbers of S. -/
def Tk (w : World) (b : Nat) (S : Int → Prop) : Prop := ∃ es clock, w.heap[b]? = some (.map es clock) ∧ ∀ e ∈ es.toList, ∃ n, e.key = .int .i64 n ∧ S n

section
variable {S : Int → Prop} {w w' : World} {b : Nat} {i : Int}
theorem findNow_not (hi : ¬ S i) : ∀ (es : List MapEntry) (at0 : Nat), (∀ e ∈ es, ∃ n, e.key = .int .i64 n ∧ S n) → Instr.findNow (.int .i64) (.int .i64 i) es at0 = some none
  | [], _, _ => rfl
  | e :: es, at0, h => by
    obtain ⟨n, hk, hn⟩ := h e (by simp)
    have hne : (i == n) = false := by
      simp only [beq_eq_false_iff_ne]
      rintro rfl
      exact hi hn
    unfold Instr.findNow Instr.sameNow
    rw [hk]
    simp only [if_true, hne]
    exact findNow_not hi es (at0 + 1) (fun e' he' => h e' (by simp [he']))
theorem run_checkKey_int {P : Program} {t : TypeId} (ht : P.underlying t = some (.int .i64)) (c : Bool) (W : World) : (Instr.checkKey c 10000 t (.int .i64 i)).run P W = .ok () W := by
  show (Instr.checkKey c (9999 + 1) t (.int .i64 i)).run P W = .ok () W
  unfold Instr.checkKey
  simp [run_underlying ht]
theorem run_findKey_not {P : Program} {t : TypeId} (ht : P.underlying t = some (.int .i64)) (hi : ¬ S i) (es : List MapEntry) (h : ∀ e ∈ es, ∃ n, e.key = .int .i64 n ∧ S n) (W : World) : (Instr.findKey t (.int .i64 i) es).run P W = .ok none W := by
  unfold Instr.findKey
  simp [run_underlying ht, findNow_not hi es 0 h]
theorem Tk.kp {F : Nat → Prop} (h : Tk w b S) (hk : Kp F w w') (hF : ¬ F b) : Tk w' b S := by
  obtain ⟨es, clock, hb, hS⟩ := h
  exact ⟨es, clock, hk.at hb hF, hS⟩
theorem Tk.below (h : Tk w b S) (hb : Below w.heap.size w w') : Tk w' b S := h.kp (Kp.of_below hb (fun _ => False)) id
theorem Tk.lt (h : Tk w b S) : b < w.heap.size := by
  obtain ⟨es, clock, hb, _⟩ := h
  exact (Array.getElem?_eq_some_iff.1 hb).1
theorem Tk.made (w : World) (S : Int → Prop) : Tk (w.alloc (.map #[] 0)) w.heap.size S := ⟨#[], 0, (MapKept.heap_alloc w _).1, by simp⟩
theorem Tk.mono {S' : Int → Prop} (h : Tk w b S) (hs : ∀ n, S n → S' n) : Tk w b S' := by
  obtain ⟨es, clock, hb, hS⟩ := h
  exact ⟨es, clock, hb, fun e he => by obtain ⟨n, h1, h2⟩ := hS e he; exact ⟨n, h1, hs n h2⟩⟩
/-- What is not in it. -/
theorem Tk.look (h : Tk w b S) (hi : ¬ S i) : (Instr.lookup 100 (.map (some b)) (.int .i64 i) false).run Try.prog w = .ok (.bool false) w := by
  obtain ⟨es, clock, hb, hS⟩ := h
  have hz : (zeroValue 4).run Try.prog w = .ok (.bool false) w := by kernel_rfl
  unfold Instr.lookup
  simp [run_underlying Try.underlying100, MapKept.run_getObj_map hb, run_checkKey_int Try.underlying3, run_findKey_not Try.underlying3 hi _ hS]
/-- One more. -/
theorem Tk.put (h : Tk w b S) (hi : ¬ S i) (v : Value) : ∃ w', (Instr.mapUpdate 100 (.map (some b)) (.int .i64 i) v).run Try.prog w = .ok () w' ∧ Tk w' b (fun n => S n ∨ n = i) ∧ w.grownBy w' (some b) := by
  obtain ⟨es, clock, hb, hS⟩ := h
  refine ⟨ChangeMaps.setBlock w b (.map (es.push { key := .int .i64 i, val := v, born := clock }) (clock + 1)), ?_, ⟨_, _, ChangeMaps.heap_setBlock_same hb _, fun e he => ?_⟩, ⟨rfl, rfl, rfl, by simp [ChangeMaps.setBlock], fun k _ hk => ChangeMaps.heap_setBlock_other hb _ (fun e => hk (by rw [e]))⟩⟩
  · unfold Instr.mapUpdate
    simp [run_underlying Try.underlying100, MapKept.run_getObj_map hb, MapKept.run_setObj_map _ hb, run_checkKey_int Try.underlying3, run_findKey_not Try.underlying3 hi _ hS, ChangeMaps.setBlock]
  · simp at he
    rcases he with he | rfl
    · obtain ⟨n, h1, h2⟩ := hS e (by simpa using he)
      exact ⟨n, h1, .inl h2⟩
    · exact ⟨i, rfl, .inr rfl⟩
end

end Go.Proofs.Ytndbhcdiinpkkaa
