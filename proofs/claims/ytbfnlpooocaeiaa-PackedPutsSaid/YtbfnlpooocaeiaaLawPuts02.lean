/- For every number and size, any two strings and any value: Put, Text and Value put the bytes that the document says behind others, and a reader reads them again (PackedPuts returns true; the arguments read as they did). No condition. -/
import Derived.Test.YtbfnlpooocaeiaaRows
import Derived.Test.YtbfnlpooocaeiaaPuts02
import Derived.OpenShut
import Derived.ShutString
import Derived.Lib.SmallJoins
namespace Go.Proofs.Ytbfnlpooocaeiaa.packedPuts
open Go.ChangeShapes Go.WideShapes Go.ChangeAt Go.RowKit Go.Joins Go.Deep

theorem own : ownKnob Try.prog.godebug = none := by kernel_rfl
theorem laidOut : laidOutB Try.prog = true := by kernel_rfl
theorem cellsV : Try.prog.cellsOf 28 = 3 := by kernel_rfl
theorem cellsN : Try.prog.cellsOf 24 = 2 := by kernel_rfl
theorem cellsA : Try.prog.cellsOf 25 = 2 := by kernel_rfl
theorem cellsS : Try.prog.cellsOf 9 = 1 := by kernel_rfl

theorem puts (v0 : Value) (ahead : List UInt8) (n : Nat) (size : Int) (s : ByteArray) (k n' : Int) (t : ByteArray) (w : World) (hv : Bs w v0 ahead) (ha : ahead.length ≤ 9223372036854775807) (hn : n < 18446744073709551616) (hs : s.size ≤ 9223372036854775807) (hk0 : 0 ≤ k) (hk1 : k < 256) (hn0 : -9223372036854775808 ≤ n') (hn1 : n' ≤ 9223372036854775807) :
    Calls Try.prog 5 #[v0, nn n size, .string s, vv k n' t] w fun e w' => e = .returned (.bool true) ∧ Below w.heap.size w w' := by
  have hv' := hv
  obtain ⟨A, c, rfl, _⟩ := hv.form
  by_cases h1 : 300 < ahead.length
  · exact short_a A _ c n size s k n' t w h1 ha
  · by_cases h2 : 9000 < s.size
    · exact short_s A _ c n size s k n' t w (by omega) h2 hs
    · cases hr : rightB k n' t
      · exact short_r A _ c n size s k n' t w (by omega) (by omega) hr
      · have ht : t.size ≤ 4096 := by
          unfold rightB at hr
          have he : t.toList = [] → t.size ≤ 4096 := fun e => by rw [← len_toList, e]; simp
          by_cases k0 : k = 0
          · simp [k0] at hr; exact he hr.2
          · by_cases k1 : k = 1
            · simp [k1] at hr; exact he hr.2
            · by_cases k2 : k = 2
              · simp [k2] at hr; exact he hr
              · by_cases k3 : k = 3
                · simp [k3] at hr; omega
                · simp [k0, k1, k2, k3] at hr
        exact main _ ahead n size s k n' t w hv' (by omega) hn (by omega) hk0 hk1 hr ht hn0 hn1

/-- []byte(s). -/
theorem conv (s : ByteArray) (w : World) (hs : s.size ≤ maxLen) : ∃ v w', (convert 9 30 (.string s)).run Try.prog w = .ok v w' ∧ Bs w' v s.data.toList ∧ Below w.heap.size w w' := by
  refine ⟨_, _, Lib.run_convert_string_bytes w 9 30 5 s Try.underlying9 Try.underlying30 Try.underlying5, ?_, ?_⟩
  · have hl : s.data.toList.length = s.size := by simp
    refine .inr ⟨_, _, by rw [hl], by rw [hl]; exact grownCap_ge _ _ _ _, grownCap_le_maxLen _ _ _ _ hs, fun j x hj => ?_⟩
    have hlt : j < s.size := by have := (List.getElem?_eq_some_iff.1 hj).1; omega
    rw [show (⟨w.heap.size, 0, none⟩ : Addr).add j = ⟨w.heap.size, j, none⟩ by unfold Addr.add; split <;> simp_all, Lib.bytesWorld_cell w _ s j hlt]
    simp only [List.getD, hj, Option.getD_some]
  · exact ⟨rfl, rfl, rfl, by rw [Lib.bytesWorld_size]; omega, fun k hk => Lib.bytesWorld_at_old w _ s k hk⟩

set_option maxHeartbeats 1000000 in
theorem walk (n : Nat) (size : Int) (s0 s1 : ByteArray) (k n' : Int) (t : ByteArray) (w : World) (hn : n < 18446744073709551616) (h0 : s0.size ≤ maxLen) (h1 : s1.size ≤ maxLen) (hk0 : 0 ≤ k) (hk1 : k < 256) (hn0 : -9223372036854775808 ≤ n') (hn1 : n' ≤ 9223372036854775807) :
    Calls Try.prog 3 #[nn n size, .agg #[.string s0, .string s1], vv k n' t] w fun e w' => e = .returned (.bool true) ∧ Below w.heap.size w w' := by
  obtain ⟨v, wb, hcv, hbs, hbb⟩ := conv s0 (((w.alloc (.cells #[.int .u64 n, .int .i64 size] 24)).alloc (.cells #[.string s0, .string s1] 25)).alloc (.cells #[.int .u8 k, .int .i64 n', .string t] 28)) h0
  have c0 : wb.cell? ⟨w.heap.size, 0, none⟩ = some (.int .u64 n) := by rw [hbb.cell (p := ⟨w.heap.size, 0, none⟩) (by simp; omega)]; simp [go_sem]
  have c1 : wb.cell? ⟨w.heap.size, 1, none⟩ = some (.int .i64 size) := by rw [hbb.cell (p := ⟨w.heap.size, 1, none⟩) (by simp; omega)]; simp [go_sem]
  have a1 : wb.cell? ⟨w.heap.size + 1, 1, none⟩ = some (.string s1) := by rw [hbb.cell (p := ⟨w.heap.size + 1, 1, none⟩) (by simp)]; simp [go_sem]
  have d0 : wb.cell? ⟨w.heap.size + 1 + 1, 0, none⟩ = some (.int .u8 k) := by rw [hbb.cell (p := ⟨w.heap.size + 1 + 1, 0, none⟩) (by simp)]; simp [go_sem]
  have d1 : wb.cell? ⟨w.heap.size + 1 + 1, 1, none⟩ = some (.int .i64 n') := by rw [hbb.cell (p := ⟨w.heap.size + 1 + 1, 1, none⟩) (by simp)]; simp [go_sem]
  have d2 : wb.cell? ⟨w.heap.size + 1 + 1, 2, none⟩ = some (.string t) := by rw [hbb.cell (p := ⟨w.heap.size + 1 + 1, 2, none⟩) (by simp)]; simp [go_sem]
  unfold maxLen at h0 h1
  go_enter Try.func3, Try.ntmps3
  go_wp2_with fail
  refine (puts v _ n size s1 k n' t wb hbs (by simp; omega) hn (by omega) hk0 hk1 hn0 hn1).mono ?_
  rintro e w1 ⟨rfl, g1⟩
  go_wp2_with fail
  go_ret
  exact ⟨rfl, below_trans (below_trans ((((Below.refl _ _).alloc (Nat.le_refl _) _).alloc (by simp) _).alloc (by simp; omega) _) hbb) g1⟩

section
variable {H : Type} {enc : TypeId × Value → H} {W : World}
/-- An array of two strings, opened. -/
theorem open_two {v : Value} {d : DataW H} {p : List MemPlace} {r : Reach} {b0 : Nat} (hv : Value.okWide Try.prog W r b0 25 v) (h : DataW.Trod enc Try.prog W 0 (fun _ => true) true 25 v d p) :
    ∃ s0 s1 : ByteArray, v = .agg #[.string s0, .string s1] ∧ s0.size ≤ maxLen ∧ s1.size ≤ maxLen := by
  obtain ⟨cs, rfl, hsz, _⟩ : ∃ cs, v = .agg cs ∧ cs.size = Try.prog.cellsOf 25 ∧ Row.okWide Try.prog W r b0 25 cs := by
    simpa [Value.okWide, Try.underlying25] using hv
  rw [cellsA] at hsz
  obtain ⟨l⟩ := cs
  have hl : l.length = 2 := by simpa using hsz
  match l, hl with
  | [c0, c1], _ =>
    obtain ⟨fuel, hf⟩ := h
    obtain ⟨xs, m, _, _, _, hxl, hel⟩ := DataW.trod_array Try.underlying25 hf
    have f0 := hel 0 (by omega)
    have f1 := hel 1 (by omega)
    rw [List.getElem?_eq_getElem (by omega)] at f0 f1
    rw [cellsS] at f0 f1
    have f0' : DataW.trod enc Try.prog W 0 (fun _ => true) true m 9 [c0] = some xs[0] := by simpa [Value.cells] using f0
    have f1' : DataW.trod enc Try.prog W 0 (fun _ => true) true m 9 [c1] = some xs[1] := by simpa [Value.cells] using f1
    obtain ⟨s0, e0, _, w0⟩ := DataW.trod_string Try.underlying9 f0'
    obtain ⟨s1, e1, _, w1⟩ := DataW.trod_string Try.underlying9 f1'
    simp at e0 e1
    subst e0 e1
    exact ⟨s0, s1, rfl, w0, w1⟩
end

set_option maxRecDepth 100000 in
theorem lifted (os : Os) (started : os.Started) (H : Type) (enc : TypeId × Value → H) :
    ReturnsInHanded {} Try.checked os 3 .any (Rows.packedPutsSpec.pre6 enc Try.prog Try.f3 Rows.packedPutsRow.domain false) (Rows.packedPutsSpec.post enc Try.prog Try.f3 false true false false) := by
  refine returnsInHanded_of_change (C := Try.checked) own started (by kernel_rfl) Try.func3
    (ChangeSpec.witness6 (enc := enc) (C := Try.checked) false ⟨#[], #[.agg #[.int .u64 0, .int .i64 0], .agg #[.string ByteArray.empty, .string ByteArray.empty], .agg #[.int .u8 0, .int .i64 0, .string ByteArray.empty]], []⟩ 8 (by kernel_rfl) (by kernel_rfl) (by kernel_rfl) (by kernel_rfl)) ?_
  intro W base args ds gs before hval0 hW _ _
  have hval : ∀ (j : Nat) t v, Try.f3.params[j]? = some t → args[j]? = some v → Value.okWide Try.prog W .any base t v := hval0
  have hW' := hW
  obtain ⟨p, q, hA0, hV, rfl, _, _⟩ := hW
  have hA : DataW.TrodAll enc Try.prog W 0 (fun _ => true) true Try.f3.params.toList args.toList ds p := hA0
  rw [Try.params3] at hA hval
  obtain ⟨v0, vs0, d0, ds0, p0, q0, hargs, rfl, rfl, h0, r0⟩ := trodAll_cons hA
  obtain ⟨v1, vs1, d1, ds1, p1, q1, rfl, rfl, rfl, h1, r1⟩ := trodAll_cons r0
  obtain ⟨v2, vs2, d2, ds2, p2, q2, rfl, rfl, rfl, h2, r2⟩ := trodAll_cons r1
  obtain ⟨rfl, rfl, rfl⟩ := trodAll_nil r2
  obtain rfl : args = #[v0, v1, v2] := by cases args; simp_all
  obtain ⟨rfl, rfl⟩ := trodVars_none hV
  simp only [List.append_nil] at hW'
  have k0 := h0
  have k1 := h1
  have k2 := h2
  obtain ⟨c0, c1, y0, y1, m, rfl, _, _, hy0, hy1⟩ := open_agg2 Try.underlying24 (by kernel_rfl) cellsN (hval 0 24 v0 rfl rfl) h0
  obtain ⟨n, e0, _, wn⟩ := DataW.trod_int Try.underlying22 hy0
  obtain ⟨size, e1, _, wsz⟩ := DataW.trod_int Try.underlying3 hy1
  simp at e0 e1
  subst e0 e1
  obtain ⟨s0, s1, rfl, ws0, ws1⟩ := open_two (hval 1 25 v1 rfl rfl) h1
  obtain ⟨c0, c1, c2, z0, z1, z2, m', rfl, _, _, hz0, hz1, hz2⟩ := open_agg3 Try.underlying28 (by kernel_rfl) cellsV (hval 2 28 v2 rfl rfl) h2
  obtain ⟨k, e0, _, wk⟩ := DataW.trod_int Try.underlying26 hz0
  obtain ⟨n', e1, _, wn'⟩ := DataW.trod_int Try.underlying2 hz1
  obtain ⟨t, e2, _, wt⟩ := DataW.trod_string Try.underlying9 hz2
  simp at e0 e1 e2
  subst e0 e1 e2
  clear hA0 hval0
  have bn := bounds_u64 wn
  have bk := bounds_u8 wk
  have bn' := bounds_i64 wn'
  obtain ⟨n, rfl⟩ := Int.eq_ofNat_of_zero_le bn.1
  refine (walk n size s0 s1 k n' t W (by omega) ws0 ws1 bk.1 (by omega) (by omega) (by omega)).mono fun e W' ⟨he, hg⟩ => ?_
  subst he
  have hlt : ∀ x ∈ p0 ++ (p1 ++ p2), x.block < W.heap.size := fun x hx => by simpa using hW'.lt x (by simpa using hx)
  refine ⟨_, rfl, _, _, _, [], p0 ++ (p1 ++ p2), [], hW', ?_, ?_, ?_, hg.frame _, fun h => by cases h⟩
  · exact trodAll_cons_mk (shut_bool Try.underlying4 _) trodAll_mk0
  · have g0 := Below.trod laidOut (by kernel_rfl) (of_decide_eq_true (by kernel_rfl)) k0 hg (fun x hx => hlt x (List.mem_append_left _ hx))
    have g1 := Below.trod laidOut (by kernel_rfl) (of_decide_eq_true (by kernel_rfl)) k1 hg (fun x hx => hlt x (List.mem_append_right _ (List.mem_append_left _ hx)))
    have g2 := Below.trod laidOut (by kernel_rfl) (of_decide_eq_true (by kernel_rfl)) k2 hg (fun x hx => hlt x (List.mem_append_right _ (List.mem_append_right _ hx)))
    have := trodAll_cons_mk g0 (trodAll_cons_mk g1 (trodAll_cons_mk g2 trodAll_mk0))
    rw [List.append_nil] at this
    exact this
  · rfl

theorem over : Rows.packedPutsRow.holds Try.pinned (OpenSpec.ofChange Rows.packedPutsSpec) :=
  OpenClaim.holds_of_wide 3 Try.f3 rfl rfl rfl rfl rfl rfl rfl ⟨rfl, rfl, rfl, rfl, rfl⟩ rfl rfl rfl rfl rfl (by kernel_rfl) Try.func3 (by kernel_rfl)
    (of_decide_eq_true (by kernel_rfl)) (by unfold Func.isWrapper; first | (rw [if_pos (by decide +kernel)]; kernel_rfl) | (rw [if_neg (by decide +kernel)]; exact ⟨rfl, rfl⟩))
    (fun os started H enc _ => lifted os started H enc)

theorem proved : Rows.PackedPutsSaid :=
  over
#print axioms proved
end Go.Proofs.Ytbfnlpooocaeiaa.packedPuts
