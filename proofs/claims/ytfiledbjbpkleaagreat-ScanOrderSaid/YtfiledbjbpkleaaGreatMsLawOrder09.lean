/- For every seed and any two values: Compare tells their order as the document's Less does, either way round, and 0 just where they are one value (ScanOrder returns true; the arguments read as they did). No condition. -/
import Derived.Test.YtfiledbjbpkleaaGreatRows
import Derived.Test.YtfiledbjbpkleaaGreatMs29
import Derived.OpenShut
import Derived.ShutString
import Derived.Lib.SmallJoins
namespace Go.Proofs.YtfiledbjbpkleaaGreat.scanOrder
open Go.ChangeShapes Go.WideShapes Go.ChangeAt Go.RowKit Go.Joins
open Go.ChangeMaps (open_string shut_string)

theorem own : ownKnob Tryz.prog.godebug = none := by kernel_rfl
theorem cells : Tryz.prog.cellsOf 36 = 3 := by kernel_rfl
theorem reads {H : Type} {enc : TypeId × Value → H} {k n : Int} {s : ByteArray} (wk : (Lit.int .u8 k).wf = true) (wn : (Lit.int .i64 n).wf = true) (ws : s.size ≤ maxLen) (W : World) (sp : Nat → Bool) :
    DataW.Trod enc Tryz.prog W 0 sp true 36 (vv k n s) (.agg [.lit (.int .u8 k), .lit (.int .i64 n), .lit (.string s.data.toList)]) [] :=
  shut_agg3 (y0 := (.lit (.int .u8 k), [])) (y1 := (.lit (.int .i64 n), [])) (y2 := (.lit (.string s.data.toList), [])) Tryz.underlying36 (by kernel_rfl) cells
    ⟨1, by simp [DataW.trod, Tryz.underlying34, wk]⟩ ⟨1, by simp [DataW.trod, Tryz.underlying2, wn]⟩ ⟨1, by simp [DataW.trod, Tryz.underlying9, ws]⟩

set_option maxRecDepth 100000 in
theorem lifted (os : Os) (started : os.Started) (H : Type) (enc : TypeId × Value → H) :
    ReturnsInHanded {} Tryz.checked os 6 .any (Rows.scanOrderSpec.pre6 enc Tryz.prog Tryz.f6 Rows.scanOrderRow.domain false) (Rows.scanOrderSpec.post enc Tryz.prog Tryz.f6 false true false false) := by
  refine returnsInHanded_of_change (C := Tryz.checked) own started (by kernel_rfl) Tryz.func6
    (ChangeSpec.witness6 (enc := enc) (C := Tryz.checked) false ⟨#[], #[.int .u64 0, .agg #[.int .u8 0, .int .i64 0, .string ByteArray.empty], .agg #[.int .u8 0, .int .i64 0, .string ByteArray.empty]], []⟩ 8 (by kernel_rfl) (by kernel_rfl) (by kernel_rfl) (by kernel_rfl)) ?_
  intro W base args ds gs before hval0 hW _ _
  have hval : ∀ (j : Nat) t v, Tryz.f6.params[j]? = some t → args[j]? = some v → Value.okWide Tryz.prog W .any base t v := hval0
  have hW' := hW
  obtain ⟨p, q, hA0, hV, rfl, _, _⟩ := hW
  have hA : DataW.TrodAll enc Tryz.prog W 0 (fun _ => true) true Tryz.f6.params.toList args.toList ds p := hA0
  rw [Tryz.params6] at hA hval
  obtain ⟨v0, vs0, d0, ds0, p0, q0, hargs, rfl, rfl, h0, r0⟩ := trodAll_cons hA
  obtain ⟨v1, vs1, d1, ds1, p1, q1, rfl, rfl, rfl, h1, r1⟩ := trodAll_cons r0
  obtain ⟨v2, vs2, d2, ds2, p2, q2, rfl, rfl, rfl, h2, r2⟩ := trodAll_cons r1
  obtain ⟨rfl, rfl, rfl⟩ := trodAll_nil r2
  obtain rfl : args = #[v0, v1, v2] := by cases args; simp_all
  obtain ⟨rfl, rfl⟩ := trodVars_none hV
  obtain ⟨a0, rfl, rfl, rfl, w0⟩ := open_int Tryz.underlying28 (hval 0 28 v0 rfl rfl) h0
  obtain ⟨c0, c1, c2, y0, y1, y2, m, rfl, rfl, rfl, hy0, hy1, hy2⟩ := open_agg3 Tryz.underlying36 (by kernel_rfl) cells (hval 1 36 v1 rfl rfl) h1
  obtain ⟨k, e0, rfl, wk⟩ := DataW.trod_int Tryz.underlying34 hy0
  obtain ⟨n, e1, rfl, wn⟩ := DataW.trod_int Tryz.underlying2 hy1
  obtain ⟨s, e2, rfl, ws⟩ := DataW.trod_string Tryz.underlying9 hy2
  simp at e0 e1 e2
  subst e0 e1 e2
  obtain ⟨c0, c1, c2, y0, y1, y2, m', rfl, rfl, rfl, hz0, hz1, hz2⟩ := open_agg3 Tryz.underlying36 (by kernel_rfl) cells (hval 2 36 v2 rfl rfl) h2
  obtain ⟨k', e0, rfl, wk'⟩ := DataW.trod_int Tryz.underlying34 hz0
  obtain ⟨n', e1, rfl, wn'⟩ := DataW.trod_int Tryz.underlying2 hz1
  obtain ⟨s', e2, rfl, ws'⟩ := DataW.trod_string Tryz.underlying9 hz2
  simp at e0 e1 e2
  subst e0 e1 e2
  clear hA0 hval0
  simp only [List.append_nil] at hW'
  have b0 := bounds_u64 w0
  obtain ⟨a0, rfl⟩ := Int.eq_ofNat_of_zero_le b0.1
  have bk := bounds_u8 wk
  have bk' := bounds_u8 wk'
  refine (lorder9 a0 (k, n, s) (k', n', s') W ⟨bk.1, by omega⟩ ⟨bk'.1, by omega⟩).mono fun e W' ⟨he, hg⟩ => ?_
  subst he
  refine ⟨_, rfl, _, _, _, [], [], [], hW', ?_, ?_, ?_, hg.frame _, fun h => by cases h⟩
  · exact trodAll_cons_mk (shut_bool Tryz.underlying4 _) trodAll_mk0
  · exact trodAll_cons_mk (shut_int Tryz.underlying28 w0) (trodAll_cons_mk (reads wk wn ws _ _) (trodAll_cons_mk (reads wk' wn' ws' _ _) trodAll_mk0))
  · rfl

theorem over : Rows.scanOrderRow.holds Tryz.pinned (OpenSpec.ofChange Rows.scanOrderSpec) :=
  OpenClaim.holds_of_wide 6 Tryz.f6 rfl rfl rfl rfl rfl rfl rfl ⟨rfl, rfl, rfl, rfl, rfl⟩ rfl rfl rfl rfl rfl (by kernel_rfl) Tryz.func6 (by kernel_rfl)
    (of_decide_eq_true (by kernel_rfl)) (by unfold Func.isWrapper; first | (rw [if_pos (by decide +kernel)]; kernel_rfl) | (rw [if_neg (by decide +kernel)]; exact ⟨rfl, rfl⟩))
    (fun os started H enc _ => lifted os started H enc)

theorem proved : Rows.ScanOrderSaid :=
  over
#print axioms proved
end Go.Proofs.YtfiledbjbpkleaaGreat.scanOrder
