/- Of any three values: what is ahead of what is ahead is ahead (ValueChains returns true; the arguments read as they did). No condition. -/
import Derived.Test.YtnneklajmkalaaaRows
import Derived.Test.YtnneklajmkalaaaRef01
import Derived.OpenShut
import Derived.ShutString
import Derived.Lib.SmallJoins
namespace Go.Proofs.Ytnneklajmkalaaa.valueChains
open Go.ChangeShapes Go.WideShapes Go.ChangeAt Go.RowKit Go.Joins
open Go.ChangeMaps (open_string shut_string)

theorem own : ownKnob Try.prog.godebug = none := by kernel_rfl

set_option maxHeartbeats 4000000 in
theorem walk (k1 n1 : Int) (s1 : ByteArray) (k2 n2 : Int) (s2 : ByteArray) (k3 n3 : Int) (s3 : ByteArray) (w : World) :
    Calls Try.prog 6 #[vv k1 n1 s1, vv k2 n2 s2, vv k3 n3 s3] w fun e w' => e = .returned (.bool true) ∧ Gw w w' := by
  go_enter Try.func6, Try.ntmps6
  go_wp2_with fail
  refine (lives _).mono ?_
  rintro e w1 ⟨rfl, g1⟩
  obtain ⟨a0, a1, a2, b0, b1, b2, c0, c1, c2⟩ := g1.three3
  go_wp2_with fail
  · refine (lives _).mono ?_
    rintro e w2 ⟨rfl, g2⟩
    go_wp2_with fail
    go_ret
    exact ⟨rfl, ((((Gw.refl _).alloc _ _).alloc _ _).alloc _ _).trans (g1.trans g2)⟩
  · clear a0 a1 a2 b0 b1 b2 c0 c1 c2
    obtain ⟨a0, a1, a2, b0, b1, b2, c0, c1, c2⟩ := Gr.three3 g1
    obtain ⟨x, y, z, hx, hy, hz, h13⟩ := vcmp_thirteen k1 n1 s1 k2 n2 s2 k3 n3 s3
    rcases h13 with ⟨rfl, rfl, rfl⟩ | ⟨rfl, rfl, rfl⟩ | ⟨rfl, rfl, rfl⟩ | ⟨rfl, rfl, rfl⟩ | ⟨rfl, rfl, rfl⟩ | ⟨rfl, rfl, rfl⟩ | ⟨rfl, rfl, rfl⟩ | ⟨rfl, rfl, rfl⟩ | ⟨rfl, rfl, rfl⟩ | ⟨rfl, rfl, rfl⟩ | ⟨rfl, rfl, rfl⟩ | ⟨rfl, rfl, rfl⟩ | ⟨rfl, rfl, rfl⟩
    all_goals
      refine region_grown (by kernel_rfl) (by kernel_rfl) ?_
      repeat (go_big_quiet_step ((go_at_call 8; exact Gr.calls _ (compare _ _ _ _ _ _ _))))
      refine wpQuiet_nil ?_
      rintro _ ⟨g, rfl⟩
      go_wp2_with fail
      go_ret
      exact ⟨rfl, ((((Gw.refl _).alloc _ _).alloc _ _).alloc _ _).trans (g1.trans g.grown)⟩

theorem cells : Try.prog.cellsOf 24 = 3 := by kernel_rfl

theorem reads {H : Type} {enc : TypeId × Value → H} {k n : Int} {s : ByteArray} (wk : (Lit.int .u8 k).wf = true) (wn : (Lit.int .i64 n).wf = true) (ws : s.size ≤ maxLen) (W : World) (sp : Nat → Bool) :
    DataW.Trod enc Try.prog W 0 sp true 24 (vv k n s) (.agg [.lit (.int .u8 k), .lit (.int .i64 n), .lit (.string s.data.toList)]) [] :=
  shut_agg3 (y0 := (.lit (.int .u8 k), [])) (y1 := (.lit (.int .i64 n), [])) (y2 := (.lit (.string s.data.toList), [])) Try.underlying24 (by kernel_rfl) cells
    ⟨1, by simp [DataW.trod, Try.underlying22, wk]⟩ ⟨1, by simp [DataW.trod, Try.underlying2, wn]⟩ ⟨1, by simp [DataW.trod, Try.underlying9, ws]⟩

set_option maxRecDepth 100000 in
theorem lifted (os : Os) (started : os.Started) (H : Type) (enc : TypeId × Value → H) :
    ReturnsInHanded {} Try.checked os 6 .any (Rows.valueChainsSpec.pre6 enc Try.prog Try.f6 Rows.valueChainsRow.domain false) (Rows.valueChainsSpec.post enc Try.prog Try.f6 false true false false) := by
  refine returnsInHanded_of_change (C := Try.checked) own started (by kernel_rfl) Try.func6
    (ChangeSpec.witness6 (enc := enc) (C := Try.checked) false ⟨#[], #[.agg #[.int .u8 0, .int .i64 0, .string ByteArray.empty], .agg #[.int .u8 0, .int .i64 0, .string ByteArray.empty], .agg #[.int .u8 0, .int .i64 0, .string ByteArray.empty]], []⟩ 8 (by kernel_rfl) (by kernel_rfl) (by kernel_rfl) (by kernel_rfl)) ?_
  intro W base args ds gs before hval0 hW _ _
  have hval : ∀ (j : Nat) t v, Try.f6.params[j]? = some t → args[j]? = some v → Value.okWide Try.prog W .any base t v := hval0
  have hW' := hW
  obtain ⟨p, q, hA0, hV, rfl, _, _⟩ := hW
  have hA : DataW.TrodAll enc Try.prog W 0 (fun _ => true) true Try.f6.params.toList args.toList ds p := hA0
  rw [Try.params6] at hA hval
  obtain ⟨v0, vs0, d0, ds0, p0, q0, hargs, rfl, rfl, h0, r0⟩ := trodAll_cons hA
  obtain ⟨v1, vs1, d1, ds1, p1, q1, rfl, rfl, rfl, h1, r1⟩ := trodAll_cons r0
  obtain ⟨v2, vs2, d2, ds2, p2, q2, rfl, rfl, rfl, h2, r2⟩ := trodAll_cons r1
  obtain ⟨rfl, rfl, rfl⟩ := trodAll_nil r2
  obtain rfl : args = #[v0, v1, v2] := by cases args; simp_all
  obtain ⟨rfl, rfl⟩ := trodVars_none hV
  obtain ⟨c0, c1, c2, y0, y1, y2, m, rfl, rfl, rfl, hy0, hy1, hy2⟩ := open_agg3 Try.underlying24 (by kernel_rfl) cells (hval 0 24 v0 rfl rfl) h0
  obtain ⟨k, e0, rfl, wk⟩ := DataW.trod_int Try.underlying22 hy0
  obtain ⟨n, e1, rfl, wn⟩ := DataW.trod_int Try.underlying2 hy1
  obtain ⟨s, e2, rfl, ws⟩ := DataW.trod_string Try.underlying9 hy2
  simp at e0 e1 e2
  subst e0 e1 e2
  obtain ⟨c0, c1, c2, y0, y1, y2, m', rfl, rfl, rfl, hz0, hz1, hz2⟩ := open_agg3 Try.underlying24 (by kernel_rfl) cells (hval 1 24 v1 rfl rfl) h1
  obtain ⟨k', e0, rfl, wk'⟩ := DataW.trod_int Try.underlying22 hz0
  obtain ⟨n', e1, rfl, wn'⟩ := DataW.trod_int Try.underlying2 hz1
  obtain ⟨s', e2, rfl, ws'⟩ := DataW.trod_string Try.underlying9 hz2
  simp at e0 e1 e2
  subst e0 e1 e2
  obtain ⟨c0, c1, c2, y0, y1, y2, m'', rfl, rfl, rfl, hx0, hx1, hx2⟩ := open_agg3 Try.underlying24 (by kernel_rfl) cells (hval 2 24 v2 rfl rfl) h2
  obtain ⟨k'', e0, rfl, wk''⟩ := DataW.trod_int Try.underlying22 hx0
  obtain ⟨n'', e1, rfl, wn''⟩ := DataW.trod_int Try.underlying2 hx1
  obtain ⟨s'', e2, rfl, ws''⟩ := DataW.trod_string Try.underlying9 hx2
  simp at e0 e1 e2
  subst e0 e1 e2
  clear hA0 hval0
  simp only [List.append_nil] at hW'
  refine (walk k n s k' n' s' k'' n'' s'' W).mono fun e W' ⟨he, hg⟩ => ?_
  subst he
  exact ⟨_, rfl, post_of_same (pa := []) (pv := []) hW' (fun _ _ _ => (trodAll_cons_mk (shut_bool Try.underlying4 _) trodAll_mk0)) (fun sp _ => (trodAll_cons_mk (reads wk wn ws _ sp) (trodAll_cons_mk (reads wk' wn' ws' _ sp) (trodAll_cons_mk (reads wk'' wn'' ws'' _ sp) trodAll_mk0)))) (fun _ _ => rfl) rfl
    (hg.frame _) hg.frozen (ok_one (by kernel_rfl) rfl (okWide_bool_mk Try.underlying4 _))⟩

theorem over : Rows.valueChainsRow.holds Try.pinned (OpenSpec.ofChange Rows.valueChainsSpec) :=
  OpenClaim.holds_of_wide 6 Try.f6 rfl rfl rfl rfl rfl rfl rfl ⟨rfl, rfl, rfl, rfl, rfl⟩ rfl rfl rfl rfl rfl (by kernel_rfl) Try.func6 (by kernel_rfl)
    (of_decide_eq_true (by kernel_rfl)) (by unfold Func.isWrapper; first | (rw [if_pos (by decide +kernel)]; kernel_rfl) | (rw [if_neg (by decide +kernel)]; exact ⟨rfl, rfl⟩))
    (fun os started H enc _ => lifted os started H enc)

theorem proved : Rows.ValueChainsSaid :=
  over
#print axioms proved
end Go.Proofs.Ytnneklajmkalaaa.valueChains
