/- For every seed and any list of values: All returns the document's number of a list whose values may be (HashLists returns true; the arguments read as they did). No condition. -/
import Derived.Test.YtfmngoniofoiiaaRows
import Derived.Test.YtfmngoniofoiiaaLaw03
import Derived.Test.YtfmngoniofoiiaaAll03
import Derived.OpenShut
import Derived.ShutString
import Derived.Lib.SmallJoins
import Derived.SizedLaws
namespace Go.Proofs.Ytfmngoniofoiiaa.hashLists
open Go.ChangeShapes Go.WideShapes Go.ChangeAt Go.RowKit Go.Joins Go.Deep

theorem own : ownKnob Try.prog.godebug = none := by kernel_rfl
theorem laidOut : laidOutB Try.prog = true := by kernel_rfl

theorem walk_big (seed : Nat) (A : Option Addr) (l : List V3) (c : Nat) (w : World) (hn : l.length ≤ 4398046511104) (hbig : 60 < l.length) :
    Calls Try.prog 4 #[.int .u64 seed, .slice A l.length c] w fun e w' => e = .returned (.bool true) ∧ Below w.heap.size w w' := by
  go_enter Try.func4, Try.ntmps4
  go_wp2_with fail
  refine (lives3 _).mono ?_
  rintro e w1 ⟨rfl, g1⟩
  go_wp2_with fail
  refine (lives3 _).mono ?_
  rintro e w2 ⟨rfl, g2⟩
  go_wp2_with fail
  go_ret
  exact ⟨rfl, below_trans g1 g2⟩

/-- Where the law stands in its loop. -/
def Rel (w1 : World) (l : List V3) (x i : Value) (wr : World) : Prop :=
  ∃ j : Nat, j ≤ l.length ∧ i = .int .i64 j ∧ wr.ownsRow w1.heap.size 29 3 x j ((l.take j).flatMap cells3) ∧ Below w1.heap.size w1 wr ∧ ∀ y ∈ l.take j, rightB y.1 y.2.1 y.2.2 = true

theorem take_right {l : List V3} {j : Nat} {x : V3} (h : l[j]? = some x) (hr : rightB x.1 x.2.1 x.2.2 = true) (ha : ∀ y ∈ l.take j, rightB y.1 y.2.1 y.2.2 = true) : ∀ y ∈ l.take (j + 1), rightB y.1 y.2.1 y.2.2 = true := by
  intro y hy
  rw [List.take_add_one, h, Option.toList_some, List.mem_append] at hy
  rcases hy with hy | hy
  · exact ha y hy
  · obtain rfl := List.mem_singleton.1 hy; exact hr

set_option maxHeartbeats 4000000 in
theorem walk_small (seed : Nat) (A : Option Addr) (l : List V3) (c : Nat) (w : World) (hl : Lst w A l) (hk : ∀ x ∈ l, 0 ≤ x.1 ∧ x.1 ≤ 255) (hle : l.length ≤ 60) :
    Calls Try.prog 4 #[.int .u64 seed, .slice A l.length c] w fun e w' => e = .returned (.bool true) ∧ Below w.heap.size w w' := by
  obtain ⟨i0, hi, hz0, hz1, hz2⟩ := info_parts rinfo
  go_enter Try.func4, Try.ntmps4
  go_wp2_with fail
  refine (lives3 _).mono ?_
  rintro e w1 ⟨rfl, g1⟩
  have hl1 := hl.below g1
  go_wp2_with fail
  go_loopw [5, 18] (fun x i wr => Rel w1 l x i wr) (fun _ i _ => l.length - (intOf i).toNat)
  case atStart => exact ⟨0, Nat.zero_le _, rfl, World.ownsRow_nil _ _ _ _, Below.refl _ _, by simp⟩
  case round =>
    obtain ⟨j, hj, rfl, hown, hb, hr⟩ := hrel
    by_cases h1 : j < l.length
    · obtain ⟨⟨k, n, s⟩, hx⟩ : ∃ x, l[j]? = some x := ⟨_, List.getElem?_eq_getElem h1⟩
      obtain ⟨b, o, rfl, _, c0, c1, c2⟩ := (hl1.below hb).at hx
      have HX := Lib.hid hx
      clear hx
      go_wp2_with fail
      refine (of3 _ _ _ _).mono ?_
      rintro e w2 ⟨rfl, g2⟩
      go_wp2_with fail
      refine (ref_right _ _ _ _).mono ?_
      rintro e w3 ⟨rfl, g3⟩
      have g13 := g2.trans g3
      obtain ⟨d0, d1, d2⟩ := box3 g13.below
      cases hrt : rightB k n s
      · go_wp2_with fail
        go_ret
        exact ⟨rfl, below_trans g1 (below_trans hb (below_box g13.below))⟩
      · go_wp2_with fail
        refine (of3 _ _ _ _).mono ?_
        rintro e w4 ⟨rfl, g4⟩
        have g14 := g13.trans g4
        have hown4 := own_gw hown (((Gw.refl _).alloc _ _).trans g14)
        go_wp2_with ((at_builtin; refine wpList_append_own _ rfl _ _ 39 rfl w1.heap.size 29 i0 (.agg #[.int .u8 0, .int .i64 0, .string ⟨#[]⟩]) 3 32 Try.underlying39 hi hz0 hz1 hz2 rfl (by decide) _ _ _ rfl (hown4.alloc _) ⟨w4.heap.size, 0, none⟩ 1 1 (cells3 (k, n, s)) rfl rfl ?c1 ?c2 ?c3 ?c4 ?c5 ?_))
        case c1 => exact news_at w4 (k, n, s)
        case c2 => exact news_one (k, n, s)
        case c3 => unfold maxLen; omega
        case c4 => omega
        case c5 => have := hb.size; have := g14.size; simp at *; omega
        intro x' w5 hown' hgrow _
        have hb5 := step_below hb g14 hown hgrow
        rw [take_flat HX.out] at hown'
        go_wp2_with fail
        go_roundw
        case rel => exact ⟨j + 1, by omega, by go_num, hown', hb5, take_right HX.out hrt hr⟩
        case measure => simp [intOf]; omega
    · obtain rfl : j = l.length := by omega
      rw [List.take_length] at hown hr
      obtain ⟨Ax, cx, rfl, hlx⟩ := lst_of_own hown
      have hok : Okv l := fun x hx => ⟨(hk x hx).1, (hk x hx).2, Nat.le_trans (right_small (hr x hx)) (by decide)⟩
      have hlw := hl1.below hb
      have hAb : ∀ a, A = some a → l ≠ [] → a.block < wr.heap.size := fun a e hne => by
        rcases hlw with h | ⟨b, o, hA, hb', _⟩
        · exact absurd h hne
        · rw [hA] at e; cases e; exact hb'
      have GB := Lib.hid (below_trans g1 hb)
      clear hown hr hl hl1 g1 hb
      go_wp2_with fail
      refine (hnew seed _).mono ?_
      rintro e w2 ⟨rfl, h2, g2⟩
      go_wp2_with fail
      refine (hall wr.heap.size seed A l c w2 h2 (hlw.below g2.below) (fun a e hne he => by have := hAb a e hne; omega) (by omega) hok).mono ?_
      rintro e w3 ⟨rfl, h3, g3⟩
      have hb3 := below_grown g2.below g3 (Nat.le_refl _)
      go_wp2_with fail
      refine (ref_all seed Ax l cx w3 (hlx.below hb3) (by omega) hok).mono ?_
      rintro e w4 ⟨rfl, g4⟩
      obtain ⟨z, hz⟩ : ∃ z, z = allN seed (keyN seed) l := ⟨_, rfl⟩
      rw [← hz]
      clear hz
      go_wp2_with fail
      go_ret
      exact ⟨ret_bool (by simp), below_trans GB.out (below_trans hb3 g4)⟩

theorem walk (seed : Nat) (A : Option Addr) (l : List V3) (c : Nat) (w : World) (hl : Lst w A l) (hk : ∀ x ∈ l, 0 ≤ x.1 ∧ x.1 ≤ 255) (hn : l.length ≤ 4398046511104) :
    Calls Try.prog 4 #[.int .u64 seed, .slice A l.length c] w fun e w' => e = .returned (.bool true) ∧ Below w.heap.size w w' := by
  by_cases h : l.length ≤ 60
  · exact walk_small seed A l c w hl hk h
  · exact walk_big seed A l c w hn (by omega)

set_option maxRecDepth 100000 in
theorem lifted (os : Os) (started : os.Started) (H : Type) (enc : TypeId × Value → H) :
    ReturnsInHanded {} Try.checked os 4 .any (Rows.hashListsSpec.pre6 enc Try.prog Try.f4 Rows.hashListsRow.domain false) (Rows.hashListsSpec.post enc Try.prog Try.f4 false true false false) := by
  refine returnsInHanded_of_change_sized (C := Try.checked) own started (by kernel_rfl) Try.func4
    (ChangeSpec.witness6 (enc := enc) (C := Try.checked) false ⟨#[], #[.int .u64 0, .slice none 0 0], []⟩ 8 (by kernel_rfl) (by kernel_rfl) (by kernel_rfl) (by kernel_rfl)) ?_
  intro W base args ds gs before hval0 hW _ hsz0 _
  have hval : ∀ (j : Nat) t v, Try.f4.params[j]? = some t → args[j]? = some v → Value.okWide Try.prog W .any base t v := hval0
  have hsz : (DataW.weightsEach Try.prog (Try.f4.params.toList ++ Rows.hashListsSpec.plain.varTypes Try.prog) (ds ++ gs)).all (· ≤ reachBytes) = true := hsz0
  have hW' := hW
  obtain ⟨p, q, hA0, hV, rfl, _, _⟩ := hW
  have hA : DataW.TrodAll enc Try.prog W 0 (fun _ => true) true Try.f4.params.toList args.toList ds p := hA0
  rw [Try.params4] at hA hval hsz
  obtain ⟨v0, vs0, d0, ds0, p0, q0, hargs, rfl, rfl, h0, r0⟩ := trodAll_cons hA
  obtain ⟨v1, vs1, d1, ds1, p1, q1, rfl, rfl, rfl, h1, r1⟩ := trodAll_cons r0
  obtain ⟨rfl, rfl, rfl⟩ := trodAll_nil r1
  obtain rfl : args = #[v0, v1] := by cases args; simp_all
  obtain ⟨rfl, rfl⟩ := trodVars_none hV
  simp only [List.append_nil] at hW'
  obtain ⟨a0, rfl, rfl, rfl, w0⟩ := open_int Try.underlying22 (hval 0 22 v0 rfl rfl) h0
  obtain ⟨A, l, c, rfl, hl, hk, _, hd⟩ := open_values (hval 1 38 v1 rfl rfl) h1
  have hn : l.length ≤ 4398046511104 := by
    rcases hd with rfl | ⟨es, ss, rfl, he⟩
    · simp
    · have := sized_slice hsz (j := 1) (t := 38) (e := 25) rfl rfl Try.underlying38
      rw [vbytes] at this
      unfold reachBytes at this
      omega
  clear hA0 hval0
  have b0 := bounds_u64 w0
  obtain ⟨a0, rfl⟩ := Int.eq_ofNat_of_zero_le b0.1
  refine (walk a0 A l c W hl hk hn).mono fun e W' ⟨he, hg⟩ => ?_
  subst he
  have hlt : ∀ x ∈ p1, x.block < W.heap.size := fun x hx => by simpa using hW'.lt x (by simpa using hx)
  refine ⟨_, rfl, _, _, _, [], p1, [], by simpa using hW', ?_, ?_, ?_, hg.frame _, fun h => by cases h⟩
  · exact trodAll_cons_mk (shut_bool Try.underlying4 _) trodAll_mk0
  · have g2 := Below.trod laidOut (by kernel_rfl) (of_decide_eq_true (by kernel_rfl)) h1 hg hlt
    have := trodAll_cons_mk (shut_int Try.underlying22 w0) (trodAll_cons_mk g2 trodAll_mk0)
    rw [List.append_nil] at this
    exact this
  · rfl

theorem over : Rows.hashListsRow.holds Try.pinned (OpenSpec.ofChange Rows.hashListsSpec) :=
  OpenClaim.holds_of_wide 4 Try.f4 rfl rfl rfl rfl rfl rfl rfl ⟨rfl, rfl, rfl, rfl, rfl⟩ rfl rfl rfl rfl rfl (by kernel_rfl) Try.func4 (by kernel_rfl)
    (of_decide_eq_true (by kernel_rfl)) (by unfold Func.isWrapper; first | (rw [if_pos (by decide +kernel)]; kernel_rfl) | (rw [if_neg (by decide +kernel)]; exact ⟨rfl, rfl⟩))
    (fun os started H enc _ => lifted os started H enc)

theorem proved : Rows.HashListsSaid :=
  over
#print axioms proved
end Go.Proofs.Ytfmngoniofoiiaa.hashLists
