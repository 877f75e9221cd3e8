/- For every byte, as rights, and every list of bytes: what is given on, and on, is never more than what was there first (RightsChain returns true; the arguments read as they did). No condition. -/
import Derived.Test.YtgcnnmhjadfgkaaRows
import Derived.Test.YtgcnnmhjadfgkaaLaw16
import Derived.OpenShut
import Derived.Lib.SmallJoins
import Derived.SizedLaws
import Derived.ChangeSlices
namespace Go.Proofs.Ytgcnnmhjadfgkaa.rightsChain
set_option maxRecDepth 100000
set_option linter.unusedSimpArgs false
set_option linter.unusedVariables false
open Go.ChangeShapes Go.WideShapes Go.ChangeAt Go.RowKit Go.Joins Go.Deep
theorem own : ownKnob Try.prog.godebug = none := by kernel_rfl
theorem laidOut : laidOutB Try.prog = true := by kernel_rfl
/-- The slice that begins at A holds these bytes. -/
def Byts (w : World) (A : Option Addr) (l : List Nat) : Prop :=
  l = [] ∨ ∃ b o, A = some ⟨b, o, none⟩ ∧ b < w.heap.size ∧ ∀ (i x : Nat), l[i]? = some x → x < 256 ∧ w.cell? ⟨b, o + i, none⟩ = some (.int .u8 x)
theorem Byts.at {w : World} {A : Option Addr} {l : List Nat} (h : Byts w A l) {i x : Nat} (hi : l[i]? = some x) : ∃ b o, A = some ⟨b, o, none⟩ ∧ b < w.heap.size ∧ x < 256 ∧ w.cell? ⟨b, o + i, none⟩ = some (.int .u8 x) := by
  rcases h with h | ⟨b, o, hA, hb, hc⟩
  · subst h; simp at hi
  · exact ⟨b, o, hA, hb, (hc i x hi).1, (hc i x hi).2⟩
theorem walk_big (n : Nat) (A : Option Addr) (l : List Nat) (c : Nat) (w : World) (hlen : l.length ≤ 4611686018427387904) (hbig : 60 < l.length) :
    Calls Try.prog 5 #[.int .u8 n, .slice A l.length c] w fun e w' => e = .returned (.bool true) ∧ Below w.heap.size w w' := by
  have h10 : (60 : Int) < (l.length : Int) := by omega
  go_enter Try.func5, Try.ntmps5
  go_wp2_with fail
  refine (lives16 _).mono ?_
  rintro e w1 ⟨rfl, g1⟩
  have G1 := Lib.hid g1
  clear g1
  go_wp2_with fail
  refine (lives16 _).mono ?_
  rintro e w2 ⟨rfl, g2⟩
  have G2 := Lib.hid g2
  clear g2
  go_wp2_with fail
  go_ret
  exact ⟨rfl, G1.out.trans (G2.out.mono G1.out.size)⟩
theorem has_trans {a b c : Nat} (h1 : hasN a b = true) (h2 : hasN b c = true) : hasN a c = true := by
  unfold hasN at *
  rw [decide_eq_true_eq] at *
  rw [← h2, ← Nat.and_assoc, h1]
theorem att_has {a b : Nat} (h : (attN a b).2 = 0) : hasN a b = true ∧ (attN a b).1 = b := by
  unfold attN at h ⊢
  split at h
  · rename_i h1
    split at h
    · rename_i h2
      rw [if_pos h1, if_pos h2]
      exact ⟨h2.2, rfl⟩
    · cases h
  · cases h
theorem has_mod : ∀ n : Fin 256, hasN n.1 (n.1 % 32) = true := by decide +kernel
set_option maxHeartbeats 8000000 in
theorem walk_small (n : Nat) (A : Option Addr) (l : List Nat) (c : Nat) (w : World) (hn : n < 256) (hl : Byts w A l) (hle : l.length ≤ 60) :
    Calls Try.prog 5 #[.int .u8 n, .slice A l.length c] w fun e w' => e = .returned (.bool true) ∧ Below w.heap.size w w' := by
  have h10 : ¬ (60 : Int) < (l.length : Int) := by omega
  have E32 := Lib.hid (show ∀ k : Nat, (k : Int).tmod 32 = ((k % 32 : Nat) : Int) from fun k => by rw [Int.tmod_eq_emod_of_nonneg (Int.natCast_nonneg _)]; omega)
  obtain ⟨m, hm⟩ : ∃ m, m = n % 32 := ⟨_, rfl⟩
  have hm32 : m < 32 := by omega
  have en : (n : Int).tmod 32 = (m : Int) := by rw [E32.out n, hm]
  have HL := Lib.hid (And.intro hl hle)
  have hm0 := has_mod ⟨n, hn⟩
  simp only at hm0
  rw [← hm] at hm0
  have HM0 := Lib.hid (And.intro hm0 hm32)
  clear hl hm0 hm hm32
  go_enter Try.func5, Try.ntmps5
  go_wp2_with fail
  refine (lives16 _).mono ?_
  rintro e w1 ⟨rfl, g1⟩
  have G1 := Lib.hid g1
  clear g1
  go_wp2_with fail
  go_loopg [22, 5] l.length (fun c' s22 s5 wr => ∃ j a : Nat, j + c' = l.length ∧ s22 = .int .i64 j ∧ s5 = .int .u8 a ∧ a < 32 ∧ hasN n a = true ∧ wr = w1)
  case atStart => exact ⟨0, m, by omega, rfl, rfl, HM0.out.2, HM0.out.1, rfl⟩
  case round =>
    obtain ⟨j, a, hj, rfl, rfl, ha, hna, rfl⟩ := hrel
    by_cases h1 : j < l.length
    · obtain ⟨x, hx⟩ : ∃ x, l[j]? = some x := ⟨_, List.getElem?_eq_getElem h1⟩
      obtain ⟨b, o, rfl, hb, hx256, hc⟩ := HL.out.1.at hx
      have d0 : wr.cell? ⟨b, o + j, none⟩ = some (.int .u8 x) := (G1.out.cell (p := ⟨b, _, none⟩) hb).trans hc
      have HM := Lib.hid (show j + 1 + (gk - 1) = l.length by omega)
      have HG := Lib.hid (show 0 < gk by omega)
      have HA := Lib.hid (And.intro ha hna)
      have h11 : (j : Int) < (l.length : Int) := by omega
      have h12 : (0 : Int) ≤ (j : Int) := by omega
      obtain ⟨y, hy⟩ : ∃ y, y = x % 32 := ⟨_, rfl⟩
      have hx32 : y < 256 := by omega
      have ha256 : a < 256 := by omega
      have HXM := Lib.hid (show y < 32 by omega)
      have hj2 : j ≤ 60 := by omega
      have ex : (x : Int).tmod 32 = (y : Int) := by rw [E32.out x, hy]
      clear hj hx hc ha hna hy
      go_wp2_with fail
      refine (ratt a y _ ha256 hx32).mono ?_
      rintro e w' ⟨rfl, rfl⟩
      by_cases h2 : (attN a y).2 = 0
      · obtain ⟨e1, e2⟩ := att_has h2
        rw [h2, e2]
        have HE := Lib.hid e1
        clear h2 e2 e1
        go_wp2_with fail
        refine (rhas a y _ ha256 hx32).mono ?_
        rintro e w' ⟨rfl, rfl⟩
        rw [HE.out]
        go_wp2_with fail
        refine (rhas n y _ hn hx32).mono ?_
        rintro e w' ⟨rfl, rfl⟩
        rw [has_trans HA.out.2 HE.out]
        go_wp2_with fail
        go_roundg (gk - 1)
        case measure => have := HG.out; omega
        case rel => exact ⟨_, _, HM.out, rfl, rfl, HXM.out, has_trans HA.out.2 HE.out, rfl⟩
      · generalize attN a y = r at h2 ⊢
        go_wp2_with fail
        go_roundg (gk - 1)
        case measure => have := HG.out; omega
        case rel => exact ⟨_, _, HM.out, rfl, rfl, HA.out.1, HA.out.2, rfl⟩
    · obtain rfl : j = l.length := by omega
      clear hj
      go_wp2_with fail
      go_ret
      exact ⟨rfl, G1.out⟩
theorem walk (n : Nat) (A : Option Addr) (l : List Nat) (c : Nat) (w : World) (hn : n < 256) (hl : Byts w A l) (hlen : l.length ≤ 4611686018427387904) :
    Calls Try.prog 5 #[.int .u8 n, .slice A l.length c] w fun e w' => e = .returned (.bool true) ∧ Below w.heap.size w w' := by
  by_cases h : l.length ≤ 60
  · exact walk_small n A l c w hn hl h
  · exact walk_big n A l c w hlen (by omega)
theorem ibytes : Try.prog.bytesOf 5 = 1 := by kernel_rfl
theorem icells : Try.prog.cellsOf 5 = 1 := by kernel_rfl
section
variable {H : Type} {enc : TypeId × Value → H} {W : World}
/-- A slice of bytes, opened: the list that it holds. -/
theorem open_byts {v : Value} {d : DataW H} {p : List MemPlace} {r : Reach} {b0 : Nat} (hv : Value.okWide Try.prog W r b0 33 v) (h : DataW.Trod enc Try.prog W 0 (fun _ => true) true 33 v d p) :
    ∃ (A : Option Addr) (l : List Nat) (c : Nat), v = .slice A l.length c ∧ Byts W A l ∧ (l = [] ∨ ∃ es ss, d = .slice es ss ∧ es.length = l.length) := by
  obtain ⟨a, len, cap, rfl⟩ := okWide_slice Try.underlying33 hv
  obtain ⟨fuel, hf⟩ := h
  rcases open_ints Try.underlying33 Try.underlying5 icells hf with ⟨hcs, _⟩ | ⟨a', len', cap', zs, hcs, _, hl, _, hz, hx, hc, hwf⟩
  · simp [Value.cells] at hcs
    obtain ⟨rfl, rfl, rfl⟩ := hcs
    exact ⟨none, [], 0, rfl, .inl rfl, .inl rfl⟩
  · simp [Value.cells] at hcs
    obtain ⟨rfl, rfl, rfl⟩ := hcs
    simp only [if_true] at hz
    have hlen : ((zs.take len).map Int.toNat).length = len := by rw [List.length_map, List.length_take]; omega
    refine ⟨some a', (zs.take len).map Int.toNat, cap, by rw [hlen], ?_, .inr ⟨_, _, by rw [Prod.mk.injEq] at hx; exact hx.1, by simp [lits]⟩⟩
    by_cases h0 : len = 0
    · subst h0; exact .inl rfl
    · right
      obtain ⟨b, o, spot⟩ := a'
      obtain rfl : spot = none := by simpa [Addr.add] using World.cell?_spot (hc 0 (by omega))
      refine ⟨b, o, rfl, World.block_lt_of_cell? W ⟨b, o, none⟩ (by simpa [Addr.add] using hc 0 (by omega)), fun i x hx => ?_⟩
      rw [List.getElem?_map, Option.map_eq_some_iff] at hx
      obtain ⟨z, hx, rfl⟩ := hx
      obtain ⟨hlt, hxe⟩ := List.getElem?_eq_some_iff.1 hx
      have hlt' : i < zs.length := by rw [List.length_take] at hlt; omega
      have := hc i hlt'
      rw [add_plain, List.getD_eq_getElem?_getD, List.getElem?_eq_getElem hlt', Option.getD_some] at this
      rw [List.getElem_take] at hxe
      have hb := bounds_u8 (hwf _ (List.getElem_mem hlt'))
      rw [hxe] at hb this
      exact ⟨by omega, by rw [this, Int.toNat_of_nonneg hb.1]⟩
end

set_option maxRecDepth 100000 in
theorem lifted (os : Go.Os) (started : os.Started) (H : Type) (enc : TypeId × Value → H) :
    ReturnsInHanded {} Try.checked os 5 .any (Rows.rightsChainSpec.pre6 enc Try.prog Try.f5 Rows.rightsChainRow.domain false) (Rows.rightsChainSpec.post enc Try.prog Try.f5 false true false false) := by
  refine returnsInHanded_of_change_sized (C := Try.checked) own started (by kernel_rfl) Try.func5
    (ChangeSpec.witness6 (enc := enc) (C := Try.checked) false ⟨#[], #[.int .u8 0, .slice none 0 0], []⟩ 8 (by kernel_rfl) (by kernel_rfl) (by kernel_rfl) (by kernel_rfl)) ?_
  intro W base args ds gs before hval0 hW _ hsz0 _
  have hval : ∀ (j : Nat) t v, Try.f5.params[j]? = some t → args[j]? = some v → Value.okWide Try.prog W .any base t v := hval0
  have hsz : (DataW.weightsEach Try.prog (Try.f5.params.toList ++ Rows.rightsChainSpec.plain.varTypes Try.prog) (ds ++ gs)).all (· ≤ reachBytes) = true := hsz0
  have hW' := hW
  obtain ⟨p, q, hA0, hV, rfl, _, _⟩ := hW
  have hA : DataW.TrodAll enc Try.prog W 0 (fun _ => true) true Try.f5.params.toList args.toList ds p := hA0
  rw [Try.params5] at hA hval hsz
  obtain ⟨v0, vs0, d0, ds0, p0, q0, hargs, rfl, rfl, h0, r0⟩ := trodAll_cons hA
  obtain ⟨v1, vs1, d1, ds1, p1, q1, rfl, rfl, rfl, h1, r1⟩ := trodAll_cons r0
  obtain ⟨rfl, rfl, rfl⟩ := trodAll_nil r1
  obtain rfl : args = #[v0, v1] := by cases args; simp_all
  obtain ⟨rfl, rfl⟩ := trodVars_none hV
  simp only [List.append_nil] at hW'
  obtain ⟨a0, rfl, rfl, rfl, w0⟩ := open_int Try.underlying5 (hval 0 5 v0 rfl rfl) h0
  have b0 := bounds_u8 w0
  obtain ⟨a0, rfl⟩ := Int.eq_ofNat_of_zero_le b0.1
  obtain ⟨A, l, c, rfl, hl, hd⟩ := open_byts (hval 1 33 v1 rfl rfl) h1
  have hn : l.length ≤ 4611686018427387904 := by
    rcases hd with rfl | ⟨es, ss, rfl, he⟩
    · simp
    · have := sized_slice hsz (j := 1) (t := 33) (e := 5) rfl rfl Try.underlying33
      rw [ibytes] at this
      unfold reachBytes at this
      omega
  clear hA0 hval0
  refine (walk a0 A l c W (by omega) hl hn).mono fun e W' ⟨he, hg⟩ => ?_
  subst he
  have hlt : ∀ x ∈ p1, x.block < W.heap.size := fun x hx => by simpa using hW'.lt x (by simpa using hx)
  refine ⟨_, rfl, _, _, _, [], p1, [], by simpa using hW', ?_, ?_, ?_, hg.frame _, fun h => by cases h⟩
  · exact trodAll_cons_mk (shut_bool Try.underlying4 _) trodAll_mk0
  · have g2 := Below.trod laidOut (by kernel_rfl) (of_decide_eq_true (by kernel_rfl)) h1 hg hlt
    have := trodAll_cons_mk (shut_int Try.underlying5 w0) (trodAll_cons_mk g2 trodAll_mk0)
    rw [List.append_nil] at this
    exact this
  · rfl

theorem over : Rows.rightsChainRow.holds Try.pinned (OpenSpec.ofChange Rows.rightsChainSpec) :=
  OpenClaim.holds_of_wide 5 Try.f5 rfl rfl rfl rfl rfl rfl rfl ⟨rfl, rfl, rfl, rfl, rfl⟩ rfl rfl rfl rfl rfl (by kernel_rfl) Try.func5 (by kernel_rfl)
    (of_decide_eq_true (by kernel_rfl)) (by unfold Func.isWrapper; first | (rw [if_pos (by decide +kernel)]; kernel_rfl) | (rw [if_neg (by decide +kernel)]; exact ⟨rfl, rfl⟩))
    (fun os started H enc _ => lifted os started H enc)

theorem proved : Rows.RightsChainSaid :=
  over
#print axioms proved
end Go.Proofs.Ytgcnnmhjadfgkaa.rightsChain
