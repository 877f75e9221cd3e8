/- For every number: a chain of so many cells (1 to 5000), each of which holds the one ahead of it, is let go at once by one Drop of the last (ArenaDeep returns true). No condition. -/
import Derived.Test.YtfnclcehkdlikaaRows
import Derived.Test.YtfnclcehkdlikaaLaw04
namespace Go.Proofs.Ytfnclcehkdlikaa.arenaDeep
open Go.ChangeShapes Go.WideShapes Go.ChangeAt Go.RowKit Go.Joins Go.Deep

theorem own : ownKnob Try.prog.godebug = none := by kernel_rfl

/-- A chain of j cells; the caller holds the last, t. -/
def Chain (w : World) (b j t : Nat) (wr : World) : Prop :=
  ∃ M F, Lone w wr b 5000 M F ∧ Ok 5001 M (fun x => if x = t ∧ 1 ≤ t then 1 else 0) [] ∧ live 5001 M = j ∧ (∀ x, rf (M x) ≤ 1) ∧ (t = 0 → j = 0)

theorem own_step (t i : Nat) (hi : 1 ≤ i) : (fun k => (if k = t ∧ 1 ≤ t then 1 else 0) - [t].count k + if k = i then 1 else 0) = fun x => if x = i ∧ 1 ≤ i then 1 else 0 := by
  funext k
  rw [List.count_singleton]
  by_cases e : k = t
  · subst e
    by_cases h : 1 ≤ k
    · simp [h, hi]
    · simp [h, hi]
  · have : ¬ (t == k) = true := by simpa using Ne.symm e
    simp [e, hi, this]

theorem size_of (n : Int) : ∃ k : Nat, 1 ≤ k ∧ k ≤ 5000 ∧ wrap64 (1 + wrap64 ((IntKind.u64.wrap n).tmod 5000)) = k := by
  have h0 : 0 ≤ IntKind.u64.wrap n := by rw [IntKind.wrap_u64]; omega
  rw [Int.tmod_eq_emod_of_nonneg h0]
  have h1 : 0 ≤ IntKind.u64.wrap n % 5000 := by omega
  have h2 : IntKind.u64.wrap n % 5000 < 5000 := by omega
  rw [IntWalk.wrap64_in (IntKind.u64.wrap n % 5000) (by omega), IntWalk.wrap64_in _ (by omega)]
  exact ⟨(1 + IntKind.u64.wrap n % 5000).toNat, by omega, by omega, by omega⟩

def ct (t : Nat) : Hc := ⟨0, 0, 0, [], [t]⟩
theorem good_of {M : Cells} {own : Nat → Nat} (h : Ok 5001 M own []) {t : Nat} (ho : 1 ≤ t → 1 ≤ own t) : goodB M t = true := by
  unfold goodB
  by_cases e : t = 0
  · subst e; rfl
  · have hne := h.owned (i := t) (by omega) (ho (by omega))
    obtain ⟨x, hx⟩ := Option.ne_none_iff_exists'.1 hne
    have h1 : (1 : Int) ≤ t := by omega
    simp [hx, h1]
theorem makeT (t b : Nat) (M : Cells) (F : Nat → Prop) (w : World) (h : Ar w b 5000 M F) (hl : live (5000 + 1) M < 5000) (hg : goodB M t = true) :
    Calls Try.prog 14 #[ap b, cagg 0 0 0 (.slice none 0 0) (.slice (some ⟨w.heap.size, 0, none⟩) 1 1)] (w.alloc (.cells #[.int .i64 t] 3)) (Made (ct t) b 5000 M F (w.alloc (.cells #[.int .i64 t] 3))) := by
  have r1 : Rd (w.alloc (.cells #[.int .i64 t] 3)) (.slice none 0 0) (ct t).vals.length ((ct t).vals.flatMap cells3) := Rd.nil _
  have r2 : Rd (w.alloc (.cells #[.int .i64 t] 3)) (.slice (some ⟨w.heap.size, 0, none⟩) 1 1) (ct t).kids.length (nums (ns (ct t).kids)) := Rd.one w _ _
  have n1 : (ct t).vals.length ≤ 4194304 := Nat.zero_le _
  have n2 : (ct t).kids.length ≤ 4194304 := by show 1 ≤ 4194304; decide
  have g : (ns (ct t).kids).all (goodB M) = true := by show (goodB M t && true) = true; rw [hg]; rfl
  have f1 : ∀ k, (Value.slice none 0 0).ownBlock = some k → ¬ F k := fun k e => by cases e
  have f2 : ∀ k, (Value.slice (some ⟨w.heap.size, 0, none⟩) 1 1).ownBlock = some k → ¬ F k := fun k e hf => by cases e; exact absurd (h.lt hf) (Nat.lt_irrefl _)
  exact amake (ct t) _ _ b 5000 M F _ (h.alloc _) r1 r2 n1 n2 f1 f2 g hl
theorem chain_step {w wr w' : World} {b j t i : Nat} {M : Cells} {F : Nat → Prop} (hL : Lone w wr b 5000 M F) (hok : Ok 5001 M (fun x => if x = t ∧ 1 ≤ t then 1 else 0) []) (hlv : live 5001 M = j) (hrf : ∀ x, rf (M x) ≤ 1) (i1 : 1 ≤ i) (i2 : i ≤ 5000) (hM : M i = none)
    (ha : Ar w' b 5000 (upd M i (some (ct t, 1))) (Fn F (wr.alloc (.cells #[.int .i64 t] 3)) w')) (hk : Kp F (wr.alloc (.cells #[.int .i64 t] 3)) w') : Chain w b (j + 1) i w' := by
  refine ⟨_, _, (hL.alloc _).step ha hk, ?_, ?_, rf_upd hrf _ _ (Nat.le_refl _), fun e => by omega⟩
  · rw [← own_step t i i1]
    refine hok.make i1 (by omega) hM (ct t) fun k hk' => ?_
    show [t].count k ≤ _
    rw [List.count_singleton]
    by_cases e : k = t
    · subst e; simp [hk']
    · have : ¬ (t == k) = true := by simpa using Ne.symm e
      simp [this]
  · have := live_upd (N := 5001) (M := M) i (some (ct t, 1)) (by omega)
    rw [hM] at this
    simp only [one] at this
    omega
/-- The last one is let go: nothing is left. -/
theorem chain_end {t : Nat} {M M' : Cells} (hok : Ok 5001 M (fun x => if x = t ∧ 1 ≤ t then 1 else 0) []) (ht : 1 ≤ t) (hd : Drops M [t] M') : ∀ j, M' j = none := by
  have hg := hok.give (i := t) (by simp [ht])
  exact (hd.ok hg).1.nobody fun i => by
    by_cases e : i = t
    · subst e; simp [ht]
    · simp [e]

set_option maxHeartbeats 1000000 in
theorem walk (n : Int) (w : World) : Calls Try.prog 5 #[.int .i64 n] w fun e w' => e = .returned (.bool true) ∧ Below w.heap.size w w' := by
  go_enter Try.func5, Try.ntmps5
  go_wp2_with fail
  refine (lives4 _).mono ?_
  rintro e w1 ⟨rfl, hb1⟩
  go_wp2_with fail
  refine (anew 5000 w1 (by omega) (by omega)).mono ?_
  rintro e w2 ⟨rfl, ha, hb⟩
  go_wp2_with fail
  obtain ⟨k, hk1, hk2, hk⟩ := size_of n
  rw [hk]
  clear hk
  have L2 : Lone w w2 w1.heap.size 5000 (fun _ => none) (fun k => k = w1.heap.size) := ⟨ha, hb1.trans (hb.mono hb1.size), fun k e => by have := hb1.size; omega⟩
  obtain ⟨b, hbb⟩ : ∃ b, b = w1.heap.size := ⟨_, rfl⟩
  rw [← hbb] at L2 ⊢
  clear hbb ha hb hb1
  have HL := Lib.hid L2
  clear L2
  go_loopw [6, 21] (fun a i wr => ∃ j t : Nat, j ≤ k ∧ i = .int .i64 j ∧ a = .int .i64 t ∧ Chain w b j t wr) (fun _ i _ => k - (intOf i).toNat)
  case atStart =>
    refine ⟨0, 0, Nat.zero_le _, rfl, rfl, fun _ => none, fun k => k = b, HL.out, ⟨rfl, fun _ _ => rfl, fun _ h => absurd rfl h, fun i _ => ?_, ⟨fun _ => 0, fun j k hk => by simp [kd] at hk⟩⟩, live_zero fun _ => rfl, fun _ => Nat.zero_le _, fun _ => rfl⟩
    have : occ 5001 (fun _ => none) i = 0 := sumTo_zero fun _ _ => by simp [kd]
    rw [this]; simp [rf]
  case round =>
    obtain ⟨j, t, hj, rfl, rfl, M, F, hL, hok, hlv, hrf, ht⟩ := hrel
    by_cases h1 : j < k
    · have hgd : goodB M t = true := good_of hok (fun h => by simp [h])
      have HL' := Lib.hid hL
      have HO := Lib.hid hok
      have HV := Lib.hid hlv
      have HR := Lib.hid hrf
      clear hL hok hlv hrf ht
      go_wp2_with fail
      refine (makeT t b M F wr HL'.out.ar (by have := HV.out; show live 5001 M < 5000; omega) hgd).mono ?_
      rintro e w3 ⟨i, rfl, i1, i2, i3, ha, hk⟩
      have HC := Lib.hid (chain_step HL'.out HO.out HV.out HR.out i1 i2 i3 ha hk)
      clear ha hk i3
      go_wp2_with fail
      go_roundw
      case rel => exact ⟨j + 1, i, by omega, by go_num, rfl, HC.out⟩
      case measure => simp [intOf]; omega
    · obtain rfl : j = k := by omega
      have ht1 : 1 ≤ t := by
        rcases Nat.eq_zero_or_pos t with e | e
        · have := ht e; omega
        · exact e
      have HV := Lib.hid (show live (5000 + 1) M = j from hlv)
      have hne := hok.owned (i := t) ht1 (by simp [ht1])
      have HO := Lib.hid hok
      clear hlv ht hok
      go_wp2_with fail
      refine (alive b 5000 M F _ hL.ar).mono ?_
      rintro e w' ⟨rfl, rfl⟩
      rw [HV.out]
      go_wp2_with fail
      refine (adrop t b 5000 M F _ hL.ar hne (fun x => Nat.le_trans (hrf x) (by decide))).mono ?_
      rintro e w3 ⟨rfl, M3, hd, ha, hk⟩
      have hnone := chain_end HO.out ht1 hd
      have L3 := hL.step ha hk
      have HZ := Lib.hid (show live (5000 + 1) M3 = 0 from live_zero hnone)
      have HN := Lib.hid hnone
      clear hnone hL ha hk hd hrf hne
      go_wp2_with fail
      refine (alive b 5000 M3 _ _ L3.ar).mono ?_
      rintro e w' ⟨rfl, rfl⟩
      rw [HZ.out]
      go_wp2_with fail
      refine (adrop_no t b 5000 M3 _ _ L3.ar (fun _ => HN.out _)).mono ?_
      rintro e w' ⟨rfl, rfl⟩
      go_wp2_with fail
      go_ret
      exact ⟨rfl, L3.bel⟩

set_option maxRecDepth 100000 in
theorem lifted (os : Os) (started : os.Started) (H : Type) (enc : TypeId × Value → H) :
    ReturnsInHanded {} Try.checked os 5 .any (Rows.arenaDeepSpec.pre6 enc Try.prog Try.f5 Rows.arenaDeepRow.domain false) (Rows.arenaDeepSpec.post enc Try.prog Try.f5 false true false false) := by
  refine returnsInHanded_of_change (C := Try.checked) own started (by kernel_rfl) Try.func5
    (ChangeSpec.witness6 (enc := enc) (C := Try.checked) false ⟨#[], #[.int .i64 0], []⟩ 8 (by kernel_rfl) (by kernel_rfl) (by kernel_rfl) (by kernel_rfl)) ?_
  intro W base args ds gs before hval0 hW _ _
  have hval : ∀ (j : Nat) t v, Try.f5.params[j]? = some t → args[j]? = some v → Value.okWide Try.prog W .any base t v := hval0
  have hW' := hW
  obtain ⟨p, q, hA0, hV, rfl, _, _⟩ := hW
  have hA : DataW.TrodAll enc Try.prog W 0 (fun _ => true) true Try.f5.params.toList args.toList ds p := hA0
  rw [Try.params5] at hA hval
  obtain ⟨v0, vs0, d0, ds0, p0, q0, hargs, rfl, rfl, h0, r0⟩ := trodAll_cons hA
  obtain ⟨rfl, rfl, rfl⟩ := trodAll_nil r0
  obtain rfl : args = #[v0] := by cases args; simp_all
  obtain ⟨rfl, rfl⟩ := trodVars_none hV
  obtain ⟨a0, rfl, rfl, rfl, w0⟩ := open_int Try.underlying3 (hval 0 3 v0 rfl rfl) h0
  clear hA0 hval0
  simp only [List.append_nil] at hW'
  refine (walk a0 W).mono fun e W' ⟨he, hg⟩ => ?_
  subst he
  refine ⟨_, rfl, _, _, _, [], [], [], hW', ?_, ?_, ?_, hg.frame _, fun h => by cases h⟩
  · exact trodAll_cons_mk (shut_bool Try.underlying4 _) trodAll_mk0
  · exact trodAll_cons_mk (shut_int Try.underlying3 w0) trodAll_mk0
  · rfl

theorem over : Rows.arenaDeepRow.holds Try.pinned (OpenSpec.ofChange Rows.arenaDeepSpec) :=
  OpenClaim.holds_of_wide 5 Try.f5 rfl rfl rfl rfl rfl rfl rfl ⟨rfl, rfl, rfl, rfl, rfl⟩ rfl rfl rfl rfl rfl (by kernel_rfl) Try.func5 (by kernel_rfl)
    (of_decide_eq_true (by kernel_rfl)) (by unfold Func.isWrapper; first | (rw [if_pos (by decide +kernel)]; kernel_rfl) | (rw [if_neg (by decide +kernel)]; exact ⟨rfl, rfl⟩))
    (fun os started H enc _ => lifted os started H enc)

theorem proved : Rows.ArenaDeepSaid :=
  over
#print axioms proved
end Go.Proofs.Ytfnclcehkdlikaa.arenaDeep
