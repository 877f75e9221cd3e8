/- Several texts in one. -/
import Derived.Test.YthcpjehkjhpjfaaGreatMh01
import Derived.Test.YthcpjehkjhpjfaaGreatMh03
import Derived.Test.YthcpjehkjhpjfaaGreatMh23
import Derived.IntWalk
namespace Go.Proofs.YthcpjehkjhpjfaaGreat
set_option maxRecDepth 100000
open Go.RowKit
section
set_option maxHeartbeats 1600000 in
theorem rat (g i : Nat) (hg : g < 18446744073709551616) (hi : i < 13) (w : World) : Calls Tryz.prog 104 #[.int .u64 (g : Nat), .int .i64 (i : Nat)] w fun e w' => e = .returned (.int .i64 (dg g i : Nat)) ∧ w = w' := by
  have h0 : ¬ (i : Int) < 0 := by omega
  have h1 : ¬ (12 : Int) < (i : Int) := by omega
  go_enter Tryz.func104, Tryz.ntmps104
  go_wp2_with fail
  go_loopw [0, 5] (fun s0 s5 wr => ∃ j m : Nat, j ≤ i ∧ s5 = .int .i64 (j : Int) ∧ s0 = .int .u64 (m : Int) ∧ Hid (m = g / 32 ^ j ∧ m ≤ g) ∧ wr = w) (fun _ s5 _ => i - (intOf s5).toNat)
  case atStart => exact ⟨0, g, Nat.zero_le _, rfl, rfl, ⟨by simp, Nat.le_refl _⟩, rfl⟩
  case round =>
    obtain ⟨j, m, hj, rfl, rfl, HM, rfl⟩ := hrel
    by_cases hji : j < i
    · have hlt : (j : Int) < (i : Int) := by omega
      have hw1 : IntKind.i64.wrap ((j : Int) + 1) = (j : Int) + 1 := IntWalk.i64_in _ (by omega)
      have hu : IntKind.u64.wrap ((m : Int) / 32) = (m : Int) / 32 := by
        have hle := HM.out.2
        have e0 : ∀ x : Int, IntKind.u64.wrap x = x % 18446744073709551616 := fun x => by simp [IntKind.wrap, IntKind.bits, IntKind.signed]
        rw [e0]
        omega
      go_wp2_with fail
      go_roundw
      case rel => exact ⟨j + 1, m / 32, by omega, rfl, rfl, ⟨by rw [HM.out.1, Nat.div_div_eq_div_mul, Nat.pow_succ], by have := HM.out.2; omega⟩, trivial⟩
      case measure => simp [intOf]; omega
    · have hlt : ¬ (j : Int) < (i : Int) := by omega
      obtain rfl : j = i := by omega
      have HD := Lib.hid (show ((dg g j : Nat) : Int) = (m : Int) % 32 by unfold dg; rw [← HM.out.1]; rfl)
      have hm32 : (m : Int) % 32 < 32 := by omega
      have hw2 : wrap64 ((m : Int) % 32) = (m : Int) % 32 := IntWalk.wrap64_in _ (by omega)
      go_wp2_with fail
      exact bodyPost_ret (v := .int .i64 ((m : Int) % 32)) (by simp [results, Tryz.results104, go_sem]) rfl ⟨by rw [HD.out], rfl⟩
set_option maxHeartbeats 1600000 in
theorem rless (hs : Ky → Nat) (seed : Nat) (a b : Ky) (ha : 0 ≤ a.1 ∧ a.1 ≤ 255 ∧ 17 + a.2.2.size ≤ 140737488355328) (hb : 0 ≤ b.1 ∧ b.1 ≤ 255 ∧ 17 + b.2.2.size ≤ 140737488355328) (ea : hs a = hashN seed a.1 a.2.1 a.2.2) (eb : hs b = hashN seed b.1 b.2.1 b.2.2) (w : World) :
    Calls Tryz.prog 33 #[.int .u64 (seed : Nat), vv a.1 a.2.1 a.2.2, vv b.1 b.2.1 b.2.2] w fun e w' => e = .returned (.bool (kltB hs a b)) ∧ Below w.heap.size w w' := by
  have HOA := Lib.hid (fun W => ref_of seed a.1 a.2.1 a.2.2 W ha.1 ha.2.1 ha.2.2)
  have HOB := Lib.hid (fun W => ref_of seed b.1 b.2.1 b.2.2 W hb.1 hb.2.1 hb.2.2)
  rw [← ea] at HOA
  rw [← eb] at HOB
  have HLS := Lib.hid (fun W => ref_less a.1 a.2.1 a.2.2 b.1 b.2.1 b.2.2 W (by omega) (by omega))
  obtain ⟨ga, hga⟩ : ∃ ga, ga = hs a := ⟨_, rfl⟩
  obtain ⟨gb, hgb⟩ : ∃ gb, gb = hs b := ⟨_, rfl⟩
  rw [← hga] at HOA
  rw [← hgb] at HOB
  have HGL := Lib.hid (show ga < 18446744073709551616 ∧ gb < 18446744073709551616 from ⟨by rw [hga, ea]; exact mixN_lt _, by rw [hgb, eb]; exact mixN_lt _⟩)
  have HGE := Lib.hid (And.intro hga hgb)
  obtain ⟨W0, hW0⟩ : ∃ W0, W0 = (w.alloc (.cells #[.int .u8 a.1, .int .i64 a.2.1, .string a.2.2] 74)).alloc (.cells #[.int .u8 b.1, .int .i64 b.2.1, .string b.2.2] 74) := ⟨_, rfl⟩
  have hb0 : Below w.heap.size w W0 := by rw [hW0]; exact ((Below.refl _ w).alloc (Nat.le_refl _) _).alloc (by simp) _
  have q4 : C3 W0 w.heap.size 74 (.int .u8 a.1) (.int .i64 a.2.1) (.string a.2.2) := by rw [hW0]; exact (C3.new w _ _ _ _).alloc _
  have q5 : C3 W0 (w.heap.size + 1) 74 (.int .u8 b.1) (.int .i64 b.2.1) (.string b.2.2) := by
    have h := C3.new (w.alloc (.cells #[.int .u8 a.1, .int .i64 a.2.1, .string a.2.2] 74)) 74 (.int .u8 b.1) (.int .i64 b.2.1) (.string b.2.2)
    rw [hW0]
    simpa using h
  have HW0 := Lib.hid hW0
  have HB0 := Lib.hid hb0
  have HQ := Lib.hid (And.intro q4 q5)
  obtain ⟨a0, a1, a2, _⟩ := q4.all
  clear ha hb ea eb hga hgb hW0 hb0 q4 q5
  go_enter Tryz.func33, Tryz.ntmps33
  go_upto_region 1 with fail
  rw [← HW0.out]
  clear HW0
  go_wp2_with fail
  refine (HOA.out _).mono ?_
  rintro e w1 ⟨rfl, hb1⟩
  have HB1 := Lib.hid hb1
  obtain ⟨b0, b1, b2, _⟩ := (HQ.out.2.below hb1).all
  clear hb1 a0 a1 a2 HOA
  go_wp2_with fail
  refine (HOB.out _).mono ?_
  rintro e w2 ⟨rfl, hb2⟩
  have HB2 := Lib.hid (HB1.out.trans (hb2.mono HB1.out.size))
  clear hb2 b0 b1 b2 HOB HB1
  go_wp2_with fail
  go_loopw [9] (fun s9 wr => ∃ j : Nat, s9 = .int .i64 (j : Int) ∧ j ≤ 13 ∧ Hid (∀ i, i < j → dg ga i = dg gb i) ∧ wr = w2) (fun s9 _ => 13 - (intOf s9).toNat)
  case atStart => exact ⟨0, rfl, by decide, fun i hi => by omega, rfl⟩
  case round =>
    obtain ⟨j, rfl, hj, HA, rfl⟩ := hrel
    by_cases h13 : j < 13
    · have h13' : (j : Int) < 13 := by omega
      have hw1 : IntKind.i64.wrap ((j : Int) + 1) = (j : Int) + 1 := IntWalk.i64_in _ (by omega)
      by_cases e : dg ga j = dg gb j
      · have e' : ((dg ga j : Int) == (dg gb j : Int)) = true := by rw [beq_iff_eq]; omega
        have HE := Lib.hid e
        clear e
        go_wp2_with fail
        refine (rat ga j HGL.out.1 h13 _).mono ?_
        rintro x w' ⟨rfl, rfl⟩
        go_wp2_with fail
        refine (rat gb j HGL.out.2 h13 _).mono ?_
        rintro x w' ⟨rfl, rfl⟩
        rw [← HE.out]
        go_wp2_with fail
        go_roundw
        case rel => exact ⟨j + 1, rfl, by omega, fun i hi => by
          by_cases ei : i = j
          · rw [ei]; exact HE.out
          · exact HA.out i (by omega), trivial⟩
        case measure => simp [intOf]; omega
      · have hne : ¬ (dg ga j : Int) = (dg gb j : Int) := by omega
        have HP := Lib.hid (show pt ga gb = j from pt_uniq hj HA.out (fun _ => e))
        clear e
        go_wp2_with fail
        refine (rat ga j HGL.out.1 h13 _).mono ?_
        rintro x w' ⟨rfl, rfl⟩
        go_wp2_with fail
        refine (rat gb j HGL.out.2 h13 _).mono ?_
        rintro x w' ⟨rfl, rfl⟩
        go_wp2_with fail
        refine bodyPost_ret (v := .bool (decide ((dg ga j : Int) < (dg gb j : Int)))) (by simp [results, Tryz.results33, go_sem]) rfl ⟨?_, HB0.out.trans (HB2.out.mono HB0.out.size)⟩
        have hkl : kltB hs a b = decide (dg ga j < dg gb j) := by
          unfold kltB
          rw [← HGE.out.1, ← HGE.out.2, HP.out, if_pos h13]
        rw [hkl]
        congr 2
        exact decide_eq_decide.2 (by omega)
    · have h13' : ¬ (j : Int) < 13 := by omega
      obtain rfl : j = 13 := by omega
      have HP := Lib.hid (show pt ga gb = 13 from pt_uniq (Nat.le_refl _) HA.out (fun h => absurd h (Nat.lt_irrefl _)))
      obtain ⟨a0, a1, a2, _⟩ := (HQ.out.1.below HB2.out).all
      obtain ⟨b0, b1, b2, _⟩ := (HQ.out.2.below HB2.out).all
      go_wp2_with fail
      refine (HLS.out _).mono ?_
      rintro x w' ⟨rfl, hg⟩
      have HG := Lib.hid hg.below
      clear hg a0 a1 a2 b0 b1 b2
      go_wp2_with fail
      refine bodyPost_ret (v := .bool (lessB a.1 a.2.1 a.2.2 b.1 b.2.1 b.2.2)) (by simp [results, Tryz.results33, go_sem]) rfl ⟨?_, (HB0.out.trans (HB2.out.mono HB0.out.size)).trans (HG.out.mono (Nat.le_trans HB0.out.size HB2.out.size))⟩
      have hkl : kltB hs a b = lessB a.1 a.2.1 a.2.2 b.1 b.2.1 b.2.2 := by
        unfold kltB lessB vc
        rw [← HGE.out.1, ← HGE.out.2, HP.out, if_neg (by decide)]
      rw [hkl]
end
end Go.Proofs.YthcpjehkjhpjfaaGreat

namespace Go.Proofs.YthcpjehkjhpjfaaGreat
set_option maxRecDepth 100000
open Go.RowKit
def pcells (p : Pr) : List Value := cells3 p.1 ++ cells3 p.2
theorem pflat_get : ∀ (l : List Pr) (i : Nat) (p : Pr), l[i]? = some p → ∀ t, t < 6 → (l.flatMap pcells)[i * 6 + t]? = (pcells p)[t]?
  | [], i, p, h, _, _ => by simp at h
  | q :: l, 0, p, h, t, ht => by
    obtain rfl : q = p := by simpa using h
    rw [List.flatMap_cons, List.getElem?_append_left (by show 0 * 6 + t < 6; omega), Nat.zero_mul, Nat.zero_add]
  | q :: l, i + 1, p, h, t, ht => by
    rw [List.flatMap_cons, List.getElem?_append_right (by show 6 ≤ _; omega)]
    have : (i + 1) * 6 + t - (pcells q).length = i * 6 + t := by show (i + 1) * 6 + t - 6 = _; omega
    rw [this]
    exact pflat_get l i p (by simpa using h) t ht
theorem look_yes (k v : Ky) : ∀ (l : List Pr) (j : Nat), l[j]? = some (k, v) → (∀ i p, i < j → l[i]? = some p → p.1 ≠ k) → lookV k l = v ∧ hasB k l = true
  | [], j, h, _ => by simp at h
  | q :: l, 0, h, _ => by
    obtain rfl : q = (k, v) := by simpa using h
    exact ⟨by simp [lookV, lookL], by simp [hasB]⟩
  | q :: l, j + 1, h, h0 => by
    have hq : q.1 ≠ k := h0 0 q (by omega) rfl
    obtain ⟨e1, e2⟩ := look_yes k v l j (by simpa using h) (fun i p hi hp => h0 (i + 1) p (by omega) (by simpa using hp))
    refine ⟨?_, by simp only [hasB, List.any_cons] at e2 ⊢; rw [e2, Bool.or_true]⟩
    rw [← e1]
    simp [lookV, lookL, hq]
theorem look_none (k : Ky) : ∀ l : List Pr, (∀ i p, i < l.length → l[i]? = some p → p.1 ≠ k) → lookV k l = (0, 0, ⟨#[]⟩) ∧ hasB k l = false
  | [], _ => ⟨rfl, rfl⟩
  | q :: l, h0 => by
    have hq : q.1 ≠ k := h0 0 q (by simp) rfl
    obtain ⟨e1, e2⟩ := look_none k l (fun i p hi hp => h0 (i + 1) p (by simpa using hi) (by simpa using hp))
    refine ⟨?_, by simp only [hasB, List.any_cons] at e2 ⊢; rw [e2, Bool.or_false]; simpa using hq⟩
    rw [← e1]
    simp [lookV, lookL, hq]
theorem lk_on {k : Ky} {l : List Pr} {j : Nat} (h : ∀ i p, i < j → l[i]? = some p → p.1 ≠ k) {x : Pr} (hx : l[j]? = some x) (hk : x.1 ≠ k) : ∀ i p, i < j + 1 → l[i]? = some p → p.1 ≠ k := by
  intro i p hi hp
  by_cases e : i = j
  · rw [e, hx] at hp
    rw [← Option.some.inj hp]
    exact hk
  · exact h i p (by omega) hp
section
set_option maxHeartbeats 1600000 in
theorem rlook (base : Nat) (v : Value) (k : Ky) (l : List Pr) (w : World) (hl : l.length ≤ 1000000) (ho : w.ownsRow base 78 6 v l.length (l.flatMap pcells)) :
    Calls Tryz.prog 84 #[v, vv k.1 k.2.1 k.2.2] w fun e w' => e = .returned (.tuple #[xagg (lookV k l), .bool (hasB k l)]) ∧ Below w.heap.size w w' := by
  obtain ⟨A, c, rfl, hc⟩ := (Rd.of_own ho).form
  obtain ⟨W0, hW0⟩ : ∃ W0, W0 = (w.alloc (.cells #[.int .u8 k.1, .int .i64 k.2.1, .string k.2.2] 74)).alloc (.cells #[.int .u8 0, .int .i64 0, .string ⟨#[]⟩] 74) := ⟨_, rfl⟩
  have hb0 : Below w.heap.size w W0 := by rw [hW0]; exact ((Below.refl _ w).alloc (Nat.le_refl _) _).alloc (by simp) _
  have q3 : C3 W0 w.heap.size 74 (.int .u8 k.1) (.int .i64 k.2.1) (.string k.2.2) := by rw [hW0]; exact (C3.new w _ _ _ _).alloc _
  have q4 : C3 W0 (w.heap.size + 1) 74 (.int .u8 0) (.int .i64 0) (.string ⟨#[]⟩) := by
    have h := C3.new (w.alloc (.cells #[.int .u8 k.1, .int .i64 k.2.1, .string k.2.2] 74)) 74 (.int .u8 0) (.int .i64 0) (.string ⟨#[]⟩)
    rw [hW0]
    simpa using h
  have HW0 := Lib.hid hW0
  have HB0 := Lib.hid hb0
  have HQ := Lib.hid (And.intro q3 (And.intro q4 ((Kp.of_below hb0 (fun _ => False)).own ho (fun _ _ h => h))))
  clear ho hW0 hb0 q3 q4
  go_enter Tryz.func84, Tryz.ntmps84
  go_upto_region 1 with fail
  rw [← HW0.out]
  clear HW0
  go_wp2_with fail
  go_loopw [6] (fun s6 wr => ∃ j q : Nat, s6 = .int .i64 (j : Int) ∧ j ≤ l.length ∧ Hid (∀ i p, i < j → l[i]? = some p → p.1 ≠ k) ∧ wr = W0.drewN q) (fun s6 _ => l.length - (intOf s6).toNat)
  case atStart => exact ⟨0, 0, rfl, Nat.zero_le _, fun i p hi => by omega, rfl⟩
  case round =>
    obtain ⟨j, q, rfl, hj, HA, rfl⟩ := hrel
    by_cases hjl : j < l.length
    · have hlt : (j : Int) < (l.length : Int) := by omega
      have hj0 : (0 : Int) ≤ (j : Int) := by omega
      obtain ⟨p, hp⟩ : ∃ p, l[j]? = some p := ⟨_, List.getElem?_eq_getElem hjl⟩
      have cel : ∀ t u, t < 6 → (pcells p)[t]? = some u → ∃ g, A = some ⟨g, 0, none⟩ ∧ W0.cell? ⟨g, j * 6 + t, none⟩ = some u := fun t u ht hu => by
        obtain ⟨g, c', e, _, kc, _⟩ := own_at HQ.out.2.2 ((pflat_get l j p hp t ht).trans hu)
        simp only [Value.slice.injEq, true_and] at e
        exact ⟨g, e.1, kc⟩
      obtain ⟨g, rfl, k0⟩ := cel 0 _ (by decide) rfl
      obtain ⟨g1, e1, k1⟩ := cel 1 _ (by decide) rfl
      obtain ⟨g2, e2, k2⟩ := cel 2 _ (by decide) rfl
      obtain ⟨g3, e3, k3⟩ := cel 3 _ (by decide) rfl
      obtain ⟨g4, e4, k4⟩ := cel 4 _ (by decide) rfl
      obtain ⟨g5, e5, k5⟩ := cel 5 _ (by decide) rfl
      simp only [Option.some.injEq, Addr.mk.injEq, and_true] at e1 e2 e3 e4 e5
      subst e1 e2 e3 e4 e5
      rw [Nat.add_zero] at k0
      obtain ⟨a0, a1, a2, _⟩ := HQ.out.1.all
      obtain ⟨⟨pk, pn, ps⟩, pv⟩ := p
      obtain ⟨kk, kn, ks⟩ := k
      simp only at k0 k1 k2 k3 k4 k5 a0 a1 a2 ⊢
      have HP := Lib.hid hp
      clear hp
      by_cases e0 : pk = kk
      · by_cases e1 : pn = kn
        · by_cases e2 : ps = ks
          · subst e0 e1 e2
            go_wp2_with fail
            go_quiet (fail)
            obtain ⟨r0, r1, r2, f0, f1, f2⟩ := HQ.out.2.1.all
            go_wp2_with fail
            obtain ⟨y1, y2⟩ := look_yes _ _ l j HP.out HA.out
            refine bodyPost_ret (v := .tuple #[xagg pv, .bool true]) (by simp [results, Tryz.results84, go_sem, xagg, r0, r1, r2]) rfl ⟨by rw [y1, y2], ?_⟩
            exact (((HB0.out.trans ((below_drewN W0 _).mono HB0.out.size)).setCell (by simp) _).setCell (by simp) _).setCell (by simp) _
          · have e3 : ¬ ps.toList = ks.toList := fun h => e2 (bytes_ext h)
            subst e0 e1
            go_wp2_with fail
            go_quiet (fail)
            go_wp2_with fail
            go_roundw
            case rel => exact ⟨j + 1, q + nq, rfl, by omega, lk_on HA.out HP.out (fun e => e2 (congrArg (fun x : Ky => x.2.2) e)), rfl⟩
            case measure => simp [intOf]; omega
        · subst e0
          go_wp2_with fail
          go_quiet (fail)
          go_wp2_with fail
          go_roundw
          case rel => exact ⟨j + 1, q + nq, rfl, by omega, lk_on HA.out HP.out (fun e => e1 (congrArg (fun x : Ky => x.2.1) e)), rfl⟩
          case measure => simp [intOf]; omega
      · have e9 := e0
        go_wp2_with fail
        go_quiet (fail)
        go_wp2_with fail
        go_roundw
        case rel => exact ⟨j + 1, q + nq, rfl, by omega, lk_on HA.out HP.out (fun e => e0 (congrArg (fun x : Ky => x.1) e)), rfl⟩
        case measure => simp [intOf]; omega
    · have hlt : ¬ (j : Int) < (l.length : Int) := by omega
      obtain rfl : j = l.length := by omega
      obtain ⟨r0, r1, r2, f0, f1, f2⟩ := HQ.out.2.1.all
      go_wp2_with fail
      obtain ⟨y1, y2⟩ := look_none k l HA.out
      refine bodyPost_ret (v := .tuple #[xagg (0, 0, ⟨#[]⟩), .bool false]) (by simp [results, Tryz.results84, go_sem, xagg, r0, r1, r2]) rfl ⟨by rw [y1, y2], ?_⟩
      exact (((HB0.out.trans ((below_drewN W0 _).mono HB0.out.size)).setCell (by simp) _).setCell (by simp) _).setCell (by simp) _
end
end Go.Proofs.YthcpjehkjhpjfaaGreat

namespace Go.Proofs.YthcpjehkjhpjfaaGreat
set_option maxRecDepth 100000
open Go.RowKit
structure Tk8 (w wr : World) (m : List Pr) (x : Value) : Prop where
  bel : Below w.heap.size w wr
  own : wr.ownsRow w.heap.size 78 6 x m.length (m.flatMap pcells)
theorem pinfo8 : (Tryz.prog.info? 78).map (fun i => (i.zero, i.size, i.bytes)) = some (some (.agg #[.int .u8 0, .int .i64 0, .string ⟨#[]⟩, .int .u8 0, .int .i64 0, .string ⟨#[]⟩]), 6, 64) := by kernel_rfl
theorem take_skip {k : Ky} {l : List Pr} {j : Nat} {p : Pr} (h : l[j]? = some p) (e : p.1 = k) : takeL k (l.take (j + 1)) = takeL k (l.take j) := by
  unfold takeL
  rw [List.take_add_one, h, List.filter_append]
  simp [e]
theorem take_more {k : Ky} {l : List Pr} {j : Nat} {p : Pr} (h : l[j]? = some p) (e : p.1 ≠ k) : takeL k (l.take (j + 1)) = takeL k (l.take j) ++ [p] := by
  unfold takeL
  rw [List.take_add_one, h, List.filter_append]
  simp [e]
theorem take_le (k : Ky) (l : List Pr) (j : Nat) : (takeL k (l.take j)).length ≤ j := Nat.le_trans (List.length_filter_le _ _) (List.length_take_le _ _)
theorem rd_six (w : World) (x0 x1 x2 x3 x4 x5 : Value) (t : TypeId) (b : Nat) (hb : b = w.heap.size) : Rd (w.alloc (.cells #[x0, x1, x2, x3, x4, x5] t)) (.slice (some ⟨b, 0, none⟩) 1 1) 1 [x0, x1, x2, x3, x4, x5] := by
  subst hb
  refine .inr ⟨_, 0, 1, rfl, Nat.le_refl _, fun j u hu => ?_⟩
  match j, hu with
  | 0, hu => simp at hu; subst hu; simp [go_sem]
  | 1, hu => simp at hu; subst hu; simp [go_sem]
  | 2, hu => simp at hu; subst hu; simp [go_sem]
  | 3, hu => simp at hu; subst hu; simp [go_sem]
  | 4, hu => simp at hu; subst hu; simp [go_sem]
  | 5, hu => simp at hu; subst hu; simp [go_sem]
theorem row6 {w : World} {base c : Nat} {A : Option Addr} {l : List Pr} (h : w.ownsRow base 78 6 (.slice A l.length c) l.length (l.flatMap pcells)) {j : Nat} {p : Pr} (hp : l[j]? = some p) :
    ∃ g, A = some ⟨g, 0, none⟩ ∧ w.cell? ⟨g, j * 6, none⟩ = some (.int .u8 p.1.1) ∧ w.cell? ⟨g, j * 6 + 1, none⟩ = some (.int .i64 p.1.2.1) ∧ w.cell? ⟨g, j * 6 + 2, none⟩ = some (.string p.1.2.2) ∧ w.cell? ⟨g, j * 6 + 3, none⟩ = some (.int .u8 p.2.1) ∧ w.cell? ⟨g, j * 6 + 4, none⟩ = some (.int .i64 p.2.2.1) ∧ w.cell? ⟨g, j * 6 + 5, none⟩ = some (.string p.2.2.2) := by
  have cel : ∀ t u, t < 6 → (pcells p)[t]? = some u → ∃ g, A = some ⟨g, 0, none⟩ ∧ w.cell? ⟨g, j * 6 + t, none⟩ = some u := fun t u ht hu => by
    obtain ⟨g, c', e, _, kc, _⟩ := own_at h ((pflat_get l j p hp t ht).trans hu)
    simp only [Value.slice.injEq, true_and] at e
    exact ⟨g, e.1, kc⟩
  obtain ⟨g, rfl, k0⟩ := cel 0 _ (by decide) rfl
  obtain ⟨g1, e1, k1⟩ := cel 1 _ (by decide) rfl
  obtain ⟨g2, e2, k2⟩ := cel 2 _ (by decide) rfl
  obtain ⟨g3, e3, k3⟩ := cel 3 _ (by decide) rfl
  obtain ⟨g4, e4, k4⟩ := cel 4 _ (by decide) rfl
  obtain ⟨g5, e5, k5⟩ := cel 5 _ (by decide) rfl
  simp only [Option.some.injEq, Addr.mk.injEq, and_true] at e1 e2 e3 e4 e5
  subst e1 e2 e3 e4 e5
  exact ⟨g, rfl, k0, k1, k2, k3, k4, k5⟩
section
set_option maxHeartbeats 1600000 in
theorem rtake (base : Nat) (v : Value) (k : Ky) (l : List Pr) (w : World) (hl : l.length ≤ 1000000) (ho : w.ownsRow base 78 6 v l.length (l.flatMap pcells)) :
    Calls Tryz.prog 133 #[v, vv k.1 k.2.1 k.2.2] w fun e w' => ∃ y, e = .returned y ∧ w'.ownsRow w.heap.size 78 6 y (takeL k l).length ((takeL k l).flatMap pcells) ∧ Below w.heap.size w w' := by
  obtain ⟨A, c, rfl, hc⟩ := (Rd.of_own ho).form
  obtain ⟨W0, hW0⟩ : ∃ W0, W0 = w.alloc (.cells #[.int .u8 k.1, .int .i64 k.2.1, .string k.2.2] 74) := ⟨_, rfl⟩
  have hb0 : Below w.heap.size w W0 := by rw [hW0]; exact (Below.refl _ w).alloc (Nat.le_refl _) _
  have q3 : C3 W0 w.heap.size 74 (.int .u8 k.1) (.int .i64 k.2.1) (.string k.2.2) := by rw [hW0]; exact C3.new w _ _ _ _
  have HB0 := Lib.hid hb0
  have HQ := Lib.hid (And.intro q3 ((Kp.of_below hb0 (fun _ => False)).own ho (fun _ _ h => h)))
  have HP := Lib.hid (Tk8.mk (w := W0) (m := []) (x := .slice none 0 0) (Below.refl _ W0) (World.ownsRow_nil _ _ _ _))
  obtain ⟨z, hz⟩ : ∃ z, z = w.heap.size := ⟨_, rfl⟩
  have HZ := Lib.hid hz
  rw [← hz] at HQ
  obtain ⟨i1, hi1, hy0, hy1, hy2⟩ := info_parts pinfo8
  clear ho q3 hb0
  go_enter Tryz.func133, Tryz.ntmps133
  go_wp2_with fail
  rw [← hW0, ← hz]
  clear hW0 hz
  go_loopg [5, 6] l.length (fun c' s i wr => ∃ j : Nat, j + c' = l.length ∧ i = .int .i64 (j : Nat) ∧ Tk8 W0 wr (takeL k (l.take j)) s)
  case atStart => exact ⟨0, by omega, rfl, HP.out⟩
  case round =>
    obtain ⟨j, hj, rfl, hP⟩ := hrel
    obtain ⟨A1, m1, rfl, hm1⟩ := (Rd.of_own hP.own).form
    by_cases hjl : j < l.length
    · have HB := Lib.hid hP.bel
      have HO := Lib.hid hP.own
      have HJ := Lib.hid (And.intro hj hjl)
      have hlt : (j : Int) < (l.length : Int) := by omega
      have hj0 : (0 : Int) ≤ (j : Int) := by omega
      obtain ⟨p, hp⟩ : ∃ p, l[j]? = some p := ⟨_, List.getElem?_eq_getElem hjl⟩
      have HR := Lib.hid ((Kp.of_below hP.bel (fun _ => False)).own HQ.out.2 (fun _ _ h => h))
      obtain ⟨g, rfl, k0, k1, k2, k3, k4, k5⟩ := row6 HR.out hp
      obtain ⟨a0, a1, a2, _⟩ := (HQ.out.1.below HB.out).all
      obtain ⟨⟨pk, pn, ps⟩, pv⟩ := p
      obtain ⟨kk, kn, ks⟩ := k
      simp only at k0 k1 k2 k3 k4 k5 a0 a1 a2 ⊢
      have HX := Lib.hid hp
      clear hp hP hj
      by_cases e0 : pk = kk
      · by_cases e1 : pn = kn
        · by_cases e2 : ps = ks
          · subst e0 e1 e2
            go_wp2_with fail
            go_quiet (fail)
            go_wp2_with fail
            go_roundg (l.length - (j + 1))
            case measure => have := HJ.out; omega
            case rel =>
              refine ⟨j + 1, by have := HJ.out; omega, by go_num, HB.out.trans ((below_drewN _ _).mono HB.out.size), ?_⟩
              rw [take_skip HX.out rfl]
              exact HO.out
          · have e3 : ¬ ps.toList = ks.toList := fun h => e2 (bytes_ext h)
            subst e0 e1
            have HN := Lib.hid (show (takeL (pk, pn, ks) (l.take j)).length ≤ j from take_le _ _ _)
            have hn := HN.out
            have hsz := HB.out.size
            go_wp2_with fail
            go_quiet (fail)
            go_wp2_with (at_builtin; refine wpList_append_rd rfl _ _ 34 rfl W0.heap.size 78 i1 _ 6 64 Tryz.underlying34 hi1 hy0 hy1 hy2 rfl (by decide) (.slice A1 (takeL (pk, pn, ks) (l.take j)).length m1) (takeL (pk, pn, ks) (l.take j)).length ((takeL (pk, pn, ks) (l.take j)).flatMap pcells) rfl ?k0 _ 1 [.int .u8 pk, .int .i64 pn, .string ps, .int .u8 pv.1, .int .i64 pv.2.1, .string pv.2.2] rfl ?k1 rfl (by simp [Value.oneCell']) ?k2 ?k3 ?k4 ?_)
            case k0 => exact (Kp.of_below ((below_drewN wr nq).alloc (Nat.le_refl _) _) (fun _ => False)).own HO.out (fun _ _ => id)
            case k1 => exact rd_six _ _ _ _ _ _ _ _ _ rfl
            case k2 => unfold maxLen; omega
            case k3 => omega
            case k4 => simp; omega
            intro v' w' hown hg hat
            have hb3 : Below wr.heap.size wr ((wr.drewN nq).alloc (.cells #[.int .u8 pk, .int .i64 pn, .string ps, .int .u8 pv.1, .int .i64 pv.2.1, .string pv.2.2] 78)) := (below_drewN wr nq).alloc (Nat.le_refl _) _
            have HB3 := Lib.hid ((HB.out.trans (hb3.mono HB.out.size)).grown hg (HB.out.trans (hb3.mono HB.out.size)).size (fun q e => (HO.out.lt q e).1))
            have HO3 := Lib.hid hown
            clear hg hat hown hb3
            go_wp2_with fail
            go_roundg (l.length - (j + 1))
            case measure => have := HJ.out; omega
            case rel =>
              refine ⟨j + 1, by have := HJ.out; omega, by go_num, HB3.out, ?_⟩
              rw [take_more HX.out (fun e => e2 (congrArg (fun x : Ky => x.2.2) e)), List.length_append, List.flatMap_append, List.flatMap_singleton]
              exact HO3.out
        · subst e0
          have HN := Lib.hid (show (takeL (pk, kn, ks) (l.take j)).length ≤ j from take_le _ _ _)
          have hn := HN.out
          have hsz := HB.out.size
          go_wp2_with fail
          go_quiet (fail)
          go_wp2_with (at_builtin; refine wpList_append_rd rfl _ _ 34 rfl W0.heap.size 78 i1 _ 6 64 Tryz.underlying34 hi1 hy0 hy1 hy2 rfl (by decide) (.slice A1 (takeL (pk, kn, ks) (l.take j)).length m1) (takeL (pk, kn, ks) (l.take j)).length ((takeL (pk, kn, ks) (l.take j)).flatMap pcells) rfl ?k0 _ 1 [.int .u8 pk, .int .i64 pn, .string ps, .int .u8 pv.1, .int .i64 pv.2.1, .string pv.2.2] rfl ?k1 rfl (by simp [Value.oneCell']) ?k2 ?k3 ?k4 ?_)
          case k0 => exact (Kp.of_below ((below_drewN wr nq).alloc (Nat.le_refl _) _) (fun _ => False)).own HO.out (fun _ _ => id)
          case k1 => exact rd_six _ _ _ _ _ _ _ _ _ rfl
          case k2 => unfold maxLen; omega
          case k3 => omega
          case k4 => simp; omega
          intro v' w' hown hg hat
          have hb3 : Below wr.heap.size wr ((wr.drewN nq).alloc (.cells #[.int .u8 pk, .int .i64 pn, .string ps, .int .u8 pv.1, .int .i64 pv.2.1, .string pv.2.2] 78)) := (below_drewN wr nq).alloc (Nat.le_refl _) _
          have HB3 := Lib.hid ((HB.out.trans (hb3.mono HB.out.size)).grown hg (HB.out.trans (hb3.mono HB.out.size)).size (fun q e => (HO.out.lt q e).1))
          have HO3 := Lib.hid hown
          clear hg hat hown hb3
          go_wp2_with fail
          go_roundg (l.length - (j + 1))
          case measure => have := HJ.out; omega
          case rel =>
            refine ⟨j + 1, by have := HJ.out; omega, by go_num, HB3.out, ?_⟩
            rw [take_more HX.out (fun e => e1 (congrArg (fun x : Ky => x.2.1) e)), List.length_append, List.flatMap_append, List.flatMap_singleton]
            exact HO3.out
      ·
        have HN := Lib.hid (show (takeL (kk, kn, ks) (l.take j)).length ≤ j from take_le _ _ _)
        have hn := HN.out
        have hsz := HB.out.size
        go_wp2_with fail
        go_quiet (fail)
        go_wp2_with (at_builtin; refine wpList_append_rd rfl _ _ 34 rfl W0.heap.size 78 i1 _ 6 64 Tryz.underlying34 hi1 hy0 hy1 hy2 rfl (by decide) (.slice A1 (takeL (kk, kn, ks) (l.take j)).length m1) (takeL (kk, kn, ks) (l.take j)).length ((takeL (kk, kn, ks) (l.take j)).flatMap pcells) rfl ?k0 _ 1 [.int .u8 pk, .int .i64 pn, .string ps, .int .u8 pv.1, .int .i64 pv.2.1, .string pv.2.2] rfl ?k1 rfl (by simp [Value.oneCell']) ?k2 ?k3 ?k4 ?_)
        case k0 => exact (Kp.of_below ((below_drewN wr nq).alloc (Nat.le_refl _) _) (fun _ => False)).own HO.out (fun _ _ => id)
        case k1 => exact rd_six _ _ _ _ _ _ _ _ _ rfl
        case k2 => unfold maxLen; omega
        case k3 => omega
        case k4 => simp; omega
        intro v' w' hown hg hat
        have hb3 : Below wr.heap.size wr ((wr.drewN nq).alloc (.cells #[.int .u8 pk, .int .i64 pn, .string ps, .int .u8 pv.1, .int .i64 pv.2.1, .string pv.2.2] 78)) := (below_drewN wr nq).alloc (Nat.le_refl _) _
        have HB3 := Lib.hid ((HB.out.trans (hb3.mono HB.out.size)).grown hg (HB.out.trans (hb3.mono HB.out.size)).size (fun q e => (HO.out.lt q e).1))
        have HO3 := Lib.hid hown
        clear hg hat hown hb3
        go_wp2_with fail
        go_roundg (l.length - (j + 1))
        case measure => have := HJ.out; omega
        case rel =>
          refine ⟨j + 1, by have := HJ.out; omega, by go_num, HB3.out, ?_⟩
          rw [take_more HX.out (fun e => e0 (congrArg (fun x : Ky => x.1) e)), List.length_append, List.flatMap_append, List.flatMap_singleton]
          exact HO3.out
    · obtain rfl : j = l.length := by omega
      have hlt : ¬ (l.length : Int) < (l.length : Int) := by omega
      have HB := Lib.hid hP.bel
      have HO := Lib.hid hP.own
      clear hP hj
      go_wp2_with fail
      refine bodyPost_ret (v := .slice A1 (takeL k (l.take l.length)).length m1) (by simp [results, Tryz.results133, go_sem]) rfl ⟨_, rfl, ?_, HB0.out.trans (HB.out.mono HB0.out.size)⟩
      have := Go.Joins.ownsRow_le HO.out HB0.out.size
      rwa [List.take_length] at this ⊢
end
end Go.Proofs.YthcpjehkjhpjfaaGreat
