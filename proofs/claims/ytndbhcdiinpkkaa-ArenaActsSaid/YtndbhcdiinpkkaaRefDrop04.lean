/- The document's arena: Drop, by recursion; the arena's cells go the same way, one release at a time. -/
import Derived.Test.YtndbhcdiinpkkaaName04
import Derived.RegionTactic
import Derived.BigRegion
namespace Go.Proofs.Ytndbhcdiinpkkaa
open Go.RowKit

section
variable {B rb nd most : Nat} {vC : Value} {D : Nat → Dc} {K : Nat → Value}
/-- One cell's count has changed. -/
theorem Doc.refs {w : World} (h : Doc w B rb nd most vC D K) {x : Nat} (hx : x < nd) (r : Nat) : ∀ {g c : Nat}, vC = .slice (some ⟨g, 0, none⟩) nd c →
    Doc (w.setCell ⟨g, x * 4 + 1, none⟩ (.int .i64 (r : Int))) B rb nd most vC (upd D x { D x with refs := r }) K ∧ Kp (fun b => vC.ownBlock = some b) w (w.setCell ⟨g, x * 4 + 1, none⟩ (.int .i64 (r : Int))) := by
  rintro g c rfl
  have hk := Kp.one w g (x * 4 + 1) (.int .i64 (r : Int))
  obtain ⟨cur, hg⟩ := own_type h.cr g rfl
  refine ⟨⟨h.rd.kp hk (ne_types h.rd hg (by decide)), ?_, h.n1, h.n2, fun k k1 k2 => ?_, h.k0⟩, hk.mono (fun b e _ => e ▸ rfl)⟩
  · rw [← drow_refs hx]
    exact (h.cr.stored (x * 4 + 1) _).1
  · have hkr := h.kr k k1 k2
    have e : (upd D x { D x with refs := r } k).x = (D k).x ∧ (upd D x { D x with refs := r } k).y = (D k).y := by
      by_cases e : k = x
      · subst e; rw [upd_same]; exact ⟨rfl, rfl⟩
      · rw [upd_other _ _ e]; exact ⟨rfl, rfl⟩
    rw [e.1, e.2]
    exact hk.own hkr (own_ne hkr hg (by decide))
end

def Dropd (nx : Int → Int) (B rb nd most N : Nat) (vC : Value) (K : Nat → Value) (Nm own : Nat → Nat) (D : Nat → Dc) (M : Cells) (P : List Nat) (w : World) (e : Ending) (w' : World) : Prop :=
  ∃ D' M', e = .returned (.tuple #[]) ∧ Doc w' B rb nd most vC D' K ∧ Rel nx nd D' Nm M' ∧ Ok N M' own P ∧ Sub M' M ∧ Le D' D ∧ Kp (fun g => vC.ownBlock = some g) w w'

section
variable {nx : Int → Int} {B rb nd most N : Nat} {vC : Value} {K : Nat → Value} {Nm own : Nat → Nat}
theorem count_snoc (P : List Nat) (x : Nat) : ∀ i, (P ++ [x]).count i = P.count i + [x].count i := fun _ => List.count_append

/-- Where Drop stands among a freed cell's two others. -/
def Kd (nx : Int → Int) (B rb nd most N : Nat) (vC : Value) (K : Nat → Value) (Nm own : Nat → Nat) (D : Nat → Dc) (M : Cells) (P : List Nat) (w : World) (a b j : Nat) (wr : World) : Prop :=
  ∃ Dr Mr, Doc wr B rb nd most vC Dr K ∧ Rel nx nd Dr Nm Mr ∧ Ok N Mr own (P ++ [Nm a, Nm b].drop j) ∧ Sub Mr M ∧ Le Dr D ∧ Kp (fun g => vC.ownBlock = some g) w wr

theorem perm_zero {M : Cells} {P Q : List Nat} (h : Ok N M own (P ++ 0 :: Q)) : Ok N M own (P ++ Q) := h.perm fun i hi => by
  rw [List.count_append, List.count_append, List.count_cons, if_neg (by simp; omega)]; omega
theorem perm_last {M : Cells} {P Q : List Nat} {x : Nat} (h : Ok N M own (P ++ x :: Q)) : Ok N M own ((P ++ Q) ++ [x]) := h.perm fun i _ => by
  simp only [List.count_append, List.count_cons, List.count_nil]; omega

/-- The next of the two may be let go. -/
theorem kid_next {D Dr : Nat → Dc} {M Mr : Cells} {P Q : List Nat} {rk : Nat → Nat} {x a d : Nat} (hR : Rel nx nd D Nm M) (hO : Ok N M own (P ++ [Nm x])) (hrk : ∀ j k, k ∈ kd (M j) → k ≠ 0 → rk k < rk j) (hd : rk (Nm x) < d + 1) (hRr : Rel nx nd Dr Nm Mr) (hOr : Ok N Mr own (P ++ Nm a :: Q)) (hSr : Sub Mr M) (hLr : Le Dr D)
    (ha : a < nd) (hh : 1 ≤ (D a).refs) (hm : Nm a ∈ kd (M (Nm x))) : Ok N Mr own ((P ++ Q) ++ [Nm a]) ∧ 1 ≤ (Dr a).refs ∧ (∀ j k, k ∈ kd (Mr j) → k ≠ 0 → rk k < rk j) ∧ rk (Nm a) < d := by
  have h1 := hO.lt (hR.ne ha hh)
  have hne := hOr.next (i := Nm a) h1.1 (by simp)
  have := hrk _ _ hm (by omega)
  exact ⟨perm_last hOr, hR.still hRr hLr ha hh hne, fun j k hk => hrk j k (hSr.kd hk), by omega⟩

set_option maxRecDepth 100000 in
set_option maxHeartbeats 800000 in
theorem ref_drop (rk : Nat → Nat) : ∀ (d x : Nat) (w : World) (D : Nat → Dc) (M : Cells) (P : List Nat), Doc w B rb nd most vC D K → Rel nx nd D Nm M → Ok N M own (P ++ [Nm x]) → (∀ j k, k ∈ kd (M j) → k ≠ 0 → rk k < rk j) → x < nd → 1 ≤ (D x).refs → (∀ k, (D k).refs ≤ 1000) → rk (Nm x) < d →
    Calls Try.prog 42 #[rp rb, .int .i64 x] w (Dropd nx B rb nd most N vC K Nm own D M P w) := by
  intro d
  induction d with
  | zero => intro x w D M P _ _ _ _ _ _ _ h; omega
  | succ d ih =>
    intro x w D M P hD hR hO hrk hx hh hb hd
    obtain ⟨g, c, hv, _, x1, _, _, hfz⟩ := hD.at hx
    obtain ⟨hD1, hK1⟩ := hD.refs hx ((D x).refs - 1) hv
    have hrel := hR.release hO hx hh (by simp)
    obtain ⟨hok, hsub⟩ := hO.release (count_snoc P (Nm x))
    have hn := hD.n2
    have hbx := hb x
    have hle := Le.less D x ((D x).refs - 1) (by omega)
    obtain ⟨r, hr⟩ : ∃ r, (D x).refs = r + 1 := ⟨(D x).refs - 1, by omega⟩
    have c0 := hD.rd.c0
    subst hv
    have f1 := hfz (x * 4 + 1)
    have e1 : ((r + 1 : Nat) : Int) - 1 = r := by omega
    rw [hr] at x1
    have hr' : (D x).refs - 1 = r := by omega
    rw [hr'] at hD1 hK1 hrel hle
    have HD1 := Lib.hid hD1
    have HK1 := Lib.hid hK1
    have HREL := Lib.hid hrel
    have HOK := Lib.hid hok
    have HSUB := Lib.hid hsub
    have HLE := Lib.hid hle
    have HR := Lib.hid hR
    have HO := Lib.hid hO
    have HE := Lib.hid hr
    have HRK := Lib.hid hrk
    have HB := Lib.hid hb
    have HD := Lib.hid hD
    have y1 : IntKind.i64.wrap ((r : Int) + 1 - 1) = (r : Int) := by rw [IntWalk.i64_in _ (by omega)]; omega
    have y2 : IntKind.i64.wrap (r : Int) = (r : Int) := IntWalk.i64_in _ (by omega)
    have y3 : (0 : Int) ≤ (x : Int) := by omega
    have y4 : (x : Int) < (nd : Int) := by omega
    clear hD1 hK1 hrel hok hsub hle hR hO hr hrk hb hD hfz hr'
    go_enter Try.func42, Try.ntmps42
    go_wp2_with fail
    go_region
    generalize hw : (w.setCell ⟨g, x * 4 + 1, none⟩ (Value.int IntKind.i64 (r : Int))).drew = w1
    have D1 : Doc w1 B rb nd most (.slice (some ⟨g, 0, none⟩) nd c) (upd D x { D x with refs := r }) K := hw ▸ HD1.out.below (Below.refl _ _).drew
    have K1 : Kp (fun b => (Value.slice (some ⟨g, 0, none⟩) nd c).ownBlock = some b) w w1 := hw ▸ HK1.out.drew
    clear hw HD1 HK1 c0 x1 f1 y1 y2
    obtain ⟨g', c', e', k0, k1, _⟩ := D1.at hx
    simp only [Value.slice.injEq, Option.some.injEq, Addr.mk.injEq, and_true, true_and] at e'
    obtain ⟨rfl, rfl⟩ := e'
    have c0 := D1.rd.c0
    rw [upd_same] at k1
    have hx0 : 1 ≤ x := by
      rcases Nat.eq_zero_or_pos x with e | e
      · subst e; have := HR.out.z1; omega
      · exact e
    by_cases hr0 : r = 0
    · subst hr0
      have hrel := release_eq HR.out hx (by have := HE.out; omega)
      rw [if_neg (by have := HE.out; omega)] at hrel
      have hok := HOK.out
      have hrel1 := HREL.out
      have hsub1 := HSUB.out
      rw [hrel] at hok hrel1 hsub1
      obtain ⟨a, ha⟩ : ∃ a, a = (D x).x := ⟨_, rfl⟩
      obtain ⟨b, hb⟩ : ∃ b, b = (D x).y := ⟨_, rfl⟩
      have hkr := D1.kr x hx0 hx
      rw [upd_same] at hkr
      simp only at hkr
      rw [← ha, ← hb] at hkr hok
      obtain ⟨kb, ck, hKx, _, kk0, _⟩ := own_at hkr (j := 0) (u := .int .i64 (a : Int)) rfl
      obtain ⟨kb', ck', hKx', _, kk1, _⟩ := own_at hkr (j := 1) (u := .int .i64 (b : Int)) rfl
      have HKX := Lib.hid hKx
      clear kk0 kk1 hKx' hkr hKx
      rw [HKX.out] at k0
      have HA := Lib.hid (show Kd nx B rb nd most N (.slice (some ⟨g, 0, none⟩) nd c) K Nm own D M P w a b 0 w1 from ⟨_, _, D1, hrel1, hok, hsub1, HLE.out, K1⟩)
      have HAB := Lib.hid (And.intro ha hb)
      clear hok hrel ha hb K1 D1 HREL HOK HSUB HLE hrel1 hsub1
      go_wp2_with fail
      go_loopg [4] 2 (fun k i wr => ∃ j : Nat, j + k = 2 ∧ i = .int .i64 j ∧ Kd nx B rb nd most N (.slice (some ⟨g, 0, none⟩) nd c) K Nm own D M P w a b j wr)
      case atStart => exact ⟨0, rfl, rfl, HA.out⟩
      case round =>
        obtain ⟨j, hj, rfl, Dr, Mr, hDr, hRr, hOr, hSr, hLr, hKr⟩ := hrel
        obtain ⟨g2, c2, e2, q0, _⟩ := hDr.at hx
        simp only [Value.slice.injEq, Option.some.injEq, Addr.mk.injEq, and_true, true_and] at e2
        obtain ⟨rfl, rfl⟩ := e2
        rw [HKX.out] at q0
        have cr := hDr.rd.c0
        have hkr := hDr.kr x hx0 hx
        rw [(hLr x).2.1, (hLr x).2.2.1, ← HAB.out.1, ← HAB.out.2, HKX.out] at hkr
        obtain ⟨kb', ck', e3, _, kk0, _⟩ := own_at hkr (j := 0) (u := .int .i64 (a : Int)) rfl
        simp only [Value.slice.injEq, Option.some.injEq, Addr.mk.injEq, and_true, true_and] at e3
        obtain ⟨rfl, rfl⟩ := e3
        obtain ⟨kb', ck', e3, _, kk1, _⟩ := own_at hkr (j := 1) (u := .int .i64 (b : Int)) rfl
        simp only [Value.slice.injEq, Option.some.injEq, Addr.mk.injEq, and_true, true_and] at e3
        obtain ⟨rfl, rfl⟩ := e3
        clear hkr
        have HP := Lib.hid (And.intro hDr (And.intro hRr (And.intro hOr (And.intro hSr (And.intro hLr hKr)))))
        have HA' := Lib.hid k0
        clear hDr hRr hOr hSr hLr hKr k0 k1 c0
        obtain ⟨z1, z2, z3, z4⟩ := HR.out.r4 x hx hh
        have hkd := HR.out.kd hx hh
        rw [← HAB.out.1] at z1 z3
        rw [← HAB.out.2] at z2 z4
        rw [← HAB.out.1, ← HAB.out.2] at hkd
        have HZ3 := Lib.hid z3
        have HZ4 := Lib.hid z4
        have HKD := Lib.hid hkd
        clear z3 z4 hkd
        match j, hj with
        | 0, hj =>
          obtain rfl : gk = 2 := by omega
          obtain ⟨hDr, hRr, hOr, hSr, hLr, hKr⟩ := HP.out
          have hOr' : Ok N Mr own (P ++ Nm a :: [Nm b]) := hOr
          by_cases h0 : a = 0
          · have hOn : Ok N Mr own (P ++ [Nm a, Nm b].drop 1) := perm_zero (by rw [h0, HR.out.z2] at hOr'; exact hOr')
            have HN := Lib.hid (show Kd nx B rb nd most N (.slice (some ⟨g, 0, none⟩) nd c) K Nm own D M P w a b 1 wr from ⟨Dr, Mr, hDr, hRr, hOn, hSr, hLr, hKr⟩)
            have h0' : (a : Int) = 0 := by omega
            clear hDr hRr hOr hSr hLr hKr hOr' hOn
            go_wp2_with fail
            go_roundg 1
            case measure => omega
            case rel => exact ⟨1, rfl, rfl, HN.out⟩
          · obtain ⟨n1, n2, n3, n4⟩ := kid_next HR.out HO.out HRK.out hd hRr hOr' hSr hLr z1 (HZ3.out h0) (by rw [HKD.out]; simp)
            have hnb : ∀ k, (Dr k).refs ≤ 1000 := fun k => Nat.le_trans (hLr k).1 (HB.out k)
            have h0' : ¬ (a : Int) = 0 := by omega
            have HC := Lib.hid (ih a wr Dr Mr (P ++ [Nm b]) hDr hRr n1 n3 z1 n2 hnb n4)
            have HW := Lib.hid (show ∀ e w', Dropd nx B rb nd most N (.slice (some ⟨g, 0, none⟩) nd c) K Nm own Dr Mr (P ++ [Nm b]) wr e w' → e = .returned (.tuple #[]) ∧ Kd nx B rb nd most N (.slice (some ⟨g, 0, none⟩) nd c) K Nm own D M P w a b 1 w' from
              fun e w' ⟨D', M', he, k1, k2, k3, k4, k5, k6⟩ => ⟨he, D', M', k1, k2, k3, k4.trans hSr, k5.trans hLr, hKr.trans k6 (fun _ => .inl)⟩)
            clear hDr hRr hOr hSr hLr hKr hOr' n1 n2 n3 n4 hnb
            go_wp2_with fail
            refine HC.out.mono ?_
            intro e w' hdp
            obtain ⟨rfl, hkd⟩ := HW.out e w' hdp
            have HN := Lib.hid hkd
            clear hdp hkd
            go_wp2_with fail
            go_roundg 1
            case measure => omega
            case rel => exact ⟨1, rfl, rfl, HN.out⟩
        | 1, hj =>
          obtain rfl : gk = 1 := by omega
          obtain ⟨hDr, hRr, hOr, hSr, hLr, hKr⟩ := HP.out
          have hOr' : Ok N Mr own (P ++ Nm b :: []) := hOr
          by_cases h0 : b = 0
          · have hOn : Ok N Mr own (P ++ [Nm a, Nm b].drop 2) := perm_zero (by rw [h0, HR.out.z2] at hOr'; exact hOr')
            have HN := Lib.hid (show Kd nx B rb nd most N (.slice (some ⟨g, 0, none⟩) nd c) K Nm own D M P w a b 2 wr from ⟨Dr, Mr, hDr, hRr, hOn, hSr, hLr, hKr⟩)
            have h0' : (b : Int) = 0 := by omega
            clear hDr hRr hOr hSr hLr hKr hOr' hOn
            go_wp2_with fail
            go_roundg 0
            case measure => omega
            case rel => exact ⟨2, rfl, rfl, HN.out⟩
          · obtain ⟨n1, n2, n3, n4⟩ := kid_next HR.out HO.out HRK.out hd hRr hOr' hSr hLr z2 (HZ4.out h0) (by rw [HKD.out]; simp)
            have hnb : ∀ k, (Dr k).refs ≤ 1000 := fun k => Nat.le_trans (hLr k).1 (HB.out k)
            have h0' : ¬ (b : Int) = 0 := by omega
            have HC := Lib.hid (ih b wr Dr Mr (P ++ []) hDr hRr n1 n3 z2 n2 hnb n4)
            have HW := Lib.hid (show ∀ e w', Dropd nx B rb nd most N (.slice (some ⟨g, 0, none⟩) nd c) K Nm own Dr Mr (P ++ []) wr e w' → e = .returned (.tuple #[]) ∧ Kd nx B rb nd most N (.slice (some ⟨g, 0, none⟩) nd c) K Nm own D M P w a b 2 w' from
              fun e w' ⟨D', M', he, k1, k2, k3, k4, k5, k6⟩ => ⟨he, D', M', k1, k2, k3, k4.trans hSr, k5.trans hLr, hKr.trans k6 (fun _ => .inl)⟩)
            clear hDr hRr hOr hSr hLr hKr hOr' n1 n2 n3 n4 hnb
            go_wp2_with fail
            refine HC.out.mono ?_
            intro e w' hdp
            obtain ⟨rfl, hkd⟩ := HW.out e w' hdp
            have HN := Lib.hid hkd
            clear hdp hkd
            go_wp2_with fail
            go_roundg 0
            case measure => omega
            case rel => exact ⟨2, rfl, rfl, HN.out⟩
        | 2, hj =>
          obtain ⟨hDr, hRr, hOr, hSr, hLr, hKr⟩ := HP.out
          have hOr' : Ok N Mr own P := by rw [← List.append_nil P]; exact hOr
          have HE' := Lib.hid (show Dropd nx B rb nd most N (.slice (some ⟨g, 0, none⟩) nd c) K Nm own D M P w (.returned (.tuple #[])) wr from ⟨Dr, Mr, rfl, hDr, hRr, hOr', hSr, hLr, hKr⟩)
          clear hDr hRr hOr hSr hLr hKr hOr'
          go_wp2_with fail
          go_end0
          exact HE'.out
        | j + 3, hj => omega
    · have hrp : (0 : Int) < r := by omega
      have hrel := release_eq HR.out hx (by have := HE.out; omega)
      rw [if_pos (by have := HE.out; omega)] at hrel
      have hok := HOK.out
      rw [hrel] at hok
      rw [List.append_nil, ← show (release M (Nm x)).1 = upd M (Nm x) (some (cellOf nx Nm (D x), (D x).refs - 1)) by rw [hrel]] at hok
      have HOK' := Lib.hid hok
      clear hok hrel
      go_wp2_with fail
      go_end0
      exact ⟨_, _, rfl, D1, HREL.out, HOK'.out, HSUB.out, HLE.out, K1⟩
end

end Go.Proofs.Ytndbhcdiinpkkaa
