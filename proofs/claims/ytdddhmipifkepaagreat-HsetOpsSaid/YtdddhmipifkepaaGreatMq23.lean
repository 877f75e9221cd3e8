/- Several texts in one. -/
import Derived.Test.YtdddhmipifkepaaGreatMq22
namespace Go.Proofs.YtdddhmipifkepaaGreat
set_option maxRecDepth 100000
open Go.RowKit
structure Tk8 (w wr : World) (m : List Pr) (x : Value) : Prop where
  bel : Below w.heap.size w wr
  own : wr.ownsRow w.heap.size 124 6 x m.length (m.flatMap pcells)
theorem pinfo8 : (Tryz.prog.info? 124).map (fun i => (i.zero, i.size, i.bytes)) = some (some (.agg #[.int .u8 0, .int .i64 0, .string ⟨#[]⟩, .int .u8 0, .int .i64 0, .string ⟨#[]⟩]), 6, 64) := by kernel_rfl
theorem rd_six (w : World) (x0 x1 x2 x3 x4 x5 : Value) (t : TypeId) (b : Nat) (hb : b = w.heap.size) : Rd (w.alloc (.cells #[x0, x1, x2, x3, x4, x5] t)) (.slice (some ⟨b, 0, none⟩) 1 1) 1 [x0, x1, x2, x3, x4, x5] := by
  subst hb
  refine .inr ⟨_, 0, 1, rfl, Nat.le_refl _, fun j u hu => ?_⟩
  match j, hu with
  | 0, hu => simp at hu; subst hu; simp [go_sem]
  | 1, hu => simp at hu; subst hu; simp [go_sem]
  | 2, hu => simp at hu; subst hu; simp [go_sem]
  | 3, hu => simp at hu; subst hu; simp [go_sem]
  | 4, hu => simp at hu; subst hu; simp [go_sem]
  | 5, hu => simp at hu; subst hu; simp [go_sem]
theorem row6 {w : World} {base c : Nat} {A : Option Addr} {l : List Pr} (h : w.ownsRow base 124 6 (.slice A l.length c) l.length (l.flatMap pcells)) {j : Nat} {p : Pr} (hp : l[j]? = some p) :
    ∃ g, A = some ⟨g, 0, none⟩ ∧ w.cell? ⟨g, j * 6, none⟩ = some (.int .u8 p.1.1) ∧ w.cell? ⟨g, j * 6 + 1, none⟩ = some (.int .i64 p.1.2.1) ∧ w.cell? ⟨g, j * 6 + 2, none⟩ = some (.string p.1.2.2) ∧ w.cell? ⟨g, j * 6 + 3, none⟩ = some (.int .u8 p.2.1) ∧ w.cell? ⟨g, j * 6 + 4, none⟩ = some (.int .i64 p.2.2.1) ∧ w.cell? ⟨g, j * 6 + 5, none⟩ = some (.string p.2.2.2) := by
  have cel : ∀ t u, t < 6 → (pcells p)[t]? = some u → ∃ g, A = some ⟨g, 0, none⟩ ∧ w.cell? ⟨g, j * 6 + t, none⟩ = some u := fun t u ht hu => by
    obtain ⟨g, c', e, _, kc, _⟩ := own_at h ((pflat_get l j p hp t ht).trans hu)
    simp only [Value.slice.injEq, true_and] at e
    exact ⟨g, e.1, kc⟩
  obtain ⟨g, rfl, k0⟩ := cel 0 _ (by decide) rfl
  obtain ⟨g1, e1, k1⟩ := cel 1 _ (by decide) rfl
  obtain ⟨g2, e2, k2⟩ := cel 2 _ (by decide) rfl
  obtain ⟨g3, e3, k3⟩ := cel 3 _ (by decide) rfl
  obtain ⟨g4, e4, k4⟩ := cel 4 _ (by decide) rfl
  obtain ⟨g5, e5, k5⟩ := cel 5 _ (by decide) rfl
  simp only [Option.some.injEq, Addr.mk.injEq, and_true] at e1 e2 e3 e4 e5
  subst e1 e2 e3 e4 e5
  exact ⟨g, rfl, k0, k1, k2, k3, k4, k5⟩
section
end
end Go.Proofs.YtdddhmipifkepaaGreat

namespace Go.Proofs.YtdddhmipifkepaaGreat
set_option maxRecDepth 100000
open Go.RowKit
abbrev KOk (hs : Ky → Nat) (seed : Nat) (a : Ky) : Prop := (0 ≤ a.1 ∧ a.1 ≤ 255 ∧ 17 + a.2.2.size ≤ 140737488355328) ∧ hs a = hashN seed a.1 a.2.1 a.2.2
structure Gb (w : World) where
  at' : World
  below : Below w.heap.size w at'
instance (w : World) : Nonempty (Gb w) := ⟨⟨w, Below.refl _ w⟩⟩
theorem Gb.cell {w : World} {p : Addr} {v : Value} (h : w.cell? p = some v) (hb : p.block < w.heap.size) (g : Gb w) : g.at'.cell? p = some v :=
  (g.below.cell hb).trans h
theorem Gb.calls {P : Program} {f : FuncId} {args : Array Value} {w : World} {v : Value} (g : Gb w)
    (h : Calls P f args g.at' fun e w' => e = .returned v ∧ Below g.at'.heap.size g.at' w') : Calls P f args g.at' fun e w'' => e = .returned v ∧ ∃ g' : Gb w, w'' = g'.at' :=
  h.mono fun _ _ ⟨he, hm⟩ => ⟨he, ⟨_, g.below.trans (hm.mono g.below.size)⟩, rfl⟩
theorem region_below {P : Program} {id : Nat} {Q : Exit → Act → World → Prop} {a : Act} {w : World} {l : List Oper} (hm : P.follows .mixedOrders = true) (hB : Region.lexB .any l.toArray = true)
    (h : wpQuiet P l.toArray (fun w' => ∃ g : Gb w, w' = g.at') (fun a' => ∀ w', (∃ g : Gb w, w' = g.at') → Q .normal a' w') l a) : (Code.region id l.toArray true).wp P Q a w :=
  wp_region_quiet (C := fun w' => ∃ g : Gb w, w' = g.at') hm hB ⟨⟨w.drew, below_drewN w 1⟩, rfl⟩ (by simpa using h)
theorem Tk8.one {w wr : World} {m : List Pr} {x : Value} {p : Pr} (hb : Below w.heap.size w wr) (h : wr.ownsRow w.heap.size 124 6 x (m.length + 1) (m.flatMap pcells ++ pcells p)) : Tk8 w wr (m ++ [p]) x :=
  ⟨hb, by rw [List.length_append, List.flatMap_append, List.flatMap_singleton]; exact h⟩
theorem Tk8.two {w wr : World} {m : List Pr} {x : Value} {p q : Pr} (hb : Below w.heap.size w wr) (h : wr.ownsRow w.heap.size 124 6 x (m.length + 1 + 1) (m.flatMap pcells ++ (pcells p ++ pcells q))) : Tk8 w wr (m ++ [p] ++ [q]) x :=
  Tk8.one hb (by rw [List.length_append, List.flatMap_append, List.flatMap_singleton, List.append_assoc]; exact h)
section
variable {hs : Ky → Nat} {p q : Pr} {l m : List Pr} {j : Nat} {d : Bool}
theorem pdrop_at (h : l[j]? = some q) : l.drop j = q :: l.drop (j + 1) := by
  obtain ⟨hj, rfl⟩ := List.getElem?_eq_some_iff.1 h
  exact List.drop_eq_getElem_cons hj
theorem pd_same (h : m ++ putD hs p d (l.drop j) = putL hs p l ∧ m.length ≤ 2 * j) (hx : l[j]? = some q) (e : q.1 = p.1) : Hid (m ++ [p] ++ putD hs p true (l.drop (j + 1)) = putL hs p l ∧ (m ++ [p]).length ≤ 2 * (j + 1)) := by
  refine ⟨?_, by rw [List.length_append, List.length_singleton]; omega⟩
  rw [← h.1, pdrop_at hx, List.append_assoc]
  congr 1
  show _ = if q.1 = p.1 then _ else _
  rw [if_pos e]; rfl
theorem pd_keep1 (h : m ++ putD hs p true (l.drop j) = putL hs p l ∧ m.length ≤ 2 * j) (hx : l[j]? = some q) (e : q.1 ≠ p.1) : Hid (m ++ [q] ++ putD hs p true (l.drop (j + 1)) = putL hs p l ∧ (m ++ [q]).length ≤ 2 * (j + 1)) := by
  refine ⟨?_, by rw [List.length_append, List.length_singleton]; omega⟩
  rw [← h.1, pdrop_at hx, List.append_assoc]
  congr 1
  show _ = if q.1 = p.1 then _ else if true = false ∧ klt hs p.1 q.1 then _ else _
  rw [if_neg e, if_neg (by simp)]; rfl
theorem pd_keep0 (h : m ++ putD hs p false (l.drop j) = putL hs p l ∧ m.length ≤ 2 * j) (hx : l[j]? = some q) (e : q.1 ≠ p.1) (hk : kltB hs p.1 q.1 = false) : Hid (m ++ [q] ++ putD hs p false (l.drop (j + 1)) = putL hs p l ∧ (m ++ [q]).length ≤ 2 * (j + 1)) := by
  refine ⟨?_, by rw [List.length_append, List.length_singleton]; omega⟩
  rw [← h.1, pdrop_at hx, List.append_assoc]
  congr 1
  show _ = if q.1 = p.1 then _ else if false = false ∧ kltB hs p.1 q.1 = true then _ else _
  rw [if_neg e, if_neg (by rw [hk]; simp)]; rfl
theorem pd_ahead (h : m ++ putD hs p false (l.drop j) = putL hs p l ∧ m.length ≤ 2 * j) (hx : l[j]? = some q) (e : q.1 ≠ p.1) (hk : kltB hs p.1 q.1 = true) : Hid (m ++ [p] ++ [q] ++ putD hs p true (l.drop (j + 1)) = putL hs p l ∧ (m ++ [p] ++ [q]).length ≤ 2 * (j + 1)) := by
  refine ⟨?_, by rw [List.length_append, List.length_append, List.length_singleton, List.length_singleton]; omega⟩
  rw [← h.1, pdrop_at hx, List.append_assoc, List.append_assoc]
  congr 1
  show _ = if q.1 = p.1 then _ else if false = false ∧ kltB hs p.1 q.1 = true then _ else _
  rw [if_neg e, if_pos ⟨rfl, hk⟩]; rfl
theorem pd_end0 (h : m ++ putD hs p false (l.drop l.length) = putL hs p l) : m ++ [p] = putL hs p l := by
  rw [← h, List.drop_length]; rfl
theorem pd_end1 (h : m ++ putD hs p true (l.drop l.length) = putL hs p l) : m = putL hs p l := by
  rw [← h, List.drop_length]; exact (List.append_nil m).symm
theorem row6g {w : World} {base c g : Nat} (h : w.ownsRow base 124 6 (.slice (some ⟨g, 0, none⟩) l.length c) l.length (l.flatMap pcells)) (hp : l[j]? = some p) :
    w.cell? ⟨g, j * 6, none⟩ = some (.int .u8 p.1.1) ∧ w.cell? ⟨g, j * 6 + 1, none⟩ = some (.int .i64 p.1.2.1) ∧ w.cell? ⟨g, j * 6 + 2, none⟩ = some (.string p.1.2.2) ∧ w.cell? ⟨g, j * 6 + 3, none⟩ = some (.int .u8 p.2.1) ∧ w.cell? ⟨g, j * 6 + 4, none⟩ = some (.int .i64 p.2.2.1) ∧ w.cell? ⟨g, j * 6 + 5, none⟩ = some (.string p.2.2.2) := by
  obtain ⟨g', e, h'⟩ := row6 h hp
  simp only [Option.some.injEq, Addr.mk.injEq, and_true] at e
  subst e
  exact h'
end
section
set_option maxHeartbeats 6400000 in
theorem rput (hs : Ky → Nat) (seed base : Nat) (v : Value) (p : Pr) (l : List Pr) (w : World) (hl : l.length ≤ 1000000) (hp : KOk hs seed p.1) (hq : ∀ q ∈ l, KOk hs seed q.1) (ho : w.ownsRow base 124 6 v l.length (l.flatMap pcells)) :
    Calls Tryz.prog 105 #[.int .u64 (seed : Nat), v, .agg #[.int .u8 p.1.1, .int .i64 p.1.2.1, .string p.1.2.2, .int .u8 p.2.1, .int .i64 p.2.2.1, .string p.2.2.2]] w fun e w' => ∃ y, e = .returned y ∧ w'.ownsRow w.heap.size 124 6 y (putL hs p l).length ((putL hs p l).flatMap pcells) ∧ Below w.heap.size w w' := by
  obtain ⟨⟨pk, pn, ps⟩, pv⟩ := p
  obtain ⟨A, c, rfl, hc⟩ := (Rd.of_own ho).form
  obtain ⟨W0, hW0⟩ : ∃ W0, W0 = w.alloc (.cells #[.int .u8 pk, .int .i64 pn, .string ps, .int .u8 pv.1, .int .i64 pv.2.1, .string pv.2.2] 124) := ⟨_, rfl⟩
  have hb0 : Below w.heap.size w W0 := by rw [hW0]; exact (Below.refl _ w).alloc (Nat.le_refl _) _
  have q3 : C6 W0 w.heap.size 124 (.int .u8 pk) (.int .i64 pn) (.string ps) (.int .u8 pv.1) (.int .i64 pv.2.1) (.string pv.2.2) := by rw [hW0]; exact C6.new w _ _ _ _ _ _ _
  have HB0 := Lib.hid hb0
  have HQ := Lib.hid (And.intro q3 ((Kp.of_below hb0 (fun _ => False)).own ho (fun _ _ h => h)))
  have HP := Lib.hid (Tk8.mk (w := W0) (m := []) (x := .slice none 0 0) (Below.refl _ W0) (World.ownsRow_nil _ _ _ _))
  have HKP := Lib.hid hp
  have HKL := Lib.hid (fun (x : Pr) {j : Nat} (hx : l[j]? = some x) => hq x (List.mem_of_getElem? hx))
  obtain ⟨z, hz⟩ : ∃ z, z = w.heap.size := ⟨_, rfl⟩
  have HZ := Lib.hid hz
  rw [← hz] at HQ
  obtain ⟨i1, hi1, hy0, hy1, hy2⟩ := info_parts pinfo8
  clear ho q3 hb0 hp hq
  go_enter Tryz.func105, Tryz.ntmps105
  go_wp2_with fail
  rw [← hW0, ← hz]
  clear hW0 hz
  go_loopg [7, 8, 9] l.length (fun c' s d' i wr => ∃ (j : Nat) (d : Bool) (m : List Pr), j + c' = l.length ∧ i = .int .i64 (j : Nat) ∧ d' = .bool d ∧ Tk8 W0 wr m s ∧ Hid (m ++ putD hs ((pk, pn, ps), pv) d (l.drop j) = putL hs ((pk, pn, ps), pv) l ∧ m.length ≤ 2 * j))
  case atStart => exact ⟨0, false, [], by omega, rfl, rfl, HP.out, ⟨by simp [putL], by simp⟩⟩
  case round =>
    obtain ⟨j, d, m, hj, rfl, rfl, hP, HM⟩ := hrel
    obtain ⟨A1, m1, rfl, hm1⟩ := (Rd.of_own hP.own).form
    by_cases hjl : j < l.length
    · have HB := Lib.hid hP.bel
      have HO := Lib.hid hP.own
      have HJ := Lib.hid (And.intro hj hjl)
      have hlt : (j : Int) < (l.length : Int) := by omega
      have hj0 : (0 : Int) ≤ (j : Int) := by omega
      obtain ⟨q, hp⟩ : ∃ q, l[j]? = some q := ⟨_, List.getElem?_eq_getElem hjl⟩
      have HR := Lib.hid ((Kp.of_below hP.bel (fun _ => False)).own HQ.out.2 (fun _ _ h => h))
      obtain ⟨g, rfl, k0, k1, k2, k3, k4, k5⟩ := row6 HR.out hp
      obtain ⟨a0, a1, a2, a3, a4, a5, _⟩ := (HQ.out.1.below HB.out).all
      obtain ⟨⟨kk, kn, ks⟩, qv⟩ := q
      simp only at k0 k1 k2 k3 k4 k5 a0 a1 a2 ⊢
      have HX := Lib.hid hp
      clear hp hP hj HR
      by_cases e0 : kk = pk
      · by_cases e1 : kn = pn
        · by_cases e2 : ks = ps
          · subst e0 e1 e2
            go_wp2_with fail
            go_quiet (fail)
            have HB5 := Lib.hid (show Below W0.heap.size W0 (wr.drewN nq) from HB.out.trans ((below_drewN _ _).mono HB.out.size))
            have HO5 := Lib.hid ((Kp.of_below (below_drewN wr nq) (fun _ => False)).own HO.out (fun _ _ => id))
            generalize wr.drewN nq = w5 at HB5 HO5 ⊢
            clear a0 a1 a2 a3 a4 a5 k0 k1 k2 k3 k4 k5 HB HO
            obtain ⟨b0, b1, b2, b3, b4, b5, _⟩ := (HQ.out.1.below HB5.out).all
            go_wp2_with (at_builtin; refine wpList_append_rd rfl _ _ 62 rfl W0.heap.size 124 i1 _ 6 64 Tryz.underlying62 hi1 hy0 hy1 hy2 rfl (by decide) (.slice A1 (m.length) m1) (m.length) (m.flatMap pcells) rfl ?k0 _ 1 [.int .u8 kk, .int .i64 kn, .string ks, .int .u8 pv.1, .int .i64 pv.2.1, .string pv.2.2] rfl ?k1 rfl (by simp [Value.oneCell']) ?k2 ?k3 ?k4 ?_)
            case k0 => exact (Kp.of_below ((Below.refl _ w5).alloc (Nat.le_refl _) _) (fun _ => False)).own HO5.out (fun _ _ => id)
            case k1 => exact rd_six _ _ _ _ _ _ _ _ _ rfl
            case k2 => have := HM.out.2; unfold maxLen; omega
            case k3 => have := HM.out.2; omega
            case k4 => have := HB5.out.size; simp; omega
            intro v7 w7 hown hg hat
            obtain ⟨A7, m7, rfl, _⟩ := (Rd.of_own hown).form
            have hb3 : Below w5.heap.size w5 (w5.alloc (.cells #[.int .u8 kk, .int .i64 kn, .string ks, .int .u8 pv.1, .int .i64 pv.2.1, .string pv.2.2] 124)) := (Below.refl _ w5).alloc (Nat.le_refl _) _
            have HB7 := Lib.hid ((HB5.out.trans (hb3.mono HB5.out.size)).grown hg (HB5.out.trans (hb3.mono HB5.out.size)).size (fun q e => (HO5.out.lt q e).1))
            have HO7 := Lib.hid hown
            clear hg hat hown hb3
            clear b0 b1 b2 b3 b4 b5
            go_wp2_with fail
            go_roundg (l.length - (j + 1))
            case measure => have := HJ.out; omega
            case rel => exact ⟨j + 1, true, _, by have := HJ.out; omega, by go_num, rfl, Tk8.one HB7.out HO7.out, pd_same HM.out HX.out rfl⟩
          · have e3 : ¬ ks.toList = ps.toList := fun h => e2 (bytes_ext h)
            subst e0 e1
            go_wp2_with fail
            go_quiet (fail)
            have HB5 := Lib.hid (show Below W0.heap.size W0 (wr.drewN nq) from HB.out.trans ((below_drewN _ _).mono HB.out.size))
            have HO5 := Lib.hid ((Kp.of_below (below_drewN wr nq) (fun _ => False)).own HO.out (fun _ _ => id))
            generalize wr.drewN nq = w5 at HB5 HO5 ⊢
            clear a0 a1 a2 a3 a4 a5 k0 k1 k2 k3 k4 k5 HB HO
            obtain ⟨b0, b1, b2, b3, b4, b5, _⟩ := (HQ.out.1.below HB5.out).all
            obtain ⟨c0, c1, c2, c3, c4, c5⟩ := row6g ((Kp.of_below HB5.out (fun _ => False)).own HQ.out.2 (fun _ _ h => h)) HX.out
            have hzz : z < w5.heap.size := (HQ.out.1.below HB5.out).lt
            have hgg := World.block_lt_of_cell? w5 _ c0
            have z0 := Gb.cell b0 hzz
            have z1 := Gb.cell b1 hzz
            have z2 := Gb.cell b2 hzz
            have y0 := Gb.cell c0 hgg
            have y1 := Gb.cell c1 hgg
            have y2 := Gb.cell c2 hgg
            have HLS := Lib.hid (fun W => rless hs seed (kk, kn, ps) (kk, kn, ks) HKP.out.1 (HKL.out _ HX.out).1 HKP.out.2 (HKL.out _ HX.out).2 W)
            have HNE := Lib.hid (show (kk, kn, ks) ≠ ((kk, kn, ps) : Ky) from (fun e => e2 (congrArg (fun x : Ky => x.2.2) e)))
            clear b0 b1 b2 b3 b4 b5 c0 c1 c2 c3 c4 c5 hzz hgg
            go_wp2_with fail
            refine region_below (by kernel_rfl) (by kernel_rfl) ?_
            repeat (go_big_quiet_step ((go_at_call 173; exact Gb.calls _ (HLS.out _))))
            refine wpQuiet_nil ?_
            rintro _ ⟨g9, rfl⟩
            have HB6 := Lib.hid (HB5.out.trans (g9.below.mono HB5.out.size))
            have HO6 := Lib.hid ((Kp.of_below g9.below (fun _ => False)).own HO5.out (fun _ _ => id))
            generalize g9.at' = w6 at HB6 HO6 ⊢
            clear z0 z1 z2 y0 y1 y2 HB5 HO5 HLS g9
            cases d
            · cases hk : kltB hs (kk, kn, ps) (kk, kn, ks)
              · obtain ⟨c0, c1, c2, c3, c4, c5⟩ := row6g ((Kp.of_below HB6.out (fun _ => False)).own HQ.out.2 (fun _ _ h => h)) HX.out
                go_wp2_with (at_builtin; refine wpList_append_rd rfl _ _ 62 rfl W0.heap.size 124 i1 _ 6 64 Tryz.underlying62 hi1 hy0 hy1 hy2 rfl (by decide) (.slice A1 (m.length) m1) (m.length) (m.flatMap pcells) rfl ?k0 _ 1 [.int .u8 kk, .int .i64 kn, .string ks, .int .u8 qv.1, .int .i64 qv.2.1, .string qv.2.2] rfl ?k1 rfl (by simp [Value.oneCell']) ?k2 ?k3 ?k4 ?_)
                case k0 => exact (Kp.of_below ((Below.refl _ w6).alloc (Nat.le_refl _) _) (fun _ => False)).own HO6.out (fun _ _ => id)
                case k1 => exact rd_six _ _ _ _ _ _ _ _ _ rfl
                case k2 => have := HM.out.2; unfold maxLen; omega
                case k3 => have := HM.out.2; omega
                case k4 => have := HB6.out.size; simp; omega
                intro v7 w7 hown hg hat
                obtain ⟨A7, m7, rfl, _⟩ := (Rd.of_own hown).form
                have hb3 : Below w6.heap.size w6 (w6.alloc (.cells #[.int .u8 kk, .int .i64 kn, .string ks, .int .u8 qv.1, .int .i64 qv.2.1, .string qv.2.2] 124)) := (Below.refl _ w6).alloc (Nat.le_refl _) _
                have HB7 := Lib.hid ((HB6.out.trans (hb3.mono HB6.out.size)).grown hg (HB6.out.trans (hb3.mono HB6.out.size)).size (fun q e => (HO6.out.lt q e).1))
                have HO7 := Lib.hid hown
                clear hg hat hown hb3
                clear c0 c1 c2 c3 c4 c5
                go_wp2_with fail
                go_roundg (l.length - (j + 1))
                case measure => have := HJ.out; omega
                case rel => exact ⟨j + 1, false, _, by have := HJ.out; omega, by go_num, rfl, Tk8.one HB7.out HO7.out, pd_keep0 HM.out HX.out HNE.out hk⟩
              · obtain ⟨b0, b1, b2, b3, b4, b5, _⟩ := (HQ.out.1.below HB6.out).all
                go_wp2_with (at_builtin; refine wpList_append_rd rfl _ _ 62 rfl W0.heap.size 124 i1 _ 6 64 Tryz.underlying62 hi1 hy0 hy1 hy2 rfl (by decide) (.slice A1 (m.length) m1) (m.length) (m.flatMap pcells) rfl ?k0 _ 1 [.int .u8 kk, .int .i64 kn, .string ps, .int .u8 pv.1, .int .i64 pv.2.1, .string pv.2.2] rfl ?k1 rfl (by simp [Value.oneCell']) ?k2 ?k3 ?k4 ?_)
                case k0 => exact (Kp.of_below ((Below.refl _ w6).alloc (Nat.le_refl _) _) (fun _ => False)).own HO6.out (fun _ _ => id)
                case k1 => exact rd_six _ _ _ _ _ _ _ _ _ rfl
                case k2 => have := HM.out.2; unfold maxLen; omega
                case k3 => have := HM.out.2; omega
                case k4 => have := HB6.out.size; simp; omega
                intro v7 w7 hown hg hat
                obtain ⟨A7, m7, rfl, _⟩ := (Rd.of_own hown).form
                have hb3 : Below w6.heap.size w6 (w6.alloc (.cells #[.int .u8 kk, .int .i64 kn, .string ps, .int .u8 pv.1, .int .i64 pv.2.1, .string pv.2.2] 124)) := (Below.refl _ w6).alloc (Nat.le_refl _) _
                have HB7 := Lib.hid ((HB6.out.trans (hb3.mono HB6.out.size)).grown hg (HB6.out.trans (hb3.mono HB6.out.size)).size (fun q e => (HO6.out.lt q e).1))
                have HO7 := Lib.hid hown
                clear hg hat hown hb3
                clear b0 b1 b2 b3 b4 b5
                obtain ⟨c0, c1, c2, c3, c4, c5⟩ := row6g ((Kp.of_below HB7.out (fun _ => False)).own HQ.out.2 (fun _ _ h => h)) HX.out
                go_wp2_with (at_builtin; refine wpList_append_rd rfl _ _ 62 rfl W0.heap.size 124 i1 _ 6 64 Tryz.underlying62 hi1 hy0 hy1 hy2 rfl (by decide) (.slice A7 (m.length + 1) m7) (m.length + 1) (m.flatMap pcells ++ [.int .u8 kk, .int .i64 kn, .string ps, .int .u8 pv.1, .int .i64 pv.2.1, .string pv.2.2]) rfl ?k0 _ 1 [.int .u8 kk, .int .i64 kn, .string ks, .int .u8 qv.1, .int .i64 qv.2.1, .string qv.2.2] rfl ?k1 rfl (by simp [Value.oneCell']) ?k2 ?k3 ?k4 ?_)
                case k0 => exact (Kp.of_below ((Below.refl _ w7).alloc (Nat.le_refl _) _) (fun _ => False)).own HO7.out (fun _ _ => id)
                case k1 => exact rd_six _ _ _ _ _ _ _ _ _ rfl
                case k2 => have := HM.out.2; unfold maxLen; omega
                case k3 => have := HM.out.2; omega
                case k4 => have := HB7.out.size; simp; omega
                intro v8 w8 hown hg hat
                obtain ⟨A8, m8, rfl, _⟩ := (Rd.of_own hown).form
                have hb3 : Below w7.heap.size w7 (w7.alloc (.cells #[.int .u8 kk, .int .i64 kn, .string ks, .int .u8 qv.1, .int .i64 qv.2.1, .string qv.2.2] 124)) := (Below.refl _ w7).alloc (Nat.le_refl _) _
                have HB8 := Lib.hid ((HB7.out.trans (hb3.mono HB7.out.size)).grown hg (HB7.out.trans (hb3.mono HB7.out.size)).size (fun q e => (HO7.out.lt q e).1))
                have HO8 := Lib.hid hown
                clear hg hat hown hb3
                clear c0 c1 c2 c3 c4 c5
                go_wp2_with fail
                go_roundg (l.length - (j + 1))
                case measure => have := HJ.out; omega
                case rel => exact ⟨j + 1, true, _, by have := HJ.out; omega, by go_num, rfl, Tk8.two HB8.out HO8.out, pd_ahead HM.out HX.out HNE.out hk⟩
            · obtain ⟨c0, c1, c2, c3, c4, c5⟩ := row6g ((Kp.of_below HB6.out (fun _ => False)).own HQ.out.2 (fun _ _ h => h)) HX.out
              go_wp2_with (at_builtin; refine wpList_append_rd rfl _ _ 62 rfl W0.heap.size 124 i1 _ 6 64 Tryz.underlying62 hi1 hy0 hy1 hy2 rfl (by decide) (.slice A1 (m.length) m1) (m.length) (m.flatMap pcells) rfl ?k0 _ 1 [.int .u8 kk, .int .i64 kn, .string ks, .int .u8 qv.1, .int .i64 qv.2.1, .string qv.2.2] rfl ?k1 rfl (by simp [Value.oneCell']) ?k2 ?k3 ?k4 ?_)
              case k0 => exact (Kp.of_below ((Below.refl _ w6).alloc (Nat.le_refl _) _) (fun _ => False)).own HO6.out (fun _ _ => id)
              case k1 => exact rd_six _ _ _ _ _ _ _ _ _ rfl
              case k2 => have := HM.out.2; unfold maxLen; omega
              case k3 => have := HM.out.2; omega
              case k4 => have := HB6.out.size; simp; omega
              intro v7 w7 hown hg hat
              obtain ⟨A7, m7, rfl, _⟩ := (Rd.of_own hown).form
              have hb3 : Below w6.heap.size w6 (w6.alloc (.cells #[.int .u8 kk, .int .i64 kn, .string ks, .int .u8 qv.1, .int .i64 qv.2.1, .string qv.2.2] 124)) := (Below.refl _ w6).alloc (Nat.le_refl _) _
              have HB7 := Lib.hid ((HB6.out.trans (hb3.mono HB6.out.size)).grown hg (HB6.out.trans (hb3.mono HB6.out.size)).size (fun q e => (HO6.out.lt q e).1))
              have HO7 := Lib.hid hown
              clear hg hat hown hb3
              clear c0 c1 c2 c3 c4 c5
              go_wp2_with fail
              go_roundg (l.length - (j + 1))
              case measure => have := HJ.out; omega
              case rel => exact ⟨j + 1, true, _, by have := HJ.out; omega, by go_num, rfl, Tk8.one HB7.out HO7.out, pd_keep1 HM.out HX.out HNE.out⟩
        · subst e0
          go_wp2_with fail
          go_quiet (fail)
          have HB5 := Lib.hid (show Below W0.heap.size W0 (wr.drewN nq) from HB.out.trans ((below_drewN _ _).mono HB.out.size))
          have HO5 := Lib.hid ((Kp.of_below (below_drewN wr nq) (fun _ => False)).own HO.out (fun _ _ => id))
          generalize wr.drewN nq = w5 at HB5 HO5 ⊢
          clear a0 a1 a2 a3 a4 a5 k0 k1 k2 k3 k4 k5 HB HO
          obtain ⟨b0, b1, b2, b3, b4, b5, _⟩ := (HQ.out.1.below HB5.out).all
          obtain ⟨c0, c1, c2, c3, c4, c5⟩ := row6g ((Kp.of_below HB5.out (fun _ => False)).own HQ.out.2 (fun _ _ h => h)) HX.out
          have hzz : z < w5.heap.size := (HQ.out.1.below HB5.out).lt
          have hgg := World.block_lt_of_cell? w5 _ c0
          have z0 := Gb.cell b0 hzz
          have z1 := Gb.cell b1 hzz
          have z2 := Gb.cell b2 hzz
          have y0 := Gb.cell c0 hgg
          have y1 := Gb.cell c1 hgg
          have y2 := Gb.cell c2 hgg
          have HLS := Lib.hid (fun W => rless hs seed (kk, pn, ps) (kk, kn, ks) HKP.out.1 (HKL.out _ HX.out).1 HKP.out.2 (HKL.out _ HX.out).2 W)
          have HNE := Lib.hid (show (kk, kn, ks) ≠ ((kk, pn, ps) : Ky) from (fun e => e1 (congrArg (fun x : Ky => x.2.1) e)))
          clear b0 b1 b2 b3 b4 b5 c0 c1 c2 c3 c4 c5 hzz hgg
          go_wp2_with fail
          refine region_below (by kernel_rfl) (by kernel_rfl) ?_
          repeat (go_big_quiet_step ((go_at_call 173; exact Gb.calls _ (HLS.out _))))
          refine wpQuiet_nil ?_
          rintro _ ⟨g9, rfl⟩
          have HB6 := Lib.hid (HB5.out.trans (g9.below.mono HB5.out.size))
          have HO6 := Lib.hid ((Kp.of_below g9.below (fun _ => False)).own HO5.out (fun _ _ => id))
          generalize g9.at' = w6 at HB6 HO6 ⊢
          clear z0 z1 z2 y0 y1 y2 HB5 HO5 HLS g9
          cases d
          · cases hk : kltB hs (kk, pn, ps) (kk, kn, ks)
            · obtain ⟨c0, c1, c2, c3, c4, c5⟩ := row6g ((Kp.of_below HB6.out (fun _ => False)).own HQ.out.2 (fun _ _ h => h)) HX.out
              go_wp2_with (at_builtin; refine wpList_append_rd rfl _ _ 62 rfl W0.heap.size 124 i1 _ 6 64 Tryz.underlying62 hi1 hy0 hy1 hy2 rfl (by decide) (.slice A1 (m.length) m1) (m.length) (m.flatMap pcells) rfl ?k0 _ 1 [.int .u8 kk, .int .i64 kn, .string ks, .int .u8 qv.1, .int .i64 qv.2.1, .string qv.2.2] rfl ?k1 rfl (by simp [Value.oneCell']) ?k2 ?k3 ?k4 ?_)
              case k0 => exact (Kp.of_below ((Below.refl _ w6).alloc (Nat.le_refl _) _) (fun _ => False)).own HO6.out (fun _ _ => id)
              case k1 => exact rd_six _ _ _ _ _ _ _ _ _ rfl
              case k2 => have := HM.out.2; unfold maxLen; omega
              case k3 => have := HM.out.2; omega
              case k4 => have := HB6.out.size; simp; omega
              intro v7 w7 hown hg hat
              obtain ⟨A7, m7, rfl, _⟩ := (Rd.of_own hown).form
              have hb3 : Below w6.heap.size w6 (w6.alloc (.cells #[.int .u8 kk, .int .i64 kn, .string ks, .int .u8 qv.1, .int .i64 qv.2.1, .string qv.2.2] 124)) := (Below.refl _ w6).alloc (Nat.le_refl _) _
              have HB7 := Lib.hid ((HB6.out.trans (hb3.mono HB6.out.size)).grown hg (HB6.out.trans (hb3.mono HB6.out.size)).size (fun q e => (HO6.out.lt q e).1))
              have HO7 := Lib.hid hown
              clear hg hat hown hb3
              clear c0 c1 c2 c3 c4 c5
              go_wp2_with fail
              go_roundg (l.length - (j + 1))
              case measure => have := HJ.out; omega
              case rel => exact ⟨j + 1, false, _, by have := HJ.out; omega, by go_num, rfl, Tk8.one HB7.out HO7.out, pd_keep0 HM.out HX.out HNE.out hk⟩
            · obtain ⟨b0, b1, b2, b3, b4, b5, _⟩ := (HQ.out.1.below HB6.out).all
              go_wp2_with (at_builtin; refine wpList_append_rd rfl _ _ 62 rfl W0.heap.size 124 i1 _ 6 64 Tryz.underlying62 hi1 hy0 hy1 hy2 rfl (by decide) (.slice A1 (m.length) m1) (m.length) (m.flatMap pcells) rfl ?k0 _ 1 [.int .u8 kk, .int .i64 pn, .string ps, .int .u8 pv.1, .int .i64 pv.2.1, .string pv.2.2] rfl ?k1 rfl (by simp [Value.oneCell']) ?k2 ?k3 ?k4 ?_)
              case k0 => exact (Kp.of_below ((Below.refl _ w6).alloc (Nat.le_refl _) _) (fun _ => False)).own HO6.out (fun _ _ => id)
              case k1 => exact rd_six _ _ _ _ _ _ _ _ _ rfl
              case k2 => have := HM.out.2; unfold maxLen; omega
              case k3 => have := HM.out.2; omega
              case k4 => have := HB6.out.size; simp; omega
              intro v7 w7 hown hg hat
              obtain ⟨A7, m7, rfl, _⟩ := (Rd.of_own hown).form
              have hb3 : Below w6.heap.size w6 (w6.alloc (.cells #[.int .u8 kk, .int .i64 pn, .string ps, .int .u8 pv.1, .int .i64 pv.2.1, .string pv.2.2] 124)) := (Below.refl _ w6).alloc (Nat.le_refl _) _
              have HB7 := Lib.hid ((HB6.out.trans (hb3.mono HB6.out.size)).grown hg (HB6.out.trans (hb3.mono HB6.out.size)).size (fun q e => (HO6.out.lt q e).1))
              have HO7 := Lib.hid hown
              clear hg hat hown hb3
              clear b0 b1 b2 b3 b4 b5
              obtain ⟨c0, c1, c2, c3, c4, c5⟩ := row6g ((Kp.of_below HB7.out (fun _ => False)).own HQ.out.2 (fun _ _ h => h)) HX.out
              go_wp2_with (at_builtin; refine wpList_append_rd rfl _ _ 62 rfl W0.heap.size 124 i1 _ 6 64 Tryz.underlying62 hi1 hy0 hy1 hy2 rfl (by decide) (.slice A7 (m.length + 1) m7) (m.length + 1) (m.flatMap pcells ++ [.int .u8 kk, .int .i64 pn, .string ps, .int .u8 pv.1, .int .i64 pv.2.1, .string pv.2.2]) rfl ?k0 _ 1 [.int .u8 kk, .int .i64 kn, .string ks, .int .u8 qv.1, .int .i64 qv.2.1, .string qv.2.2] rfl ?k1 rfl (by simp [Value.oneCell']) ?k2 ?k3 ?k4 ?_)
              case k0 => exact (Kp.of_below ((Below.refl _ w7).alloc (Nat.le_refl _) _) (fun _ => False)).own HO7.out (fun _ _ => id)
              case k1 => exact rd_six _ _ _ _ _ _ _ _ _ rfl
              case k2 => have := HM.out.2; unfold maxLen; omega
              case k3 => have := HM.out.2; omega
              case k4 => have := HB7.out.size; simp; omega
              intro v8 w8 hown hg hat
              obtain ⟨A8, m8, rfl, _⟩ := (Rd.of_own hown).form
              have hb3 : Below w7.heap.size w7 (w7.alloc (.cells #[.int .u8 kk, .int .i64 kn, .string ks, .int .u8 qv.1, .int .i64 qv.2.1, .string qv.2.2] 124)) := (Below.refl _ w7).alloc (Nat.le_refl _) _
              have HB8 := Lib.hid ((HB7.out.trans (hb3.mono HB7.out.size)).grown hg (HB7.out.trans (hb3.mono HB7.out.size)).size (fun q e => (HO7.out.lt q e).1))
              have HO8 := Lib.hid hown
              clear hg hat hown hb3
              clear c0 c1 c2 c3 c4 c5
              go_wp2_with fail
              go_roundg (l.length - (j + 1))
              case measure => have := HJ.out; omega
              case rel => exact ⟨j + 1, true, _, by have := HJ.out; omega, by go_num, rfl, Tk8.two HB8.out HO8.out, pd_ahead HM.out HX.out HNE.out hk⟩
          · obtain ⟨c0, c1, c2, c3, c4, c5⟩ := row6g ((Kp.of_below HB6.out (fun _ => False)).own HQ.out.2 (fun _ _ h => h)) HX.out
            go_wp2_with (at_builtin; refine wpList_append_rd rfl _ _ 62 rfl W0.heap.size 124 i1 _ 6 64 Tryz.underlying62 hi1 hy0 hy1 hy2 rfl (by decide) (.slice A1 (m.length) m1) (m.length) (m.flatMap pcells) rfl ?k0 _ 1 [.int .u8 kk, .int .i64 kn, .string ks, .int .u8 qv.1, .int .i64 qv.2.1, .string qv.2.2] rfl ?k1 rfl (by simp [Value.oneCell']) ?k2 ?k3 ?k4 ?_)
            case k0 => exact (Kp.of_below ((Below.refl _ w6).alloc (Nat.le_refl _) _) (fun _ => False)).own HO6.out (fun _ _ => id)
            case k1 => exact rd_six _ _ _ _ _ _ _ _ _ rfl
            case k2 => have := HM.out.2; unfold maxLen; omega
            case k3 => have := HM.out.2; omega
            case k4 => have := HB6.out.size; simp; omega
            intro v7 w7 hown hg hat
            obtain ⟨A7, m7, rfl, _⟩ := (Rd.of_own hown).form
            have hb3 : Below w6.heap.size w6 (w6.alloc (.cells #[.int .u8 kk, .int .i64 kn, .string ks, .int .u8 qv.1, .int .i64 qv.2.1, .string qv.2.2] 124)) := (Below.refl _ w6).alloc (Nat.le_refl _) _
            have HB7 := Lib.hid ((HB6.out.trans (hb3.mono HB6.out.size)).grown hg (HB6.out.trans (hb3.mono HB6.out.size)).size (fun q e => (HO6.out.lt q e).1))
            have HO7 := Lib.hid hown
            clear hg hat hown hb3
            clear c0 c1 c2 c3 c4 c5
            go_wp2_with fail
            go_roundg (l.length - (j + 1))
            case measure => have := HJ.out; omega
            case rel => exact ⟨j + 1, true, _, by have := HJ.out; omega, by go_num, rfl, Tk8.one HB7.out HO7.out, pd_keep1 HM.out HX.out HNE.out⟩
      · go_wp2_with fail
        go_quiet (fail)
        have HB5 := Lib.hid (show Below W0.heap.size W0 (wr.drewN nq) from HB.out.trans ((below_drewN _ _).mono HB.out.size))
        have HO5 := Lib.hid ((Kp.of_below (below_drewN wr nq) (fun _ => False)).own HO.out (fun _ _ => id))
        generalize wr.drewN nq = w5 at HB5 HO5 ⊢
        clear a0 a1 a2 a3 a4 a5 k0 k1 k2 k3 k4 k5 HB HO
        obtain ⟨b0, b1, b2, b3, b4, b5, _⟩ := (HQ.out.1.below HB5.out).all
        obtain ⟨c0, c1, c2, c3, c4, c5⟩ := row6g ((Kp.of_below HB5.out (fun _ => False)).own HQ.out.2 (fun _ _ h => h)) HX.out
        have hzz : z < w5.heap.size := (HQ.out.1.below HB5.out).lt
        have hgg := World.block_lt_of_cell? w5 _ c0
        have z0 := Gb.cell b0 hzz
        have z1 := Gb.cell b1 hzz
        have z2 := Gb.cell b2 hzz
        have y0 := Gb.cell c0 hgg
        have y1 := Gb.cell c1 hgg
        have y2 := Gb.cell c2 hgg
        have HLS := Lib.hid (fun W => rless hs seed (pk, pn, ps) (kk, kn, ks) HKP.out.1 (HKL.out _ HX.out).1 HKP.out.2 (HKL.out _ HX.out).2 W)
        have HNE := Lib.hid (show (kk, kn, ks) ≠ ((pk, pn, ps) : Ky) from (fun e => e0 (congrArg (fun x : Ky => x.1) e)))
        clear b0 b1 b2 b3 b4 b5 c0 c1 c2 c3 c4 c5 hzz hgg
        go_wp2_with fail
        refine region_below (by kernel_rfl) (by kernel_rfl) ?_
        repeat (go_big_quiet_step ((go_at_call 173; exact Gb.calls _ (HLS.out _))))
        refine wpQuiet_nil ?_
        rintro _ ⟨g9, rfl⟩
        have HB6 := Lib.hid (HB5.out.trans (g9.below.mono HB5.out.size))
        have HO6 := Lib.hid ((Kp.of_below g9.below (fun _ => False)).own HO5.out (fun _ _ => id))
        generalize g9.at' = w6 at HB6 HO6 ⊢
        clear z0 z1 z2 y0 y1 y2 HB5 HO5 HLS g9
        cases d
        · cases hk : kltB hs (pk, pn, ps) (kk, kn, ks)
          · obtain ⟨c0, c1, c2, c3, c4, c5⟩ := row6g ((Kp.of_below HB6.out (fun _ => False)).own HQ.out.2 (fun _ _ h => h)) HX.out
            go_wp2_with (at_builtin; refine wpList_append_rd rfl _ _ 62 rfl W0.heap.size 124 i1 _ 6 64 Tryz.underlying62 hi1 hy0 hy1 hy2 rfl (by decide) (.slice A1 (m.length) m1) (m.length) (m.flatMap pcells) rfl ?k0 _ 1 [.int .u8 kk, .int .i64 kn, .string ks, .int .u8 qv.1, .int .i64 qv.2.1, .string qv.2.2] rfl ?k1 rfl (by simp [Value.oneCell']) ?k2 ?k3 ?k4 ?_)
            case k0 => exact (Kp.of_below ((Below.refl _ w6).alloc (Nat.le_refl _) _) (fun _ => False)).own HO6.out (fun _ _ => id)
            case k1 => exact rd_six _ _ _ _ _ _ _ _ _ rfl
            case k2 => have := HM.out.2; unfold maxLen; omega
            case k3 => have := HM.out.2; omega
            case k4 => have := HB6.out.size; simp; omega
            intro v7 w7 hown hg hat
            obtain ⟨A7, m7, rfl, _⟩ := (Rd.of_own hown).form
            have hb3 : Below w6.heap.size w6 (w6.alloc (.cells #[.int .u8 kk, .int .i64 kn, .string ks, .int .u8 qv.1, .int .i64 qv.2.1, .string qv.2.2] 124)) := (Below.refl _ w6).alloc (Nat.le_refl _) _
            have HB7 := Lib.hid ((HB6.out.trans (hb3.mono HB6.out.size)).grown hg (HB6.out.trans (hb3.mono HB6.out.size)).size (fun q e => (HO6.out.lt q e).1))
            have HO7 := Lib.hid hown
            clear hg hat hown hb3
            clear c0 c1 c2 c3 c4 c5
            go_wp2_with fail
            go_roundg (l.length - (j + 1))
            case measure => have := HJ.out; omega
            case rel => exact ⟨j + 1, false, _, by have := HJ.out; omega, by go_num, rfl, Tk8.one HB7.out HO7.out, pd_keep0 HM.out HX.out HNE.out hk⟩
          · obtain ⟨b0, b1, b2, b3, b4, b5, _⟩ := (HQ.out.1.below HB6.out).all
            go_wp2_with (at_builtin; refine wpList_append_rd rfl _ _ 62 rfl W0.heap.size 124 i1 _ 6 64 Tryz.underlying62 hi1 hy0 hy1 hy2 rfl (by decide) (.slice A1 (m.length) m1) (m.length) (m.flatMap pcells) rfl ?k0 _ 1 [.int .u8 pk, .int .i64 pn, .string ps, .int .u8 pv.1, .int .i64 pv.2.1, .string pv.2.2] rfl ?k1 rfl (by simp [Value.oneCell']) ?k2 ?k3 ?k4 ?_)
            case k0 => exact (Kp.of_below ((Below.refl _ w6).alloc (Nat.le_refl _) _) (fun _ => False)).own HO6.out (fun _ _ => id)
            case k1 => exact rd_six _ _ _ _ _ _ _ _ _ rfl
            case k2 => have := HM.out.2; unfold maxLen; omega
            case k3 => have := HM.out.2; omega
            case k4 => have := HB6.out.size; simp; omega
            intro v7 w7 hown hg hat
            obtain ⟨A7, m7, rfl, _⟩ := (Rd.of_own hown).form
            have hb3 : Below w6.heap.size w6 (w6.alloc (.cells #[.int .u8 pk, .int .i64 pn, .string ps, .int .u8 pv.1, .int .i64 pv.2.1, .string pv.2.2] 124)) := (Below.refl _ w6).alloc (Nat.le_refl _) _
            have HB7 := Lib.hid ((HB6.out.trans (hb3.mono HB6.out.size)).grown hg (HB6.out.trans (hb3.mono HB6.out.size)).size (fun q e => (HO6.out.lt q e).1))
            have HO7 := Lib.hid hown
            clear hg hat hown hb3
            clear b0 b1 b2 b3 b4 b5
            obtain ⟨c0, c1, c2, c3, c4, c5⟩ := row6g ((Kp.of_below HB7.out (fun _ => False)).own HQ.out.2 (fun _ _ h => h)) HX.out
            go_wp2_with (at_builtin; refine wpList_append_rd rfl _ _ 62 rfl W0.heap.size 124 i1 _ 6 64 Tryz.underlying62 hi1 hy0 hy1 hy2 rfl (by decide) (.slice A7 (m.length + 1) m7) (m.length + 1) (m.flatMap pcells ++ [.int .u8 pk, .int .i64 pn, .string ps, .int .u8 pv.1, .int .i64 pv.2.1, .string pv.2.2]) rfl ?k0 _ 1 [.int .u8 kk, .int .i64 kn, .string ks, .int .u8 qv.1, .int .i64 qv.2.1, .string qv.2.2] rfl ?k1 rfl (by simp [Value.oneCell']) ?k2 ?k3 ?k4 ?_)
            case k0 => exact (Kp.of_below ((Below.refl _ w7).alloc (Nat.le_refl _) _) (fun _ => False)).own HO7.out (fun _ _ => id)
            case k1 => exact rd_six _ _ _ _ _ _ _ _ _ rfl
            case k2 => have := HM.out.2; unfold maxLen; omega
            case k3 => have := HM.out.2; omega
            case k4 => have := HB7.out.size; simp; omega
            intro v8 w8 hown hg hat
            obtain ⟨A8, m8, rfl, _⟩ := (Rd.of_own hown).form
            have hb3 : Below w7.heap.size w7 (w7.alloc (.cells #[.int .u8 kk, .int .i64 kn, .string ks, .int .u8 qv.1, .int .i64 qv.2.1, .string qv.2.2] 124)) := (Below.refl _ w7).alloc (Nat.le_refl _) _
            have HB8 := Lib.hid ((HB7.out.trans (hb3.mono HB7.out.size)).grown hg (HB7.out.trans (hb3.mono HB7.out.size)).size (fun q e => (HO7.out.lt q e).1))
            have HO8 := Lib.hid hown
            clear hg hat hown hb3
            clear c0 c1 c2 c3 c4 c5
            go_wp2_with fail
            go_roundg (l.length - (j + 1))
            case measure => have := HJ.out; omega
            case rel => exact ⟨j + 1, true, _, by have := HJ.out; omega, by go_num, rfl, Tk8.two HB8.out HO8.out, pd_ahead HM.out HX.out HNE.out hk⟩
        · obtain ⟨c0, c1, c2, c3, c4, c5⟩ := row6g ((Kp.of_below HB6.out (fun _ => False)).own HQ.out.2 (fun _ _ h => h)) HX.out
          go_wp2_with (at_builtin; refine wpList_append_rd rfl _ _ 62 rfl W0.heap.size 124 i1 _ 6 64 Tryz.underlying62 hi1 hy0 hy1 hy2 rfl (by decide) (.slice A1 (m.length) m1) (m.length) (m.flatMap pcells) rfl ?k0 _ 1 [.int .u8 kk, .int .i64 kn, .string ks, .int .u8 qv.1, .int .i64 qv.2.1, .string qv.2.2] rfl ?k1 rfl (by simp [Value.oneCell']) ?k2 ?k3 ?k4 ?_)
          case k0 => exact (Kp.of_below ((Below.refl _ w6).alloc (Nat.le_refl _) _) (fun _ => False)).own HO6.out (fun _ _ => id)
          case k1 => exact rd_six _ _ _ _ _ _ _ _ _ rfl
          case k2 => have := HM.out.2; unfold maxLen; omega
          case k3 => have := HM.out.2; omega
          case k4 => have := HB6.out.size; simp; omega
          intro v7 w7 hown hg hat
          obtain ⟨A7, m7, rfl, _⟩ := (Rd.of_own hown).form
          have hb3 : Below w6.heap.size w6 (w6.alloc (.cells #[.int .u8 kk, .int .i64 kn, .string ks, .int .u8 qv.1, .int .i64 qv.2.1, .string qv.2.2] 124)) := (Below.refl _ w6).alloc (Nat.le_refl _) _
          have HB7 := Lib.hid ((HB6.out.trans (hb3.mono HB6.out.size)).grown hg (HB6.out.trans (hb3.mono HB6.out.size)).size (fun q e => (HO6.out.lt q e).1))
          have HO7 := Lib.hid hown
          clear hg hat hown hb3
          clear c0 c1 c2 c3 c4 c5
          go_wp2_with fail
          go_roundg (l.length - (j + 1))
          case measure => have := HJ.out; omega
          case rel => exact ⟨j + 1, true, _, by have := HJ.out; omega, by go_num, rfl, Tk8.one HB7.out HO7.out, pd_keep1 HM.out HX.out HNE.out⟩
    · obtain rfl : j = l.length := by omega
      have hlt : ¬ (l.length : Int) < (l.length : Int) := by omega
      have HB := Lib.hid hP.bel
      have HO := Lib.hid hP.own
      clear hP hj
      cases d
      · obtain ⟨b0, b1, b2, b3, b4, b5, _⟩ := (HQ.out.1.below HB.out).all
        go_wp2_with (at_builtin; refine wpList_append_rd rfl _ _ 62 rfl W0.heap.size 124 i1 _ 6 64 Tryz.underlying62 hi1 hy0 hy1 hy2 rfl (by decide) (.slice A1 (m.length) m1) (m.length) (m.flatMap pcells) rfl ?k0 _ 1 [.int .u8 pk, .int .i64 pn, .string ps, .int .u8 pv.1, .int .i64 pv.2.1, .string pv.2.2] rfl ?k1 rfl (by simp [Value.oneCell']) ?k2 ?k3 ?k4 ?_)
        case k0 => exact (Kp.of_below ((Below.refl _ wr).alloc (Nat.le_refl _) _) (fun _ => False)).own HO.out (fun _ _ => id)
        case k1 => exact rd_six _ _ _ _ _ _ _ _ _ rfl
        case k2 => have := HM.out.2; unfold maxLen; omega
        case k3 => have := HM.out.2; omega
        case k4 => have := HB.out.size; simp; omega
        intro v7 w7 hown hg hat
        obtain ⟨A7, m7, rfl, _⟩ := (Rd.of_own hown).form
        have hb3 : Below wr.heap.size wr (wr.alloc (.cells #[.int .u8 pk, .int .i64 pn, .string ps, .int .u8 pv.1, .int .i64 pv.2.1, .string pv.2.2] 124)) := (Below.refl _ wr).alloc (Nat.le_refl _) _
        have HB7 := Lib.hid ((HB.out.trans (hb3.mono HB.out.size)).grown hg (HB.out.trans (hb3.mono HB.out.size)).size (fun q e => (HO.out.lt q e).1))
        have HO7 := Lib.hid hown
        clear hg hat hown hb3
        go_wp2_with fail
        refine bodyPost_ret (v := .slice A7 (m.length + 1) m7) (by simp [results, Tryz.results105, go_sem]) rfl ⟨_, rfl, ?_, HB0.out.trans (HB7.out.mono HB0.out.size)⟩
        have h9 := Go.Joins.ownsRow_le (Tk8.one (p := ((pk, pn, ps), pv)) HB7.out HO7.out).own HB0.out.size
        rw [← pd_end0 HM.out.1]
        exact h9
      · go_wp2_with fail
        refine bodyPost_ret (v := .slice A1 m.length m1) (by simp [results, Tryz.results105, go_sem]) rfl ⟨_, rfl, ?_, HB0.out.trans (HB.out.mono HB0.out.size)⟩
        rw [← pd_end1 HM.out.1]
        exact Go.Joins.ownsRow_le HO.out HB0.out.size
end
end Go.Proofs.YtdddhmipifkepaaGreat

namespace Go.Proofs.YtdddhmipifkepaaGreat
set_option maxRecDepth 100000
open Go.RowKit
theorem rd6 {w : World} {n : Nat} {v : Value} {l : List Pr} (h : Rd w v n (l.flatMap pcells)) {j : Nat} {p : Pr} (hp : l[j]? = some p) :
    ∃ g o c, v = .slice (some ⟨g, o, none⟩) n c ∧ w.cell? ⟨g, o + j * 6, none⟩ = some (.int .u8 p.1.1) ∧ w.cell? ⟨g, o + j * 6 + 1, none⟩ = some (.int .i64 p.1.2.1) ∧ w.cell? ⟨g, o + j * 6 + 2, none⟩ = some (.string p.1.2.2) ∧ w.cell? ⟨g, o + j * 6 + 3, none⟩ = some (.int .u8 p.2.1) ∧ w.cell? ⟨g, o + j * 6 + 4, none⟩ = some (.int .i64 p.2.2.1) ∧ w.cell? ⟨g, o + j * 6 + 5, none⟩ = some (.string p.2.2.2) := by
  have cel : ∀ t u, t < 6 → (pcells p)[t]? = some u → ∃ g o c, v = .slice (some ⟨g, o, none⟩) n c ∧ w.cell? ⟨g, o + j * 6 + t, none⟩ = some u := fun t u ht hu => by
    obtain ⟨g, o, c', e, _, kc⟩ := h.at ((pflat_get l j p hp t ht).trans hu)
    exact ⟨g, o, c', e, by rw [Nat.add_assoc]; exact kc⟩
  obtain ⟨g, o, c, rfl, k0⟩ := cel 0 _ (by decide) rfl
  obtain ⟨g1, o1, _, e1, k1⟩ := cel 1 _ (by decide) rfl
  obtain ⟨g2, o2, _, e2, k2⟩ := cel 2 _ (by decide) rfl
  obtain ⟨g3, o3, _, e3, k3⟩ := cel 3 _ (by decide) rfl
  obtain ⟨g4, o4, _, e4, k4⟩ := cel 4 _ (by decide) rfl
  obtain ⟨g5, o5, _, e5, k5⟩ := cel 5 _ (by decide) rfl
  simp only [Value.slice.injEq, Option.some.injEq, Addr.mk.injEq, and_true, true_and] at e1 e2 e3 e4 e5
  obtain ⟨⟨rfl, rfl⟩, -⟩ := e1
  obtain ⟨⟨rfl, rfl⟩, -⟩ := e2
  obtain ⟨⟨rfl, rfl⟩, -⟩ := e3
  obtain ⟨⟨rfl, rfl⟩, -⟩ := e4
  obtain ⟨⟨rfl, rfl⟩, -⟩ := e5
  exact ⟨g, o, c, rfl, k0, k1, k2, k3, k4, k5⟩
section
end
end Go.Proofs.YtdddhmipifkepaaGreat
