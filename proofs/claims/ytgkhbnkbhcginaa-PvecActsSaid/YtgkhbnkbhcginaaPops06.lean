/- Package pvec: Pop. Package pvec: popTail where the trunk has one leaf or none: that one becomes the tail. Package pvec: popTail where the trunk has more than one leaf: the trunk is changed. Package pvec: Pop where the tail has one value: what popTail does. Package pvec: Pop within the tail. Package pvec: Pop of nothing. -/
import Derived.Test.YtgkhbnkbhcginaaPush06
import Derived.Test.YtgkhbnkbhcginaaSetR06
import Derived.Deep.RegionHeld3
import Derived.StillTailTactics
namespace Go.Proofs.Ytgkhbnkbhcginaa
open Go.RowKit

theorem flat3_take : ∀ (l : Vs) (m : Nat), (l.take m).flatMap cells3 = (l.flatMap cells3).take (m * 3)
  | [], m => by simp
  | x :: l, 0 => by simp
  | x :: l, m + 1 => by
    rw [List.take_succ_cons, List.flatMap_cons, List.flatMap_cons, flat3_take l m, show (m + 1) * 3 = m * 3 + 1 + 1 + 1 by omega]
    rfl
section
variable {F : Nat → Prop}
set_option maxRecDepth 100000 in
set_option maxHeartbeats 800000 in
/-- Only the first of its values. -/
theorem chg_cut (k zb : Nat) (w : World) (hzb : w.cell? ⟨zb, 0, none⟩ = some (.int .i64 (k : Int))) (hF : ¬ F zb) (c : Hc) (hk : k % 32 ≤ c.vals.length) (hn : c.vals ≠ []) (hk2 : k < 1048576) :
    Chg 53 (.pointer (some ⟨zb, 0, none⟩)) F w (fun c => { c with vals := c.vals.take (k % 32) }) c := by
  intro o v kk W hkp o1 o2
  obtain ⟨y, hy⟩ : ∃ y, (c.vals.flatMap cells3)[0]? = some y := by
    cases e : c.vals with
    | nil => exact absurd e hn
    | cons x l => exact ⟨_, rfl⟩
  obtain ⟨g, m1, rfl, hm1, _, _⟩ := own_at o1 hy
  obtain ⟨A2, m2, rfl, _⟩ := (Rd.of_own o2).form
  have hz : W.cell? ⟨zb, 0, none⟩ = some (.int .i64 (k : Int)) := hkp.cell hzb hF
  have hzl : zb < W.heap.size := World.block_lt_of_cell? W _ hz
  have hws := hkp.size
  have hg := own_blk o1 g rfl
  have hmm : k % 32 ≤ m1 := Nat.le_trans hk hm1
  have hmm2 : ((k % 32 : Nat) : Int) ≤ (m1 : Int) := by omega
  have hsl := Lib.hid (show ∀ W, Calls Try.prog 41 #[.int .i64 (k : Int)] W fun e w' => e = .returned (.int .i64 ((k % 32 : Nat) : Int)) ∧ W = w' from fun W => vslot k W (by omega))
  have O1 := Lib.hid o1
  have O2 := Lib.hid o2
  clear o1 o2 hkp hzb hy
  go_enter Try.func53, Try.ntmps53
  go_wp2_with (go_at_call 41; refine (hsl.out _).mono ?_; rintro e w' ⟨rfl, rfl⟩)
  have hb2 : Below W.heap.size W ((W.alloc (.cells #[.int .u32 o, .int .u32 c.a, .int .u32 c.b, .slice (some ⟨g, 0, none⟩) c.vals.length m1, .slice A2 c.kids.length m2] 59)).alloc (.cells #[.int .u32 0, .int .u32 0, .int .u32 0, .slice none 0 0, .slice none 0 0] 59)) := ((Below.refl _ W).alloc (Nat.le_refl _) _).alloc (by simp) _
  have q1 := (C5.new W 59 (.int .u32 o) (.int .u32 c.a) (.int .u32 c.b) (.slice (some ⟨g, 0, none⟩) c.vals.length m1) (.slice A2 c.kids.length m2)).alloc (.cells #[.int .u32 0, .int .u32 0, .int .u32 0, .slice none 0 0, .slice none 0 0] 59)
  have q2 := C5.new (W.alloc (.cells #[.int .u32 o, .int .u32 c.a, .int .u32 c.b, .slice (some ⟨g, 0, none⟩) c.vals.length m1, .slice A2 c.kids.length m2] 59)) 59 (.int .u32 0) (.int .u32 0) (.int .u32 0) (.slice none 0 0) (.slice none 0 0)
  rw [show (W.alloc (.cells #[.int .u32 o, .int .u32 c.a, .int .u32 c.b, .slice (some ⟨g, 0, none⟩) c.vals.length m1, .slice A2 c.kids.length m2] 59)).heap.size = W.heap.size + 1 by simp] at q2
  have HK := Lib.hid (Kp.of_below hb2 (fun _ => False))
  have hz2 : ((W.alloc (.cells #[.int .u32 o, .int .u32 c.a, .int .u32 c.b, .slice (some ⟨g, 0, none⟩) c.vals.length m1, .slice A2 c.kids.length m2] 59)).alloc (.cells #[.int .u32 0, .int .u32 0, .int .u32 0, .slice none 0 0, .slice none 0 0] 59)).cell? ⟨zb, 0, none⟩ = some (.int .i64 (k : Int)) := HK.out.cell hz id
  have O1a := Lib.hid (own_take (m := k % 32) (HK.out.own O1.out (fun _ _ h => h)) hk)
  have O2a := Lib.hid (HK.out.own O2.out (fun _ _ h => h))
  have NE := Lib.hid (show (∀ q, (Value.slice A2 c.kids.length m2).ownBlock = some q → ¬ (q = W.heap.size ∨ q = W.heap.size + 1)) ∧ (∀ q, (Value.slice (some ⟨g, 0, none⟩) (k % 32) m1).ownBlock = some q → ¬ (q = W.heap.size ∨ q = W.heap.size + 1)) from
    ⟨fun q hq => by have := (own_blk O2.out q hq).2; omega, fun q hq => by have e : g = q := Option.some.inj hq; omega⟩)
  generalize (W.alloc (.cells #[.int .u32 o, .int .u32 c.a, .int .u32 c.b, .slice (some ⟨g, 0, none⟩) c.vals.length m1, .slice A2 c.kids.length m2] 59)).alloc (.cells #[.int .u32 0, .int .u32 0, .int .u32 0, .slice none 0 0, .slice none 0 0] 59) = w2 at q1 q2 hz2 HK O1a O2a ⊢
  obtain ⟨x0, x1, x2, x3, x4, y0, y1, y2, y3, y4⟩ := q1.all
  obtain ⟨z0, z1, z2, z3, z4, u0, u1, u2, u3, u4⟩ := q2.all
  have hlen : (c.vals.take (k % 32)).length = k % 32 := by rw [List.length_take]; omega
  generalize hm : k % 32 = m at hk hmm hmm2 hsl O1a NE hlen ⊢
  clear q1 q2 hb2 hz O1 O2 hn
  go_region_with (go_at_call 41; refine (hsl.out _).mono ?_; rintro e w' ⟨rfl, rfl⟩)
  all_goals
    go_wp2_with fail
    refine bodyPost_ret (v := cagg o c.a c.b (.slice (some ⟨g, 0, none⟩) m m1) (.slice A2 c.kids.length m2)) (by simp [results, Try.results53, go_sem, z0, z1, z2, z3, z4]) rfl ⟨_, _, rfl, ?_, ?_, ?_, fun q hq => .inl hq, fun _ => .inl⟩
    · show Rd _ _ (c.vals.take (k % 32)).length ((c.vals.take (k % 32)).flatMap cells3)
      rw [hm, hlen, flat3_take]
      exact Rd.of_own (((((((((Kp.refl (fun x => x = W.heap.size ∨ x = W.heap.size + 1) w2).setCell (.inl (.inl rfl)) _).setCell (.inl (.inr rfl)) _).setCell (.inl (.inr rfl)) _).setCell (.inl (.inr rfl)) _).setCell (.inl (.inr rfl)) _).setCell (.inl (.inr rfl)) _).drew).own O1a.out NE.out.2)
    · exact Rd.of_own (((((((((Kp.refl (fun x => x = W.heap.size ∨ x = W.heap.size + 1) w2).setCell (.inl (.inl rfl)) _).setCell (.inl (.inr rfl)) _).setCell (.inl (.inr rfl)) _).setCell (.inl (.inr rfl)) _).setCell (.inl (.inr rfl)) _).setCell (.inl (.inr rfl)) _).drew).own O2a.out NE.out.1)
    · exact (HK.out.mono (fun _ h _ => h.elim)).trans ((((((((Kp.refl (fun x => x = W.heap.size ∨ x = W.heap.size + 1) w2).setCell (.inl (.inl rfl)) _).setCell (.inl (.inr rfl)) _).setCell (.inl (.inr rfl)) _).setCell (.inl (.inr rfl)) _).setCell (.inl (.inr rfl)) _).setCell (.inl (.inr rfl)) _).drew) (fun q hq => .inr (by omega))
set_option maxRecDepth 100000 in
set_option maxHeartbeats 800000 in
/-- Only the first of its others. -/
theorem chg_kidcut (k zb : Nat) (w : World) (hzb : w.cell? ⟨zb, 0, none⟩ = some (.int .i64 (k : Int))) (hF : ¬ F zb) (c : Hc) (hk : k ≤ c.kids.length) (hn : c.kids ≠ []) :
    Chg 70 (.pointer (some ⟨zb, 0, none⟩)) F w (fun c => { c with kids := c.kids.take k }) c := by
  intro o v kk W hkp o1 o2
  obtain ⟨y, hy⟩ : ∃ y, (nums (ns c.kids))[0]? = some y := by
    cases e : c.kids with
    | nil => exact absurd e hn
    | cons x l => exact ⟨_, rfl⟩
  obtain ⟨g, m1, rfl, hm1, _, _⟩ := own_at o2 hy
  obtain ⟨A2, m2, rfl, _⟩ := (Rd.of_own o1).form
  have hz : W.cell? ⟨zb, 0, none⟩ = some (.int .i64 (k : Int)) := hkp.cell hzb hF
  have hzl : zb < W.heap.size := World.block_lt_of_cell? W _ hz
  have hws := hkp.size
  have hg := own_blk o2 g rfl
  have hmm : k ≤ m1 := Nat.le_trans hk hm1
  have hmm2 : (k : Int) ≤ (m1 : Int) := by omega
  have O1 := Lib.hid o1
  have O2 := Lib.hid o2
  clear o1 o2 hkp hzb hy
  go_enter Try.func70, Try.ntmps70
  go_wp2_with fail
  have hlen : (c.kids.take k).length = k := by rw [List.length_take]; omega
  have hns : nums (ns (c.kids.take k)) = (nums (ns c.kids)).take (k * 1) := by simp [nums, ns, List.map_take]
  refine bodyPost_ret (v := cagg o c.a c.b (.slice A2 c.vals.length m2) (.slice (some ⟨g, 0, none⟩) k m1)) (by simp [results, Try.results70, go_sem]) rfl ⟨_, _, rfl, ?_, ?_, ?_, fun _ => .inl, fun q hq => .inl hq⟩
  · exact Rd.of_own ((Kp.of_below (((Below.refl _ W).alloc (Nat.le_refl _) _).alloc (by simp) _) (fun _ => False)).own O1.out (fun _ _ h => h))
  · show Rd _ _ (c.kids.take k).length (nums (ns (c.kids.take k)))
    rw [hlen, hns]
    exact Rd.of_own (own_take ((Kp.of_below (((Below.refl _ W).alloc (Nat.le_refl _) _).alloc (by simp) _) (fun _ => False)).own O2.out (fun _ _ h => h)) hk)
  · exact (Kp.of_below (((Below.refl _ W).alloc (Nat.le_refl _) _).alloc (by simp) _) (fun _ => False)).mono (fun _ h _ => h.elim)
end

end Go.Proofs.Ytgkhbnkbhcginaa

namespace Go.Proofs.Ytgkhbnkbhcginaa
open Go.RowKit

/-- While the trunk's only leaf is looked up. -/
structure Few (w W : World) (b most : Nat) (M : Cells) (F : Nat → Prop) (zv zr zn kn : Nat) (v : Vc) (cr : Hc) (t j : Nat) (kk : Value) : Prop where
  ar : Ar W b most M F
  bel : Below w.heap.size w W
  cv : C3 W zv 30 (.int .i64 (v.n : Int)) (.int .i64 (v.root : Int)) (.int .i64 (v.tail : Int))
  res : C3 W zr 30 (.int .i64 0) (.int .i64 0) (.int .i64 0)
  nx : C3 W zn 30 (.int .i64 (kn : Int)) (.int .i64 0) (.int .i64 ((if j = 0 then 0 else t : Nat) : Int))
  row : Rd W kk cr.kids.length (nums (ns cr.kids))

section
variable {b most : Nat} {M : Cells} {F : Nat → Prop}
set_option maxRecDepth 100000 in
set_option maxHeartbeats 1600000 in
theorem vpopTail_few (v : Vc) (kn : Nat) (ow : Int) (cr : Hc) (t : Nat) (w : World) (h : Ar w b most M F) (hcr : contC M v.root = cr) (hvn : v.n = kn + 1) (hkb : kn ≤ 1024) (hk : (cr.kids = [] ∧ t = 0) ∨ cr.kids = [t]) (hr : ∀ j, rf (M j) ≤ 4611686018420000000) :
    Calls Try.prog 52 #[ap b, vagg v, .int .u32 ow] w fun e w' => ∃ M', e = .returned (.tuple #[vagg ⟨kn, 0, t⟩, .int .i64 0]) ∧
      (if ow = 0 then M' = keepC (keepC M 0) t else ∃ Ma, Drops (keepC (keepC M 0) t) [v.root] Ma ∧ Drops Ma [v.tail] M') ∧ Stp w w' b most M' F := by
  have hkI : (v.n : Int) - 1 = (kn : Int) := by omega
  have HF := Lib.hid (show ∀ q, F q → q < w.heap.size from fun q hq => h.lt hq)
  have HR := Lib.hid hr
  have e1 : (w.alloc (.cells #[.int .i64 (v.n : Int), .int .i64 (v.root : Int), .int .i64 (v.tail : Int)] 30)).heap.size = w.heap.size + 1 := by simp
  have q4 := (C3.new w 30 (.int .i64 (v.n : Int)) (.int .i64 (v.root : Int)) (.int .i64 (v.tail : Int))).alloc (.cells #[.int .i64 0, .int .i64 0, .int .i64 0] 30)
  have q6 := C3.new (w.alloc (.cells #[.int .i64 (v.n : Int), .int .i64 (v.root : Int), .int .i64 (v.tail : Int)] 30)) 30 (.int .i64 0) (.int .i64 0) (.int .i64 0)
  rw [e1] at q6
  have hb2 : Below w.heap.size w ((w.alloc (.cells #[.int .i64 (v.n : Int), .int .i64 (v.root : Int), .int .i64 (v.tail : Int)] 30)).alloc (.cells #[.int .i64 0, .int .i64 0, .int .i64 0] 30)) := ((Below.refl _ w).alloc (Nat.le_refl _) _).alloc (by simp) _
  have HA2 := Lib.hid (h.below hb2)
  have HB2 := Lib.hid hb2
  have hlen : cr.kids.length ≤ 1 := by rcases hk with ⟨e, _⟩ | e <;> simp [e]
  have hlI : ((cr.kids.length : Int) - 1) < 1 := by omega
  clear h hr e1 hb2 hvn
  go_enter Try.func52, Try.ntmps52
  go_wp2_with fail
  generalize (w.alloc (.cells #[.int .i64 (v.n : Int), .int .i64 (v.root : Int), .int .i64 (v.tail : Int)] 30)).alloc (.cells #[.int .i64 0, .int .i64 0, .int .i64 0] 30) = w2 at q4 q6 HA2 HB2 ⊢
  have hget := vget v.root w2 HA2.out
  rw [hcr] at hget
  refine hget.mono ?_
  rintro e w3 ⟨vv, kk, rfl, o1, o2, hb3⟩
  clear hget
  obtain ⟨A1, m1, rfl, _⟩ := (Rd.of_own o1).form
  obtain ⟨A2, m2, rfl, _⟩ := (Rd.of_own o2).form
  have HV := Lib.hid (show (w.heap.size < w2.heap.size ∧ w.heap.size + 1 < w2.heap.size) ∧ w2.heap.size ≤ w3.heap.size from ⟨⟨q4.lt, q6.lt⟩, hb3.size⟩)
  have Q4 := Lib.hid (q4.below hb3)
  have Q6 := Lib.hid (q6.below hb3)
  have HA3 := Lib.hid (HA2.out.below hb3)
  have HB3 := Lib.hid (HB2.out.trans (hb3.mono HB2.out.size))
  have HRW := Lib.hid (Rd.of_own o2)
  have HKB := Lib.hid (show ∀ q, (Value.slice A2 cr.kids.length m2).ownBlock = some q → q < w3.heap.size from fun q hq => (o2.lt q hq).2)
  clear q4 q6 o1 o2 hb3 HA2 HB2
  have Q45 := Lib.hid ((Q4.out.alloc (.cells #[.int .u32 cr.owner, .int .u32 cr.a, .int .u32 cr.b, .slice A1 cr.vals.length m1, .slice A2 cr.kids.length m2] 59)).alloc (.cells #[.int .i64 ((cr.kids.length : Int) - 1)] 3))
  have c0 := Q45.out.c0
  have hb6 : Below w3.heap.size w3 (((w3.alloc (.cells #[.int .u32 cr.owner, .int .u32 cr.a, .int .u32 cr.b, .slice A1 cr.vals.length m1, .slice A2 cr.kids.length m2] 59)).alloc (.cells #[.int .i64 ((cr.kids.length : Int) - 1)] 3)).alloc (.cells #[.int .i64 (kn : Int), .int .i64 0, .int .i64 0] 30)) := (((Below.refl _ w3).alloc (Nat.le_refl _) _).alloc (by simp) _).alloc (by simp; omega) _
  have hnx := C3.new ((w3.alloc (.cells #[.int .u32 cr.owner, .int .u32 cr.a, .int .u32 cr.b, .slice A1 cr.vals.length m1, .slice A2 cr.kids.length m2] 59)).alloc (.cells #[.int .i64 ((cr.kids.length : Int) - 1)] 3)) 30 (.int .i64 (kn : Int)) (.int .i64 0) (.int .i64 0)
  rw [show ((w3.alloc (.cells #[.int .u32 cr.owner, .int .u32 cr.a, .int .u32 cr.b, .slice A1 cr.vals.length m1, .slice A2 cr.kids.length m2] 59)).alloc (.cells #[.int .i64 ((cr.kids.length : Int) - 1)] 3)).heap.size = w3.heap.size + 1 + 1 by simp] at hnx
  go_wp2_with fail
  have hs6 : (((w3.alloc (.cells #[.int .u32 cr.owner, .int .u32 cr.a, .int .u32 cr.b, .slice A1 cr.vals.length m1, .slice A2 cr.kids.length m2] 59)).alloc (.cells #[.int .i64 ((cr.kids.length : Int) - 1)] 3)).alloc (.cells #[.int .i64 (kn : Int), .int .i64 0, .int .i64 0] 30)).heap.size = w3.heap.size + 1 + 1 + 1 := by simp
  have HFW := Lib.hid (Few.mk (w := w) (kn := kn) (t := t) (j := 0) (HA3.out.below hb6) (HB3.out.trans (hb6.mono HB3.out.size)) (Q4.out.below hb6) (Q6.out.below hb6) hnx (HRW.out.below hb6))
  generalize ((w3.alloc (.cells #[.int .u32 cr.owner, .int .u32 cr.a, .int .u32 cr.b, .slice A1 cr.vals.length m1, .slice A2 cr.kids.length m2] 59)).alloc (.cells #[.int .i64 ((cr.kids.length : Int) - 1)] 3)).alloc (.cells #[.int .i64 (kn : Int), .int .i64 0, .int .i64 0] 30) = w6 at HFW hs6 ⊢
  clear hb6 hnx c0 Q45 Q4 Q6 HA3 HB3 HRW
  obtain ⟨zn, hzn⟩ : ∃ z, z = w3.heap.size + 1 + 1 := ⟨_, rfl⟩
  rw [← hzn] at HFW ⊢
  obtain ⟨zr, hzr⟩ : ∃ z, z = w.heap.size + 1 := ⟨_, rfl⟩
  rw [← hzr] at HFW ⊢
  obtain ⟨zv, hzv⟩ : ∃ z, z = w.heap.size := ⟨_, rfl⟩
  rw [← hzv] at HFW ⊢
  have HZ := Lib.hid (show (zv ≠ zn ∧ zr ≠ zn ∧ zv ≠ zr) ∧ (w.heap.size ≤ zv ∧ w.heap.size ≤ zr ∧ w.heap.size ≤ zn) ∧ (∀ q, (Value.slice A2 cr.kids.length m2).ownBlock = some q → q ≠ zn) from ⟨by have := HV.out; omega, by have := HV.out; omega, fun q hq => by have := HKB.out q hq; omega⟩)
  have HNF := Lib.hid (show ∀ q, w.heap.size ≤ q → ¬ F q from fun q hq hf => by have := HF.out q hf; omega)
  have HK := Lib.hid hk
  have HLE := Lib.hid hlen
  clear hzn hzr hzv HV HKB hk hlen hlI hs6
  go_loopg [13, 35] cr.kids.length (fun c' _ iv wq => ∃ j : Nat, j + c' = cr.kids.length ∧ iv = .int .i64 j ∧ Few w wq b most M F zv zr zn kn v cr t j (.slice A2 cr.kids.length m2))
  case atStart => exact ⟨0, by omega, rfl, HFW.out⟩
  case round =>
    obtain ⟨j, hj, rfl, hw⟩ := hrel
    by_cases h1 : j < cr.kids.length
    · obtain rfl : j = 0 := by have := HLE.out; omega
      have hkt : cr.kids = [t] := by
        rcases HK.out with ⟨e, _⟩ | e
        · rw [e] at h1; simp at h1
        · exact e
      obtain ⟨g, o, c', e, _, hcell⟩ := hw.row.at (j := 0) (u := .int .i64 (t : Int)) (by rw [hkt]; rfl)
      simp only [Value.slice.injEq, true_and] at e
      obtain ⟨rfl, rfl⟩ := e
      rw [Nat.add_zero] at hcell
      obtain ⟨c0, c1, c2, f0, f1, f2⟩ := hw.nx.all
      have y1 : (0 : Int) < (cr.kids.length : Int) := by omega
      have HW := Lib.hid hw
      have HC := Lib.hid (And.intro hj h1)
      clear hw hkt hj
      go_wp2_with fail
      go_roundg 0
      case measure => have := HC.out; omega
      case rel =>
        have hk1 := Kp.one wr zn 2 (.int .i64 (t : Int))
        refine ⟨1, by have := HC.out; have := HLE.out; omega, by go_num, ?_⟩
        exact ⟨HW.out.ar.kp hk1 (fun q hq e => HNF.out zn HZ.out.2.1.2.2 (e ▸ hq)), below_kp HW.out.bel hk1 (fun q e => e ▸ HZ.out.2.1.2.2), HW.out.cv.other HZ.out.1.1 _, HW.out.res.other HZ.out.1.2.1 _, HW.out.nx.set2 _, hk1.rd HW.out.row (fun q hq => HZ.out.2.2 q hq)⟩
    · obtain rfl : j = cr.kids.length := by omega
      have ht : ((if cr.kids.length = 0 then 0 else t : Nat) : Int) = (t : Int) := by
        rcases HK.out with ⟨e, e0⟩ | e
        · rw [e, e0]; rfl
        · rw [e]; rfl
      have hnx := hw.nx
      rw [ht] at hnx
      have HX := Lib.hid hnx
      have HW := Lib.hid hw
      obtain ⟨c0, c1, c2, _⟩ := hnx.all
      clear hw hnx ht hj
      go_wp2_with fail
      have hk1 := vkeep ⟨kn, 0, t⟩ wr HW.out.ar (fun q => Nat.le_trans (HR.out q) (by decide))
      refine hk1.mono ?_
      clear hk1 c0 c1 c2
      rintro e w7 ⟨rfl, hs7⟩
      have nz : ∀ q, w.heap.size ≤ q → ¬ F q := HNF.out
      have hX7 := HX.out.kp hs7.kp (nz _ HZ.out.2.1.2.2)
      have hV7 := HW.out.cv.kp hs7.kp (nz _ HZ.out.2.1.1)
      have hR7 := HW.out.res.kp hs7.kp (nz _ HZ.out.2.1.2.1)
      have RN7 := Lib.hid ((Rn.mk HW.out.ar (Kp.of_below HW.out.bel F) (fun _ => .inl) : Rn w wr b most M F F).stp hs7)
      have HX7 := Lib.hid hX7
      have HV7 := Lib.hid hV7
      have HR7 := Lib.hid hR7
      have HNW := Lib.hid (show zn < wr.heap.size ∧ zv < wr.heap.size ∧ zr < wr.heap.size from ⟨HX.out.lt, HW.out.cv.lt, HW.out.res.lt⟩)
      have NZ7 := Lib.hid (show ∀ q, q = zn ∨ q = zv ∨ q = zr → ¬ Fn F wr w7 q ∧ q < w7.heap.size from fun q hq => ⟨fun hf => hf.elim (nz q (by rcases hq with e | e | e <;> (rw [e]; have := HZ.out.2.1; omega))) (fun hf => by have := HNW.out; have := hf.1; rcases hq with e | e | e <;> omega), by have := HNW.out; have := hs7.kp.size; rcases hq with e | e | e <;> omega⟩)
      clear hs7 hX7 hV7 hR7 HW HX
      by_cases h0 : ow = 0
      · have hd : (ow == 0) = true := by simpa using h0
        obtain ⟨c0, c1, c2, _⟩ := HX7.out.all
        obtain ⟨d0, d1, d2, g0, g1, g2⟩ := HR7.out.all
        go_wp2_with fail
        refine bodyPost_ret (v := .tuple #[vagg ⟨kn, 0, t⟩, .int .i64 0]) (by simp [results, Try.results52, go_sem, vagg, d0, d1, d2]) rfl ⟨rfl, (RN7.out.mine (G := fun g => g = zr) ((((Kp.refl (fun g => g = zr) w7).setCell (.inl rfl) _).setCell (.inl rfl) _).setCell (.inl rfl) _) (fun g e => e ▸ ⟨HZ.out.2.1.2.1, (NZ7.out zr (.inr (.inr rfl))).1⟩)).fin HF.out⟩
      · have hd : (ow == 0) = false := by simpa using h0
        obtain ⟨b0, b1, b2, _⟩ := HV7.out.all
        go_wp2_with fail
        refine (vdrop v w7 RN7.out.ar (fun q => by have h1 := keepC_rf (M := keepC M 0) (i := t) (j := q); have h2 := keepC_rf (M := M) (i := 0) (j := q); have h3 := HR.out q; omega)).mono ?_
        rintro e w8 ⟨rfl, Ma, Mb, hda, hdb, hs8⟩
        have hX8 := HX7.out.kp hs8.kp (NZ7.out zn (.inl rfl)).1
        have hR8 := HR7.out.kp hs8.kp (NZ7.out zr (.inr (.inr rfl))).1
        have RN8 := Lib.hid (RN7.out.stp hs8)
        have HD := Lib.hid (show ∃ Ma, Drops (keepC (keepC M 0) t) [v.root] Ma ∧ Drops Ma [v.tail] Mb from ⟨Ma, hda, hdb⟩)
        have NZ8 := Lib.hid (show ¬ Fn (Fn F wr w7) w7 w8 zr from fun hf => hf.elim (NZ7.out zr (.inr (.inr rfl))).1 (fun hf => by have := (NZ7.out zr (.inr (.inr rfl))).2; have := hf.1; omega))
        clear hda hdb hs8 b0 b1 b2
        obtain ⟨c0, c1, c2, _⟩ := hX8.all
        obtain ⟨d0, d1, d2, g0, g1, g2⟩ := hR8.all
        go_wp2_with fail
        refine bodyPost_ret (v := .tuple #[vagg ⟨kn, 0, t⟩, .int .i64 0]) (by simp [results, Try.results52, go_sem, vagg, d0, d1, d2]) rfl ⟨rfl, Mb, HD.out, (RN8.out.mine (G := fun g => g = zr) ((((Kp.refl (fun g => g = zr) w8).setCell (.inl rfl) _).setCell (.inl rfl) _).setCell (.inl rfl) _) (fun g e => e ▸ ⟨HZ.out.2.1.2.1, NZ8.out⟩)).fin HF.out⟩
end

end Go.Proofs.Ytgkhbnkbhcginaa

namespace Go.Proofs.Ytgkhbnkbhcginaa
open Go.RowKit

/-- What stands while the trunk is changed. -/
structure Many (W : World) (zv zr zc zl lf : Nat) (v : Vc) (cr : Hc) (vv kk : Value) : Prop where
  cv : C3 W zv 30 (.int .i64 (v.n : Int)) (.int .i64 (v.root : Int)) (.int .i64 (v.tail : Int))
  res : C3 W zr 30 (.int .i64 0) (.int .i64 0) (.int .i64 0)
  box : C5 W zc 59 (.int .u32 cr.owner) (.int .u32 cr.a) (.int .u32 cr.b) vv kk
  lf : W.cell? ⟨zl, 0, none⟩ = some (.int .i64 (lf : Int))
  row : Rd W kk cr.kids.length (nums (ns cr.kids))
/-- Its blocks. -/
def IsM (zv zr zc zl : Nat) (kk : Value) (q : Nat) : Prop := q = zv ∨ q = zr ∨ q = zc ∨ q = zl ∨ kk.ownBlock = some q
section
variable {W W' : World} {zv zr zc zl lf : Nat} {v : Vc} {cr : Hc} {vv kk : Value} {G : Nat → Prop}
theorem Many.kp (h : Many W zv zr zc zl lf v cr vv kk) (hk : Kp G W W') (hG : ∀ q, IsM zv zr zc zl kk q → ¬ G q) : Many W' zv zr zc zl lf v cr vv kk :=
  ⟨h.cv.kp hk (hG _ (.inl rfl)), h.res.kp hk (hG _ (.inr (.inl rfl))), h.box.kp hk (hG _ (.inr (.inr (.inl rfl)))), hk.cell h.lf (hG _ (.inr (.inr (.inr (.inl rfl))))), hk.rd h.row (fun q hq => hG q (.inr (.inr (.inr (.inr hq)))))⟩
theorem Many.below (h : Many W zv zr zc zl lf v cr vv kk) (hb : Below W.heap.size W W') : Many W' zv zr zc zl lf v cr vv kk := h.kp (Kp.of_below hb (fun _ => False)) (fun _ _ h => h)
end

section
variable {b most : Nat} {M : Cells} {F : Nat → Prop}
set_option maxRecDepth 100000 in
set_option maxHeartbeats 1600000 in
theorem vpopTail_many (v : Vc) (kn lf : Nat) (ow : Int) (cr : Hc) (t : Nat) (w : World) (h : Ar w b most M F) (hcr : contC M v.root = cr) (hvn : v.n = kn + 1) (hkb : kn ≤ 1024) (hlf : cr.kids.length = lf + 1) (hlf1 : 1 ≤ lf) (hlf2 : lf ≤ 64) (hv0 : cr.vals = []) (ht : cr.kids[lf]? = some t) (hgd : (ns (cr.kids.take lf)).all (goodB M) = true) (hroom : live (most + 1) M + freshN M ow [v.root] ≤ most) (hr : ∀ j, rf (M j) ≤ 4611686018420000000)
    (hf : ∀ (args : Array Value) (W : World), (callFunc 70 args).run Try.prog W = .ok (.enter 70 args) W) :
    Calls Try.prog 52 #[ap b, vagg v, .int .u32 ow] w fun e w' => ∃ r M1 M', e = .returned (.tuple #[vagg ⟨kn, r, t⟩, .int .i64 0]) ∧ Renewed (begun M v ow) v.root ow { cr with kids := cr.kids.take lf } most r M1 ∧ Drops M1 [v.tail] M' ∧ Stp w w' b most M' F := by
  have hkI : (v.n : Int) - 1 = (kn : Int) := by omega
  have hlI : (cr.kids.length : Int) - 1 = (lf : Int) := by omega
  have hl1 : ¬ (lf : Int) < 1 := by omega
  have HF := Lib.hid (show ∀ q, F q → q < w.heap.size from fun q hq => h.lt hq)
  have HR := Lib.hid hr
  have e1 : (w.alloc (.cells #[.int .i64 (v.n : Int), .int .i64 (v.root : Int), .int .i64 (v.tail : Int)] 30)).heap.size = w.heap.size + 1 := by simp
  have q4 := (C3.new w 30 (.int .i64 (v.n : Int)) (.int .i64 (v.root : Int)) (.int .i64 (v.tail : Int))).alloc (.cells #[.int .i64 0, .int .i64 0, .int .i64 0] 30)
  have q6 := C3.new (w.alloc (.cells #[.int .i64 (v.n : Int), .int .i64 (v.root : Int), .int .i64 (v.tail : Int)] 30)) 30 (.int .i64 0) (.int .i64 0) (.int .i64 0)
  rw [e1] at q6
  have hb2 : Below w.heap.size w ((w.alloc (.cells #[.int .i64 (v.n : Int), .int .i64 (v.root : Int), .int .i64 (v.tail : Int)] 30)).alloc (.cells #[.int .i64 0, .int .i64 0, .int .i64 0] 30)) := ((Below.refl _ w).alloc (Nat.le_refl _) _).alloc (by simp) _
  have HA2 := Lib.hid (h.below hb2)
  have HB2 := Lib.hid hb2
  have HC := Lib.hid (And.intro hlf (And.intro hlf1 (And.intro hlf2 (And.intro hv0 (And.intro ht hgd)))))
  have HCR := Lib.hid hcr
  clear h hr e1 hb2 hvn hlf hlf1 ht hgd hv0
  go_enter Try.func52, Try.ntmps52
  go_wp2_with fail
  generalize (w.alloc (.cells #[.int .i64 (v.n : Int), .int .i64 (v.root : Int), .int .i64 (v.tail : Int)] 30)).alloc (.cells #[.int .i64 0, .int .i64 0, .int .i64 0] 30) = w2 at q4 q6 HA2 HB2 ⊢
  have hget := vget v.root w2 HA2.out
  rw [HCR.out] at hget
  refine hget.mono ?_
  rintro e w3 ⟨vv, kk, rfl, o1, o2, hb3⟩
  clear hget hcr
  obtain ⟨A1, m1, rfl, _⟩ := (Rd.of_own o1).form
  obtain ⟨A2, m2, rfl, _⟩ := (Rd.of_own o2).form
  have HV := Lib.hid (show (w.heap.size < w2.heap.size ∧ w.heap.size + 1 < w2.heap.size) ∧ w2.heap.size ≤ w3.heap.size from ⟨⟨q4.lt, q6.lt⟩, hb3.size⟩)
  have Q4 := Lib.hid (q4.below hb3)
  have Q6 := Lib.hid (q6.below hb3)
  have HA3 := Lib.hid (HA2.out.below hb3)
  have HB3 := Lib.hid (HB2.out.trans (hb3.mono HB2.out.size))
  have HRW := Lib.hid (Rd.of_own o2)
  have HKO := Lib.hid (show ∀ q, (Value.slice A2 cr.kids.length m2).ownBlock = some q → w.heap.size ≤ q from fun q hq => by have := (o2.lt q hq).1; have := HB2.out.size; omega)
  have HKB := Lib.hid (show ∀ q, (Value.slice A2 cr.kids.length m2).ownBlock = some q → q < w3.heap.size from fun q hq => (o2.lt q hq).2)
  clear q4 q6 o1 o2 hb3 HA2 HB2
  have hb5 : Below w3.heap.size w3 ((w3.alloc (.cells #[.int .u32 cr.owner, .int .u32 cr.a, .int .u32 cr.b, .slice A1 cr.vals.length m1, .slice A2 cr.kids.length m2] 59)).alloc (.cells #[.int .i64 (lf : Int)] 3)) := ((Below.refl _ w3).alloc (Nat.le_refl _) _).alloc (by simp) _
  have q8 := (C5.new w3 59 (.int .u32 cr.owner) (.int .u32 cr.a) (.int .u32 cr.b) (.slice A1 cr.vals.length m1) (.slice A2 cr.kids.length m2)).alloc (.cells #[.int .i64 (lf : Int)] 3)
  have q10 := cell1_new (w3.alloc (.cells #[.int .u32 cr.owner, .int .u32 cr.a, .int .u32 cr.b, .slice A1 cr.vals.length m1, .slice A2 cr.kids.length m2] 59)) (.int .i64 (lf : Int)) 3 (w3.heap.size + 1) (by simp)
  have hs5 : ((w3.alloc (.cells #[.int .u32 cr.owner, .int .u32 cr.a, .int .u32 cr.b, .slice A1 cr.vals.length m1, .slice A2 cr.kids.length m2] 59)).alloc (.cells #[.int .i64 (lf : Int)] 3)).heap.size = w3.heap.size + 1 + 1 := by simp
  have HM5 := Lib.hid (Many.mk (Q4.out.below hb5) (Q6.out.below hb5) q8 q10 (HRW.out.below hb5))
  have HA5 := Lib.hid (HA3.out.below hb5)
  have HB5 := Lib.hid (HB3.out.trans (hb5.mono HB3.out.size))
  clear hb5 q8 q10 Q4 Q6 HRW HA3 HB3
  go_wp2_with fail
  generalize (w3.alloc (.cells #[.int .u32 cr.owner, .int .u32 cr.a, .int .u32 cr.b, .slice A1 cr.vals.length m1, .slice A2 cr.kids.length m2] 59)).alloc (.cells #[.int .i64 (lf : Int)] 3) = w5 at HM5 HA5 HB5 hs5 ⊢
  obtain ⟨zl, hzl⟩ : ∃ z, z = w3.heap.size + 1 := ⟨_, rfl⟩
  rw [← hzl] at HM5 ⊢
  obtain ⟨zc, hzc⟩ : ∃ z, z = w3.heap.size := ⟨_, rfl⟩
  rw [← hzc] at HM5 ⊢
  obtain ⟨zr, hzr⟩ : ∃ z, z = w.heap.size + 1 := ⟨_, rfl⟩
  rw [← hzr] at HM5 ⊢
  obtain ⟨zv, hzv⟩ : ∃ z, z = w.heap.size := ⟨_, rfl⟩
  rw [← hzv] at HM5 ⊢
  have HZ := Lib.hid (show (w.heap.size ≤ zv ∧ w.heap.size ≤ zr ∧ w.heap.size ≤ zc ∧ w.heap.size ≤ zl) ∧ (∀ q, IsM zv zr zc zl (.slice A2 cr.kids.length m2) q → q < w5.heap.size) from ⟨by have := HV.out; omega, fun q hq => by
    have h1 := HV.out
    rcases hq with e | e | e | e | e
    · omega
    · omega
    · omega
    · omega
    · have := HKB.out q e; omega⟩)
  have NZ := Lib.hid (show ∀ q, IsM zv zr zc zl (.slice A2 cr.kids.length m2) q → ¬ F q from fun q hq hf => by
    have h1 := HF.out q hf
    rcases hq with e | e | e | e | e
    · have := HZ.out.1; omega
    · have := HZ.out.1; omega
    · have := HZ.out.1; omega
    · have := HZ.out.1; omega
    · have := HKO.out q e; omega)
  clear hzl hzc hzr hzv HV HKB hs5
  have hbX : Below w5.heap.size w5 ((w5.alloc (.cells #[.int .i64 (v.root : Int)] 3)).drew) := ((Below.refl _ w5).alloc (Nat.le_refl _) _).drew
  have HLX := Lib.hid (Rd.one' w5 (.int .i64 (v.root : Int)) 3 w5.heap.size rfl).drew
  have HAX := Lib.hid (HA5.out.below hbX)
  have HBX := Lib.hid (HB5.out.trans (hbX.mono HB5.out.size))
  have HMX := Lib.hid (HM5.out.below hbX)
  have HSX := Lib.hid hbX.size
  clear hbX hl1
  have r0 : ∀ W', Many W' zv zr zc zl lf v cr (.slice A1 cr.vals.length m1) (.slice A2 cr.kids.length m2) → W'.cell? ⟨zv, 0, none⟩ = some (.int .i64 (v.n : Int)) := fun W' h => h.cv.c0
  have r1 : ∀ W', Many W' zv zr zc zl lf v cr (.slice A1 cr.vals.length m1) (.slice A2 cr.kids.length m2) → W'.cell? ⟨zv, 1, none⟩ = some (.int .i64 (v.root : Int)) := fun W' h => h.cv.c1
  have r2 : ∀ W', Many W' zv zr zc zl lf v cr (.slice A1 cr.vals.length m1) (.slice A2 cr.kids.length m2) → W'.cell? ⟨zv, 2, none⟩ = some (.int .i64 (v.tail : Int)) := fun W' h => h.cv.c2
  refine wp_region_noPanic ?_
  go_region_held (fun W' => Many W' zv zr zc zl lf v cr (.slice A1 cr.vals.length m1) (.slice A2 cr.kids.length m2))
    (first | with_reducible assumption | with_reducible exact HM5.out.below (Below.refl _ _).drew | with_reducible exact HM5.out | with_reducible exact HM6.out | with_reducible exact HM7.out | with_reducible exact HMX.out | (rename Many _ _ _ _ _ _ _ _ _ _ => hH; with_reducible exact hH.below ((Below.refl _ _).alloc (Nat.le_refl _) _)))
    (first
      | (go_at_call 42
         (with_reducible_and_instances refine (vfresh ow [v.root] _ _ HAX.out HLX.out (by show 1 ≤ 4194304; decide)).mono ?_)
         rintro e w6 ⟨rfl, hb6⟩
         have HA6 := Lib.hid (HAX.out.below hb6)
         have HB6 := Lib.hid (HBX.out.trans (hb6.mono HBX.out.size))
         have HM6 := Lib.hid (HMX.out.below hb6)
         have HS6 := Lib.hid (show w5.heap.size ≤ w6.heap.size from Nat.le_trans HSX.out hb6.size)
         clear hb6)
      | (go_at_call 43
         (with_reducible_and_instances refine (vbegin_ok v ow (freshN M ow [v.root]) _ HA6.out hroom (fun j => Nat.le_trans (HR.out j) (by decide))).mono ?_)
         rintro e w7 ⟨rfl, hs7⟩
         have HS7 := Lib.hid hs7
         have HM7 := Lib.hid (HM6.out.kp hs7.kp NZ.out)
         clear hs7))
  refine NoPanic.normal ?_
  clear r0 r1 r2 HMX HAX HBX HLX HSX HM6
  have NB := Lib.hid (show ∀ q, IsM zv zr zc zl (.slice A2 cr.kids.length m2) q → ¬ Fn F w6 w7 q from fun q hq hf => hf.elim (NZ.out q hq) (fun hf => by have := HZ.out.2 q hq; have := HS6.out; have := hf.1; omega))
  have RN7 := Lib.hid ((Rn.mk HA6.out (Kp.of_below HB6.out F) (fun _ => .inl) : Rn w w6 b most M F F).stp HS7.out)
  have hcb : contC (begun M v ow) v.root = cr := begun_cont.trans HCR.out
  have hch := chg_kidcut lf zl w7 HM7.out.lf (NB.out _ (.inr (.inr (.inr (.inl rfl))))) cr (by rw [HC.out.1]; omega) (fun e => by have := HC.out.1; rw [e] at this; simp at this)
  have hrm : aloneB (begun M v ow) v.root ow = false → live (most + 1) (begun M v ow) < most := fun e => by
    rw [begun_alone] at e
    rw [begun_live]
    have h1 : freshN M ow [v.root] = 1 := by
      show (if aloneB M v.root ow = true then freshN M ow [] else ([] : List Nat).length + 1) = 1
      rw [if_neg (by rw [e]; simp)]
      rfl
    omega
  have hren0 := vrenew (M := begun M v ow) 70 (.pointer (some ⟨zl, 0, none⟩)) (fun c => { c with kids := c.kids.take lf }) v.root ow w7 HS7.out.ar hf (by rw [hcb]; exact hch) hrm (fun j => by
      rw [hcb, HC.out.1]
      have h1 := begun_rf (M := M) (v := v) (ow := ow) (j := j)
      have h2 := HR.out j
      omega) (by rw [hcb, HC.out.1]; omega) (by rw [hcb]; show cr.vals.length ≤ _; rw [HC.out.2.2.2.1]; exact Nat.zero_le _) (by rw [hcb]; show (cr.kids.take lf).length ≤ _; rw [List.length_take]; omega)
      (by rw [hcb]; show (ns (cr.kids.take lf)).all _ = true; rw [← HC.out.2.2.2.2.2]; congr 1; funext q; exact begun_good q)
  rw [hcb] at hren0
  have HREN := Lib.hid hren0
  clear hcb hch hrm hren0
  obtain ⟨c0, c1, c2, _⟩ := HM7.out.cv.all
  go_wp2_with fail
  refine HREN.out.mono ?_
  rintro e w8 ⟨r, M1, rfl, hren, hs8⟩
  have HM8 := Lib.hid (HM7.out.kp hs8.kp NB.out)
  have NB8 := Lib.hid (show ∀ q, IsM zv zr zc zl (.slice A2 cr.kids.length m2) q → ¬ Fn (Fn F w6 w7) w7 w8 q from fun q hq hf => hf.elim (NB.out q hq) (fun hf => by have := HZ.out.2 q hq; have := HS6.out; have := HS7.out.kp.size; have := hf.1; omega))
  have RN8 := Lib.hid (RN7.out.stp hs8)
  have HRD := Lib.hid hren
  have HS8 := Lib.hid hs8.kp.size
  have hr8 : ∀ q, rf (M1 q) ≤ 4611686018427387904 := fun q => by
    have h1 := hren.rf_le q
    have h2 := begun_rf (M := M) (v := v) (ow := ow) (j := q)
    have h3 := HR.out q
    have h4 : (contC (begun M v ow) v.root).kids.length ≤ 65 := by rw [begun_cont, HCR.out, HC.out.1]; omega
    omega
  clear hs8 hren HREN c0 c1 c2
  obtain ⟨c0, c1, c2, _⟩ := HM8.out.cv.all
  go_wp2_with fail
  refine (vdrop1 v.tail w8 RN8.out.ar hr8).mono ?_
  rintro e w9 ⟨⟨zz, rfl⟩, M', hd, hs9⟩
  have HM9 := Lib.hid (HM8.out.kp hs9.kp NB8.out)
  have NB9 := Lib.hid (show ∀ q, IsM zv zr zc zl (.slice A2 cr.kids.length m2) q → ¬ Fn (Fn (Fn F w6 w7) w7 w8) w8 w9 q from fun q hq hf => hf.elim (NB8.out q hq) (fun hf => by have := HZ.out.2 q hq; have := HS6.out; have := HS7.out.kp.size; have := HS8.out; have := hf.1; omega))
  have RN9 := Lib.hid (RN8.out.stp hs9)
  have HD := Lib.hid hd
  clear hd hs9 hr8 c0 c1 c2 HM8 HM7 RN8 RN7
  obtain ⟨g, o, c', e, _, hkc⟩ := HM9.out.row.at (j := lf) (u := .int .i64 (t : Int)) (by rw [nums_at]; unfold ns; rw [List.getElem?_map, HC.out.2.2.2.2.1]; rfl)
  simp only [Value.slice.injEq, true_and] at e
  obtain ⟨rfl, rfl⟩ := e
  obtain ⟨c0, c1, c2, _⟩ := HM9.out.cv.all
  obtain ⟨d0, d1, d2, g0, g1, g2⟩ := HM9.out.res.all
  have b4 := HM9.out.box.c4
  have hlc := HM9.out.lf
  have y1 : (0 : Int) ≤ (lf : Int) := by omega
  have y2 : (lf : Int) < (cr.kids.length : Int) := by have := HC.out.1; omega
  clear hlI
  go_wp2_with fail
  go_still_tail 10, (by kernel_rfl)
  change wpList _ _ _ _ _ w9.drew
  have hbd : Below w9.heap.size w9 w9.drew := (Below.refl _ w9).drew
  have HM10 := Lib.hid (HM9.out.below hbd)
  have RN10 := Lib.hid (RN9.out.mine (Kp.of_below hbd (fun _ => False)) (fun _ h => h.elim))
  clear hbd c0 c1 c2 d0 d1 d2 g0 g1 g2 b4 hlc hkc y1 y2 RN9
  generalize w9.drew = w10 at HM10 RN10 ⊢
  obtain ⟨d0, d1, d2, g0, g1, g2⟩ := HM10.out.res.all
  go_wp2_with fail
  refine bodyPost_ret (v := .tuple #[vagg ⟨kn, r, t⟩, .int .i64 0]) (by simp [results, Try.results52, go_sem, vagg, d0, d1, d2]) rfl ⟨r, M1, M', rfl, HRD.out, HD.out, (RN10.out.mine (G := fun g => g = zr) ((((Kp.refl (fun g => g = zr) w10).setCell (.inl rfl) _).setCell (.inl rfl) _).setCell (.inl rfl) _) (fun g e => e ▸ ⟨HZ.out.1.2.1, NB9.out _ (.inr (.inl rfl))⟩)).fin HF.out⟩
end

end Go.Proofs.Ytgkhbnkbhcginaa

namespace Go.Proofs.Ytgkhbnkbhcginaa
open Go.RowKit

section
variable {b most : Nat} {M : Cells} {F : Nat → Prop}
set_option maxRecDepth 100000 in
set_option maxHeartbeats 1600000 in
theorem vPop_zero (v : Vc) (l : Vs) (ow : Int) (Q : Vc → Cells → Prop) (w : World) (h : Ar w b most M F) (hv : VecIs M v l) (hl : l ≠ []) (hs : l.length % 32 = 1)
    (hpt : ∀ W, Ar W b most M F → Calls Try.prog 52 #[ap b, vagg v, .int .u32 ow] W fun e W' => ∃ y M', e = .returned (.tuple #[vagg y, .int .i64 0]) ∧ Q y M' ∧ Stp W W' b most M' F) :
    Calls Try.prog 18 #[ap b, vagg v, .int .u32 ow] w fun e w' => ∃ y M', e = .returned (.tuple #[vagg y, .int .i64 0]) ∧ Q y M' ∧ Stp w w' b most M' F := by
  have HF := Lib.hid (show ∀ q, F q → q < w.heap.size from fun q hq => h.lt hq)
  have HA := Lib.hid h
  have HV := Lib.hid hv
  have HPT := Lib.hid hpt
  have hll : 0 < l.length := List.length_pos_iff.2 hl
  have hn := hv.n
  have hle := hv.le
  obtain ⟨k, hk⟩ : ∃ k, v.n = k + 1 := ⟨v.n - 1, by omega⟩
  have hk1 : v.n - 1 = k := by omega
  have hkI : (v.n : Int) - 1 = (k : Int) := by omega
  have hk32 : ((k % 32 : Nat) : Int) = 0 := by omega
  have hsl := Lib.hid (show ∀ W, Calls Try.prog 41 #[.int .i64 (k : Int)] W fun e w' => e = .returned (.int .i64 ((k % 32 : Nat) : Int)) ∧ W = w' from fun W => vslot k W (by omega))
  obtain ⟨x, hx⟩ : ∃ x, l[k]? = some x := ⟨_, List.getElem?_eq_getElem (by omega : k < l.length)⟩
  have HX := Lib.hid hx
  have hvn : v.n ≤ 1024 := by omega
  have HK := Lib.hid (And.intro hk (show v.n = l.length ∧ l.length ≤ 1024 ∧ l ≠ [] ∧ l.length % 32 = 1 from ⟨hn, hle, hl, hs⟩))
  clear h hv hpt hx hn hk1 hk
  have e1 : (w.alloc (.cells #[.int .i64 (v.n : Int), .int .i64 (v.root : Int), .int .i64 (v.tail : Int)] 30)).heap.size = w.heap.size + 1 := by simp
  have e2 : ((w.alloc (.cells #[.int .i64 (v.n : Int), .int .i64 (v.root : Int), .int .i64 (v.tail : Int)] 30)).alloc (.cells #[.int .i64 0, .int .i64 0, .int .i64 0] 30)).heap.size = w.heap.size + 1 + 1 := by simp
  have q5 := ((C3.new w 30 (.int .i64 (v.n : Int)) (.int .i64 (v.root : Int)) (.int .i64 (v.tail : Int))).alloc (.cells #[.int .i64 0, .int .i64 0, .int .i64 0] 30)).alloc (.cells #[.int .i64 (k : Int)] 3)
  have q8 := (C3.new (w.alloc (.cells #[.int .i64 (v.n : Int), .int .i64 (v.root : Int), .int .i64 (v.tail : Int)] 30)) 30 (.int .i64 0) (.int .i64 0) (.int .i64 0)).alloc (.cells #[.int .i64 (k : Int)] 3)
  rw [e1] at q8
  have hbx : (((w.alloc (.cells #[.int .i64 (v.n : Int), .int .i64 (v.root : Int), .int .i64 (v.tail : Int)] 30)).alloc (.cells #[.int .i64 0, .int .i64 0, .int .i64 0] 30)).alloc (.cells #[.int .i64 (k : Int)] 3)).cell? ⟨w.heap.size + 1 + 1, 0, none⟩ = some (.int .i64 (k : Int)) := by
    have e := heap_alloc_new ((w.alloc (.cells #[.int .i64 (v.n : Int), .int .i64 (v.root : Int), .int .i64 (v.tail : Int)] 30)).alloc (.cells #[.int .i64 0, .int .i64 0, .int .i64 0] 30)) (.cells #[.int .i64 (k : Int)] 3)
    rw [e2] at e
    simpa using cell_of_row _ _ 0 _ _ (0, 0) e
  have hb3 : Below w.heap.size w (((w.alloc (.cells #[.int .i64 (v.n : Int), .int .i64 (v.root : Int), .int .i64 (v.tail : Int)] 30)).alloc (.cells #[.int .i64 0, .int .i64 0, .int .i64 0] 30)).alloc (.cells #[.int .i64 (k : Int)] 3)) := (((Below.refl _ w).alloc (Nat.le_refl _) _).alloc (by simp) _).alloc (by simp; omega) _
  have hs3 : (((w.alloc (.cells #[.int .i64 (v.n : Int), .int .i64 (v.root : Int), .int .i64 (v.tail : Int)] 30)).alloc (.cells #[.int .i64 0, .int .i64 0, .int .i64 0] 30)).alloc (.cells #[.int .i64 (k : Int)] 3)).heap.size = w.heap.size + 1 + 1 + 1 := by simp
  have HQ := Lib.hid (And.intro q5 (And.intro q8 hbx))
  have HB3 := Lib.hid hb3
  have HS3 := Lib.hid hs3
  have HA3 := Lib.hid (HA.out.below hb3)
  clear q5 q8 hbx e1 e2 hb3 hs3 HA
  go_enter Try.func18, Try.ntmps18
  go_wp2_with fail
  generalize ((w.alloc (.cells #[.int .i64 (v.n : Int), .int .i64 (v.root : Int), .int .i64 (v.tail : Int)] 30)).alloc (.cells #[.int .i64 0, .int .i64 0, .int .i64 0] 30)).alloc (.cells #[.int .i64 (k : Int)] 3) = w3 at HQ HB3 HS3 HA3 ⊢
  refine (vGet v l k x w3 HA3.out HV.out HX.out).mono ?_
  rintro e w4 ⟨rfl, hb4⟩
  obtain ⟨zl, hzl⟩ : ∃ z, z = w.heap.size + 1 + 1 := ⟨_, rfl⟩
  rw [← hzl] at HQ ⊢
  obtain ⟨zr, hzr⟩ : ∃ z, z = w.heap.size + 1 := ⟨_, rfl⟩
  rw [← hzr] at HQ ⊢
  obtain ⟨zv, hzv⟩ : ∃ z, z = w.heap.size := ⟨_, rfl⟩
  rw [← hzv] at HQ ⊢
  have hs4 := hb4.size
  have HZ := Lib.hid (show (w.heap.size ≤ zv ∧ zv < w4.heap.size) ∧ (w.heap.size ≤ zr ∧ zr < w4.heap.size) ∧ (w.heap.size ≤ zl ∧ zl < w4.heap.size) from by have := HS3.out; omega)
  have nvr : ¬ zv = zr := by omega
  have nrv : ¬ zr = zv := by omega
  have NLV := Lib.hid (show ¬ zl = zv from by omega)
  have HB4 := Lib.hid (HB3.out.trans (hb4.mono HB3.out.size))
  have HA4 := Lib.hid (HA3.out.below hb4)
  have q5 := HQ.out.1.below hb4
  have q8 := HQ.out.2.1.below hb4
  have hlc : w4.cell? ⟨zl, 0, none⟩ = some (.int .i64 (k : Int)) := (hb4.cell (p := ⟨zl, 0, none⟩) (by have := HS3.out; show zl < _; omega)).trans HQ.out.2.2
  have Q5 := Lib.hid q5
  have Q8 := Lib.hid q8
  have hzll : zl < w4.heap.size := HZ.out.2.2.2
  have hzvl : zv < w4.heap.size := HZ.out.1.2
  clear hzl hzr hzv HQ HB3 HS3 HA3 hb4 hs4
  obtain ⟨c0, c1, c2, f0, f1, f2⟩ := q5.all
  clear q5 q8
  have hsl0 := Lib.hid (show ∀ W, Calls Try.prog 41 #[.int .i64 (k : Int)] W fun e w' => e = .returned (.int .i64 0) ∧ W = w' from fun W => by have := hsl.out W; rw [hk32] at this; exact this)
  clear hsl hk32
  go_wp2_with (go_at_call 41; refine (hsl0.out _).mono ?_; rintro e w' ⟨rfl, rfl⟩)
  have hb5 : Below w4.heap.size w4 (w4.alloc (.cells #[.int .u8 x.1, .int .i64 x.2.1, .string x.2.2] 38)) := (Below.refl _ w4).alloc (Nat.le_refl _) _
  have HA5 := Lib.hid (HA4.out.below hb5)
  have HB5 := Lib.hid (HB4.out.trans (hb5.mono HB4.out.size))
  have Q85 := Lib.hid (Q8.out.below hb5)
  have HS5 := Lib.hid hb5.size
  clear hb5 HA4 HB4 Q5 Q8 hlc c0 c1 c2 f0 f1 f2
  refine (HPT.out _ HA5.out).mono ?_
  generalize w4.alloc (.cells #[.int .u8 x.1, .int .i64 x.2.1, .string x.2.2] 38) = w5 at HA5 HB5 Q85 HS5 ⊢
  rintro e w6 ⟨y, M', rfl, hQ, hs6⟩
  have nF : ¬ F zr := fun hf' => by have := HF.out zr hf'; have := HZ.out.2.1.1; omega
  have q8 := Q85.out.kp hs6.kp nF
  have RN6 := Lib.hid ((Rn.mk HA5.out (Kp.of_below HB5.out F) (fun _ => .inl) : Rn w w5 b most M F F).stp hs6)
  have NR := Lib.hid (show ¬ Fn F w5 w6 zr from fun hf' => hf'.elim nF (fun hf' => by have := HZ.out.2.1.2; have := HS5.out; have := hf'.1; omega))
  have HQQ := Lib.hid hQ
  clear hs6 hQ nF
  obtain ⟨d0, d1, d2, g0, g1, g2⟩ := q8.all
  go_wp2_with fail
  refine bodyPost_ret (v := .tuple #[vagg y, .int .i64 0]) (by simp [results, Try.results18, go_sem, vagg, d0, d1, d2]) rfl ⟨y, M', rfl, HQQ.out, (RN6.out.mine (G := fun g => g = zr) ((((Kp.refl (fun g => g = zr) w6).setCell (.inl rfl) _).setCell (.inl rfl) _).setCell (.inl rfl) _) (fun g e => e ▸ ⟨HZ.out.2.1.1, NR.out⟩)).fin HF.out⟩
end

end Go.Proofs.Ytgkhbnkbhcginaa

namespace Go.Proofs.Ytgkhbnkbhcginaa
open Go.RowKit

section
variable {b most : Nat} {M : Cells} {F : Nat → Prop}
set_option maxRecDepth 100000 in
set_option maxHeartbeats 1600000 in
theorem vPop_tail (v : Vc) (l : Vs) (ow : Int) (w : World) (h : Ar w b most M F) (hv : VecIs M v l) (hl : l ≠ []) (hs : l.length % 32 ≠ 1) (hroom : live (most + 1) M + freshN M ow [v.tail] ≤ most) (hr : ∀ j, rf (M j) ≤ 4611686018420000000) (hf : ∀ (args : Array Value) (W : World), (callFunc 53 args).run Try.prog W = .ok (.enter 53 args) W) :
    Calls Try.prog 18 #[ap b, vagg v, .int .u32 ow] w fun e w' => ∃ n M', e = .returned (.tuple #[vagg ⟨v.n - 1, v.root, n⟩, .int .i64 0]) ∧ Renewed (begun M v ow) v.tail ow { contC M v.tail with vals := (contC M v.tail).vals.take ((v.n - 1) % 32) } most n M' ∧ Stp w w' b most M' F := by
  have HF := Lib.hid (show ∀ q, F q → q < w.heap.size from fun q hq => h.lt hq)
  have HA := Lib.hid h
  have HV := Lib.hid hv
  have HR := Lib.hid hr
  have hll : 0 < l.length := List.length_pos_iff.2 hl
  have hn := hv.n
  have hle := hv.le
  obtain ⟨k, hk⟩ : ∃ k, v.n = k + 1 := ⟨v.n - 1, by omega⟩
  have hk1 : v.n - 1 = k := by omega
  have hkI : (v.n : Int) - 1 = (k : Int) := by omega
  have hk32 : ¬ ((k % 32 : Nat) : Int) = 0 := by omega
  have hsl := Lib.hid (show ∀ W, Calls Try.prog 41 #[.int .i64 (k : Int)] W fun e w' => e = .returned (.int .i64 ((k % 32 : Nat) : Int)) ∧ W = w' from fun W => vslot k W (by omega))
  obtain ⟨x, hx⟩ : ∃ x, l[k]? = some x := ⟨_, List.getElem?_eq_getElem (by omega : k < l.length)⟩
  have HX := Lib.hid hx
  rw [hk1]
  have hvn : v.n ≤ 1024 := by omega
  have HK := Lib.hid (And.intro hk (show v.n = l.length ∧ l.length ≤ 1024 ∧ l ≠ [] ∧ l.length % 32 ≠ 1 from ⟨hn, hle, hl, hs⟩))
  clear h hv hr hx hn hk1 hk
  have e1 : (w.alloc (.cells #[.int .i64 (v.n : Int), .int .i64 (v.root : Int), .int .i64 (v.tail : Int)] 30)).heap.size = w.heap.size + 1 := by simp
  have e2 : ((w.alloc (.cells #[.int .i64 (v.n : Int), .int .i64 (v.root : Int), .int .i64 (v.tail : Int)] 30)).alloc (.cells #[.int .i64 0, .int .i64 0, .int .i64 0] 30)).heap.size = w.heap.size + 1 + 1 := by simp
  have q5 := ((C3.new w 30 (.int .i64 (v.n : Int)) (.int .i64 (v.root : Int)) (.int .i64 (v.tail : Int))).alloc (.cells #[.int .i64 0, .int .i64 0, .int .i64 0] 30)).alloc (.cells #[.int .i64 (k : Int)] 3)
  have q8 := (C3.new (w.alloc (.cells #[.int .i64 (v.n : Int), .int .i64 (v.root : Int), .int .i64 (v.tail : Int)] 30)) 30 (.int .i64 0) (.int .i64 0) (.int .i64 0)).alloc (.cells #[.int .i64 (k : Int)] 3)
  rw [e1] at q8
  have hbx : (((w.alloc (.cells #[.int .i64 (v.n : Int), .int .i64 (v.root : Int), .int .i64 (v.tail : Int)] 30)).alloc (.cells #[.int .i64 0, .int .i64 0, .int .i64 0] 30)).alloc (.cells #[.int .i64 (k : Int)] 3)).cell? ⟨w.heap.size + 1 + 1, 0, none⟩ = some (.int .i64 (k : Int)) := by
    have e := heap_alloc_new ((w.alloc (.cells #[.int .i64 (v.n : Int), .int .i64 (v.root : Int), .int .i64 (v.tail : Int)] 30)).alloc (.cells #[.int .i64 0, .int .i64 0, .int .i64 0] 30)) (.cells #[.int .i64 (k : Int)] 3)
    rw [e2] at e
    simpa using cell_of_row _ _ 0 _ _ (0, 0) e
  have hb3 : Below w.heap.size w (((w.alloc (.cells #[.int .i64 (v.n : Int), .int .i64 (v.root : Int), .int .i64 (v.tail : Int)] 30)).alloc (.cells #[.int .i64 0, .int .i64 0, .int .i64 0] 30)).alloc (.cells #[.int .i64 (k : Int)] 3)) := (((Below.refl _ w).alloc (Nat.le_refl _) _).alloc (by simp) _).alloc (by simp; omega) _
  have hs3 : (((w.alloc (.cells #[.int .i64 (v.n : Int), .int .i64 (v.root : Int), .int .i64 (v.tail : Int)] 30)).alloc (.cells #[.int .i64 0, .int .i64 0, .int .i64 0] 30)).alloc (.cells #[.int .i64 (k : Int)] 3)).heap.size = w.heap.size + 1 + 1 + 1 := by simp
  have HQ := Lib.hid (And.intro q5 (And.intro q8 hbx))
  have HB3 := Lib.hid hb3
  have HS3 := Lib.hid hs3
  have HA3 := Lib.hid (HA.out.below hb3)
  clear q5 q8 hbx e1 e2 hb3 hs3 HA
  go_enter Try.func18, Try.ntmps18
  go_wp2_with fail
  generalize ((w.alloc (.cells #[.int .i64 (v.n : Int), .int .i64 (v.root : Int), .int .i64 (v.tail : Int)] 30)).alloc (.cells #[.int .i64 0, .int .i64 0, .int .i64 0] 30)).alloc (.cells #[.int .i64 (k : Int)] 3) = w3 at HQ HB3 HS3 HA3 ⊢
  refine (vGet v l k x w3 HA3.out HV.out HX.out).mono ?_
  rintro e w4 ⟨rfl, hb4⟩
  obtain ⟨zl, hzl⟩ : ∃ z, z = w.heap.size + 1 + 1 := ⟨_, rfl⟩
  rw [← hzl] at HQ ⊢
  obtain ⟨zr, hzr⟩ : ∃ z, z = w.heap.size + 1 := ⟨_, rfl⟩
  rw [← hzr] at HQ ⊢
  obtain ⟨zv, hzv⟩ : ∃ z, z = w.heap.size := ⟨_, rfl⟩
  rw [← hzv] at HQ ⊢
  have hs4 := hb4.size
  have HZ := Lib.hid (show (w.heap.size ≤ zv ∧ zv < w4.heap.size) ∧ (w.heap.size ≤ zr ∧ zr < w4.heap.size) ∧ (w.heap.size ≤ zl ∧ zl < w4.heap.size) from by have := HS3.out; omega)
  have nvr : ¬ zv = zr := by omega
  have nrv : ¬ zr = zv := by omega
  have NLV := Lib.hid (show ¬ zl = zv from by omega)
  have HB4 := Lib.hid (HB3.out.trans (hb4.mono HB3.out.size))
  have HA4 := Lib.hid (HA3.out.below hb4)
  have q5 := HQ.out.1.below hb4
  have q8 := HQ.out.2.1.below hb4
  have hlc : w4.cell? ⟨zl, 0, none⟩ = some (.int .i64 (k : Int)) := (hb4.cell (p := ⟨zl, 0, none⟩) (by have := HS3.out; show zl < _; omega)).trans HQ.out.2.2
  have Q5 := Lib.hid q5
  have Q8 := Lib.hid q8
  have hzll : zl < w4.heap.size := HZ.out.2.2.2
  have hzvl : zv < w4.heap.size := HZ.out.1.2
  clear hzl hzr hzv HQ HB3 HS3 HA3 hb4 hs4
  obtain ⟨c0, c1, c2, f0, f1, f2⟩ := q5.all
  clear q5 q8
  go_wp2_with (go_at_call 41; refine (hsl.out _).mono ?_; rintro e w' ⟨rfl, rfl⟩)
  have hbX : Below w4.heap.size w4 (((w4.alloc (.cells #[.int .u8 x.1, .int .i64 x.2.1, .string x.2.2] 38)).alloc (.cells #[.int .i64 (v.tail : Int)] 3)).drew) := (((Below.refl _ w4).alloc (Nat.le_refl _) _).alloc (by simp) _).drew
  have HLX := Lib.hid (Rd.one' (w4.alloc (.cells #[.int .u8 x.1, .int .i64 x.2.1, .string x.2.2] 38)) (.int .i64 (v.tail : Int)) 3 (w4.heap.size + 1) (by simp)).drew
  have HAX := Lib.hid (HA4.out.below hbX)
  have HBX := Lib.hid (HB4.out.trans (hbX.mono HB4.out.size))
  have Q5X := Lib.hid (Q5.out.below hbX)
  have Q8X := Lib.hid (Q8.out.below hbX)
  have HCX := Lib.hid ((hbX.cell (p := ⟨zl, 0, none⟩) hzll).trans hlc)
  have HSX := Lib.hid hbX.size
  clear hvn hle hll hl hs hkI hk32 hbX Q5 Q8 HA4 HB4
  go_region_with (first
    | (go_at_call 42
       refine (vfresh ow [v.tail] _ _ HAX.out HLX.out (by show 1 ≤ 4194304; decide)).mono ?_
       rintro e w5 ⟨rfl, hb5⟩
       have HA5 := Lib.hid (HAX.out.below hb5)
       have HB5 := Lib.hid (HBX.out.trans (hb5.mono HBX.out.size))
       have Q55 := Lib.hid (Q5X.out.below hb5)
       have Q85 := Lib.hid (Q8X.out.below hb5)
       have HC5 := Lib.hid ((hb5.cell (p := ⟨zl, 0, none⟩) (Nat.lt_of_lt_of_le hzll HSX.out)).trans HCX.out)
       have HS5 := Lib.hid (show w4.heap.size ≤ w5.heap.size from Nat.le_trans HSX.out hb5.size)
       clear hb5 HAX HLX HBX Q5X Q8X HCX HSX
       obtain ⟨e0, e1, e2, _⟩ := Q55.out.all)
    | (go_at_call 43
       refine (vbegin_ok v ow (freshN M ow [v.tail]) _ HA5.out hroom (fun j => Nat.le_trans (HR.out j) (by decide))).mono ?_
       rintro e w6 ⟨rfl, hs6⟩
       have HS6 := Lib.hid hs6
       clear hs6
       clear e0 e1 e2))
  all_goals
    clear c0 c1 c2 f0 f1 f2
    have NF := Lib.hid (show ∀ z, w.heap.size ≤ z → z < w4.heap.size → ¬ Fn F w5 w6 z from fun z hz hz5 => by
      rintro (e | e)
      · have := HF.out z e; omega
      · have := HS5.out; omega)
    have nF : ∀ z, w.heap.size ≤ z → ¬ F z := fun z hz hf' => by have := HF.out z hf'; omega
    have q5 := Q55.out.kp HS6.out.kp (nF _ HZ.out.1.1)
    have Q56 := Lib.hid q5
    have Q86 := Lib.hid (Q85.out.kp HS6.out.kp (nF _ HZ.out.2.1.1))
    have hl6 := HS6.out.kp.cell HC5.out (nF _ HZ.out.2.2.1)
    obtain ⟨c0, c1, c2, _⟩ := q5.all
    clear q5 nF hlc hzll hzvl
    have HT := Lib.hid (show (contC M v.tail).kids = [] ∧ k % 32 ≤ (contC M v.tail).vals.length ∧ (contC M v.tail).vals.length ≤ 32 ∧ (contC M v.tail).vals ≠ [] ∧ k < 1048576 from by
      obtain ⟨hk, hn, hle, hl, hs⟩ := HK.out
      have hll : 0 < l.length := List.length_pos_iff.2 hl
      obtain ⟨ct, r, hM, hvs, hks⟩ := HV.out.tl hl
      have hcl : ct.vals.length = min 32 (l.length - 32 * ((l.length - 1) / 32)) := by rw [hvs, chunk_length]
      unfold contC
      rw [hM]
      refine ⟨hks, ?_, ?_, ?_, by omega⟩
      · show k % 32 ≤ ct.vals.length
        omega
      · show ct.vals.length ≤ 32
        omega
      · show ct.vals ≠ []
        intro e
        rw [e] at hcl
        simp only [List.length_nil] at hcl
        omega)
    have hch := chg_cut k zl w6 hl6 (NF.out _ HZ.out.2.2.1 HZ.out.2.2.2) (contC (begun M v ow) v.tail) (by rw [begun_cont]; exact HT.out.2.1) (by rw [begun_cont]; exact HT.out.2.2.2.1) HT.out.2.2.2.2
    have hrm : aloneB (begun M v ow) v.tail ow = false → live (most + 1) (begun M v ow) < most := fun e => by
      rw [begun_alone] at e
      rw [begun_live]
      have h1 : freshN M ow [v.tail] = 1 := by
        show (if aloneB M v.tail ow = true then freshN M ow [] else ([] : List Nat).length + 1) = 1
        rw [if_neg (by rw [e]; simp)]
        rfl
      omega
    have hrr : ∀ j, rf (begun M v ow j) + (contC (begun M v ow) v.tail).kids.length ≤ 4611686018427387900 := fun j => by
      rw [begun_cont, HT.out.1]
      have h1 := begun_rf (M := M) (v := v) (ow := ow) (j := j)
      have h2 := HR.out j
      simp only [List.length_nil]
      omega
    have hren0 := vrenew 53 (.pointer (some ⟨zl, 0, none⟩)) (fun c => { c with vals := c.vals.take (k % 32) }) v.tail ow w6 HS6.out.ar hf hch hrm hrr (by rw [begun_cont, HT.out.1]; exact Nat.zero_le _) (by rw [begun_cont]; show ((contC M v.tail).vals.take (k % 32)).length ≤ 4194304; rw [List.length_take]; have := HT.out.2.2.1; omega) (by rw [begun_cont]; show (contC M v.tail).kids.length ≤ 4194304; rw [HT.out.1]; exact Nat.zero_le _) (by rw [begun_cont]; show (ns (contC M v.tail).kids).all _ = true; rw [HT.out.1]; rfl)
    rw [begun_cont] at hren0
    have HRN := Lib.hid hren0
    have HL6 := Lib.hid hl6
    clear hch hrm hrr hren0
    go_wp2_with fail
    refine HRN.out.mono ?_
    rintro e w7 ⟨n, M', rfl, hren, hs7⟩
    have q5 := Q56.out.kp hs7.kp (NF.out _ HZ.out.1.1 HZ.out.1.2)
    have q8 := Q86.out.kp hs7.kp (NF.out _ HZ.out.2.1.1 HZ.out.2.1.2)
    have hl7 := hs7.kp.cell hl6 (NF.out _ HZ.out.2.2.1 HZ.out.2.2.2)
    have nlv : ¬ zl = zv := by have := NLV.out; omega
    have HREN := Lib.hid hren
    have HS7 := Lib.hid (HS6.out.trans hs7)
    have HB5' := Lib.hid HB5.out.size
    have HZ5 := Lib.hid HS5.out
    clear c0 c1 c2 hren hs7 HRN NF Q56 Q86 HT hl6
    obtain ⟨c0, c1, c2, f0, f1, f2⟩ := q5.all
    obtain ⟨d0, d1, d2, g0, g1, g2⟩ := q8.all
    clear q5 q8
    go_wp2_with fail
    refine bodyPost_ret (v := .tuple #[vagg ⟨k, v.root, n⟩, .int .i64 0]) (by simp [results, Try.results18, go_sem, d0, d1, d2]) rfl ⟨n, M', rfl, HREN.out, HS7.out.close HF.out HB5.out (G := fun g => g = zv ∨ g = zr) ?_ (fun g e => e.elim (fun e => e ▸ ⟨HZ.out.1.1, Nat.lt_of_lt_of_le HZ.out.1.2 HZ5.out⟩) (fun e => e ▸ ⟨HZ.out.2.1.1, Nat.lt_of_lt_of_le HZ.out.2.1.2 HZ5.out⟩))⟩
    exact (((((Kp.refl (fun g => g = zv ∨ g = zr) w7).setCell (.inl (.inl rfl)) _).setCell (.inl (.inl rfl)) _).setCell (.inl (.inr rfl)) _).setCell (.inl (.inr rfl)) _).setCell (.inl (.inr rfl)) _
end

end Go.Proofs.Ytgkhbnkbhcginaa

namespace Go.Proofs.Ytgkhbnkbhcginaa
open Go.RowKit

set_option maxRecDepth 100000 in
set_option maxHeartbeats 800000 in
theorem vPop_nil (v : Vc) (b : Nat) (ow : Int) (w : World) (hn : v.n = 0) :
    Calls Try.prog 18 #[ap b, vagg v, .int .u32 ow] w fun e w' => e = .returned (.tuple #[vagg ⟨0, 0, 0⟩, .int .i64 3]) ∧ Below w.heap.size w w' := by
  have hkI : (v.n : Int) - 1 = -1 := by omega
  have HN := Lib.hid hn
  clear hn
  have e1 : (w.alloc (.cells #[.int .i64 (v.n : Int), .int .i64 (v.root : Int), .int .i64 (v.tail : Int)] 30)).heap.size = w.heap.size + 1 := by simp
  have q8 := (C3.new (w.alloc (.cells #[.int .i64 (v.n : Int), .int .i64 (v.root : Int), .int .i64 (v.tail : Int)] 30)) 30 (.int .i64 0) (.int .i64 0) (.int .i64 0)).alloc (.cells #[.int .i64 (-1)] 3)
  rw [e1] at q8
  have hb3 : Below w.heap.size w (((w.alloc (.cells #[.int .i64 (v.n : Int), .int .i64 (v.root : Int), .int .i64 (v.tail : Int)] 30)).alloc (.cells #[.int .i64 0, .int .i64 0, .int .i64 0] 30)).alloc (.cells #[.int .i64 (-1)] 3)) := (((Below.refl _ w).alloc (Nat.le_refl _) _).alloc (by simp) _).alloc (by simp; omega) _
  have Q8 := Lib.hid q8
  have HB3 := Lib.hid hb3
  have HS3 := Lib.hid (show (((w.alloc (.cells #[.int .i64 (v.n : Int), .int .i64 (v.root : Int), .int .i64 (v.tail : Int)] 30)).alloc (.cells #[.int .i64 0, .int .i64 0, .int .i64 0] 30)).alloc (.cells #[.int .i64 (-1)] 3)).heap.size = w.heap.size + 1 + 1 + 1 from by simp)
  clear q8 e1 hb3
  go_enter Try.func18, Try.ntmps18
  go_wp2_with fail
  generalize ((w.alloc (.cells #[.int .i64 (v.n : Int), .int .i64 (v.root : Int), .int .i64 (v.tail : Int)] 30)).alloc (.cells #[.int .i64 0, .int .i64 0, .int .i64 0] 30)).alloc (.cells #[.int .i64 (-1)] 3) = w3 at Q8 HB3 HS3 ⊢
  refine (vGet_no v (-1) w3 (.inl (by decide))).mono ?_
  rintro e w4 ⟨rfl, hb4⟩
  obtain ⟨zr, hzr⟩ : ∃ z, z = w.heap.size + 1 := ⟨_, rfl⟩
  rw [← hzr] at Q8 ⊢
  have HZR := Lib.hid (show w.heap.size ≤ zr by omega)
  have q8 := Q8.out.below hb4
  have HB4 := Lib.hid (HB3.out.trans (hb4.mono HB3.out.size))
  obtain ⟨d0, d1, d2, g0, g1, g2⟩ := q8.all
  have hzl : zr < w4.heap.size := q8.lt
  obtain ⟨r0, r1, r2, _⟩ := ((((q8.set0 (.int .i64 0)).set1 (.int .i64 0)).set2 (.int .i64 0)).alloc (.cells #[.int .u8 0, .int .i64 0, .string ⟨#[]⟩] 38)).all
  clear hb4 q8 Q8 HB3 HS3 hzr
  go_wp2_with fail
  refine bodyPost_ret (v := .tuple #[vagg ⟨0, 0, 0⟩, .int .i64 3]) (by first | (simp [results, Try.results18, go_sem, vagg, r0, r1, r2]; done) | (simp [results, Try.results18, go_sem, vagg, d0, d1, d2, hzl, Nat.ne_of_lt hzl]; done) | (simp only [results, Try.results18]; simp [r0, r1, r2, go_sem, vagg])) rfl ⟨rfl, ?_⟩
  exact (((HB4.out.setCell (p := ⟨zr, 0, none⟩) HZR.out _).setCell (p := ⟨zr, 1, none⟩) HZR.out _).setCell (p := ⟨zr, 2, none⟩) HZR.out _).alloc (by simpa using HB4.out.size) _

end Go.Proofs.Ytgkhbnkbhcginaa
