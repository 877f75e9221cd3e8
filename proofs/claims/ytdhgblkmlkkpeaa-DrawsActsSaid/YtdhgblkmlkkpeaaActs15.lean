/- Layer 15's law: what stands between the law's acts; taking the first ones off; DrawsActs walked. -/
import Derived.Test.YtdhgblkmlkkpeaaHas15
import Derived.Deep.RegionHeld3
namespace Go.Proofs.Ytdhgblkmlkkpeaa
set_option maxRecDepth 100000
set_option linter.unusedSimpArgs false
set_option linter.unusedVariables false
open Go.RowKit
theorem grownBy_below' {w w' : World} {B : Nat} (h : w.grownBy w' none) (hB : B ≤ w.heap.size) : Below B w w' := ⟨h.os, h.tape, h.output, h.size, fun k hk => h.block k (by omega) (by simp)⟩
section
variable {w w' : World} {A : Option Addr} {n c t : Nat} {xs : List Value}
theorem Rd.drop1 (h : Rd w (.slice A n c) n xs) (ht : t ≤ n) (hl : xs.length ≤ n) : Rd w (.slice (if c = t then A else A.map (·.add (t * 1))) (n - t) (c - t)) (n - t) (xs.drop t) := by
  rcases h with ⟨e, rfl, rfl⟩ | ⟨b, o, c', e, hc, hx⟩
  · simp only [Value.slice.injEq, true_and] at e
    obtain ⟨rfl, rfl⟩ := e
    obtain rfl : t = 0 := by omega
    exact .inl ⟨by simp, rfl, by simp⟩
  · simp only [Value.slice.injEq, true_and] at e
    obtain ⟨rfl, rfl⟩ := e
    by_cases hct : c = t
    · rw [if_pos hct]
      refine .inr ⟨b, o, c - t, rfl, by omega, fun j u hu => ?_⟩
      rw [List.getElem?_drop] at hu
      have h0 := (List.getElem?_eq_some_iff.1 hu).1
      omega
    · rw [if_neg hct]
      refine .inr ⟨b, o + t, c - t, by simp [add_none], by omega, fun j u hu => ?_⟩
      rw [List.getElem?_drop] at hu
      have := hx _ _ hu
      rwa [Nat.add_assoc]
theorem drop_own {k : Nat} : (Value.slice (if c = t then A else A.map (·.add (t * 1))) (n - t) (c - t)).ownBlock = some k → (Value.slice A n c).ownBlock = some k := by
  cases A with
  | none => intro h; split at h <;> exact h
  | some a =>
    intro h
    split at h
    · exact h
    · simp only [Value.ownBlock, Option.map_some, Option.some.injEq] at h ⊢
      rw [← h]
      unfold Addr.add
      split <;> rfl
end
section
variable {ev : Operand → Value} {o : Oper} {W : World} {x y : Operand} {A : Option Addr} {n c t : Nat}
theorem elem_u (w : World) : (sizeOf (Try.prog.elem 22)).run Try.prog w = .ok 1 w := by kernel_rfl
theorem exec_slice_from (ho : o.op = .slice 22 x (some y) none none) (hx : ev x = .slice A n c) (hy : ev y = .int .i64 (t : Nat)) (ht : t ≤ n) : (execOp ev o).run Try.prog W = .ok (.value (.slice (if c = t then A else A.map (·.add (t * 1))) (n - t) (c - t))) W := by
  have h1 := run_slice_l (P := Try.prog) (w := W) 22 A n c und_u8 .i64 (t : Int) (by omega) (by omega)
  rw [elem_u, Int.toNat_natCast] at h1
  unfold execOp
  simp only [ho, hx, hy, Option.map_some, Option.map_none, run_sliceAt_slice _ _ _ _ _ _ und_u8, h1, Result.andThen_ok, Sem.run_bind, Sem.run_pure, sliced]
theorem wpList_slice_from {ops : Array Oper} {rest : List Oper} {a : Act} {Q : Exit → Act → World → Prop} (hgd : o.guard = none) (x y : Operand) (ho : o.op = .slice 22 x (some y) none none) (A : Option Addr) (n c t : Nat) (hx : a.eval x = .slice A n c) (hy : a.eval y = .int .i64 (t : Nat)) (ht : t ≤ n)
    (A' : Option Addr) (n' c' : Nat) (hA : (A', n', c') = (if c = t then A else A.map (·.add (t * 1)), n - t, c - t)) (h : wpList Try.prog ops Q rest (a.put o.dst (.slice A' n' c')) W) : wpList Try.prog ops Q (o :: rest) a W :=
  wpList_plain hgd fun K hK => by
    simp only [Prod.mk.injEq] at hA
    obtain ⟨rfl, rfl, rfl⟩ := hA
    unfold Oper.wp
    rw [exec_slice_from ho hx hy ht]
    exact hK _ _ h
end
theorem own_set1 {w : World} {base t size g n cp j : Nat} {xs : List Value} (h : w.ownsRow base t size (.slice (some ⟨g, 0, none⟩) n cp) n xs) (_hj : j < n * size) (u : Value) : (w.setCell ⟨g, j, none⟩ u).ownsRow base t size (.slice (some ⟨g, 0, none⟩) n cp) n (xs.set j u) := by
  obtain ⟨h1, h2⟩ := h
  refine ⟨by rw [List.length_set]; exact h1, ?_⟩
  rcases h2 with ⟨e, _⟩ | ⟨g', cap, cur, e, hb, hg, hc, hm, hs, ht⟩
  · cases e
  · simp only [Value.slice.injEq, Option.some.injEq, Addr.mk.injEq, and_true, true_and] at e
    obtain ⟨rfl, rfl⟩ := e
    refine .inr ⟨g, cp, _, rfl, hb, heap_setCell_same w g j _ _ u hg, hc, hm, by rw [Array.size_setIfInBounds]; exact hs, ?_⟩
    rw [Array.toList_setIfInBounds, List.take_set, ht]
/-- The law's own list of what is left. -/
structure Rs (W : World) (b : Nat) (v vr : Value) (l : List Int) : Prop where
  rd : Rd W vr l.length (u8 l)
  dis : ∀ k, vr.ownBlock = some k → k ≠ b ∧ v.ownBlock ≠ some k ∧ k < W.heap.size
/-- What stands between the law's acts: what is left, by draws and by the law's own list. -/
structure Ws (w0 W : World) (b : Nat) (v vr : Value) (l : List Int) (used : Int) (m : Nat) : Prop where
  dr : Dr W b w0.heap.size v l used
  rs : Rs W b v vr l
  kept : Below w0.heap.size w0 W
  hb : w0.heap.size ≤ b
  sum : used + l.length ≤ 200 + 20 * (m : Int)
section
variable {w0 W W' : World} {b m : Nat} {v v' vr : Value} {l : List Int} {used : Int}
theorem Rs.below (h : Rs W b v vr l) (hb : Below W.heap.size W W') : Rs W' b v vr l := ⟨h.rd.below hb, fun k hk => ⟨(h.dis k hk).1, (h.dis k hk).2.1, Nat.lt_of_lt_of_le (h.dis k hk).2.2 hb.size⟩⟩
theorem Rs.kp {F : Nat → Prop} (h : Rs W b v vr l) (hk : Kp F W W') (hF : ∀ k, vr.ownBlock = some k → ¬ F k) : Rs W' b v vr l :=
  ⟨hk.rd h.rd hF, fun k e => ⟨(h.dis k e).1, (h.dis k e).2.1, Nat.lt_of_lt_of_le (h.dis k e).2.2 hk.size⟩⟩
theorem Rs.drew (h : Rs W b v vr l) (hv : ∀ k, v'.ownBlock = some k → v.ownBlock = some k) (hk : Kp (fun k => k = b) W W') : Rs W' b v' vr l :=
  ⟨hk.rd h.rd (fun k e => (h.dis k e).1), fun k e => ⟨(h.dis k e).1, fun e' => (h.dis k e).2.1 (hv k e'), Nat.lt_of_lt_of_le (h.dis k e).2.2 hk.size⟩⟩
theorem Rs.drop {A A' : Option Addr} {n c t n' c' : Nat} (h : Rs W b v (.slice A n c) l) (ht : t ≤ n) (hn : l.length = n) (hA : (A', n', c') = (if c = t then A else A.map (·.add (t * 1)), n - t, c - t)) : Rs W b v (.slice A' (l.drop t).length c') (l.drop t) := by
  simp only [Prod.mk.injEq] at hA
  obtain ⟨rfl, rfl, rfl⟩ := hA
  have h1 := h.rd
  rw [hn] at h1
  have h2 := h1.drop1 ht (by simp [hn])
  rw [List.length_drop, hn]
  refine ⟨?_, fun k hk => h.dis k (drop_own hk)⟩
  rw [List.length_drop, hn, show u8 (l.drop t) = (u8 l).drop t by simp [u8, List.map_drop]]
  exact h2
theorem Ws.below (h : Ws w0 W b v vr l used m) (hb : Below W.heap.size W W') : Ws w0 W' b v vr l used m :=
  ⟨h.dr.below hb, h.rs.below hb, h.kept.trans (hb.mono h.kept.size), h.hb, h.sum⟩
theorem Ws.kp (h : Ws w0 W b v vr l used m) (hk : Kp (fun k => k = b) W W') : Below w0.heap.size w0 W' := ((Kp.of_below h.kept (fun _ => False)).trans hk (fun q e => .inr (by have := h.hb; omega))).below (fun _ h => h.elim)
end
/-- What Handle tells, in numbers. -/
theorem hv_form (o : Option (Int × Int)) : ∃ x y er, hv o = .tuple #[ha x y, .int .i64 er] ∧ ((o = some (x, y) ∧ er = 0) ∨ (o = none ∧ x = 0 ∧ y = 0 ∧ er = 13)) := by
  cases o with
  | none => exact ⟨0, 0, 13, rfl, .inr ⟨rfl, rfl, rfl, rfl⟩⟩
  | some p => exact ⟨p.1, p.2, 0, rfl, .inl ⟨rfl, rfl⟩⟩
/-- A handle that was found is not zero. -/
theorem hd_some (t : Int → Int → Bool) : ∀ (l : List Int) (x y : Int), (hd t l).1 = some (x, y) → ¬ (x = 0 ∧ y = 0)
  | [], x, y, h => by simp [hd] at h
  | [a], x, y, h => by simp [hd] at h
  | a :: b :: l, x, y, h => by
    unfold hd at h
    split at h
    · exact hd_some t l x y h
    · rename_i hn
      simp only [Option.some.injEq, Prod.mk.injEq] at h
      obtain ⟨rfl, rfl⟩ := h
      exact fun e => hn (.inl e)
/-- What stands while the law looks for the handle itself. -/
structure Lk (wb W : World) (b zw : Nat) (t : Int → Int → Bool) (v vr : Value) (rest l : List Int) (used u x y : Int) : Prop where
  kp : Kp (fun k => k = zw) wb W
  row : W.heap[zw]? = some (.cells #[.int .u64 x, .int .u64 y] 35 (0, 0))
  rs : Rs W b v vr l
  us : u = used + ((rest.length : Int) - l.length)
  len : l.length ≤ rest.length
  vlt : ∀ k, vr.ownBlock = some k → k < zw
  st : (x = 0 ∧ y = 0 ∧ hd t rest = hd t l) ∨ (¬ (x = 0 ∧ y = 0) ∧ hd t rest = (some (x, y), l))
set_option maxHeartbeats 16000000 in
theorem walk15 (v0 : Value) (l : List Int) (A : Option Addr) (acts : List Ac) (c : Nat) (w : World) (hl : Rw w v0 l.length (u8 l)) (ha : Acts w A acts) (h1 : l.length ≤ 200) (h2 : acts.length ≤ 60) :
    Calls Try.prog 3 #[v0, .slice A acts.length c] w fun e w' => e = .returned (.bool true) ∧ Below w.heap.size w w' := by
  have hmf : ∀ (fn : Go.Fn) (first cap : Array Value) (w : World), (Instr.makeFunc fn first cap).run Try.prog w = .ok (.func fn first cap) w := fun _ _ _ _ => rfl
  obtain ⟨i, hi, hi2⟩ := Option.map_eq_some_iff.1 info_u8
  simp only [Prod.mk.injEq] at hi2
  have HI := Lib.hid (And.intro hi hi2)
  clear hi hi2
  obtain ⟨A0, c0, rfl⟩ := hl.form
  have n1 : ¬ (200 : Int) < (l.length : Int) := by omega
  have n2 : ¬ (60 : Int) < (acts.length : Int) := by omega
  have H0 := Lib.hid (And.intro hl (And.intro ha (And.intro h1 h2)))
  clear hl ha h1 h2
  go_enter Try.func3, Try.ntmps3
  go_wp2_with fail
  refine (lives15 _).mono ?_
  rintro e w1 ⟨rfl, g1⟩
  have H1 := Lib.hid (And.intro g1 (And.intro (H0.out.1.below g1) (H0.out.2.1.below g1)))
  clear g1
  go_upto_region 4 with (refine wpList_append_rg _ rfl _ _ 22 rfl w1.heap.size 27 i (.int .u64 0) 1 8 und_u8 HI.out.1 HI.out.2.1 HI.out.2.2.1 HI.out.2.2.2 rfl (by omega) _ _ _ rfl (World.ownsRow_made w1 #[] 0 (Nat.le_refl _) (Nat.zero_le _) rfl) _ _ _ rfl (H1.out.2.1.below ((Below.refl _ w1).alloc (Nat.le_refl _) _)) (by simp) (u8_one l) (by have := H0.out.2.2.1; simp only [maxLen]; omega) (by have := H0.out.2.2.1; omega) (by simp) ?_; intro v' w' hos hg hat)
  obtain ⟨A3, c3, rfl, hc3⟩ := (Rd.of_own hos).form
  simp only [Nat.zero_add, List.nil_append] at hos hc3 ⊢
  have hbl : Below w1.heap.size w1 w' := below_grown ((Below.refl _ w1).alloc (Nat.le_refl _) (.cells #[] 27)) (show (w1.alloc (.cells #[] 27)).grownBy w' (some w1.heap.size) from hg) (Nat.le_refl _)
  have HO := Lib.hid (And.intro hos hbl)
  clear hos hg hat hbl
  go_wp2_with fail
  refine (dnew (Rd.of_own HO.out.1) (by have := H0.out.2.2.1; omega)).mono ?_
  rintro e w3 ⟨b, v3, rfl, hd3, hb3, hw3⟩
  have H3 := Lib.hid (And.intro (show ∃ l', l'.length = l.length ∧ w3.ownsRow w1.heap.size 27 1 (.slice A3 l.length c3) l.length (u8 l') from ⟨l, rfl, (Kp.of_below hw3 (fun _ => False)).own HO.out.1 (fun _ _ => id)⟩) (And.intro hd3 (And.intro (HO.out.2.trans (hw3.mono HO.out.2.size)) (And.intro hb3 HO.out.2.size))))
  have HOlt := Lib.hid (own_blk HO.out.1)
  clear hd3 hb3 hw3 HO
  go_wp2_with fail
  go_loopg [38] l.length (fun c' s38 wr => ∃ j : Nat, j + c' = l.length ∧ s38 = .int .i64 j ∧ (∃ l', l'.length = l.length ∧ wr.ownsRow w1.heap.size 27 1 (.slice A3 l.length c3) l.length (u8 l')) ∧ Dr wr b w'.heap.size v3 l 0 ∧ Below w1.heap.size w1 wr)
  case atStart => exact ⟨0, by omega, rfl, H3.out.1, H3.out.2.1, H3.out.2.2.1⟩
  case round =>
    obtain ⟨j, hj, rfl, ⟨l', hl', ho⟩, hd, hb⟩ := hrel
    by_cases hjl : j < l.length
    · obtain ⟨x, hx⟩ : ∃ x, l'[j]? = some x := ⟨_, List.getElem?_eq_getElem (by omega)⟩
      have hx' : (u8 l')[j]? = some (.int .u64 x) := by simp [u8, hx]
      obtain ⟨g, c4, e, _, x0, x1⟩ := own_at ho hx'
      simp only [Value.slice.injEq, true_and] at e
      obtain ⟨rfl, rfl⟩ := e
      have hg4 := HOlt.out g rfl
      have hbb := H3.out.2.2.2.1
      have HJ := Lib.hid (And.intro hj (And.intro hl' (And.intro ho (And.intro hd hb))))
      have h10 : (j : Int) < (l.length : Int) := by omega
      have h11 : (0 : Int) ≤ (j : Int) := by omega
      have hw2 : wrap64 ((j : Int) + 1) = ((j + 1 : Nat) : Int) := by rw [IntWalk.wrap64_in _ (by have := H0.out.2.2.1; omega)]; rfl
      have HW := Lib.hid hw2
      clear hj hl' ho hd hb hx hx' hw2
      go_wp2_with fail
      go_roundg (l.length - (j + 1))
      case measure => have := HJ.out.1; omega
      case rel =>
        have k1 := Kp.one wr g j (.int .u64 (IntKind.u64.wrap (x + 1)))
        refine ⟨j + 1, by have := HJ.out.1; omega, by go_num, ⟨l'.set j (IntKind.u64.wrap (x + 1)), by rw [List.length_set]; exact HJ.out.2.1, ?_⟩, HJ.out.2.2.2.1.kp k1 (by omega) (fun k hk e => by have := (HJ.out.2.2.2.1.os.lt k hk).1; omega), HJ.out.2.2.2.2.setCell hg4.1 _⟩
        have := own_set1 HJ.out.2.2.1 (show j < l.length * 1 by omega) (.int .u64 (IntKind.u64.wrap (x + 1)))
        rw [show u8 (l'.set j (IntKind.u64.wrap (x + 1))) = (u8 l').set j (.int .u64 (IntKind.u64.wrap (x + 1))) by simp [u8, List.map_set]]
        exact this
    · have HD := Lib.hid (And.intro hd hb)
      have hjn : ¬ (j : Int) < (l.length : Int) := by omega
      clear hj hl' ho hd hb hjl
      go_upto_region 11 with (refine wpList_append_rg _ rfl _ _ 22 rfl wr.heap.size 27 i (.int .u64 0) 1 8 und_u8 HI.out.1 HI.out.2.1 HI.out.2.2.1 HI.out.2.2.2 rfl (by omega) _ _ _ rfl (World.ownsRow_made wr #[] 0 (Nat.le_refl _) (Nat.zero_le _) rfl) _ _ _ rfl ((H1.out.2.1.below HD.out.2).below ((Below.refl _ wr).alloc (Nat.le_refl _) _)) (by simp) (u8_one l) (by have := H0.out.2.2.1; simp only [maxLen]; omega) (by have := H0.out.2.2.1; omega) (by simp) ?_; intro v5 w5 hos hg hat)
      obtain ⟨A5, c5, rfl, hc5⟩ := (Rd.of_own hos).form
      simp only [Nat.zero_add, List.nil_append] at hos hc5 ⊢
      have hb5 : Below wr.heap.size wr w5 := below_grown ((Below.refl _ wr).alloc (Nat.le_refl _) (.cells #[] 27)) (show (wr.alloc (.cells #[] 27)).grownBy w5 (some wr.heap.size) from hg) (Nat.le_refl _)
      have HS := Lib.hid (show Ws w1 w5 b v3 (.slice A5 l.length c5) l 0 0 from by
        have h3 := H3.out.2.2.2
        have hlt := HD.out.1.lt
        refine ⟨⟨(HD.out.1.below hb5).row, ?_, HD.out.1.ne, HD.out.1.blt, HD.out.1.u0⟩, ⟨Rd.of_own hos, fun k hk => ?_⟩, HD.out.2.trans (hb5.mono HD.out.2.size), by omega, by have := H0.out.2.2.1; omega⟩
        · have h4 := (HD.out.1.below hb5).os
          obtain ⟨A', c', e1, q1, q2, q3, q4⟩ := h4.val
          exact ⟨h4.len, A', c', e1, q1, q2, q3.imp id (fun ⟨g, o, e, r1, r2⟩ => ⟨g, o, e, by omega, r2⟩), q4⟩
        · have h5 := own_blk hos k hk
          exact ⟨by omega, fun e => by have := (HD.out.1.os.lt k e).2; omega, h5.2⟩)
      clear hos hg hat hb5 HD H3 HOlt
      go_wp2_with fail
      go_loopg [8, 9, 53] acts.length (fun c' s8 s9 s53 wa => ∃ (j : Nat) (A8 : Option Addr) (c8 : Nat) (rest : List Int) (used : Int) (v : Value), j + c' = acts.length ∧ s53 = .int .i64 j ∧ s8 = .slice A8 rest.length c8 ∧ s9 = .int .i64 used ∧ Ws w1 wa b v (.slice A8 rest.length c8) rest used j)
      case atStart => exact ⟨0, A5, c5, l, 0, v3, by omega, rfl, rfl, rfl, HS.out⟩
      case round =>
        obtain ⟨m, A8, c8, rest, used, v, hm, rfl, rfl, rfl, hs⟩ := hrel
        by_cases hma : m < acts.length
        · obtain ⟨x, hx⟩ : ∃ x, acts[m]? = some x := ⟨_, List.getElem?_eq_getElem hma⟩
          have hok : Ac.Ok w1 x := by obtain ⟨_, _, _, _, h⟩ := H1.out.2.2.at hx; exact h
          obtain ⟨g, o, rfl, ⟨a0, a1, a2⟩, _⟩ := (H1.out.2.2.below hs.kept).at hx
          have h10 : (m : Int) < (acts.length : Int) := by omega
          have h11 : (0 : Int) ≤ (m : Int) := by omega
          obtain ⟨kd, vt, tk, vm, mo⟩ := x
          obtain ⟨⟨k0, k1⟩, r1, r2⟩ := hok
          simp only at a0 a1 a2 k0 k1 r1 r2
          obtain ⟨At, ct, rfl⟩ := r1.form
          obtain ⟨Am, cm, rfl⟩ := r2.form
          have HSm := Lib.hid (And.intro hs (And.intro hm (And.intro r1 r2)))
          clear hs hm hx hma r1 r2
          by_cases hlong : 20 < tk.length ∨ 20 < mo.length
          · have hfin : ∀ W, Below wr.heap.size wr W → Below w.heap.size w W := fun W hW => (H1.out.1.trans (HSm.out.1.kept.mono H1.out.1.size)).trans (hW.mono (by have := H1.out.1.size; have := HSm.out.1.kept.size; omega))
            have hbz := hfin _ ((Below.refl _ wr).alloc (Nat.le_refl _) (.cells #[.int .u8 kd, .slice At tk.length ct, .slice Am mo.length cm] 30))
            have HB := Lib.hid hbz
            clear hfin hbz
            by_cases ht : 20 < tk.length
            · have ht' : (20 : Int) < (tk.length : Int) := by omega
              clear hlong
              go_wp2_with fail
              go_ret
              exact ⟨rfl, HB.out⟩
            · have ht1 : ¬ (20 : Int) < (tk.length : Int) := by omega
              have ht2 : (20 : Int) < (mo.length : Int) := by omega
              clear hlong
              go_wp2_with fail
              go_ret
              exact ⟨rfl, HB.out⟩
          · have ht1 : ¬ (20 : Int) < (tk.length : Int) := by omega
            have ht2 : ¬ (20 : Int) < (mo.length : Int) := by omega
            clear hlong
            go_upto_region 16 with fail
            obtain ⟨wz, hwz⟩ : ∃ wz, wz = wr.alloc (.cells #[.int .u8 kd, .slice At tk.length ct, .slice Am mo.length cm] 30) := ⟨_, rfl⟩
            have hbz : Below wr.heap.size wr wz := by rw [hwz]; exact (Below.refl _ wr).alloc (Nat.le_refl _) _
            have hrow : wz.heap[wr.heap.size]? = some (.cells #[.int .u8 kd, .slice At tk.length ct, .slice Am mo.length cm] 30 (0, 0)) := by rw [hwz]; exact heap_alloc_new wr _
            have HZ := Lib.hid (And.intro (HSm.out.1.below hbz) (And.intro hrow HSm.out.2.2))
            have HM := Lib.hid HSm.out.2.1
            have hza : w1.heap.size ≤ wr.heap.size := HSm.out.1.kept.size
            have hbz2 : b < wr.heap.size := HSm.out.1.dr.lt
            have HVZ := Lib.hid (fun k hk => (HSm.out.1.dr.os.lt k hk).2)
            rw [← hwz]
            obtain ⟨za, hzaa⟩ : ∃ za, za = wr.heap.size := ⟨_, rfl⟩
            rw [← hzaa] at HZ hza hbz2 HVZ ⊢
            have z0 : wz.cell? ⟨za, 0, none⟩ = some (.int .u8 kd) := by simpa using cell_of_row wz za 0 _ _ (0, 0) HZ.out.2.1
            have z1 : wz.cell? ⟨za, 1, none⟩ = some (.slice At tk.length ct) := by simpa using cell_of_row wz za 1 _ _ (0, 0) HZ.out.2.1
            have z2 : wz.cell? ⟨za, 2, none⟩ = some (.slice Am mo.length cm) := by simpa using cell_of_row wz za 2 _ _ (0, 0) HZ.out.2.1
            have hzs : za < wz.heap.size := (Array.getElem?_eq_some_iff.1 HZ.out.2.1).1
            clear hwz hbz hrow HSm hzaa a0 a1 a2
            go_upto_block 4 with fail
            go_cut [8, 9] from 69 to 69 (fun s8 s9 wc => ∃ (A8 : Option Addr) (c8 : Nat) (rest : List Int) (used : Int) (v : Value), s8 = .slice A8 rest.length c8 ∧ s9 = .int .i64 used ∧ Ws w1 wc b v (.slice A8 rest.length c8) rest used (m + 1))
            case first =>
              have hkd : kd % 3 = 0 ∨ kd % 3 = 1 ∨ kd % 3 = 2 := by omega
              rcases hkd with hkd | hkd | hkd
              · have hu1 : used + 1 ≤ 1000000000 := by have h1 := HZ.out.1.sum; have h2 := H0.out.2.2.2; omega
                cases rest with
                | nil =>
                  go_wp2_with fail
                  refine (dnext HZ.out.1.dr hu1).mono ?_
                  rintro e wn ⟨rfl, vn, d1, o1, k1⟩
                  have HN := Lib.hid (And.intro d1 (And.intro o1 k1))
                  clear d1 o1 k1 z0 z1 z2 hkd
                  simp only [nv]
                  go_wp2_with fail
                  go_meet
                  case rel =>
                    refine ⟨A8, c8, [], used, vn, rfl, rfl, ?_, HZ.out.1.rs.drew HN.out.2.1 HN.out.2.2, HZ.out.1.kp HN.out.2.2, HZ.out.1.hb, by have := HZ.out.1.sum; omega⟩
                    have := HN.out.1
                    simpa using this
                | cons x rest =>
                  obtain ⟨g8, o8, c', e8, _, hx8⟩ := HZ.out.1.rs.rd.at (j := 0) (u := .int .u64 x) rfl
                  simp only [Value.slice.injEq, true_and] at e8
                  obtain ⟨rfl, rfl⟩ := e8
                  go_wp2_with fail
                  refine (dnext HZ.out.1.dr hu1).mono ?_
                  rintro e wn ⟨rfl, vn, d1, o1, k1⟩
                  have hx9 : wn.cell? ⟨g8, o8, none⟩ = some (.int .u64 x) := by
                    have := k1.cell hx8 (HZ.out.1.rs.dis g8 rfl).1
                    simpa using this
                  have HN := Lib.hid (And.intro d1 (And.intro o1 k1))
                  have hw9 : wrap64 (used + 1) = used + 1 := IntWalk.wrap64_in _ (by have := HZ.out.1.dr.u0; omega)
                  have hpos : ¬ ((x :: rest).length : Int) = 0 := by simp; omega
                  obtain ⟨A9, n9, c9, hA9⟩ : ∃ A9 n9 c9, (A9, n9, c9) = (if c8 = 1 then some (⟨g8, o8, none⟩ : Addr) else (some (⟨g8, o8, none⟩ : Addr)).map (·.add (1 * 1)), (x :: rest).length - 1, c8 - 1) := ⟨_, _, _, rfl⟩
                  have HA9 := Lib.hid hA9
                  clear d1 o1 k1 z0 z1 z2 hkd hx8 hA9
                  simp only [nv]
                  go_wp2_with (refine wpList_slice_from rfl _ _ rfl (some ⟨g8, o8, none⟩) (x :: rest).length c8 1 rfl rfl (by simp) A9 n9 c9 HA9.out ?_)
                  go_meet
                  case rel =>
                    have e9 : n9 = rest.length := by have := HA9.out; simp only [Prod.mk.injEq] at this; rw [this.2.1]; simp
                    subst e9
                    refine ⟨A9, c9, rest, used + 1, vn, rfl, by rw [hw9], ?_, (HZ.out.1.rs.drop (by simp) rfl HA9.out).drew HN.out.2.1 HN.out.2.2, HZ.out.1.kp HN.out.2.2, HZ.out.1.hb, by have := HZ.out.1.sum; simp only [List.length_cons] at this; omega⟩
                    have h1 := HN.out.1
                    simp only [List.tail_cons, List.length_cons] at h1
                    rwa [show used + (((rest.length + 1 : Nat) : Int) - (rest.length : Int)) = used + 1 by omega] at h1
              · have hclo : ∀ W, Kp (fun k => k = b) wz W → ∀ x y, Calls Try.prog 9 (#[ha x y] ++ #[.pointer (some ⟨za, 0, none⟩)]) W fun e W' => e = .returned (.bool (hasB tk x y)) ∧ Below W.heap.size W W' := fun W hW x y => by
                  have hbW : Below w1.heap.size w1 W := HZ.out.1.kp hW
                  exact ltaken x y W (hW.cell z1 (by omega)) (HZ.out.2.2.1.below hbW) (by omega)
                have hmf2 : ∀ (args : Array Value) (W : World), (callFunc 9 args).run Try.prog W = .ok (.enter 9 args) W := fun _ _ => rfl
                have hu2 : used + rest.length ≤ 1000000000 := by have h1 := HZ.out.1.sum; have h2 := H0.out.2.2.2; omega
                have HCL := Lib.hid (And.intro hclo (And.intro hmf2 hu2))
                clear hclo hmf2 hu2
                go_wp2_with fail
                refine (dhandle (f := 9) (caps := #[.pointer (some ⟨za, 0, none⟩)]) (t := hasB tk) HZ.out.1.dr HCL.out.2.2 HCL.out.2.1 HCL.out.1).mono ?_
                rintro e wn ⟨rfl, vn, d1, o1, k1⟩
                obtain ⟨hx, hy, er, hhv, hrl⟩ := hv_form (hd (hasB tk) rest).1
                rw [hhv]
                have z1n : wn.cell? ⟨za, 1, none⟩ = some (.slice At tk.length ct) := k1.cell z1 (by omega)
                have HN := Lib.hid (And.intro d1 (And.intro o1 (And.intro k1 hrl)))
                have hsn : wz.heap.size ≤ wn.heap.size := k1.size
                clear d1 o1 k1 hhv hrl z0 z1 z2 hkd HCL
                go_upto_block 5 with fail
                obtain ⟨wb, hwb⟩ : ∃ wb, wb = (wn.alloc (.cells #[.int .u64 hx, .int .u64 hy] 35)).alloc (.cells #[.int .u64 0, .int .u64 0] 35) := ⟨_, rfl⟩
                have hbn : Below wn.heap.size wn wb := by rw [hwb]; exact ((Below.refl _ wn).alloc (Nat.le_refl _) _).alloc (by simp) _
                have hrh : wb.heap[wn.heap.size]? = some (.cells #[.int .u64 hx, .int .u64 hy] 35 (0, 0)) := by
                  rw [hwb]
                  exact (Below.heap_alloc _ _ _ (by simp)).trans (heap_alloc_new wn _)
                have hrw : wb.heap[wn.heap.size + 1]? = some (.cells #[.int .u64 0, .int .u64 0] 35 (0, 0)) := by
                  rw [hwb]
                  have := heap_alloc_new (wn.alloc (.cells #[.int .u64 hx, .int .u64 hy] 35)) (.cells #[.int .u64 0, .int .u64 0] 35)
                  rwa [World.size_alloc] at this
                have HRS := Lib.hid ((HZ.out.1.rs.drew HN.out.2.1 HN.out.2.2.1).below hbn)
                have HB := Lib.hid (And.intro hbn (And.intro hrh hrw))
                have hbl : b < wn.heap.size := by omega
                rw [← hwb]
                obtain ⟨zh, hzh⟩ : ∃ zh, zh = wn.heap.size := ⟨_, rfl⟩
                obtain ⟨zw, hzw⟩ : ∃ zw, zw = wn.heap.size + 1 := ⟨_, rfl⟩
                have hzz : za < zh ∧ b < zh ∧ zh < zw ∧ wn.heap.size ≤ zh := by omega
                have z1b : wb.cell? ⟨za, 1, none⟩ = some (.slice At tk.length ct) := (hbn.cell (p := ⟨za, 1, none⟩) (by show za < _; omega)).trans z1n
                rw [← hzw, ← hzh] at HB ⊢
                have hkn := HZ.out.1.kp HN.out.2.2.1
                have HW1 := Lib.hid (show ∀ W, Kp (fun k => k = zw) wb W → ∀ W', Below W.heap.size W W' → Below w1.heap.size w1 W' from fun W hW W' hW' => ((Kp.of_below (hkn.trans (HB.out.1.mono (by have := hkn.size; omega))) (fun _ => False)).trans (hW.trans (Kp.of_below hW' (fun _ => False)) (fun _ h => h.elim)) (fun q e => .inr (by have := hkn.size; omega))).below (fun _ h => h.elim))
                have HVR := Lib.hid (show ∀ k, (Value.slice A8 rest.length c8).ownBlock = some k → k < zw from fun k hk => by have := (HZ.out.1.rs.dis k hk).2.2; omega)
                have HZB := Lib.hid (And.intro z1b (And.intro hzz (show wn.heap.size = zh from hzh.symm)))
                clear hwb hbn hrh hrw z1n z1b hzw hzh hzz hbl hsn hzs
                go_cut [8, 9] from 17 to 17 (fun s8 s9 wc => ∃ (A' : Option Addr) (c' : Nat) (l' : List Int) (u' x y : Int), s8 = .slice A' l'.length c' ∧ s9 = .int .i64 u' ∧ Lk wb wc b zw (hasB tk) vn (.slice A' l'.length c') rest l' used u' x y ∧ (¬ (x = 0 ∧ y = 0) ∨ l'.length < 2))
                case first =>
                  go_wp2_with fail
                  go_loopg [8, 9] rest.length (fun k s8 s9 wr => ∃ (A' : Option Addr) (c' : Nat) (l' : List Int) (u' x y : Int), s8 = .slice A' l'.length c' ∧ s9 = .int .i64 u' ∧ Lk wb wr b zw (hasB tk) vn (.slice A' l'.length c') rest l' used u' x y ∧ l'.length ≤ k)
                  case atStart => exact ⟨A8, c8, rest, used, 0, 0, rfl, rfl, ⟨Kp.refl _ _, HB.out.2.2, HRS.out, by omega, Nat.le_refl _, HVR.out, .inl ⟨rfl, rfl, rfl⟩⟩, Nat.le_refl _⟩
                  case round =>
                    obtain ⟨A', c', l', u', x, y, rfl, rfl, hlk, hgk⟩ := hrel
                    obtain ⟨y0, y1, y2, y3⟩ := row2 hlk.row
                    have HL := Lib.hid (And.intro hlk hgk)
                    clear hlk hgk
                    by_cases hshort : l'.length < 2
                    · have hsi : ¬ (2 : Int) ≤ (l'.length : Int) := by omega
                      go_wp2_with fail
                      go_meet
                      case rel => exact ⟨A', c', l', u', x, y, rfl, rfl, HL.out.1, .inr hshort⟩
                    · have hsi : (2 : Int) ≤ (l'.length : Int) := by omega
                      have hlt2 : ¬ (l'.length : Int) < 2 := by omega
                      by_cases hxz : x = 0
                      · by_cases hyz : y = 0
                        · subst hxz hyz
                          obtain ⟨p, q, l1, hl'⟩ : ∃ p q l1, l' = p :: q :: l1 := by
                            match l', hshort with
                            | p :: q :: l1, _ => exact ⟨p, q, l1, rfl⟩
                            | [], h => simp at h
                            | [p], h => simp at h
                          subst hl'
                          obtain ⟨g8, o8, c9, e8, _, hx8⟩ := HL.out.1.rs.rd.at (j := 0) (u := .int .u64 p) rfl
                          obtain ⟨g8', o8', c9', e8', _, hx8'⟩ := HL.out.1.rs.rd.at (j := 1) (u := .int .u64 q) rfl
                          simp only [Value.slice.injEq, true_and] at e8
                          obtain ⟨rfl, rfl⟩ := e8
                          simp only [Value.slice.injEq, true_and, Option.some.injEq, Addr.mk.injEq, and_true] at e8'
                          obtain ⟨⟨rfl, rfl⟩, rfl⟩ := e8'
                          have q0 : ∀ W', Below wr.heap.size wr W' → W'.cell? ⟨g8, o8, none⟩ = some (.int .u64 p) := fun W' h => (Kp.of_below h (fun _ => False)).cell (by simpa using hx8) id
                          have q1 : ∀ W', Below wr.heap.size wr W' → W'.cell? ⟨g8, o8 + 1, none⟩ = some (.int .u64 q) := fun W' h => (Kp.of_below h (fun _ => False)).cell hx8' id
                          have hz1 := HL.out.1.kp.cell HZB.out.1 (by have := HZB.out.2.1; omega)
                          have hzs2 := World.block_lt_of_cell? wr ⟨za, 1, none⟩ hz1
                          have hzw2 : zw < wr.heap.size := (Array.getElem?_eq_some_iff.1 HL.out.1.row).1
                          have HZ1 := Lib.hid (And.intro hz1 (And.intro hzs2 hzw2))
                          have HZK := Lib.hid (show ∀ W, Below wr.heap.size wr W → Below w1.heap.size w1 W from fun W hW => HW1.out wr HL.out.1.kp W hW)
                          clear hx8 hx8' hz1 hzs2 hzw2
                          have hb0 : (0 : Int) < (l1.length : Int) + 1 + 1 := by omega
                          have hb1 : (1 : Int) < (l1.length : Int) + 1 + 1 := by omega
                          go_upto_region 31 with fail
                          clear y0 y1 y2 y3
                          refine wp_region_noPanic ?_
                          refine wp_region_held_drew (S := fun W' => Below wr.heap.size wr W') (by kernel_rfl) (Below.refl _ _).drew (fun hH => ?_)
                          have HWc := Lib.hid (show wr.drew.heap.size = wr.heap.size from rfl)
                          generalize wr.drew = Wc at hH HWc ⊢
                          have HBC := Lib.hid hH
                          refine wpAnyH_take (i := 0) (v := ?_) rfl (by kernel_rfl) (by kernel_rfl) (by kernel_rfl) (fun _ _ _ h => h) (Or.inl ⟨by rfl, ?_⟩) hH ?_
                          rotate_left
                          · intro W' hS
                            go_simp
                            with_reducible rfl
                          simp only [Act.put, List.setIfInBounds_toArray, List.set_cons_zero, List.set_cons_succ, List.getElem_toArray, List.getElem_cons_zero, List.getElem_cons_succ]
                          refine wpAnyH_take (i := 1) (v := ?_) rfl (by kernel_rfl) (by kernel_rfl) (by kernel_rfl) (fun _ _ _ h => h) (Or.inl ⟨by rfl, ?_⟩) hH ?_
                          rotate_left
                          · intro W' hS
                            go_simp
                            with_reducible rfl
                          simp only [Act.put, List.setIfInBounds_toArray, List.set_cons_zero, List.set_cons_succ, List.getElem_toArray, List.getElem_cons_zero, List.getElem_cons_succ]
                          refine wpAnyH_take (i := 2) (v := ?_) rfl (by kernel_rfl) (by kernel_rfl) (by kernel_rfl) (fun _ _ _ h => h) (Or.inl ⟨by rfl, ?_⟩) hH ?_
                          rotate_left
                          · intro W' hS
                            go_simp
                            with_reducible rfl
                          simp only [Act.put, List.setIfInBounds_toArray, List.set_cons_zero, List.set_cons_succ, List.getElem_toArray, List.getElem_cons_zero, List.getElem_cons_succ]
                          refine wpAnyH_take (i := 3) (v := ?_) rfl (by kernel_rfl) (by kernel_rfl) (by kernel_rfl) (fun _ _ _ h => h) (Or.inl ⟨by rfl, ?_⟩) hH ?_
                          rotate_left
                          · intro W' hS
                            go_simp
                            with_reducible rfl
                          simp only [Act.put, List.setIfInBounds_toArray, List.set_cons_zero, List.set_cons_succ, List.getElem_toArray, List.getElem_cons_zero, List.getElem_cons_succ]
                          refine wpAnyH_take (i := 4) (v := ?_) rfl (by kernel_rfl) (by kernel_rfl) (by kernel_rfl) (fun _ _ _ h => h) (Or.inl ⟨by rfl, ?_⟩) hH ?_
                          rotate_left
                          · intro W' hS
                            go_simp
                            with_reducible rfl
                          simp only [Act.put, List.setIfInBounds_toArray, List.set_cons_zero, List.set_cons_succ, List.getElem_toArray, List.getElem_cons_zero, List.getElem_cons_succ]
                          refine wpAnyH_take (i := 5) (v := ?_) rfl (by kernel_rfl) (by kernel_rfl) (by kernel_rfl) (fun _ _ _ h => h) (Or.inl ⟨by rfl, ?_⟩) hH ?_
                          rotate_left
                          · intro W' hS
                            go_simp
                            with_reducible rfl
                          simp only [Act.put, List.setIfInBounds_toArray, List.set_cons_zero, List.set_cons_succ, List.getElem_toArray, List.getElem_cons_zero, List.getElem_cons_succ]
                          refine wpAnyH_take (i := 6) (v := ?_) rfl (by kernel_rfl) (by kernel_rfl) (by kernel_rfl) (fun _ _ _ h => h) (Or.inl ⟨by rfl, ?_⟩) hH ?_
                          rotate_left
                          · intro W' hS
                            go_simp
                            with_reducible rfl
                          simp only [Act.put, List.setIfInBounds_toArray, List.set_cons_zero, List.set_cons_succ, List.getElem_toArray, List.getElem_cons_zero, List.getElem_cons_succ]
                          refine wpAnyH_ready (rs := [7]) (by kernel_rfl) (by simp) ?_
                          refine AllReadyH.cons rfl (fun K hK => ?_) (AllReadyH.nil)
                          have HB7 := Lib.hid (And.intro (hH.alloc hH.size (.cells #[.int .u64 0, .int .u64 0] 35)) (heap_alloc_new Wc (.cells #[.int .u64 0, .int .u64 0] 35)))
                          go_simp
                          refine hK.out _ _ HB7.out.1 (fun hH => ?_)
                          clear hK K
                          refine wpAnyH_ready (rs := [8]) (by kernel_rfl) (by simp) ?_
                          refine AllReadyH.cons rfl (fun K hK => ?_) (AllReadyH.nil)
                          obtain ⟨x0, x1, x2, x3⟩ := row2 HB7.out.2
                          go_simp
                          have hS8 : Below wr.heap.size wr (Wc.alloc (.cells #[.int .u64 p, .int .u64 q] 35)) := HBC.out.alloc HBC.out.size _
                          have HS8 := Lib.hid (And.intro hS8 (heap_alloc_new Wc (.cells #[.int .u64 p, .int .u64 q] 35)))
                          clear x0 x1 x2 x3
                          refine hK.out _ _ hS8 (fun hH => ?_)
                          clear hK K hS8
                          refine wpAnyH_done (by kernel_rfl) ?_ _
                          refine NoPanic.normal ?_
                          generalize Wc.alloc (.cells #[.int .u64 p, .int .u64 q] 35) = wd at hH HS8 ⊢
                          obtain ⟨zx, hzx⟩ : ∃ zx, zx = Wc.heap.size := ⟨_, rfl⟩
                          rw [← hzx] at HS8 ⊢
                          obtain ⟨x0, x1, _, _⟩ := row2 HS8.out.2
                          have z1d : wd.cell? ⟨za, 1, none⟩ = some (.slice At tk.length ct) := (Kp.of_below HS8.out.1 (fun _ => False)).cell HZ1.out.1 id
                          have hw9 : wrap64 (u' + 2) = u' + 2 := IntWalk.wrap64_in _ (by have h1 := HL.out.1.us; have h2 := HL.out.1.len; have h3 := HZ.out.1.dr.u0; have h4 := HZ.out.1.sum; have h5 := H0.out.2.2.2; omega)
                          have hw10 : IntKind.i64.wrap (u' + 2) = u' + 2 := IntWalk.i64_in _ (by have h1 := HL.out.1.us; have h2 := HL.out.1.len; have h3 := HZ.out.1.dr.u0; have h4 := HZ.out.1.sum; have h5 := H0.out.2.2.2; omega)
                          obtain ⟨A9, n9, c9, hA9⟩ : ∃ A9 n9 c9, (A9, n9, c9) = (if c' = 2 then some (⟨g8, o8, none⟩ : Addr) else (some (⟨g8, o8, none⟩ : Addr)).map (·.add (2 * 1)), (p :: q :: l1).length - 2, c' - 2) := ⟨_, _, _, rfl⟩
                          have HA9 := Lib.hid hA9
                          have HZX := Lib.hid (And.intro hzx HWc.out)
                          clear hA9 hH hzx HBC HB7 q0 q1 HWc
                          go_wp2_with (refine wpList_slice_from rfl _ _ rfl (some ⟨g8, o8, none⟩) (p :: q :: l1).length c' 2 rfl rfl (by simp) A9 n9 c9 HA9.out ?_)
                          refine (lhas p q wd (HZ.out.2.2.1.below (HZK.out wd HS8.out.1)) (by omega)).mono ?_
                          rintro e we ⟨rfl, hbe⟩
                          have he9 : n9 = l1.length := by have := HA9.out; simp only [Prod.mk.injEq] at this; rw [this.2.1]; simp
                          subst he9
                          have hbx := HS8.out.1.trans (hbe.mono HS8.out.1.size)
                          have hkx : Kp (fun k => k = zw) wb we := HL.out.1.kp.trans (Kp.of_below hbx (fun _ => False)) (fun _ h => h.elim)
                          have hrs := ((HL.out.1.rs.drop (by simp) rfl HA9.out).below hbx)
                          have hvl : ∀ k, (Value.slice A9 l1.length c9).ownBlock = some k → k < zw := fun k hk => HL.out.1.vlt k (by
                            have h9 := HA9.out
                            simp only [Prod.mk.injEq] at h9
                            rw [h9.1, h9.2.2] at hk
                            exact drop_own (n := (p :: q :: l1).length) hk)
                          have hrowz := (Kp.of_below hbx (fun _ => False)).at HL.out.1.row id
                          have hus : u' + 2 = used + ((rest.length : Int) - l1.length) := by have := HL.out.1.us; simp only [List.length_cons] at this; omega
                          have hlen : l1.length ≤ rest.length ∧ l1.length ≤ gk - 1 ∧ gk - 1 < gk := by have h1 := HL.out.1.len; have h2 := HL.out.2; simp only [List.length_cons] at h1 h2; omega
                          have hxr := (hbe.block zx (Array.getElem?_eq_some_iff.1 HS8.out.2).1).trans HS8.out.2
                          obtain ⟨v0, v1, _, _⟩ := row2 hxr
                          obtain ⟨y0, y1, y2, y3⟩ := row2 hrowz
                          have hzlt : zw < we.heap.size := (Array.getElem?_eq_some_iff.1 hrowz).1
                          have hst := HL.out.1.st.resolve_right (fun h => h.1 ⟨rfl, rfl⟩)
                          have HR := Lib.hid (And.intro hkx (And.intro hrs (And.intro hvl (And.intro hrowz (And.intro hus (And.intro hlen hst.2.2))))))
                          clear hbe hbx hkx hrs hvl hrowz hus hlen hxr hst x0 x1 z1d
                          cases htk : hasB tk p q
                          · have HT := Lib.hid htk
                            clear htk
                            go_wp2_with fail
                            go_roundg (gk - 1)
                            case measure => exact HR.out.2.2.2.2.2.1.2.2
                            case rel =>
                              have k3 := (Kp.one we zw 0 (.int .u64 p)).trans (Kp.one (we.setCell ⟨zw, 0, none⟩ (.int .u64 p)) zw 1 (.int .u64 q)) (fun k e => .inl e)
                              have r1 := heap_setCell_same we zw 0 _ _ (.int .u64 p) HR.out.2.2.2.1
                              have r2 := heap_setCell_same (we.setCell ⟨zw, 0, none⟩ (.int .u64 p)) zw 1 _ _ (.int .u64 q) r1
                              refine ⟨A9, c9, l1, u' + 2, p, q, rfl, by first | rfl | rw [hw9] | rw [hw10], ⟨HR.out.1.trans k3 (fun k e => .inl e), by simpa using r2, HR.out.2.1.kp k3 (fun k hk e => by have := HR.out.2.2.1 k hk; omega), HR.out.2.2.2.2.1, HR.out.2.2.2.2.2.1.1, HR.out.2.2.1, ?_⟩, HR.out.2.2.2.2.2.1.2.1⟩
                              by_cases hz0 : p = 0 ∧ q = 0
                              · refine .inl ⟨hz0.1, hz0.2, HR.out.2.2.2.2.2.2.trans ?_⟩
                                rw [hd, if_pos (.inl hz0)]
                              · refine .inr ⟨hz0, HR.out.2.2.2.2.2.2.trans ?_⟩
                                rw [hd, if_neg]
                                rintro (h | h)
                                · exact hz0 h
                                · rw [HT.out] at h; cases h
                          · have HT := Lib.hid htk
                            clear htk
                            go_wp2_with fail
                            go_roundg (gk - 1)
                            case measure => exact HR.out.2.2.2.2.2.1.2.2
                            case rel =>
                              refine ⟨A9, c9, l1, u' + 2, 0, 0, rfl, by first | rfl | rw [hw9] | rw [hw10], ⟨HR.out.1, HR.out.2.2.2.1, HR.out.2.1, HR.out.2.2.2.2.1, HR.out.2.2.2.2.2.1.1, HR.out.2.2.1, .inl ⟨rfl, rfl, HR.out.2.2.2.2.2.2.trans ?_⟩⟩, HR.out.2.2.2.2.2.1.2.1⟩
                              rw [hd, if_pos (.inr HT.out)]
                        · subst hxz
                          go_wp2_with fail
                          go_meet
                          case rel => exact ⟨A', c', l', u', 0, y, rfl, rfl, HL.out.1, .inl (fun h => hyz h.2)⟩
                      · go_wp2_with fail
                        go_meet
                        case rel => exact ⟨A', c', l', u', x, y, rfl, rfl, HL.out.1, .inl (fun h => hxz h.1)⟩
                case rest =>
                  obtain ⟨A', c', l', u', x, y, rfl, rfl, hlk, hend⟩ := hcut
                  have hR : hd (hasB tk) rest = (if x = 0 ∧ y = 0 then none else some (x, y), l') := by
                    rcases hlk.st with ⟨rfl, rfl, h⟩ | ⟨hn, h⟩
                    · rw [h, if_pos ⟨rfl, rfl⟩]
                      rcases hend with hend | hend
                      · exact absurd ⟨rfl, rfl⟩ hend
                      · match l', hend with
                        | [], _ => rfl
                        | [p], _ => rfl
                        | p :: q :: l1, h => simp only [List.length_cons] at h; omega
                    · rw [h, if_neg hn]
                  have hdr := HN.out.1
                  have hxy := HN.out.2.2.2
                  rw [hR] at hdr hxy
                  simp only at hdr hxy
                  rw [← hlk.us] at hdr
                  have hrowh := hlk.kp.at HB.out.2.1 (by have := HZB.out.2.1; omega)
                  obtain ⟨y0, y1, _, _⟩ := row2 hlk.row
                  obtain ⟨y2, y3, _, _⟩ := row2 hrowh
                  have hws : Ws w1 wc b vn (.slice A' l'.length c') l' u' (m + 1) := by
                    have h1 := (hdr.below (show Below wn.heap.size wn wb by rw [HZB.out.2.2]; exact HB.out.1)).kp hlk.kp (by have := HZB.out.2.1; omega) (fun k hk e => by have := (hdr.os.lt k hk).2; have := HZB.out.2; omega)
                    refine ⟨h1, hlk.rs, HW1.out wc hlk.kp wc (Below.refl _ _), HZ.out.1.hb, ?_⟩
                    have h2 := hlk.us
                    have h3 := HZ.out.1.sum
                    omega
                  have HWS := Lib.hid hws
                  clear hlk hend hR hdr hrowh hws
                  by_cases hz0 : x = 0 ∧ y = 0
                  · rw [if_pos hz0] at hxy
                    obtain ⟨rfl, rfl⟩ := hz0
                    rcases hxy with ⟨h, _⟩ | ⟨_, rfl, rfl, rfl⟩
                    · cases h
                    · go_wp2_with fail
                      go_meet
                      case rel => exact ⟨A', c', l', u', vn, rfl, rfl, HWS.out⟩
                  · rw [if_neg hz0] at hxy
                    rcases hxy with ⟨h, rfl⟩ | ⟨h, _⟩
                    · simp only [Option.some.injEq, Prod.mk.injEq] at h
                      obtain ⟨rfl, rfl⟩ := h
                      by_cases hxz : x = 0
                      · have hyz : ¬ y = 0 := fun h => hz0 ⟨hxz, h⟩
                        subst hxz
                        clear hz0
                        go_wp2_with fail
                        go_meet
                        case rel => exact ⟨A', c', l', u', vn, rfl, rfl, HWS.out⟩
                      · clear hz0
                        go_wp2_with fail
                        go_meet
                        case rel => exact ⟨A', c', l', u', vn, rfl, rfl, HWS.out⟩
                    · cases h
              · go_wp2_with fail
                have hsum := HZ.out.1.sum
                have hm60 := H0.out.2.2.2
                refine (dmore HZ.out.1.dr (HZ.out.2.2.2.below HZ.out.1.kept) (by have := HZ.out.1.dr.u0; omega) HZ.out.1.kept.size).mono ?_
                rintro e wn ⟨rfl, vn, d1, o1, k1⟩
                have hvlt := fun k hk => (HZ.out.1.dr.os.lt k hk).2
                have nb : ∀ k, (k = b ∨ v.ownBlock = some k) → w1.heap.size ≤ k := fun k hk => by
                  rcases hk with rfl | hk
                  · exact HZ.out.1.hb
                  · exact (HZ.out.1.dr.os.lt k hk).1
                have nz : ¬ (za = b ∨ v.ownBlock = some za) := by
                  rintro (e | e)
                  · omega
                  · have := HVZ.out za e; omega
                have hk2 : Below w1.heap.size w1 wn := ((Kp.of_below HZ.out.1.kept (fun _ => False)).trans k1 (fun q e => .inr (nb q e))).below (fun _ h => h.elim)
                have hrs : Rs wn b v (.slice A8 rest.length c8) rest := ⟨k1.rd HZ.out.1.rs.rd (fun k e e' => by exact e'.elim (fun e' => (HZ.out.1.rs.dis k e).1 e') (fun e' => (HZ.out.1.rs.dis k e).2.1 e')), fun k e => ⟨(HZ.out.1.rs.dis k e).1, (HZ.out.1.rs.dis k e).2.1, Nat.lt_of_lt_of_le (HZ.out.1.rs.dis k e).2.2 k1.size⟩⟩
                have hzn : wn.cell? ⟨za, 2, none⟩ = some (.slice Am mo.length cm) := k1.cell z2 nz
                have hrm : Rw wn (.slice Am mo.length cm) mo.length (u8 mo) := HZ.out.2.2.2.below hk2
                have HN := Lib.hid (And.intro d1 (And.intro o1 (And.intro hk2 (And.intro hrs (And.intro hzn (And.intro hrm k1.size))))))
                have HS2 := Lib.hid (And.intro hsum (And.intro hm60 hvlt))
                have q0 : ∀ W', Below wn.heap.size wn W' → W'.cell? ⟨za, 2, none⟩ = some (.slice Am mo.length cm) := fun W' h => (h.cell (p := ⟨za, 2, none⟩) (by show za < wn.heap.size; have := HN.out.2.2.2.2.2.2; omega)).trans HN.out.2.2.2.2.1
                clear d1 o1 k1 hvlt nb nz hk2 hrs hzn hrm hsum hm60 z0 z1 z2 hkd
                go_upto_region 18 with fail
                refine wp_region_noPanic ?_
                refine wp_region_held_drew (S := fun W' => Below wn.heap.size wn W') (by kernel_rfl) (Below.refl _ _).drew (fun hH => ?_)
                have HWc := Lib.hid (show wn.drew.heap.size = wn.heap.size from rfl)
                generalize wn.drew = Wc at hH HWc ⊢
                have HBC := Lib.hid hH
                refine wpAnyH_take (i := 1) (v := ?_) rfl (by kernel_rfl) (by kernel_rfl) (by kernel_rfl) (fun _ _ _ h => h) (Or.inl ⟨by rfl, ?_⟩) hH ?_
                rotate_left
                · intro W' hS
                  go_simp
                  with_reducible rfl
                simp only [Act.put, List.setIfInBounds_toArray, List.set_cons_zero, List.set_cons_succ, List.getElem_toArray, List.getElem_cons_zero, List.getElem_cons_succ]
                refine wpAnyH_take (i := 3) (v := ?_) rfl (by kernel_rfl) (by kernel_rfl) (by kernel_rfl) (fun _ _ _ h => h) (Or.inl ⟨by rfl, ?_⟩) hH ?_
                rotate_left
                · intro W' hS
                  go_simp
                  with_reducible rfl
                simp only [Act.put, List.setIfInBounds_toArray, List.set_cons_zero, List.set_cons_succ, List.getElem_toArray, List.getElem_cons_zero, List.getElem_cons_succ]
                refine wpAnyH_take (i := 4) (v := ?_) rfl (by kernel_rfl) (by kernel_rfl) (by kernel_rfl) (fun _ _ _ h => h) (Or.inl ⟨by rfl, ?_⟩) hH ?_
                rotate_left
                · intro W' hS
                  go_simp
                  with_reducible rfl
                simp only [Act.put, List.setIfInBounds_toArray, List.set_cons_zero, List.set_cons_succ, List.getElem_toArray, List.getElem_cons_zero, List.getElem_cons_succ]
                refine wpAnyH_ready (rs := [0]) (by kernel_rfl) (by simp) ?_
                refine AllReadyH.cons rfl (fun K hK => ?_) (AllReadyH.nil)
                have HB0 := Lib.hid (hH.alloc hH.size (.cells #[] 27))
                go_simp
                refine hK.out _ _ HB0.out (fun hH => ?_)
                clear hK K
                refine wpAnyH_ready (rs := [2]) (by kernel_rfl) (by simp) ?_
                refine AllReadyH.cons rfl (fun K hK => ?_) (AllReadyH.nil)
                refine step_append_rg _ rfl (.tmp 74) (.tmp 75) 22 rfl Wc.heap.size 27 i (.int .u64 0) 1 8 und_u8 HI.out.1 HI.out.2.1 HI.out.2.2.1 HI.out.2.2.2 rfl (by omega) _ _ _ rfl (World.ownsRow_made Wc #[] 0 (Nat.le_refl _) (Nat.zero_le _) rfl) _ _ _ rfl (Rw.of_rd (HN.out.2.2.2.1.rd.below hH)) (by simp) (u8_one rest) (by have := HS2.out; have := HZ.out.1.dr.blt; simp only [maxLen]; omega) (by have := HZ.out.1.dr.blt; omega) (by simp) ?_
                intro v4 W4 hown hgr hat
                simp only [Nat.zero_add, List.nil_append] at hown
                have hb4 : Below Wc.heap.size Wc W4 := below_grown ((Below.refl _ Wc).alloc (Nat.le_refl _) (.cells #[] 27)) (show (Wc.alloc (.cells #[] 27)).grownBy W4 (some Wc.heap.size) from hgr) (Nat.le_refl _)
                have HO4 := Lib.hid (And.intro hown (HBC.out.trans (hb4.mono HBC.out.size)))
                have HWS := Lib.hid hb4.size
                clear hown hgr hat hb4
                refine hK.out _ _ HO4.out.2 (fun hH => ?_)
                clear hK K
                refine wpAnyH_ready (rs := [5]) (by kernel_rfl) (by simp) ?_
                refine AllReadyH.cons rfl (fun K hK => ?_) (AllReadyH.nil)
                refine step_append_rg _ rfl (.tmp 76) (.tmp 78) 22 rfl Wc.heap.size 27 i (.int .u64 0) 1 8 und_u8 HI.out.1 HI.out.2.1 HI.out.2.2.1 HI.out.2.2.2 rfl (by omega) _ _ _ rfl HO4.out.1 _ _ _ rfl (HN.out.2.2.2.2.2.1.below hH) (by simp) (u8_one mo) (by have := HZ.out.1.dr.blt; simp only [maxLen]; omega) (by have := HZ.out.1.dr.blt; omega) HWS.out ?_
                intro v5 W5 hown hgr hat
                have hgr : W4.grownBy W5 v4.ownBlock := hgr
                have hb5 : Below wn.heap.size wn W5 := by
                  cases hv4 : v4.ownBlock with
                  | none =>
                    rw [hv4] at hgr
                    exact HO4.out.2.trans (grownBy_below' hgr HO4.out.2.size)
                  | some q =>
                    rw [hv4] at hgr
                    exact below_grown HO4.out.2 hgr (by have := (own_blk HO4.out.1 q hv4).1; have := HWc.out; omega)
                have HO5 := Lib.hid (And.intro hown hb5)
                clear hown hgr hat hb5
                refine hK.out _ _ HO5.out.2 (fun hH => ?_)
                clear hK K
                refine wpAnyH_take (i := 6) (v := ?_) rfl (by kernel_rfl) (by kernel_rfl) (by kernel_rfl) (fun _ _ _ h => h) (Or.inl ⟨by rfl, ?_⟩) hH ?_
                rotate_left
                · intro W' hS
                  go_simp
                  with_reducible rfl
                simp only [Act.put, List.setIfInBounds_toArray, List.set_cons_zero, List.set_cons_succ, List.getElem_toArray, List.getElem_cons_zero, List.getElem_cons_succ]
                refine wpAnyH_done (by kernel_rfl) ?_ _
                refine NoPanic.normal ?_
                obtain ⟨A6, c6, e6, hc6⟩ := (Rd.of_own HO5.out.1).form
                subst e6
                have hlen : (rest ++ mo).length = rest.length + mo.length := by simp
                go_wp2_with fail
                go_meet
                case rel =>
                  refine ⟨A6, c6, rest ++ mo, used, vn, by rw [hlen], rfl, HN.out.1.below HO5.out.2, ⟨?_, ?_⟩, HN.out.2.2.1.trans (HO5.out.2.mono HN.out.2.2.1.size), HZ.out.1.hb, by rw [hlen]; have := HS2.out.1; omega⟩
                  · rw [hlen, show u8 (rest ++ mo) = u8 rest ++ u8 mo by simp [u8]]
                    exact Rd.of_own HO5.out.1
                  · rw [hlen]
                    intro k hk
                    have h5 := own_blk HO5.out.1 k hk
                    have h6 := HWc.out
                    have h7 := HN.out.1.lt
                    exact ⟨by omega, fun e => by have := (HN.out.1.os.lt k e).2; omega, h5.2⟩
            case rest =>
              obtain ⟨A9, c9, rest9, used9, v9, rfl, rfl, hs9⟩ := hcut
              have HS9 := Lib.hid hs9
              have hw2 : wrap64 ((m : Int) + 1) = ((m + 1 : Nat) : Int) := by rw [IntWalk.wrap64_in _ (by have := H0.out.2.2.2; omega)]; rfl
              have HM2 := Lib.hid (And.intro hw2 HM.out)
              clear hs9 hw2 z0 z1 z2
              go_wp2_with (first | (go_at_call 12; refine (dleft HS9.out.dr).mono ?_; rintro e w' ⟨rfl, rfl⟩) | (go_at_call 13; refine (dused HS9.out.dr).mono ?_; rintro e w' ⟨rfl, rfl⟩))
              go_roundg (acts.length - (m + 1))
              case measure => have := HM2.out.2; omega
              case rel => exact ⟨m + 1, A9, c9, rest9, used9, v9, by have := HM2.out.2; omega, by go_num, rfl, rfl, HS9.out⟩
        · have hge : (acts.length : Int) ≤ (m : Int) := by omega
          have HB := Lib.hid (H1.out.1.trans (hs.kept.mono H1.out.1.size))
          clear hs hm hma
          go_wp2_with fail
          go_ret
          exact ⟨rfl, HB.out⟩
end Go.Proofs.Ytdhgblkmlkkpeaa
