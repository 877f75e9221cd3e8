/- Several texts in one. -/
import Derived.Test.YtdddhmipifkepaaGreatMq27
import Derived.Test.YtdddhmipifkepaaGreatMq23
import Derived.Test.YtdddhmipifkepaaGreatMq24
namespace Go.Proofs.YtdddhmipifkepaaGreat
set_option maxRecDepth 100000
set_option linter.unusedSimpArgs false
set_option linter.unusedVariables false
open Go.RowKit
section
set_option maxHeartbeats 4000000 in
theorem llist (hs : Ky → Nat) (seed : Nat) (hhs : ∀ q, OkK q → hs q = hashN seed q.1 q.2.1 q.2.2) (A : Option Addr) (l : List Ky) (c : Nat) (f : FuncId) (caps : Array Value) (wb : Ky → Bool) (w : World) (hL : Lst w A l) (hok : ∀ k ∈ l, OkK k) (hn : l.length ≤ 100000)
    (hf : ∀ (args : Array Value) (W : World), (callFunc f args).run Tryz.prog W = .ok (.enter f args) W)
    (hw : ∀ W k, Below w.heap.size w W → k ∈ l → Calls Tryz.prog f (#[xagg k] ++ caps) W fun e W' => e = .returned (.bool (wb k)) ∧ Below W.heap.size W W') :
    Calls Tryz.prog 33 #[.int .u64 (seed : Nat), .slice A l.length c, .func (.func f) #[] caps] w fun e w' => ∃ y, e = .returned y ∧ w'.ownsRow w.heap.size 124 6 y (addAll hs wb l []).length ((addAll hs wb l []).flatMap pcells) ∧ (∀ q ∈ addAll hs wb l [], OkK q.1) ∧ Below w.heap.size w w' := by
  have HH := Lib.hid (And.intro hhs (And.intro hok (And.intro hn hf)))
  have HL := Lib.hid hL
  have HW := Lib.hid hw
  clear hhs hok hn hf hL hw
  go_enter Tryz.func33, Tryz.ntmps33
  go_wp2_with fail
  go_loopg [7, 12] l.length (fun c' s7 s12 wr => ∃ (j : Nat), j + c' = l.length ∧ s12 = .int .i64 (j : Int) ∧ Below w.heap.size w wr ∧ (∀ q ∈ addAll hs wb (l.take j) [], OkK q.1) ∧ (addAll hs wb (l.take j) []).length ≤ j ∧ Srt hs (addAll hs wb (l.take j) []) ∧ wr.ownsRow w.heap.size 124 6 s7 (addAll hs wb (l.take j) []).length ((addAll hs wb (l.take j) []).flatMap pcells))
  case atStart => exact ⟨0, by omega, rfl, Below.refl _ _, fun q hq => by simp [addAll] at hq, by simp [addAll], by simp only [List.take_zero, addAll]; exact List.Pairwise.nil, by simp only [List.take_zero, addAll]; exact World.ownsRow_nil _ _ _ _⟩
  case round =>
    obtain ⟨j, hj, rfl, hb, hkeys, hlen, hsrt, hown⟩ := hrel
    obtain ⟨A1, m1, rfl, _⟩ := (Rd.of_own hown).form
    have S := Lib.hid (And.intro hb (And.intro hkeys (And.intro hlen (And.intro hsrt hown))))
    clear hkeys hlen hsrt hown
    by_cases h1 : j < l.length
    · obtain ⟨k, hk⟩ : ∃ k, l[j]? = some k := ⟨_, List.getElem?_eq_getElem h1⟩
      obtain ⟨g, o, rfl, hgl, c0, c1, c2⟩ := (HL.out.below hb).at hk
      have y1 : (0 : Int) ≤ (j : Int) := by omega
      have y2 : (j : Int) < (l.length : Int) := by omega
      have HJ := Lib.hid (And.intro hj (And.intro h1 hk))
      have HST := Lib.hid (addAll_step (hs := hs) (wb := wb) hk [])
      have hlj : (l.length : Int) ≤ 100000 := by have := HH.out.2.2.1; omega
      have hw1 : IntKind.i64.wrap ((j : Int) + 1) = (j : Int) + 1 := IntWalk.i64_in _ (by omega)
      have hrun := HH.out.2.2.2
      clear hj h1 hk hgl hb
      generalize addAll hs wb (l.take j) [] = L6 at S HST ⊢
      go_upto_region 5 with fail
      have hb5 : Below wr.heap.size wr (wr.alloc (.cells #[.int .u8 k.1, .int .i64 k.2.1, .string k.2.2] 36)) := (Below.refl _ wr).alloc (Nat.le_refl _) _
      have B5 := Lib.hid (S.out.1.trans (hb5.mono S.out.1.size))
      have O5 := Lib.hid ((Kp.of_below hb5 (fun _ => False)).own S.out.2.2.2.2 (fun _ _ h => h))
      have K5 := Lib.hid (C3.new wr 36 (.int .u8 k.1) (.int .i64 k.2.1) (.string k.2.2))
      clear c0 c1 c2 hb5
      generalize wr.alloc (.cells #[.int .u8 k.1, .int .i64 k.2.1, .string k.2.2] 36) = w5 at B5 O5 K5 ⊢
      generalize wr.heap.size = z9 at K5 ⊢
      obtain ⟨x0, x1, x2, _⟩ := K5.out.all
      go_wp2_with fail
      refine (HW.out w5 k B5.out (List.mem_of_getElem? HJ.out.2.2)).mono ?_
      rintro e w6 ⟨rfl, hb6⟩
      have B6 := Lib.hid (B5.out.trans (hb6.mono B5.out.size))
      have O6 := Lib.hid ((Kp.of_below hb6 (fun _ => False)).own O5.out (fun _ _ h => h))
      have K6 := Lib.hid (K5.out.below hb6)
      clear hb6 x0 x1 x2 hrun
      cases hwb : wb k
      · have HST2 := Lib.hid (show addAll hs wb (l.take (j + 1)) [] = L6 from by rw [HST.out, hwb]; rfl)
        clear hwb
        go_wp2_with fail
        go_roundg (l.length - (j + 1))
        case measure => have := HJ.out; omega
        case rel => exact ⟨j + 1, by have := HJ.out; omega, by go_num, B6.out, by rw [HST2.out]; exact S.out.2.1, by rw [HST2.out]; have := S.out.2.2.1; omega, by rw [HST2.out]; exact S.out.2.2.2.1, by rw [HST2.out]; exact O6.out⟩
      · have HST2 := Lib.hid (show addAll hs wb (l.take (j + 1)) [] = putL hs (k, noV) L6 from by rw [HST.out, hwb, if_pos rfl])
        clear hwb
        have hkk := HH.out.2.1 k (List.mem_of_getElem? HJ.out.2.2)
        have HKK := Lib.hid hkk
        clear hkk
        obtain ⟨x0, x1, x2, _⟩ := K6.out.all
        go_wp2_with fail
        refine (lof10 k w6).mono ?_
        rintro e w7 ⟨rfl, hb7⟩
        have B7 := Lib.hid (B6.out.trans (hb7.mono B6.out.size))
        have O7 := Lib.hid ((Kp.of_below hb7 (fun _ => False)).own O6.out (fun _ _ h => h))
        clear hb7 x0 x1 x2
        go_wp2_with fail
        refine (rput hs seed w.heap.size (.slice A1 L6.length m1) (k, noV) L6 w7 (by have := S.out.2.2.1; have := HJ.out; omega) ⟨HKK.out, HH.out.1 _ HKK.out⟩ (fun q hq => ⟨S.out.2.1 q hq, HH.out.1 _ (S.out.2.1 q hq)⟩) O7.out).mono ?_
        rintro e w8 ⟨y, rfl, hown, hb8⟩
        have B8 := Lib.hid (B7.out.trans (hb8.mono B7.out.size))
        have O8 := Lib.hid (own_base hown B7.out.size)
        clear hown hb8
        go_wp2_with fail
        go_roundg (l.length - (j + 1))
        case measure => have := HJ.out; omega
        case rel =>
          refine ⟨j + 1, by have := HJ.out; omega, by go_num, B8.out, ?_, ?_, ?_, by rw [HST2.out]; exact O8.out⟩
          · rw [HST2.out]
            intro q hq
            rcases ((putL_spec S.out.2.2.2.1).2 q).1 hq with rfl | ⟨h1, _⟩
            · exact HKK.out
            · exact S.out.2.1 q h1
          · rw [HST2.out, putL_length (p := (k, noV)) S.out.2.2.2.1]
            have := S.out.2.2.1
            split <;> omega
          · rw [HST2.out]
            exact (putL_spec S.out.2.2.2.1).1
    · obtain rfl : j = l.length := by omega
      rw [List.take_length] at S ⊢
      clear hb hj h1
      go_wp2_with fail
      go_ret
      exact ⟨_, rfl, S.out.2.2.2.2, S.out.2.1, S.out.1⟩
end
end Go.Proofs.YtdddhmipifkepaaGreat

namespace Go.Proofs.YtdddhmipifkepaaGreat
set_option maxRecDepth 100000
set_option linter.unusedSimpArgs false
set_option linter.unusedVariables false
open Go.RowKit Go.Shelf
attribute [local go_sem] Oper.semAt_some
structure Sm (w W : World) (b bh seed N root z3 z4 z5 z6 z7 i : Nat) (yv : Value) : Prop where
  kp : Kp (fun q => q = bh) w W
  hh : Hs W bh seed
  lb : C2 W z3 26 (ap b) (.pointer (some ⟨bh, 0, none⟩))
  sb : C2 W z4 54 (.int .i64 (N : Int)) (.int .i64 (root : Int))
  yb : C1 W z5 62 yv
  rb : C1 W z6 4 (.bool false)
  ib : C1 W z7 3 (.int .i64 (i : Int))
  zs : w.heap.size ≤ z3 ∧ z3 < z4 ∧ z4 < z5 ∧ z5 < z6 ∧ z6 < z7 ∧ bh < w.heap.size
section
variable {w W W' : World} {b bh seed N root z3 z4 z5 z6 z7 i : Nat} {yv : Value}
theorem Sm.kpz {G : Nat → Prop} (h : Sm w W b bh seed N root z3 z4 z5 z6 z7 i yv) (hk : Kp G W W') (hG : ∀ q, G q → w.heap.size ≤ q ∧ q ≠ z3 ∧ q ≠ z4 ∧ q ≠ z5 ∧ q ≠ z6 ∧ q ≠ z7) : Sm w W' b bh seed N root z3 z4 z5 z6 z7 i yv :=
  ⟨h.kp.trans hk (fun q hg => .inr (hG q hg).1), h.hh.kp hk (fun hg => by have := (hG _ hg).1; have := h.zs; omega), h.lb.kp hk (fun hg => (hG _ hg).2.1 rfl), h.sb.kp hk (fun hg => (hG _ hg).2.2.1 rfl), h.yb.kp hk (fun hg => (hG _ hg).2.2.2.1 rfl), h.rb.kp hk (fun hg => (hG _ hg).2.2.2.2.1 rfl), h.ib.kp hk (fun hg => (hG _ hg).2.2.2.2.2 rfl), h.zs⟩
theorem Sm.below (h : Sm w W b bh seed N root z3 z4 z5 z6 z7 i yv) (hb : Below W.heap.size W W') : Sm w W' b bh seed N root z3 z4 z5 z6 z7 i yv := h.kpz (Kp.of_below hb (fun _ => False)) (fun _ h => h.elim)
theorem Sm.hash (h : Sm w W b bh seed N root z3 z4 z5 z6 z7 i yv) (hk : Kp (fun q => q = bh) W W') (hh : Hs W' bh seed) : Sm w W' b bh seed N root z3 z4 z5 z6 z7 i yv := by
  obtain ⟨s1, s2, s3, s4, s5, s6⟩ := h.zs
  exact ⟨h.kp.trans hk (fun q hg => .inl hg), hh, h.lb.kp hk (by omega), h.sb.kp hk (by omega), h.yb.kp hk (by omega), h.rb.kp hk (by omega), h.ib.kp hk (by omega), h.zs⟩
theorem Sm.next (h : Sm w W b bh seed N root z3 z4 z5 z6 z7 i yv) : Sm w (W.setCell ⟨z7, 0, none⟩ (.int .i64 ((i + 1 : Nat) : Int))) b bh seed N root z3 z4 z5 z6 z7 (i + 1) yv ∧ Kp (fun q => q = z7) W (W.setCell ⟨z7, 0, none⟩ (.int .i64 ((i + 1 : Nat) : Int))) := by
  obtain ⟨s1, s2, s3, s4, s5, s6⟩ := h.zs
  have kz := Kp.one W z7 0 (.int .i64 ((i + 1 : Nat) : Int))
  exact ⟨⟨h.kp.trans kz (fun q e => .inr (by omega)), h.hh.kp kz (by omega), h.lb.kp kz (by omega), h.sb.kp kz (by omega), h.yb.kp kz (by omega), h.rb.kp kz (by omega), h.ib.set _, h.zs⟩, kz⟩
end
structure Sq (W : World) (b bh N root z3 z4 z5 z7 z8 i g o : Nat) (yv : Value) (k : Ky) : Prop where
  lb : C2 W z3 26 (ap b) (.pointer (some ⟨bh, 0, none⟩))
  sb : C2 W z4 54 (.int .i64 (N : Int)) (.int .i64 (root : Int))
  yb : C1 W z5 62 yv
  ib : C1 W z7 3 (.int .i64 (i : Int))
  kb : C3 W z8 36 (.int .u8 k.1) (.int .i64 k.2.1) (.string k.2.2)
  rc : W.cell? ⟨g, o + i * 6, none⟩ = some (.int .u8 k.1) ∧ W.cell? ⟨g, o + i * 6 + 1, none⟩ = some (.int .i64 k.2.1) ∧ W.cell? ⟨g, o + i * 6 + 2, none⟩ = some (.string k.2.2)
theorem Sq.kp {W W' : World} {b bh N root z3 z4 z5 z7 z8 i g o : Nat} {yv : Value} {k : Ky} {G : Nat → Prop} (h : Sq W b bh N root z3 z4 z5 z7 z8 i g o yv k) (hk : Kp G W W') (hG : ∀ q, q = z3 ∨ q = z4 ∨ q = z5 ∨ q = z7 ∨ q = z8 ∨ q = g → ¬ G q) : Sq W' b bh N root z3 z4 z5 z7 z8 i g o yv k :=
  ⟨h.lb.kp hk (hG _ (.inl rfl)), h.sb.kp hk (hG _ (.inr (.inl rfl))), h.yb.kp hk (hG _ (.inr (.inr (.inl rfl)))), h.ib.kp hk (hG _ (.inr (.inr (.inr (.inl rfl))))), h.kb.kp hk (hG _ (.inr (.inr (.inr (.inr (.inl rfl)))))), hk.cell h.rc.1 (hG _ (.inr (.inr (.inr (.inr (.inr rfl)))))), hk.cell h.rc.2.1 (hG _ (.inr (.inr (.inr (.inr (.inr rfl)))))), hk.cell h.rc.2.2 (hG _ (.inr (.inr (.inr (.inr (.inr rfl))))))⟩
theorem kw_of_kp {n0 l b most root : Nat} {M0 M : Cells} {F G : Nat → Prop} {A B : World} (h : Ar A b most M F) (hk : Kp G A B) (hF : ∀ q, G q → ¬ F q) (hG : ∀ q, G q → q < n0 ∧ ∀ o : Obj, A.heap[q]? = some o → o.isCells = true) : Kw n0 l b most M0 root A B ∧ KeepsOthers A B := by
  refine ⟨⟨Kv.of_kp h hk hF (fun q cur t hq hn _ => by have := (hG q hq).1; omega), fun q x hn hc hs => ⟨hc.kp hk (fun hq => by have := (hG q hq).1; omega), ?_⟩, fun q o hn _ ho hc => ?_, hk.size⟩, KeepsOthers.of_kp hk (fun q o hq ho => (hG q hq).2 o ho)⟩
  · obtain ⟨M1, F1, h1, h2⟩ := hs
    exact ⟨M1, _, (h1.meet h).kp hk (fun q hf hg => hF q hg hf.2), fun hf => h2 hf.1⟩
  · exact (hk.block q (Array.getElem?_eq_some_iff.1 ho).1 (fun hq => by have := (hG q hq).1; omega)).trans ho
theorem kw_below {n0 l b most root : Nat} {M0 : Cells} {A B : World} (hb : Below A.heap.size A B) : Kw n0 l b most M0 root A B ∧ KeepsOthers A B :=
  ⟨Kw.below hb, KeepsOthers.of_kp (Kp.of_below hb (fun _ => False)) (fun _ _ h => h.elim)⟩
section
variable {b bh seed most root : Nat} {M : Cells} {F : Nat → Prop} {hs : Ky → Nat} {L : List Pr}
set_option maxHeartbeats 8000000 in
theorem lsame10 (yv : Value) (w : World) (h : Ar w b most M F) (hz : M 0 = none) (hT : Mp M hs root L) (hh : Hs w bh seed) (nbh : ¬ F bh) (hhs : ∀ q, OkK q → hs q = hashN seed q.1 q.2.1 q.2.2) (hok : ∀ q ∈ L, OkK q.1) (hn : L.length ≤ 1000) (hy : Rd w yv L.length (L.flatMap pcells)) (hyl : ∀ q, yv.ownBlock = some q → q < w.heap.size ∧ q ≠ bh) :
    Calls Tryz.prog 32 #[land b bh, .agg #[.int .i64 (L.length : Nat), .int .i64 (root : Nat)], yv] w fun e w' => e = .returned (.bool true) ∧ Kp (fun q => q = bh) w w' ∧ Hs w' bh seed := by
  have hbl := hh.lt
  obtain ⟨Ay, cy, rfl, hcy⟩ := hy.form
  obtain ⟨W1, hW1⟩ : ∃ W1, W1 = ((((w.alloc (.cells #[ap b, .pointer (some ⟨bh, 0, none⟩)] 26)).alloc (.cells #[.int .i64 (L.length : Int), .int .i64 (root : Int)] 54)).alloc (.cells #[.slice Ay L.length cy] 62)).alloc (.cells #[.bool false] 4)).alloc (.cells #[.int .i64 0] 3) := ⟨_, rfl⟩
  have hb1 : Below w.heap.size w W1 := by rw [hW1]; exact (((((Below.refl _ w).alloc (Nat.le_refl _) _).alloc (by simp) _).alloc (by simp; omega) _).alloc (by simp; omega) _).alloc (by simp; omega) _
  have st : Sm w W1 b bh seed L.length root w.heap.size (w.heap.size + 1) (w.heap.size + 1 + 1) (w.heap.size + 1 + 1 + 1) (w.heap.size + 1 + 1 + 1 + 1) 0 (.slice Ay L.length cy) := by
    refine ⟨Kp.of_below hb1 _, hh.below hb1, ?_, ?_, ?_, ?_, ?_, ⟨by omega, by omega, by omega, by omega, by omega, hbl⟩⟩
    · rw [hW1]; exact ((((C2.new w 26 (ap b) (.pointer (some ⟨bh, 0, none⟩))).alloc _).alloc _).alloc _).alloc _
    · have h := (((C2.new (w.alloc (.cells #[ap b, .pointer (some ⟨bh, 0, none⟩)] 26)) 54 (.int .i64 (L.length : Int)) (.int .i64 (root : Int))).alloc (.cells #[.slice Ay L.length cy] 62)).alloc (.cells #[.bool false] 4)).alloc (.cells #[.int .i64 0] 3)
      rw [hW1]
      simpa using h
    · have h := ((C1.new ((w.alloc (.cells #[ap b, .pointer (some ⟨bh, 0, none⟩)] 26)).alloc (.cells #[.int .i64 (L.length : Int), .int .i64 (root : Int)] 54)) 62 (.slice Ay L.length cy)).alloc (.cells #[.bool false] 4)).alloc (.cells #[.int .i64 0] 3)
      rw [hW1]
      simpa using h
    · have h := (C1.new (((w.alloc (.cells #[ap b, .pointer (some ⟨bh, 0, none⟩)] 26)).alloc (.cells #[.int .i64 (L.length : Int), .int .i64 (root : Int)] 54)).alloc (.cells #[.slice Ay L.length cy] 62)) 4 (.bool false)).alloc (.cells #[.int .i64 0] 3)
      rw [hW1]
      simpa using h
    · have h := C1.new ((((w.alloc (.cells #[ap b, .pointer (some ⟨bh, 0, none⟩)] 26)).alloc (.cells #[.int .i64 (L.length : Int), .int .i64 (root : Int)] 54)).alloc (.cells #[.slice Ay L.length cy] 62)).alloc (.cells #[.bool false] 4)) 3 (.int .i64 0)
      rw [hW1]
      simpa using h
  have ST := Lib.hid st
  have HH := Lib.hid (And.intro h (And.intro hz (And.intro hT (And.intro nbh (And.intro hhs (And.intro hok hn))))))
  have HY := Lib.hid (And.intro hy hyl)
  clear h hz hT hh nbh hhs hok hn hy hyl hbl hb1 st
  refine (callsIn_wide (n := 4)).1 ?_
  refine callsIn_of_wp_marks Tryz.func32 rfl trivial ?_ rfl
  refine wpIn_wide.2 ?_
  simp only [Tryz.ntmps32, List.size_toArray, List.length_cons, List.length_nil, Nat.reduceAdd, Nat.reduceSub, Array.replicate_succ, Array.replicate_zero, List.push_toArray, List.append_toArray, List.nil_append, List.cons_append]
  go_upto_region 2 with fail
  rw [← hW1]
  obtain ⟨z3, hz3⟩ : ∃ z, z = w.heap.size := ⟨_, rfl⟩
  obtain ⟨z4, hz4⟩ : ∃ z, z = w.heap.size + 1 := ⟨_, rfl⟩
  obtain ⟨z5, hz5⟩ : ∃ z, z = w.heap.size + 1 + 1 := ⟨_, rfl⟩
  obtain ⟨z6, hz6⟩ : ∃ z, z = w.heap.size + 1 + 1 + 1 := ⟨_, rfl⟩
  obtain ⟨z7, hz7⟩ : ∃ z, z = w.heap.size + 1 + 1 + 1 + 1 := ⟨_, rfl⟩
  rw [← hz7, ← hz6, ← hz5, ← hz4, ← hz3] at ST
  rw [← hz7, ← hz6, ← hz5, ← hz4, ← hz3]
  clear hz3 hz4 hz5 hz6 hz7 hW1
  obtain ⟨x0, x1, _⟩ := ST.out.lb.all
  obtain ⟨x2, x3, _⟩ := ST.out.sb.all
  go_wp2_with fail
  refine (vValues b bh L.length root W1).mono ?_
  rintro x W3 ⟨zl, zs, rfl, ql, qm, hl1, hl2, hb3⟩
  have S3 := Lib.hid (ST.out.below hb3)
  have HFB := Lib.hid (show ∀ q, F q → q < w.heap.size from fun q hq => HH.out.1.lt hq)
  have A3 := Lib.hid (show Ar W3 b most M F from HH.out.1.kp S3.out.kp (fun q hf e => HH.out.2.2.2.1 (e ▸ hf)))
  have HG := Lib.hid (values_gives (b := b) (bh := bh) (most := most) (root := root) (N := L.length) (M0 := M) (hs := hs) (l := L) zl zs W3 (by have := HH.out.2.2.2.2.2.2; omega) HH.out.2.1 HH.out.2.2.1 ⟨M, F, A3.out, Pres.refl M root⟩ ql qm)
  have Z3 := Lib.hid (show z7 < W3.heap.size from S3.out.ib.lt)
  clear ql qm hl1 hl2 hb3 x0 x1 x2 x3 ST
  go_wp2_with fail
  refine wp_rangeL (encs := fun p : Pr => #[xagg p.1]) (Kp := fun lp => Kw W3.heap.size lp b most M root) (first := #[]) (last := #[.pointer (some ⟨zl, 0, none⟩), .pointer (some ⟨zs, 0, none⟩)]) (f := 112) rfl (fun _ _ => rfl) (fun _ => rfl) HG.out (fun h1 h2 => h1.trans h2) (fun W o o' ho hc => Kw.putObj ho hc)
    (fun i W' => Sm w W' b bh seed L.length root z3 z4 z5 z6 z7 i (.slice Ay L.length cy)) (fun c i W' => False) (fun i A B row h hg hr => ?_) (fun c i A B row h hg hr => h.elim) S3.out (fun A B hb => Kw.below hb) ?_ ?_ (fun D c i W' hD hi hf => hf.elim)
  · refine h.kpz (Kp.of_grown hg (F := fun q => row = some q) (fun q e => .inl e)) (fun q e => ?_)
    have h1 := (hr q e).1
    have h2 := Z3.out
    have h3 := h.zs
    exact ⟨by omega, by omega, by omega, by omega, by omega, by omega⟩
  · intro lp i x W4 hx hI hsz
    have S4 := Lib.hid hI
    have HX := Lib.hid hx
    have HS4 := Lib.hid hsz
    clear hI hx HG S3 hsz
    gi_wp2
    have hbA : Below W4.heap.size W4 (W4.alloc (.cells #[.int .u8 x.1.1, .int .i64 x.1.2.1, .string x.1.2.2] 36)) := (Below.refl _ W4).alloc (Nat.le_refl _) _
    refine ⟨hbA, fun j W' => Sm w W' b bh seed L.length root z3 z4 z5 z6 z7 j (.slice Ay L.length cy) ∧ C3 W' W4.heap.size 36 (.int .u8 x.1.1) (.int .i64 x.1.2.1) (.string x.1.2.2), fun i A B row h hg hr => ⟨?_, cells_own h.2 hg (B := W3.heap.size) hr⟩, ⟨S4.out.below hbA, C3.new _ _ _ _ _⟩, fun W5 hJ5 hs5 => ?_⟩
    · refine h.1.kpz (Kp.of_grown hg (F := fun q => row = some q) (fun q e => .inl e)) (fun q e => ?_)
      have h1 := (hr q e).1
      have h2 := Z3.out
      have h3 := h.1.zs
      exact ⟨by omega, by omega, by omega, by omega, by omega, by omega⟩
    · have S5 := Lib.hid hJ5
      have HZ8 := Lib.hid (show z7 < W4.heap.size ∧ bh < W4.heap.size ∧ w.heap.size ≤ W4.heap.size from by have := HS4.out; have := Z3.out; have := S4.out.zs; omega)
      clear hbA hJ5 S4
      gi_wp2
      obtain ⟨g, o, c, hge, r0, r1, r2, _⟩ := rd6 (S5.out.1.kp.rd HY.out.1 (fun q e hq => (HY.out.2 q e).2 hq)) HX.out
      simp only [Value.slice.injEq, true_and] at hge
      obtain ⟨rfl, rfl⟩ := hge
      have hgb : g < w.heap.size ∧ g ≠ bh := HY.out.2 g rfl
      have hil : i < L.length := (List.getElem?_eq_some_iff.1 HX.out).1
      have hLl : L.length ≤ 1000 := HH.out.2.2.2.2.2.2
      have y3 : (0 : Int) ≤ (i : Int) := by omega
      have y4 : (i : Int) < (L.length : Int) := by omega
      have y5 : ¬ L.length ≤ i := by omega
      have y6 : ¬ (L.length : Int) ≤ (i : Int) := by omega
      have sq : Sq W5 b bh L.length root z3 z4 z5 z7 W4.heap.size i g o (.slice (some ⟨g, o, none⟩) L.length cy) x.1 := ⟨S5.out.1.lb, S5.out.1.sb, S5.out.1.yb, S5.out.1.ib, S5.out.2, r0, r1, r2⟩
      have q30 : ∀ W', Sq W' b bh L.length root z3 z4 z5 z7 W4.heap.size i g o (.slice (some ⟨g, o, none⟩) L.length cy) x.1 → W'.cell? ⟨z3, 0, none⟩ = some (ap b) := fun W' h => h.lb.c0
      have q31 : ∀ W', Sq W' b bh L.length root z3 z4 z5 z7 W4.heap.size i g o (.slice (some ⟨g, o, none⟩) L.length cy) x.1 → W'.cell? ⟨z3, 1, none⟩ = some (.pointer (some ⟨bh, 0, none⟩)) := fun W' h => h.lb.c1
      have q40 : ∀ W', Sq W' b bh L.length root z3 z4 z5 z7 W4.heap.size i g o (.slice (some ⟨g, o, none⟩) L.length cy) x.1 → W'.cell? ⟨z4, 0, none⟩ = some (.int .i64 (L.length : Int)) := fun W' h => h.sb.c0
      have q41 : ∀ W', Sq W' b bh L.length root z3 z4 z5 z7 W4.heap.size i g o (.slice (some ⟨g, o, none⟩) L.length cy) x.1 → W'.cell? ⟨z4, 1, none⟩ = some (.int .i64 (root : Int)) := fun W' h => h.sb.c1
      have q50 : ∀ W', Sq W' b bh L.length root z3 z4 z5 z7 W4.heap.size i g o (.slice (some ⟨g, o, none⟩) L.length cy) x.1 → W'.cell? ⟨z5, 0, none⟩ = some (.slice (some ⟨g, o, none⟩) L.length cy) := fun W' h => h.yb.c0
      have q70 : ∀ W', Sq W' b bh L.length root z3 z4 z5 z7 W4.heap.size i g o (.slice (some ⟨g, o, none⟩) L.length cy) x.1 → W'.cell? ⟨z7, 0, none⟩ = some (.int .i64 (i : Int)) := fun W' h => h.ib.c0
      have q80 : ∀ W', Sq W' b bh L.length root z3 z4 z5 z7 W4.heap.size i g o (.slice (some ⟨g, o, none⟩) L.length cy) x.1 → W'.cell? ⟨W4.heap.size, 0, none⟩ = some (.int .u8 x.1.1) := fun W' h => h.kb.c0
      have q81 : ∀ W', Sq W' b bh L.length root z3 z4 z5 z7 W4.heap.size i g o (.slice (some ⟨g, o, none⟩) L.length cy) x.1 → W'.cell? ⟨W4.heap.size, 1, none⟩ = some (.int .i64 x.1.2.1) := fun W' h => h.kb.c1
      have q82 : ∀ W', Sq W' b bh L.length root z3 z4 z5 z7 W4.heap.size i g o (.slice (some ⟨g, o, none⟩) L.length cy) x.1 → W'.cell? ⟨W4.heap.size, 2, none⟩ = some (.string x.1.2.2) := fun W' h => h.kb.c2
      have qg0 : ∀ W', Sq W' b bh L.length root z3 z4 z5 z7 W4.heap.size i g o (.slice (some ⟨g, o, none⟩) L.length cy) x.1 → W'.cell? ⟨g, o + i * 6, none⟩ = some (.int .u8 x.1.1) := fun W' h => h.rc.1
      have qg1 : ∀ W', Sq W' b bh L.length root z3 z4 z5 z7 W4.heap.size i g o (.slice (some ⟨g, o, none⟩) L.length cy) x.1 → W'.cell? ⟨g, o + i * 6 + 1, none⟩ = some (.int .i64 x.1.2.1) := fun W' h => h.rc.2.1
      have qg2 : ∀ W', Sq W' b bh L.length root z3 z4 z5 z7 W4.heap.size i g o (.slice (some ⟨g, o, none⟩) L.length cy) x.1 → W'.cell? ⟨g, o + i * 6 + 2, none⟩ = some (.string x.1.2.2) := fun W' h => h.rc.2.2
      refine anyX_region (S := fun W' => Sq W' b bh L.length root z3 z4 z5 z7 W4.heap.size i g o (.slice (some ⟨g, o, none⟩) L.length cy) x.1) (X := []) (by kernel_rfl) ?_
      have hb6 : Below W5.heap.size W5 W5.drew := (Below.refl _ W5).drew
      have kw6 := kw_below (n0 := W3.heap.size) (l := W3.heap.size + 1) (b := b) (most := most) (root := root) (M0 := M) hb6
      have st6 := S5.out.1.below (Below.refl _ W5).drew
      have hH := sq.kp (Kp.of_below hb6 (fun _ => False)) (fun _ _ h => h)
      clear r0 r1 r2 sq hb6
      generalize W5.drew = W6 at kw6 st6 hH ⊢
      refine AnyX.first (i := 0) (v := ?_) (by kernel_rfl) (by kernel_rfl) rfl (by kernel_rfl) (by kernel_rfl) (by kernel_rfl) (fun _ _ _ h => h) ⟨fun _ => rfl, Or.inl ⟨by rfl, ?_⟩⟩ hH ?_
      rotate_left
      · intro W' hS
        go_simp
        with_reducible rfl
      simp only [Act.put, List.setIfInBounds_toArray, List.set_cons_zero, List.set_cons_succ, List.getElem_toArray, List.getElem_cons_zero, List.getElem_cons_succ]
      refine AnyX.first (i := 1) (v := ?_) (by kernel_rfl) (by kernel_rfl) rfl (by kernel_rfl) (by kernel_rfl) (by kernel_rfl) (fun _ _ _ h => h) ⟨fun _ => rfl, Or.inl ⟨by rfl, ?_⟩⟩ hH ?_
      rotate_left
      · intro W' hS
        go_simp
        with_reducible rfl
      simp only [Act.put, List.setIfInBounds_toArray, List.set_cons_zero, List.set_cons_succ, List.getElem_toArray, List.getElem_cons_zero, List.getElem_cons_succ]
      refine AnyX.first (i := 2) (v := ?_) (by kernel_rfl) (by kernel_rfl) rfl (by kernel_rfl) (by kernel_rfl) (by kernel_rfl) (fun _ _ _ h => h) ⟨fun _ => rfl, Or.inl ⟨by rfl, ?_⟩⟩ hH ?_
      rotate_left
      · intro W' hS
        go_simp
        with_reducible rfl
      simp only [Act.put, List.setIfInBounds_toArray, List.set_cons_zero, List.set_cons_succ, List.getElem_toArray, List.getElem_cons_zero, List.getElem_cons_succ]
      refine AnyX.first (i := 3) (v := ?_) (by kernel_rfl) (by kernel_rfl) rfl (by kernel_rfl) (by kernel_rfl) (by kernel_rfl) (fun _ _ _ h => h) ⟨fun _ => rfl, Or.inl ⟨by rfl, ?_⟩⟩ hH ?_
      rotate_left
      · intro W' hS
        go_simp
        with_reducible rfl
      simp only [Act.put, List.setIfInBounds_toArray, List.set_cons_zero, List.set_cons_succ, List.getElem_toArray, List.getElem_cons_zero, List.getElem_cons_succ]
      refine AnyX.first (i := 4) (v := ?_) (by kernel_rfl) (by kernel_rfl) rfl (by kernel_rfl) (by kernel_rfl) (by kernel_rfl) (fun _ _ _ h => h) ⟨fun _ => rfl, Or.inl ⟨by rfl, ?_⟩⟩ hH ?_
      rotate_left
      · intro W' hS
        go_simp
        with_reducible rfl
      simp only [Act.put, List.setIfInBounds_toArray, List.set_cons_zero, List.set_cons_succ, List.getElem_toArray, List.getElem_cons_zero, List.getElem_cons_succ]
      refine AnyX.first (i := 5) (v := ?_) (by kernel_rfl) (by kernel_rfl) rfl (by kernel_rfl) (by kernel_rfl) (by kernel_rfl) (fun _ _ _ h => h) ⟨fun _ => rfl, Or.inl ⟨by rfl, ?_⟩⟩ hH ?_
      rotate_left
      · intro W' hS
        go_simp
        with_reducible rfl
      simp only [Act.put, List.setIfInBounds_toArray, List.set_cons_zero, List.set_cons_succ, List.getElem_toArray, List.getElem_cons_zero, List.getElem_cons_succ]
      refine AnyX.first (i := 7) (v := ?_) (by kernel_rfl) (by kernel_rfl) rfl (by kernel_rfl) (by kernel_rfl) (by kernel_rfl) (fun _ _ _ h => h) ⟨fun _ => rfl, Or.inl ⟨by rfl, ?_⟩⟩ hH ?_
      rotate_left
      · intro W' hS
        go_simp
        with_reducible rfl
      simp only [Act.put, List.setIfInBounds_toArray, List.set_cons_zero, List.set_cons_succ, List.getElem_toArray, List.getElem_cons_zero, List.getElem_cons_succ]
      refine AnyX.first (i := 8) (v := ?_) (by kernel_rfl) (by kernel_rfl) rfl (by kernel_rfl) (by kernel_rfl) (by kernel_rfl) (fun _ _ _ h => h) ⟨fun _ => rfl, Or.inl ⟨by rfl, ?_⟩⟩ hH ?_
      rotate_left
      · intro W' hS
        go_simp
        with_reducible rfl
      simp only [Act.put, List.setIfInBounds_toArray, List.set_cons_zero, List.set_cons_succ, List.getElem_toArray, List.getElem_cons_zero, List.getElem_cons_succ]
      refine AnyX.first (i := 9) (v := ?_) (by kernel_rfl) (by kernel_rfl) rfl (by kernel_rfl) (by kernel_rfl) (by kernel_rfl) (fun _ _ _ h => h) ⟨fun _ => rfl, Or.inl ⟨by rfl, ?_⟩⟩ hH ?_
      rotate_left
      · intro W' hS
        go_simp
        with_reducible rfl
      simp only [Act.put, List.setIfInBounds_toArray, List.set_cons_zero, List.set_cons_succ, List.getElem_toArray, List.getElem_cons_zero, List.getElem_cons_succ]
      refine AnyX.first (i := 10) (v := ?_) (by kernel_rfl) (by kernel_rfl) rfl (by kernel_rfl) (by kernel_rfl) (by kernel_rfl) (fun _ _ _ h => h) ⟨fun _ => rfl, Or.inl ⟨by rfl, ?_⟩⟩ hH ?_
      rotate_left
      · intro W' hS
        go_simp
        with_reducible rfl
      simp only [Act.put, List.setIfInBounds_toArray, List.set_cons_zero, List.set_cons_succ, List.getElem_toArray, List.getElem_cons_zero, List.getElem_cons_succ]
      refine AnyX.first (i := 11) (v := ?_) (by kernel_rfl) (by kernel_rfl) rfl (by kernel_rfl) (by kernel_rfl) (by kernel_rfl) (fun _ _ _ h => h) ⟨fun _ => rfl, Or.inl ⟨by rfl, ?_⟩⟩ hH ?_
      rotate_left
      · intro W' hS
        go_simp
        with_reducible rfl
      simp only [Act.put, List.setIfInBounds_toArray, List.set_cons_zero, List.set_cons_succ, List.getElem_toArray, List.getElem_cons_zero, List.getElem_cons_succ]
      refine AnyX.one (i := 6) (by kernel_rfl) rfl (fun K hK => ?_)
      replace hK := Lib.hid hK
      go_simp
      refine ⟨trivial, rfl, (CallsIn.inRound lp ((callsIn_wide (n := 0)).2 (lof10 x.1 W6))).mono ?_⟩
      rintro e7 W7 ⟨rfl, hb7⟩
      have kw7 := And.intro (kw6.1.trans (kw_below hb7).1) (kw6.2.trans (kw_below (n0 := W3.heap.size) (l := W3.heap.size + 1) (b := b) (most := most) (root := root) (M0 := M) hb7).2)
      have st7 := st6.below hb7
      replace hH := hH.kp (Kp.of_below hb7 (fun _ => False)) (fun _ _ h => h)
      clear hb7 st6 kw6
      simp only
      refine hK.out _ _ ⟨.inr hH, ?_⟩
      clear hK K
      refine AnyX.first (i := 12) (v := ?_) (by kernel_rfl) (by kernel_rfl) rfl (by kernel_rfl) (by kernel_rfl) (by kernel_rfl) (fun _ _ _ h => h) ⟨fun _ => rfl, Or.inl ⟨by rfl, ?_⟩⟩ hH ?_
      rotate_left
      · intro W' hS
        go_simp
        with_reducible rfl
      simp only [Act.put, List.setIfInBounds_toArray, List.set_cons_zero, List.set_cons_succ, List.getElem_toArray, List.getElem_cons_zero, List.getElem_cons_succ]
      refine AnyX.first (i := 13) (v := ?_) (by kernel_rfl) (by kernel_rfl) rfl (by kernel_rfl) (by kernel_rfl) (by kernel_rfl) (fun _ _ _ h => h) ⟨fun _ => rfl, Or.inl ⟨by rfl, ?_⟩⟩ hH ?_
      rotate_left
      · intro W' hS
        go_simp
        with_reducible rfl
      simp only [Act.put, List.setIfInBounds_toArray, List.set_cons_zero, List.set_cons_succ, List.getElem_toArray, List.getElem_cons_zero, List.getElem_cons_succ]
      refine AnyX.first (i := 14) (v := ?_) (by kernel_rfl) (by kernel_rfl) rfl (by kernel_rfl) (by kernel_rfl) (by kernel_rfl) (fun _ _ _ h => h) ⟨fun _ => rfl, Or.inl ⟨by rfl, ?_⟩⟩ hH ?_
      rotate_left
      · intro W' hS
        go_simp
        with_reducible rfl
      simp only [Act.put, List.setIfInBounds_toArray, List.set_cons_zero, List.set_cons_succ, List.getElem_toArray, List.getElem_cons_zero, List.getElem_cons_succ]
      refine AnyX.first (i := 15) (v := ?_) (by kernel_rfl) (by kernel_rfl) rfl (by kernel_rfl) (by kernel_rfl) (by kernel_rfl) (fun _ _ _ h => h) ⟨fun _ => rfl, Or.inl ⟨by rfl, ?_⟩⟩ hH ?_
      rotate_left
      · intro W' hS
        go_simp
        with_reducible rfl
      simp only [Act.put, List.setIfInBounds_toArray, List.set_cons_zero, List.set_cons_succ, List.getElem_toArray, List.getElem_cons_zero, List.getElem_cons_succ]
      refine AnyX.first (i := 16) (v := ?_) (by kernel_rfl) (by kernel_rfl) rfl (by kernel_rfl) (by kernel_rfl) (by kernel_rfl) (fun _ _ _ h => h) ⟨fun _ => rfl, Or.inl ⟨by rfl, ?_⟩⟩ hH ?_
      rotate_left
      · intro W' hS
        go_simp
        with_reducible rfl
      simp only [Act.put, List.setIfInBounds_toArray, List.set_cons_zero, List.set_cons_succ, List.getElem_toArray, List.getElem_cons_zero, List.getElem_cons_succ]
      refine AnyX.first (i := 17) (v := ?_) (by kernel_rfl) (by kernel_rfl) rfl (by kernel_rfl) (by kernel_rfl) (by kernel_rfl) (fun _ _ _ h => h) ⟨fun _ => rfl, Or.inl ⟨by rfl, ?_⟩⟩ hH ?_
      rotate_left
      · intro W' hS
        go_simp
        with_reducible rfl
      simp only [Act.put, List.setIfInBounds_toArray, List.set_cons_zero, List.set_cons_succ, List.getElem_toArray, List.getElem_cons_zero, List.getElem_cons_succ]
      refine AnyX.one (i := 18) (by kernel_rfl) rfl (fun K hK => ?_)
      replace hK := Lib.hid hK
      go_simp
      have A7 := HH.out.1.kp st7.kp (fun q hf e => HH.out.2.2.2.1 (e ▸ hf))
      have hx := HX.out
      have hhas : hasB x.1 L = true := hasB_iff.2 ⟨x, List.mem_of_getElem? hx, rfl⟩
      have hv := vHas (l := L) b bh seed root L.length x.1 W7 A7 HH.out.2.1 HH.out.2.2.1 st7.hh HH.out.2.2.2.1 HH.out.2.2.2.2.1 (HH.out.2.2.2.2.2.1 x (List.mem_of_getElem? hx)) (by omega)
      rw [hhas] at hv
      clear hhas
      refine ⟨trivial, rfl, (CallsIn.inRound lp ((callsIn_wide (n := 0)).2 hv)).mono ?_⟩
      clear hv
      rintro e8 W8 ⟨rfl, hk8, hh8⟩
      have kk := kw_of_kp (n0 := W3.heap.size) (l := W3.heap.size + 1) (root := root) (M0 := M) A7 hk8 (fun q e hf => HH.out.2.2.2.1 (e ▸ hf)) (fun q e => ⟨by have := HZ8.out; have := Z3.out; have := st7.zs; omega, fun o ho => st7.hh.cells o (e ▸ ho)⟩)
      have kw8 := And.intro (kw7.1.trans kk.1) (kw7.2.trans kk.2)
      have hbz := HZ8.out
      have st8 := st7.hash hk8 hh8
      replace hH := hH.kp hk8 (fun q h e => by have := st7.zs; omega)
      clear kk hk8 hh8 A7 hx
      simp only
      refine hK.out _ _ ⟨.inr hH, ?_⟩
      clear hK K st7 kw7
      refine AnyX.first (i := 19) (v := ?_) (by kernel_rfl) (by kernel_rfl) rfl (by kernel_rfl) (by kernel_rfl) (by kernel_rfl) (fun _ _ _ h => h) ⟨fun _ => rfl, Or.inl ⟨by rfl, ?_⟩⟩ hH ?_
      rotate_left
      · intro W' hS
        go_simp
        with_reducible rfl
      simp only [Act.put, List.setIfInBounds_toArray, List.set_cons_zero, List.set_cons_succ, List.getElem_toArray, List.getElem_cons_zero, List.getElem_cons_succ]
      refine AnyX.first (i := 20) (v := ?_) (by kernel_rfl) (by kernel_rfl) rfl (by kernel_rfl) (by kernel_rfl) (by kernel_rfl) (fun _ _ _ h => h) ⟨fun _ => rfl, Or.inl ⟨by rfl, ?_⟩⟩ hH ?_
      rotate_left
      · intro W' hS
        go_simp
        with_reducible rfl
      simp only [Act.put, List.setIfInBounds_toArray, List.set_cons_zero, List.set_cons_succ, List.getElem_toArray, List.getElem_cons_zero, List.getElem_cons_succ]
      refine AnyX.done (by kernel_rfl) ?_ _
      clear q30 q31 q40 q41 q50 q70 q80 q81 q82 qg0 qg1 qg2
      have S8 := Lib.hid (And.intro st8 (And.intro kw8 HZ8.out))
      obtain ⟨x0, x1⟩ := S8.out.1.ib.all
      clear st8 kw8 hH hbz
      gi_wp2
      obtain ⟨n9, k9⟩ := S8.out.1.next
      have A8 := HH.out.1.kp S8.out.1.kp (fun q hf e => HH.out.2.2.2.1 (e ▸ hf))
      have kk := kw_of_kp (n0 := W3.heap.size) (l := W3.heap.size + 1) (root := root) (M0 := M) A8 k9 (fun q e hf => by have := HFB.out q hf; have := S8.out.1.zs; omega) (fun q e => ⟨by have := Z3.out; omega, fun o ho => by
        have h1 : W8.heap[z7]? = some _ := S8.out.1.ib
        rw [← e, ho] at h1
        cases h1
        rfl⟩)
      exact ⟨(S8.out.2.1.2.trans kk.2).from _, S8.out.2.1.1.trans kk.1, n9⟩
  · intro D W10 hD hI hdef
    have S := Lib.hid (And.intro hI (And.intro hdef hD))
    clear hI hdef HG S3
    obtain ⟨x0, x1⟩ := S.out.1.ib.all
    have x2 := S.out.1.yb.c0
    obtain ⟨x3, x4, _⟩ := S.out.1.sb.all
    obtain ⟨x5, x6⟩ := S.out.1.rb.all
    go_wp2_with fail
    have zs := S.out.1.zs
    have hz := Z3.out
    have hDz : W3.heap.size ≤ D := S.out.2.2
    have kz := Kp.one W10 z6 0 (.bool true)
    have hdf : (W10.setCell ⟨z6, 0, none⟩ (.bool true)).heap[D]? = some (.deferred (some [])) := (kz.block D (Array.getElem?_eq_some_iff.1 S.out.2.1).1 (by omega)).trans S.out.2.1
    have rb := S.out.1.rb.set (.bool true)
    have k1 := S.out.1.kp.trans kz (fun q e => .inr (by omega))
    refine ⟨by simp, .inl ⟨_, _, rfl, run_takeDeferred hdf, ?_⟩⟩
    have k2 := k1.trans (kp_putObj (x := D) (o := .deferred none)) (fun q e => .inr (by omega))
    have hne1 : z6 ≠ D := by omega
    have hne2 : D ≠ z6 := by omega
    have rb2 := (rb.kp (kp_putObj (x := D) (o := .deferred none)) hne1 : C1 _ z6 4 (.bool true))
    have rv := rb2.c0
    have hh2 := (S.out.1.hh.kp kz (by omega)).kp (kp_putObj (x := D) (o := .deferred none)) (by omega)
    clear hdf
    refine ⟨_, by simp [results, Tryz.results32, go_sem, rv], rfl, k2, hh2⟩
end
end Go.Proofs.YtdddhmipifkepaaGreat
