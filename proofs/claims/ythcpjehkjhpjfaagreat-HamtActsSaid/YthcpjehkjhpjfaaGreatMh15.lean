/- Several texts in one. -/
import Derived.Test.YthcpjehkjhpjfaaGreatMh14
import Derived.Test.YthcpjehkjhpjfaaGreatMh13
import Derived.Test.YthcpjehkjhpjfaaGreatMh11
import Derived.Test.YthcpjehkjhpjfaaGreatMh08
set_option linter.unusedSimpArgs false
namespace Go.Proofs.YthcpjehkjhpjfaaGreat
set_option maxRecDepth 100000
open Go.RowKit

theorem Rn.notF {w W : World} {b most : Nat} {M : Cells} {F F1 : Nat → Prop} (h : Rn w W b most M F F1) {q : Nat} (hq : W.heap.size ≤ q) : ¬ F1 q := fun hf => by
  have := h.ar.lt hf
  omega
theorem chgS_vals {f : FuncId} {caps : Array Value} {b most : Nat} {F : Nat → Prop} {w : World} {M1 : Cells} {c : Hc} (vals' : List V3)
    (hc : ∀ (o : Int) (A1 A2 : Option Addr) (c1 c2 : Nat) (W : World) (F1 : Nat → Prop), Rn w W b most M1 F F1 → W.ownsRow w.heap.size 43 3 (.slice A1 c.vals.length c1) c.vals.length (c.vals.flatMap cells3) →
      Calls Tryz.prog f (#[cagg o c.a c.b (.slice A1 c.vals.length c1) (.slice A2 c.kids.length c2)] ++ caps) W fun e W' => ∃ A3 c3 n3, e = .returned (cagg o c.a c.b (.slice A3 n3 c3) (.slice A2 c.kids.length c2)) ∧ n3 = vals'.length ∧
        W'.ownsRow w.heap.size 43 3 (.slice A3 n3 c3) n3 (vals'.flatMap cells3) ∧ Kp (fun q => (Value.slice A1 c.vals.length c1).ownBlock = some q) W W' ∧ (∀ q, (Value.slice A3 n3 c3).ownBlock = some q → (Value.slice A1 c.vals.length c1).ownBlock = some q ∨ W.heap.size ≤ q)) :
    ChgS f caps b most F w M1 c (fun c' M2 => c' = { c with vals := vals' } ∧ M2 = M1) := by
  intro o v k W F1 hRn nv nk o1 o2
  obtain ⟨A1, c1, rfl, _⟩ := (Rd.of_own o1).form
  obtain ⟨A2, c2, rfl, _⟩ := (Rd.of_own o2).form
  refine (hc o A1 A2 c1 c2 W F1 hRn o1).mono ?_
  rintro e W' ⟨A3, c3, n3, rfl, rfl, io, ik, ib⟩
  have hne : ∀ q, (Value.slice A2 c.kids.length c2).ownBlock = some q → ¬ (Value.slice A1 c.vals.length c1).ownBlock = some q := fun q hq e => by
    obtain ⟨cur, hcur⟩ := own_type o1 q e
    exact own_ne o2 hcur (by decide) q hq rfl
  refine ⟨_, _, { c with vals := vals' }, M1, F1, rfl, Rd.of_own io, Rd.of_own (ik.own o2 hne), hRn.mine ik (fun g hg => ⟨(own_blk o1 g hg).1, nv g hg⟩), fun q hq => ?_, nk, rfl, rfl⟩
  rcases ib q hq with h | h
  · exact nv q h
  · exact hRn.notF h
section
set_option maxHeartbeats 1600000 in
theorem vput2 (x : Wv) (zw zk zv : Nat) (o a b : Int) (l : List Pr) (k v : Ky) (base : Nat) (A1 A2 : Option Addr) (n1 c1 n2 c2 : Nat) (w : World) (hw : WC w zw x) (hk : C3 w zk 43 (.int .u8 k.1) (.int .i64 k.2.1) (.string k.2.2)) (hv : C3 w zv 43 (.int .u8 v.1) (.int .i64 v.2.1) (.string v.2.2))
    (hat : x.at' = 2 * lowN k l) (hhas : x.has = hasN k l) (hl : l.length ≤ 4096) (hn1 : n1 = (flatP l).length) (own : w.ownsRow base 43 3 (.slice A1 n1 c1) n1 ((flatP l).flatMap cells3)) (hB : base ≤ w.heap.size) :
    Calls Tryz.prog 144 (#[cagg o a b (.slice A1 n1 c1) (.slice A2 n2 c2)] ++ #[.pointer (some ⟨zw, 0, none⟩), .pointer (some ⟨zk, 0, none⟩), .pointer (some ⟨zv, 0, none⟩)]) w fun e w' => ∃ A3 c3 n3, e = .returned (cagg o a b (.slice A3 n3 c3) (.slice A2 n2 c2)) ∧ n3 = (flatP (leafP k v l)).length ∧
      w'.ownsRow base 43 3 (.slice A3 n3 c3) n3 ((flatP (leafP k v l)).flatMap cells3) ∧ Kp (fun q => (Value.slice A1 n1 c1).ownBlock = some q) w w' ∧ (∀ q, (Value.slice A3 n3 c3).ownBlock = some q → (Value.slice A1 n1 c1).ownBlock = some q ∨ w.heap.size ≤ q) := by
  obtain ⟨W0, hW0⟩ : ∃ W0, W0 = (w.alloc (.cells #[.int .u32 o, .int .u32 a, .int .u32 b, .slice A1 n1 c1, .slice A2 n2 c2] 136)).alloc (.cells #[.int .u32 0, .int .u32 0, .int .u32 0, .slice none 0 0, .slice none 0 0] 136) := ⟨_, rfl⟩
  have hsz : W0.heap.size = w.heap.size + 1 + 1 := by rw [hW0]; simp
  have hb0 : Below w.heap.size w W0 := by rw [hW0]; exact ((Below.refl _ w).alloc (Nat.le_refl _) _).alloc (by simp) _
  have q1 : C5 W0 w.heap.size 136 (.int .u32 o) (.int .u32 a) (.int .u32 b) (.slice A1 n1 c1) (.slice A2 n2 c2) := by
    rw [hW0]; exact (C5.new w 136 (.int .u32 o) (.int .u32 a) (.int .u32 b) (.slice A1 n1 c1) (.slice A2 n2 c2)).alloc _
  have q2 : C5 W0 (w.heap.size + 1) 136 (.int .u32 0) (.int .u32 0) (.int .u32 0) (.slice none 0 0) (.slice none 0 0) := by
    have := C5.new (w.alloc (.cells #[.int .u32 o, .int .u32 a, .int .u32 b, .slice A1 n1 c1, .slice A2 n2 c2] 136)) 136 (.int .u32 0) (.int .u32 0) (.int .u32 0) (.slice none 0 0) (.slice none 0 0)
    rw [hW0]
    simpa using this
  have own0 := (Kp.of_below hb0 (fun _ => False)).own own (fun _ _ h => h)
  have HKO := Lib.hid (show ∀ q, (Value.slice A1 n1 c1).ownBlock = some q → q < w.heap.size from fun q hq => (own_blk own q hq).2)
  subst hn1
  have HP := Lib.hid (vwithPair x o a b l k v base (.slice A1 (flatP l).length c1) A2 n2 c2 W0 hat hhas hl own0 (by omega))
  have HB0 := Lib.hid hb0
  have HSZ := Lib.hid hsz
  obtain ⟨m0, m1, m2, m3, m4, m5, m6, m7, m8, m9⟩ := (hw.below hb0).all
  obtain ⟨k0, k1, k2, _⟩ := (hk.below hb0).all
  obtain ⟨v0, v1, v2, _⟩ := (hv.below hb0).all
  obtain ⟨x0, x1, x2, x3, x4, _⟩ := q1.all
  have Q2 := Lib.hid q2
  have HW0 := Lib.hid hW0
  obtain ⟨n1, hn1⟩ : ∃ n1, n1 = (flatP l).length := ⟨_, rfl⟩
  rw [← hn1] at HP HKO x3 ⊢ HW0
  clear hat hhas own own0 hb0 hsz hw hk hv q1 q2 hW0 hn1 hB hl
  go_enter Tryz.func144, Tryz.ntmps144
  go_upto_region 1 with fail
  rw [← HW0.out]
  clear HW0
  go_wp2_with fail
  refine HP.out.mono ?_
  rintro e W1 ⟨A3, c3, n3, rfl, hn3, io, ik, ib⟩
  have q2 := Q2.out.kp ik (fun e => by have := HKO.out _ e; omega)
  obtain ⟨z0, z1, z2, z3, z4, u0, u1, u2, u3, u4⟩ := q2.all
  have IO := Lib.hid (And.intro hn3 io)
  have IK := Lib.hid ik
  have IB := Lib.hid ib
  clear io ik ib q2 hn3
  go_wp2_with fail
  have fin : ∀ W9, Kp (fun q => q = w.heap.size + 1) W1 W9 → W9.ownsRow base 43 3 (.slice A3 n3 c3) n3 ((flatP (leafP k v l)).flatMap cells3) ∧ Kp (fun q => (Value.slice A1 n1 c1).ownBlock = some q) w W9 ∧ (∀ q, (Value.slice A3 n3 c3).ownBlock = some q → (Value.slice A1 n1 c1).ownBlock = some q ∨ w.heap.size ≤ q) := fun W9 h9 => by
    have hs0 := HSZ.out
    refine ⟨h9.own IO.out.2 (fun q hq h => ?_), ((Kp.of_below HB0.out (fun q => (Value.slice A1 n1 c1).ownBlock = some q)).trans IK.out (fun q h => .inl h)).trans h9 (fun q h => .inr (by omega)), fun q hq => ?_⟩
    · rcases IB.out q hq with h1 | h1
      · have := HKO.out q h1; omega
      · omega
    · rcases IB.out q hq with h1 | h1
      · exact .inl h1
      · exact .inr (by omega)
  refine bodyPost_ret (v := cagg o a b (.slice A3 n3 c3) (.slice A2 n2 c2)) (by simp [results, Tryz.results144, go_sem, z0, z1, z2, z3, z4]) rfl ⟨A3, c3, n3, rfl, IO.out.1, fin _ ?_⟩
  repeat first
    | with_reducible exact Kp.refl _ _
    | with_reducible refine Kp.setCell ?_ (by simp) _
theorem chgS_put2 {b most : Nat} {F : Nat → Prop} {M1 : Cells} (x : Wv) (zw zk zv : Nat) (c : Hc) (l : List Pr) (k v : Ky) (w : World) (hw : WC w zw x) (hk : C3 w zk 43 (.int .u8 k.1) (.int .i64 k.2.1) (.string k.2.2)) (hv : C3 w zv 43 (.int .u8 v.1) (.int .i64 v.2.1) (.string v.2.2))
    (nF : ∀ z, z = zw ∨ z = zk ∨ z = zv → ¬ F z) (hc : c.vals = flatP l) (hat : x.at' = 2 * lowN k l) (hhas : x.has = hasN k l) (hl : l.length ≤ 4096) :
    ChgS 144 #[.pointer (some ⟨zw, 0, none⟩), .pointer (some ⟨zk, 0, none⟩), .pointer (some ⟨zv, 0, none⟩)] b most F w M1 c (fun c' M2 => c' = { c with vals := flatP (leafP k v l) } ∧ M2 = M1) := by
  refine chgS_vals _ (fun o A1 A2 c1 c2 W F1 hRn own => ?_)
  rw [hc] at own ⊢
  exact vput2 x zw zk zv o c.a c.b l k v w.heap.size A1 A2 _ c1 _ c2 W (hw.kp hRn.kp (nF _ (.inl rfl))) (hk.kp hRn.kp (nF _ (.inr (.inl rfl)))) (hv.kp hRn.kp (nF _ (.inr (.inr rfl)))) hat hhas hl rfl own hRn.kp.size
set_option maxHeartbeats 1600000 in
theorem vtake1 (x : Wv) (zw : Nat) (o a b : Int) (vs : List V3) (base : Nat) (A1 A2 : Option Addr) (n1 c1 n2 c2 : Nat) (w : World) (hw : WC w zw x) (hat : x.at' + 2 ≤ n1) (hl : n1 ≤ 100000) (hn1 : n1 = vs.length) (own : w.ownsRow base 43 3 (.slice A1 n1 c1) n1 (vs.flatMap cells3)) :
    Calls Tryz.prog 149 (#[cagg o a b (.slice A1 n1 c1) (.slice A2 n2 c2)] ++ #[.pointer (some ⟨zw, 0, none⟩)]) w fun e w' => ∃ A3 c3 n3, e = .returned (cagg o a b (.slice A3 n3 c3) (.slice A2 n2 c2)) ∧ n3 = (vs.take x.at' ++ vs.drop (x.at' + 2)).length ∧
      w'.ownsRow base 43 3 (.slice A3 n3 c3) n3 ((vs.take x.at' ++ vs.drop (x.at' + 2)).flatMap cells3) ∧ Kp (fun q => (Value.slice A1 n1 c1).ownBlock = some q) w w' ∧ (∀ q, (Value.slice A3 n3 c3).ownBlock = some q → (Value.slice A1 n1 c1).ownBlock = some q ∨ w.heap.size ≤ q) := by
  obtain ⟨g, rfl⟩ : ∃ g, A1 = some ⟨g, 0, none⟩ := by
    rcases own.2 with ⟨_, e⟩ | ⟨g, cap, cur, e, _⟩
    · omega
    · simp only [Value.slice.injEq] at e
      exact ⟨g, e.1⟩
  obtain ⟨W0, hW0⟩ : ∃ W0, W0 = (w.alloc (.cells #[.int .u32 o, .int .u32 a, .int .u32 b, .slice (some ⟨g, 0, none⟩) n1 c1, .slice A2 n2 c2] 136)).alloc (.cells #[.int .u32 0, .int .u32 0, .int .u32 0, .slice none 0 0, .slice none 0 0] 136) := ⟨_, rfl⟩
  have hsz : W0.heap.size = w.heap.size + 1 + 1 := by rw [hW0]; simp
  have hb0 : Below w.heap.size w W0 := by rw [hW0]; exact ((Below.refl _ w).alloc (Nat.le_refl _) _).alloc (by simp) _
  have q1 : C5 W0 w.heap.size 136 (.int .u32 o) (.int .u32 a) (.int .u32 b) (.slice (some ⟨g, 0, none⟩) n1 c1) (.slice A2 n2 c2) := by
    rw [hW0]; exact (C5.new w 136 (.int .u32 o) (.int .u32 a) (.int .u32 b) (.slice (some ⟨g, 0, none⟩) n1 c1) (.slice A2 n2 c2)).alloc _
  have q2 : C5 W0 (w.heap.size + 1) 136 (.int .u32 0) (.int .u32 0) (.int .u32 0) (.slice none 0 0) (.slice none 0 0) := by
    have := C5.new (w.alloc (.cells #[.int .u32 o, .int .u32 a, .int .u32 b, .slice (some ⟨g, 0, none⟩) n1 c1, .slice A2 n2 c2] 136)) 136 (.int .u32 0) (.int .u32 0) (.int .u32 0) (.slice none 0 0) (.slice none 0 0)
    rw [hW0]
    simpa using this
  have own0 := (Kp.of_below hb0 (fun _ => False)).own own (fun _ _ h => h)
  have hgw : g < w.heap.size := (own_blk own g rfl).2
  have HP := Lib.hid (vdeleteV base g n1 c1 x.at' (vs.flatMap cells3) W0 own0 hat (flat_one _))
  have hlen : (vs.take x.at' ++ vs.drop (x.at' + 2)).length = n1 - 2 := by rw [List.length_append, List.length_take, List.length_drop]; omega
  have HLEN := Lib.hid hlen
  have HB0 := Lib.hid hb0
  have HSZ := Lib.hid hsz
  obtain ⟨m0, m1, m2, m3, m4, m5, m6, m7, m8, m9⟩ := (hw.below hb0).all
  obtain ⟨x0, x1, x2, x3, x4, y0, y1, y2, y3, y4⟩ := q1.all
  have Q12 := Lib.hid (And.intro q1 q2)
  have HW0 := Lib.hid hW0
  have hi3 : IntKind.i64.wrap ((x.at' : Int) + 2) = (x.at' : Int) + 2 := by rw [IntKind.wrap_i64]; omega
  clear hat own own0 hb0 hsz hw q1 q2 hW0 hn1 hl hlen
  go_enter Tryz.func149, Tryz.ntmps149
  go_upto_region 1 with fail
  rw [← HW0.out]
  clear HW0
  go_wp2_with fail
  refine HP.out.mono ?_
  rintro e W1 ⟨rfl, io, ik⟩
  have hg1 : ¬ (w.heap.size = g) := by omega
  have hg2 : ¬ (w.heap.size + 1 = g) := by omega
  obtain ⟨x0, x1, x2, x3, x4, y0, y1, y2, y3, y4⟩ := (Q12.out.1.kp ik hg1).all
  obtain ⟨z0, z1, z2, z3, z4, u0, u1, u2, u3, u4⟩ := (Q12.out.2.kp ik hg2).all
  have IO := Lib.hid io
  have IK := Lib.hid ik
  clear io ik
  go_wp2_with fail
  refine bodyPost_ret (v := cagg o a b (.slice (some ⟨g, 0, none⟩) (n1 - 2) c1) (.slice A2 n2 c2)) (by simp [results, Tryz.results149, go_sem, z0, z1, z2, z3, z4]) rfl ⟨_, c1, n1 - 2, rfl, HLEN.out.symm, ?_, ?_, fun q hq => .inl hq⟩
  · have io := IO.out
    rw [flat3_del] at io
    have h9 : ∀ W9, Kp (fun q => q = w.heap.size ∨ q = w.heap.size + 1) W1 W9 → W9.ownsRow base 43 3 (.slice (some ⟨g, 0, none⟩) (n1 - 2) c1) (n1 - 2) ((vs.take x.at' ++ vs.drop (x.at' + 2)).flatMap cells3) := fun W9 h9 => h9.own io (fun q hq h => by
      cases hq
      rcases h with h | h
      · exact hg1 h.symm
      · exact hg2 h.symm)
    refine h9 _ ?_
    repeat first
      | with_reducible exact Kp.refl _ _
      | with_reducible refine Kp.setCell ?_ (by simp) _
  · have h9 : ∀ W9, Kp (fun q => q = w.heap.size ∨ q = w.heap.size + 1) W1 W9 → Kp (fun q => (Value.slice (some ⟨g, 0, none⟩) n1 c1).ownBlock = some q) w W9 := fun W9 h9 => by
      refine ((Kp.of_below HB0.out (fun q => (Value.slice (some ⟨g, 0, none⟩) n1 c1).ownBlock = some q)).trans IK.out (fun q h => .inl (by rw [h]; rfl))).trans h9 (fun q h => .inr (by omega))
    refine h9 _ ?_
    repeat first
      | with_reducible exact Kp.refl _ _
      | with_reducible refine Kp.setCell ?_ (by simp) _
theorem chgS_take1 {b most : Nat} {F : Nat → Prop} {M1 : Cells} (x : Wv) (zw : Nat) (c : Hc) (l : List Pr) (k : Ky) (w : World) (hw : WC w zw x) (nF : ¬ F zw) (hc : c.vals = flatP l) (hat : x.at' = 2 * lowN k l) (hlt : lowN k l < l.length) (hl : l.length ≤ 4096) :
    ChgS 149 #[.pointer (some ⟨zw, 0, none⟩)] b most F w M1 c (fun c' M2 => c' = { c with vals := flatP (l.eraseIdx (lowN k l)) } ∧ M2 = M1) := by
  refine chgS_vals _ (fun o A1 A2 c1 c2 W F1 hRn own => ?_)
  rw [hc] at own ⊢
  rw [flatP_erase hlt, ← hat]
  exact vtake1 x zw o c.a c.b (flatP l) w.heap.size A1 A2 _ c1 _ c2 W (hw.kp hRn.kp nF) (by rw [flatP_length]; omega) (by rw [flatP_length]; omega) rfl own
end

end Go.Proofs.YthcpjehkjhpjfaaGreat

namespace Go.Proofs.YthcpjehkjhpjfaaGreat
set_option maxRecDepth 100000


open Go.RowKit
structure Q3S (W : World) (zw zk zv zc : Nat) (x : Wv) (k v : Ky) (o ca cb : Int) (V K : Value) : Prop where
  wy : WC W zw x
  ck : C3 W zk 43 (.int .u8 k.1) (.int .i64 k.2.1) (.string k.2.2)
  cv : C3 W zv 43 (.int .u8 v.1) (.int .i64 v.2.1) (.string v.2.2)
  cc : C5 W zc 136 (.int .u32 o) (.int .u32 ca) (.int .u32 cb) V K
theorem Q3S.kp {W W' : World} {zw zk zv zc : Nat} {x : Wv} {k v : Ky} {o ca cb : Int} {V K : Value} {G : Nat → Prop} (h : Q3S W zw zk zv zc x k v o ca cb V K) (hk : Kp G W W') (hn : ¬ G zw ∧ ¬ G zk ∧ ¬ G zv ∧ ¬ G zc) : Q3S W' zw zk zv zc x k v o ca cb V K :=
  ⟨h.wy.kp hk hn.1, h.ck.kp hk hn.2.1, h.cv.kp hk hn.2.2.1, h.cc.kp hk hn.2.2.2⟩
section
variable {b most : Nat} {M1 : Cells} {F : Nat → Prop}
set_option maxHeartbeats 16000000 in
theorem chgS_put3 (x : Wv) (zw zk zv s lv : Nat) (k v : Ky) (w : World) (hwy : WC w zw x) (hk : C3 w zk 43 (.int .u8 k.1) (.int .i64 k.2.1) (.string k.2.2)) (hv : C3 w zv 43 (.int .u8 v.1) (.int .i64 v.2.1) (.string v.2.2))
    (nF : ∀ z, z = zw ∨ z = zk ∨ z = zv → ¬ F z) (c : Hc) (hs : c.a = (s : Int)) (hs2 : s < 4294967296) (hlv : c.b = (lv : Int)) (hlv2 : lv < 13) (hkl : c.kids.length ≤ 63) (hcl : cnt s (dg x.g lv) ≤ c.kids.length) (hroom : live (most + 1) M1 < most) :
    ChgS 146 #[.pointer (some ⟨zw, 0, none⟩), .pointer (some ⟨zk, 0, none⟩), .pointer (some ⟨zv, 0, none⟩)] x.b most F w M1 c
      (fun c' M2 => ∃ n : Nat, 1 ≤ n ∧ n ≤ most ∧ M1 n = none ∧ M2 = upd M1 n (some (⟨x.ow, 0, 13, [k, v], []⟩, 1)) ∧ c' = { c with kids := c.kids.insertIdx (cnt s (dg x.g lv)) n, a := ((s ||| 2 ^ dg x.g lv : Nat) : Int) }) := by
  intro o V K W F1 hRn nv nk o1 o2
  obtain ⟨A1, c1, rfl, _⟩ := (Rd.of_own o1).form
  obtain ⟨A2, c2, rfl, _⟩ := (Rd.of_own o2).form
  have nF1 : ∀ z, z < w.heap.size → ¬ F z → ¬ F1 z := fun z hz hn hf => (hRn.sub z hf).elim hn (fun h => by omega)
  have WY := hwy.kp hRn.kp (nF _ (.inl rfl))
  have CK := hk.kp hRn.kp (nF _ (.inr (.inl rfl)))
  have CV := hv.kp hRn.kp (nF _ (.inr (.inr rfl)))
  have hws := hRn.kp.size
  have hw1 := WY.lt
  have hk1 := CK.lt
  have hv1 := CV.lt
  have hw0 := hwy.lt
  have hk0 := hk.lt
  have hv0 := hv.lt
  obtain ⟨W0, hW0⟩ : ∃ W0, W0 = (W.alloc (.cells #[.int .u32 o, .int .u32 c.a, .int .u32 c.b, .slice A1 c.vals.length c1, .slice A2 c.kids.length c2] 136)).alloc (.cells #[.int .u32 0, .int .u32 0, .int .u32 0, .slice none 0 0, .slice none 0 0] 136) := ⟨_, rfl⟩
  have hsz : W0.heap.size = W.heap.size + 1 + 1 := by rw [hW0]; simp
  have hb0 : Below W.heap.size W W0 := by rw [hW0]; exact ((Below.refl _ W).alloc (Nat.le_refl _) _).alloc (by simp) _
  have q1 : C5 W0 W.heap.size 136 (.int .u32 o) (.int .u32 c.a) (.int .u32 c.b) (.slice A1 c.vals.length c1) (.slice A2 c.kids.length c2) := by
    rw [hW0]; exact (C5.new W 136 (.int .u32 o) (.int .u32 c.a) (.int .u32 c.b) (.slice A1 c.vals.length c1) (.slice A2 c.kids.length c2)).alloc _
  have q2 : C5 W0 (W.heap.size + 1) 136 (.int .u32 0) (.int .u32 0) (.int .u32 0) (.slice none 0 0) (.slice none 0 0) := by
    have := C5.new (W.alloc (.cells #[.int .u32 o, .int .u32 c.a, .int .u32 c.b, .slice A1 c.vals.length c1, .slice A2 c.kids.length c2] 136)) 136 (.int .u32 0) (.int .u32 0) (.int .u32 0) (.slice none 0 0) (.slice none 0 0)
    rw [hW0]
    simpa using this
  obtain ⟨WD, hWD⟩ : ∃ WD, WD = W0.drew := ⟨_, rfl⟩
  have hbD : Below W.heap.size W WD := by rw [hWD]; exact hb0.drew
  have hszD : WD.heap.size = W.heap.size + 1 + 1 := by rw [hWD]; exact hsz
  have q2D : C5 WD (W.heap.size + 1) 136 (.int .u32 0) (.int .u32 0) (.int .u32 0) (.slice none 0 0) (.slice none 0 0) := by rw [hWD]; exact q2
  have RND : Rn w WD x.b most M1 F F1 := hRn.mine (Kp.of_below hbD (fun _ => False)) (fun _ h => h.elim)
  have HNL := Lib.hid (vnewLeaf x k v most M1 F1 WD RND.ar hroom)
  have RN := Lib.hid RND
  have hSD : Q3S WD zw zk zv W.heap.size x k v o c.a c.b (.slice A1 c.vals.length c1) (.slice A2 c.kids.length c2) := ⟨WY.below hbD, CK.below hbD, CV.below hbD, by rw [hWD]; exact q1⟩
  have NFF := Lib.hid (show ¬ F1 zw ∧ ¬ F1 zk ∧ ¬ F1 zv ∧ ¬ F1 W.heap.size ∧ ¬ F1 (W.heap.size + 1) from ⟨nF1 _ hw0 (nF _ (.inl rfl)), nF1 _ hk0 (nF _ (.inr (.inl rfl))), nF1 _ hv0 (nF _ (.inr (.inr rfl))), hRn.notF (Nat.le_refl _), hRn.notF (Nat.le_succ _)⟩)
  have hKB := own_blk o2
  have hVB := own_blk o1
  have NKO := Lib.hid (show ∀ q, (Value.slice A2 c.kids.length c2).ownBlock = some q → w.heap.size ≤ q ∧ q < W.heap.size ∧ ¬ F1 q from fun q hq => ⟨(hKB q hq).1, (hKB q hq).2, nk q hq⟩)
  have NVO := Lib.hid (show ∀ q, (Value.slice A1 c.vals.length c1).ownBlock = some q → w.heap.size ≤ q ∧ q < W.heap.size ∧ ¬ F1 q from fun q hq => ⟨(hVB q hq).1, (hVB q hq).2, nv q hq⟩)
  have NVK := Lib.hid (show ∀ q, (Value.slice A1 c.vals.length c1).ownBlock = some q → ¬ (Value.slice A2 c.kids.length c2).ownBlock = some q from fun q hq e => by
    obtain ⟨cur, hcur⟩ := own_type o1 q hq
    exact own_ne o2 hcur (by decide) q e rfl)
  have ZZ := Lib.hid (show zw < W.heap.size ∧ zk < W.heap.size ∧ zv < W.heap.size ∧ zw < w.heap.size ∧ zk < w.heap.size ∧ zv < w.heap.size ∧ w.heap.size ≤ W.heap.size from ⟨hw1, hk1, hv1, hw0, hk0, hv0, hws⟩)
  have O1D := Lib.hid ((Kp.of_below hbD (fun _ => False)).own o1 (fun _ _ h => h))
  have O2D := Lib.hid ((Kp.of_below hbD (fun _ => False)).own o2 (fun _ _ h => h))
  have HWK := Lib.hid (fun (n : Nat) (W' : World) (hh : W'.ownsRow w.heap.size 3 1 (.slice A2 c.kids.length c2) c.kids.length (nums (ns c.kids))) (hsz' : w.heap.size ≤ W'.heap.size) => vwithKid o s lv x.g n w.heap.size c.vals.length c1 A1 (.slice A2 c.kids.length c2) c.kids W' hs2 hlv2 (by omega) hcl hh hsz')
  rw [← hs, ← hlv] at HWK
  have HSZ := Lib.hid hszD
  have Q2D := Lib.hid q2D
  have HSD := Lib.hid hSD
  have HBD := Lib.hid hbD
  have DOM := Lib.hid (show ∀ q, F1 q → q < W.heap.size from fun q hq => hRn.ar.lt hq)
  clear hRn nv nk o1 o2 hwy hk hv nF nF1 WY CK CV hws hw1 hk1 hv1 hw0 hk0 hv0 hb0 hbD q1 q2 q2D RND hsz hszD hs2 hlv2 hkl hcl hroom hKB hVB hs hlv
  have y0 : ∀ W', Q3S W' zw zk zv W.heap.size x k v o c.a c.b (.slice A1 c.vals.length c1) (.slice A2 c.kids.length c2) → W'.cell? ⟨zw, 0, none⟩ = some (ap x.b) := fun W' h => h.wy.at rfl
  have y1 : ∀ W', Q3S W' zw zk zv W.heap.size x k v o c.a c.b (.slice A1 c.vals.length c1) (.slice A2 c.kids.length c2) → W'.cell? ⟨zw, 1, none⟩ = some (.pointer (some ⟨x.bh, 0, none⟩)) := fun W' h => h.wy.at rfl
  have y2 : ∀ W', Q3S W' zw zk zv W.heap.size x k v o c.a c.b (.slice A1 c.vals.length c1) (.slice A2 c.kids.length c2) → W'.cell? ⟨zw, 2, none⟩ = some (.int .u32 x.ow) := fun W' h => h.wy.at rfl
  have y3 : ∀ W', Q3S W' zw zk zv W.heap.size x k v o c.a c.b (.slice A1 c.vals.length c1) (.slice A2 c.kids.length c2) → W'.cell? ⟨zw, 3, none⟩ = some (.int .u64 x.g) := fun W' h => h.wy.at rfl
  have y4 : ∀ W', Q3S W' zw zk zv W.heap.size x k v o c.a c.b (.slice A1 c.vals.length c1) (.slice A2 c.kids.length c2) → W'.cell? ⟨zw, 4, none⟩ = some (.int .i64 x.root) := fun W' h => h.wy.at rfl
  have y5 : ∀ W', Q3S W' zw zk zv W.heap.size x k v o c.a c.b (.slice A1 c.vals.length c1) (.slice A2 c.kids.length c2) → W'.cell? ⟨zw, 5, none⟩ = some (.slice x.A4 x.n4 x.c4) := fun W' h => h.wy.at rfl
  have y6 : ∀ W', Q3S W' zw zk zv W.heap.size x k v o c.a c.b (.slice A1 c.vals.length c1) (.slice A2 c.kids.length c2) → W'.cell? ⟨zw, 6, none⟩ = some (.slice x.A5 x.n5 x.c5) := fun W' h => h.wy.at rfl
  have y7 : ∀ W', Q3S W' zw zk zv W.heap.size x k v o c.a c.b (.slice A1 c.vals.length c1) (.slice A2 c.kids.length c2) → W'.cell? ⟨zw, 7, none⟩ = some (.slice x.A6 x.n6 x.c6) := fun W' h => h.wy.at rfl
  have y8 : ∀ W', Q3S W' zw zk zv W.heap.size x k v o c.a c.b (.slice A1 c.vals.length c1) (.slice A2 c.kids.length c2) → W'.cell? ⟨zw, 8, none⟩ = some (.int .i64 x.at') := fun W' h => h.wy.at rfl
  have y9 : ∀ W', Q3S W' zw zk zv W.heap.size x k v o c.a c.b (.slice A1 c.vals.length c1) (.slice A2 c.kids.length c2) → W'.cell? ⟨zw, 9, none⟩ = some (.bool x.has) := fun W' h => h.wy.at rfl
  have kk0 : ∀ W', Q3S W' zw zk zv W.heap.size x k v o c.a c.b (.slice A1 c.vals.length c1) (.slice A2 c.kids.length c2) → W'.cell? ⟨zk, 0, none⟩ = some (.int .u8 k.1) := fun W' h => h.ck.c0
  have kk1 : ∀ W', Q3S W' zw zk zv W.heap.size x k v o c.a c.b (.slice A1 c.vals.length c1) (.slice A2 c.kids.length c2) → W'.cell? ⟨zk, 1, none⟩ = some (.int .i64 k.2.1) := fun W' h => h.ck.c1
  have kk2 : ∀ W', Q3S W' zw zk zv W.heap.size x k v o c.a c.b (.slice A1 c.vals.length c1) (.slice A2 c.kids.length c2) → W'.cell? ⟨zk, 2, none⟩ = some (.string k.2.2) := fun W' h => h.ck.c2
  have kv0 : ∀ W', Q3S W' zw zk zv W.heap.size x k v o c.a c.b (.slice A1 c.vals.length c1) (.slice A2 c.kids.length c2) → W'.cell? ⟨zv, 0, none⟩ = some (.int .u8 v.1) := fun W' h => h.cv.c0
  have kv1 : ∀ W', Q3S W' zw zk zv W.heap.size x k v o c.a c.b (.slice A1 c.vals.length c1) (.slice A2 c.kids.length c2) → W'.cell? ⟨zv, 1, none⟩ = some (.int .i64 v.2.1) := fun W' h => h.cv.c1
  have kv2 : ∀ W', Q3S W' zw zk zv W.heap.size x k v o c.a c.b (.slice A1 c.vals.length c1) (.slice A2 c.kids.length c2) → W'.cell? ⟨zv, 2, none⟩ = some (.string v.2.2) := fun W' h => h.cv.c2
  have kc0 : ∀ W', Q3S W' zw zk zv W.heap.size x k v o c.a c.b (.slice A1 c.vals.length c1) (.slice A2 c.kids.length c2) → W'.cell? ⟨W.heap.size, 0, none⟩ = some (.int .u32 o) := fun W' h => h.cc.c0
  have kc1 : ∀ W', Q3S W' zw zk zv W.heap.size x k v o c.a c.b (.slice A1 c.vals.length c1) (.slice A2 c.kids.length c2) → W'.cell? ⟨W.heap.size, 1, none⟩ = some (.int .u32 c.a) := fun W' h => h.cc.c1
  have kc2 : ∀ W', Q3S W' zw zk zv W.heap.size x k v o c.a c.b (.slice A1 c.vals.length c1) (.slice A2 c.kids.length c2) → W'.cell? ⟨W.heap.size, 2, none⟩ = some (.int .u32 c.b) := fun W' h => h.cc.c2
  have kc3 : ∀ W', Q3S W' zw zk zv W.heap.size x k v o c.a c.b (.slice A1 c.vals.length c1) (.slice A2 c.kids.length c2) → W'.cell? ⟨W.heap.size, 3, none⟩ = some (.slice A1 c.vals.length c1) := fun W' h => h.cc.c3
  have kc4 : ∀ W', Q3S W' zw zk zv W.heap.size x k v o c.a c.b (.slice A1 c.vals.length c1) (.slice A2 c.kids.length c2) → W'.cell? ⟨W.heap.size, 4, none⟩ = some (.slice A2 c.kids.length c2) := fun W' h => h.cc.c4
  have HW0 := Lib.hid hW0
  have HWD := Lib.hid hWD
  clear hW0 hWD hSD
  show Calls Tryz.prog 146 #[cagg o c.a c.b (.slice A1 c.vals.length c1) (.slice A2 c.kids.length c2), .pointer (some ⟨zw, 0, none⟩), .pointer (some ⟨zk, 0, none⟩), .pointer (some ⟨zv, 0, none⟩)] W _
  go_enter Tryz.func146, Tryz.ntmps146
  go_upto_region 1 with fail
  rw [← HW0.out]
  clear HW0
  refine wp_region_noPanic ?_
  refine wp_region_held_drew (S := fun W' => Q3S W' zw zk zv W.heap.size x k v o c.a c.b (.slice A1 c.vals.length c1) (.slice A2 c.kids.length c2)) (by kernel_rfl) (by rw [← HWD.out]; exact HSD.out) (fun hH => ?_)
  rw [← HWD.out] at hH ⊢
  clear HWD
  refine tkH ?_ 0 hH ?_ ?_; rotate_left
  · intro W' hS; go_simp; with_reducible rfl
  simp only [tkr]
  refine tkH ?_ 1 hH ?_ ?_; rotate_left
  · intro W' hS; go_simp; with_reducible rfl
  simp only [tkr]
  refine tkH ?_ 2 hH ?_ ?_; rotate_left
  · intro W' hS; go_simp; with_reducible rfl
  simp only [tkr]
  refine tkH ?_ 3 hH ?_ ?_; rotate_left
  · intro W' hS; go_simp; with_reducible rfl
  simp only [tkr]
  refine tkH ?_ 4 hH ?_ ?_; rotate_left
  · intro W' hS; go_simp; with_reducible rfl
  simp only [tkr]
  refine tkH ?_ 5 hH ?_ ?_; rotate_left
  · intro W' hS; go_simp; with_reducible rfl
  simp only [tkr]
  refine rdH 6 rfl (fun K hK => ?_)
  go_simp
  refine HNL.out.mono ?_
  rintro e W1 ⟨n, rfl, n1, n2, n3, hst⟩
  have hS1 := hH.kp hst.kp ⟨NFF.out.1, NFF.out.2.1, NFF.out.2.2.1, NFF.out.2.2.2.1⟩
  have ST := Lib.hid hst
  have NN := Lib.hid (And.intro n1 (And.intro n2 n3))
  have hO2 := hst.kp.own O2D.out (fun q hq => (NKO.out q hq).2.2)
  have hs1 : w.heap.size ≤ W1.heap.size := Nat.le_trans (by have := ZZ.out; have := HSZ.out; omega) hst.kp.size
  have HW := Lib.hid (HWK.out n W1 hO2 hs1)
  clear hst n1 n2 n3 hO2 hs1 hH
  simp only
  refine hK.out _ _ ?_ (fun hH => ?_)
  · exact hS1
  clear hK K hS1
  refine rdH 7 rfl (fun K hK => ?_)
  go_simp
  refine HW.out.mono ?_
  rintro e W2 ⟨A3, c3, rfl, io, ik, ib⟩
  have NKZ : ∀ z, z < w.heap.size ∨ W.heap.size ≤ z → ¬ (Value.slice A2 c.kids.length c2).ownBlock = some z := fun z hz e => by have := NKO.out z e; omega
  have hS2 := hH.kp ik ⟨NKZ _ (.inl ZZ.out.2.2.2.1), NKZ _ (.inl ZZ.out.2.2.2.2.1), NKZ _ (.inl ZZ.out.2.2.2.2.2.1), NKZ _ (.inr (Nat.le_refl _))⟩
  have q3 := ((Q2D.out.kp ST.out.kp NFF.out.2.2.2.2).kp ik (NKZ _ (.inr (Nat.le_succ _))))
  have IO := Lib.hid io
  have IK := Lib.hid ik
  have IB := Lib.hid ib
  have Q3 := Lib.hid q3
  clear io ik ib NKZ q3 hH
  simp only
  refine hK.out _ _ ?_ (fun hH => ?_)
  · exact hS2
  clear hK K hS2
  refine rdH 8 rfl (fun K hK => ?_)
  obtain ⟨z0, z1, z2, z3, z4, u0, u1, u2, u3, u4⟩ := Q3.out.all
  go_simp
  refine hK.out _ _ ?_ (fun hH => ?_)
  · refine hH.kp (G := fun q => q = W.heap.size + 1) ?_ ?_
    · repeat first
        | with_reducible exact Kp.refl _ _
        | with_reducible refine Kp.setCell ?_ (by simp) _
    · have := ZZ.out
      omega
  clear hK K
  refine wpAnyH_done (by kernel_rfl) ?_ _
  refine NoPanic.normal ?_
  go_wp2_with fail
  have fin : ∀ W9, Kp (fun q => q = W.heap.size + 1) W2 W9 → Rd W9 (.slice A1 c.vals.length c1) c.vals.length (c.vals.flatMap cells3) ∧ W9.ownsRow w.heap.size 3 1 (.slice A3 (c.kids.length + 1) c3) (c.kids.length + 1) (nums (ns (c.kids.insertIdx (cnt s (dg x.g lv)) n))) ∧ Rn w W9 x.b most (upd M1 n (some (⟨x.ow, 0, 13, [k, v], []⟩, 1))) F (Fn F1 WD W1) ∧ (∀ q, (Value.slice A1 c.vals.length c1).ownBlock = some q → ¬ Fn F1 WD W1 q) ∧ (∀ q, (Value.slice A3 (c.kids.length + 1) c3).ownBlock = some q → ¬ Fn F1 WD W1 q) := fun W9 h9 => by
    have hsz := HSZ.out
    have zz := ZZ.out
    have hs1 := ST.out.kp.size
    have nFn : ∀ q, q < W.heap.size + 2 → ¬ F1 q → ¬ Fn F1 WD W1 q := fun q hq hn hf => by
      rcases hf with hf | hf
      · exact hn hf
      · have h3 : WD.heap.size ≤ q := hf.1
        omega
    have nb : ∀ q, (Value.slice A2 c.kids.length c2).ownBlock = some q → ¬ Fn F1 WD W1 q := fun q hq => nFn q (by have := NKO.out q hq; omega) (NKO.out q hq).2.2
    have hRn2 := ((RN.out.stp ST.out).mine IK.out (fun g hg => ⟨(NKO.out g hg).1, nb g hg⟩)).mine h9 (fun g hg => by
      refine ⟨by omega, nFn g (by omega) ?_⟩
      rw [hg]; exact NFF.out.2.2.2.2)
    refine ⟨Rd.of_own (h9.own (IK.out.own (ST.out.kp.own O1D.out (fun q hq => (NVO.out q hq).2.2)) (fun q hq => NVK.out q hq)) (fun q hq h => by have := NVO.out q hq; omega)), h9.own IO.out (fun q hq h => ?_), hRn2, fun q hq => nFn q (by have := NVO.out q hq; omega) (NVO.out q hq).2.2, fun q hq hf => ?_⟩
    · rcases IB.out q hq with h1 | h1
      · have := NKO.out q h1; omega
      · omega
    · rcases IB.out q hq with h1 | h1
      · exact nb q h1 hf
      · rcases hf with hf | hf
        · have := DOM.out q hf; omega
        · have h3 : q < W1.heap.size := hf.2
          omega
  have fin2 : ∀ W9, Kp (fun q => q = W.heap.size + 1) W2 W9 → ∃ v' k' c' M2 F2, Ending.returned (cagg o (s ||| 2 ^ dg x.g lv : Nat) c.b (.slice A1 c.vals.length c1) (.slice A3 (c.kids.length + 1) c3)) = .returned (cagg o c'.a c'.b v' k') ∧ Rd W9 v' c'.vals.length (c'.vals.flatMap cells3) ∧ Rd W9 k' c'.kids.length (nums (ns c'.kids)) ∧ Rn w W9 x.b most M2 F F2 ∧ (∀ q, v'.ownBlock = some q → ¬ F2 q) ∧ (∀ q, k'.ownBlock = some q → ¬ F2 q) ∧
      (∃ n : Nat, 1 ≤ n ∧ n ≤ most ∧ M1 n = none ∧ M2 = upd M1 n (some (⟨x.ow, 0, 13, [k, v], []⟩, 1)) ∧ c' = { c with kids := c.kids.insertIdx (cnt s (dg x.g lv)) n, a := ((s ||| 2 ^ dg x.g lv : Nat) : Int) }) := fun W9 h9 => by
    obtain ⟨f1, f2, f3, f4, f5⟩ := fin W9 h9
    have hlen : (c.kids.insertIdx (cnt s (dg x.g lv)) n).length = c.kids.length + 1 := by
      have h1 := f2.1
      rw [nums_length] at h1
      unfold ns at h1
      rw [List.length_map] at h1
      omega
    refine ⟨.slice A1 c.vals.length c1, .slice A3 (c.kids.length + 1) c3, { c with kids := c.kids.insertIdx (cnt s (dg x.g lv)) n, a := ((s ||| 2 ^ dg x.g lv : Nat) : Int) }, _, _, rfl, f1, ?_, f3, f4, f5, n, NN.out.1, NN.out.2.1, NN.out.2.2, rfl, rfl⟩
    show Rd _ _ (c.kids.insertIdx (cnt s (dg x.g lv)) n).length _
    rw [hlen]
    exact Rd.of_own f2
  clear fin
  refine bodyPost_ret (v := cagg o (s ||| 2 ^ dg x.g lv : Nat) c.b (.slice A1 c.vals.length c1) (.slice A3 (c.kids.length + 1) c3)) (by simp [results, Tryz.results146, go_sem, z0, z1, z2, z3, z4]) rfl (fin2 _ ?_)
  repeat first
    | with_reducible exact Kp.refl _ _
    | with_reducible refine Kp.setCell ?_ (by simp) _
end

end Go.Proofs.YthcpjehkjhpjfaaGreat

namespace Go.Proofs.YthcpjehkjhpjfaaGreat
set_option maxRecDepth 100000
open Go.RowKit
section
variable {most : Nat} {M : Cells} {F : Nat → Prop}
set_option maxHeartbeats 800000 in
theorem vput1 (x : Wv) (zw zk zv i : Nat) (k v : Ky) (w : World) (h : Ar w x.b most M F) (hw : WC w zw x) (hk : C3 w zk 43 (.int .u8 k.1) (.int .i64 k.2.1) (.string k.2.2)) (hv : C3 w zv 43 (.int .u8 v.1) (.int .i64 v.2.1) (.string v.2.2)) (hroom : live (most + 1) M < most) :
    Calls Tryz.prog 139 (#[.int .i64 (i : Nat)] ++ #[.pointer (some ⟨zw, 0, none⟩), .pointer (some ⟨zk, 0, none⟩), .pointer (some ⟨zv, 0, none⟩)]) w fun e w' => ∃ n : Nat, e = .returned (.int .i64 n) ∧ 1 ≤ n ∧ n ≤ most ∧ M n = none ∧ Stp w w' x.b most (upd M n (some (⟨x.ow, 0, 13, [k, v], []⟩, 1))) F := by
  have HN := Lib.hid (vnewLeaf x k v most M F w h hroom)
  obtain ⟨m0, m1, m2, m3, m4, m5, m6, m7, m8, m9⟩ := hw.all
  obtain ⟨k0, k1, k2, _⟩ := hk.all
  obtain ⟨v0, v1, v2, _⟩ := hv.all
  clear h hw hk hv hroom
  show Calls Tryz.prog 139 #[.int .i64 (i : Nat), .pointer (some ⟨zw, 0, none⟩), .pointer (some ⟨zk, 0, none⟩), .pointer (some ⟨zv, 0, none⟩)] w _
  go_enter Tryz.func139, Tryz.ntmps139
  go_wp2_with fail
  refine HN.out.mono ?_
  rintro e w1 ⟨n, rfl, hr⟩
  have HR := Lib.hid hr
  clear hr
  go_wp2_with fail
  go_ret
  exact ⟨n, rfl, HR.out⟩
set_option maxHeartbeats 800000 in
theorem vtake2 (x : Wv) (zw i : Nat) (w : World) (h : Ar w x.b most M F) (hw : WC w zw x) (hr : ∀ j, rf (M j) ≤ 4611686018427387904) :
    Calls Tryz.prog 150 (#[.int .i64 (i : Nat)] ++ #[.pointer (some ⟨zw, 0, none⟩)]) w fun e w' => e = .returned (.int .i64 0) ∧ ∃ M', Drops M [i] M' ∧ Stp w w' x.b most M' F := by
  have HN := Lib.hid (vdrop1 i w h hr)
  obtain ⟨m0, m1, m2, m3, m4, m5, m6, m7, m8, m9⟩ := hw.all
  clear h hw hr
  show Calls Tryz.prog 150 #[.int .i64 (i : Nat), .pointer (some ⟨zw, 0, none⟩)] w _
  go_enter Tryz.func150, Tryz.ntmps150
  go_wp2_with fail
  refine HN.out.mono ?_
  rintro e w1 ⟨⟨z, rfl⟩, hr⟩
  have HR := Lib.hid hr
  clear hr
  go_wp2_with fail
  go_ret
  exact ⟨rfl, HR.out⟩
set_option maxHeartbeats 800000 in
theorem vtake3 (x : Wv) (zw zo i other : Nat) (w : World) (h : Ar w x.b most M F) (hw : WC w zw x) (ho : C1 w zo 3 (.int .i64 (other : Int))) (nF : ¬ F zw ∧ ¬ F zo) (hr : ∀ j, rf (M j) + 1 ≤ 4611686018427387904) :
    Calls Tryz.prog 153 (#[.int .i64 (i : Nat)] ++ #[.pointer (some ⟨zw, 0, none⟩), .pointer (some ⟨zo, 0, none⟩)]) w fun e w' => e = .returned (.int .i64 (other : Nat)) ∧ ∃ M', Drops (keepC M other) [i] M' ∧ Stp w w' x.b most M' F := by
  have HN := Lib.hid (vkeep1 other w h (by have := hr other; omega))
  have HD := Lib.hid (fun (w1 : World) (hs : Stp w w1 x.b most (keepC M other) F) => vdrop1 i w1 hs.ar (fun j => by
    have h1 := hr j
    have h2 : rf (keepC M other j) ≤ rf (M j) + 1 := by
      unfold keepC
      cases e : M other with
      | none => exact Nat.le_succ _
      | some y =>
        by_cases hj : j = other
        · subst hj
          show rf (upd M j _ j) ≤ _
          rw [upd_same, e]
          exact Nat.le_refl _
        · show rf (upd M other _ j) ≤ _
          rw [upd_other _ _ hj]
          exact Nat.le_succ _
    omega))
  have HW := Lib.hid hw
  have HO := Lib.hid ho
  have NF := Lib.hid nF
  have ko := ho.c0
  obtain ⟨m0, m1, m2, m3, m4, m5, m6, m7, m8, m9⟩ := hw.all
  clear h hw ho hr nF
  show Calls Tryz.prog 153 #[.int .i64 (i : Nat), .pointer (some ⟨zw, 0, none⟩), .pointer (some ⟨zo, 0, none⟩)] w _
  go_enter Tryz.func153, Tryz.ntmps153
  go_wp2_with fail
  refine HN.out.mono ?_
  rintro e w1 ⟨⟨z, rfl⟩, hs⟩
  have HS := Lib.hid hs
  have hw1 := HW.out.kp hs.kp NF.out.1
  have HO1 := Lib.hid (HO.out.kp hs.kp NF.out.2)
  have HW1 := Lib.hid hw1
  obtain ⟨m0, m1, m2, m3, m4, m5, m6, m7, m8, m9⟩ := hw1.all
  clear hs hw1
  go_wp2_with fail
  refine (HD.out w1 HS.out).mono ?_
  rintro e w2 ⟨⟨z2, rfl⟩, M', hd, hs⟩
  have nF2 : ¬ Fn F w w1 zo := fun hf => by
    rcases hf with hf | hf
    · exact NF.out.2 hf
    · have := HO.out.lt
      omega
  have ko2 := (HO1.out.kp hs.kp nF2).c0
  have HS2 := Lib.hid (HS.out.trans hs)
  have HDD := Lib.hid hd
  clear hs hd nF2
  go_wp2_with fail
  go_ret
  exact ⟨rfl, M', HDD.out, HS2.out⟩
end

end Go.Proofs.YthcpjehkjhpjfaaGreat
