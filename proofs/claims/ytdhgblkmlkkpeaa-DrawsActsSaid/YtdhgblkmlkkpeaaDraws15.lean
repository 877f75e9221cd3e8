/- Package draws: Left, Used, draw, pair, Next, More, New (slices.Clone): contracts, for every list of numbers. -/
import Derived.Test.YtdhgblkmlkkpeaaProg
import Derived.Test.YtdhgblkmlkkpeaaOs15
import Derived.ProofKit
import Derived.IntWalk
import Derived.Deep.LoopGhost
import Derived.RecoverIn
import Derived.RangeFuncLeaves
namespace Go.Proofs.Ytdhgblkmlkkpeaa
set_option maxRecDepth 100000
set_option linter.unusedSimpArgs false
set_option linter.unusedVariables false
open Go.RowKit
abbrev dp (b : Nat) : Value := .pointer (some ⟨b, 0, none⟩)
abbrev u8 (l : List Int) : List Value := l.map (fun x => .int .u64 x)
/-- A handle of two numbers. -/
abbrev ha (x y : Int) : Value := .agg #[.int .u64 x, .int .u64 y]
/-- Block b is Draws: l is left, u were drawn; v is the slice of those left. -/
structure Dr (w : World) (b B : Nat) (v : Value) (l : List Int) (u : Int) : Prop where
  row : w.heap[b]? = some (.cells #[v, .int .i64 u] 46 (0, 0))
  os : Os w B 27 v l.length (u8 l)
  ne : v.ownBlock ≠ some b
  blt : l.length ≤ 1000000
  u0 : 0 ≤ u ∧ u ≤ 1000000000
theorem row2 {w : World} {b : Nat} {v u : Value} {t : TypeId} (h : w.heap[b]? = some (.cells #[v, u] t (0, 0))) : w.cell? ⟨b, 0, none⟩ = some v ∧ w.cell? ⟨b, 1, none⟩ = some u ∧ w.frozen? ⟨b, 0, none⟩ = false ∧ w.frozen? ⟨b, 1, none⟩ = false :=
  ⟨by simpa using cell_of_row w b 0 _ t (0, 0) h, by simpa using cell_of_row w b 1 _ t (0, 0) h, frozen_of_row w b 0 _ t h, frozen_of_row w b 1 _ t h⟩
section
variable {w w' : World} {b B : Nat} {v : Value} {l : List Int} {u : Int}
theorem Dr.lt (h : Dr w b B v l u) : b < w.heap.size := (Array.getElem?_eq_some_iff.1 h.row).1
theorem Dr.kp {F : Nat → Prop} (h : Dr w b B v l u) (hk : Kp F w w') (hb : ¬ F b) (hv : ∀ k, v.ownBlock = some k → ¬ F k) : Dr w' b B v l u :=
  ⟨hk.at h.row hb, h.os.kp hk hv, h.ne, h.blt, h.u0⟩
theorem Dr.below (h : Dr w b B v l u) (hb : Below w.heap.size w w') : Dr w' b B v l u := h.kp (Kp.of_below hb (fun _ => False)) id (fun _ _ => id)

theorem dleft (h : Dr w b B v l u) : Calls Try.prog 12 #[dp b] w fun e w' => e = .returned (.int .i64 l.length) ∧ w = w' := by
  obtain ⟨A, c, rfl, hc⟩ := h.os.form
  obtain ⟨c0, c1, f0, f1⟩ := row2 h.row
  clear h
  go_enter Try.func12, Try.ntmps12
  go_wp2
  go_ret
  exact ⟨rfl, rfl⟩
theorem dused (h : Dr w b B v l u) : Calls Try.prog 13 #[dp b] w fun e w' => e = .returned (.int .i64 u) ∧ w = w' := by
  obtain ⟨c0, c1, f0, f1⟩ := row2 h.row
  clear h
  go_enter Try.func13, Try.ntmps13
  go_wp2
  go_ret
  exact ⟨rfl, rfl⟩
end
theorem und_u8 : Try.prog.underlying 22 = some (.slice 27) := by kernel_rfl
theorem elem_u8 : Try.prog.cellsOf 27 = 1 := by kernel_rfl
/-- What a draw leaves. -/
def Drew (w : World) (b B : Nat) (v : Value) (l : List Int) (u : Int) (w' : World) : Prop := ∃ v', Dr w' b B v' l u ∧ (∀ k, v'.ownBlock = some k → v.ownBlock = some k) ∧ Kp (fun k => k = b) w w'
section
variable {w : World} {b B : Nat} {v : Value} {l : List Int} {u x y : Int}
theorem Drew.trans {w1 w2 : World} {l1 l2 : List Int} {u1 u2 : Int} {v1 : Value} (h1 : Dr w1 b B v1 l1 u1 ∧ (∀ k, v1.ownBlock = some k → v.ownBlock = some k) ∧ Kp (fun k => k = b) w w1) (h2 : Drew w1 b B v1 l2 u2 w2) : Drew w b B v l2 u2 w2 := by
  obtain ⟨v2, d2, k2, p2⟩ := h2
  exact ⟨v2, d2, fun k hk => h1.2.1 k (k2 k hk), h1.2.2.trans p2 (fun q e => .inl e)⟩
set_option maxHeartbeats 1000000 in
theorem ddraw (h : Dr w b B v (x :: l) u) (hu : u + 1 ≤ 1000000000) : Calls Try.prog 17 #[dp b] w fun e w' => e = .returned (.int .u64 x) ∧ Drew w b B v l (u + 1) w' := by
  have hh := h
  obtain ⟨A, c, e0, hc⟩ := h.os.form
  subst e0
  have hA : A = none ∨ ∃ g o, A = some ⟨g, o, none⟩ := by
    obtain ⟨A', c', e1, _, _, hA, _⟩ := h.os.val
    simp only [Value.slice.injEq, true_and] at e1
    obtain ⟨rfl, rfl⟩ := e1
    exact hA.imp id (fun ⟨g, o, e, _⟩ => ⟨g, o, e⟩)
  obtain ⟨g, o, c', e1, _, hx⟩ := h.os.rd.at (j := 0) (u := .int .u64 x) rfl
  simp only [Value.slice.injEq, true_and] at e1
  obtain ⟨rfl, rfl⟩ := e1
  have hd := h.os.drop (t := 1) (by simp)
  obtain ⟨c0, c1, f0, f1⟩ := row2 h.row
  obtain ⟨u1, u2⟩ := h.u0
  have hw : IntKind.i64.wrap (u + 1) = u + 1 := IntWalk.i64_in _ (by omega)
  have hbl : b < w.heap.size := h.lt
  have hlt2 := h.blt
  have hne := h.ne
  have hr1 := h.row
  have cx : w.cell? ⟨g, o, none⟩ = some (.int .u64 x) := by simpa using hx
  have hl : ((x :: l).length : Int) = (l.length : Int) + 1 := by simp
  have key : ∀ v', (∀ k, v'.ownBlock = some k → some g = some k) → Os w B 27 v' l.length (u8 l) → Drew w b B (.slice (some ⟨g, o, none⟩) (x :: l).length c) l (u + 1) ((w.setCell ⟨b, 0, none⟩ v').setCell ⟨b, 1, none⟩ (.int .i64 (u + 1))) := fun v' h1 h2 => by
    have k1 := Kp.one w b 0 v'
    have k2 := Kp.one (w.setCell ⟨b, 0, none⟩ v') b 1 (.int .i64 (u + 1))
    have kk := k1.trans k2 (fun q e => .inl e)
    have r1 := heap_setCell_same w b 0 _ _ v' hr1
    have r2 := heap_setCell_same (w.setCell ⟨b, 0, none⟩ v') b 1 _ _ (.int .i64 (u + 1)) r1
    have hnb : ∀ k, v'.ownBlock = some k → k ≠ b := fun k hk e => by
      have h3 := h1 k hk
      simp only [Value.ownBlock] at hne
      subst e
      simp only [Option.some.injEq] at h3
      exact hne (by rw [h3])
    exact ⟨v', ⟨by simpa using r2, h2.kp kk hnb, fun e => hnb b e rfl, by simp at hlt2; omega, by omega⟩, fun k hk => h1 k hk, kk⟩
  by_cases hc1 : c = 1
  · subst hc1
    have hl0 : l = [] := by
      have := hc
      simp at this
      exact this
    subst hl0
    have K1 := Lib.hid (key (.slice (some ⟨g, o, none⟩) 0 0) (fun k hk => hk) (by simpa using hd))
    clear key hd hx h hh hA hr1 hne hlt2
    go_enter Try.func17, Try.ntmps17
    go_wp2
    go_ret
    exact ⟨rfl, K1.out⟩
  · have K1 := Lib.hid (key (.slice (some ⟨g, o + 1, none⟩) l.length (c - 1)) (fun k hk => hk) (by simpa [hc1, add_none] using hd))
    clear key hd hx h hh hA hr1 hne hlt2
    go_enter Try.func17, Try.ntmps17
    go_wp2
    go_ret
    exact ⟨rfl, K1.out⟩
theorem row2' {w w2 : World} {b : Nat} {x y x' y' : Value} {t : TypeId} (_ : w2.cell? ⟨w.heap.size, 0, none⟩ = some x') (_ : w2.cell? ⟨w.heap.size, 1, none⟩ = some y') (hk : Kp (fun k => k = b) (w.alloc (.cells #[x, y] t)) w2) (hb : w.heap.size ≠ b) : w2.heap[w.heap.size]? = some (.cells #[x, y] t (0, 0)) := hk.at (heap_alloc_new w _) hb
set_option maxHeartbeats 1000000 in
theorem dpair (h : Dr w b B v (x :: y :: l) u) (hu : u + 2 ≤ 1000000000) : Calls Try.prog 18 #[dp b] w fun e w' => e = .returned (ha x y) ∧ Drew w b B v l (u + 2) w' := by
  have h1 := h.below (w' := w.alloc (.cells #[.int .u64 0, .int .u64 0] 35)) ((Below.refl _ w).alloc (Nat.le_refl _) _)
  have K0 := Lib.hid h
  have K1 := Lib.hid h1
  have hbl := h.lt
  have hvl := fun k hk => (h.os.lt k hk).2
  have HV := Lib.hid hvl
  clear h h1 hvl
  go_enter Try.func18, Try.ntmps18
  go_wp2_with fail
  refine (ddraw K1.out (by omega)).mono ?_
  rintro e1 w1 ⟨rfl, v1, d1, o1, k1⟩
  have D1 := Lib.hid (And.intro d1 (And.intro o1 k1))
  clear d1 o1 k1
  go_wp2_with fail
  refine (ddraw D1.out.1 (by omega)).mono ?_
  rintro e2 w2 ⟨rfl, v2, d2, o2, k2⟩
  have kk := D1.out.2.2.trans k2 (fun q e => .inl e)
  have hbx : w2.heap[w.heap.size]? = some (.cells #[.int .u64 0, .int .u64 0] 35 (0, 0)) := kk.at (heap_alloc_new w _) (by omega)
  obtain ⟨c0, c1, f0, f1⟩ := row2 hbx
  have D2 := Lib.hid (And.intro d2 (And.intro o2 kk))
  have e2 : Hid (u + 1 + 1 = u + 2) := Lib.hid (by omega)
  clear d2 o2 k2 kk hbx
  go_wp2_with fail
  have hb : w.heap.size ≠ b := by omega
  have k3 := (Kp.one w2 w.heap.size 0 (.int .u64 x)).trans (Kp.one (w2.setCell ⟨w.heap.size, 0, none⟩ (.int .u64 x)) w.heap.size 1 (.int .u64 y)) (fun q e => .inl e)
  have hv2 : ∀ k, v2.ownBlock = some k → v.ownBlock = some k := fun k hk => D1.out.2.1 k (D2.out.2.1 k hk)
  have d3 := D2.out.1.kp k3 (fun e => hb e.symm) (fun k hk e => by have := HV.out k (hv2 k hk); omega)
  rw [e2.out] at d3
  have k0 := (Kp.refl (fun k => k = b) w).alloc (.cells #[.int .u64 0, .int .u64 0] 35)
  have k4 := (k0.trans D2.out.2.2 (fun q e => .inl e)).trans k3 (fun q e => .inr (by omega))
  have r1 := heap_setCell_same w2 w.heap.size 0 _ _ (.int .u64 x) (row2' c0 c1 D2.out.2.2 hb)
  have r2 := heap_setCell_same (w2.setCell ⟨w.heap.size, 0, none⟩ (.int .u64 x)) w.heap.size 1 _ _ (.int .u64 y) r1
  generalize (w2.setCell ⟨w.heap.size, 0, none⟩ (.int .u64 x)).setCell ⟨w.heap.size, 1, none⟩ (.int .u64 y) = W at d3 k4 r2 ⊢
  obtain ⟨x0, x1, _, _⟩ := row2 (by simpa using r2)
  clear c0 c1 f0 f1 r1 r2 k3
  exact bodyPost_ret (v := ha x y) (by simp [results, Try.results18, go_sem, x0, x1]) rfl ⟨rfl, v2, d3, hv2, k4⟩
end
/-- recover, where nothing panicked. -/
theorem free1 (n : Nat) (w : World) : CallsDIn Fence.wide n Try.prog 20 #[] .returning w fun e u' w' => (∃ v, e = .returned v) ∧ u' = .returning ∧ w' = w := by
  refine callsDIn_of_wpSIn Try.func20 rfl trivial fun c₀ cs hu => ?_
  simp only [Try.ntmps20, List.size_toArray, List.length_cons, List.length_nil, Nat.reduceAdd, Nat.reduceSub, Array.replicate_succ, Array.replicate_zero, List.push_toArray, List.append_toArray, List.nil_append, List.cons_append]
  apply wpSIn_region
  simp [wpOpsSIn, go_sem, recoverD, hu, Exit.thenS]
  cases c₀
  simp_all [bodyPostS, results, Try.results20]
set_option maxHeartbeats 1000000 in
theorem dfree {f : FuncId} {caps : Array Value} {x y : Int} {t : Bool} (w : World) (hf0 : ∀ (args : Array Value) (W : World), (callFunc f args).run Try.prog W = .ok (.enter f args) W)
    (hf : ∀ W, Below w.heap.size w W → Calls Try.prog f (#[ha x y] ++ caps) W fun e W' => e = .returned (.bool t) ∧ Below W.heap.size W W') :
    Calls Try.prog 19 #[.func (.func f) #[] caps, ha x y] w fun e w' => e = .returned (.bool (!t)) ∧ Below w.heap.size w w' := by
  have HF := Lib.hid hf
  have hnf : ∀ W, (binOp .eql 39 (.func (.func f) #[] caps) .nilFunc).run Try.prog W = .ok (.bool false) W := fun _ => rfl
  clear hf
  refine (callsIn_wide (n := 4)).1 ?_
  refine callsIn_of_wp_marks Try.func19 rfl trivial ?_ rfl
  refine wpIn_wide.2 ?_
  simp only [Try.ntmps19, List.size_toArray, List.length_cons, List.length_nil, Nat.reduceAdd, Nat.reduceSub, Array.replicate_succ, Array.replicate_zero, List.push_toArray, List.append_toArray, List.nil_append, List.cons_append]
  go_wp2_with fail
  refine (HF.out _ ((Below.refl _ w).alloc (Nat.le_refl _) _)).mono ?_
  rintro e1 w1 ⟨rfl, b1⟩
  have B1 := Lib.hid (((Below.refl _ w).alloc (Nat.le_refl _) (.cells #[.int .u64 x, .int .u64 y] 35)).trans (b1.mono (by simp)))
  clear b1 HF
  go_wp2_with fail
  refine ⟨by simp, .inr ⟨fun _ => by decide, .func 20, #[], 20, #[], rfl, by simp [go_sem], fun _ _ => trivial, ?_⟩⟩
  refine (free1 _ w1).mono ?_
  rintro e u' w' ⟨⟨v, rfl⟩, rfl, rfl⟩
  refine ⟨.bool (!t), by simp [results, Try.results19, go_sem], rfl, B1.out⟩
/-- The first handle that may be, and what is left then. -/
def hd (t : Int → Int → Bool) : List Int → Option (Int × Int) × List Int
  | x :: y :: l => if (x = 0 ∧ y = 0) ∨ t x y = true then hd t l else (some (x, y), l)
  | l => (none, l)
theorem hd_le (t : Int → Int → Bool) : ∀ l : List Int, (hd t l).2.length ≤ l.length
  | [] => by simp [hd]
  | [x] => by simp [hd]
  | x :: y :: l => by
    unfold hd
    have := hd_le t l
    split
    · simp; omega
    · simp; omega
def hv : Option (Int × Int) → Value
  | some (x, y) => .tuple #[ha x y, .int .i64 0]
  | none => .tuple #[ha 0 0, .int .i64 13]
set_option maxHeartbeats 4000000 in
theorem dhandle {f : FuncId} {caps : Array Value} {t : Int → Int → Bool} {w : World} {b B : Nat} {v : Value} {l : List Int} {u : Int} (h : Dr w b B v l u) (hu : u + l.length ≤ 1000000000)
    (hf0 : ∀ (args : Array Value) (W : World), (callFunc f args).run Try.prog W = .ok (.enter f args) W)
    (hf : ∀ W, Kp (fun k => k = b) w W → ∀ x y, Calls Try.prog f (#[ha x y] ++ caps) W fun e W' => e = .returned (.bool (t x y)) ∧ Below W.heap.size W W') :
    Calls Try.prog 8 #[dp b, .func (.func f) #[] caps] w fun e w' => e = .returned (hv (hd t l).1) ∧ Drew w b B v (hd t l).2 (u + ((l.length : Int) - (hd t l).2.length)) w' := by
  have HF := Lib.hid (And.intro hf hf0)
  have H0 := Lib.hid h
  have hbl := h.lt
  have HV := Lib.hid (fun k hk => (h.os.lt k hk).2)
  have HU := Lib.hid hu
  clear hf hf0 h hu
  go_enter Try.func8, Try.ntmps8
  go_wp2_with fail
  generalize hz : w.heap.size = z
  go_loopg [6] l.length (fun k s6 wr => ∃ (l' : List Int) (u' : Int) (v' : Value), l'.length ≤ k ∧ l'.length ≤ l.length ∧ hd t l = hd t l' ∧ u' = u + ((l.length : Int) - l'.length) ∧ Dr wr b B v' l' u' ∧ (∀ k, v'.ownBlock = some k → v.ownBlock = some k) ∧ Kp (fun k => k = b) w wr ∧ wr.heap[z]? = some (.cells #[.int .u64 0, .int .u64 0] 35 (0, 0)))
  case atStart =>
    refine ⟨l, u, v, Nat.le_refl _, Nat.le_refl _, rfl, by omega, H0.out.below ((Below.refl _ w).alloc (Nat.le_refl _) _), fun k hk => hk, (Kp.refl _ w).alloc _, ?_⟩
    rw [← hz]
    exact heap_alloc_new w _
  case round =>
    obtain ⟨l', u', v', hk, hle, hhd, hu', hdr, hvb, hkp, hrb⟩ := hrel
    subst hz
    obtain ⟨x0, x1, x2, x3⟩ := row2 hrb
    have hblt := hdr.blt
    have hsz := hkp.size
    have hzl : w.heap.size < wr.heap.size := (Array.getElem?_eq_some_iff.1 hrb).1
    have D0 := Lib.hid hdr
    have E0 := Lib.hid (And.intro hhd (And.intro hu' (And.intro hvb (And.intro hkp (And.intro hrb hsz)))))
    have HK := Lib.hid (And.intro hk hle)
    clear hdr hhd hu' hvb hkp hrb hsz hk hle
    obtain ⟨A, c, hA, _⟩ := D0.out.os.form
    have hnone : hd t l' = (none, l') → ∀ W : World, W = (wr.setCell ⟨w.heap.size, 0, none⟩ (.int .u64 0)).setCell ⟨w.heap.size, 1, none⟩ (.int .u64 0) → (hv (hd t l).1 = .tuple #[ha 0 0, .int .i64 13] ∧ Drew w b B v (hd t l).2 (u + ((l.length : Int) - (hd t l).2.length)) W) ∧ W.cell? ⟨w.heap.size, 0, none⟩ = some (.int .u64 0) ∧ W.cell? ⟨w.heap.size, 1, none⟩ = some (.int .u64 0) := by
      rintro hn W rfl
      rw [E0.out.1, hn]
      have k3 := (Kp.one wr w.heap.size 0 (.int .u64 0)).trans (Kp.one (wr.setCell ⟨w.heap.size, 0, none⟩ (.int .u64 0)) w.heap.size 1 (.int .u64 0)) (fun q e => .inl e)
      have r1 := heap_setCell_same wr w.heap.size 0 _ _ (.int .u64 0) E0.out.2.2.2.2.1
      have r2 := heap_setCell_same (wr.setCell ⟨w.heap.size, 0, none⟩ (.int .u64 0)) w.heap.size 1 _ _ (.int .u64 0) r1
      obtain ⟨y0, y1, _, _⟩ := row2 (by simpa using r2)
      refine ⟨⟨rfl, v', ?_, E0.out.2.2.1, E0.out.2.2.2.1.trans k3 (fun q e => .inr (by omega))⟩, y0, y1⟩
      have := D0.out.kp k3 (fun e => by omega) (fun k hk e => by have := HV.out k (E0.out.2.2.1 k hk); omega)
      rw [E0.out.2.1] at this
      exact this
    have HN := Lib.hid hnone
    clear hnone
    match l', D0, E0, HK, HN, hblt with
    | [], D0, E0, HK, HN, hblt =>
      go_wp2_with (first | (go_at_call 12; refine (dleft D0.out).mono ?_; rintro e w' ⟨rfl, rfl⟩))
      obtain ⟨h1, h2, h3⟩ := HN.out rfl _ rfl
      exact bodyPost_ret (v := .tuple #[ha 0 0, .int .i64 13]) (by simp [results, Try.results8, go_sem, h2, h3]) rfl ⟨by rw [h1.1], h1.2⟩
    | [x], D0, E0, HK, HN, hblt =>
      go_wp2_with (first | (go_at_call 12; refine (dleft D0.out).mono ?_; rintro e w' ⟨rfl, rfl⟩))
      obtain ⟨h1, h2, h3⟩ := HN.out rfl _ rfl
      exact bodyPost_ret (v := .tuple #[ha 0 0, .int .i64 13]) (by simp [results, Try.results8, go_sem, h2, h3]) rfl ⟨by rw [h1.1], h1.2⟩
    | x :: y :: l1, D0, E0, HK, HN, hblt =>
      have hlong : ¬ (((x :: y :: l1).length : Int) < 2) := by simp; omega
      go_wp2_with (first | (go_at_call 12; refine (dleft D0.out).mono ?_; rintro e w' ⟨rfl, rfl⟩))
      have hu2 : u' + 2 ≤ 1000000000 := by
        have h1 := E0.out.2.1
        have h2 := HU.out
        have h3 := D0.out.u0
        simp only [List.length_cons] at h1
        omega
      refine (dpair D0.out hu2).mono ?_
      rintro e1 w1 ⟨rfl, v1, d1, o1, k1⟩
      have hs1 : wr.heap.size ≤ w1.heap.size := k1.size
      have D1 := Lib.hid (And.intro d1 (And.intro o1 k1))
      clear d1 o1 k1 hlong hA x0 x1 x2 x3
      -- what the next round owes, in any world that has grown out of w1
      have hnext : hd t (x :: y :: l1) = hd t l1 → ∀ W, Below w1.heap.size w1 W → l1.length ≤ gk - 2 ∧ l1.length ≤ l.length ∧ hd t l = hd t l1 ∧ u' + 2 = u + ((l.length : Int) - l1.length) ∧ Dr W b B v1 l1 (u' + 2) ∧ (∀ k, v1.ownBlock = some k → v.ownBlock = some k) ∧ Kp (fun k => k = b) w W ∧ W.heap[w.heap.size]? = some (.cells #[.int .u64 0, .int .u64 0] 35 (0, 0)) := fun he W hW => by
        have h1 := HK.out
        have h2 := E0.out.2.1
        simp only [List.length_cons] at h1 h2
        refine ⟨by omega, by omega, E0.out.1.trans he, by omega, D1.out.1.below hW, fun k hk => E0.out.2.2.1 k (D1.out.2.1 k hk), (E0.out.2.2.2.1.trans D1.out.2.2 (fun q e => .inl e)).trans (Kp.of_below hW (fun _ => False)) (fun _ h => h.elim), (Kp.of_below hW (fun _ => False)).at (D1.out.2.2.at E0.out.2.2.2.2.1 (by omega)) id⟩
      have hgk : 2 ≤ gk := by have h1 := HK.out; simp only [List.length_cons] at h1; omega
      have HX := Lib.hid (And.intro hnext hgk)
      clear hnext hgk
      have hbA : Below w1.heap.size w1 (w1.alloc (.cells #[.int .u64 x, .int .u64 y] 35)) := (Below.refl _ w1).alloc (Nat.le_refl _) _
      have hq := heap_alloc_new w1 (.cells #[.int .u64 x, .int .u64 y] 35)
      have HA := Lib.hid (And.intro hbA hq)
      clear hbA hq
      by_cases h00 : x = 0 ∧ y = 0
      · obtain ⟨rfl, rfl⟩ := h00
        have he : hd t (0 :: 0 :: l1) = hd t l1 := by rw [hd, if_pos (.inl ⟨rfl, rfl⟩)]
        go_wp2_with fail
        go_roundg (gk - 2)
        case rel => exact ⟨l1, u' + 2, v1, HX.out.1 he _ HA.out.1⟩
        case measure => have := HX.out.2; omega
      · have hne : ¬ (x = 0) ∨ (x = 0 ∧ ¬ y = 0) := by
          by_cases h : x = 0
          · exact .inr ⟨h, fun h' => h00 ⟨h, h'⟩⟩
          · exact .inl h
        have hfr := dfree (f := f) (caps := caps) (x := x) (y := y) (t := t x y) (w1.alloc (.cells #[.int .u64 x, .int .u64 y] 35)) HF.out.2 (fun W hW => HF.out.1 W ((E0.out.2.2.2.1.trans D1.out.2.2 (fun q e => .inl e)).trans (Kp.of_below (HA.out.1.trans (hW.mono (by simp))) (fun _ => False)) (fun _ h => h.elim)) x y)
        have HFR := Lib.hid (And.intro hfr h00)
        clear hfr h00
        rcases hne with hne | ⟨hx0, hne⟩
        · go_wp2_with fail
          refine HFR.out.1.mono ?_
          rintro e2 w2 ⟨rfl, b2⟩
          have B2 := Lib.hid (HA.out.1.trans (b2.mono (by simp)))
          have R2 := (b2.block w1.heap.size (by simp)).trans HA.out.2
          have RZ := (Kp.of_below B2.out (fun _ => False)).at (D1.out.2.2.at E0.out.2.2.2.2.1 (by omega)) id
          obtain ⟨y0, y1, _, _⟩ := row2 R2
          obtain ⟨y2, y3, y4, y5⟩ := row2 RZ
          have ht0 := HFR.out.2
          have R2' := Lib.hid (And.intro R2 RZ)
          clear HFR b2 R2 RZ
          cases ht : t x y
          · have HT := Lib.hid (And.intro ht ht0)
            clear ht ht0
            go_wp2_with fail
            have k3 := (Kp.one w2 w.heap.size 0 (.int .u64 x)).trans (Kp.one (w2.setCell ⟨w.heap.size, 0, none⟩ (.int .u64 x)) w.heap.size 1 (.int .u64 y)) (fun q e => .inl e)
            have r1 := heap_setCell_same w2 w.heap.size 0 _ _ (.int .u64 x) R2'.out.2
            have r2 := heap_setCell_same (w2.setCell ⟨w.heap.size, 0, none⟩ (.int .u64 x)) w.heap.size 1 _ _ (.int .u64 y) r1
            obtain ⟨z0, z1, _, _⟩ := row2 (by simpa using r2)
            have he : hd t (x :: y :: l1) = (some (x, y), l1) := by
              rw [hd, if_neg]
              rintro (h | h)
              · exact HT.out.2 (by simpa using h)
              · rw [HT.out.1] at h
                cases h
            have kk := ((E0.out.2.2.2.1.trans D1.out.2.2 (fun q e => .inl e)).trans (Kp.of_below B2.out (fun _ => False)) (fun _ h => h.elim)).trans k3 (fun q e => .inr (by omega))
            have dd := (D1.out.1.below B2.out).kp k3 (fun e => by omega) (fun k hk e => by have := HV.out k (E0.out.2.2.1 k (D1.out.2.1 k hk)); omega)
            have hu3 : u' + 2 = u + ((l.length : Int) - (hd t l).2.length) := by
              rw [E0.out.1, he]
              show u' + 2 = u + ((l.length : Int) - l1.length)
              have h2 := E0.out.2.1
              simp only [List.length_cons] at h2
              omega
            rw [hu3] at dd
            refine bodyPost_ret (v := .tuple #[ha x y, .int .i64 0]) (by simp [results, Try.results8, go_sem, z0, z1]) rfl ⟨?_, v1, ?_, fun k hk => E0.out.2.2.1 k (D1.out.2.1 k hk), kk⟩
            · rw [E0.out.1, he]; rfl
            · have e3 : (hd t l).2 = l1 := by rw [E0.out.1, he]
              rw [e3] at dd ⊢
              exact dd
          · have he : hd t (x :: y :: l1) = hd t l1 := by rw [hd, if_pos (.inr ht)]
            have HT := Lib.hid he
            clear ht ht0 he
            go_wp2_with fail
            go_roundg (gk - 2)
            case rel => exact ⟨l1, u' + 2, v1, HX.out.1 HT.out _ B2.out⟩
            case measure => have := HX.out.2; omega
        · subst hx0
          go_wp2_with fail
          refine HFR.out.1.mono ?_
          rintro e2 w2 ⟨rfl, b2⟩
          have B2 := Lib.hid (HA.out.1.trans (b2.mono (by simp)))
          have R2 := (b2.block w1.heap.size (by simp)).trans HA.out.2
          have RZ := (Kp.of_below B2.out (fun _ => False)).at (D1.out.2.2.at E0.out.2.2.2.2.1 (by omega)) id
          obtain ⟨y0, y1, _, _⟩ := row2 R2
          obtain ⟨y2, y3, y4, y5⟩ := row2 RZ
          have ht0 := HFR.out.2
          have R2' := Lib.hid (And.intro R2 RZ)
          clear HFR b2 R2 RZ
          cases ht : t 0 y
          · have HT := Lib.hid (And.intro ht ht0)
            clear ht ht0
            go_wp2_with fail
            have k3 := (Kp.one w2 w.heap.size 0 (.int .u64 0)).trans (Kp.one (w2.setCell ⟨w.heap.size, 0, none⟩ (.int .u64 0)) w.heap.size 1 (.int .u64 y)) (fun q e => .inl e)
            have r1 := heap_setCell_same w2 w.heap.size 0 _ _ (.int .u64 0) R2'.out.2
            have r2 := heap_setCell_same (w2.setCell ⟨w.heap.size, 0, none⟩ (.int .u64 0)) w.heap.size 1 _ _ (.int .u64 y) r1
            obtain ⟨z0, z1, _, _⟩ := row2 (by simpa using r2)
            have he : hd t (0 :: y :: l1) = (some (0, y), l1) := by
              rw [hd, if_neg]
              rintro (h | h)
              · exact HT.out.2 (by simpa using h)
              · rw [HT.out.1] at h
                cases h
            have kk := ((E0.out.2.2.2.1.trans D1.out.2.2 (fun q e => .inl e)).trans (Kp.of_below B2.out (fun _ => False)) (fun _ h => h.elim)).trans k3 (fun q e => .inr (by omega))
            have dd := (D1.out.1.below B2.out).kp k3 (fun e => by omega) (fun k hk e => by have := HV.out k (E0.out.2.2.1 k (D1.out.2.1 k hk)); omega)
            have hu3 : u' + 2 = u + ((l.length : Int) - (hd t l).2.length) := by
              rw [E0.out.1, he]
              show u' + 2 = u + ((l.length : Int) - l1.length)
              have h2 := E0.out.2.1
              simp only [List.length_cons] at h2
              omega
            rw [hu3] at dd
            refine bodyPost_ret (v := .tuple #[ha 0 y, .int .i64 0]) (by simp [results, Try.results8, go_sem, z0, z1]) rfl ⟨?_, v1, ?_, fun k hk => E0.out.2.2.1 k (D1.out.2.1 k hk), kk⟩
            · rw [E0.out.1, he]; rfl
            · have e3 : (hd t l).2 = l1 := by rw [E0.out.1, he]
              rw [e3] at dd ⊢
              exact dd
          · have he : hd t (0 :: y :: l1) = hd t l1 := by rw [hd, if_pos (.inr ht)]
            have HT := Lib.hid he
            clear ht ht0 he
            go_wp2_with fail
            go_roundg (gk - 2)
            case rel => exact ⟨l1, u' + 2, v1, HX.out.1 HT.out _ B2.out⟩
            case measure => have := HX.out.2; omega
end Go.Proofs.Ytdhgblkmlkkpeaa
