/- Several texts in one. -/
import Derived.Test.YtdddhmipifkepaaGreatMq02
import Derived.Test.YtdddhmipifkepaaGreatMq11
import Derived.Deep.DeepCutAuto
import Derived.Test.YtdddhmipifkepaaGreatMq09
import Derived.Test.YtdddhmipifkepaaGreatMq01
set_option linter.unusedSimpArgs false
namespace Go.Proofs.YtdddhmipifkepaaGreat
set_option maxRecDepth 100000
open Go.RowKit

theorem row_one (x base : Nat) (W : World) (hB : base ≤ W.heap.size) : (W.alloc (.cells #[.int .i64 (x : Int)] 3)).ownsRow base 3 1 (.slice (some ⟨W.heap.size, 0, none⟩) 1 1) 1 (nums (ns [x])) :=
  ⟨rfl, .inr ⟨W.heap.size, 1, #[.int .i64 (x : Int)], rfl, hB, heap_alloc_new W _, Nat.le_refl _, by unfold maxLen; omega, rfl, rfl⟩⟩
theorem nums_cell1 : ∀ l : List Nat, ∀ u ∈ nums (ns l), u.oneCell' = true := fun l u hu => by
  unfold nums at hu
  obtain ⟨x, _, rfl⟩ := List.mem_map.1 hu
  rfl
theorem nums_insert (l : List Nat) (i x : Nat) (hi : i ≤ l.length) : (nums (ns l)).take i ++ nums (ns [x]) ++ (nums (ns l)).drop i = nums (ns (l.insertIdx i x)) := by
  have h : l.insertIdx i x = l.take i ++ [x] ++ l.drop i := by
    rw [List.append_assoc]
    induction l generalizing i with
    | nil =>
      obtain rfl : i = 0 := by simpa using hi
      rfl
    | cons y l ih =>
      cases i with
      | zero => rfl
      | succ i => rw [List.insertIdx_succ_cons, ih i (by simpa using hi)]; rfl
  rw [h]
  unfold nums ns
  simp only [List.map_append, List.map_take, List.map_drop]
theorem vwith1 (s d b : Nat) (hs : s < 4294967296) (hd : d < 32) (w : World) (h : w.cell? ⟨b, 0, none⟩ = some (.int .i64 (d : Int))) :
    Calls Tryz.prog 230 #[.int .u32 (s : Nat), .slice (some ⟨b, 0, none⟩) 1 1] w fun e w' => e = .returned (.int .u32 (s ||| 2 ^ d : Nat)) ∧ w = w' := by
  have h1 := with_run s hs (some ⟨b, 0, none⟩) [(d : Int)] 1 w (.inr ⟨b, 0, rfl, World.block_lt_of_cell? w _ h, fun i x hx => by
    cases i with
    | zero => simp at hx; subst hx; exact h
    | succ i => simp at hx⟩) (by show 1 ≤ _; decide)
  have e : ofN [(d : Int)] = 2 ^ d := by
    unfold ofN
    rw [if_pos (by omega), Int.toNat_natCast]
    simp [ofN]
  rw [e] at h1
  exact h1
section
set_option maxHeartbeats 3000000 in
theorem vwithKid (o : Int) (s lv g kid base n1 c1 : Nat) (A1 : Option Addr) (k : Value) (kids : List Nat) (w : World) (hs : s < 4294967296) (hlv : lv < 13) (hkl : kids.length ≤ 64) (hcl : cnt s (dg g lv) ≤ kids.length) (own : w.ownsRow base 3 1 k kids.length (nums (ns kids))) (hB : base ≤ w.heap.size) :
    Calls Tryz.prog 166 #[cagg o (s : Nat) (lv : Nat) (.slice A1 n1 c1) k, .int .u64 g, .int .i64 (kid : Nat)] w fun e w' => ∃ A3 c3, e = .returned (cagg o (s ||| 2 ^ dg g lv : Nat) (lv : Nat) (.slice A1 n1 c1) (.slice A3 (kids.length + 1) c3)) ∧
      w'.ownsRow base 3 1 (.slice A3 (kids.length + 1) c3) (kids.length + 1) (nums (ns (kids.insertIdx (cnt s (dg g lv)) kid))) ∧ Kp (fun q => k.ownBlock = some q) w w' ∧ (∀ q, (Value.slice A3 (kids.length + 1) c3).ownBlock = some q → k.ownBlock = some q ∨ w.heap.size ≤ q) := by
  obtain ⟨A2, c2, rfl, hc2⟩ := (Rd.of_own own).form
  obtain ⟨d, hd⟩ : ∃ d, d = dg g lv := ⟨_, rfl⟩
  have hd32 : d < 32 := hd ▸ dg_lt _ _
  have HD := Lib.hid (dg_run g lv hlv)
  have HP := Lib.hid (place s hs (d : Nat))
  have hpl : placeN s (d : Int) = cnt s d := by
    unfold placeN
    rw [Int.toNat_natCast, Nat.min_eq_left (Nat.le_of_lt hd32)]
  rw [hpl] at HP
  rw [← hd] at HD hcl ⊢
  clear hpl hd
  obtain ⟨W0, hW0⟩ : ∃ W0, W0 = (w.alloc (.cells #[.int .u32 o, .int .u32 (s : Nat), .int .u32 (lv : Nat), .slice A1 n1 c1, .slice A2 kids.length c2] 109)).alloc (.cells #[.int .u32 0, .int .u32 0, .int .u32 0, .slice none 0 0, .slice none 0 0] 109) := ⟨_, rfl⟩
  have hsz : W0.heap.size = w.heap.size + 1 + 1 := by rw [hW0]; simp
  have hb0 : Below w.heap.size w W0 := by rw [hW0]; exact ((Below.refl _ w).alloc (Nat.le_refl _) _).alloc (by simp) _
  have q1 : C5 W0 w.heap.size 109 (.int .u32 o) (.int .u32 (s : Nat)) (.int .u32 (lv : Nat)) (.slice A1 n1 c1) (.slice A2 kids.length c2) := by
    rw [hW0]; exact (C5.new w 109 (.int .u32 o) (.int .u32 (s : Nat)) (.int .u32 (lv : Nat)) (.slice A1 n1 c1) (.slice A2 kids.length c2)).alloc _
  have q2 : C5 W0 (w.heap.size + 1) 109 (.int .u32 0) (.int .u32 0) (.int .u32 0) (.slice none 0 0) (.slice none 0 0) := by
    have := C5.new (w.alloc (.cells #[.int .u32 o, .int .u32 (s : Nat), .int .u32 (lv : Nat), .slice A1 n1 c1, .slice A2 kids.length c2] 109)) 109 (.int .u32 0) (.int .u32 0) (.int .u32 0) (.slice none 0 0) (.slice none 0 0)
    rw [hW0]
    simpa using this
  have own0 := (Kp.of_below hb0 (fun _ => False)).own own (fun _ _ h => h)
  have hko : ∀ q, (Value.slice A2 kids.length c2).ownBlock = some q → q < w.heap.size := fun q hq => (own_blk own q hq).2
  have NZ := Lib.hid (show ¬ (False : Prop) from id)
  have Q1 := Lib.hid q1
  have Q2 := Lib.hid q2
  have HKO := Lib.hid hko
  have HB0 := Lib.hid hb0
  have NI := Lib.hid (show ∀ q, ((Value.slice A2 kids.length c2).ownBlock = some q ∨ W0.heap.size ≤ q) → q ≠ w.heap.size from fun q h => by
    rcases h with h | h
    · have := hko q h; omega
    · omega)
  have HINS := Lib.hid (show ∀ W b, Kp (fun _ => False) W0 W → W.ownsRow W0.heap.size 3 1 (.slice (some ⟨b, 0, none⟩) 1 1) 1 (nums (ns [kid])) →
      Calls Tryz.prog 229 #[.slice A2 kids.length c2, .int .i64 (cnt s d : Nat), .slice (some ⟨b, 0, none⟩) 1 1] W fun e W' => ∃ A3 c3, e = .returned (.slice A3 (kids.length + 1) c3) ∧ W'.ownsRow base 3 1 (.slice A3 (kids.length + 1) c3) (kids.length + 1) (nums (ns (kids.insertIdx (cnt s d) kid))) ∧ Kp (fun q => (Value.slice A2 kids.length c2).ownBlock = some q) W W' ∧ (∀ q, (Value.slice A3 (kids.length + 1) c3).ownBlock = some q → (Value.slice A2 kids.length c2).ownBlock = some q ∨ W0.heap.size ≤ q) from fun W b hk hr => by
    have hb := own_blk hr b rfl
    refine (vinsertI _ _ base kids.length (cnt s d) 1 _ _ W (hk.own own0 (fun _ _ h => h)) hcl (by decide) (by omega) (own_less hr (Nat.zero_le _)) (fun q hq e => ?_) (nums_cell1 _) (nums_cell1 _) (by have := hk.size; omega)).mono ?_
    · have h1 := hko q hq
      simp only [Value.ownBlock, Option.some.injEq] at e
      omega
    · rintro e W' ⟨v', rfl, io, ig, ib⟩
      obtain ⟨A3, c3, rfl, _⟩ := (Rd.of_own io).form
      rw [nums_insert kids _ kid hcl] at io
      refine ⟨A3, c3, rfl, io, Kp.of_grown ig (fun q hq => .inl hq), fun q hq => ?_⟩
      rcases ib with ib | ib
      · exact .inl (ib ▸ hq)
      · rw [ib] at hq
        cases hq
        exact .inr hk.size)
  have NZ2 := Lib.hid (show ¬ (Value.slice A2 kids.length c2).ownBlock = some w.heap.size from fun e => absurd (hko _ e) (Nat.lt_irrefl _))
  have SZ := Lib.hid hsz
  clear own own0 hB hcl hkl
  have HSD := Lib.hid hd32
  have wx0 := q1.all
  obtain ⟨p0, p1, p2, p3, p4, _⟩ := wx0
  have HW0 := Lib.hid hW0
  clear q1 q2 hko hb0 hsz
  rw [hW0] at p0 p1 p2 p3 p4
  clear hW0
  go_enter Tryz.func166, Tryz.ntmps166
  go_wp2_with fail
  refine (HD.out _).mono ?_
  rintro e w1 ⟨rfl, rfl⟩
  go_wp2_with fail
  rw [← HW0.out]
  rw [← HW0.out] at p0 p1 p2 p3 p4
  clear HW0
  go_cut [16] from 16 to 24 (fun _ wc => ∃ A3 c3, wc.ownsRow base 3 1 (.slice A3 (kids.length + 1) c3) (kids.length + 1) (nums (ns (kids.insertIdx (cnt s d) kid))) ∧ Kp (fun q => (Value.slice A2 kids.length c2).ownBlock = some q ∨ q = w.heap.size) W0 wc ∧ C5 wc w.heap.size 109 (.int .u32 o) (.int .u32 (s : Nat)) (.int .u32 (lv : Nat)) (.slice A1 n1 c1) (.slice A3 (kids.length + 1) c3) ∧ (∀ q, (Value.slice A3 (kids.length + 1) c3).ownBlock = some q → (Value.slice A2 kids.length c2).ownBlock = some q ∨ W0.heap.size ≤ q))
  case first =>
    clear p0 p1 p2 p3 p4
    refine wp_region_noPanic ?_
    refine wp_region_held_drew (S := fun W' => Kp (fun q => (Value.slice A2 kids.length c2).ownBlock = some q ∨ q = w.heap.size) W0 W') (by kernel_rfl) (Kp.refl _ W0).drew (fun hH => ?_)
    have hB0 : Kp (fun _ => False) W0 W0.drew := (Kp.refl _ W0).drew
    obtain ⟨WD, hWD⟩ : ∃ WD, WD = W0.drew := ⟨_, rfl⟩
    rw [← hWD] at hH hB0 ⊢
    clear hWD
    refine tkH ?_ 0 hH ?_ ?_; rotate_left
    · intro W' hS; go_simp; with_reducible rfl
    simp only [tkr]
    refine tkH ?_ 2 hH ?_ ?_; rotate_left
    · intro W' hS; go_simp; with_reducible rfl
    simp only [tkr]
    refine tkH ?_ 3 hH ?_ ?_; rotate_left
    · intro W' hS; go_simp; with_reducible rfl
    simp only [tkr]
    refine tkH ?_ 5 hH ?_ ?_; rotate_left
    · intro W' hS; go_simp; with_reducible rfl
    simp only [tkr]
    refine wpAnyH_ready (rs := [1, 4, 6]) (by kernel_rfl) (by simp) ?_
    refine AllReadyH.cons rfl (fun K hK => ?_) (AllReadyH.cons rfl (fun K hK => ?_) (AllReadyH.cons rfl (fun K hK => ?_) AllReadyH.nil))
    · have kc := (Q1.out.kp hB0 NZ.out).c4
      go_simp
      clear kc
      refine hK.out _ _ ?_ (fun hH => ?_)
      · exact hB0.mono (fun _ h _ => h.elim)
      clear hK K
      refine wpAnyH_ready (rs := [4, 6]) (by kernel_rfl) (by simp) ?_
      refine AllReadyH.cons rfl (fun K hK => ?_) (AllReadyH.cons rfl (fun K hK => ?_) AllReadyH.nil)
      · go_simp
        refine (HP.out _).mono ?_
        rintro e W2 ⟨rfl, gw⟩
        have hB2 := hB0.trans (Kp.of_below gw.below (fun _ => False)) (fun _ h => h.elim)
        clear gw
        simp only
        refine hK.out _ _ ?_ (fun hH => ?_)
        · exact hB2.mono (fun _ h _ => h.elim)
        clear hK K
        refine rdH 6 rfl (fun K hK => ?_)
        go_simp
        refine hK.out _ _ ?_ (fun hH => ?_)
        · exact (hB2.alloc _).mono (fun _ h _ => h.elim)
        clear hK K hH
        have hB3 := hB2.alloc (.cells #[.int .i64 (kid : Int)] 3)
        have hR3 := row_one kid W0.heap.size W2 hB2.size
        generalize World.alloc _ _ = W3 at hB3 hR3 ⊢
        generalize W2.heap.size = b3 at hR3 ⊢
        have hH := (hB3.mono (fun _ h _ => h.elim) : Kp (fun q => (Value.slice A2 kids.length c2).ownBlock = some q ∨ q = w.heap.size) W0 W3)
        refine rdH 7 rfl (fun K hK => ?_)
        go_simp
        refine (HINS.out W3 _ hB3 hR3).mono ?_
        rintro e W4 ⟨A3, c3, rfl, io, ik, ib⟩
        have hB4 := (hB3.mono (fun _ h _ => h.elim) : Kp (fun q => (Value.slice A2 kids.length c2).ownBlock = some q ∨ q = w.heap.size) W0 W3).trans ik (fun q h => .inl (.inl h))
        have hC4 := (Q1.out.kp hB3 NZ.out).kp ik NZ2.out
        clear ik hB3 hR3
        simp only
        refine hK.out _ _ ?_ (fun hH => ?_)
        · exact hB4
        clear hK K
        refine tkH ?_ 8 hH ?_ ?_; rotate_left
        · intro W' hS; go_simp; with_reducible rfl
        simp only [tkr]
        refine rdH 9 rfl (fun K hK => ?_)
        have kc := hC4.c4
        have kf := hC4.fz 4
        go_simp
        clear kc kf
        refine hK.out _ _ ?_ (fun hH => ?_)
        · exact hB4.setCell (.inl (.inr rfl)) _
        clear hK K
        refine wpAnyH_done (by kernel_rfl) ?_ _
        refine NoPanic.normal ?_
        go_wp2_with fail
        go_meet
        exact ⟨A3, c3, (Kp.one W4 w.heap.size 4 _).own io (fun q hq e => NI.out q (ib q hq) e), hH, hC4.set4 _, ib⟩
      · go_simp
        refine hK.out _ _ ?_ (fun hH => ?_)
        · exact (hB0.alloc _).mono (fun _ h _ => h.elim)
        clear hK K hH
        have hB5 := hB0.alloc (.cells #[.int .i64 (kid : Int)] 3)
        have hR5 := row_one kid W0.heap.size WD hB0.size
        generalize World.alloc _ _ = W5 at hB5 hR5 ⊢
        generalize WD.heap.size = b5 at hR5 ⊢
        have hH := (hB5.mono (fun _ h _ => h.elim) : Kp (fun q => (Value.slice A2 kids.length c2).ownBlock = some q ∨ q = w.heap.size) W0 W5)
        refine rdH 4 rfl (fun K hK => ?_)
        go_simp
        refine (HP.out _).mono ?_
        rintro e W6 ⟨rfl, gw⟩
        have hB6 := hB5.trans (Kp.of_below gw.below (fun _ => False)) (fun _ h => h.elim)
        have hR6 := (Kp.of_below gw.below (fun _ => False)).own hR5 (fun _ _ h => h)
        clear gw
        simp only
        refine hK.out _ _ ?_ (fun hH => ?_)
        · exact hB6.mono (fun _ h _ => h.elim)
        clear hK K
        refine rdH 7 rfl (fun K hK => ?_)
        go_simp
        refine (HINS.out W6 _ hB6 hR6).mono ?_
        rintro e W7 ⟨A3, c3, rfl, io, ik, ib⟩
        have hB7 := (hB6.mono (fun _ h _ => h.elim) : Kp (fun q => (Value.slice A2 kids.length c2).ownBlock = some q ∨ q = w.heap.size) W0 W6).trans ik (fun q h => .inl (.inl h))
        have hC7 := (Q1.out.kp hB6 NZ.out).kp ik NZ2.out
        clear ik hB6 hR6
        simp only
        refine hK.out _ _ ?_ (fun hH => ?_)
        · exact hB7
        clear hK K
        refine tkH ?_ 8 hH ?_ ?_; rotate_left
        · intro W' hS; go_simp; with_reducible rfl
        simp only [tkr]
        refine rdH 9 rfl (fun K hK => ?_)
        have kc := hC7.c4
        have kf := hC7.fz 4
        go_simp
        clear kc kf
        refine hK.out _ _ ?_ (fun hH => ?_)
        · exact hB7.setCell (.inl (.inr rfl)) _
        clear hK K
        refine wpAnyH_done (by kernel_rfl) ?_ _
        refine NoPanic.normal ?_
        go_wp2_with fail
        go_meet
        exact ⟨A3, c3, (Kp.one W7 w.heap.size 4 _).own io (fun q hq e => NI.out q (ib q hq) e), hH, hC7.set4 _, ib⟩
    · go_simp
      refine (HP.out _).mono ?_
      rintro e W8 ⟨rfl, gw⟩
      have hB8 := hB0.trans (Kp.of_below gw.below (fun _ => False)) (fun _ h => h.elim)
      clear gw
      simp only
      refine hK.out _ _ ?_ (fun hH => ?_)
      · exact hB8.mono (fun _ h _ => h.elim)
      clear hK K
      refine wpAnyH_ready (rs := [1, 6]) (by kernel_rfl) (by simp) ?_
      refine AllReadyH.cons rfl (fun K hK => ?_) (AllReadyH.cons rfl (fun K hK => ?_) AllReadyH.nil)
      · have kc := (Q1.out.kp hB8 NZ.out).c4
        go_simp
        clear kc
        refine hK.out _ _ ?_ (fun hH => ?_)
        · exact hB8.mono (fun _ h _ => h.elim)
        clear hK K
        refine rdH 6 rfl (fun K hK => ?_)
        go_simp
        refine hK.out _ _ ?_ (fun hH => ?_)
        · exact (hB8.alloc _).mono (fun _ h _ => h.elim)
        clear hK K hH
        have hB10 := hB8.alloc (.cells #[.int .i64 (kid : Int)] 3)
        have hR10 := row_one kid W0.heap.size W8 hB8.size
        generalize World.alloc _ _ = W10 at hB10 hR10 ⊢
        generalize W8.heap.size = b10 at hR10 ⊢
        have hH := (hB10.mono (fun _ h _ => h.elim) : Kp (fun q => (Value.slice A2 kids.length c2).ownBlock = some q ∨ q = w.heap.size) W0 W10)
        refine rdH 7 rfl (fun K hK => ?_)
        go_simp
        refine (HINS.out W10 _ hB10 hR10).mono ?_
        rintro e W11 ⟨A3, c3, rfl, io, ik, ib⟩
        have hB11 := (hB10.mono (fun _ h _ => h.elim) : Kp (fun q => (Value.slice A2 kids.length c2).ownBlock = some q ∨ q = w.heap.size) W0 W10).trans ik (fun q h => .inl (.inl h))
        have hC11 := (Q1.out.kp hB10 NZ.out).kp ik NZ2.out
        clear ik hB10 hR10
        simp only
        refine hK.out _ _ ?_ (fun hH => ?_)
        · exact hB11
        clear hK K
        refine tkH ?_ 8 hH ?_ ?_; rotate_left
        · intro W' hS; go_simp; with_reducible rfl
        simp only [tkr]
        refine rdH 9 rfl (fun K hK => ?_)
        have kc := hC11.c4
        have kf := hC11.fz 4
        go_simp
        clear kc kf
        refine hK.out _ _ ?_ (fun hH => ?_)
        · exact hB11.setCell (.inl (.inr rfl)) _
        clear hK K
        refine wpAnyH_done (by kernel_rfl) ?_ _
        refine NoPanic.normal ?_
        go_wp2_with fail
        go_meet
        exact ⟨A3, c3, (Kp.one W11 w.heap.size 4 _).own io (fun q hq e => NI.out q (ib q hq) e), hH, hC11.set4 _, ib⟩
      · go_simp
        refine hK.out _ _ ?_ (fun hH => ?_)
        · exact (hB8.alloc _).mono (fun _ h _ => h.elim)
        clear hK K hH
        have hB12 := hB8.alloc (.cells #[.int .i64 (kid : Int)] 3)
        have hR12 := row_one kid W0.heap.size W8 hB8.size
        generalize World.alloc _ _ = W12 at hB12 hR12 ⊢
        generalize W8.heap.size = b12 at hR12 ⊢
        have hH := (hB12.mono (fun _ h _ => h.elim) : Kp (fun q => (Value.slice A2 kids.length c2).ownBlock = some q ∨ q = w.heap.size) W0 W12)
        refine rdH 1 rfl (fun K hK => ?_)
        have kc := (Q1.out.kp hB12 NZ.out).c4
        go_simp
        clear kc
        refine hK.out _ _ ?_ (fun hH => ?_)
        · exact hB12.mono (fun _ h _ => h.elim)
        clear hK K
        refine rdH 7 rfl (fun K hK => ?_)
        go_simp
        refine (HINS.out W12 _ hB12 hR12).mono ?_
        rintro e W14 ⟨A3, c3, rfl, io, ik, ib⟩
        have hB14 := (hB12.mono (fun _ h _ => h.elim) : Kp (fun q => (Value.slice A2 kids.length c2).ownBlock = some q ∨ q = w.heap.size) W0 W12).trans ik (fun q h => .inl (.inl h))
        have hC14 := (Q1.out.kp hB12 NZ.out).kp ik NZ2.out
        clear ik hB12 hR12
        simp only
        refine hK.out _ _ ?_ (fun hH => ?_)
        · exact hB14
        clear hK K
        refine tkH ?_ 8 hH ?_ ?_; rotate_left
        · intro W' hS; go_simp; with_reducible rfl
        simp only [tkr]
        refine rdH 9 rfl (fun K hK => ?_)
        have kc := hC14.c4
        have kf := hC14.fz 4
        go_simp
        clear kc kf
        refine hK.out _ _ ?_ (fun hH => ?_)
        · exact hB14.setCell (.inl (.inr rfl)) _
        clear hK K
        refine wpAnyH_done (by kernel_rfl) ?_ _
        refine NoPanic.normal ?_
        go_wp2_with fail
        go_meet
        exact ⟨A3, c3, (Kp.one W14 w.heap.size 4 _).own io (fun q hq e => NI.out q (ib q hq) e), hH, hC14.set4 _, ib⟩
    · go_simp
      refine hK.out _ _ ?_ (fun hH => ?_)
      · exact (hB0.alloc _).mono (fun _ h _ => h.elim)
      clear hK K hH
      have hB15 := hB0.alloc (.cells #[.int .i64 (kid : Int)] 3)
      have hR15 := row_one kid W0.heap.size WD hB0.size
      generalize World.alloc _ _ = W15 at hB15 hR15 ⊢
      generalize WD.heap.size = b15 at hR15 ⊢
      have hH := (hB15.mono (fun _ h _ => h.elim) : Kp (fun q => (Value.slice A2 kids.length c2).ownBlock = some q ∨ q = w.heap.size) W0 W15)
      refine wpAnyH_ready (rs := [1, 4]) (by kernel_rfl) (by simp) ?_
      refine AllReadyH.cons rfl (fun K hK => ?_) (AllReadyH.cons rfl (fun K hK => ?_) AllReadyH.nil)
      · have kc := (Q1.out.kp hB15 NZ.out).c4
        go_simp
        clear kc
        refine hK.out _ _ ?_ (fun hH => ?_)
        · exact hB15.mono (fun _ h _ => h.elim)
        clear hK K
        refine rdH 4 rfl (fun K hK => ?_)
        go_simp
        refine (HP.out _).mono ?_
        rintro e W17 ⟨rfl, gw⟩
        have hB17 := hB15.trans (Kp.of_below gw.below (fun _ => False)) (fun _ h => h.elim)
        have hR17 := (Kp.of_below gw.below (fun _ => False)).own hR15 (fun _ _ h => h)
        clear gw
        simp only
        refine hK.out _ _ ?_ (fun hH => ?_)
        · exact hB17.mono (fun _ h _ => h.elim)
        clear hK K
        refine rdH 7 rfl (fun K hK => ?_)
        go_simp
        refine (HINS.out W17 _ hB17 hR17).mono ?_
        rintro e W18 ⟨A3, c3, rfl, io, ik, ib⟩
        have hB18 := (hB17.mono (fun _ h _ => h.elim) : Kp (fun q => (Value.slice A2 kids.length c2).ownBlock = some q ∨ q = w.heap.size) W0 W17).trans ik (fun q h => .inl (.inl h))
        have hC18 := (Q1.out.kp hB17 NZ.out).kp ik NZ2.out
        clear ik hB17 hR17
        simp only
        refine hK.out _ _ ?_ (fun hH => ?_)
        · exact hB18
        clear hK K
        refine tkH ?_ 8 hH ?_ ?_; rotate_left
        · intro W' hS; go_simp; with_reducible rfl
        simp only [tkr]
        refine rdH 9 rfl (fun K hK => ?_)
        have kc := hC18.c4
        have kf := hC18.fz 4
        go_simp
        clear kc kf
        refine hK.out _ _ ?_ (fun hH => ?_)
        · exact hB18.setCell (.inl (.inr rfl)) _
        clear hK K
        refine wpAnyH_done (by kernel_rfl) ?_ _
        refine NoPanic.normal ?_
        go_wp2_with fail
        go_meet
        exact ⟨A3, c3, (Kp.one W18 w.heap.size 4 _).own io (fun q hq e => NI.out q (ib q hq) e), hH, hC18.set4 _, ib⟩
      · go_simp
        refine (HP.out _).mono ?_
        rintro e W19 ⟨rfl, gw⟩
        have hB19 := hB15.trans (Kp.of_below gw.below (fun _ => False)) (fun _ h => h.elim)
        have hR19 := (Kp.of_below gw.below (fun _ => False)).own hR15 (fun _ _ h => h)
        clear gw
        simp only
        refine hK.out _ _ ?_ (fun hH => ?_)
        · exact hB19.mono (fun _ h _ => h.elim)
        clear hK K
        refine rdH 1 rfl (fun K hK => ?_)
        have kc := (Q1.out.kp hB19 NZ.out).c4
        go_simp
        clear kc
        refine hK.out _ _ ?_ (fun hH => ?_)
        · exact hB19.mono (fun _ h _ => h.elim)
        clear hK K
        refine rdH 7 rfl (fun K hK => ?_)
        go_simp
        refine (HINS.out W19 _ hB19 hR19).mono ?_
        rintro e W21 ⟨A3, c3, rfl, io, ik, ib⟩
        have hB21 := (hB19.mono (fun _ h _ => h.elim) : Kp (fun q => (Value.slice A2 kids.length c2).ownBlock = some q ∨ q = w.heap.size) W0 W19).trans ik (fun q h => .inl (.inl h))
        have hC21 := (Q1.out.kp hB19 NZ.out).kp ik NZ2.out
        clear ik hB19 hR19
        simp only
        refine hK.out _ _ ?_ (fun hH => ?_)
        · exact hB21
        clear hK K
        refine tkH ?_ 8 hH ?_ ?_; rotate_left
        · intro W' hS; go_simp; with_reducible rfl
        simp only [tkr]
        refine rdH 9 rfl (fun K hK => ?_)
        have kc := hC21.c4
        have kf := hC21.fz 4
        go_simp
        clear kc kf
        refine hK.out _ _ ?_ (fun hH => ?_)
        · exact hB21.setCell (.inl (.inr rfl)) _
        clear hK K
        refine wpAnyH_done (by kernel_rfl) ?_ _
        refine NoPanic.normal ?_
        go_wp2_with fail
        go_meet
        exact ⟨A3, c3, (Kp.one W21 w.heap.size 4 _).own io (fun q hq e => NI.out q (ib q hq) e), hH, hC21.set4 _, ib⟩
  case rest =>
    obtain ⟨A3, c3, io, ik, ic, ib⟩ := hcut
    have IO := Lib.hid io
    have IK := Lib.hid ik
    have IB := Lib.hid ib
    have IC := Lib.hid ic
    have I2 := Lib.hid (Q2.out.kp ik (fun h => by
      rcases h with h | h
      · have := HKO.out _ h; omega
      · omega))
    have hz3 : w.heap.size < wc.heap.size := ic.lt
    have hz6 := I2.out.lt
    obtain ⟨r0, r1, r2, r3, r4, v0, v1, v2, v3, v4⟩ := ic.all
    clear p0 p1 p2 p3 p4 io ik ib ic
    go_wp2_with fail
    have cd : (wc.alloc (.cells #[.int .i64 (d : Int)] 3)).cell? ⟨wc.heap.size, 0, none⟩ = some (.int .i64 (d : Int)) := by simp [go_sem]
    refine (vwith1 s d _ hs HSD.out _ cd).mono ?_
    rintro e wd ⟨rfl, rfl⟩
    clear cd
    have ic2 := IC.out.alloc (.cells #[.int .i64 (d : Int)] 3)
    have i22 := I2.out.alloc (.cells #[.int .i64 (d : Int)] 3)
    obtain ⟨r0, r1, r2, r3, r4, v0, v1, v2, v3, v4⟩ := ic2.all
    obtain ⟨x0, x1, x2, x3, x4, y0, y1, y2, y3, y4⟩ := i22.all
    have hka : Kp (fun q => q = w.heap.size ∨ q = w.heap.size + 1) wc (wc.alloc (.cells #[.int .i64 (d : Int)] 3)) := (Kp.refl _ wc).alloc _
    have HKA := Lib.hid hka
    clear ic2 i22 hka
    generalize wc.alloc (.cells #[.int .i64 (d : Int)] 3) = wq at HKA r0 r1 r2 r3 r4 v0 v1 v2 v3 v4 x0 x1 x2 x3 x4 y0 y1 y2 y3 y4 ⊢
    go_wp2_with fail
    have fin : ∀ W9, Kp (fun q => q = w.heap.size ∨ q = w.heap.size + 1) wc W9 → W9.ownsRow base 3 1 (.slice A3 (kids.length + 1) c3) (kids.length + 1) (nums (ns (kids.insertIdx (cnt s d) kid))) ∧ Kp (fun q => (Value.slice A2 kids.length c2).ownBlock = some q) w W9 ∧ (∀ q, (Value.slice A3 (kids.length + 1) c3).ownBlock = some q → (Value.slice A2 kids.length c2).ownBlock = some q ∨ w.heap.size ≤ q) := fun W9 h9 => by
      have hs0 := SZ.out
      refine ⟨h9.own IO.out (fun q hq h => ?_), ((Kp.of_below HB0.out (fun q => (Value.slice A2 kids.length c2).ownBlock = some q)).trans IK.out (fun q h => ?_)).trans h9 (fun q h => ?_), fun q hq => ?_⟩
      · rcases IB.out q hq with h1 | h1
        · have := HKO.out q h1; omega
        · omega
      · rcases h with h | h
        · exact .inl h
        · exact .inr (by omega)
      · exact .inr (by omega)
      · rcases IB.out q hq with h1 | h1
        · exact .inl h1
        · exact .inr (by omega)
    refine bodyPost_ret (v := cagg o (s ||| 2 ^ d : Nat) (lv : Nat) (.slice A1 n1 c1) (.slice A3 (kids.length + 1) c3)) ?_ rfl ⟨A3, c3, rfl, fin _ ?_⟩
    · simp [results, Tryz.results166, go_sem, x0, x1, x2, x3, x4]
    · repeat first
        | with_reducible exact HKA.out
        | with_reducible refine Kp.setCell ?_ (by simp) _

end

end Go.Proofs.YtdddhmipifkepaaGreat

namespace Go.Proofs.YtdddhmipifkepaaGreat

theorem flat3_setL : ∀ (l : List V3) (m : Nat) (x : V3), m < l.length → (l.set m x).flatMap cells3 = (((l.flatMap cells3).set (m * 3) (.int .u8 x.1)).set (m * 3 + 1) (.int .i64 x.2.1)).set (m * 3 + 2) (.string x.2.2)
  | [], _, _, h => by simp at h
  | y :: l, 0, x, _ => by simp [cells3]
  | y :: l, m + 1, x, h => by
    have ih := flat3_setL l m x (by simpa using h)
    have h3 : (cells3 y).length = 3 := rfl
    rw [List.set_cons_succ, List.flatMap_cons, List.flatMap_cons, ih]
    have key : ∀ (l : List Value) (j : Nat) (u : Value), (cells3 y ++ l).set ((m + 1) * 3 + j) u = cells3 y ++ l.set (m * 3 + j) u := fun l j u => by
      rw [List.set_append_right _ _ (by rw [h3]; omega)]
      congr 2
      rw [h3]; omega
    have key0 : ∀ (l : List Value) (u : Value), (cells3 y ++ l).set ((m + 1) * 3) u = cells3 y ++ l.set (m * 3) u := fun l u => key l 0 u
    rw [key0, key, key]
theorem flat3_takeL : ∀ (l : List V3) (m : Nat), (l.take m).flatMap cells3 = (l.flatMap cells3).take (m * 3)
  | [], m => by simp
  | y :: l, 0 => by simp
  | y :: l, m + 1 => by
    rw [List.take_succ_cons, List.flatMap_cons, List.flatMap_cons, flat3_takeL l m, List.take_append]
    have h3 : (cells3 y).length = 3 := rfl
    rw [h3, List.take_of_length_le (l := cells3 y) (by rw [h3]; omega), show (m + 1) * 3 - 3 = m * 3 by omega]
theorem flat3_dropL : ∀ (l : List V3) (m : Nat), (l.drop m).flatMap cells3 = (l.flatMap cells3).drop (m * 3)
  | [], m => by simp
  | y :: l, 0 => by simp
  | y :: l, m + 1 => by
    rw [List.drop_succ_cons, List.flatMap_cons, flat3_dropL l m, List.drop_append]
    have h3 : (cells3 y).length = 3 := rfl
    rw [h3, show (cells3 y).drop ((m + 1) * 3) = [] from List.drop_eq_nil_of_le (by rw [h3]; omega), show (m + 1) * 3 - 3 = m * 3 by omega, List.nil_append]
theorem flat3_ins (l ys : List V3) (m : Nat) : (l.flatMap cells3).take (m * 3) ++ ys.flatMap cells3 ++ (l.flatMap cells3).drop (m * 3) = (l.take m ++ ys ++ l.drop m).flatMap cells3 := by
  rw [List.flatMap_append, List.flatMap_append, flat3_takeL, flat3_dropL]
theorem flatP_cons (p : Pr) (l : List Pr) : flatP (p :: l) = p.1 :: p.2 :: flatP l := rfl
theorem flatP_set : ∀ {l : List Pr} {j : Nat} {k v0 v : Ky}, l[j]? = some (k, v0) → flatP (l.set j (k, v)) = (flatP l).set (2 * j + 1) v
  | [], _, _, _, _, h => by simp at h
  | q :: l, 0, k, v0, v, h => by
    obtain rfl : q = (k, v0) := by simpa using h
    rfl
  | q :: l, j + 1, k, v0, v, h => by
    have ih := flatP_set (v := v) (show l[j]? = some (k, v0) by simpa using h)
    rw [List.set_cons_succ, flatP_cons, flatP_cons, ih, show 2 * (j + 1) + 1 = (2 * j + 1) + 1 + 1 by omega, List.set_cons_succ, List.set_cons_succ]
theorem flatP_insert : ∀ {l : List Pr} {j : Nat} {k v : Ky}, j ≤ l.length → flatP (l.insertIdx j (k, v)) = (flatP l).take (2 * j) ++ [k, v] ++ (flatP l).drop (2 * j)
  | [], j, k, v, h => by
    obtain rfl : j = 0 := by simpa using h
    rfl
  | q :: l, 0, k, v, _ => rfl
  | q :: l, j + 1, k, v, h => by
    have ih := flatP_insert (k := k) (v := v) (show j ≤ l.length by simpa using h)
    rw [List.insertIdx_succ_cons, flatP_cons, flatP_cons, ih, show 2 * (j + 1) = 2 * j + 1 + 1 by omega]
    rfl
theorem row_two (k v : V3) (base : Nat) (W : World) (hB : base ≤ W.heap.size) : (W.alloc (.cells #[.int .u8 k.1, .int .i64 k.2.1, .string k.2.2, .int .u8 v.1, .int .i64 v.2.1, .string v.2.2] 36)).ownsRow base 36 3 (.slice (some ⟨W.heap.size, 0, none⟩) 2 2) 2 ([k, v].flatMap cells3) :=
  ⟨rfl, .inr ⟨W.heap.size, 2, _, rfl, hB, heap_alloc_new W _, Nat.le_refl _, by unfold maxLen; omega, rfl, rfl⟩⟩
theorem own_put {w : World} {base g n cp m : Nat} {l : List V3} (x : V3) (h : w.ownsRow base 36 3 (.slice (some ⟨g, 0, none⟩) n cp) n (l.flatMap cells3)) (hn : l.length = n) (hm : m < n) :
    (((w.setCell ⟨g, m * 3, none⟩ (.int .u8 x.1)).setCell ⟨g, m * 3 + 1, none⟩ (.int .i64 x.2.1)).setCell ⟨g, m * 3 + 2, none⟩ (.string x.2.2)).ownsRow base 36 3 (.slice (some ⟨g, 0, none⟩) n cp) n ((l.set m x).flatMap cells3) := by
  rw [flat3_setL l m x (by omega)]
  exact own_set1 (own_set1 (own_set1 h (by omega) _) (by omega) _) (by omega) _

end Go.Proofs.YtdddhmipifkepaaGreat
