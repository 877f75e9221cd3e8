/- Package arena: what an arena is in memory, and its functions that only read: New, Live, Room, find, allHeld, Refs, Get. -/
import Derived.Test.YtgkhbnkbhcginaaApart04
namespace Go.Proofs.Ytgkhbnkbhcginaa
open Go.RowKit

abbrev ap (b : Nat) : Value := .pointer (some ⟨b, 0, none⟩)
def ptrOf : Option (Hc × Nat) → Nat → Value
  | none, _ => .pointer none
  | some _, h => .pointer (some ⟨h, 0, none⟩)
/-- The first n places: a held cell's block, or nil. -/
def places (M : Cells) (H : Nat → Nat) (n : Nat) : List Value := (List.range n).map fun j => ptrOf (M (j + 1)) (H (j + 1))
/-- Numbers of cells. -/
def ns (l : List Nat) : List Int := l.map fun (x : Nat) => (x : Int)

/-- Block h is the held cell c with r references. -/
def Cel (w : World) (F : Nat → Prop) (vf : Value) (h : Nat) (c : Hc) (r : Nat) : Prop :=
  ∃ v k, C6 w h 100 (.int .u32 c.owner) (.int .u32 c.a) (.int .u32 c.b) v k (.int .i64 r) ∧ w.ownsRow 0 38 3 v c.vals.length (c.vals.flatMap cells3) ∧
    w.ownsRow 0 3 1 k c.kids.length (nums (ns c.kids)) ∧ F h ∧ (∀ g, v.ownBlock = some g → F g) ∧ (∀ g, k.ownBlock = some g → F g ∧ vf.ownBlock ≠ some g) ∧ c.vals.length ≤ 4194304 ∧ c.kids.length ≤ 4194304

/-- Block b is an arena with room for most, in which M is held; F has all its blocks. -/
structure ArD (d : Nat) (w : World) (b most : Nat) (M : Cells) (F : Nat → Prop) (n : Nat) (vc vf : Value) (fr : List Nat) (H : Nat → Nat) : Prop where
  m1 : 1 ≤ most
  m2 : most ≤ 1048576
  row : C4 w b 87 (.int .i64 most) (.int .i64 (live (most + 1) M)) vc vf
  cs : w.ownsRow 0 98 1 vc n (places M H n)
  fs : w.ownsRow 0 3 1 vf fr.length (nums (ns fr))
  cel : ∀ j c r, M j = some (c, r) → 1 ≤ j ∧ j ≤ n ∧ 1 ≤ r ∧ Cel w F vf (H j) c r
  inj : ∀ j k, M j ≠ none → M k ≠ none → H j = H k → j = k
  nd : fr.Nodup
  fi : ∀ i ∈ fr, 1 ≤ i ∧ i ≤ n ∧ M i = none
  len : n = live (most + 1) M + fr.length + d
  le : n ≤ most
  fb : F b
  fc : ∀ k, vc.ownBlock = some k → F k
  ff : ∀ k, vf.ownBlock = some k → F k
  lt : ∀ k, F k → k < w.heap.size
def Ar (w : World) (b most : Nat) (M : Cells) (F : Nat → Prop) : Prop := ∃ n vc vf fr H, ArD 0 w b most M F n vc vf fr H

section
variable {d : Nat} {w w' : World} {b most : Nat} {M : Cells} {F G : Nat → Prop} {n : Nat} {vc vf : Value} {fr : List Nat} {H : Nat → Nat}
theorem places_length (M : Cells) (H : Nat → Nat) (n : Nat) : (places M H n).length = n := by simp [places]
theorem places_at {j : Nat} (hj : j < n) : (places M H n)[j]? = some (ptrOf (M (j + 1)) (H (j + 1))) := by simp [places, hj]
theorem Cel.kp {h : Nat} {c : Hc} {r : Nat} (hc : Cel w F vf h c r) (hk : Kp G w w') (hG : ∀ k, F k → ¬ G k) : Cel w' F vf h c r := by
  obtain ⟨v, k, h1, h2, h3, h4, h5, h6, h7, h8⟩ := hc
  exact ⟨v, k, h1.kp hk (hG _ h4), hk.own h2 (fun g hg => hG _ (h5 g hg)), hk.own h3 (fun g hg => hG _ (h6 g hg).1), h4, h5, h6, h7, h8⟩
theorem ArD.kp (h : ArD d w b most M F n vc vf fr H) (hk : Kp G w w') (hG : ∀ k, F k → ¬ G k) : ArD d w' b most M F n vc vf fr H where
  m1 := h.m1
  m2 := h.m2
  row := h.row.kp hk (hG _ h.fb)
  cs := hk.own h.cs (fun g hg => hG _ (h.fc g hg))
  fs := hk.own h.fs (fun g hg => hG _ (h.ff g hg))
  cel := fun j c r hj => by
    obtain ⟨h1, h2, h3, h4⟩ := h.cel j c r hj
    exact ⟨h1, h2, h3, h4.kp hk hG⟩
  inj := h.inj
  nd := h.nd
  fi := h.fi
  len := h.len
  le := h.le
  fb := h.fb
  fc := h.fc
  ff := h.ff
  lt := fun k hk' => Nat.lt_of_lt_of_le (h.lt k hk') hk.size
theorem Ar.kp (h : Ar w b most M F) (hk : Kp G w w') (hG : ∀ k, F k → ¬ G k) : Ar w' b most M F := by
  obtain ⟨n, vc, vf, fr, H, h⟩ := h
  exact ⟨n, vc, vf, fr, H, h.kp hk hG⟩
theorem Ar.below (h : Ar w b most M F) (hb : Below w.heap.size w w') : Ar w' b most M F := h.kp (Kp.of_below hb (fun _ => False)) (fun _ _ => id)
theorem Ar.alloc (h : Ar w b most M F) (o : Obj) : Ar (w.alloc o) b most M F := h.below ((Below.refl _ _).alloc (Nat.le_refl _) o)
theorem Ar.drew (h : Ar w b most M F) : Ar w.drew b most M F := h.below (Below.refl _ _).drew
theorem Ar.drewN (h : Ar w b most M F) (k : Nat) : Ar (w.drewN k) b most M F := h.below ⟨rfl, rfl, rfl, Nat.le_refl _, fun _ _ => rfl⟩
theorem Ar.blt (h : Ar w b most M F) : b < w.heap.size := by obtain ⟨n, vc, vf, fr, H, h⟩ := h; exact h.row.lt
theorem Ar.lt (h : Ar w b most M F) {k : Nat} (hk : F k) : k < w.heap.size := by obtain ⟨n, vc, vf, fr, H, h⟩ := h; exact h.lt k hk
theorem ArD.zero (h : ArD d w b most M F n vc vf fr H) : M 0 = none := by
  cases e : M 0 with
  | none => rfl
  | some x => have := (h.cel 0 x.1 x.2 e).1; omega
theorem ArD.top (h : ArD d w b most M F n vc vf fr H) {j : Nat} (hj : n < j) : M j = none := by
  cases e : M j with
  | none => rfl
  | some x => have := (h.cel j x.1 x.2 e).2.1; omega
theorem ArD.held (h : ArD d w b most M F n vc vf fr H) {j : Nat} (hj : M j ≠ none) : 1 ≤ j ∧ j ≤ n := by
  cases e : M j with
  | none => exact absurd e hj
  | some x => have := h.cel j x.1 x.2 e; exact ⟨this.1, this.2.1⟩
theorem live_le (N : Nat) (M : Cells) : live N M ≤ N := by
  have := sumTo_le (f := fun j => one (M j)) 1 N (fun j _ => by cases M j <;> simp [one])
  unfold live; omega
theorem ArD.live_le (h : ArD d w b most M F n vc vf fr H) : live (most + 1) M ≤ most := by have := h.len; have := h.le; omega
end

theorem quiet_same {P : Program} {f : FuncId} {args : Array Value} {w : World} {n : Nat} {v : Value}
    (h : Calls P f args (w.drewN n) fun e w' => e = .returned v ∧ w.drewN n = w') : Calls P f args (w.drewN n) fun e w'' => e = .returned v ∧ ∃ m, w'' = w.drewN m :=
  h.mono fun _ _ ⟨he, hm⟩ => ⟨he, n, hm.symm⟩

/-- A new arena. -/
theorem anew (most : Nat) (w : World) (h1 : 1 ≤ most) (h2 : most ≤ 1048576) : Calls Try.prog 10 #[.int .i64 most] w fun e w' =>
    e = .returned (.tuple #[ap w.heap.size, .int .i64 0]) ∧ Ar w' w.heap.size most (fun _ => none) (fun k => k = w.heap.size) ∧ Below w.heap.size w w' := by
  have h1' : ¬ (most : Int) < 1 := by omega
  go_enter Try.func10, Try.ntmps10
  go_wp2
  go_ret2
  refine ⟨rfl, ⟨0, .slice none 0 0, .slice none 0 0, [], fun _ => 0, ?_⟩, (Below.refl _ _).alloc (Nat.le_refl _) _⟩
  have hl : live (most + 1) (fun _ => none) = 0 := live_zero fun _ => rfl
  refine ⟨h1, h2, ?_, World.ownsRow_nil _ _ _ _, World.ownsRow_nil _ _ _ _, fun j c r h => (by cases h), fun j k h => absurd rfl h, List.nodup_nil, (by simp), (by simp [hl]), Nat.zero_le _, rfl, (by simp [Value.ownBlock]), (by simp [Value.ownBlock]), (by simp)⟩
  rw [hl]
  exact C4.new w _ _ _ _ _
theorem anew_no (most : Int) (w : World) (h : most < 1 ∨ 1048576 < most) : Calls Try.prog 10 #[.int .i64 most] w fun e w' =>
    e = .returned (.tuple #[.pointer none, .int .i64 1]) ∧ w = w' := by
  rcases h with h | h
  · go_enter Try.func10, Try.ntmps10
    go_wp2
    go_ret2
    exact ⟨rfl, rfl⟩
  · have h' : ¬ most < 1 := by omega
    go_enter Try.func10, Try.ntmps10
    go_wp2
    go_ret2
    exact ⟨rfl, rfl⟩

theorem alive (b most : Nat) (M : Cells) (F : Nat → Prop) (w : World) (h : Ar w b most M F) : Calls Try.prog 23 #[ap b] w fun e w' => e = .returned (.int .i64 (live (most + 1) M)) ∧ w = w' := by
  obtain ⟨n, vc, vf, fr, H, h⟩ := h
  have hl := run_call_load (P := Try.prog) Try.func73 (by kernel_rfl) (by kernel_rfl) (by kernel_rfl) .i64 (by kernel_rfl) h.row.c1
  have hle := h.live_le
  have h2 := h.m2
  clear h
  go_enter Try.func23, Try.ntmps23
  go_wp2_with (go_at_call 56; go_in)
  go_ret
  exact ⟨rfl, rfl⟩
theorem alive_no (w : World) : Calls Try.prog 23 #[.pointer none] w fun e w' => e = .returned (.int .i64 0) ∧ w = w' := by
  go_enter Try.func23, Try.ntmps23
  go_wp2
  go_ret
  exact ⟨rfl, rfl⟩

set_option maxHeartbeats 1600000 in
theorem aroom (b most : Nat) (M : Cells) (F : Nat → Prop) (w : World) (h : Ar w b most M F) : Calls Try.prog 25 #[ap b] w fun e w' => e = .returned (.int .i64 ((most : Int) - live (most + 1) M)) ∧ ∃ k, w' = w.drewN k := by
  have h' := h
  obtain ⟨n, vc, vf, fr, H, hi⟩ := h'
  have c0 := hi.row.c0
  have hle := hi.live_le
  have h2 := hi.m2
  clear hi
  have hm1 : (most : Int) ≤ 1048576 := by omega
  have hm2 : ((live (most + 1) M : Nat) : Int) ≤ 1048576 := by omega
  go_enter Try.func25, Try.ntmps25
  go_wp2_with fail
  go_quiet ((go_at_call 23; exact quiet_same (alive b most M F _ (h.drewN _))))
  go_wp2_with fail
  go_ret
  exact ⟨rfl, _, rfl⟩
theorem aroom_no (w : World) : Calls Try.prog 25 #[.pointer none] w fun e w' => e = .returned (.int .i64 0) ∧ w = w' := by
  go_enter Try.func25, Try.ntmps25
  go_wp2
  go_ret
  exact ⟨rfl, rfl⟩

/-- What find returns: the block of a held cell, or nil. -/
def fptr (M : Cells) (H : Nat → Nat) (i : Int) : Value := if 1 ≤ i then ptrOf (M i.toNat) (H i.toNat) else .pointer none
theorem fptr_nat (M : Cells) (H : Nat → Nat) (k : Nat) (hk : 1 ≤ k) : fptr M H k = ptrOf (M k) (H k) := by unfold fptr; rw [if_pos (by omega)]; simp
theorem fptr_none (M : Cells) (H : Nat → Nat) {i : Int} (h : 1 ≤ i → M i.toNat = none) : fptr M H i = .pointer none := by
  unfold fptr
  split
  · rename_i hi; rw [h hi]; rfl
  · rfl
theorem fptr_some (M : Cells) (H : Nat → Nat) {k : Nat} {x : Hc × Nat} (hk : 1 ≤ k) (h : M k = some x) : fptr M H k = ap (H k) := by rw [fptr_nat M H k hk, h]; rfl

section
variable {d : Nat} {b most : Nat} {M : Cells} {F : Nat → Prop} {n : Nat} {vc vf : Value} {fr : List Nat} {H : Nat → Nat}
set_option maxHeartbeats 1600000 in
theorem find (i : Int) (w : World) (h : ArD d w b most M F n vc vf fr H) : Calls Try.prog 71 #[ap b, .int .i64 i] w fun e w' => e = .returned (fptr M H i) ∧ w = w' := by
  obtain ⟨A, c, rfl, hc⟩ := (Rd.of_own h.cs).form
  have c2 := h.row.c2
  have hn : n ≤ 1048576 := by have := h.le; have := h.m2; omega
  by_cases h1 : i < 1
  · rw [fptr_none M H (fun h => by omega)]
    clear h
    go_enter Try.func71, Try.ntmps71
    go_wp2_with fail
    go_ret
    exact ⟨rfl, rfl⟩
  · obtain ⟨k, rfl⟩ : ∃ k : Nat, i = k := ⟨i.toNat, by omega⟩
    by_cases h2 : n < k
    · rw [fptr_none M H (fun _ => by simpa using h.top h2)]
      clear h
      go_enter Try.func71, Try.ntmps71
      go_wp2_with fail
      go_ret
      exact ⟨rfl, rfl⟩
    · obtain ⟨j, rfl⟩ : ∃ j, k = j + 1 := ⟨k - 1, by omega⟩
      obtain ⟨g, c', e, _, hx, _⟩ := own_at h.cs (places_at (M := M) (H := H) (n := n) (j := j) (by omega))
      simp only [Value.slice.injEq, true_and] at e
      obtain ⟨rfl, rfl⟩ := e
      have HF := Lib.hid (fptr_nat M H (j + 1) (by omega))
      clear h
      have hj : ((j + 1 : Nat) : Int) - 1 = j := by omega
      go_enter Try.func71, Try.ntmps71
      go_wp2_with fail
      go_ret
      exact ⟨congrArg Ending.returned HF.out.symm, rfl⟩
theorem find_no (i : Int) (w : World) : Calls Try.prog 71 #[.pointer none, .int .i64 i] w fun e w' => e = .returned (.pointer none) ∧ w = w' := by
  go_enter Try.func71, Try.ntmps71
  go_wp2
  go_ret
  exact ⟨rfl, rfl⟩

/-- May this number stand among a cell's others? -/
def goodB (M : Cells) (x : Int) : Bool := x == 0 || (decide (1 ≤ x) && (M x.toNat).isSome)
theorem good_fptr {x : Int} (h0 : x ≠ 0) (hg : goodB M x = true) : fptr M H x = ap (H x.toNat) := by
  unfold goodB at hg
  simp only [Bool.or_eq_true, beq_iff_eq, h0, false_or, Bool.and_eq_true, decide_eq_true_eq] at hg
  obtain ⟨k, rfl⟩ : ∃ k : Nat, x = k := ⟨x.toNat, by omega⟩
  obtain ⟨y, hy⟩ := Option.isSome_iff_exists.1 hg.2
  exact fptr_some M H (by omega) hy
theorem bad_fptr {x : Int} (hg : goodB M x = false) : fptr M H x = .pointer none := by
  unfold goodB at hg
  simp only [Bool.or_eq_false_iff, beq_eq_false_iff_ne, Bool.and_eq_false_iff, decide_eq_false_iff_not] at hg
  refine fptr_none M H fun h1 => ?_
  rcases hg.2 with h | h
  · exact absurd h1 h
  · exact Option.isSome_eq_false_iff.1 h |> Option.isNone_iff_eq_none.1

set_option maxHeartbeats 1600000 in
theorem allHeld (v : Value) (ks : List Int) (w : World) (h : ArD d w b most M F n vc vf fr H) (hv : Rd w v ks.length (nums ks)) (hl : ks.length ≤ 4194304) :
    Calls Try.prog 57 #[ap b, v] w fun e w' => e = .returned (.bool (ks.all (goodB M))) ∧ w = w' := by
  obtain ⟨A, c, rfl, hc⟩ := hv.form
  go_enter Try.func57, Try.ntmps57
  go_wp2_with fail
  go_loop [9] (fun i => ∃ j : Nat, j ≤ ks.length ∧ i = .int .i64 j ∧ (ks.take j).all (goodB M) = true) (fun i => ks.length - (intOf i).toNat)
  case atStart => exact ⟨0, Nat.zero_le _, rfl, rfl⟩
  case round =>
    obtain ⟨j, hj, rfl, hall⟩ := hrel
    have HA := Lib.hid hall
    clear hall
    by_cases h1 : j < ks.length
    · obtain ⟨x, hx⟩ : ∃ x, ks[j]? = some x := ⟨_, List.getElem?_eq_getElem h1⟩
      obtain ⟨g, o, c', e, _, hcell⟩ := hv.at (j := j) (by rw [nums_at, hx]; rfl)
      injection e with e1 e2 e3
      subst e1 e3
      have HX := Lib.hid hx
      clear hx
      have hstep : (ks.take (j + 1)).all (goodB M) = goodB M x := by
        rw [List.take_add_one, HX.out, List.all_append, HA.out]; simp
      have HS := Lib.hid hstep
      clear hstep
      by_cases h0 : x = 0
      · subst h0
        go_wp2_with fail
        go_round
        case rel => exact ⟨j + 1, by omega, by go_num, by rw [HS.out]; rfl⟩
        case measure => simp [intOf]; omega
      · cases hg : goodB M x
        · have hf := bad_fptr (H := H) hg
          have hall : ks.all (goodB M) = false := by
            rw [List.all_eq_false]
            exact ⟨x, List.mem_of_getElem? HX.out, by simp [hg]⟩
          have HL := Lib.hid hall
          clear hall
          go_wp2_with (go_at_call 71; refine (find _ _ h).mono ?_; rintro e w' ⟨rfl, rfl⟩; rw [hf])
          go_ret
          exact ⟨ret_bool HL.out.symm, rfl⟩
        · have hf := good_fptr (H := H) h0 hg
          go_wp2_with (go_at_call 71; refine (find _ _ h).mono ?_; rintro e w' ⟨rfl, rfl⟩; rw [hf])
          go_round
          case rel => exact ⟨j + 1, by omega, by go_num, by rw [HS.out]; exact hg⟩
          case measure => simp [intOf]; omega
    · obtain rfl : j = ks.length := by omega
      rw [List.take_length] at HA
      go_wp2_with fail
      go_ret
      exact ⟨ret_bool HA.out.symm, rfl⟩
end

/-- How many references a number has. -/
def rfi (M : Cells) (i : Int) : Nat := if 1 ≤ i then rf (M i.toNat) else 0
theorem arefs (i : Int) (b most : Nat) (M : Cells) (F : Nat → Prop) (w : World) (h : Ar w b most M F) : Calls Try.prog 78 #[ap b, .int .i64 i] w fun e w' => e = .returned (.int .i64 (rfi M i)) ∧ w = w' := by
  obtain ⟨n, vc, vf, fr, H, h⟩ := h
  by_cases hs : 1 ≤ i ∧ M i.toNat ≠ none
  · obtain ⟨k, rfl⟩ : ∃ k : Nat, i = k := ⟨i.toNat, by omega⟩
    obtain ⟨x, hx⟩ := Option.ne_none_iff_exists'.1 hs.2
    simp only [Int.toNat_natCast] at hx
    obtain ⟨_, _, _, v, q, r6, _⟩ := h.cel k x.1 x.2 hx
    have hf := fptr_some M H (by omega) hx
    have c5 := r6.c5
    have he : rfi M k = x.2 := by unfold rfi; rw [if_pos (by omega), Int.toNat_natCast, hx]; rfl
    rw [he]
    clear r6
    go_enter Try.func78, Try.ntmps78
    go_wp2_with (go_at_call 71; refine (find _ _ h).mono ?_; rintro e w' ⟨rfl, rfl⟩; rw [hf])
    go_ret
    exact ⟨rfl, rfl⟩
  · have hn : 1 ≤ i → M i.toNat = none := fun h1 => Classical.byContradiction fun hne => hs ⟨h1, hne⟩
    have hf := fptr_none M H hn
    have he : rfi M i = 0 := by
      unfold rfi
      split
      · rename_i h1; rw [hn h1]; rfl
      · rfl
    rw [he]
    go_enter Try.func78, Try.ntmps78
    go_wp2_with (go_at_call 71; refine (find _ _ h).mono ?_; rintro e w' ⟨rfl, rfl⟩; rw [hf])
    go_ret
    exact ⟨rfl, rfl⟩
theorem arefs_no (i : Int) (w : World) : Calls Try.prog 78 #[.pointer none, .int .i64 i] w fun e w' => e = .returned (.int .i64 0) ∧ w = w' := by
  go_enter Try.func78, Try.ntmps78
  go_wp2_with (go_at_call 71; refine (find_no _ _).mono ?_; rintro e w' ⟨rfl, rfl⟩)
  go_ret
  exact ⟨rfl, rfl⟩

end Go.Proofs.Ytgkhbnkbhcginaa
