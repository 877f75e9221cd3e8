/- Slices of values as lists, and what the functions on lists of layer 1 return. -/
import Derived.Test.YtnneklajmkalaaaRef01
namespace Go.Proofs.Ytnneklajmkalaaa
open Go.RowKit

/-- A value's parts: kind, number, bytes. -/
abbrev V3 := Int × Int × ByteArray

/-- The slice that begins at A holds these values. -/
def Lst (w : World) (A : Option Addr) (l : List V3) : Prop :=
  l = [] ∨ ∃ b o, A = some ⟨b, o, none⟩ ∧ b < w.heap.size ∧ ∀ i x, l[i]? = some x →
    w.cell? ⟨b, o + i * 3, none⟩ = some (.int .u8 x.1) ∧ w.cell? ⟨b, o + i * 3 + 1, none⟩ = some (.int .i64 x.2.1) ∧ w.cell? ⟨b, o + i * 3 + 2, none⟩ = some (.string x.2.2)

theorem Lst.grow {w w' : World} {A : Option Addr} {l : List V3} (h : Lst w A l) (g : Gw w w') : Lst w' A l := by
  rcases h with h | ⟨b, o, hA, hb, hc⟩
  · exact .inl h
  · refine .inr ⟨b, o, hA, Nat.lt_of_lt_of_le hb g.size, fun i x hx => ?_⟩
    obtain ⟨c0, c1, c2⟩ := hc i x hx
    exact ⟨(g.cell hb).trans c0, (g.cell hb).trans c1, (g.cell hb).trans c2⟩
theorem Lst.at {w : World} {A : Option Addr} {l : List V3} (h : Lst w A l) {i : Nat} {x : V3} (hi : l[i]? = some x) : ∃ b o, A = some ⟨b, o, none⟩ ∧ b < w.heap.size ∧
    w.cell? ⟨b, o + i * 3, none⟩ = some (.int .u8 x.1) ∧ w.cell? ⟨b, o + i * 3 + 1, none⟩ = some (.int .i64 x.2.1) ∧ w.cell? ⟨b, o + i * 3 + 2, none⟩ = some (.string x.2.2) := by
  rcases h with h | ⟨b, o, hA, hb, hc⟩
  · subst h; simp at hi
  · exact ⟨b, o, hA, hb, hc i x hi⟩

/-- The i-th value, in all worlds that grow out of this one. -/
theorem Lst.gr {w : World} {A : Option Addr} {l : List V3} (h : Lst w A l) {i : Nat} {x : V3} (hi : l[i]? = some x) : ∃ b o, A = some ⟨b, o, none⟩ ∧
    (∀ g : Gr w, g.at'.cell? ⟨b, o + i * 3, none⟩ = some (.int .u8 x.1)) ∧ (∀ g : Gr w, g.at'.cell? ⟨b, o + i * 3 + 1, none⟩ = some (.int .i64 x.2.1)) ∧ (∀ g : Gr w, g.at'.cell? ⟨b, o + i * 3 + 2, none⟩ = some (.string x.2.2)) := by
  obtain ⟨b, o, hA, hb, c0, c1, c2⟩ := h.at hi
  exact ⟨b, o, hA, Gr.cell c0 hb, Gr.cell c1 hb, Gr.cell c2 hb⟩

theorem Gr.again {w : World} {p : Addr} {v : Value} (h : ∀ g : Gr w, g.at'.cell? p = some v) (g : Gr w) : ∀ g' : Gr g.at', g'.at'.cell? p = some v := fun g' => h ⟨g'.at', g.grown.trans g'.grown⟩

theorem all_no {α : Type} {f : α → Bool} {l : List α} {j : Nat} {x : α} (h : l[j]? = some x) (hf : f x = false) : false = l.all f := by
  symm
  rw [List.all_eq_false]
  exact ⟨x, List.mem_of_getElem? h, by rw [hf]; simp⟩
theorem all_yes {α : Type} {f : α → Bool} {l : List α} {j : Nat} {x : α} (h : l[j]? = some x) (hf : f x = true) (ht : (l.take j).all f = true) : (l.take (j + 1)).all f = true := by
  rw [List.take_add_one, h]
  simp [ht, hf]
theorem all_end {α : Type} {f : α → Bool} {l : List α} {j : Nat} (hj : l.length ≤ j) (ht : (l.take j).all f = true) : true = l.all f := by
  rw [List.take_of_length_le hj] at ht
  exact ht.symm

set_option maxHeartbeats 400000 in
theorem all (A : Option Addr) (l : List V3) (c : Nat) (w : World) (hl : Lst w A l) (hn : l.length ≤ 9223372036854775806) (hk : ∀ x ∈ l, 0 ≤ x.1) :
    Calls Try.prog 15 #[.slice A l.length c] w fun e w' => e = .returned (.bool (l.all fun x => rightB x.1 x.2.1 x.2.2)) ∧ Gw w w' := by
  go_enter Try.func15, Try.ntmps15
  go_wp2
  go_loopw [7] (fun i wr => ∃ j : Nat, j ≤ l.length ∧ i = .int .i64 j ∧ Hid ((l.take j).all (fun x => rightB x.1 x.2.1 x.2.2) = true) ∧ Gw w wr) (fun i _ => l.length - (intOf i).toNat)
  case atStart => exact ⟨0, Nat.zero_le _, rfl, by simp [Hid], Gw.refl _⟩
  case round =>
    obtain ⟨j, hj, rfl, HR, gr⟩ := hrel
    by_cases h1 : j < l.length
    · obtain ⟨x, hx⟩ : ∃ x, l[j]? = some x := ⟨_, List.getElem?_eq_getElem h1⟩
      obtain ⟨b, o, rfl, hb, c0, c1, c2⟩ := (hl.grow gr).at hx
      have hkx := hk x (List.mem_of_getElem? hx)
      have HX := Lib.hid hx
      clear hx
      cases hr : rightB x.1 x.2.1 x.2.2
      · go_wp2_with fail
        refine (right _ _ _ _ hkx).mono ?_
        rintro e w1 ⟨rfl, g1⟩
        go_wp2_with fail
        go_ret
        exact ⟨ret_bool (all_no HX.out hr), gr.trans (((Gw.refl _).alloc _ _).trans g1)⟩
      · go_wp2_with fail
        refine (right _ _ _ _ hkx).mono ?_
        rintro e w1 ⟨rfl, g1⟩
        go_wp2_with fail
        go_roundw
        case rel => exact ⟨j + 1, by omega, by go_num, all_yes HX.out hr HR.out, gr.trans (((Gw.refl _).alloc _ _).trans g1)⟩
        case measure => simp [intOf]; omega
    · go_wp2_with fail
      go_ret
      exact ⟨ret_bool (all_end (by omega) HR.out), gr⟩

/-- -1, 0, 1: of lists of values. -/
def lvcmp : List V3 → List V3 → Int
  | [], [] => 0
  | [], _ :: _ => -1
  | _ :: _, [] => 1
  | x :: a, y :: b => if vcmp x.1 x.2.1 x.2.2 y.1 y.2.1 y.2.2 = 0 then lvcmp a b else vcmp x.1 x.2.1 x.2.2 y.1 y.2.1 y.2.2
theorem drop_get {α : Type} {l : List α} {j : Nat} {x : α} (h : l[j]? = some x) : l.drop j = x :: l.drop (j + 1) := by
  obtain ⟨hlt, rfl⟩ := List.getElem?_eq_some_iff.1 h
  exact List.drop_eq_getElem_cons hlt
theorem lv_part {l m : List V3} {j : Nat} {x y : V3} (hx : l[j]? = some x) (hy : m[j]? = some y) (hd : lvcmp l m = lvcmp (l.drop j) (m.drop j)) (hne : ¬ vcmp x.1 x.2.1 x.2.2 y.1 y.2.1 y.2.2 = 0) : vcmp x.1 x.2.1 x.2.2 y.1 y.2.1 y.2.2 = lvcmp l m := by
  rw [hd, drop_get hx, drop_get hy, lvcmp, if_neg hne]
theorem lv_on {l m : List V3} {j : Nat} {x y : V3} (hx : l[j]? = some x) (hy : m[j]? = some y) (hd : lvcmp l m = lvcmp (l.drop j) (m.drop j)) (he : vcmp x.1 x.2.1 x.2.2 y.1 y.2.1 y.2.2 = 0) : lvcmp l m = lvcmp (l.drop (j + 1)) (m.drop (j + 1)) := by
  rw [hd, drop_get hx, drop_get hy, lvcmp, if_pos he]
theorem lv_end {l m : List V3} {j : Nat} (hj : j ≤ l.length) (hj' : j ≤ m.length) (hd : lvcmp l m = lvcmp (l.drop j) (m.drop j)) (h : ¬ (j < l.length ∧ j < m.length)) : icmp (l.length : Int) (m.length : Int) = lvcmp l m := by
  rw [hd]
  by_cases h1 : j < l.length
  · rw [List.drop_eq_getElem_cons h1, List.drop_eq_nil_of_le (show m.length ≤ j by omega), lvcmp]
    exact (icmp_p1 (by omega)).symm
  · rw [List.drop_eq_nil_of_le (show l.length ≤ j by omega)]
    by_cases h2 : j < m.length
    · rw [List.drop_eq_getElem_cons h2, lvcmp]
      exact (icmp_m1 (by omega)).symm
    · rw [List.drop_eq_nil_of_le (show m.length ≤ j by omega), lvcmp]
      exact (icmp_0 (by omega) (by omega)).symm
theorem lvcmp_self : ∀ l : List V3, lvcmp l l = 0
  | [] => rfl
  | x :: a => by rw [lvcmp, if_pos (vcmp_self _ _ _), lvcmp_self a]

theorem nan_i (x : Int) (w : World) : Calls Try.prog 27 #[.int .i64 x] w fun e w' => e = .returned (.bool false) ∧ w = w' := by
  go_enter Try.func27, Try.ntmps27
  go_wp2
  go_ret
  simp
theorem cmp_i (a b : Int) (w : World) : Calls Try.prog 23 #[.int .i64 a, .int .i64 b] w fun e w' => e = .returned (.int .i64 (icmp a b)) ∧ w = w' := by
  go_enter Try.func23, Try.ntmps23
  go_wp2_with (go_at_call 27; refine (nan_i _ _).mono ?_; rintro e w' ⟨rfl, rfl⟩)
  all_goals go_ret
  all_goals exact ⟨ret_int (by first | exact icmp_m1 ‹_› | exact icmp_p1 ‹_› | exact icmp_0 ‹_› ‹_›), rfl⟩

set_option maxHeartbeats 1000000 in
theorem lists (A A' : Option Addr) (l m : List V3) (c c' : Nat) (w : World) (hl : Lst w A l) (hm : Lst w A' m) (hn : l.length ≤ 9223372036854775806) (hn' : m.length ≤ 9223372036854775806) :
    Calls Try.prog 13 #[.slice A l.length c, .slice A' m.length c'] w fun e w' => e = .returned (.int .i64 (lvcmp l m)) ∧ Gw w w' := by
  go_enter Try.func13, Try.ntmps13
  go_wp2
  all_goals
    go_loopw [11] (fun i wr => ∃ j : Nat, j ≤ l.length ∧ j ≤ m.length ∧ i = .int .i64 j ∧ Hid (lvcmp l m = lvcmp (l.drop j) (m.drop j)) ∧ Gw w wr) (fun i _ => l.length - (intOf i).toNat)
    case atStart => exact ⟨0, Nat.zero_le _, Nat.zero_le _, rfl, rfl, Gw.refl _⟩
    case round =>
      obtain ⟨j, hj, hj', rfl, HD, gr⟩ := hrel
      by_cases h1 : j < l.length ∧ j < m.length
      · obtain ⟨h1, h2⟩ := h1
        obtain ⟨⟨k, n, s⟩, hx⟩ : ∃ x, l[j]? = some x := ⟨_, List.getElem?_eq_getElem h1⟩
        obtain ⟨⟨k', n', s'⟩, hy⟩ : ∃ x, m[j]? = some x := ⟨_, List.getElem?_eq_getElem h2⟩
        obtain ⟨b, o, rfl, c0, c1, c2⟩ := (hl.grow gr).gr hx
        obtain ⟨b', o', rfl, d0, d1, d2⟩ := (hm.grow gr).gr hy
        have HX := Lib.hid hx
        have HY := Lib.hid hy
        clear hx hy
        go_wp2_with fail
        refine region_grown (by kernel_rfl) (by kernel_rfl) ?_
        by_cases hk : k = k'
        · subst hk
          by_cases hnn : n = n'
          · subst hnn
            by_cases hss : s.toList = s'.toList
            · obtain rfl : s = s' := bytes_ext hss
              repeat (go_big_quiet_step (fail))
              refine wpQuiet_nil ?_
              rintro _ ⟨g, rfl⟩
              go_wp2_with fail
              go_roundw
              case rel => exact ⟨j + 1, by omega, by omega, by go_num, lv_on HX.out HY.out HD.out (vcmp_self _ _ _), gr.trans g.grown⟩
              case measure => simp [intOf]; omega
            · repeat (go_big_quiet_step (fail))
              refine wpQuiet_nil ?_
              rintro _ ⟨g, rfl⟩
              have e0 := Gr.again c0 g
              have e1 := Gr.again c1 g
              have e2 := Gr.again c2 g
              have f0 := Gr.again d0 g
              have f1 := Gr.again d1 g
              have f2 := Gr.again d2 g
              clear c0 c1 c2 d0 d1 d2
              go_wp2_with fail
              refine region_grown (by kernel_rfl) (by kernel_rfl) ?_
              repeat (go_big_quiet_step ((go_at_call 8; exact Gr.calls _ (compare _ _ _ _ _ _ _))))
              refine wpQuiet_nil ?_
              rintro _ ⟨g', rfl⟩
              go_wp2_with fail
              go_ret
              exact ⟨ret_int (lv_part HX.out HY.out HD.out (fun e => hss ((vcmp_zero _ _ _ _ _ _).1 e).2.2)), gr.trans (g.grown.trans g'.grown)⟩
          · repeat (go_big_quiet_step (fail))
            refine wpQuiet_nil ?_
            rintro _ ⟨g, rfl⟩
            have e0 := Gr.again c0 g
            have e1 := Gr.again c1 g
            have e2 := Gr.again c2 g
            have f0 := Gr.again d0 g
            have f1 := Gr.again d1 g
            have f2 := Gr.again d2 g
            clear c0 c1 c2 d0 d1 d2
            go_wp2_with fail
            refine region_grown (by kernel_rfl) (by kernel_rfl) ?_
            repeat (go_big_quiet_step ((go_at_call 8; exact Gr.calls _ (compare _ _ _ _ _ _ _))))
            refine wpQuiet_nil ?_
            rintro _ ⟨g', rfl⟩
            go_wp2_with fail
            go_ret
            exact ⟨ret_int (lv_part HX.out HY.out HD.out (fun e => hnn ((vcmp_zero _ _ _ _ _ _).1 e).2.1)), gr.trans (g.grown.trans g'.grown)⟩
        · repeat (go_big_quiet_step (fail))
          refine wpQuiet_nil ?_
          rintro _ ⟨g, rfl⟩
          have e0 := Gr.again c0 g
          have e1 := Gr.again c1 g
          have e2 := Gr.again c2 g
          have f0 := Gr.again d0 g
          have f1 := Gr.again d1 g
          have f2 := Gr.again d2 g
          clear c0 c1 c2 d0 d1 d2
          go_wp2_with fail
          refine region_grown (by kernel_rfl) (by kernel_rfl) ?_
          repeat (go_big_quiet_step ((go_at_call 8; exact Gr.calls _ (compare _ _ _ _ _ _ _))))
          refine wpQuiet_nil ?_
          rintro _ ⟨g', rfl⟩
          go_wp2_with fail
          go_ret
          exact ⟨ret_int (lv_part HX.out HY.out HD.out (fun e => hk ((vcmp_zero _ _ _ _ _ _).1 e).1)), gr.trans (g.grown.trans g'.grown)⟩
      · go_wp2_with fail
        refine (cmp_i _ _ _).mono ?_
        rintro e w1 ⟨rfl, rfl⟩
        go_wp2_with fail
        go_ret
        exact ⟨ret_int (lv_end hj hj' HD.out h1), gr⟩

set_option maxHeartbeats 1000000 in
theorem ref_lists (A A' : Option Addr) (l m : List V3) (c c' : Nat) (w : World) (hl : Lst w A l) (hm : Lst w A' m) (hn : l.length ≤ 9223372036854775806)
    (hs : ∀ x ∈ l, x.2.2.size ≤ 9223372036854775807) (hs' : ∀ x ∈ m, x.2.2.size ≤ 9223372036854775807) :
    Calls Try.prog 14 #[.slice A l.length c, .slice A' m.length c'] w fun e w' => e = .returned (.int .i64 (lvcmp l m)) ∧ Gw w w' := by
  go_enter Try.func14, Try.ntmps14
  go_wp2
  go_loopw [5] (fun i wr => ∃ j : Nat, j ≤ l.length ∧ j ≤ m.length ∧ i = .int .i64 j ∧ Hid (lvcmp l m = lvcmp (l.drop j) (m.drop j)) ∧ Gw w wr) (fun i _ => l.length - (intOf i).toNat)
  case atStart => exact ⟨0, Nat.zero_le _, Nat.zero_le _, rfl, rfl, Gw.refl _⟩
  case round =>
    obtain ⟨j, hj, hj', rfl, HD, gr⟩ := hrel
    by_cases h1 : j < l.length ∧ j < m.length
    · obtain ⟨h1, h2⟩ := h1
      obtain ⟨⟨k, n, s⟩, hx⟩ : ∃ x, l[j]? = some x := ⟨_, List.getElem?_eq_getElem h1⟩
      obtain ⟨⟨k', n', s'⟩, hy⟩ : ∃ x, m[j]? = some x := ⟨_, List.getElem?_eq_getElem h2⟩
      obtain ⟨b, o, rfl, c0, c1, c2⟩ := (hl.grow gr).gr hx
      obtain ⟨b', o', rfl, d0, d1, d2⟩ := (hm.grow gr).gr hy
      have z1 := hs _ (List.mem_of_getElem? hx)
      have z2 := hs' _ (List.mem_of_getElem? hy)
      have HX := Lib.hid hx
      have HY := Lib.hid hy
      clear hx hy hs hs'
      go_wp2_with fail
      refine region_grown (by kernel_rfl) (by kernel_rfl) ?_
      repeat (go_big_quiet_step ((go_at_call 9; exact Gr.calls _ (ref_compare _ _ _ _ _ _ _ z1 z2))))
      refine wpQuiet_nil ?_
      rintro _ ⟨g, rfl⟩
      cases he : (vcmp k n s k' n' s' != 0)
      · go_wp2_with fail
        go_roundw
        case rel => exact ⟨j + 1, by omega, by omega, by go_num, lv_on HX.out HY.out HD.out (by simpa using he), gr.trans g.grown⟩
        case measure => simp [intOf]; omega
      · go_wp2_with fail
        go_ret
        exact ⟨ret_int (lv_part HX.out HY.out HD.out (by simpa using he)), gr.trans g.grown⟩
    · by_cases h2 : j < l.length
      · go_wp2_with fail
        all_goals go_ret
        all_goals exact ⟨ret_int (by rw [← lv_end hj hj' HD.out h1]; first | exact icmp_m1 (by omega) | exact icmp_p1 (by omega) | exact icmp_0 (by omega) (by omega)), gr⟩
      · go_wp2_with fail
        all_goals go_ret
        all_goals exact ⟨ret_int (by rw [← lv_end hj hj' HD.out h1]; first | exact icmp_m1 (by omega) | exact icmp_p1 (by omega) | exact icmp_0 (by omega) (by omega)), gr⟩

end Go.Proofs.Ytnneklajmkalaaa
