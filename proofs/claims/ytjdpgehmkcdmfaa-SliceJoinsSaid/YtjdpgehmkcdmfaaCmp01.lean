/- How values and lists of values compare: what the program returns, and the document's answer (those parts of Walks01, Ref01 and Lists01 that need no law of layer 1). -/
import Derived.Test.YtjdpgehmkcdmfaaPlain01
import Derived.Test.YtjdpgehmkcdmfaaLst
import Derived.WalkLawsBesides
import Derived.WalkSpells
import Derived.Deep.RegionWith
import Derived.Lib.Hide
namespace Go.Proofs.Ytjdpgehmkcdmfaa
open Go.RowKit

abbrev vv (k n : Int) (s : ByteArray) : Value := .agg #[.int .u8 k, .int .i64 n, .string s]

theorem nan_kind (x : Int) (w : World) : Calls Try.prog 83 #[.int .u8 x] w fun e w' => e = .returned (.bool false) ∧ w = w' := by
  go_enter Try.func83, Try.ntmps83
  go_wp2
  go_ret
  simp
theorem nan_int (x : Int) (w : World) : Calls Try.prog 84 #[.int .i64 x] w fun e w' => e = .returned (.bool false) ∧ w = w' := by
  go_enter Try.func84, Try.ntmps84
  go_wp2
  go_ret
  simp
theorem nan_string (x : ByteArray) (w : World) : Calls Try.prog 85 #[.string x] w fun e w' => e = .returned (.bool false) ∧ w = w' := by
  go_enter Try.func85, Try.ntmps85
  go_wp2
  go_ret
  simp
theorem cmp_kind (a b : Int) (w : World) : Calls Try.prog 79 #[.int .u8 a, .int .u8 b] w fun e w' => e = .returned (.int .i64 (icmp a b)) ∧ w = w' := by
  go_enter Try.func79, Try.ntmps79
  go_wp2_with (go_at_call 83; refine (nan_kind _ _).mono ?_; rintro e w' ⟨rfl, rfl⟩)
  all_goals go_ret
  all_goals exact ⟨ret_int (by first | exact icmp_m1 ‹_› | exact icmp_p1 ‹_› | exact icmp_0 ‹_› ‹_›), rfl⟩
theorem cmp_int (a b : Int) (w : World) : Calls Try.prog 80 #[.int .i64 a, .int .i64 b] w fun e w' => e = .returned (.int .i64 (icmp a b)) ∧ w = w' := by
  go_enter Try.func80, Try.ntmps80
  go_wp2_with (go_at_call 84; refine (nan_int _ _).mono ?_; rintro e w' ⟨rfl, rfl⟩)
  all_goals go_ret
  all_goals exact ⟨ret_int (by first | exact icmp_m1 ‹_› | exact icmp_p1 ‹_› | exact icmp_0 ‹_› ‹_›), rfl⟩
theorem cmp_string (a b : ByteArray) (w : World) : Calls Try.prog 81 #[.string a, .string b] w fun e w' => e = .returned (.int .i64 (lcmp a.toList b.toList)) ∧ w = w' := by
  go_enter Try.func81, Try.ntmps81
  go_wp2_with (go_at_call 85; refine (nan_string _ _).mono ?_; rintro e w' ⟨rfl, rfl⟩)
  all_goals go_ret
  all_goals exact ⟨ret_int (by first | exact lcmp_m1 ‹_› | exact lcmp_p1 ‹_› ‹_› | exact lcmp_0 ‹_›), rfl⟩

set_option maxHeartbeats 400000 in
theorem compare (k n : Int) (s : ByteArray) (k' n' : Int) (s' : ByteArray) (w : World) :
    Calls Try.prog 75 #[vv k n s, vv k' n' s'] w fun e w' => e = .returned (.int .i64 (vcmp k n s k' n' s')) ∧ Gw w w' := by
  go_enter Try.func75, Try.ntmps75
  go_wp2_with (first | (go_at_call 79; refine (cmp_kind _ _ _).mono ?_; rintro e w' ⟨rfl, rfl⟩) | (go_at_call 80; refine (cmp_int _ _ _).mono ?_; rintro e w' ⟨rfl, rfl⟩) | (go_at_call 81; refine (cmp_string _ _ _).mono ?_; rintro e w' ⟨rfl, rfl⟩))
  all_goals go_ret
  all_goals exact ⟨ret_int (by first | exact vc_0 ‹_› ‹_› ‹_› | exact vc_s ‹_› ‹_› | exact vc_n ‹_› ‹_› | exact vc_k ‹_›), ((Gw.refl _).alloc _ _).alloc _ _⟩




theorem ref_less_k (k n : Int) (s : ByteArray) (k' n' : Int) (s' : ByteArray) (w : World) (h : ¬ k = k') :
    Calls Try.prog 77 #[vv k n s, vv k' n' s'] w fun e w' => e = .returned (.bool (lessB k n s k' n' s')) ∧ Gw w w' := by
  have h1 : (k != k') = true := by simpa using h
  go_enter Try.func77, Try.ntmps77
  go_wp2
  go_ret
  exact ⟨ret_bool (less_k h), ((Gw.refl _).alloc _ _).alloc _ _⟩
theorem ref_less_n (k n : Int) (s : ByteArray) (n' : Int) (s' : ByteArray) (w : World) (h : ¬ n = n') :
    Calls Try.prog 77 #[vv k n s, vv k n' s'] w fun e w' => e = .returned (.bool (lessB k n s k n' s')) ∧ Gw w w' := by
  have h1 : (n != n') = true := by simpa using h
  go_enter Try.func77, Try.ntmps77
  go_wp2
  go_ret
  exact ⟨ret_bool (less_n rfl h), ((Gw.refl _).alloc _ _).alloc _ _⟩

set_option maxHeartbeats 1000000 in
theorem ref_less_s (k n : Int) (s s' : ByteArray) (w : World) (hs : s.size ≤ 9223372036854775807) (_hs' : s'.size ≤ 9223372036854775807) :
    Calls Try.prog 77 #[vv k n s, vv k n s'] w fun e w' => e = .returned (.bool (lessB k n s k n s')) ∧ Gw w w' := by
  go_enter Try.func77, Try.ntmps77
  go_wp2
  go_loopw [5] (fun i wr => ∃ j q : Nat, j ≤ s.size ∧ j ≤ s'.size ∧ i = .int .i64 j ∧ Hid (lcmp s.toList s'.toList = lcmp (s.toList.drop j) (s'.toList.drop j)) ∧ wr = ((w.alloc (.cells #[.int .u8 k, .int .i64 n, .string s] 110)).alloc (.cells #[.int .u8 k, .int .i64 n, .string s'] 110)).drewN q) (fun i _ => s.size - (intOf i).toNat)
  case atStart => exact ⟨0, 0, Nat.zero_le _, Nat.zero_le _, rfl, rfl, rfl⟩
  case round =>
    obtain ⟨j, q, hj, hj', rfl, HD, rfl⟩ := hrel
    by_cases h1 : j < s.size
    · by_cases h2 : j < s'.size
      · cases hne : ((s[j].toNat : Int) != (s'[j].toNat : Int))
        · go_wp2
          go_quiet (fail)
          go_wp2
          refine ⟨⟨j + 1, q + nq, by omega, by omega, by go_num, lc_on h1 h2 HD.out hne, rfl⟩, ?_⟩
          simp [intOf]; omega
        · go_wp2
          go_quiet (fail)
          go_wp2
          go_quiet (fail)
          go_wp2
          go_ret
          exact ⟨ret_bool (by rw [less_s]; exact lc_part h1 h2 HD.out hne), (((((Gw.refl _).alloc _ _).alloc _ _).drewN _).drewN _).drewN _⟩
      · go_wp2
        go_ret
        exact ⟨ret_bool (by rw [less_s]; exact lc_end hj hj' HD.out (by omega)), (((Gw.refl _).alloc _ _).alloc _ _).drewN _⟩
    · go_wp2
      go_ret
      exact ⟨ret_bool (by rw [less_s]; exact lc_end hj hj' HD.out (by omega)), (((Gw.refl _).alloc _ _).alloc _ _).drewN _⟩

theorem ref_less (k n : Int) (s : ByteArray) (k' n' : Int) (s' : ByteArray) (w : World) (hs : s.size ≤ 9223372036854775807) (hs' : s'.size ≤ 9223372036854775807) :
    Calls Try.prog 77 #[vv k n s, vv k' n' s'] w fun e w' => e = .returned (.bool (lessB k n s k' n' s')) ∧ Gw w w' := by
  by_cases h : k = k'
  · subst h
    by_cases h2 : n = n'
    · subst h2; exact ref_less_s k n s s' w hs hs'
    · exact ref_less_n k n s n' s' w h2
  · exact ref_less_k k n s k' n' s' w h

theorem ref_compare (k n : Int) (s : ByteArray) (k' n' : Int) (s' : ByteArray) (w : World) (hs : s.size ≤ 9223372036854775807) (hs' : s'.size ≤ 9223372036854775807) :
    Calls Try.prog 65 #[vv k n s, vv k' n' s'] w fun e w' => e = .returned (.int .i64 (vcmp k n s k' n' s')) ∧ Gw w w' := by
  go_enter Try.func65, Try.ntmps65
  go_wp2_with fail
  refine (ref_less _ _ _ _ _ _ _ hs hs').mono ?_
  rintro e w1 ⟨rfl, g1⟩
  obtain ⟨a0, a1, a2, b0, b1, b2⟩ := g1.two3
  go_wp2_with fail
  refine (ref_less _ _ _ _ _ _ _ hs' hs).mono ?_
  rintro e w2 ⟨rfl, g2⟩
  clear a0 a1 a2 b0 b1 b2
  go_wp2_with fail
  all_goals go_ret
  all_goals exact ⟨ret_int (by first | exact cm_m1 ‹_› | exact cm_p1 ‹_› | exact cm_0 ‹_› ‹_›), (((Gw.refl _).alloc _ _).alloc _ _).trans (g1.trans g2)⟩




theorem all_no {α : Type} {f : α → Bool} {l : List α} {j : Nat} {x : α} (h : l[j]? = some x) (hf : f x = false) : false = l.all f := by
  symm
  rw [List.all_eq_false]
  exact ⟨x, List.mem_of_getElem? h, by rw [hf]; simp⟩
theorem all_yes {α : Type} {f : α → Bool} {l : List α} {j : Nat} {x : α} (h : l[j]? = some x) (hf : f x = true) (ht : (l.take j).all f = true) : (l.take (j + 1)).all f = true := by
  rw [List.take_add_one, h]
  simp [ht, hf]
theorem all_end {α : Type} {f : α → Bool} {l : List α} {j : Nat} (hj : l.length ≤ j) (ht : (l.take j).all f = true) : true = l.all f := by
  rw [List.take_of_length_le hj] at ht
  exact ht.symm

def lvcmp : List V3 → List V3 → Int
  | [], [] => 0
  | [], _ :: _ => -1
  | _ :: _, [] => 1
  | x :: a, y :: b => if vcmp x.1 x.2.1 x.2.2 y.1 y.2.1 y.2.2 = 0 then lvcmp a b else vcmp x.1 x.2.1 x.2.2 y.1 y.2.1 y.2.2
theorem drop_get {α : Type} {l : List α} {j : Nat} {x : α} (h : l[j]? = some x) : l.drop j = x :: l.drop (j + 1) := by
  obtain ⟨hlt, rfl⟩ := List.getElem?_eq_some_iff.1 h
  exact List.drop_eq_getElem_cons hlt
theorem lv_part {l m : List V3} {j : Nat} {x y : V3} (hx : l[j]? = some x) (hy : m[j]? = some y) (hd : lvcmp l m = lvcmp (l.drop j) (m.drop j)) (hne : ¬ vcmp x.1 x.2.1 x.2.2 y.1 y.2.1 y.2.2 = 0) : vcmp x.1 x.2.1 x.2.2 y.1 y.2.1 y.2.2 = lvcmp l m := by
  rw [hd, drop_get hx, drop_get hy, lvcmp, if_neg hne]
theorem lv_on {l m : List V3} {j : Nat} {x y : V3} (hx : l[j]? = some x) (hy : m[j]? = some y) (hd : lvcmp l m = lvcmp (l.drop j) (m.drop j)) (he : vcmp x.1 x.2.1 x.2.2 y.1 y.2.1 y.2.2 = 0) : lvcmp l m = lvcmp (l.drop (j + 1)) (m.drop (j + 1)) := by
  rw [hd, drop_get hx, drop_get hy, lvcmp, if_pos he]
theorem lv_end {l m : List V3} {j : Nat} (hj : j ≤ l.length) (hj' : j ≤ m.length) (hd : lvcmp l m = lvcmp (l.drop j) (m.drop j)) (h : ¬ (j < l.length ∧ j < m.length)) : icmp (l.length : Int) (m.length : Int) = lvcmp l m := by
  rw [hd]
  by_cases h1 : j < l.length
  · rw [List.drop_eq_getElem_cons h1, List.drop_eq_nil_of_le (show m.length ≤ j by omega), lvcmp]
    exact (icmp_p1 (by omega)).symm
  · rw [List.drop_eq_nil_of_le (show l.length ≤ j by omega)]
    by_cases h2 : j < m.length
    · rw [List.drop_eq_getElem_cons h2, lvcmp]
      exact (icmp_m1 (by omega)).symm
    · rw [List.drop_eq_nil_of_le (show m.length ≤ j by omega), lvcmp]
      exact (icmp_0 (by omega) (by omega)).symm
theorem lvcmp_self : ∀ l : List V3, lvcmp l l = 0
  | [] => rfl
  | x :: a => by rw [lvcmp, if_pos (vcmp_self _ _ _), lvcmp_self a]

theorem nan_i (x : Int) (w : World) : Calls Try.prog 82 #[.int .i64 x] w fun e w' => e = .returned (.bool false) ∧ w = w' := by
  go_enter Try.func82, Try.ntmps82
  go_wp2
  go_ret
  simp
theorem cmp_i (a b : Int) (w : World) : Calls Try.prog 76 #[.int .i64 a, .int .i64 b] w fun e w' => e = .returned (.int .i64 (icmp a b)) ∧ w = w' := by
  go_enter Try.func76, Try.ntmps76
  go_wp2_with (go_at_call 82; refine (nan_i _ _).mono ?_; rintro e w' ⟨rfl, rfl⟩)
  all_goals go_ret
  all_goals exact ⟨ret_int (by first | exact icmp_m1 ‹_› | exact icmp_p1 ‹_› | exact icmp_0 ‹_› ‹_›), rfl⟩

set_option maxHeartbeats 1000000 in
theorem lists (A A' : Option Addr) (l m : List V3) (c c' : Nat) (w : World) (hl : Lst w A l) (hm : Lst w A' m) (hn : l.length ≤ 9223372036854775806) (hn' : m.length ≤ 9223372036854775806) :
    Calls Try.prog 64 #[.slice A l.length c, .slice A' m.length c'] w fun e w' => e = .returned (.int .i64 (lvcmp l m)) ∧ Gw w w' := by
  go_enter Try.func64, Try.ntmps64
  go_wp2
  all_goals
    go_loopw [11] (fun i wr => ∃ j : Nat, j ≤ l.length ∧ j ≤ m.length ∧ i = .int .i64 j ∧ Hid (lvcmp l m = lvcmp (l.drop j) (m.drop j)) ∧ Gw w wr) (fun i _ => l.length - (intOf i).toNat)
    case atStart => exact ⟨0, Nat.zero_le _, Nat.zero_le _, rfl, rfl, Gw.refl _⟩
    case round =>
      obtain ⟨j, hj, hj', rfl, HD, gr⟩ := hrel
      by_cases h1 : j < l.length ∧ j < m.length
      · obtain ⟨h1, h2⟩ := h1
        obtain ⟨⟨k, n, s⟩, hx⟩ : ∃ x, l[j]? = some x := ⟨_, List.getElem?_eq_getElem h1⟩
        obtain ⟨⟨k', n', s'⟩, hy⟩ : ∃ x, m[j]? = some x := ⟨_, List.getElem?_eq_getElem h2⟩
        obtain ⟨b, o, rfl, c0, c1, c2⟩ := (hl.grow gr).gr hx
        obtain ⟨b', o', rfl, d0, d1, d2⟩ := (hm.grow gr).gr hy
        have HX := Lib.hid hx
        have HY := Lib.hid hy
        clear hx hy
        go_wp2_with fail
        refine region_grown (by kernel_rfl) (by kernel_rfl) ?_
        by_cases hk : k = k'
        · subst hk
          by_cases hnn : n = n'
          · subst hnn
            by_cases hss : s.toList = s'.toList
            · obtain rfl : s = s' := bytes_ext hss
              repeat (go_big_quiet_step (fail))
              refine wpQuiet_nil ?_
              rintro _ ⟨g, rfl⟩
              go_wp2_with fail
              go_roundw
              case rel => exact ⟨j + 1, by omega, by omega, by go_num, lv_on HX.out HY.out HD.out (vcmp_self _ _ _), gr.trans g.grown⟩
              case measure => simp [intOf]; omega
            · repeat (go_big_quiet_step (fail))
              refine wpQuiet_nil ?_
              rintro _ ⟨g, rfl⟩
              have e0 := Gr.again c0 g
              have e1 := Gr.again c1 g
              have e2 := Gr.again c2 g
              have f0 := Gr.again d0 g
              have f1 := Gr.again d1 g
              have f2 := Gr.again d2 g
              clear c0 c1 c2 d0 d1 d2
              go_wp2_with fail
              refine region_grown (by kernel_rfl) (by kernel_rfl) ?_
              repeat (go_big_quiet_step ((go_at_call 75; exact Gr.calls _ (compare _ _ _ _ _ _ _))))
              refine wpQuiet_nil ?_
              rintro _ ⟨g', rfl⟩
              go_wp2_with fail
              go_ret
              exact ⟨ret_int (lv_part HX.out HY.out HD.out (fun e => hss ((vcmp_zero _ _ _ _ _ _).1 e).2.2)), gr.trans (g.grown.trans g'.grown)⟩
          · repeat (go_big_quiet_step (fail))
            refine wpQuiet_nil ?_
            rintro _ ⟨g, rfl⟩
            have e0 := Gr.again c0 g
            have e1 := Gr.again c1 g
            have e2 := Gr.again c2 g
            have f0 := Gr.again d0 g
            have f1 := Gr.again d1 g
            have f2 := Gr.again d2 g
            clear c0 c1 c2 d0 d1 d2
            go_wp2_with fail
            refine region_grown (by kernel_rfl) (by kernel_rfl) ?_
            repeat (go_big_quiet_step ((go_at_call 75; exact Gr.calls _ (compare _ _ _ _ _ _ _))))
            refine wpQuiet_nil ?_
            rintro _ ⟨g', rfl⟩
            go_wp2_with fail
            go_ret
            exact ⟨ret_int (lv_part HX.out HY.out HD.out (fun e => hnn ((vcmp_zero _ _ _ _ _ _).1 e).2.1)), gr.trans (g.grown.trans g'.grown)⟩
        · repeat (go_big_quiet_step (fail))
          refine wpQuiet_nil ?_
          rintro _ ⟨g, rfl⟩
          have e0 := Gr.again c0 g
          have e1 := Gr.again c1 g
          have e2 := Gr.again c2 g
          have f0 := Gr.again d0 g
          have f1 := Gr.again d1 g
          have f2 := Gr.again d2 g
          clear c0 c1 c2 d0 d1 d2
          go_wp2_with fail
          refine region_grown (by kernel_rfl) (by kernel_rfl) ?_
          repeat (go_big_quiet_step ((go_at_call 75; exact Gr.calls _ (compare _ _ _ _ _ _ _))))
          refine wpQuiet_nil ?_
          rintro _ ⟨g', rfl⟩
          go_wp2_with fail
          go_ret
          exact ⟨ret_int (lv_part HX.out HY.out HD.out (fun e => hk ((vcmp_zero _ _ _ _ _ _).1 e).1)), gr.trans (g.grown.trans g'.grown)⟩
      · go_wp2_with fail
        refine (cmp_i _ _ _).mono ?_
        rintro e w1 ⟨rfl, rfl⟩
        go_wp2_with fail
        go_ret
        exact ⟨ret_int (lv_end hj hj' HD.out h1), gr⟩

set_option maxHeartbeats 1000000 in
theorem ref_lists (A A' : Option Addr) (l m : List V3) (c c' : Nat) (w : World) (hl : Lst w A l) (hm : Lst w A' m) (hn : l.length ≤ 9223372036854775806)
    (hs : ∀ x ∈ l, x.2.2.size ≤ 9223372036854775807) (hs' : ∀ x ∈ m, x.2.2.size ≤ 9223372036854775807) :
    Calls Try.prog 39 #[.slice A l.length c, .slice A' m.length c'] w fun e w' => e = .returned (.int .i64 (lvcmp l m)) ∧ Gw w w' := by
  go_enter Try.func39, Try.ntmps39
  go_wp2
  go_loopw [5] (fun i wr => ∃ j : Nat, j ≤ l.length ∧ j ≤ m.length ∧ i = .int .i64 j ∧ Hid (lvcmp l m = lvcmp (l.drop j) (m.drop j)) ∧ Gw w wr) (fun i _ => l.length - (intOf i).toNat)
  case atStart => exact ⟨0, Nat.zero_le _, Nat.zero_le _, rfl, rfl, Gw.refl _⟩
  case round =>
    obtain ⟨j, hj, hj', rfl, HD, gr⟩ := hrel
    by_cases h1 : j < l.length ∧ j < m.length
    · obtain ⟨h1, h2⟩ := h1
      obtain ⟨⟨k, n, s⟩, hx⟩ : ∃ x, l[j]? = some x := ⟨_, List.getElem?_eq_getElem h1⟩
      obtain ⟨⟨k', n', s'⟩, hy⟩ : ∃ x, m[j]? = some x := ⟨_, List.getElem?_eq_getElem h2⟩
      obtain ⟨b, o, rfl, c0, c1, c2⟩ := (hl.grow gr).gr hx
      obtain ⟨b', o', rfl, d0, d1, d2⟩ := (hm.grow gr).gr hy
      have z1 := hs _ (List.mem_of_getElem? hx)
      have z2 := hs' _ (List.mem_of_getElem? hy)
      have HX := Lib.hid hx
      have HY := Lib.hid hy
      clear hx hy hs hs'
      go_wp2_with fail
      refine region_grown (by kernel_rfl) (by kernel_rfl) ?_
      repeat (go_big_quiet_step ((go_at_call 65; exact Gr.calls _ (ref_compare _ _ _ _ _ _ _ z1 z2))))
      refine wpQuiet_nil ?_
      rintro _ ⟨g, rfl⟩
      cases he : (vcmp k n s k' n' s' != 0)
      · go_wp2_with fail
        go_roundw
        case rel => exact ⟨j + 1, by omega, by omega, by go_num, lv_on HX.out HY.out HD.out (by simpa using he), gr.trans g.grown⟩
        case measure => simp [intOf]; omega
      · go_wp2_with fail
        go_ret
        exact ⟨ret_int (lv_part HX.out HY.out HD.out (by simpa using he)), gr.trans g.grown⟩
    · by_cases h2 : j < l.length
      · go_wp2_with fail
        all_goals go_ret
        all_goals exact ⟨ret_int (by rw [← lv_end hj hj' HD.out h1]; first | exact icmp_m1 (by omega) | exact icmp_p1 (by omega) | exact icmp_0 (by omega) (by omega)), gr⟩
      · go_wp2_with fail
        all_goals go_ret
        all_goals exact ⟨ret_int (by rw [← lv_end hj hj' HD.out h1]; first | exact icmp_m1 (by omega) | exact icmp_p1 (by omega) | exact icmp_0 (by omega) (by omega)), gr⟩


end Go.Proofs.Ytjdpgehmkcdmfaa
