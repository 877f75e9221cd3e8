/- Several texts in one. -/
import Derived.Test.YtacoingheieceaaGreatMA03
import Derived.Test.YtacoingheieceaaGreatMA02
import Derived.Test.YtacoingheieceaaGreatMA12
import Derived.WalkLawsBesides
import Derived.WalkSpells
import Derived.Deep.RegionWith
import Derived.Lib.Hide
import Derived.Test.YtacoingheieceaaGreatMA01
import Derived.RangeFuncNested
import Derived.Test.YtacoingheieceaaGreatMA04
import Derived.Test.YtacoingheieceaaGreatMA10
import Derived.BigQuiet
import Derived.Deep.RegionHeld3
/- How values and lists of values compare: what the program returns, and the document's answer (those parts of Walks01, Ref01 and Lists01 that need no law of layer 1). -/
namespace Go.Proofs.YtacoingheieceaaGreat
set_option maxRecDepth 100000
open Go.RowKit


theorem nan_kind (x : Int) (w : World) : Calls Tryz.prog 178 #[.int .u8 x] w fun e w' => e = .returned (.bool false) ∧ w = w' := by
  go_enter Tryz.func178, Tryz.ntmps178
  go_wp2
  go_ret
  simp
theorem nan_int (x : Int) (w : World) : Calls Tryz.prog 179 #[.int .i64 x] w fun e w' => e = .returned (.bool false) ∧ w = w' := by
  go_enter Tryz.func179, Tryz.ntmps179
  go_wp2
  go_ret
  simp
theorem nan_string (x : ByteArray) (w : World) : Calls Tryz.prog 180 #[.string x] w fun e w' => e = .returned (.bool false) ∧ w = w' := by
  go_enter Tryz.func180, Tryz.ntmps180
  go_wp2
  go_ret
  simp
theorem cmp_kind (a b : Int) (w : World) : Calls Tryz.prog 158 #[.int .u8 a, .int .u8 b] w fun e w' => e = .returned (.int .i64 (icmp a b)) ∧ w = w' := by
  go_enter Tryz.func158, Tryz.ntmps158
  go_wp2_with (go_at_call 178; refine (nan_kind _ _).mono ?_; rintro e w' ⟨rfl, rfl⟩)
  all_goals go_ret
  all_goals exact ⟨ret_int (by first | exact icmp_m1 ‹_› | exact icmp_p1 ‹_› | exact icmp_0 ‹_› ‹_›), rfl⟩
theorem cmp_int (a b : Int) (w : World) : Calls Tryz.prog 159 #[.int .i64 a, .int .i64 b] w fun e w' => e = .returned (.int .i64 (icmp a b)) ∧ w = w' := by
  go_enter Tryz.func159, Tryz.ntmps159
  go_wp2_with (go_at_call 179; refine (nan_int _ _).mono ?_; rintro e w' ⟨rfl, rfl⟩)
  all_goals go_ret
  all_goals exact ⟨ret_int (by first | exact icmp_m1 ‹_› | exact icmp_p1 ‹_› | exact icmp_0 ‹_› ‹_›), rfl⟩
theorem cmp_string (a b : ByteArray) (w : World) : Calls Tryz.prog 160 #[.string a, .string b] w fun e w' => e = .returned (.int .i64 (lcmp a.toList b.toList)) ∧ w = w' := by
  go_enter Tryz.func160, Tryz.ntmps160
  go_wp2_with (go_at_call 180; refine (nan_string _ _).mono ?_; rintro e w' ⟨rfl, rfl⟩)
  all_goals go_ret
  all_goals exact ⟨ret_int (by first | exact lcmp_m1 ‹_› | exact lcmp_p1 ‹_› ‹_› | exact lcmp_0 ‹_›), rfl⟩

set_option maxHeartbeats 400000 in
theorem compare (k n : Int) (s : ByteArray) (k' n' : Int) (s' : ByteArray) (w : World) :
    Calls Tryz.prog 128 #[vv k n s, vv k' n' s'] w fun e w' => e = .returned (.int .i64 (vcmp k n s k' n' s')) ∧ Gw w w' := by
  go_enter Tryz.func128, Tryz.ntmps128
  go_wp2_with (first | (go_at_call 158; refine (cmp_kind _ _ _).mono ?_; rintro e w' ⟨rfl, rfl⟩) | (go_at_call 159; refine (cmp_int _ _ _).mono ?_; rintro e w' ⟨rfl, rfl⟩) | (go_at_call 160; refine (cmp_string _ _ _).mono ?_; rintro e w' ⟨rfl, rfl⟩))
  all_goals go_ret
  all_goals exact ⟨ret_int (by first | exact vc_0 ‹_› ‹_› ‹_› | exact vc_s ‹_› ‹_› | exact vc_n ‹_› ‹_› | exact vc_k ‹_›), ((Gw.refl _).alloc _ _).alloc _ _⟩




theorem ref_less_k (k n : Int) (s : ByteArray) (k' n' : Int) (s' : ByteArray) (w : World) (h : ¬ k = k') :
    Calls Tryz.prog 90 #[vv k n s, vv k' n' s'] w fun e w' => e = .returned (.bool (lessB k n s k' n' s')) ∧ Gw w w' := by
  have h1 : (k != k') = true := by simpa using h
  go_enter Tryz.func90, Tryz.ntmps90
  go_wp2
  go_ret
  exact ⟨ret_bool (less_k h), ((Gw.refl _).alloc _ _).alloc _ _⟩
theorem ref_less_n (k n : Int) (s : ByteArray) (n' : Int) (s' : ByteArray) (w : World) (h : ¬ n = n') :
    Calls Tryz.prog 90 #[vv k n s, vv k n' s'] w fun e w' => e = .returned (.bool (lessB k n s k n' s')) ∧ Gw w w' := by
  have h1 : (n != n') = true := by simpa using h
  go_enter Tryz.func90, Tryz.ntmps90
  go_wp2
  go_ret
  exact ⟨ret_bool (less_n rfl h), ((Gw.refl _).alloc _ _).alloc _ _⟩

set_option maxHeartbeats 1000000 in
theorem ref_less_s (k n : Int) (s s' : ByteArray) (w : World) (hs : s.size ≤ 9223372036854775807) (_hs' : s'.size ≤ 9223372036854775807) :
    Calls Tryz.prog 90 #[vv k n s, vv k n s'] w fun e w' => e = .returned (.bool (lessB k n s k n s')) ∧ Gw w w' := by
  go_enter Tryz.func90, Tryz.ntmps90
  go_wp2
  go_loopw [5] (fun i wr => ∃ j q : Nat, j ≤ s.size ∧ j ≤ s'.size ∧ i = .int .i64 j ∧ Hid (lcmp s.toList s'.toList = lcmp (s.toList.drop j) (s'.toList.drop j)) ∧ wr = ((w.alloc (.cells #[.int .u8 k, .int .i64 n, .string s] 74)).alloc (.cells #[.int .u8 k, .int .i64 n, .string s'] 74)).drewN q) (fun i _ => s.size - (intOf i).toNat)
  case atStart => exact ⟨0, 0, Nat.zero_le _, Nat.zero_le _, rfl, rfl, rfl⟩
  case round =>
    obtain ⟨j, q, hj, hj', rfl, HD, rfl⟩ := hrel
    by_cases h1 : j < s.size
    · by_cases h2 : j < s'.size
      · cases hne : ((s[j].toNat : Int) != (s'[j].toNat : Int))
        · go_wp2
          go_quiet (fail)
          go_wp2
          refine ⟨⟨j + 1, q + nq, by omega, by omega, by go_num, lc_on h1 h2 HD.out hne, rfl⟩, ?_⟩
          simp [intOf]; omega
        · go_wp2
          go_quiet (fail)
          go_wp2
          go_quiet (fail)
          go_wp2
          go_ret
          exact ⟨ret_bool (by rw [less_s]; exact lc_part h1 h2 HD.out hne), (((((Gw.refl _).alloc _ _).alloc _ _).drewN _).drewN _).drewN _⟩
      · go_wp2
        go_ret
        exact ⟨ret_bool (by rw [less_s]; exact lc_end hj hj' HD.out (by omega)), (((Gw.refl _).alloc _ _).alloc _ _).drewN _⟩
    · go_wp2
      go_ret
      exact ⟨ret_bool (by rw [less_s]; exact lc_end hj hj' HD.out (by omega)), (((Gw.refl _).alloc _ _).alloc _ _).drewN _⟩

theorem ref_less (k n : Int) (s : ByteArray) (k' n' : Int) (s' : ByteArray) (w : World) (hs : s.size ≤ 9223372036854775807) (hs' : s'.size ≤ 9223372036854775807) :
    Calls Tryz.prog 90 #[vv k n s, vv k' n' s'] w fun e w' => e = .returned (.bool (lessB k n s k' n' s')) ∧ Gw w w' := by
  by_cases h : k = k'
  · subst h
    by_cases h2 : n = n'
    · subst h2; exact ref_less_s k n s s' w hs hs'
    · exact ref_less_n k n s n' s' w h2
  · exact ref_less_k k n s k' n' s' w h





theorem all_no {α : Type} {f : α → Bool} {l : List α} {j : Nat} {x : α} (h : l[j]? = some x) (hf : f x = false) : false = l.all f := by
  symm
  rw [List.all_eq_false]
  exact ⟨x, List.mem_of_getElem? h, by rw [hf]; simp⟩
theorem all_yes {α : Type} {f : α → Bool} {l : List α} {j : Nat} {x : α} (h : l[j]? = some x) (hf : f x = true) (ht : (l.take j).all f = true) : (l.take (j + 1)).all f = true := by
  rw [List.take_add_one, h]
  simp [ht, hf]
theorem all_end {α : Type} {f : α → Bool} {l : List α} {j : Nat} (hj : l.length ≤ j) (ht : (l.take j).all f = true) : true = l.all f := by
  rw [List.take_of_length_le hj] at ht
  exact ht.symm

def lvcmp : List V3 → List V3 → Int
  | [], [] => 0
  | [], _ :: _ => -1
  | _ :: _, [] => 1
  | x :: a, y :: b => if vcmp x.1 x.2.1 x.2.2 y.1 y.2.1 y.2.2 = 0 then lvcmp a b else vcmp x.1 x.2.1 x.2.2 y.1 y.2.1 y.2.2
theorem drop_get {α : Type} {l : List α} {j : Nat} {x : α} (h : l[j]? = some x) : l.drop j = x :: l.drop (j + 1) := by
  obtain ⟨hlt, rfl⟩ := List.getElem?_eq_some_iff.1 h
  exact List.drop_eq_getElem_cons hlt
theorem lv_part {l m : List V3} {j : Nat} {x y : V3} (hx : l[j]? = some x) (hy : m[j]? = some y) (hd : lvcmp l m = lvcmp (l.drop j) (m.drop j)) (hne : ¬ vcmp x.1 x.2.1 x.2.2 y.1 y.2.1 y.2.2 = 0) : vcmp x.1 x.2.1 x.2.2 y.1 y.2.1 y.2.2 = lvcmp l m := by
  rw [hd, drop_get hx, drop_get hy, lvcmp, if_neg hne]
theorem lv_on {l m : List V3} {j : Nat} {x y : V3} (hx : l[j]? = some x) (hy : m[j]? = some y) (hd : lvcmp l m = lvcmp (l.drop j) (m.drop j)) (he : vcmp x.1 x.2.1 x.2.2 y.1 y.2.1 y.2.2 = 0) : lvcmp l m = lvcmp (l.drop (j + 1)) (m.drop (j + 1)) := by
  rw [hd, drop_get hx, drop_get hy, lvcmp, if_pos he]
theorem lv_end {l m : List V3} {j : Nat} (hj : j ≤ l.length) (hj' : j ≤ m.length) (hd : lvcmp l m = lvcmp (l.drop j) (m.drop j)) (h : ¬ (j < l.length ∧ j < m.length)) : icmp (l.length : Int) (m.length : Int) = lvcmp l m := by
  rw [hd]
  by_cases h1 : j < l.length
  · rw [List.drop_eq_getElem_cons h1, List.drop_eq_nil_of_le (show m.length ≤ j by omega), lvcmp]
    exact (icmp_p1 (by omega)).symm
  · rw [List.drop_eq_nil_of_le (show l.length ≤ j by omega)]
    by_cases h2 : j < m.length
    · rw [List.drop_eq_getElem_cons h2, lvcmp]
      exact (icmp_m1 (by omega)).symm
    · rw [List.drop_eq_nil_of_le (show m.length ≤ j by omega), lvcmp]
      exact (icmp_0 (by omega) (by omega)).symm
theorem lvcmp_self : ∀ l : List V3, lvcmp l l = 0
  | [] => rfl
  | x :: a => by rw [lvcmp, if_pos (vcmp_self _ _ _), lvcmp_self a]

theorem nan_i (x : Int) (w : World) : Calls Tryz.prog 157 #[.int .i64 x] w fun e w' => e = .returned (.bool false) ∧ w = w' := by
  go_enter Tryz.func157, Tryz.ntmps157
  go_wp2
  go_ret
  simp
theorem cmp_i (a b : Int) (w : World) : Calls Tryz.prog 126 #[.int .i64 a, .int .i64 b] w fun e w' => e = .returned (.int .i64 (icmp a b)) ∧ w = w' := by
  go_enter Tryz.func126, Tryz.ntmps126
  go_wp2_with (go_at_call 157; refine (nan_i _ _).mono ?_; rintro e w' ⟨rfl, rfl⟩)
  all_goals go_ret
  all_goals exact ⟨ret_int (by first | exact icmp_m1 ‹_› | exact icmp_p1 ‹_› | exact icmp_0 ‹_› ‹_›), rfl⟩




end Go.Proofs.YtacoingheieceaaGreat

/- Blocks of one cell, known whole: variables that a loop over a function shares with its body. -/
namespace Go.Proofs.YtacoingheieceaaGreat
open Go.RowKit

/-- A block of one cell, known whole. -/
def C1 (w : World) (b : Nat) (t : TypeId) (x : Value) : Prop := w.heap[b]? = some (.cells #[x] t (0, 0))
section
variable {w w' : World} {b : Nat} {t : TypeId} {x : Value}
theorem C1.c0 (h : C1 w b t x) : w.cell? ⟨b, 0, none⟩ = some x := by simpa using cell_of_row w b 0 _ _ (0, 0) h
theorem C1.fz (h : C1 w b t x) : w.frozen? ⟨b, 0, none⟩ = false := frozen_of_row w b 0 _ _ h
theorem C1.all (h : C1 w b t x) : w.cell? ⟨b, 0, none⟩ = some x ∧ w.frozen? ⟨b, 0, none⟩ = false := ⟨h.c0, h.fz⟩
theorem C1.set (h : C1 w b t x) (y : Value) : C1 (w.setCell ⟨b, 0, none⟩ y) b t y := by
  have := heap_setCell_same w b 0 _ _ y h
  simpa [C1] using this
theorem C1.other (h : C1 w b t x) {g o : Nat} (hg : b ≠ g) (y : Value) : C1 (w.setCell ⟨g, o, none⟩ y) b t x := (Below.heap_setCell w ⟨g, o, none⟩ y b hg).trans h
theorem C1.lt (h : C1 w b t x) : b < w.heap.size := (Array.getElem?_eq_some_iff.1 h).1
theorem C1.kp {F : Nat → Prop} (h : C1 w b t x) (hk : Kp F w w') (hF : ¬ F b) : C1 w' b t x := hk.at h hF
theorem C1.below (h : C1 w b t x) (hb : Below w.heap.size w w') : C1 w' b t x := (hb.block b h.lt).trans h
theorem C1.new (w : World) (t : TypeId) (x : Value) : C1 (w.alloc (.cells #[x] t)) w.heap.size t x := heap_alloc_new w _
theorem C1.alloc (h : C1 w b t x) (o : Obj) : C1 (w.alloc o) b t x := (Below.heap_alloc w o b h.lt).trans h
theorem C1.drew (h : C1 w b t x) : C1 w.drew b t x := h
/-- A block of cells lies as it lay where a block that is no cells turned. -/
theorem C1.own (h : C1 w b t x) {row : Option Nat} {B : Nat} (hg : w.grownBy w' row) (hr : ∀ r, row = some r → B ≤ r ∧ ∃ o : Obj, w.heap[r]? = some o ∧ o.isCells = false) : C1 w' b t x :=
  (hg.block b h.lt fun e => by
    obtain ⟨_, o, ho, hc⟩ := hr b e.symm
    rw [h] at ho
    cases ho
    cases hc).trans h
theorem Kp.own_from {F : Nat → Prop} {w0 : World} (h : Kp F w0 w) {row : Option Nat} (hg : w.grownBy w' row) (hr : ∀ r, row = some r → w0.heap.size ≤ r ∧ ∃ o : Obj, w.heap[r]? = some o ∧ o.isCells = false) : Kp F w0 w' :=
  h.trans (G := fun k => row = some k) (Kp.of_grown hg fun _ e => .inl e) fun k e => .inr (hr k e).1
/-- Behind a store into it a block holds what was stored. -/
theorem C1.stored {y : Value} (h : C1 (w.setCell ⟨b, 0, none⟩ y) b t x) : C1 (w.setCell ⟨b, 0, none⟩ y) b t y := by
  have hlt := h.lt
  simp only [World.setCell, Array.size_modify] at hlt
  have := h
  simp only [C1, World.setCell, Array.getElem?_modify, if_true] at this ⊢
  rw [Array.getElem?_eq_getElem hlt] at this ⊢
  simp only [Option.map_some, Option.some.injEq] at this ⊢
  cases ho : w.heap[b] with
  | cells c e f =>
    rw [ho] at this
    simp only [Option.isSome_none, Bool.false_eq_true, if_false, Obj.cells.injEq] at this ⊢
    obtain ⟨h1, rfl, rfl⟩ := this
    have h2 : 0 < c.size := by
      have := congrArg Array.size h1
      simp at this
      omega
    have h3 := congrArg (fun A => A[0]?) h1
    simp [h2] at h3
    rw [h1, h3]
    simp
  | _ => rw [ho] at this; simp at this
/-- The books of a range, put away. -/
theorem C1.put (h : C1 w b t x) {k : Nat} (hk : b ≠ k) (o : Obj) : C1 (w.putObj k o) b t x := (World.putObj_heap_other hk).trans h
theorem below_put {B k : Nat} {w0 : World} (h : Below B w0 w) (hk : B ≤ k) (o : Obj) : Below B w0 (w.putObj k o) :=
  ⟨h.os, h.tape, h.output, by rw [World.putObj_size]; exact h.size, fun i hi => (World.putObj_heap_other (by omega)).trans (h.block i hi)⟩
/-- Any block of cells does. -/
theorem cells_own {A : Array Value} {z : Nat × Nat} (h : w.heap[b]? = some (.cells A t z)) {row : Option Nat} {B : Nat} (hg : w.grownBy w' row) (hr : ∀ r, row = some r → B ≤ r ∧ ∃ o : Obj, w.heap[r]? = some o ∧ o.isCells = false) : w'.heap[b]? = some (.cells A t z) :=
  (hg.block b (Array.getElem?_eq_some_iff.1 h).1 fun e => by
    obtain ⟨_, o, ho, hc⟩ := hr b e.symm
    rw [h] at ho
    cases ho
    cases hc).trans h
theorem below_own_from {w0 : World} (h : Below w0.heap.size w0 w) {row : Option Nat} {B : Nat} (hB : w0.heap.size ≤ B) (hg : w.grownBy w' row) (hr : ∀ r, row = some r → B ≤ r ∧ ∃ o : Obj, w.heap[r]? = some o ∧ o.isCells = false) : Below w0.heap.size w0 w' :=
  ⟨hg.os.trans h.os, hg.tape.trans h.tape, hg.output.trans h.output, Nat.le_trans h.size hg.size, fun i hi => (hg.block i (Nat.lt_of_lt_of_le hi h.size) fun e => by have := (hr i e.symm).1; omega).trans (h.block i hi)⟩
end

end Go.Proofs.YtacoingheieceaaGreat

/- Package hamt: SearchInts over levels; find: where a key is among the pairs of a leaf. -/
namespace Go.Proofs.YtacoingheieceaaGreat
set_option maxRecDepth 100000
open Go.RowKit

theorem nsn_at {l : List Nat} {j q : Nat} (h : l[j]? = some q) : (nums (ns l))[j]? = some (.int .i64 (q : Nat)) := by
  unfold nums ns
  rw [List.getElem?_map, List.getElem?_map, h]
  rfl
set_option maxHeartbeats 800000 in
theorem vSearchInts (v : Value) (l : List Nat) (x n : Nat) (w : World) (h : Rd w v l.length (nums (ns l))) (hl : l.length ≤ 4194304) (hn : n ≤ l.length) (h0 : ∀ j q, j < n → l[j]? = some q → q < x) (h1 : ∀ j q, n ≤ j → l[j]? = some q → x ≤ q) :
    Calls Tryz.prog 110 #[v, .int .i64 (x : Nat)] w fun e w' => e = .returned (.int .i64 (n : Nat)) ∧ Below w.heap.size w w' := by
  obtain ⟨A, c, rfl, hc⟩ := h.form
  have e1 : (w.alloc (.cells #[.slice A l.length c] 82)).heap.size = w.heap.size + 1 := by simp
  have hb : Below w.heap.size w ((w.alloc (.cells #[.slice A l.length c] 82)).alloc (.cells #[.int .i64 (x : Nat)] 3)) := ((Below.refl _ w).alloc (Nat.le_refl _) _).alloc (by simp) _
  have q1 := (C1.new w 82 (.slice A l.length c)).alloc (.cells #[.int .i64 (x : Nat)] 3)
  have q2 := C1.new (w.alloc (.cells #[.slice A l.length c] 82)) 3 (.int .i64 (x : Nat))
  rw [e1] at q2
  have HR := Lib.hid (h.below hb)
  have HB := Lib.hid hb
  clear h hb e1
  go_enter Tryz.func110, Tryz.ntmps110
  go_upto_region 1 with fail
  generalize (w.alloc (.cells #[.slice A l.length c] 82)).alloc (.cells #[.int .i64 (x : Nat)] 3) = w1 at q1 q2 HR HB ⊢
  obtain ⟨z1, hz1⟩ : ∃ z, z = w.heap.size := ⟨_, rfl⟩
  rw [← hz1] at q1 q2 ⊢
  have HQ := Lib.hid (And.intro q1 q2)
  have hask : Asks w1 141 #[.pointer (some ⟨z1, 0, none⟩), .pointer (some ⟨z1 + 1, 0, none⟩)] l.length (fun j => .bool (decide (x ≤ l.getD j 0))) := by
    refine ⟨fun args W => by kernel_rfl, fun j hj W hW => ?_⟩
    obtain ⟨q, hq⟩ : ∃ q, l[j]? = some q := ⟨_, List.getElem?_eq_getElem hj⟩
    have hgd : l.getD j 0 = q := by rw [List.getD_eq_getElem?_getD, hq]; rfl
    dsimp only
    rw [hgd]
    obtain ⟨b0, o0, c0, ev, _, hx⟩ := (HR.out.below hW).at (nsn_at hq)
    simp only [Value.slice.injEq, true_and] at ev
    obtain ⟨rfl, rfl⟩ := ev
    have k1 := (HQ.out.1.below hW).c0
    have k2 := (HQ.out.2.below hW).c0
    have y1 : (0 : Int) ≤ (j : Int) := by omega
    have y2 : (j : Int) < (l.length : Int) := by omega
    have HHB := Lib.hid (Below.refl W.heap.size W)
    clear hW hz1 q1 q2 hgd hq
    show Calls Tryz.prog 141 #[.int .i64 (j : Nat), .pointer (some ⟨z1, 0, none⟩), .pointer (some ⟨z1 + 1, 0, none⟩)] W _
    go_enter Tryz.func141, Tryz.ntmps141
    go_wp2_with fail
    go_quiet (fail)
    go_wp2_with fail
    go_ret
    exact ⟨ret_bool (by first | rfl | simp), below_drewN _ _⟩
  have hz0 := q1.c0
  have HS := Lib.hid (vSearch 141 _ l.length n (fun j => decide (x ≤ l.getD j 0)) w1 hask (by omega) hn (fun j hj => by
    obtain ⟨q, hq⟩ : ∃ q, l[j]? = some q := ⟨_, List.getElem?_eq_getElem (by omega)⟩
    have := h0 j q hj hq
    rw [List.getD_eq_getElem?_getD, hq]
    exact decide_eq_false (by simp; omega)) (fun j hj hj2 => by
    obtain ⟨q, hq⟩ : ∃ q, l[j]? = some q := ⟨_, List.getElem?_eq_getElem hj2⟩
    have := h1 j q hj hq
    rw [List.getD_eq_getElem?_getD, hq]
    exact decide_eq_true (by simp; omega)))
  clear hask q1 q2 h0 h1 hz1
  go_wp2_with fail
  refine HS.out.mono ?_
  rintro e w2 ⟨rfl, hb2⟩
  have HB2 := Lib.hid (HB.out.trans (hb2.mono HB.out.size))
  clear hb2
  go_wp2_with fail
  go_ret
  exact ⟨rfl, HB2.out⟩

/-- How a key stands to the j-th of some pairs. -/
def cmpAt (k : Ky) (l : List Pr) (j : Nat) : Int := match l[j]? with
  | some q => vc k q.1
  | none => 0
set_option maxHeartbeats 1600000 in
theorem vfind (v : Value) (l : List Pr) (k : Ky) (w : World) (h : Rd w v (flatP l).length ((flatP l).flatMap cells3)) (so : Vso l) (hl : l.length ≤ 2097152) :
    Calls Tryz.prog 105 #[v, vv k.1 k.2.1 k.2.2] w fun e w' => e = .returned (.tuple #[.int .i64 (2 * lowN k l : Nat), .bool (hasN k l)]) ∧ Below w.heap.size w w' := by
  obtain ⟨A, c, rfl, hc⟩ := h.form
  have HFL := Lib.hid (flatP_length l)
  have e1 : (w.alloc (.cells #[.slice A (flatP l).length c] 66)).heap.size = w.heap.size + 1 := by simp
  have hb : Below w.heap.size w ((w.alloc (.cells #[.slice A (flatP l).length c] 66)).alloc (.cells #[.int .u8 k.1, .int .i64 k.2.1, .string k.2.2] 43)) := ((Below.refl _ w).alloc (Nat.le_refl _) _).alloc (by simp) _
  have q1 := (C1.new w 66 (.slice A (flatP l).length c)).alloc (.cells #[.int .u8 k.1, .int .i64 k.2.1, .string k.2.2] 43)
  have q2 := C3.new (w.alloc (.cells #[.slice A (flatP l).length c] 66)) 43 (.int .u8 k.1) (.int .i64 k.2.1) (.string k.2.2)
  rw [e1] at q2
  have HR := Lib.hid (h.below hb)
  have HB := Lib.hid hb
  clear h hb e1
  go_enter Tryz.func105, Tryz.ntmps105
  go_upto_region 1 with fail
  generalize (w.alloc (.cells #[.slice A (flatP l).length c] 66)).alloc (.cells #[.int .u8 k.1, .int .i64 k.2.1, .string k.2.2] 43) = w1 at q1 q2 HR HB ⊢
  obtain ⟨z1, hz1⟩ : ∃ z, z = w.heap.size := ⟨_, rfl⟩
  rw [← hz1] at q1 q2 ⊢
  have HQ := Lib.hid (And.intro q1 q2)
  obtain ⟨m, hm⟩ : ∃ m, m = (flatP l).length := ⟨_, rfl⟩
  have hask : Asks w1 137 #[.pointer (some ⟨z1 + 1, 0, none⟩), .pointer (some ⟨z1, 0, none⟩)] l.length (fun j => .int .i64 (cmpAt k l j)) := by
    refine ⟨fun args W => by kernel_rfl, fun j hj W hW => ?_⟩
    obtain ⟨q, hq⟩ : ∃ q, l[j]? = some q := ⟨_, List.getElem?_eq_getElem hj⟩
    have hgd : cmpAt k l j = vc k q.1 := by unfold cmpAt; rw [hq]
    dsimp only
    rw [hgd]
    obtain ⟨f0, f1, f2⟩ := flat3_at (flatP_at hq).1
    obtain ⟨b0, o0, c0, ev, _, x0⟩ := (HR.out.below hW).at f0
    simp only [Value.slice.injEq, true_and] at ev
    obtain ⟨rfl, rfl⟩ := ev
    have cel : ∀ i u, ((flatP l).flatMap cells3)[i]? = some u → W.cell? ⟨b0, o0 + i, none⟩ = some u := fun i u hi => by
      obtain ⟨b', o', c', ev, _, hx⟩ := (HR.out.below hW).at hi
      simp only [Value.slice.injEq, Option.some.injEq, Addr.mk.injEq, and_true, true_and] at ev
      obtain ⟨⟨rfl, rfl⟩, _⟩ := ev
      exact hx
    have x1 := cel _ _ f1
    have x2 := cel _ _ f2
    rw [show o0 + (2 * j * 3 + 1) = o0 + 2 * j * 3 + 1 by omega] at x1
    rw [show o0 + (2 * j * 3 + 2) = o0 + 2 * j * 3 + 2 by omega] at x2
    obtain ⟨p0, p1, p2, _⟩ := (HQ.out.2.below hW).all
    have k1 := (HQ.out.1.below hW).c0
    rw [← hm] at k1
    have hfl := HFL.out
    have y0 : 2 * (j : Int) = ((2 * j : Nat) : Int) := by omega
    have y9 : IntKind.i64.wrap ((2 * j : Nat) : Int) = ((2 * j : Nat) : Int) := IntWalk.i64_in _ (by omega)
    have y1 : (0 : Int) ≤ ((2 * j : Nat) : Int) := by omega
    have y2 : ((2 * j : Nat) : Int) < (m : Int) := by omega
    have HHB := Lib.hid (Below.refl W.heap.size W)
    obtain ⟨u, hu⟩ : ∃ u, u = 2 * j := ⟨_, rfl⟩
    rw [← hu] at x0 x1 x2 y0 y1 y2 y9
    clear hW hz1 q1 q2 hgd hq cel f0 f1 f2 hu hm hfl hj
    show Calls Tryz.prog 137 #[.int .i64 (j : Nat), .pointer (some ⟨z1 + 1, 0, none⟩), .pointer (some ⟨z1, 0, none⟩)] W _
    go_enter Tryz.func137, Tryz.ntmps137
    go_wp2_with fail
    have s0 : ∀ W', Below W.heap.size W W' → W'.cell? ⟨z1 + 1, 0, none⟩ = some (.int .u8 k.1) := fun W' h => (h.cell (p := ⟨z1 + 1, 0, none⟩) (World.block_lt_of_cell? _ _ p0)).trans p0
    have s1 : ∀ W', Below W.heap.size W W' → W'.cell? ⟨z1 + 1, 1, none⟩ = some (.int .i64 k.2.1) := fun W' h => (h.cell (p := ⟨z1 + 1, 1, none⟩) (World.block_lt_of_cell? _ _ p1)).trans p1
    have s2 : ∀ W', Below W.heap.size W W' → W'.cell? ⟨z1 + 1, 2, none⟩ = some (.string k.2.2) := fun W' h => (h.cell (p := ⟨z1 + 1, 2, none⟩) (World.block_lt_of_cell? _ _ p2)).trans p2
    have s3 : ∀ W', Below W.heap.size W W' → W'.cell? ⟨z1, 0, none⟩ = some (.slice (some ⟨b0, o0, none⟩) m c) := fun W' h => (h.cell (p := ⟨z1, 0, none⟩) (World.block_lt_of_cell? _ _ k1)).trans k1
    have s4 : ∀ W', Below W.heap.size W W' → W'.cell? ⟨b0, o0 + u * 3, none⟩ = some (.int .u8 q.1.1) := fun W' h => (h.cell (p := ⟨b0, o0 + u * 3, none⟩) (World.block_lt_of_cell? _ _ x0)).trans x0
    have s5 : ∀ W', Below W.heap.size W W' → W'.cell? ⟨b0, o0 + u * 3 + 1, none⟩ = some (.int .i64 q.1.2.1) := fun W' h => (h.cell (p := ⟨b0, o0 + u * 3 + 1, none⟩) (World.block_lt_of_cell? _ _ x1)).trans x1
    have s6 : ∀ W', Below W.heap.size W W' → W'.cell? ⟨b0, o0 + u * 3 + 2, none⟩ = some (.string q.1.2.2) := fun W' h => (h.cell (p := ⟨b0, o0 + u * 3 + 2, none⟩) (World.block_lt_of_cell? _ _ x2)).trans x2
    clear p0 p1 p2 k1 x0 x1 x2
    refine wp_region_noPanic ?_
    go_region_held (fun W' => Below W.heap.size W W') (first | with_reducible assumption | exact (Below.refl _ _).drew)
      ((go_at_call 128; refine (compare k.1 k.2.1 k.2.2 q.1.1 q.1.2.1 q.1.2.2 _).mono ?_; rintro e w' ⟨rfl, gw⟩; have hbn := HHB.out.drew.trans (gw.below.mono (Nat.le_refl _))))
    refine NoPanic.normal ?_
    go_wp2_with fail
    go_ret
    exact ⟨rfl, hbn⟩
  have hz0 := q1.c0
  have HS := Lib.hid (vFind 137 _ l.length (lowN k l) (cmpAt k l) w1 hask (by omega) (lowN_le k l) (fun j hj => by
    obtain ⟨q, hq⟩ : ∃ q, l[j]? = some q := ⟨_, List.getElem?_eq_getElem (by have := lowN_le k l; omega)⟩
    have := lowN_lt hj hq
    unfold cmpAt
    rw [hq]
    show 0 < vc k q.1
    omega) (fun j hj hj2 => by
    obtain ⟨q, hq⟩ : ∃ q, l[j]? = some q := ⟨_, List.getElem?_eq_getElem hj2⟩
    have h1 := lowN_ge so hj hq
    have h2 := vc_range k q.1
    unfold cmpAt
    rw [hq]
    show vc k q.1 ≤ 0
    omega))
  have hhas : decide (lowN k l < l.length ∧ cmpAt k l (lowN k l) = 0) = hasN k l := by
    unfold hasN cmpAt
    cases e : l[lowN k l]? with
    | none =>
      have := List.getElem?_eq_none_iff.1 e
      exact decide_eq_false (fun h => by omega)
    | some q =>
      have := (List.getElem?_eq_some_iff.1 e).1
      rw [Bool.eq_iff_iff, decide_eq_true_eq, decide_eq_true_eq]
      show _ ∧ vc k q.1 = 0 ↔ _
      rw [vc_eq]
      exact ⟨fun h => h.2.symm, fun h => ⟨this, h.symm⟩⟩
  rw [hhas] at HS
  have HLW := Lib.hid (lowN_le k l)
  have hq2 : ((flatP l).length : Int) / 2 = (l.length : Int) := by rw [HFL.out]; omega
  have hw2 : IntKind.i64.wrap (l.length : Int) = (l.length : Int) := IntWalk.i64_in _ (by omega)
  have hw3 : wrap64 (l.length : Int) = (l.length : Int) := IntWalk.wrap64_in _ (by omega)
  have hr1 : 2 * (lowN k l : Int) = ((2 * lowN k l : Nat) : Int) := by omega
  have hr2 : IntKind.i64.wrap ((2 * lowN k l : Nat) : Int) = ((2 * lowN k l : Nat) : Int) := IntWalk.i64_in _ (by have := HLW.out; omega)
  have hr3 : wrap64 ((2 * lowN k l : Nat) : Int) = ((2 * lowN k l : Nat) : Int) := IntWalk.wrap64_in _ (by have := HLW.out; omega)
  have HRR := Lib.hid (And.intro hr1 (And.intro hr2 hr3))
  clear hask q1 q2 hz1 hhas hm hr1 hr2 hr3
  go_wp2_with fail
  refine HS.out.mono ?_
  rintro e w2 ⟨rfl, hb2⟩
  have HB2 := Lib.hid (HB.out.trans (hb2.mono HB.out.size))
  clear hb2
  obtain ⟨hr1, hr2, hr3⟩ := HRR.out
  obtain ⟨t, ht⟩ : ∃ t, t = 2 * lowN k l := ⟨_, rfl⟩
  have HT := Lib.hid ht
  rw [← ht] at hr1 hr2 hr3
  clear ht
  go_wp2_with fail
  exact bodyPost_ret (v := .tuple #[.int .i64 (t : Nat), .bool (hasN k l)]) (by simp [results, Tryz.results105, go_sem]) rfl ⟨by rw [HT.out], HB2.out⟩

end Go.Proofs.YtacoingheieceaaGreat

/- Maps in cells, plainly: the way from the root to the leaf that is nearest to a number; that a key's pair is there if it is anywhere; and the part of the way above the level at which the key parts. -/
namespace Go.Proofs.YtacoingheieceaaGreat

/-- The place of the cell that is nearest to a number. -/
def sdx (s g b : Nat) : Nat := if s.testBit (dg g b) = true then cnt s (dg g b) else 0
section
variable (M : Cells) (hs : Ky → Nat) (g : Nat)
/-- The cells of the way, each with its level, and the pairs of the leaf. -/
inductive Wy : Nat → Nat → List Pr → List (Nat × Nat) → List Pr → Prop
  | leaf {lv i : Nat} {l : List Pr} {c : Hc} {r : Nat} (h : LeafF M hs lv i l c r) : Wy lv i l [(i, 13)] l
  | node {lv i : Nat} {l : List Pr} {c : Hc} {r b s : Nat} {K : Nat → Nat} {L : Nat → List Pr} {d : Nat} {cl : List (Nat × Nat)} {lf : List Pr} (h : NodeF M hs lv i l c r b s K L) (hT : ∀ d, d < 32 → s.testBit d = true → HT M hs (b + 1) (K d) (L d))
    (hd : s.testBit d = true) (hx : cnt s d = sdx s g b) (hw : Wy (b + 1) (K d) (L d) cl lf) : Wy lv i l ((i, b) :: cl) lf
/-- The way above a level, where a key's digits lead. -/
inductive Wp (k : Ky) : Nat → Nat → List Pr → List (Nat × Nat) → Nat → Nat → List Pr → Prop
  | nil {lv i : Nat} {l : List Pr} (h : HT M hs lv i l) : Wp k lv i l [] lv i l
  | cons {lv i : Nat} {l : List Pr} {c : Hc} {r b s : Nat} {K : Nat → Nat} {L : Nat → List Pr} {cl : List (Nat × Nat)} {lvj j : Nat} {lj : List Pr} (h : NodeF M hs lv i l c r b s K L) (hT : ∀ d, d < 32 → s.testBit d = true → HT M hs (b + 1) (K d) (L d))
    (hd : s.testBit (dg (hs k) b) = true) (ha : ∀ q ∈ l, ∀ x, x < b → dg (hs k) x = dg (hs q.1) x) (hw : Wp k (b + 1) (K (dg (hs k) b)) (L (dg (hs k) b)) cl lvj j lj) : Wp k lv i l ((i, b) :: cl) lvj j lj
end
section
variable {M M' : Cells} {hs : Ky → Nat} {g lv i : Nat} {l lf : List Pr} {cl : List (Nat × Nat)}
theorem low_bit {s : Nat} (h : 1 ≤ cnt s 32) : ∃ d, d < 32 ∧ s.testBit d = true ∧ cnt s d = 0 := by
  have key : ∀ n, 1 ≤ cnt s n → ∃ d, d < n ∧ s.testBit d = true ∧ cnt s d = 0 := fun n => by
    induction n with
    | zero => intro h; simp [cnt] at h
    | succ n ih =>
      intro h
      by_cases h0 : 1 ≤ cnt s n
      · obtain ⟨d, h1, h2⟩ := ih h0
        exact ⟨d, by omega, h2⟩
      · cases e : s.testBit n with
        | true => exact ⟨n, Nat.lt_succ_self _, e, by omega⟩
        | false =>
          have h' : cnt s n + (s.testBit n).toNat = cnt s (n + 1) := rfl
          rw [e] at h'
          simp at h'
          omega
  exact key 32 h
theorem Wy.of_ht (g : Nat) (h : HT M hs lv i l) : ∃ cl lf, Wy M hs g lv i l cl lf := by
  induction h with
  | leaf h => exact ⟨_, _, .leaf h⟩
  | @node lv i l c r b s K L h hT ih =>
    by_cases hb : s.testBit (dg g b) = true
    · obtain ⟨cl, lf, hw⟩ := ih _ (dg_lt g b) hb
      exact ⟨_, _, .node h hT hb (by unfold sdx; rw [if_pos hb]) hw⟩
    · obtain ⟨d, h1, h2, h3⟩ := low_bit (Nat.le_trans (by decide) h.two)
      obtain ⟨cl, lf, hw⟩ := ih d h1 h2
      exact ⟨_, _, .node h hT h2 (by unfold sdx; rw [if_neg hb, h3]) hw⟩
theorem Wy.ht (h : Wy M hs g lv i l cl lf) : HT M hs lv i l := by
  cases h with
  | leaf h => exact .leaf h
  | node h hT => exact .node h hT
theorem Wy.sub (h : Wy M hs g lv i l cl lf) : ∀ q ∈ lf, q ∈ l := by
  induction h with
  | leaf h => exact fun _ h => h
  | @node lv i l c r b s K L d cl lf h hT hd hx hw ih =>
    intro q hq
    rw [h.eq]
    exact mem_joinL.2 ⟨d, bit_lt h.s32 hd, ih q hq⟩
theorem Wy.ne (h : Wy M hs g lv i l cl lf) : lf ≠ [] := by
  induction h with
  | leaf h => exact h.ne
  | node _ _ _ _ _ ih => exact ih
/-- The pairs of the leaf are those of one hash, in the order of values. -/
theorem Wy.leafF (h : Wy M hs g lv i l cl lf) : ∃ lv' j c r, LeafF M hs lv' j lf c r ∧ cl.getLast? = some (j, 13) := by
  induction h with
  | @leaf lv i l c r h => exact ⟨lv, i, c, r, h, rfl⟩
  | @node lv i l c r b s K L d cl lf h hT hd hx hw ih =>
    obtain ⟨lv', j, c', r', h1, h2⟩ := ih
    refine ⟨lv', j, c', r', h1, ?_⟩
    rw [List.getLast?_cons, h2]
    rfl
/-- Levels rise from lv on, and end at 13. -/
theorem Wy.lev (h : Wy M hs g lv i l cl lf) : (∀ x ∈ cl, lv ≤ x.2 ∧ x.2 ≤ 13) ∧ cl.Pairwise fun x y => x.2 < y.2 := by
  induction h with
  | leaf h => exact ⟨fun x hx => by rw [List.mem_singleton] at hx; rw [hx]; exact ⟨h.lv, Nat.le_refl _⟩, List.pairwise_singleton _ _⟩
  | @node lv i l c r b s K L d cl lf h hT hd hx hw ih =>
    refine ⟨fun x hx => ?_, List.pairwise_cons.2 ⟨fun x hx => ?_, ih.2⟩⟩
    · rcases List.mem_cons.1 hx with rfl | hx
      · exact ⟨h.lv, Nat.le_of_lt h.b13⟩
      · have := ih.1 x hx
        have := h.lv
        omega
    · have := (ih.1 x hx).1
      show b < x.2
      omega
/-- A key's pair is in the leaf to which its way leads, if it is anywhere. -/
theorem Wy.look {p : Pr} (hg : hs p.1 = g) (h : Wy M hs g lv i l cl lf) (hp : p ∈ l) : p ∈ lf := by
  induction h with
  | leaf h => exact hp
  | @node lv i l c r b s K L d cl lf h hT hd hx hw ih =>
    have h1 := h.mem.1 hp
    rw [hg] at h1
    have hb := h.bit h1
    have e : d = dg g b := by
      unfold sdx at hx
      rw [if_pos hb] at hx
      exact cnt_inj hd hb hx
    exact ih (by rw [e]; exact h1)
theorem Wy.has {k : Ky} (hg : hs k = g) (h : Wy M hs g lv i l cl lf) : hasN k lf = true ↔ ∃ q ∈ l, q.1 = k := by
  obtain ⟨_, _, _, _, hl, _⟩ := h.leafF
  rw [hasN_iff hl.so]
  constructor
  · rintro ⟨q, hq, e⟩
    exact ⟨q, h.sub q hq, e⟩
  · rintro ⟨q, hq, e⟩
    exact ⟨q, h.look (by rw [e]; exact hg) hq, e⟩
/-- The way parts at a level that is not deeper than where the key parts from the leaf's. -/
theorem Wy.split {k : Ky} {near : Pr} {level : Nat} (h : Wy M hs (hs k) lv i l cl lf) (hn : near ∈ lf) (hl : level ≤ pt (hs near.1) (hs k)) :
    ∃ pre post lvj j lj, cl = pre ++ post ∧ Wp M hs k lv i l pre lvj j lj ∧ Wy M hs (hs k) lvj j lj post lf ∧ (∀ x ∈ pre, x.2 < level) ∧ ∃ y rest, post = y :: rest ∧ level ≤ y.2 := by
  have h13 := pt_le (hs near.1) (hs k)
  induction h with
  | leaf h => exact ⟨[], _, _, _, _, rfl, .nil (.leaf h), .leaf h, fun x hx => (by cases hx), _, _, rfl, (by show level ≤ 13; omega)⟩
  | @node lv i l c r b s K L d cl lf h hT hd hx hw ih =>
    by_cases hb : b < level
    · have hnl : near ∈ L d := hw.sub near hn
      have hdd : d = dg (hs k) b := by
        rw [← h.dig d near hnl]
        exact pt_eq (by omega)
      obtain ⟨pre, post, lvj, j, lj, e1, e2, e3, e4, e5⟩ := ih hn
      subst hdd
      have hnl' : near ∈ l := by rw [h.eq]; exact mem_joinL.2 ⟨_, dg_lt _ _, hnl⟩
      refine ⟨(i, b) :: pre, post, lvj, j, lj, by rw [e1]; rfl, .cons h hT hd (fun q hq x hx => ?_) e2, e3, fun x hx => ?_, e5⟩
      · rw [← pt_eq (show x < pt (hs near.1) (hs k) by omega)]
        exact h.agr near hnl' q hq x hx
      · rcases List.mem_cons.1 hx with rfl | hx
        · exact hb
        · exact e4 x hx
    · exact ⟨[], _, _, _, _, rfl, .nil (.node h hT), .node h hT hd hx hw, fun x hx => (by cases hx), _, _, rfl, (by show level ≤ b; omega)⟩
end

end Go.Proofs.YtacoingheieceaaGreat

/- Package hamt: side, sound, below: which cell of a branch, what may be a map's cell, and a cell that is deeper than a level. -/
namespace Go.Proofs.YtacoingheieceaaGreat
set_option maxRecDepth 100000
open Go.RowKit

set_option maxHeartbeats 800000 in
theorem vside (o : Int) (s b g : Nat) (A1 A2 : Option Addr) (n1 c1 n2 c2 : Nat) (w : World) (hs : s < 4294967296) (hb : b < 13) :
    Calls Tryz.prog 104 #[cagg o (s : Nat) (b : Nat) (.slice A1 n1 c1) (.slice A2 n2 c2), .int .u64 g] w fun e w' => e = .returned (.int .i64 (sdx s g b : Nat)) ∧ Below w.heap.size w w' := by
  have HB := Lib.hid ((Below.refl w.heap.size w).alloc (Nat.le_refl _) (.cells #[.int .u32 o, .int .u32 (s : Nat), .int .u32 (b : Nat), .slice A1 n1 c1, .slice A2 n2 c2] 170))
  have HD := Lib.hid (dg_run g b hb)
  have HH := Lib.hid (has s hs (dg g b) (dg_lt g b))
  have HP := Lib.hid (place s hs (dg g b : Nat))
  have hpl : placeN s ((dg g b : Nat) : Int) = cnt s (dg g b) := by
    unfold placeN
    rw [Int.toNat_natCast, Nat.min_eq_left (Nat.le_of_lt (dg_lt g b))]
  rw [hpl] at HP
  clear hpl
  go_enter Tryz.func104, Tryz.ntmps104
  go_wp2_with fail
  refine (HD.out _).mono ?_
  rintro e w1 ⟨rfl, rfl⟩
  go_wp2_with fail
  refine (HH.out _).mono ?_
  rintro e w1 ⟨rfl, rfl⟩
  cases hbit : s.testBit (dg g b) with
  | true =>
    have HS := Lib.hid (show sdx s g b = cnt s (dg g b) from if_pos hbit)
    go_wp2_with fail
    refine (HP.out _).mono ?_
    rintro e w1 ⟨rfl, gw⟩
    have HG := Lib.hid (HB.out.trans (gw.below.mono HB.out.size))
    clear gw
    go_wp2_with fail
    go_ret
    exact ⟨by rw [HS.out]; rfl, HG.out⟩
  | false =>
    have HS := Lib.hid (show sdx s g b = 0 from if_neg (by rw [hbit]; simp))
    go_wp2_with fail
    go_ret
    exact ⟨by rw [HS.out]; rfl, HB.out⟩

end Go.Proofs.YtacoingheieceaaGreat
