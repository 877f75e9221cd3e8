/- What layer 2's reader does (package packed: Open, take, Number, Text, Value, Left, Failed, End): contracts, for every state of the reader. -/
import Derived.Test.YtbfnlpooocaeiaaPack02
import Derived.Laws.Bits64b
import Derived.DataElems
import Derived.Maps.AppendAt
namespace Go.Proofs.Ytbfnlpooocaeiaa
open Go.RowKit

/-- Block b is a reader with the bytes l left and the error e; these bytes lie below block B. -/
def Rd (w : World) (b B : Nat) (l : List UInt8) (e : Int) : Prop :=
  ∃ v, w.heap[b]? = some (.cells #[v, .int .i64 e] 55 (0, 0)) ∧ Bs w v l ∧ v.ownBlock ≠ some b ∧ ∀ k, v.ownBlock = some k → k < B

abbrev rp (b : Nat) : Value := .pointer (some ⟨b, 0, none⟩)

section
variable {w w' : World} {b B : Nat} {l : List UInt8} {e : Int}
theorem row2 {v u : Value} {t : TypeId} (h : w.heap[b]? = some (.cells #[v, u] t (0, 0))) : w.cell? ⟨b, 0, none⟩ = some v ∧ w.cell? ⟨b, 1, none⟩ = some u ∧ w.frozen? ⟨b, 0, none⟩ = false ∧ w.frozen? ⟨b, 1, none⟩ = false :=
  ⟨by simpa using cell_of_row w b 0 _ t (0, 0) h, by simpa using cell_of_row w b 1 _ t (0, 0) h, frozen_of_row w b 0 _ t h, frozen_of_row w b 1 _ t h⟩
theorem grownBy_setCell (w : World) (b o : Nat) (u : Value) : w.grownBy (w.setCell ⟨b, o, none⟩ u) (some b) :=
  ⟨rfl, rfl, rfl, by simp [World.setCell], fun k _ hk => Below.heap_setCell w ⟨b, o, none⟩ u k (fun e => hk (by rw [e]))⟩
theorem grownBy_refl (w : World) (row : Option Nat) : w.grownBy w row := ⟨rfl, rfl, rfl, Nat.le_refl _, fun _ _ _ => rfl⟩
theorem Rd.below (h : Rd w b B l e) (hb : Below w.heap.size w w') : Rd w' b B l e := by
  obtain ⟨v, h1, h2, h3, h4⟩ := h
  exact ⟨v, (hb.block b (Array.getElem?_eq_some_iff.1 h1).1).trans h1, h2.below hb, h3, h4⟩
theorem Rd.lt (h : Rd w b B l e) : b < w.heap.size := by
  obtain ⟨v, h1, _⟩ := h
  exact (Array.getElem?_eq_some_iff.1 h1).1
/-- It is kept where neither it nor its bytes change. -/
theorem Rd.grown (h : Rd w b B l e) {g : Nat} (hg : w.grownBy w' (some g)) (hb : b ≠ g) (hB : B ≤ g) : Rd w' b B l e := by
  obtain ⟨v, h1, h2, h3, h4⟩ := h
  refine ⟨v, (hg.block b (Array.getElem?_eq_some_iff.1 h1).1 (by simpa using hb)).trans h1, h2.grown hg (.inr fun e => ?_), h3, h4⟩
  have := h4 g e
  omega
/-- Its error is set. -/
theorem rd_fail {v : Value} (h1 : w.heap[b]? = some (.cells #[v, .int .i64 e] 55 (0, 0))) (h2 : Bs w v l) (h3 : v.ownBlock ≠ some b) (h4 : ∀ k, v.ownBlock = some k → k < B) (e' : Int) : Rd (w.setCell ⟨b, 1, none⟩ (.int .i64 e')) b B l e' := by
  refine ⟨v, ?_, h2.grown (grownBy_setCell w b 1 _) (.inr h3), h3, h4⟩
  have := heap_setCell_same w b 1 _ _ (.int .i64 e') h1
  simpa using this
/-- Its bytes are set. -/
theorem rd_left {v v' : Value} {l' : List UInt8} (h1 : w.heap[b]? = some (.cells #[v, .int .i64 e] 55 (0, 0))) (h2 : Bs w v' l') (h3 : v'.ownBlock ≠ some b) (h4 : ∀ k, v'.ownBlock = some k → k < B) : Rd (w.setCell ⟨b, 0, none⟩ v') b B l' e := by
  refine ⟨v', ?_, h2.grown (grownBy_setCell w b 0 _) (.inr h3), h3, h4⟩
  have := heap_setCell_same w b 0 _ _ v' h1
  simpa using this
end

/-- What is taken, what is left, and the error behind it. -/
def tkB (l : List UInt8) (e : Int) (n : Nat) : List UInt8 := if e = 0 ∧ n ≤ l.length then l.take n else []
def tkL (l : List UInt8) (e : Int) (n : Nat) : List UInt8 := if e = 0 ∧ n ≤ l.length then l.drop n else l
def tkE (l : List UInt8) (e : Int) (n : Nat) : Int := if e = 0 then (if n ≤ l.length then 0 else 11) else e

theorem rfailed (b : Nat) {B : Nat} (l : List UInt8) (e : Int) (w : World) (h : Rd w b B l e) : Calls Try.prog 11 #[rp b] w fun en w' => en = .returned (.int .i64 e) ∧ w = w' := by
  obtain ⟨v, h1, h2, h3, h4⟩ := h
  obtain ⟨c0, c1, f0, f1⟩ := row2 h1
  go_enter Try.func11, Try.ntmps11
  go_wp2
  go_ret
  exact ⟨rfl, rfl⟩
theorem rleft (b : Nat) {B : Nat} (l : List UInt8) (e : Int) (w : World) (h : Rd w b B l e) : Calls Try.prog 10 #[rp b] w fun en w' => en = .returned (.int .i64 l.length) ∧ w = w' := by
  obtain ⟨v, h1, h2, h3, h4⟩ := h
  obtain ⟨A, c, rfl, hc⟩ := h2.form
  obtain ⟨c0, c1, f0, f1⟩ := row2 h1
  go_enter Try.func10, Try.ntmps10
  go_wp2
  go_ret
  exact ⟨rfl, rfl⟩
/-- What End tells. -/
def endE (l : List UInt8) (e : Int) : Int := if e = 0 then (if l.length = 0 then 0 else 12) else e
theorem rend (b : Nat) {B : Nat} (l : List UInt8) (e : Int) (w : World) (h : Rd w b B l e) : Calls Try.prog 12 #[rp b] w fun en w' => en = .returned (.int .i64 (endE l e)) ∧ w = w' := by
  by_cases he : e = 0
  · subst he
    by_cases hl : l.length = 0
    · go_enter Try.func12, Try.ntmps12
      go_wp2_with (first | (go_at_call 11; refine (rfailed b l 0 w h).mono ?_; rintro e w' ⟨rfl, rfl⟩) | (go_at_call 10; refine (rleft b l 0 w h).mono ?_; rintro e w' ⟨rfl, rfl⟩))
      go_ret
      exact ⟨ret_int (by simp [endE, hl]), rfl⟩
    · have hp : 0 < l.length := by omega
      go_enter Try.func12, Try.ntmps12
      go_wp2_with (first | (go_at_call 11; refine (rfailed b l 0 w h).mono ?_; rintro e w' ⟨rfl, rfl⟩) | (go_at_call 10; refine (rleft b l 0 w h).mono ?_; rintro e w' ⟨rfl, rfl⟩))
      go_ret
      exact ⟨ret_int (by simp [endE, hl]), rfl⟩
  · have hne : (e != 0) = true := by simpa using he
    go_enter Try.func12, Try.ntmps12
    go_wp2_with (first | (go_at_call 11; refine (rfailed b l e w h).mono ?_; rintro e w' ⟨rfl, rfl⟩))
    go_ret
    exact ⟨ret_int (by simp [endE, he]), rfl⟩

/-- What take leaves: bytes, and the reader. -/
def Took (w : World) (b B : Nat) (x l : List UInt8) (e : Int) (en : Ending) (w' : World) : Prop := ∃ v, en = .returned v ∧ Bs w' v x ∧ Rd w' b B l e ∧ w.grownBy w' (some b)

theorem take_bad (b : Nat) {B : Nat} (l : List UInt8) (e : Int) (n : Nat) (w : World) (h : Rd w b B l e) (he : ¬ e = 0) : Calls Try.prog 22 #[rp b, .int .i64 n] w (Took w b B [] l e) := by
  have hne : (e != 0) = true := by simpa using he
  go_enter Try.func22, Try.ntmps22
  go_wp2_with (first | (go_at_call 11; refine (rfailed b l e w h).mono ?_; rintro e w' ⟨rfl, rfl⟩))
  go_ret
  exact ⟨_, rfl, Bs.nil _, h, grownBy_refl _ _⟩
theorem take_cut (b : Nat) {B : Nat} (l : List UInt8) (n : Nat) (w : World) (h : Rd w b B l 0) (hn : l.length < n) : Calls Try.prog 22 #[rp b, .int .i64 n] w (Took w b B [] l 11) := by
  have hh := h
  obtain ⟨v, h1, h2, h3, h4⟩ := hh
  obtain ⟨A, c, rfl, hc⟩ := h2.form
  obtain ⟨c0, c1, f0, f1⟩ := row2 h1
  have R := rd_fail h1 h2 h3 h4 11
  have HR := Lib.hid R
  have H1 := Lib.hid h1
  clear R h1
  go_enter Try.func22, Try.ntmps22
  go_wp2_with (first | (go_at_call 11; refine (rfailed b l 0 w h).mono ?_; rintro e w' ⟨rfl, rfl⟩))
  go_ret
  exact ⟨_, rfl, Bs.nil _, HR.out, grownBy_setCell _ _ _ _⟩

theorem same_block (a : Addr) (i : Nat) : (a.add i).block = a.block := by by_cases h : i = 0 <;> simp [Addr.add, h]

set_option maxHeartbeats 400000 in
theorem take_nil (b : Nat) {B : Nat} (w : World) (h : Rd w b B [] 0) (h1 : w.heap[b]? = some (.cells #[.slice none 0 0, .int .i64 0] 55 (0, 0))) : Calls Try.prog 22 #[rp b, .int .i64 0] w (Took w b B [] [] 0) := by
  obtain ⟨c0, c1, f0, f1⟩ := row2 h1
  have R := rd_left (B := B) (v' := .slice none 0 0) (l' := []) h1 (Bs.nil _) (by simp [Value.ownBlock]) (by simp [Value.ownBlock])
  have HR := Lib.hid R
  clear R h1
  go_enter Try.func22, Try.ntmps22
  go_wp2_with (first | (go_at_call 11; refine (rfailed b [] 0 w h).mono ?_; rintro e w' ⟨rfl, rfl⟩))
  go_ret
  exact ⟨_, rfl, Bs.nil _, HR.out, grownBy_setCell _ _ _ _⟩
theorem bs_mk {w : World} {a : Addr} {n c : Nat} {l : List UInt8} (hn : l.length = n) (hc : n ≤ c) (hm : c ≤ maxLen) (hx : ∀ j x, l[j]? = some x → w.cell? (a.add j) = some (.int .u8 (x.toNat : Int))) : Bs w (.slice (some a) n c) l := by
  subst hn; exact .inr ⟨a, c, rfl, hc, hm, hx⟩
set_option maxHeartbeats 400000 in
theorem take_some (b : Nat) {B : Nat} (l : List UInt8) (a : Addr) (c n : Nat) (w : World) (h : Rd w b B l 0) (h1 : w.heap[b]? = some (.cells #[.slice (some a) l.length c, .int .i64 0] 55 (0, 0))) (hc : l.length ≤ c) (hm : c ≤ maxLen)
    (hx : ∀ j x, l[j]? = some x → w.cell? (a.add j) = some (.int .u8 (x.toNat : Int))) (h3 : a.block ≠ b) (h4 : a.block < B)
    (hn : n ≤ l.length) : Calls Try.prog 22 #[rp b, .int .i64 n] w (Took w b B (l.take n) (l.drop n) 0) := by
  obtain ⟨c0, c1, f0, f1⟩ := row2 h1
  have hb1 : Bs w (.slice (some a) n c) (l.take n) := bs_mk (by simp; omega) (by omega) hm fun j x hj => hx j x (by
    rw [List.getElem?_take] at hj; split at hj
    · exact hj
    · cases hj)
  have hb2 : Bs w (.slice (some (a.add n)) (l.length - n) (c - n)) (l.drop n) := bs_mk (by simp) (by omega) (by omega) fun j x hj => by
    rw [List.getElem?_drop] at hj
    rw [Addr.add_add]
    exact hx _ x hj
  have hk : (Value.slice (some a) n c).ownBlock ≠ some b := by simpa [Value.ownBlock] using h3
  have HB1 := Lib.hid (hb1.grown (grownBy_setCell w b 0 (.slice (some a) 0 0)) (.inr hk))
  have HB2 := Lib.hid (hb1.grown (grownBy_setCell w b 0 (.slice (some (a.add n)) (l.length - n) (c - n))) (.inr hk))
  have HR := Lib.hid (rd_left (B := B) h1 hb2 (by simpa [Value.ownBlock, same_block] using h3) (by simpa [Value.ownBlock, same_block] using h4))
  have HR0 : Hid (c = n → Rd (w.setCell ⟨b, 0, none⟩ (.slice (some a) 0 0)) b B (l.drop n) 0) := fun e => by
    have hz : l.drop n = [] := List.drop_eq_nil_of_le (by omega)
    rw [hz]
    exact rd_left h1 (bs_mk rfl (Nat.le_refl _) (Nat.zero_le _) (fun j x hj => by simp at hj)) (by simpa [Value.ownBlock] using h3) (by simpa [Value.ownBlock] using h4)
  clear h1 hx hb1 hb2 hk
  by_cases hcn : c = n
  · subst hcn
    go_enter Try.func22, Try.ntmps22
    go_wp2_with (first | (go_at_call 11; refine (rfailed b l 0 w h).mono ?_; rintro e w' ⟨rfl, rfl⟩))
    go_ret
    exact ⟨_, rfl, HB1.out, HR0.out (by simp), grownBy_setCell _ _ _ _⟩
  · go_enter Try.func22, Try.ntmps22
    go_wp2_with (first | (go_at_call 11; refine (rfailed b l 0 w h).mono ?_; rintro e w' ⟨rfl, rfl⟩))
    go_ret
    exact ⟨_, rfl, HB2.out, HR.out, grownBy_setCell _ _ _ _⟩

theorem rtake (b : Nat) {B : Nat} (l : List UInt8) (e : Int) (n : Nat) (w : World) (h : Rd w b B l e) : Calls Try.prog 22 #[rp b, .int .i64 n] w (Took w b B (tkB l e n) (tkL l e n) (tkE l e n)) := by
  by_cases he : e = 0
  · subst he
    by_cases hn : n ≤ l.length
    · have e1 : tkB l 0 n = l.take n := by simp [tkB, hn]
      have e2 : tkL l 0 n = l.drop n := by simp [tkL, hn]
      have e3 : tkE l 0 n = 0 := by simp [tkE, hn]
      rw [e1, e2, e3]
      have hh := h
      obtain ⟨v, h1, h2, h3, h4⟩ := hh
      rcases h2 with ⟨rfl, rfl⟩ | ⟨a, c, rfl, hc, hm, hx⟩
      · obtain rfl : n = 0 := by simpa using hn
        exact take_nil b w h h1
      · exact take_some b l a c n w h h1 hc hm hx (by simpa [Value.ownBlock] using h3) (by simpa [Value.ownBlock] using h4) hn
    · have e1 : tkB l 0 n = [] := by simp [tkB, hn]
      have e2 : tkL l 0 n = l := by simp [tkL, hn]
      have e3 : tkE l 0 n = 11 := by simp [tkE, hn]
      rw [e1, e2, e3]
      exact take_cut b l n w h (by omega)
  · have e1 : tkB l e n = [] := by simp [tkB, he]
    have e2 : tkL l e n = l := by simp [tkL, he]
    have e3 : tkE l e n = e := by simp [tkE, he]
    rw [e1, e2, e3]
    exact take_bad b l e n w h he

/-- What a reader's call leaves: a value, and the reader. -/
def Gave (w : World) (b B : Nat) (x : Value) (l : List UInt8) (e : Int) (en : Ending) (w' : World) : Prop := en = .returned x ∧ Rd w' b B l e ∧ w.grownBy w' (some b)

theorem tkB_len (l : List UInt8) (e : Int) (n : Nat) : (tkB l e n).length ≤ n := by unfold tkB; split <;> simp; omega

theorem leNat_lt : ∀ l : List UInt8, Lib.leNat l < 256 ^ l.length
  | [] => by simp [Lib.leNat]
  | x :: l => by
    have := leNat_lt l
    have hx := x.toNat_lt
    rw [Lib.leNat, List.length_cons, Nat.pow_succ]
    omega
theorem leNat_append : ∀ l m : List UInt8, Lib.leNat (l ++ m) = Lib.leNat l + 256 ^ l.length * Lib.leNat m
  | [], m => by simp [Lib.leNat]
  | x :: l, m => by
    rw [List.cons_append, Lib.leNat, Lib.leNat, leNat_append l m, List.length_cons, Nat.pow_succ, Nat.mul_comm (256 ^ l.length) 256, Nat.mul_assoc]
    omega
/-- One byte more is put above the others. -/
theorem or_byte (x : List UInt8) (j : Nat) (h : j < x.length) (h8 : x.length ≤ 8) :
    bits BinOp.or IntKind.u64 (Lib.leNat (x.take j) : Nat) (IntKind.u64.wrap (IntKind.u64.wrap (x[j].toNat : Int) * 2 ^ (8 * j))) = (Lib.leNat (x.take (j + 1)) : Nat) := by
  have hlt := leNat_lt (x.take j)
  have hlen : (x.take j).length = j := by simp; omega
  rw [hlen] at hlt
  have hx := x[j].toNat_lt
  have hp : (256 : Nat) ^ j = 2 ^ (8 * j) := by rw [show (256 : Nat) = 2 ^ 8 from rfl, ← Nat.pow_mul]
  have hpj : (256 : Nat) ^ j ≤ 256 ^ 7 := Nat.pow_le_pow_right (by omega) (by omega)
  have hmul : x[j].toNat * 256 ^ j ≤ 255 * 256 ^ j := Nat.mul_le_mul_right _ (by omega)
  have e1 : IntKind.u64.wrap (x[j].toNat : Int) = (x[j].toNat : Int) := by rw [IntKind.wrap_u64]; omega
  have e2 : (x[j].toNat : Int) * 2 ^ (8 * j) = ((x[j].toNat * 256 ^ j : Nat) : Int) := by rw [hp]; simp
  have e3 : IntKind.u64.wrap ((x[j].toNat * 256 ^ j : Nat) : Int) = ((x[j].toNat * 256 ^ j : Nat) : Int) := by rw [IntKind.wrap_u64]; omega
  rw [e1, e2, e3, bits_or_u64_nat _ _ (by omega) (by omega)]
  congr 1
  rw [List.take_succ_eq_append_getElem h, leNat_append, hlen, Nat.or_comm, Nat.mul_comm]
  rw [hp] at hlt ⊢
  have := Nat.two_pow_add_eq_or_of_lt hlt x[j].toNat
  rw [← this]
  simp [Lib.leNat]
  omega

set_option maxHeartbeats 1000000 in
theorem rnumber (b : Nat) {B : Nat} (l : List UInt8) (e : Int) (size : Int) (w : World) (h : Rd w b B l e) :
    Calls Try.prog 7 #[rp b, .int .i64 size] w (Gave w b B (.int .u64 (Lib.leNat (tkB l e (szd size)))) (tkL l e (szd size)) (tkE l e (szd size))) := by
  have hk8 := szd_le size
  have hl8 := tkB_len l e (szd size)
  go_enter Try.func7, Try.ntmps7
  go_wp2_with (first | (go_at_call 23; refine (sized _ _).mono ?_; rintro e w' ⟨rfl, rfl⟩))
  refine (rtake b l e _ w h).mono ?_
  rintro en w1 ⟨v, rfl, hv, hr, hg⟩
  obtain ⟨x, hx⟩ : ∃ x, x = tkB l e (szd size) := ⟨_, rfl⟩
  rw [← hx] at hv hl8 ⊢
  have HX := Lib.hid hx
  clear hx
  obtain ⟨A, c, rfl, hc⟩ := hv.form
  go_wp2_with fail
  go_loop [5, 13] (fun nv i => ∃ j : Nat, j ≤ x.length ∧ i = .int .i64 j ∧ nv = .int .u64 (Lib.leNat (x.take j) : Nat)) (fun _ i => x.length - (intOf i).toNat)
  case atStart => exact ⟨0, Nat.zero_le _, rfl, by simp [Lib.leNat]⟩
  case round =>
    obtain ⟨j, hj, rfl, rfl⟩ := hrel
    by_cases h1 : j < x.length
    · obtain ⟨bb, o, c', e', hcell⟩ := hv.at h1
      simp only [Value.slice.injEq] at e'
      obtain ⟨rfl, -, rfl⟩ := e'
      go_wp2_with fail
      go_round
      case rel => exact ⟨j + 1, by omega, by go_num, by rw [or_byte x j h1 (by omega)]⟩
      case measure => simp [intOf]; omega
    · obtain rfl : j = x.length := by omega
      go_wp2_with fail
      go_ret
      exact ⟨by simp [← HX.out], hr, hg⟩

/-- What Text gives: the text, the bytes left, the error. -/
def txR (l : List UInt8) (e : Int) (most : Int) : List UInt8 × List UInt8 × Int :=
  if tkE l e 2 = 0 then
    (if most < (Lib.leNat (tkB l e 2) : Int) then ([], tkL l e 2, 12)
     else (tkB (tkL l e 2) 0 (Lib.leNat (tkB l e 2)), tkL (tkL l e 2) 0 (Lib.leNat (tkB l e 2)), tkE (tkL l e 2) 0 (Lib.leNat (tkB l e 2))))
  else ([], tkL l e 2, tkE l e 2)

set_option maxHeartbeats 1000000 in
theorem rtext (b : Nat) {B : Nat} (l : List UInt8) (e : Int) (most : Int) (w : World) (h : Rd w b B l e) :
    Calls Try.prog 8 #[rp b, .int .i64 most] w (Gave w b B (.string ⟨(txR l e most).1.toArray⟩) (txR l e most).2.1 (txR l e most).2.2) := by
  have hs : szd 2 = 2 := by decide
  have hnum := rnumber b l e 2 w h
  rw [hs] at hnum
  have hb2 := leNat_lt (tkB l e 2)
  have hl2 := tkB_len l e 2
  have hb3 : Lib.leNat (tkB l e 2) < 65536 := Nat.lt_of_lt_of_le hb2 (Nat.le_trans (Nat.pow_le_pow_right (by omega) hl2) (by decide))
  obtain ⟨r, hr⟩ : ∃ r, r = txR l e most := ⟨_, rfl⟩
  rw [← hr]
  unfold txR at hr
  have HT := Lib.hid hr
  clear hb2 hl2 hs hr
  generalize Lib.leNat (tkB l e 2) = n2 at *
  generalize tkL l e 2 = l1 at *
  generalize tkE l e 2 = e1 at *
  have HN := Lib.hid hnum
  clear hnum
  by_cases hE : e1 = 0
  · subst hE
    by_cases hM : most < (n2 : Int)
    · have hr : r = ([], l1, 12) := by rw [HT.out, if_pos rfl, if_pos hM]
      subst hr
      go_enter Try.func8, Try.ntmps8
      go_wp2_with fail
      refine HN.out.mono ?_
      rintro en w1 ⟨rfl, hr1, hg1⟩
      have hh := hr1
      obtain ⟨v, h1, h2, h3, h4⟩ := hh
      obtain ⟨c0, c1, f0, f1⟩ := row2 h1
      have HF := Lib.hid (rd_fail h1 h2 h3 h4 12)
      clear h1
      go_wp2_with (first | (go_at_call 11; refine (rfailed b l1 0 w1 hr1).mono ?_; rintro e w' ⟨rfl, rfl⟩))
      go_ret
      exact ⟨rfl, HF.out, World.grownBy.trans hg1 (grownBy_setCell _ _ _ _)⟩
    · have hr : r = (tkB l1 0 n2, tkL l1 0 n2, tkE l1 0 n2) := by rw [HT.out, if_pos rfl, if_neg hM]
      subst hr
      clear HT
      go_enter Try.func8, Try.ntmps8
      go_wp2_with fail
      refine HN.out.mono ?_
      rintro en w1 ⟨rfl, hr1, hg1⟩
      go_wp2_with (first | (go_at_call 11; refine (rfailed b l1 0 w1 hr1).mono ?_; rintro e w' ⟨rfl, rfl⟩))
      refine (rtake b l1 0 n2 w1 hr1).mono ?_
      rintro en w2 ⟨v, rfl, hv, hr2, hg2⟩
      have hcv := run_str (P := Try.prog) (src := 30) (dst := 9) Try.underlying30 Try.underlying5 Try.underlying9 hv
      go_wp2_with fail
      go_ret
      exact ⟨rfl, hr2, World.grownBy.trans hg1 hg2⟩
  · have hr : r = ([], l1, e1) := by rw [HT.out, if_neg hE]
    subst hr
    have hne : (e1 != 0) = true := by simpa using hE
    go_enter Try.func8, Try.ntmps8
    go_wp2_with fail
    refine HN.out.mono ?_
    rintro en w1 ⟨rfl, hr1, hg1⟩
    go_wp2_with (first | (go_at_call 11; refine (rfailed b l1 e1 w1 hr1).mono ?_; rintro e w' ⟨rfl, rfl⟩))
    go_ret
    exact ⟨rfl, hr1, hg1⟩

end Go.Proofs.Ytbfnlpooocaeiaa
