/- What layer 2's reader does with a value (package packed: Reader.Value, Open): contracts, for every state of the reader. -/
import Derived.Test.YtbfnlpooocaeiaaRead02
import Derived.Deep.DeepCutAuto
import Derived.Deep.CutBlock
namespace Go.Proofs.Ytbfnlpooocaeiaa
open Go.RowKit

theorem row3 {w : World} {b : Nat} {x y z : Value} {t : TypeId} (h : w.heap[b]? = some (.cells #[x, y, z] t (0, 0))) :
    w.cell? ⟨b, 0, none⟩ = some x ∧ w.cell? ⟨b, 1, none⟩ = some y ∧ w.cell? ⟨b, 2, none⟩ = some z ∧ w.frozen? ⟨b, 0, none⟩ = false ∧ w.frozen? ⟨b, 1, none⟩ = false ∧ w.frozen? ⟨b, 2, none⟩ = false :=
  ⟨by simpa using cell_of_row w b 0 _ t (0, 0) h, by simpa using cell_of_row w b 1 _ t (0, 0) h, by simpa using cell_of_row w b 2 _ t (0, 0) h, frozen_of_row w b 0 _ t h, frozen_of_row w b 1 _ t h, frozen_of_row w b 2 _ t h⟩

/-- Where Value stands: its variable v (the block behind w1), its result (the block behind w), the reader. -/
structure VI (w w1 wc : World) (b B : Nat) (k n : Int) (s : ByteArray) (l : List UInt8) (e : Int) : Prop where
  box : wc.heap[w1.heap.size]? = some (.cells #[.int .u8 k, .int .i64 n, .string s] 28 (0, 0))
  res : wc.heap[w.heap.size]? = some (.cells #[.int .u8 0, .int .i64 0, .string ⟨#[]⟩] 28 (0, 0))
  rd : Rd wc b B l e
  only : w.grownBy wc (some b)
  old : b < w.heap.size
  low : B ≤ w.heap.size
  new : w.heap.size < w1.heap.size

section
variable {w w1 wc w2 : World} {b B : Nat} {k n : Int} {s : ByteArray} {l l' : List UInt8} {e e' : Int}
theorem only_other {g o : Nat} {u : Value} (h : w.grownBy wc (some b)) (hg : w.heap.size ≤ g) : w.grownBy (wc.setCell ⟨g, o, none⟩ u) (some b) :=
  ⟨h.os, h.tape, h.output, by simpa [World.setCell] using h.size, fun i hi hn => (Below.heap_setCell wc ⟨g, o, none⟩ u i (fun e => by
    have e' : i = g := e
    omega)).trans (h.block i hi hn)⟩
theorem only_below (h : w.grownBy wc (some b)) (hb : Below wc.heap.size wc w2) : w.grownBy w2 (some b) :=
  World.grownBy.trans h (grownBy_of_below hb _)
theorem VI.start (hz : w1.heap[w.heap.size]? = some (.cells #[.int .u8 0, .int .i64 0, .string ⟨#[]⟩] 28 (0, 0))) (hr : Rd w1 b B l e) (hg : w.grownBy w1 (some b)) (ho : b < w.heap.size) (hB : B ≤ w.heap.size) :
    VI w w1 (w1.alloc (.cells #[.int .u8 k, .int .i64 0, .string ⟨#[]⟩] 28)) b B k 0 ⟨#[]⟩ l e := by
  have hlt := (Array.getElem?_eq_some_iff.1 hz).1
  have hb : Below w1.heap.size w1 (w1.alloc (.cells #[.int .u8 k, .int .i64 0, .string ⟨#[]⟩] 28)) := (Below.refl _ _).alloc (Nat.le_refl _) _
  exact ⟨heap_alloc_new w1 _, (hb.block _ hlt).trans hz, hr.below hb, only_below hg hb, ho, hB, hlt⟩
theorem VI.call (h : VI w w1 wc b B k n s l e) (hr : Rd w2 b B l' e') (hg : wc.grownBy w2 (some b)) : VI w w1 w2 b B k n s l' e' := by
  have ho := h.old
  have hn := h.new
  have h1 := (Array.getElem?_eq_some_iff.1 h.box).1
  have h2 := (Array.getElem?_eq_some_iff.1 h.res).1
  exact ⟨(hg.block _ h1 (by simp; omega)).trans h.box, (hg.block _ h2 (by simp; omega)).trans h.res, hr, World.grownBy.trans h.only hg, ho, h.low, hn⟩
theorem VI.grow (h : VI w w1 wc b B k n s l e) (hb : Below wc.heap.size wc w2) : VI w w1 w2 b B k n s l e :=
  ⟨(hb.block _ (Array.getElem?_eq_some_iff.1 h.box).1).trans h.box, (hb.block _ (Array.getElem?_eq_some_iff.1 h.res).1).trans h.res, h.rd.below hb, only_below h.only hb, h.old, h.low, h.new⟩
theorem VI.set1 (h : VI w w1 wc b B k n s l e) (n' : Int) : VI w w1 (wc.setCell ⟨w1.heap.size, 1, none⟩ (.int .i64 n')) b B k n' s l e := by
  have ho := h.old
  have hn := h.new
  have hl := h.low
  refine ⟨?_, (Below.heap_setCell wc ⟨w1.heap.size, 1, none⟩ _ _ (by simp; omega)).trans h.res, h.rd.grown (grownBy_setCell _ _ _ _) (by omega) (by omega), only_other h.only (by omega), ho, hl, hn⟩
  simpa using heap_setCell_same wc w1.heap.size 1 _ _ (.int .i64 n') h.box
theorem VI.set2 (h : VI w w1 wc b B k n s l e) (s' : ByteArray) : VI w w1 (wc.setCell ⟨w1.heap.size, 2, none⟩ (.string s')) b B k n s' l e := by
  have ho := h.old
  have hn := h.new
  have hl := h.low
  refine ⟨?_, (Below.heap_setCell wc ⟨w1.heap.size, 2, none⟩ _ _ (by simp; omega)).trans h.res, h.rd.grown (grownBy_setCell _ _ _ _) (by omega) (by omega), only_other h.only (by omega), ho, hl, hn⟩
  simpa using heap_setCell_same wc w1.heap.size 2 _ _ (.string s') h.box
/-- The result is laid down. -/
theorem out3 (hr : Rd wc b B l e) (hg : w.grownBy wc (some b)) (ho : b < w.heap.size) (hB : B ≤ w.heap.size) (x y z : Value) :
    Rd (((wc.setCell ⟨w.heap.size, 0, none⟩ x).setCell ⟨w.heap.size, 1, none⟩ y).setCell ⟨w.heap.size, 2, none⟩ z) b B l e ∧ w.grownBy (((wc.setCell ⟨w.heap.size, 0, none⟩ x).setCell ⟨w.heap.size, 1, none⟩ y).setCell ⟨w.heap.size, 2, none⟩ z) (some b) :=
  ⟨((hr.grown (grownBy_setCell _ _ _ _) (by omega) hB).grown (grownBy_setCell _ _ _ _) (by omega) hB).grown (grownBy_setCell _ _ _ _) (by omega) hB, only_other (only_other (only_other hg (Nat.le_refl _)) (Nat.le_refl _)) (Nat.le_refl _)⟩
end

/-- The number, the bytes, what is left and the error, behind the kind k. -/
def vmN (k : Nat) (l : List UInt8) (e : Int) : Int := if k = 1 then (Lib.leNat (tkB l e 1) : Nat) else if k = 2 then wrap64 (Lib.leNat (tkB l e 8) : Nat) else 0
def vmS (k : Nat) (l : List UInt8) (e : Int) : ByteArray := if k = 3 then ⟨(txR l e 4096).1.toArray⟩ else ⟨#[]⟩
def vmL (k : Nat) (l : List UInt8) (e : Int) : List UInt8 := if k = 1 then tkL l e 1 else if k = 2 then tkL l e 8 else if k = 3 then (txR l e 4096).2.1 else l
def vmE (k : Nat) (l : List UInt8) (e : Int) : Int := if k = 1 then tkE l e 1 else if k = 2 then tkE l e 8 else if k = 3 then (txR l e 4096).2.2 else e

theorem leNat_b1 (l : List UInt8) (e : Int) : Lib.leNat (tkB l e 1) < 256 :=
  Nat.lt_of_lt_of_le (leNat_lt _) (Nat.le_trans (Nat.pow_le_pow_right (by omega) (tkB_len l e 1)) (by decide))

/-- What Value gives in the end: the value, and the error. -/
def vlV (k n : Int) (s : ByteArray) (e : Int) : Value := if e = 0 ∧ rightB k n s = true then vv k n s else vv 0 0 ⟨#[]⟩
def vlE (k n : Int) (s : ByteArray) (e : Int) : Int := if e = 0 then (if rightB k n s = true then 0 else 10) else e
/-- The kind that is read, and what is read behind it. -/
def rk (l : List UInt8) (e : Int) : Nat := Lib.leNat (tkB l e 1)
def rN (l : List UInt8) (e : Int) : Int := vmN (rk l e) (tkL l e 1) (tkE l e 1)
def rS (l : List UInt8) (e : Int) : ByteArray := vmS (rk l e) (tkL l e 1) (tkE l e 1)
def rL (l : List UInt8) (e : Int) : List UInt8 := vmL (rk l e) (tkL l e 1) (tkE l e 1)
def rE (l : List UInt8) (e : Int) : Int := vmE (rk l e) (tkL l e 1) (tkE l e 1)

set_option maxHeartbeats 2000000 in
theorem rvalue (b : Nat) {B : Nat} (l : List UInt8) (e : Int) (w : World) (h : Rd w b B l e) (hB : B ≤ w.heap.size) :
    Calls Try.prog 9 #[rp b] w (Gave w b B (vlV (rk l e) (rN l e) (rS l e) (rE l e)) (rL l e) (vlE (rk l e) (rN l e) (rS l e) (rE l e))) := by
  unfold rN rS rL rE rk
  have hnum := fun l e W hW => rnumber b (B := B) l e 1 W hW
  rw [show szd 1 = 1 by decide] at hnum
  have HN := Lib.hid hnum
  have hnum8 := fun l e W hW => rnumber b (B := B) l e 8 W hW
  rw [show szd 8 = 8 by decide] at hnum8
  have HN8 := Lib.hid hnum8
  have hlt := h.lt
  clear hnum hnum8
  have hk := leNat_b1 l e
  have HN1 := Lib.hid (fun W hW => HN.out l e W hW)
  generalize Lib.leNat (tkB l e 1) = k at *
  generalize tkL l e 1 = l1 at *
  generalize tkE l e 1 = e1 at *
  obtain ⟨V, hV⟩ : ∃ V, V = vlV k (vmN k l1 e1) (vmS k l1 e1) (vmE k l1 e1) := ⟨_, rfl⟩
  obtain ⟨E, hE⟩ : ∃ E, E = vlE k (vmN k l1 e1) (vmS k l1 e1) (vmE k l1 e1) := ⟨_, rfl⟩
  rw [← hV, ← hE]
  have HV := Lib.hid hV
  have HE := Lib.hid hE
  clear hV hE
  go_enter Try.func9, Try.ntmps9
  go_wp2_with fail
  refine (HN1.out _ (h.below ((Below.refl _ _).alloc (Nat.le_refl _) _))).mono ?_
  rintro en w1 ⟨rfl, hr1, hg1⟩
  have HZ := Lib.hid ((hg1.block w.heap.size (by simp) (by simp; omega)).trans (heap_alloc_new w _))
  have hg0 : w.grownBy w1 (some b) := World.grownBy.trans (grownBy_of_below ((Below.refl _ _).alloc (Nat.le_refl _) _) _) hg1
  go_upto_block 0 with fail
  have V0 := VI.start (k := k) HZ.out hr1 hg0 hlt hB
  go_cut [10] (fun _ wc => VI w w1 wc b B k (vmN k l1 e1) (vmS k l1 e1) (vmL k l1 e1) (vmE k l1 e1))
  case first =>
    by_cases k1 : k = 1
    · subst k1
      have hx := leNat_b1 l1 e1
      go_wp2_with fail
      refine (HN.out l1 e1 _ V0.rd).mono ?_
      rintro en w2 ⟨rfl, hr2, hg2⟩
      have V2 := V0.call hr2 hg2
      obtain ⟨c0, c1, c2, f0, f1, f2⟩ := row3 V2.box
      have V3 := V2.set1 (Lib.leNat (tkB l1 e1 1) : Nat)
      go_wp2_with fail
      go_meet
      simpa [vmN, vmS, vmL, vmE] using V3
    · by_cases k2 : k = 2
      · subst k2
        go_wp2_with fail
        refine (HN8.out l1 e1 _ V0.rd).mono ?_
        rintro en w2 ⟨rfl, hr2, hg2⟩
        have V2 := V0.call hr2 hg2
        obtain ⟨c0, c1, c2, f0, f1, f2⟩ := row3 V2.box
        have V3 := V2.set1 (wrap64 (Lib.leNat (tkB l1 e1 8) : Nat))
        go_wp2_with fail
        go_meet
        simpa [vmN, vmS, vmL, vmE] using V3
      · by_cases k3 : k = 3
        · subst k3
          go_wp2_with fail
          refine (rtext b l1 e1 4096 _ V0.rd).mono ?_
          rintro en w2 ⟨rfl, hr2, hg2⟩
          have V2 := V0.call hr2 hg2
          obtain ⟨c0, c1, c2, f0, f1, f2⟩ := row3 V2.box
          have V3 := V2.set2 ⟨(txR l1 e1 4096).1.toArray⟩
          go_wp2_with fail
          go_meet
          simpa [vmN, vmS, vmL, vmE] using V3
        · have m1 : ¬ (k : Int) = 1 := by omega
          have m2 : ¬ (k : Int) = 2 := by omega
          have m3 : ¬ (k : Int) = 3 := by omega
          go_wp2_with fail
          go_meet
          simpa [vmN, vmS, vmL, vmE, k1, k2, k3] using V0
  case rest =>
    clear V0 HZ hr1 hg1 hg0 HN HN8 HN1
    generalize vmN k l1 e1 = n at *
    generalize vmS k l1 e1 = s at *
    generalize vmL k l1 e1 = l2 at *
    generalize vmE k l1 e1 = e2 at *
    obtain ⟨c0, c1, c2, f0, f1, f2⟩ := row3 hcut.box
    obtain ⟨z0, z1, z2, y0, y1, y2⟩ := row3 hcut.res
    by_cases he : e2 = 0
    · subst he
      cases hrB : rightB k n s
      · go_wp2_with fail
        refine (rfailed b l2 0 wc hcut.rd).mono ?_
        rintro en w2 ⟨rfl, rfl⟩
        go_wp2_with fail
        refine (right k n s wc (by omega)).mono ?_
        rintro en w2 ⟨rfl, g2⟩
        have V2 := hcut.grow g2.below
        rw [hrB]
        clear c0 c1 c2 f0 f1 f2 z0 z1 z2 y0 y1 y2
        obtain ⟨z0, z1, z2, y0, y1, y2⟩ := row3 V2.res
        obtain ⟨v, h1, h2, h3, h4⟩ := V2.rd
        obtain ⟨c0, c1, f0, f1⟩ := row2 h1
        have hF := rd_fail h1 h2 h3 h4 10
        have hG : w.grownBy (w2.setCell ⟨b, 1, none⟩ (.int .i64 10)) (some b) := World.grownBy.trans V2.only (grownBy_setCell _ _ _ _)
        clear h1
        have hne1 : ¬ w.heap.size = b := by omega
        have hne2 : ¬ b = w.heap.size := by omega
        go_wp2_with fail
        have O := out3 hF hG hlt hB (.int .u8 0) (.int .i64 0) (.string ⟨#[]⟩)
        exact bodyPost_ret (v := vv 0 0 ⟨#[]⟩) (by simp [results, Try.results9, go_sem, z0, z1, z2]) rfl ⟨by rw [HV.out]; simp [vlV, hrB], by rw [HE.out]; simpa [vlE, hrB] using O.1, O.2⟩
      · go_wp2_with fail
        refine (rfailed b l2 0 wc hcut.rd).mono ?_
        rintro en w2 ⟨rfl, rfl⟩
        go_wp2_with fail
        refine (right k n s wc (by omega)).mono ?_
        rintro en w2 ⟨rfl, g2⟩
        have V2 := hcut.grow g2.below
        rw [hrB]
        clear c0 c1 c2 f0 f1 f2 z0 z1 z2 y0 y1 y2
        obtain ⟨z0, z1, z2, y0, y1, y2⟩ := row3 V2.res
        obtain ⟨c0, c1, c2, f0, f1, f2⟩ := row3 V2.box
        go_wp2_with fail
        have O := out3 V2.rd V2.only hlt hB (.int .u8 k) (.int .i64 n) (.string s)
        exact bodyPost_ret (v := vv k n s) (by simp [results, Try.results9, go_sem, z0, z1, z2]) rfl ⟨by rw [HV.out]; simp [vlV, hrB], by rw [HE.out]; simpa [vlE, hrB] using O.1, O.2⟩
    · have hne : (e2 != 0) = true := by simpa using he
      go_wp2_with fail
      refine (rfailed b l2 e2 wc hcut.rd).mono ?_
      rintro en w2 ⟨rfl, rfl⟩
      go_wp2_with fail
      have O := out3 hcut.rd hcut.only hlt hB (.int .u8 0) (.int .i64 0) (.string ⟨#[]⟩)
      exact bodyPost_ret (v := vv 0 0 ⟨#[]⟩) (by simp [results, Try.results9, go_sem, z0, z1, z2]) rfl ⟨by rw [HV.out]; simp [vlV, he], by rw [HE.out]; simpa [vlE, he] using O.1, O.2⟩

theorem clone_nil (w : World) : Calls Try.prog 25 #[.slice none 0 0] w (Made w []) := by
  have hnil : ∀ W : World, (binOp .eql 30 (.slice none 0 0) (.slice none 0 0)).run Try.prog W = .ok (.bool true) W := fun W => Lib.run_eql_slice_nil W _ _ none 0 0 0 0 Try.underlying30
  go_enter Try.func25, Try.ntmps25
  go_wp2_with fail
  go_ret
  exact ⟨_, rfl, Own.nil _ _, Below.refl _ _⟩
theorem clone_some (a : Addr) (n c : Nat) (l : List UInt8) (w : World) (hv : Bs w (.slice (some a) n c) l) (h47 : l.length ≤ 140737488355328) : Calls Try.prog 25 #[.slice (some a) n c] w (Made w l) := by
  obtain ⟨i0, hi, hz0, hz1, hz2⟩ := info_parts u8_info
  have hnil : ∀ W : World, (binOp .eql 30 (.slice (some a) n c) (.slice none 0 0)).run Try.prog W = .ok (.bool false) W := fun W => Lib.run_eql_slice_nil W _ _ (some a) n c 0 0 Try.underlying30
  have hown : Own (w.alloc (.cells #[] 5)) w.heap.size (.slice (some ⟨w.heap.size, 0, none⟩) 0 0) [] := Own.lit w [] (Nat.le_refl _) (Nat.zero_le _)
  go_enter Try.func25, Try.ntmps25
  go_wp2_with ((at_builtin; refine wpList_append_bs rfl (.tmp 5) (.tmp 6) 30 rfl w.heap.size i0 Try.underlying30 hi hz0 hz1 hz2 _ _ rfl hown _ _ rfl (hv.alloc _) ?c6 ?c7 ?_))
  case c6 => simpa using h47
  case c7 => simp
  intro v' w2 hown2 hg2
  go_wp2_with fail
  go_ret
  exact ⟨_, rfl, hown2, below_own ((Below.refl _ _).alloc (Nat.le_refl _) _) hown hg2⟩
theorem clone (v : Value) (l : List UInt8) (w : World) (hv : Bs w v l) (h47 : l.length ≤ 140737488355328) : Calls Try.prog 25 #[v] w (Made w l) := by
  have hv' := hv
  rcases hv with ⟨rfl, rfl⟩ | ⟨a, c, rfl, _⟩
  · exact clone_nil w
  · exact clone_some a _ c l w hv' h47

/-- A reader of these bytes, new. -/
def Opened (w : World) (l : List UInt8) (en : Ending) (w' : World) : Prop := ∃ b, en = .returned (rp b) ∧ Rd w' b b l 0 ∧ Below w.heap.size w w' ∧ w.heap.size ≤ b
theorem ropen (v : Value) (l : List UInt8) (w : World) (hv : Bs w v l) (h47 : l.length ≤ 140737488355328) : Calls Try.prog 21 #[v] w (Opened w l) := by
  go_enter Try.func21, Try.ntmps21
  go_wp2_with fail
  refine (clone v l w hv h47).mono ?_
  rintro en w1 ⟨v1, rfl, hown1, hb1⟩
  have hb2 : Below w1.heap.size w1 (w1.alloc (.cells #[v1, .int .i64 0] 55)) := (Below.refl _ _).alloc (Nat.le_refl _) _
  have hR : Rd (w1.alloc (.cells #[v1, .int .i64 0] 55)) w1.heap.size w1.heap.size l 0 :=
    ⟨v1, heap_alloc_new w1 _, hown1.bs.alloc _, fun e => by have := (hown1.blk _ e).2; omega, fun k e => (hown1.blk k e).2⟩
  have HR := Lib.hid hR
  clear hR
  obtain ⟨A, c, rfl, _⟩ := hown1.bs.form
  go_wp2_with fail
  go_ret
  exact ⟨_, rfl, HR.out, below_trans hb1 hb2, hb1.size⟩

end Go.Proofs.Ytbfnlpooocaeiaa
