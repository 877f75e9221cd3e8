/- PvecActs' own walk. -/
import Derived.Test.YtgkhbnkbhcginaaActA06
import Derived.Test.YtgkhbnkbhcginaaActB06
import Derived.Test.YtgkhbnkbhcginaaActC06
import Derived.Test.YtgkhbnkbhcginaaDelete06
import Derived.Test.YtgkhbnkbhcginaaDoes06
import Derived.Test.YtgkhbnkbhcginaaFits06
import Derived.Deep.RegionHeldLaw
import Derived.Deep.RegionHeld3
import Derived.Deep.RegionWith
import Derived.Deep.CutRange
import Derived.Deep.CutBlock
namespace Go.Proofs.Ytgkhbnkbhcginaa
open Go.RowKit
set_option linter.unusedSimpArgs false
set_option linter.unusedVariables false

set_option maxRecDepth 100000 in
theorem walkA_no (A : Option Addr) (l : List Ac) (c : Nat) (w : World) (h : Acts w A l) (hf : ∀ a ∈ l, a.Fits) (hl : l.length ≤ 140737488355328) (hno : fitsB l = false) :
    Calls Try.prog 3 #[.slice A l.length c] w fun e w' => e = .returned (.bool true) ∧ Below w.heap.size w w' := by
  go_enter Try.func3, Try.ntmps3
  go_wp2_with fail
  refine (lives6 _).mono ?_
  rintro e w1 ⟨rfl, g1⟩
  go_wp2_with fail
  refine (vfits A l c w1 (h.below g1) hf hl).mono ?_
  rintro e w2 ⟨rfl, g2⟩
  rw [hno]
  go_wp2_with fail
  refine (lives6 _).mono ?_
  rintro e w3 ⟨rfl, g3⟩
  go_wp2_with fail
  go_ret
  exact ⟨rfl, (g1.trans (g2.mono g1.size)).trans (g3.mono (Nat.le_trans g1.size g2.size))⟩


theorem Mid.below {w0 W W' : World} {b za : Nat} {l : List Ac} {j : Nat} {s5 : Value} (h : Mid w0 b za l j s5 W) (hb : Below W.heap.size W W') : Mid w0 b za l j s5 W' := by
  obtain ⟨E, M, F, g, cp, e, h1, h2, hW, hl, hz, n1, n2, n3⟩ := h
  exact ⟨E, M, F, g, cp, e, h1, h2, hW.below hb, hl, (hb.cell (p := ⟨za, 0, none⟩) (World.block_lt_of_cell? _ _ hz)).trans hz, n1, n2, n3⟩
theorem Mid.begin {w0 w3 : World} {b : Nat} {l : List Ac} (T : TypeId) (ha : Ar w3 b 65536 (fun _ => none) (fun k => k = b)) (hb : b = w0.heap.size) (g3 : Below w0.heap.size w0 w3) :
    Mid w0 b w3.heap.size l 0 (.slice (some ⟨w3.heap.size + 1, 0, none⟩) 1 1) ((w3.alloc (.cells #[ap b] T)).alloc (.cells #[.int .i64 0, .int .i64 0, .int .i64 0, .slice none 0 0, .int .u32 0] 34)) := by
  have e1 : (w3.alloc (.cells #[ap b] T)).heap.size = w3.heap.size + 1 := by simp
  have hlt : b < w3.heap.size := ha.lt rfl
  have hs := g3.size
  have hb5 : Below w3.heap.size w3 ((w3.alloc (.cells #[ap b] T)).alloc (.cells #[.int .i64 0, .int .i64 0, .int .i64 0, .slice none 0 0, .int .u32 0] 34)) := ((Below.refl _ w3).alloc (Nat.le_refl _) _).alloc (by simp) _
  have ho := World.ownsRow_lit (base := w0.heap.size) (e := 34) (size := 5) (w3.alloc (.cells #[ap b] T)) #[.int .i64 0, .int .i64 0, .int .i64 0, .slice none 0 0, .int .u32 0] 1 (by rw [e1]; omega) (by decide) (by decide)
  rw [e1] at ho
  have hocc : ∀ i, occ (65536 + 1) (fun _ => none) i = 0 := fun i => sumTo_zero fun _ _ => by simp [kd]
  refine ⟨[⟨⟨0, 0, 0⟩, [], .slice none 0 0, 0⟩], fun _ => none, fun k => k = b, w3.heap.size + 1, 1, rfl, by simp, by simp, ⟨⟨ha.below hb5, g3.trans (hb5.mono hs), fun k e => by omega⟩, ⟨?_, fun h hh => by simp at hh, fun j => by simp [kd]⟩, fun e he => ?_, fun e he => ?_, fun e he q hq => ?_, ho, fun q hq => ?_⟩, ?_, ?_, by omega, by omega, hs⟩
  · rw [blank_nil]
    refine ⟨rfl, fun _ _ => rfl, fun _ h => absurd rfl h, fun i hi => ?_, ⟨fun _ => 0, fun j k hk => by simp [kd] at hk⟩⟩
    have h1 : ¬ i = 0 := by omega
    have h2 : List.count i [0, 0] = 0 := by rw [count2]; simp [h1]
    rw [hocc]
    show rf none = 0 + List.count i [0, 0] + List.count i [] + 0
    rw [h2]
    rfl
  · obtain rfl : e = ⟨⟨0, 0, 0⟩, [], .slice none 0 0, 0⟩ := by simpa using he
    exact VecIs.empty _
  · obtain rfl : e = ⟨⟨0, 0, 0⟩, [], .slice none 0 0, 0⟩ := by simpa using he
    exact Rd.nil _
  · obtain rfl : e = ⟨⟨0, 0, 0⟩, [], .slice none 0 0, 0⟩ := by simpa using he
    cases hq
  · have e : w3.heap.size + 1 = q := Option.some.inj hq
    omega
  · rw [live_zero fun _ => rfl]
    exact Nat.zero_le _
  · rw [World.cell?_alloc_past _ _ _ (by rw [e1]; omega), World.cell?_alloc_at _ _ _ _ rfl]
    rfl
/-- While the vectors are dropped: k of them are. -/
def Fin6 (w0 : World) (b za : Nat) (E : List En) (g cp k : Nat) (wq : World) : Prop :=
  ∃ M F, Lone w0 wq b 65536 M F ∧ Bk (65536 + 1) M [] (fun _ => 0) (holds (E.drop k)) ∧ wq.ownsRow w0.heap.size 34 5 (.slice (some ⟨g, 0, none⟩) E.length cp) E.length (E.flatMap cells5) ∧ wq.cell? ⟨za, 0, none⟩ = some (ap b) ∧ ¬ F za ∧ ¬ F g
theorem holds_drop {E : List En} {k : Nat} {e : En} (h : E[k]? = some e) (j : Nat) : (holds (E.drop k)).count j = (holds (E.drop (k + 1))).count j + [e.v.root, e.v.tail].count j := by
  obtain ⟨hk, h1⟩ := List.getElem?_eq_some_iff.1 h
  rw [List.drop_eq_getElem_cons hk, h1]
  show ([e.v.root, e.v.tail] ++ holds (E.drop (k + 1))).count j = _
  rw [List.count_append]
  omega
set_option maxRecDepth 100000 in
set_option maxHeartbeats 100000000 in
theorem walkA (A : Option Addr) (l : List Ac) (c : Nat) (w : World) (h : Acts w A l) (hf : ∀ a ∈ l, a.Fits) (hl : l.length ≤ 140737488355328) (hyes : fitsB l = true) :
    Calls Try.prog 3 #[.slice A l.length c] w fun e w' => e = .returned (.bool true) ∧ Below w.heap.size w w' := by
  go_enter Try.func3, Try.ntmps3
  go_wp2_with fail
  refine (lives6 _).mono ?_
  rintro e w1 ⟨rfl, g1⟩
  go_wp2_with fail
  refine (vfits A l c w1 (h.below g1) hf hl).mono ?_
  rintro e w2 ⟨rfl, g2⟩
  rw [hyes]
  have HACT := Lib.hid ((h.below g1).below g2)
  have HF := Lib.hid hf
  have hlen : l.length ≤ 60 := by
    unfold fitsB at hyes
    simp only [Bool.and_eq_true, decide_eq_true_eq] at hyes
    exact hyes.2.1
  have HSUM := Lib.hid (show sumN l ≤ 3000 by
    unfold fitsB at hyes
    simp only [Bool.and_eq_true, decide_eq_true_eq] at hyes
    exact hyes.2.2)
  clear h hf hyes hl
  go_wp2_with fail
  refine (anew 65536 w2 (by decide) (by decide)).mono ?_
  rintro e w3 ⟨rfl, ha, g3⟩
  go_wp2_with fail
  obtain ⟨za, hzz⟩ : ∃ za, za = w3.heap.size := ⟨_, rfl⟩
  rw [← hzz]
  have HZZ := Lib.hid hzz
  clear hzz
  go_loopg [5, 6, 43] l.length (fun c' s5 l6 i43 wq => ∃ j : Nat, j + c' = l.length ∧ i43 = .int .i64 (j : Int) ∧ ∃ la : Int, l6 = .int .u32 la ∧ 0 ≤ la ∧ la ≤ j ∧ Mid w2 w2.heap.size za l j s5 wq)
  case atStart => exact ⟨0, by omega, rfl, 0, rfl, by omega, by omega, by rw [HZZ.out]; exact Mid.begin _ ha rfl g3⟩
  case round =>
    obtain ⟨j, hj, rfl, la, rfl, hla0, hla1, E, M, F, g, cp, rfl, hE1, hE2, hW, hlv, hza, hnF, hzg, hz0⟩ := hrel
    have HW := Lib.hid hW
    have HLV := Lib.hid hlv
    have HG := Lib.hid (And.intro g1 (And.intro g2 g3))
    clear hW hlv g1 g2 g3 ha
    by_cases h1 : j < l.length
    · obtain ⟨a, hat⟩ : ∃ a, l[j]? = some a := ⟨_, List.getElem?_eq_getElem h1⟩
      obtain ⟨gA, oA, rfl, c0, c1, c2, c3, c4, c5⟩ := (HACT.out.below HW.out.lone.bel).at hat
      have y1 : (0 : Int) ≤ (j : Int) := by omega
      have y2 : (j : Int) < (l.length : Int) := by omega
      have HFA := Lib.hid (HF.out a (List.mem_of_getElem? hat))
      have HAT := Lib.hid hat
      have HNF := Lib.hid (And.intro hnF hzg)
      have HLL := Lib.hid hlen
      have HEE := Lib.hid (And.intro hE1 hE2)
      clear hat hnF hzg
      obtain ⟨k, hk0, hk1⟩ : ∃ k : Nat, k < E.length ∧ wrap64 ((IntKind.u64.wrap a.i).tmod (E.length : Int)) = (k : Int) := by
        have h0 : 0 ≤ IntKind.u64.wrap a.i := by rw [IntKind.wrap_u64]; omega
        have h4 := Int.emod_nonneg (IntKind.u64.wrap a.i) (show (E.length : Int) ≠ 0 by omega)
        have h5 := Int.emod_lt_of_pos (IntKind.u64.wrap a.i) (show (0 : Int) < (E.length : Int) by omega)
        rw [Int.tmod_eq_emod_of_nonneg h0, IntWalk.wrap64_in _ (by omega)]
        exact ⟨(IntKind.u64.wrap a.i % (E.length : Int)).toNat, by omega, by omega⟩
      go_upto_block 2 with fail
      rw [hk1]
      clear hk1
      obtain ⟨xb, hxb⟩ : ∃ xb, xb = wr.heap.size := ⟨_, rfl⟩
      rw [← hxb]
      have HXB := Lib.hid hxb
      clear hxb
      go_cut [5, 6, 10] from 57 to 236 (fun s5 l6 ok wc => ok = .bool true ∧ wc.cell? ⟨xb, 2, none⟩ = some (.int .i64 a.n) ∧ ∃ la' : Int, l6 = .int .u32 la' ∧ 0 ≤ la' ∧ la' ≤ (j + 1 : Nat) ∧ Mid w2 w2.heap.size za l (j + 1) s5 wc)
      case first =>
        obtain ⟨e, he⟩ : ∃ e, E[k]? = some e := ⟨_, List.getElem?_eq_getElem hk0⟩
        have HE := Lib.hid he
        have hkd : a.kd.tmod 7 = 0 ∨ a.kd.tmod 7 = 1 ∨ a.kd.tmod 7 = 2 ∨ a.kd.tmod 7 = 3 ∨ a.kd.tmod 7 = 4 ∨ a.kd.tmod 7 = 5 ∨ a.kd.tmod 7 = 6 := by
          have h0 := HFA.out.1
          rw [Int.tmod_eq_emod_of_nonneg h0.1]
          omega
        have hin : In6 w2 (wr.alloc (.cells #[.int .u8 a.kd, .int .i64 a.i, .int .i64 a.n, .int .u8 a.x.1, .int .i64 a.x.2.1, .string a.x.2.2] 40)) w2.heap.size za xb a g cp E.length (2 * sumN (l.take j) + 602 * j) M F E := by
          rw [HXB.out]
          have hbx : Below wr.heap.size wr (wr.alloc (.cells #[.int .u8 a.kd, .int .i64 a.i, .int .i64 a.n, .int .u8 a.x.1, .int .i64 a.x.2.1, .string a.x.2.2] 40)) := (Below.refl _ wr).alloc (Nat.le_refl _) _
          exact ⟨HW.out.below hbx, rfl, HLV.out, (hbx.cell (p := ⟨za, 0, none⟩) (World.block_lt_of_cell? _ _ hza)).trans hza, World.cell?_alloc_at _ _ _ _ rfl, World.cell?_alloc_at _ _ _ _ rfl, World.cell?_alloc_at _ _ _ _ rfl, World.cell?_alloc_at _ _ _ _ rfl, World.cell?_alloc_at _ _ _ _ rfl,
            ⟨HNF.out.1, HNF.out.2, fun hf => absurd (HW.out.lone.ar.lt hf) (Nat.lt_irrefl _), fun e => by have := (own_blk HW.out.all g rfl).2; omega⟩⟩
        obtain ⟨wx, hwx⟩ : ∃ wx, wx = (wr.alloc (.cells #[.int .u8 a.kd, .int .i64 a.i, .int .i64 a.n, .int .u8 a.x.1, .int .i64 a.x.2.1, .string a.x.2.2] 40)) := ⟨_, rfl⟩
        rw [← hwx] at hin ⊢
        have HIN := Lib.hid hin
        have HTK := Lib.hid (sumN_next HAT.out)
        have HB0 := Lib.hid (show sumN (l.take j) ≤ 3000 from Nat.le_trans (sumN_take_le l j) HSUM.out)
        have hz := HIN.out.ca
        have x0 := HIN.out.x0
        have x2 := HIN.out.x2
        have x3 := HIN.out.x3
        have x4 := HIN.out.x4
        have x5 := HIN.out.x5
        have y5 : (0 : Int) ≤ (k : Int) := by omega
        have y6 : (k : Int) < (E.length : Int) := by omega
        clear he hza hwx hin c0 c1 c2 c3 c4 c5 HW HLV
        rcases hkd with hkd | hkd | hkd | hkd | hkd | hkd | hkd
        · refine act_k0 w2 wx za xb g cp j k la a l E M F e HIN.out HE.out HEE.out hk0 hla0 hla1 hz0 hlen h1 HSUM.out HAT.out HFA.out hkd _ (by rfl) _ _ _ _ _ _ _ _ _ _ _ _ _ _ _ _ _ _ _ _ _ _ _ _ _ _ _ _ _ _ _ _ _ _ _ _ _ _ _ _ _ _ _ _ _ _ _ _ _ _ _ _ _ _ _ _ _ _ _ _ _ _ _ _ _ _ _ _ _ _ _ _ _ _ _ _ _ _ _ _ _ _ _ _ _ _ _ _ _ _ _ _ _ _ _ _ _ _ _ _ _ _ _ _ _ _ _ _ _ _ _ _ _ _ _ _ _ _ _ _ _ _ _ _ _ _ _ _ _ _ _ _ _ _ _ _ _ _ _ _ _ _ _ _ _ _ _ _ _ _ _ _ _ _ _ _ _ _ _ _ _ _ _ _ _ _ _ _ _ _ _ _ _ _ _ _ _ _ _ _ _ _ _ _ _ _ _ _ _ _ _ _ _ _ _ _ _ _ _ _ _ _ _ _ _ _ _ _ _ _ _ _ _ _ _ _ _ _ _ _ _ _ _ _ _ _ _ _ _ _ _ _ _ _ _ _ _ _ _ _ _ _ _ _ _ _ _ _ _ _ _ _ _ _ _ _ _ _ _ _ _ _ ?hQ ?hX
          case hQ =>
            intros
            rename_i hrel
            go_wp2_with fail
            go_meet
            exact hrel
          case hX =>
            intros
            rename_i hm
            go_wp2_with fail
            go_roundg (l.length - (j + 1))
            case measure => omega
            case rel => exact ⟨j + 1, by omega, by go_num, la, rfl, hla0, by omega, hm⟩
        · refine act_k1 w2 wx za xb g cp j k la a l E M F e HIN.out HE.out HEE.out hk0 hla0 hla1 hz0 hlen h1 HSUM.out HAT.out HFA.out hkd _ (by rfl) _ _ _ _ _ _ _ _ _ _ _ _ _ _ _ _ _ _ _ _ _ _ _ _ _ _ _ _ _ _ _ _ _ _ _ _ _ _ _ _ _ _ _ _ _ _ _ _ _ _ _ _ _ _ _ _ _ _ _ _ _ _ _ _ _ _ _ _ _ _ _ _ _ _ _ _ _ _ _ _ _ _ _ _ _ _ _ _ _ _ _ _ _ _ _ _ _ _ _ _ _ _ _ _ _ _ _ _ _ _ _ _ _ _ _ _ _ _ _ _ _ _ _ _ _ _ _ _ _ _ _ _ _ _ _ _ _ _ _ _ _ _ _ _ _ _ _ _ _ _ _ _ _ _ _ _ _ _ _ _ _ _ _ _ _ _ _ _ _ _ _ _ _ _ _ _ _ _ _ _ _ _ _ _ _ _ _ _ _ _ _ _ _ _ _ _ _ _ _ _ _ _ _ _ _ _ _ _ _ _ _ _ _ _ _ _ _ _ _ _ _ _ _ _ _ _ _ _ _ _ _ _ _ _ _ _ _ _ _ _ _ _ _ _ _ _ _ _ _ _ _ _ _ _ _ _ _ _ _ _ _ _ ?hQ ?hX
          case hQ =>
            intros
            rename_i hrel
            go_wp2_with fail
            go_meet
            exact hrel
          case hX =>
            intros
            rename_i hm
            go_wp2_with fail
            go_roundg (l.length - (j + 1))
            case measure => omega
            case rel => exact ⟨j + 1, by omega, by go_num, la, rfl, hla0, by omega, hm⟩
        · refine act_k2 w2 wx za xb g cp j k la a l E M F e HIN.out HE.out HEE.out hk0 hla0 hla1 hz0 hlen h1 HSUM.out HAT.out HFA.out hkd _ (by rfl) _ _ _ _ _ _ _ _ _ _ _ _ _ _ _ _ _ _ _ _ _ _ _ _ _ _ _ _ _ _ _ _ _ _ _ _ _ _ _ _ _ _ _ _ _ _ _ _ _ _ _ _ _ _ _ _ _ _ _ _ _ _ _ _ _ _ _ _ _ _ _ _ _ _ _ _ _ _ _ _ _ _ _ _ _ _ _ _ _ _ _ _ _ _ _ _ _ _ _ _ _ _ _ _ _ _ _ _ _ _ _ _ _ _ _ _ _ _ _ _ _ _ _ _ _ _ _ _ _ _ _ _ _ _ _ _ _ _ _ _ _ _ _ _ _ _ _ _ _ _ _ _ _ _ _ _ _ _ _ _ _ _ _ _ _ _ _ _ _ _ _ _ _ _ _ _ _ _ _ _ _ _ _ _ _ _ _ _ _ _ _ _ _ _ _ _ _ _ _ _ _ _ _ _ _ _ _ _ _ _ _ _ _ _ _ _ _ _ _ _ _ _ _ _ _ _ _ _ _ _ _ _ _ _ _ _ _ _ _ _ _ _ _ _ _ _ _ _ _ _ _ _ _ _ _ _ _ _ _ _ _ _ ?hQ ?hX
          case hQ =>
            intros
            rename_i hrel
            go_wp2_with fail
            go_meet
            exact hrel
          case hX =>
            intros
            rename_i hm
            go_wp2_with fail
            go_roundg (l.length - (j + 1))
            case measure => omega
            case rel => exact ⟨j + 1, by omega, by go_num, la, rfl, hla0, by omega, hm⟩
        · refine act_k3 w2 wx za xb g cp j k la a l E M F e HIN.out HE.out HEE.out hk0 hla0 hla1 hz0 hlen h1 HSUM.out HAT.out HFA.out hkd _ (by rfl) _ _ _ _ _ _ _ _ _ _ _ _ _ _ _ _ _ _ _ _ _ _ _ _ _ _ _ _ _ _ _ _ _ _ _ _ _ _ _ _ _ _ _ _ _ _ _ _ _ _ _ _ _ _ _ _ _ _ _ _ _ _ _ _ _ _ _ _ _ _ _ _ _ _ _ _ _ _ _ _ _ _ _ _ _ _ _ _ _ _ _ _ _ _ _ _ _ _ _ _ _ _ _ _ _ _ _ _ _ _ _ _ _ _ _ _ _ _ _ _ _ _ _ _ _ _ _ _ _ _ _ _ _ _ _ _ _ _ _ _ _ _ _ _ _ _ _ _ _ _ _ _ _ _ _ _ _ _ _ _ _ _ _ _ _ _ _ _ _ _ _ _ _ _ _ _ _ _ _ _ _ _ _ _ _ _ _ _ _ _ _ _ _ _ _ _ _ _ _ _ _ _ _ _ _ _ _ _ _ _ _ _ _ _ _ _ _ _ _ _ _ _ _ _ _ _ _ _ _ _ _ _ _ _ _ _ _ _ _ _ _ _ _ _ _ _ _ _ _ _ _ _ _ _ _ _ _ _ _ _ _ _ ?hQ ?hX
          case hQ =>
            intros
            rename_i hrel
            go_wp2_with fail
            go_meet
            exact hrel
          case hX =>
            intros
            rename_i hm
            go_wp2_with fail
            go_roundg (l.length - (j + 1))
            case measure => omega
            case rel => exact ⟨j + 1, by omega, by go_num, la, rfl, hla0, by omega, hm⟩
        · refine act_k4 w2 wx za xb g cp j k la a l E M F e HIN.out HE.out HEE.out hk0 hla0 hla1 hz0 hlen h1 HSUM.out HAT.out HFA.out hkd _ (by rfl) _ _ _ _ _ _ _ _ _ _ _ _ _ _ _ _ _ _ _ _ _ _ _ _ _ _ _ _ _ _ _ _ _ _ _ _ _ _ _ _ _ _ _ _ _ _ _ _ _ _ _ _ _ _ _ _ _ _ _ _ _ _ _ _ _ _ _ _ _ _ _ _ _ _ _ _ _ _ _ _ _ _ _ _ _ _ _ _ _ _ _ _ _ _ _ _ _ _ _ _ _ _ _ _ _ _ _ _ _ _ _ _ _ _ _ _ _ _ _ _ _ _ _ _ _ _ _ _ _ _ _ _ _ _ _ _ _ _ _ _ _ _ _ _ _ _ _ _ _ _ _ _ _ _ _ _ _ _ _ _ _ _ _ _ _ _ _ _ _ _ _ _ _ _ _ _ _ _ _ _ _ _ _ _ _ _ _ _ _ _ _ _ _ _ _ _ _ _ _ _ _ _ _ _ _ _ _ _ _ _ _ _ _ _ _ _ _ _ _ _ _ _ _ _ _ _ _ _ _ _ _ _ _ _ _ _ _ _ _ _ _ _ _ _ _ _ _ _ _ _ _ _ _ _ _ _ _ _ _ _ _ _ ?hQ ?hX
          case hQ =>
            intros
            rename_i hrel
            go_wp2_with fail
            go_meet
            exact hrel
          case hX =>
            intros
            rename_i hm
            go_wp2_with fail
            go_roundg (l.length - (j + 1))
            case measure => omega
            case rel => exact ⟨j + 1, by omega, by go_num, la, rfl, hla0, by omega, hm⟩
        · refine act_k5 w2 wx za xb g cp j k la a l E M F e HIN.out HE.out HEE.out hk0 hla0 hla1 hz0 hlen h1 HSUM.out HAT.out HFA.out hkd _ (by rfl) _ _ _ _ _ _ _ _ _ _ _ _ _ _ _ _ _ _ _ _ _ _ _ _ _ _ _ _ _ _ _ _ _ _ _ _ _ _ _ _ _ _ _ _ _ _ _ _ _ _ _ _ _ _ _ _ _ _ _ _ _ _ _ _ _ _ _ _ _ _ _ _ _ _ _ _ _ _ _ _ _ _ _ _ _ _ _ _ _ _ _ _ _ _ _ _ _ _ _ _ _ _ _ _ _ _ _ _ _ _ _ _ _ _ _ _ _ _ _ _ _ _ _ _ _ _ _ _ _ _ _ _ _ _ _ _ _ _ _ _ _ _ _ _ _ _ _ _ _ _ _ _ _ _ _ _ _ _ _ _ _ _ _ _ _ _ _ _ _ _ _ _ _ _ _ _ _ _ _ _ _ _ _ _ _ _ _ _ _ _ _ _ _ _ _ _ _ _ _ _ _ _ _ _ _ _ _ _ _ _ _ _ _ _ _ _ _ _ _ _ _ _ _ _ _ _ _ _ _ _ _ _ _ _ _ _ _ _ _ _ _ _ _ _ _ _ _ _ _ _ _ _ _ _ _ _ _ _ _ _ _ _ ?hQ ?hX
          case hQ =>
            intros
            rename_i hrel
            go_wp2_with fail
            go_meet
            exact hrel
          case hX =>
            intros
            rename_i hm
            go_wp2_with fail
            go_roundg (l.length - (j + 1))
            case measure => omega
            case rel => exact ⟨j + 1, by omega, by go_num, la, rfl, hla0, by omega, hm⟩
        · refine act_k6 w2 wx za xb g cp j k la a l E M F e HIN.out HE.out HEE.out hk0 hla0 hla1 hz0 hlen h1 HSUM.out HAT.out HFA.out hkd _ (by rfl) _ _ _ _ _ _ _ _ _ _ _ _ _ _ _ _ _ _ _ _ _ _ _ _ _ _ _ _ _ _ _ _ _ _ _ _ _ _ _ _ _ _ _ _ _ _ _ _ _ _ _ _ _ _ _ _ _ _ _ _ _ _ _ _ _ _ _ _ _ _ _ _ _ _ _ _ _ _ _ _ _ _ _ _ _ _ _ _ _ _ _ _ _ _ _ _ _ _ _ _ _ _ _ _ _ _ _ _ _ _ _ _ _ _ _ _ _ _ _ _ _ _ _ _ _ _ _ _ _ _ _ _ _ _ _ _ _ _ _ _ _ _ _ _ _ _ _ _ _ _ _ _ _ _ _ _ _ _ _ _ _ _ _ _ _ _ _ _ _ _ _ _ _ _ _ _ _ _ _ _ _ _ _ _ _ _ _ _ _ _ _ _ _ _ _ _ _ _ _ _ _ _ _ _ _ _ _ _ _ _ _ _ _ _ _ _ _ _ _ _ _ _ _ _ _ _ _ _ _ _ _ _ _ _ _ _ _ _ _ _ _ _ _ _ _ _ _ _ _ _ _ _ _ _ _ _ _ _ _ _ _ _ ?hQ ?hX
          case hQ =>
            intros
            rename_i hrel
            go_wp2_with fail
            go_meet
            exact hrel
          case hX =>
            intros
            rename_i hm
            go_wp2_with fail
            go_roundg (l.length - (j + 1))
            case measure => omega
            case rel => exact ⟨j + 1, by omega, by go_num, la, rfl, hla0, by omega, hm⟩
      case rest =>
        obtain ⟨rfl, hn, la', rfl, hla2, hla3, E', M', F', g', cp', rfl, hE3, hE4, hW', hlv', hza', hnF', hzg', hz0'⟩ := hcut
        have HMID := Lib.hid (show Mid w2 w2.heap.size za l (j + 1) (.slice (some ⟨g', 0, none⟩) E'.length cp') wc from ⟨E', M', F', g', cp', rfl, hE3, hE4, hW', hlv', hza', hnF', hzg', hz0'⟩)
        have HW' := Lib.hid hW'
        clear hW' hlv' hnF' hzg' HW hza c0 c1 c2 c3 c4 c5 HLV
        have hzl' := World.block_lt_of_cell? _ _ hza'
        have hxl' := World.block_lt_of_cell? _ _ hn
        simp only at hzl' hxl'
        go_wp2_with fail
        go_loopg [241] E'.length (fun c2 i2 w5 => ∃ k2 : Nat, k2 + c2 = E'.length ∧ i2 = .int .i64 (k2 : Int) ∧ Below wc.heap.size wc w5)
        case atStart => exact ⟨0, by omega, rfl, Below.refl _ _⟩
        case round =>
          obtain ⟨k2, hk2, rfl, hb2⟩ := hrel
          have HB2 := Lib.hid hb2
          have hb3 := hb2
          by_cases h2 : k2 < E'.length
          · obtain ⟨e, he⟩ : ∃ e, E'[k2]? = some e := ⟨_, List.getElem?_eq_getElem h2⟩
            have hw5 := HW'.out.below hb2
            have r5 := row5 hw5.all he
            obtain ⟨a0, _⟩ := r5 0 _ (by decide) rfl
            obtain ⟨a1, _⟩ := r5 1 _ (by decide) rfl
            obtain ⟨a2, _⟩ := r5 2 _ (by decide) rfl
            obtain ⟨a3, _⟩ := r5 3 _ (by decide) rfl
            obtain ⟨a4, _⟩ := r5 4 _ (by decide) rfl
            rw [Nat.add_zero] at a0
            clear r5
            have hm := List.mem_of_getElem? he
            have HV := Lib.hid (hw5.vec e hm)
            have HL5 := Lib.hid (hw5.lone.alloc (.cells #[.int .i64 (e.v.n : Int), .int .i64 (e.v.root : Int), .int .i64 (e.v.tail : Int), e.s, .int .u32 e.ow] 34))
            have hbx : Below wr.heap.size wr (wr.alloc (.cells #[.int .i64 (e.v.n : Int), .int .i64 (e.v.root : Int), .int .i64 (e.v.tail : Int), e.s, .int .u32 e.ow] 34)) := (Below.refl _ wr).alloc (Nat.le_refl _) _
            have HR5 := Lib.hid ((hw5.row e hm).below hbx)
            have HBX := Lib.hid (hb2.trans (hbx.mono hb2.size))
            have hsz := hb2.size
            have hza5 := (hb2.cell (p := ⟨za, 0, none⟩) hzl').trans hza'
            have hn5 := (hb2.cell (p := ⟨xb, 2, none⟩) hxl').trans hn
            have hzl5 : za < wr.heap.size := by omega
            have hxl5 : xb < wr.heap.size := by omega
            have y3 : (0 : Int) ≤ (k2 : Int) := by omega
            have y4 : (k2 : Int) < (E'.length : Int) := by omega
            obtain ⟨A5, c5, e5, _⟩ := (hw5.row e hm).form
            clear hza' hn hzl' hxl' hb2 hb3 hsz hw5 hm he hbx
            obtain ⟨⟨vn, vr, vt⟩, l5, s5, ow⟩ := e
            simp only at e5
            subst e5
            go_wp2_with fail
            refine (vsame ⟨⟨vn, vr, vt⟩, l5, _, ow⟩ _ _ HL5.out.ar HV.out HR5.out).mono ?_
            rintro x w6 ⟨rfl, hb6⟩
            have HB6 := Lib.hid (HBX.out.trans (hb6.mono HBX.out.size))
            clear hb6
            go_wp2_with fail
            go_roundg (E'.length - (k2 + 1))
            case measure => omega
            case rel => exact ⟨k2 + 1, by omega, by go_num, HB6.out⟩
          · obtain rfl : k2 = E'.length := by omega
            clear hza' hn hzl' hxl' hb2 hb3
            go_wp2_with fail
            go_roundg (l.length - (j + 1))
            case measure => omega
            case rel => exact ⟨j + 1, by omega, by go_num, la', rfl, hla2, by omega, HMID.out.below HB2.out⟩
    · obtain rfl : j = l.length := by omega
      have HF0 := Lib.hid (show Fin6 w2 w2.heap.size za E g cp 0 wr from ⟨M, F, HW.out.lone, HW.out.bk, HW.out.all, hza, hnF, HW.out.own g rfl⟩)
      clear hnF HLV
      go_wp2_with fail
      go_loopg [256] E.length (fun c2 i2 w5 => ∃ k : Nat, k + c2 = E.length ∧ i2 = .int .i64 (k : Int) ∧ Fin6 w2 w2.heap.size za E g cp k w5)
      case atStart => exact ⟨0, by omega, rfl, HF0.out⟩
      case round =>
        obtain ⟨k, hk, rfl, hfin⟩ := hrel
        clear HF0 hza
        by_cases h2 : k < E.length
        · obtain ⟨e, he⟩ : ∃ e, E[k]? = some e := ⟨_, List.getElem?_eq_getElem h2⟩
          obtain ⟨M5, F5, L5, B5, O5, C5', n5, m5⟩ := hfin
          have r5 := row5 O5 he
          obtain ⟨a0, _⟩ := r5 0 _ (by decide) rfl
          obtain ⟨a1, _⟩ := r5 1 _ (by decide) rfl
          obtain ⟨a2, _⟩ := r5 2 _ (by decide) rfl
          obtain ⟨a3, _⟩ := r5 3 _ (by decide) rfl
          obtain ⟨a4, _⟩ := r5 4 _ (by decide) rfl
          rw [Nat.add_zero] at a0
          clear r5
          have y1 : (0 : Int) ≤ (k : Int) := by omega
          have y2 : (k : Int) < (E.length : Int) := by omega
          have hbd : Bk (65536 + 1) M5 [] (fun j => (holds (E.drop (k + 1))).count j) [e.v.root, e.v.tail] := B5.move (fun j _ => by rw [holds_drop he j]; omega) (fun x hx => by simp at hx)
          have hP : ∀ j, (holds (E.drop (k + 1))).count j ≤ 576460752303423488 := fun j => by
            have h1 : (holds (E.drop (k + 1))).count j ≤ (holds (E.drop (k + 1))).length := List.count_le_length
            rw [holds_length, List.length_drop] at h1
            omega
          have L6 := L5.alloc (.cells #[.int .i64 (e.v.n : Int), .int .i64 (e.v.root : Int), .int .i64 (e.v.tail : Int), e.s, .int .u32 e.ow] 34)
          have hdr := Lib.hid (drop_bk e.v _ L6.ar (by decide) hP hbd)
          have O6 := Lib.hid (O5.alloc (.cells #[.int .i64 (e.v.n : Int), .int .i64 (e.v.root : Int), .int .i64 (e.v.tail : Int), e.s, .int .u32 e.ow] 34))
          have HL6 := Lib.hid L6
          have C6 := Lib.hid (show (wr.alloc (.cells #[.int .i64 (e.v.n : Int), .int .i64 (e.v.root : Int), .int .i64 (e.v.tail : Int), e.s, .int .u32 e.ow] 34)).cell? ⟨za, 0, none⟩ = some (ap w2.heap.size) from (World.cell?_alloc_some _ _ _ (by rw [C5']; rfl)).trans C5')
          have N6 := Lib.hid (And.intro n5 m5)
          have HGL := Lib.hid (own_blk O5 g rfl)
          have HZL := Lib.hid (World.block_lt_of_cell? _ _ C5')
          clear L5 B5 O5 n5 m5 hbd hP L6
          obtain ⟨A5, c5, e5, _⟩ := (HW.out.row e (List.mem_of_getElem? he)).form
          obtain ⟨⟨vn, vr, vt⟩, l5, s5, ow⟩ := e
          simp only at e5
          subst e5
          have hzl := HZL.out
          go_wp2_with fail
          refine hdr.out.mono ?_
          rintro x w6 ⟨rfl, M6, hb6, hk6, hl6, hs6⟩
          have hfin6 : Fin6 w2 w2.heap.size za E g cp (k + 1) w6 := ⟨M6, _, HL6.out.step hs6.ar hs6.kp, hb6.move (fun j _ => by simp) (fun x hx => by simp at hx), hs6.kp.own O6.out (fun q hq => by
              have e : g = q := Option.some.inj hq
              exact e ▸ N6.out.2), hs6.kp.cell C6.out N6.out.1, fun hf => hf.elim N6.out.1 (fun hf => by
              have h3 := HZL.out
              have h4 := hf.1
              simp at h4
              omega), fun hf => hf.elim N6.out.2 (fun hf => by
              have h3 := HGL.out.2
              have h4 := hf.1
              simp at h4
              omega)⟩
          have HF6 := Lib.hid hfin6
          clear hb6 hk6 hl6 hs6 hfin6
          go_wp2_with fail
          go_roundg (E.length - (k + 1))
          case measure => omega
          case rel => exact ⟨k + 1, by omega, by go_num, HF6.out⟩
        · obtain rfl : k = E.length := by omega
          obtain ⟨M5, F5, L5, B5, O5, C5', n5, m5⟩ := hfin
          have HL5 := Lib.hid L5
          have hnone : live (65536 + 1) M5 = 0 := by
            have h3 := B5.ok
            rw [blank_nil, List.drop_length] at h3
            exact live_zero (h3.nobody fun i => by simp [holds])
          have HNN := Lib.hid hnone
          clear L5 B5 O5 hnone
          go_wp2_with fail
          refine (alive w2.heap.size 65536 M5 F5 _ HL5.out.ar).mono ?_
          rintro x w6 ⟨rfl, rfl⟩
          rw [HNN.out]
          go_wp2_with fail
          go_ret
          exact ⟨by rfl, (HG.out.1.trans (HG.out.2.1.mono HG.out.1.size)).trans (HL5.out.bel.mono (Nat.le_trans HG.out.1.size HG.out.2.1.size))⟩

end Go.Proofs.Ytgkhbnkbhcginaa
