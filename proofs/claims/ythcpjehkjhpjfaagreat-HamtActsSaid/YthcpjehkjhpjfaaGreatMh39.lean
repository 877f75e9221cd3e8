/- Several texts in one. -/
import Derived.Test.YthcpjehkjhpjfaaGreatMh33
import Derived.Test.YthcpjehkjhpjfaaGreatMh35
import Derived.Test.YthcpjehkjhpjfaaGreatMh37
import Derived.Test.YthcpjehkjhpjfaaGreatMh38
import Derived.IntWalk
import Derived.Deep.CutRange
import Derived.Deep.CutBlock
import Derived.Test.YthcpjehkjhpjfaaGreatMh11
set_option linter.unusedSimpArgs false
namespace Go.Proofs.YthcpjehkjhpjfaaGreat
set_option maxRecDepth 100000
set_option linter.unusedSimpArgs false
set_option linter.unusedVariables false
open Go.RowKit
theorem own_one4 (w : World) (base : Nat) (o : Obj) (t : TypeId) (hb : base ≤ w.heap.size) : ((w.alloc (.cells #[.int .i64 0, .int .i64 0, .slice none 0 0, .int .u32 0] t)).alloc o).ownsRow base t 4 (.slice (some ⟨w.heap.size, 0, none⟩) 1 1) 1 ([(⟨0, [], .slice none 0 0, 0⟩ : En)].flatMap cells4) := by
  refine (Kp.of_below ((Below.refl _ (w.alloc (.cells #[.int .i64 0, .int .i64 0, .slice none 0 0, .int .u32 0] t))).alloc (Nat.le_refl _) o) (fun _ => False)).own ?_ (fun _ _ h => h)
  exact ⟨rfl, .inr ⟨w.heap.size, 1, _, rfl, hb, heap_alloc_new w _, Nat.le_refl _, by unfold maxLen; decide, rfl, rfl⟩⟩
section
theorem lact8 {w0 W : World} {b bh seed zw g cp : Nat} {hs : Ky → Nat} {M : Cells} {F : Nat → Prop} {last : Int} {E : List En} (h : Wd w0 W b bh seed zw hs M F (.slice (some ⟨g, 0, none⟩) E.length cp) last E) (hhs : ∀ q, OkK q → hs q = hashN seed q.1 q.2.1 q.2.2) (a : Ac) (hf : a.Fits) (hk : OkK a.k) (hlv : live (65536 + 1) M + 640 ≤ 65536) (hE : 1 ≤ E.length ∧ E.length ≤ 10) :
    Calls Tryz.prog 17 #[.pointer (some ⟨zw, 0, none⟩), .agg #[.int .u8 a.kd, .int .i64 a.i, .int .i64 a.n, .int .u8 a.k.1, .int .i64 a.k.2.1, .string a.k.2.2, .int .u8 a.v.1, .int .i64 a.v.2.1, .string a.v.2.2]] W fun x W' => x = .returned (.bool true) ∧ Acted w0 W W' b bh seed zw hs M F g E := by
  have h0 : 0 ≤ a.kd := hf.1.1
  have h2 : a.kd.tmod 8 = 0 ∨ a.kd.tmod 8 = 1 ∨ a.kd.tmod 8 = 2 ∨ a.kd.tmod 8 = 3 ∨ a.kd.tmod 8 = 4 ∨ a.kd.tmod 8 = 5 ∨ a.kd.tmod 8 = 6 ∨ a.kd.tmod 8 = 7 := by
    rw [Int.tmod_eq_emod_of_nonneg h0]
    omega
  rcases h2 with e | e | e | e | e | e | e | e
  · exact lact0 h hhs a hf hk e hlv hE
  · exact lact1 h hhs a hf hk e hlv hE
  · exact lact2 h hhs a hf hk e hlv hE
  · exact lact3 h hhs a hf hk e hlv hE
  · exact lact4 h hhs a hf hk e hlv hE
  · exact lact5 h hhs a hf hk e hlv hE
  · exact lact6 h hhs a hf hk e hlv hE
  · exact lact7 h hhs a hf hk e hlv hE
structure Fin8 (w W : World) (b bh seed zw g cp : Nat) (last : Int) (E : List En) (j : Nat) (M : Cells) (F : Nat → Prop) : Prop where
  ar : Ar W b 65536 M F
  bk : Bk (65536 + 1) M [] (fun _ => 0) (holds (E.drop j))
  bel : Below w.heap.size w W
  wb : C5 W zw 40 (ap b) (.pointer (some ⟨bh, 0, none⟩)) (.int .u64 (seed : Nat)) (.slice (some ⟨g, 0, none⟩) E.length cp) (.int .u32 last)
  all : W.ownsRow w.heap.size 37 4 (.slice (some ⟨g, 0, none⟩) E.length cp) E.length (E.flatMap cells4)
  fr : ∀ q, F q → w.heap.size ≤ q ∧ q ≠ zw ∧ q ≠ g
theorem Fin8.below {w W W' : World} {b bh seed zw g cp j : Nat} {last : Int} {E : List En} {M : Cells} {F : Nat → Prop} (h : Fin8 w W b bh seed zw g cp last E j M F) (hb : Below W.heap.size W W') : Fin8 w W' b bh seed zw g cp last E j M F :=
  ⟨h.ar.below hb, h.bk, h.bel.trans (hb.mono h.bel.size), h.wb.below hb, (Kp.of_below hb (fun _ => False)).own h.all (fun _ _ h => h), h.fr⟩
theorem Fin8.next {w W W' : World} {b bh seed zw g cp j : Nat} {last : Int} {E : List En} {M M' : Cells} {F : Nat → Prop} (h : Fin8 w W b bh seed zw g cp last E j M F) (hs : Stp W W' b 65536 M' F) (hb : Bk (65536 + 1) M' [] (fun k => (holds (E.drop (j + 1))).count k) []) : Fin8 w W' b bh seed zw g cp last E (j + 1) M' (Fn F W W') := by
  have hzl := h.wb.lt
  have hgl := (own_blk h.all g rfl).2
  exact ⟨hs.ar, hb.move (fun k _ => by simp) (fun x hx => by simp at hx), below_kp h.bel hs.kp (fun q hq => (h.fr q hq).1), h.wb.kp hs.kp (fun hq => (h.fr _ hq).2.1 rfl), hs.kp.own h.all (fun q hq hf => (h.fr q hf).2.2 (Option.some.inj hq).symm), fun q hq => hq.elim (h.fr q) (fun e => ⟨Nat.le_trans h.bel.size e.1, by omega, by omega⟩)⟩
set_option maxHeartbeats 8000000 in
theorem walkA8 (seed : Nat) (A : Option Addr) (l : List Ac) (c : Nat) (w : World) (h : Acts w A l) (hf : ∀ a ∈ l, a.Fits) (hl : l.length ≤ 140737488355328) :
    Calls Tryz.prog 3 #[.int .u64 (seed : Nat), .slice A l.length c] w fun e w' => e = .returned (.bool true) ∧ Below w.heap.size w w' := by
  obtain ⟨hs, hhs⟩ : ∃ hs : Ky → Nat, ∀ q, OkK q → hs q = hashN seed q.1 q.2.1 q.2.2 := ⟨fun q => hashN seed q.1 q.2.1 q.2.2, fun _ _ => rfl⟩
  have HHS := Lib.hid hhs
  have HACT := Lib.hid h
  have HF := Lib.hid hf
  have HL := Lib.hid hl
  clear h hf hhs hl
  go_enter Tryz.func3, Tryz.ntmps3
  go_wp2_with fail
  refine (llives w).mono ?_
  rintro e w1 ⟨rfl, hb1⟩
  have HB1 := Lib.hid hb1
  clear hb1
  go_wp2_with fail
  refine (vfits A l c w1 (HACT.out.below HB1.out) HF.out HL.out).mono ?_
  rintro e w2 ⟨rfl, hb2⟩
  have HB2 := Lib.hid (HB1.out.trans (hb2.mono HB1.out.size))
  clear hb2 HB1
  cases hyes : fitsB l
  · go_wp2_with fail
    refine (llives w2).mono ?_
    rintro e w3 ⟨rfl, hb3⟩
    have HB3 := Lib.hid (HB2.out.trans (hb3.mono HB2.out.size))
    clear hb3
    go_wp2_with fail
    go_ret
    exact ⟨rfl, HB3.out⟩
  · have HLEN := Lib.hid (show l.length ≤ 40 by
      unfold fitsB at hyes
      simp only [Bool.and_eq_true, decide_eq_true_eq] at hyes
      exact hyes.2)
    have HALL := Lib.hid (show ∀ a ∈ l, OkK a.k from fun a ha => by
      unfold fitsB at hyes
      simp only [Bool.and_eq_true, decide_eq_true_eq, List.all_eq_true] at hyes
      have h1 := hyes.1 a ha
      unfold actB at h1
      simp only [Bool.and_eq_true, decide_eq_true_eq] at h1
      have h2 := (HF.out a ha).2.1
      exact ⟨h2.1.1, h2.1.2, by have := h1.1; omega⟩)
    clear hyes
    go_wp2_with fail
    refine (lland seed 65536 w2 (by decide) (by decide)).mono ?_
    rintro e w3 ⟨b, bh, rfl, ha, hh, hne, hbb, hbh, hbl⟩
    have HLD := Lib.hid (And.intro ha (And.intro hh (And.intro hne (And.intro hbb (And.intro hbh hbl)))))
    clear ha hh hne hbb hbh hbl
    go_upto_region 4 with fail
    have hb5 : Below w.heap.size w ((w3.alloc (.cells #[.int .i64 0, .int .i64 0, .slice none 0 0, .int .u32 0] 37)).alloc (.cells #[ap b, .pointer (some ⟨bh, 0, none⟩), .int .u64 (seed : Nat), .slice (some ⟨w3.heap.size, 0, none⟩) 1 1, .int .u32 0] 40)) := by
      have h3 := HB2.out.trans (HLD.out.2.2.2.2.2.mono HB2.out.size)
      exact (h3.alloc h3.size _).alloc (by have := h3.size; simp; omega) _
    have wd0 : Wd w ((w3.alloc (.cells #[.int .i64 0, .int .i64 0, .slice none 0 0, .int .u32 0] 37)).alloc (.cells #[ap b, .pointer (some ⟨bh, 0, none⟩), .int .u64 (seed : Nat), .slice (some ⟨w3.heap.size, 0, none⟩) 1 1, .int .u32 0] 40)) b bh seed (w3.heap.size + 1) hs (fun _ => none) (fun k => k = b) (.slice (some ⟨w3.heap.size, 0, none⟩) 1 1) 0 [⟨0, [], .slice none 0 0, 0⟩] := by
      obtain ⟨ha, hh, hne, hbb, hbh, hbl⟩ := HLD.out
      have hs2 := HB2.out.size
      have hs3 := hbl.size
      have hal := ha.blt
      have hhl := hh.lt
      have hC5 := C5.new (w3.alloc (.cells #[.int .i64 0, .int .i64 0, .slice none 0 0, .int .u32 0] 37)) 40 (ap b) (.pointer (some ⟨bh, 0, none⟩)) (.int .u64 (seed : Nat)) (.slice (some ⟨w3.heap.size, 0, none⟩) 1 1) (.int .u32 0)
      refine ⟨(ha.alloc _).alloc _, (hh.alloc _).alloc _, fun e => hne e.symm, fun q e => by omega, hb5, ⟨by omega, by omega, by omega, fun e => by omega⟩, by simpa using hC5, bk0 65536, fun e he => ?_, fun e he q hq => ?_, fun e he => ?_, fun e he => ?_, fun e he q hq => ?_, ?_, fun q hq => ?_⟩
      · obtain rfl : e = ⟨0, [], .slice none 0 0, 0⟩ := by simpa using he
        exact .inl ⟨rfl, rfl⟩
      · obtain rfl : e = ⟨0, [], .slice none 0 0, 0⟩ := by simpa using he
        cases hq
      · obtain rfl : e = ⟨0, [], .slice none 0 0, 0⟩ := by simpa using he
        exact Nat.zero_le _
      · obtain rfl : e = ⟨0, [], .slice none 0 0, 0⟩ := by simpa using he
        exact World.ownsRow_nil _ _ _ _
      · obtain rfl : e = ⟨0, [], .slice none 0 0, 0⟩ := by simpa using he
        cases hq
      · exact own_one4 w3 w.heap.size _ _ (by omega)
      · have e1 : w3.heap.size = q := Option.some.inj hq
        omega
    generalize (w3.alloc (.cells #[.int .i64 0, .int .i64 0, .slice none 0 0, .int .u32 0] 37)).alloc (.cells #[ap b, .pointer (some ⟨bh, 0, none⟩), .int .u64 (seed : Nat), .slice (some ⟨w3.heap.size, 0, none⟩) 1 1, .int .u32 0] 40) = w5 at wd0 ⊢
    obtain ⟨zw, hzw⟩ : ∃ z, z = w3.heap.size + 1 := ⟨_, rfl⟩
    rw [← hzw] at wd0 ⊢
    clear hzw hb5 HLD
    have W0 := Lib.hid wd0
    clear wd0
    go_wp2_with fail
    go_loopg [29] l.length (fun c' s29 wr => ∃ j : Nat, j + c' = l.length ∧ s29 = .int .i64 (j : Int) ∧ ∃ (g cp : Nat) (M : Cells) (F : Nat → Prop) (last : Int) (E : List En), Wd w wr b bh seed zw hs M F (.slice (some ⟨g, 0, none⟩) E.length cp) last E ∧ 1 ≤ E.length ∧ E.length ≤ 10 ∧ live (65536 + 1) M ≤ 640 * j)
    case atStart => exact ⟨0, by omega, rfl, w3.heap.size, 1, fun _ => none, fun k => k = b, 0, [⟨0, [], .slice none 0 0, 0⟩], W0.out, by decide, by decide, by rw [live_zero fun _ => rfl]; exact Nat.zero_le _⟩
    case round =>
      clear W0
      obtain ⟨j, hj, rfl, g, cp, M, F, last, E, wd, hE1, hE2, hlv⟩ := hrel
      have WD := Lib.hid wd
      have HEE := Lib.hid (And.intro hE1 (And.intro hE2 hlv))
      clear wd hE1 hE2 hlv
      by_cases h1 : j < l.length
      · obtain ⟨a, hat⟩ : ∃ a, l[j]? = some a := ⟨_, List.getElem?_eq_getElem h1⟩
        obtain ⟨gA, oA, rfl, c0, c1, c2, c3, c4, c5, c6, c7, c8⟩ := (HACT.out.below WD.out.bel).at hat
        have y1 : (0 : Int) ≤ (j : Int) := by omega
        have y2 : (j : Int) < (l.length : Int) := by omega
        have HFA := Lib.hid (HF.out a (List.mem_of_getElem? hat))
        have HKA := Lib.hid (HALL.out a (List.mem_of_getElem? hat))
        have HJ := Lib.hid (And.intro hj h1)
        clear hat hj h1
        go_upto_region 7 with fail
        have wd7 := WD.out.below ((Below.refl _ wr).alloc (Nat.le_refl _) (.cells #[.int .u8 a.kd, .int .i64 a.i, .int .i64 a.n, .int .u8 a.k.1, .int .i64 a.k.2.1, .string a.k.2.2, .int .u8 a.v.1, .int .i64 a.v.2.1, .string a.v.2.2] 45))
        have q7 := C9.new wr a
        have hzr : zw < wr.heap.size := WD.out.wb.lt
        have hgr : g < wr.heap.size := (own_blk WD.out.all g rfl).2
        have hbr : bh < wr.heap.size := WD.out.hh.lt
        have hFr : ∀ q, F q → q < wr.heap.size := fun q hq => WD.out.ar.lt hq
        generalize wr.alloc (.cells #[.int .u8 a.kd, .int .i64 a.i, .int .i64 a.n, .int .u8 a.k.1, .int .i64 a.k.2.1, .string a.k.2.2, .int .u8 a.v.1, .int .i64 a.v.2.1, .string a.v.2.2] 45) = W7 at wd7 q7 ⊢
        obtain ⟨z7, hz7⟩ : ∃ z, z = wr.heap.size := ⟨_, rfl⟩
        rw [← hz7] at q7 hzr hgr hbr hFr ⊢
        have H7 := Lib.hid (And.intro wd7 (And.intro q7 (And.intro hzr (And.intro hgr (And.intro hbr hFr)))))
        obtain ⟨b0, b1, b2, b3, b4, b5, b6, b7, b8⟩ := And.intro q7.c0 (And.intro q7.c1 (And.intro q7.c2 (And.intro q7.c3 (And.intro q7.c4 (And.intro q7.c5 (And.intro q7.c6 (And.intro q7.c7 q7.c8)))))))
        clear hz7 wd7 q7 hzr hgr hbr hFr c0 c1 c2 c3 c4 c5 c6 c7 c8
        go_wp2_with fail
        refine (lact8 H7.out.1 HHS.out a HFA.out HKA.out (by have := HEE.out.2.2; have := HLEN.out; have := HJ.out.2; omega) (And.intro HEE.out.1 HEE.out.2.1)).mono ?_
        rintro x W8 ⟨rfl, g8, cp8, M8, F8, last8, E8, wd8, hE81, hE82, hl8, hk8, hf8⟩
        have q8 : C9 W8 z7 a := hk8.at H7.out.2.1 (fun hq => by
          obtain ⟨_, _, s1, s2, s3, s4⟩ := H7.out
          rcases hq with hq | hq | hq | hq
          · have := s4 _ hq; omega
          · omega
          · omega
          · omega)
        have H8 := Lib.hid (And.intro wd8 (And.intro q8 (And.intro hE81 (And.intro hE82 (show live (65536 + 1) M8 ≤ 640 * (j + 1) by have := HEE.out.2.2; omega)))))
        clear b0 b1 b2 b3 b4 b5 b6 b7 b8 wd8 q8 hE81 hE82 hl8 hk8 hf8
        have x3 := H8.out.1.wb.c3
        go_wp2_with fail
        clear x3
        go_loopg [42] E8.length (fun c' s42 wq => ∃ i : Nat, i + c' = E8.length ∧ s42 = .int .i64 (i : Int) ∧ Wd w wq b bh seed zw hs M8 F8 (.slice (some ⟨g8, 0, none⟩) E8.length cp8) last8 E8 ∧ C9 wq z7 a)
        case atStart => exact ⟨0, by omega, rfl, H8.out.1, H8.out.2.1⟩
        case round =>
          obtain ⟨i, hi, rfl, wd9, q9⟩ := hrel
          have H9 := Lib.hid (And.intro wd9 q9)
          by_cases h2 : i < E8.length
          · obtain ⟨e, he⟩ : ∃ e, E8[i]? = some e := ⟨_, List.getElem?_eq_getElem h2⟩
            obtain ⟨r0, r1, r2, r3, _⟩ := row4 wd9.all he
            obtain ⟨As, cs, hes, _⟩ := (Rd.of_own (wd9.row e (List.mem_of_getElem? he))).form
            have z1 : (0 : Int) ≤ (i : Int) := by omega
            have z2 : (i : Int) < (E8.length : Int) := by omega
            have hgl := (own_blk wd9.all g8 rfl).2
            have h7l := q9.lt
            have HES := Lib.hid hes
            have HI := Lib.hid (And.intro hi h2)
            have HEM := Lib.hid (List.mem_of_getElem? he)
            have wdA := wd9.below ((Below.refl _ wr).alloc (Nat.le_refl _) (.cells #[.int .i64 (e.l.length : Int), .int .i64 (e.root : Int), e.s, .int .u32 e.ow] 37))
            have qA := q9.below ((Below.refl _ wr).alloc (Nat.le_refl _) (.cells #[.int .i64 (e.l.length : Int), .int .i64 (e.root : Int), e.s, .int .u32 e.ow] 37))
            have cA := C4.new wr 37 (.int .i64 (e.l.length : Int)) (.int .i64 (e.root : Int)) e.s (.int .u32 e.ow)
            rw [hes] at r2
            clear hes wd9 q9 he hi h2
            go_upto_region 12 with fail
            rw [← HES.out]
            generalize wr.alloc (.cells #[.int .i64 (e.l.length : Int), .int .i64 (e.root : Int), e.s, .int .u32 e.ow] 37) = WA at wdA qA cA ⊢
            generalize wr.heap.size = z9 at cA ⊢
            clear r0 r1 r2 r3 hgl h7l z1 z2 H9
            have HA := Lib.hid (And.intro wdA qA)
            obtain ⟨p0, p1, p2, p3, _⟩ := cA.all
            have k0 := qA.c3
            have k1 := qA.c4
            have k2 := qA.c5
            clear wdA qA cA
            go_wp2_with fail
            refine (lsame8 HA.out.1 HHS.out e HEM.out a.k HKA.out).mono ?_
            rintro x WB ⟨rfl, hkB, hhB⟩
            have HB := Lib.hid (show Wd w WB b bh seed zw hs M8 F8 (.slice (some ⟨g8, 0, none⟩) E8.length cp8) last8 E8 ∧ C9 WB z7 a from ⟨HA.out.1.hash hkB hhB, hkB.at HA.out.2 (fun e => by have := H7.out.2.2.2.2.1; omega)⟩)
            clear hkB hhB p0 p1 p2 p3 k0 k1 k2
            have hw1 : IntKind.i64.wrap ((i : Int) + 1) = (i : Int) + 1 := IntWalk.i64_in _ (by have := HI.out; have := H8.out.2.2.2.1; omega)
            have hw2 : wrap64 ((i : Int) + 1) = (i : Int) + 1 := IntWalk.wrap64_in _ (by have := HI.out; have := H8.out.2.2.2.1; omega)
            go_wp2_with fail
            go_roundg (E8.length - (i + 1))
            case measure => have := HI.out; omega
            case rel => exact ⟨i + 1, by have := HI.out; omega, by go_num, HB.out⟩
          · obtain rfl : i = E8.length := by omega
            clear wd9 q9
            have hw1 : IntKind.i64.wrap ((j : Int) + 1) = (j : Int) + 1 := IntWalk.i64_in _ (by have := HJ.out; have := HLEN.out; omega)
            have hw2 : wrap64 ((j : Int) + 1) = (j : Int) + 1 := IntWalk.wrap64_in _ (by have := HJ.out; have := HLEN.out; omega)
            go_wp2_with fail
            go_roundg (l.length - (j + 1))
            case measure => have := HJ.out; omega
            case rel => exact ⟨j + 1, by have := HJ.out; omega, by go_num, g8, cp8, M8, F8, last8, E8, H9.out.1, H8.out.2.2.1, H8.out.2.2.2.1, H8.out.2.2.2.2⟩
      · obtain rfl : j = l.length := by omega
        have fn0 : Fin8 w wr b bh seed zw g cp last E 0 M F := by
          have wd := WD.out
          exact ⟨wd.ar, wd.bk, wd.bel, wd.wb, wd.all, fun q hq => ⟨wd.fr q hq, fun e => wd.lo.2.2.2 (e ▸ hq), fun e => (wd.own g rfl).1 (e ▸ hq)⟩⟩
        have FN0 := Lib.hid fn0
        have HROW := Lib.hid (show ∀ e ∈ E, ∃ As cs, e.s = .slice As e.l.length cs from fun e he => by
          obtain ⟨As, cs, h, _⟩ := (Rd.of_own (WD.out.row e he)).form
          exact ⟨As, cs, h⟩)
        clear fn0 WD
        have x3 := FN0.out.wb.c3
        go_wp2_with fail
        clear x3
        go_loopg [59] E.length (fun c' s59 wq => ∃ i : Nat, i + c' = E.length ∧ s59 = .int .i64 (i : Int) ∧ ∃ M9 F9, Fin8 w wq b bh seed zw g cp last E i M9 F9)
        case atStart => exact ⟨0, by omega, rfl, _, _, FN0.out⟩
        case round =>
          clear FN0
          obtain ⟨i, hi, rfl, M9, F9, fn⟩ := hrel
          by_cases h2 : i < E.length
          · obtain ⟨e, he⟩ : ∃ e, E[i]? = some e := ⟨_, List.getElem?_eq_getElem h2⟩
            obtain ⟨r0, r1, r2, r3, _⟩ := row4 fn.all he
            obtain ⟨As, cs, hes⟩ := HROW.out e (List.mem_of_getElem? he)
            have z1 : (0 : Int) ≤ (i : Int) := by omega
            have z2 : (i : Int) < (E.length : Int) := by omega
            have hgl := (own_blk fn.all g rfl).2
            have HI := Lib.hid (And.intro hi h2)
            have HES := Lib.hid hes
            have HEI := Lib.hid he
            have fnA := fn.below ((Below.refl _ wr).alloc (Nat.le_refl _) (.cells #[.int .i64 (e.l.length : Int), .int .i64 (e.root : Int), e.s, .int .u32 e.ow] 37))
            have cA := C4.new wr 37 (.int .i64 (e.l.length : Int)) (.int .i64 (e.root : Int)) e.s (.int .u32 e.ow)
            have hFz : ∀ q, F9 q → q < wr.heap.size := fun q hq => fn.ar.lt hq
            have HFZ := Lib.hid hFz
            rw [hes] at r2
            clear hes he hi h2 fn hFz
            go_upto_region 19 with fail
            rw [← HES.out]
            generalize wr.alloc (.cells #[.int .i64 (e.l.length : Int), .int .i64 (e.root : Int), e.s, .int .u32 e.ow] 37) = WA at fnA cA ⊢
            generalize wr.heap.size = zb at cA HFZ ⊢
            clear r0 r1 r2 r3 hgl z1 z2
            have l0 : ∀ W', (C5 W' zw 40 (ap b) (.pointer (some ⟨bh, 0, none⟩)) (.int .u64 (seed : Nat)) (.slice (some ⟨g, 0, none⟩) E.length cp) (.int .u32 last) ∧ C4 W' zb 37 (.int .i64 (e.l.length : Int)) (.int .i64 (e.root : Int)) e.s (.int .u32 e.ow)) → W'.cell? ⟨zw, 0, none⟩ = some (ap b) := fun W' h => h.1.c0
            have o1 : ∀ W', (C5 W' zw 40 (ap b) (.pointer (some ⟨bh, 0, none⟩)) (.int .u64 (seed : Nat)) (.slice (some ⟨g, 0, none⟩) E.length cp) (.int .u32 last) ∧ C4 W' zb 37 (.int .i64 (e.l.length : Int)) (.int .i64 (e.root : Int)) e.s (.int .u32 e.ow)) → W'.cell? ⟨zb, 1, none⟩ = some (.int .i64 (e.root : Int)) := fun W' h => h.2.c1
            refine wp_region_noPanic ?_
            have hd : Below WA.heap.size WA WA.drew := (Below.refl _ WA).drew
            have fnB := fnA.below hd
            have cB := cA.below hd
            refine wp_region_held_drew (S := fun W' => (C5 W' zw 40 (ap b) (.pointer (some ⟨bh, 0, none⟩)) (.int .u64 (seed : Nat)) (.slice (some ⟨g, 0, none⟩) E.length cp) (.int .u32 last) ∧ C4 W' zb 37 (.int .i64 (e.l.length : Int)) (.int .i64 (e.root : Int)) e.s (.int .u32 e.ow))) (by kernel_rfl) ⟨fnB.wb, cB⟩ (fun hH => ?_)
            clear hd fnA cA
            generalize WA.drew = Wc at fnB cB hH ⊢
            refine tkH ?_ 0 hH ?_ ?_; rotate_left
            · intro W' hS; go_simp; with_reducible rfl
            simp only [tkr]
            refine tkH ?_ 1 hH ?_ ?_; rotate_left
            · intro W' hS; go_simp; with_reducible rfl
            simp only [tkr]
            refine tkH ?_ 2 hH ?_ ?_; rotate_left
            · intro W' hS; go_simp; with_reducible rfl
            simp only [tkr]
            refine tkH ?_ 3 hH ?_ ?_; rotate_left
            · intro W' hS; go_simp; with_reducible rfl
            simp only [tkr]
            refine tkH ?_ 4 hH ?_ ?_; rotate_left
            · intro W' hS; go_simp; with_reducible rfl
            simp only [tkr]
            refine tkH ?_ 5 hH ?_ ?_; rotate_left
            · intro W' hS; go_simp; with_reducible rfl
            simp only [tkr]
            refine tkH ?_ 6 hH ?_ ?_; rotate_left
            · intro W' hS; go_simp; with_reducible rfl
            simp only [tkr]
            refine tkH ?_ 7 hH ?_ ?_; rotate_left
            · intro W' hS; go_simp; with_reducible rfl
            simp only [tkr]
            refine rdH 8 rfl (fun K hK => ?_)
            go_simp
            have hdr : E.drop i = e :: E.drop (i + 1) := by
              obtain ⟨hlt, rfl⟩ := List.getElem?_eq_some_iff.1 HEI.out
              exact List.drop_eq_getElem_cons hlt
            have hbk : Bk (65536 + 1) M9 [] (fun k => (holds (E.drop (i + 1))).count k) [e.root] := fnB.bk.move (fun k _ => by
              rw [hdr]
              show 0 + ([e.root] ++ holds (E.drop (i + 1))).count k = _
              rw [List.count_append]; omega) (fun x hx => by simp at hx)
            have hP : ∀ k, (holds (E.drop (i + 1))).count k ≤ 576460752303423488 := fun k => by
              have h1 : (holds (E.drop (i + 1))).count k ≤ (holds (E.drop (i + 1))).length := List.count_le_length
              have h2 : (holds (E.drop (i + 1))).length ≤ E.length := by unfold holds; rw [List.length_map, List.length_drop]; omega
              have := HEE.out.2.1
              omega
            refine (drop1_bk e.root Wc fnB.ar (by decide) hP hbk).mono ?_
            rintro x Wd ⟨⟨zz, rfl⟩, M3, hb3, hk3, hl3, hs3⟩
            have fnC := fnB.next hs3 hb3
            have cC := cB.kp hs3.kp (fun hq => by have := HFZ.out zb hq; omega)
            clear hdr hbk hP hb3 hk3 hl3 hs3 fnB cB
            simp only
            refine hK.out _ _ ?_ (fun hH => ?_)
            · exact ⟨fnC.wb, cC⟩
            clear hK K hH
            refine wpAnyH_done (by kernel_rfl) ?_ _
            refine NoPanic.normal ?_
            have FC := Lib.hid fnC
            clear l0 o1 fnC cC
            have hw1 : IntKind.i64.wrap ((i : Int) + 1) = (i : Int) + 1 := IntWalk.i64_in _ (by have := HI.out; have := HEE.out.2.1; omega)
            have hw2 : wrap64 ((i : Int) + 1) = (i : Int) + 1 := IntWalk.wrap64_in _ (by have := HI.out; have := HEE.out.2.1; omega)
            go_wp2_with fail
            go_roundg (E.length - (i + 1))
            case measure => have := HI.out; omega
            case rel => exact ⟨i + 1, by have := HI.out; omega, by go_num, _, _, FC.out⟩
          · obtain rfl : i = E.length := by omega
            have FC := Lib.hid fn
            have x0 := fn.wb.c0
            clear fn
            go_wp2_with fail
            refine (alive b 65536 M9 F9 wr FC.out.ar).mono ?_
            rintro x wx ⟨rfl, rfl⟩
            have hlv : live (65536 + 1) M9 = 0 := by
              have hb := FC.out.bk
              rw [List.drop_length] at hb
              have ho := hb.ok.congr (own' := fun _ => 0) (fun k _ => by simp [holds])
              have hno := ho.nobody (fun _ => rfl)
              refine live_zero (fun j => ?_)
              have := hno j
              rwa [blank_nil] at this
            rw [hlv]
            clear hlv x0
            go_wp2_with fail
            go_ret
            exact ⟨rfl, FC.out.bel⟩
end
end Go.Proofs.YthcpjehkjhpjfaaGreat
