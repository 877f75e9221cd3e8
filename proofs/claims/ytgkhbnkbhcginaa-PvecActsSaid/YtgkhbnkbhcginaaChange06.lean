/- Layer 6's law: change: one of the vectors is another from now on, or nothing is. -/
import Derived.Test.YtgkhbnkbhcginaaEn06
namespace Go.Proofs.Ytgkhbnkbhcginaa
open Go.RowKit

/-- What a change's function owes. -/
def Does (w : World) (b : Nat) (M : Cells) (F : Nat → Prop) (P : Nat → Nat) (e : En) (l2 : Vs) (want : Int) (f : FuncId) (caps : Array Value) : Prop :=
  ∀ W, Below w.heap.size w W → Calls Try.prog f (#[eagg e] ++ caps) W fun x W' =>
    (want = 0 ∧ ∃ v' M', x = .returned (.tuple #[vagg v', .int .i64 0]) ∧ VRes 65536 M P e.v e.ow 2 v' l2 M' ∧ Stp W W' b 65536 M' F) ∨ (¬ want = 0 ∧ x = .returned (.tuple #[vagg ⟨0, 0, 0⟩, .int .i64 want]) ∧ Below W.heap.size W W')
/-- What it has come to. -/
structure Did (w0 w w' : World) (b : Nat) (M : Cells) (F : Nat → Prop) (sa : Value) (E : List En) (k g : Nat) (e : En) (l2 : Vs) (s2 : Value) (want : Int) : Prop where
  ex : ∃ M' F' E', Wd w0 w' b M' F' sa E' ∧ Kp (fun q => F q ∨ q = g) w w' ∧ (∀ q, F' q → F q ∨ w.heap.size ≤ q) ∧ live (65536 + 1) M' ≤ live (65536 + 1) M + 2 ∧ (if want = 0 then ∃ v', E' = E.set k ⟨v', l2, s2, e.ow⟩ else E' = E)
theorem outP_own {P : Nat → Nat} {v : Vc} {ow : Int} (h : ¬ ow = 0) : outP P v ow = P := by unfold outP; rw [if_neg h]
section
variable {w0 : World} {b : Nat} {M : Cells} {F : Nat → Prop} {E : List En}
theorem row5 {W : World} {base t g n cp k : Nat} {e : En} (h : W.ownsRow base t 5 (.slice (some ⟨g, 0, none⟩) n cp) n (E.flatMap cells5)) (hk : E[k]? = some e) :
    (∀ i u, i < 5 → (cells5 e)[i]? = some u → W.cell? ⟨g, k * 5 + i, none⟩ = some u ∧ W.frozen? ⟨g, k * 5 + i, none⟩ = false) := fun i u hi hu => by
  obtain ⟨g', c', e1, _, h1, h2⟩ := own_at h (j := k * 5 + i) (u := u) (by rw [flat5_at hk i hi]; exact hu)
  simp only [Value.slice.injEq, Option.some.injEq, Addr.mk.injEq, and_true, true_and] at e1
  obtain ⟨rfl, _⟩ := e1
  exact ⟨h1, h2⟩
theorem did_put {w w3 : World} {g cp k : Nat} {e : En} {l2 : Vs} {s2 : Value} {v' : Vc} {M3 : Cells} {F3 : Nat → Prop} (h : Wd w0 w b M F (.slice (some ⟨g, 0, none⟩) E.length cp) E) (hk : E[k]? = some e) (RN : Rn w w3 b 65536 M3 F F3)
    (hbk : Bk (65536 + 1) M3 [] (fun j => (holds (E.eraseIdx k)).count j) [v'.root, v'.tail]) (hks : Keeps (fun j => (holds (E.eraseIdx k)).count j) M M3) (hv : VecIs M3 v' l2) (hs2 : Rd w s2 l2.length (l2.flatMap cells3)) (hf2 : ∀ q, s2.ownBlock = some q → ¬ F q ∧ q < w.heap.size ∧ q ≠ g) (hl : live (65536 + 1) M3 ≤ live (65536 + 1) M + 2) :
    Did w0 w (((((w3.setCell ⟨g, k * 5, none⟩ (.int .i64 (v'.n : Int))).setCell ⟨g, k * 5 + 1, none⟩ (.int .i64 (v'.root : Int))).setCell ⟨g, k * 5 + 2, none⟩ (.int .i64 (v'.tail : Int))).setCell ⟨g, k * 5 + 3, none⟩ s2).setCell ⟨g, k * 5 + 4, none⟩ (.int .u32 e.ow)) b M F (.slice (some ⟨g, 0, none⟩) E.length cp) E k g e l2 s2 0 := by
  have hL : Lone w0 w3 b 65536 M3 F3 := ⟨RN.ar, below_kp h.lone.bel RN.kp h.lone.new, fun q hq => (RN.sub q hq).elim (h.lone.new q) (fun e => Nat.le_trans h.lone.bel.size e)⟩
  have hp := h.put (e' := ⟨v', l2, s2, e.ow⟩) hk hL RN.sub RN.kp hbk hks hv (RN.kp.rd hs2 (fun q hq => (hf2 q hq).1)) (fun q hq => ⟨fun hf => (RN.sub q hf).elim (hf2 q hq).1 (fun e => by have := (hf2 q hq).2.1; omega), Nat.lt_of_lt_of_le (hf2 q hq).2.1 RN.kp.size, (hf2 q hq).2.2⟩)
  exact ⟨M3, F3, _, hp, (((((RN.kp.mono (G := fun q => F q ∨ q = g) (fun _ h _ => .inl h)).setCell (.inl (.inr rfl)) _).setCell (.inl (.inr rfl)) _).setCell (.inl (.inr rfl)) _).setCell (.inl (.inr rfl)) _).setCell (.inl (.inr rfl)) _, RN.sub, hl, by rw [if_pos rfl]; exact ⟨v', rfl⟩⟩
set_option maxRecDepth 100000 in
set_option maxHeartbeats 6000000 in
theorem vchange (g cp k : Nat) (e : En) (l2 : Vs) (s2 : Value) (want : Int) (f : FuncId) (caps : Array Value) (w : World) (h : Wd w0 w b M F (.slice (some ⟨g, 0, none⟩) E.length cp) E) (hk : E[k]? = some e) (hE : E.length ≤ 1000)
    (hfe : ∀ (args : Array Value) (W : World), (callFunc f args).run Try.prog W = .ok (.enter f args) W) (hs2 : Rd w s2 l2.length (l2.flatMap cells3)) (hf2 : ∀ q, s2.ownBlock = some q → ¬ F q ∧ q < w.heap.size ∧ q ≠ g)
    (hd : Does w b M F (fun j => (holds (E.eraseIdx k)).count j) e l2 want f caps) :
    Calls Try.prog 12 #[ap b, .slice (some ⟨g, 0, none⟩) E.length cp, .int .i64 k, .func (.func f) #[] caps, s2, .int .i64 want] w fun x w' => x = .returned (.tuple #[.slice (some ⟨g, 0, none⟩) E.length cp, .bool true]) ∧ Did w0 w w' b M F (.slice (some ⟨g, 0, none⟩) E.length cp) E k g e l2 s2 want := by
  obtain ⟨v, l, s, ow⟩ := e
  obtain ⟨A, c, e1, _⟩ := (h.row _ (List.mem_of_getElem? hk)).form
  simp only at e1
  subst e1
  obtain ⟨A2, c2, rfl, _⟩ := hs2.form
  have hkl := (List.getElem?_eq_some_iff.1 hk).1
  have HW := Lib.hid h
  have HK := Lib.hid hk
  have HS2 := Lib.hid hs2
  have HF2 := Lib.hid hf2
  have HD := Lib.hid hd
  have cel : ∀ i u, i < 5 → (cells5 ⟨v, l, .slice A l.length c, ow⟩)[i]? = some u → w.cell? ⟨g, k * 5 + i, none⟩ = some u := fun i u hi hu => by
    have := h.all.cells (g := g) rfl (k * 5 + i) u (by rw [flat5_at hk i hi]; exact hu)
    rwa [add_none, Nat.zero_add] at this
  have a0 : w.cell? ⟨g, k * 5, none⟩ = some (.int .i64 (v.n : Int)) := cel 0 _ (by decide) rfl
  have a1 := cel 1 _ (by decide) rfl
  have a2 := cel 2 _ (by decide) rfl
  have a3 := cel 3 _ (by decide) rfl
  have a4 := cel 4 _ (by decide) rfl
  have y1 : (0 : Int) ≤ (k : Int) := by omega
  have y2 : (k : Int) < (E.length : Int) := by omega
  have hgl := (own_blk h.all g rfl)
  have hfz := own_at h.all (j := k * 5) (u := .int .i64 (v.n : Int)) (flat5_at hk 0 (by decide))
  clear h hk hs2 hf2 hd cel
  go_enter Try.func12, Try.ntmps12
  go_wp2_with fail
  have hb1 : Below w.heap.size w (w.alloc (.cells #[.int .i64 (v.n : Int), .int .i64 (v.root : Int), .int .i64 (v.tail : Int), .slice A l.length c, .int .u32 ow] 34)) := (Below.refl _ w).alloc (Nat.le_refl _) _
  have HX1 := Lib.hid (C5.new w 34 (.int .i64 (v.n : Int)) (.int .i64 (v.root : Int)) (.int .i64 (v.tail : Int)) (.slice A l.length c) (.int .u32 ow))
  have HB1 := Lib.hid hb1
  have HA1 := Lib.hid (HW.out.lone.ar.below hb1)
  have hdo := HD.out _ hb1
  clear hb1 a0 a1 a2 a3 a4
  refine (alive b 65536 M F _ HA1.out).mono ?_
  rintro x w' ⟨rfl, rfl⟩
  obtain ⟨lv, hlv⟩ : ∃ lv, lv = live (65536 + 1) M := ⟨_, rfl⟩
  rw [← hlv]
  have HLV := Lib.hid hlv
  clear hlv
  have HDO := Lib.hid hdo
  clear hdo
  have hx := HX1.out
  obtain ⟨x0, x1, x2, x3, x4, _⟩ := hx.all
  clear hx
  go_wp2_with fail
  refine HDO.out.mono ?_
  clear x0 x1 x2 x3 x4
  have HG := Lib.hid (show ∀ q, F q → q < w.heap.size from fun q hq => HW.out.lone.ar.lt hq)
  have HO := Lib.hid (HW.out.own g rfl)
  rintro x w2 (⟨rfl, v', M', rfl, hres, hs⟩ | ⟨hw0, rfl, hb2⟩)
  · have RN2 := Lib.hid ((Rn.below HW.out.lone.ar HB1.out).stp hs)
    have nz : ¬ F w.heap.size := fun hf => absurd (HG.out _ hf) (Nat.lt_irrefl _)
    have HX2 := Lib.hid (HX1.out.kp hs.kp nz)
    have NZ2 := Lib.hid (show ¬ Fn F (w.alloc (.cells #[.int .i64 (v.n : Int), .int .i64 (v.root : Int), .int .i64 (v.tail : Int), .slice A l.length c, .int .u32 ow] 34)) w2 w.heap.size from fun hf => hf.elim nz (fun hf => by have := HX1.out.lt; have := hf.1; omega))
    have NG2 := Lib.hid (show ¬ Fn F (w.alloc (.cells #[.int .i64 (v.n : Int), .int .i64 (v.root : Int), .int .i64 (v.tail : Int), .slice A l.length c, .int .u32 ow] 34)) w2 g from fun hf => hf.elim HO.out (fun hf => by have := HX1.out.lt; have := hf.1; omega))
    generalize Fn F _ w2 = F2 at RN2 NZ2 NG2
    have HRES := Lib.hid hres
    have HSZ := Lib.hid (show w.heap.size < w2.heap.size from Nat.lt_of_lt_of_le HX1.out.lt hs.kp.size)
    clear hs hres HDO HD
    obtain ⟨z, hz⟩ : ∃ z, z = w.heap.size := ⟨_, rfl⟩
    rw [← hz] at HX2 NZ2 ⊢
    have HZ := Lib.hid hz
    clear hz
    have hb3 : Below w2.heap.size w2 (w2.alloc (.cells #[.int .i64 (v'.n : Int), .int .i64 (v'.root : Int), .int .i64 (v'.tail : Int)] 30)) := (Below.refl _ w2).alloc (Nat.le_refl _) _
    have RN3 := Lib.hid (RN2.out.mine (Kp.of_below hb3 (fun _ => False)) (fun _ h => h.elim))
    have HX3 := Lib.hid (HX2.out.below hb3)
    have HV3 := Lib.hid (C3.new w2 30 (.int .i64 (v'.n : Int)) (.int .i64 (v'.root : Int)) (.int .i64 (v'.tail : Int)))
    have NV3 := Lib.hid (show ¬ F2 w2.heap.size from fun hf => absurd (RN2.out.ar.lt hf) (Nat.lt_irrefl _))
    clear hb3 nz RN2 HX2
    by_cases h0 : ow = 0
    · have hd0 : (ow == 0) = true := by simpa using h0
      obtain ⟨x0, x1, x2, x3, x4, _⟩ := HX3.out.all
      obtain ⟨p0, p1, p2, _⟩ := HV3.out.all
      obtain ⟨P, hPd⟩ : ∃ P : Nat → Nat, P = fun j => (holds (E.eraseIdx k)).count j := ⟨_, rfl⟩
      obtain ⟨P2, hP2⟩ : ∃ P2 : Nat → Nat, P2 = fun j => P j + [v'.root, v'.tail].count j := ⟨_, rfl⟩
      have hb' := HRES.out.bk
      have hkp' := HRES.out.keeps
      rw [← hPd] at hb' hkp'
      unfold outP at hb' hkp'
      rw [if_pos h0] at hb' hkp'
      have hbd : Bk (65536 + 1) M' [] P2 [v.root, v.tail] := hb'.move (fun j _ => by
        rw [hP2, count2, count2]
        show _ = P j + _ + _
        unfold addP
        rw [count2]
        omega) (fun x hx => by simp at hx)
      have hP2b : ∀ j, P2 j ≤ 576460752303423488 := fun j => by
        have h1 : (holds (E.eraseIdx k)).count j ≤ (holds (E.eraseIdx k)).length := List.count_le_length
        rw [holds_length] at h1
        have h2 := List.length_eraseIdx_le E k
        have h3 : [v'.root, v'.tail].count j ≤ 2 := List.count_le_length
        rw [hP2, hPd]
        show (holds (E.eraseIdx k)).count j + [v'.root, v'.tail].count j ≤ _
        omega
      have hdr := Lib.hid (drop_bk v (w2.alloc (.cells #[.int .i64 (v'.n : Int), .int .i64 (v'.root : Int), .int .i64 (v'.tail : Int)] 30)) RN3.out.ar (by decide) hP2b hbd)
      have HKP := Lib.hid hkp'
      have HPP := Lib.hid (And.intro hPd hP2)
      have H0 := Lib.hid h0
      clear hb' hkp' hbd hP2b hPd hP2 h0 hfz
      go_wp2_with fail
      refine hdr.out.mono ?_
      rintro x w4 ⟨rfl, M2, hbk2, hks2, hlv2, hs4⟩
      have RN4 := Lib.hid (RN3.out.stp hs4)
      have HV4 := Lib.hid (HV3.out.kp hs4.kp NV3.out)
      have HBK2 := Lib.hid hbk2
      have HKS2 := Lib.hid hks2
      have HLV2 := Lib.hid hlv2
      clear hbk2 hks2 hlv2 hs4 hdr x0 x1 x2 x3 x4 p0 p1 p2 HV3 HX3
      generalize Fn F2 _ w4 = F4 at RN4
      obtain ⟨p0, p1, p2, _⟩ := HV4.out.all
      have r5 := row5 (RN4.out.kp.own HW.out.all HW.out.own) HK.out
      obtain ⟨a0, b0⟩ := r5 0 _ (by decide) rfl
      obtain ⟨a1, b1⟩ := r5 1 _ (by decide) rfl
      obtain ⟨a2, b2⟩ := r5 2 _ (by decide) rfl
      obtain ⟨a3, b3⟩ := r5 3 _ (by decide) rfl
      obtain ⟨a4, b4⟩ := r5 4 _ (by decide) rfl
      rw [Nat.add_zero] at a0 b0
      clear r5
      go_wp2_with fail
      go_ret2
      have h00 := H0.out
      subst h00
      obtain ⟨hPd, hP2⟩ := HPP.out
      have hz' := RN3.out.ar.zero
      refine ⟨rfl, did_put HW.out HK.out RN4.out ?_ ?_ ?_ HS2.out HF2.out (Nat.le_trans HLV2.out HRES.out.live)⟩
      · rw [← hPd]
        exact HBK2.out.move (fun j _ => by rw [hP2]; rfl) (fun x hx => by simp at hx)
      · rw [← hPd]
        exact (HKP.out.less (fun j => Nat.le_trans (addP_le _ _ _) (addP_le _ _ _))).trans (HKS2.out.less (fun j => by rw [hP2]; exact Nat.le_add_right _ _))
      · exact HRES.out.vec.pres hz' (fun h0 => HKS2.out _ h0 (by rw [hP2]; show 1 ≤ P _ + [v'.root, v'.tail].count v'.root; rw [count2, if_pos rfl]; omega)) (fun h0 => HKS2.out _ h0 (by rw [hP2]; show 1 ≤ P _ + [v'.root, v'.tail].count v'.tail; rw [count2, if_pos (show v'.tail = v'.tail from rfl)]; omega))
    · have hd0 : (ow == 0) = false := by simpa using h0
      obtain ⟨x0, x1, x2, x3, x4, _⟩ := HX3.out.all
      obtain ⟨p0, p1, p2, _⟩ := HV3.out.all
      have r5 := row5 (RN3.out.kp.own HW.out.all HW.out.own) HK.out
      obtain ⟨a0, b0⟩ := r5 0 _ (by decide) rfl
      obtain ⟨a1, b1⟩ := r5 1 _ (by decide) rfl
      obtain ⟨a2, b2⟩ := r5 2 _ (by decide) rfl
      obtain ⟨a3, b3⟩ := r5 3 _ (by decide) rfl
      obtain ⟨a4, b4⟩ := r5 4 _ (by decide) rfl
      rw [Nat.add_zero] at a0 b0
      clear r5 hfz
      go_wp2_with fail
      go_ret2
      have hb' := HRES.out.bk
      rw [outP_own h0] at hb'
      have hk' := HRES.out.keeps
      rw [outP_own h0] at hk'
      exact ⟨rfl, did_put HW.out HK.out RN3.out hb' hk' HRES.out.vec HS2.out HF2.out HRES.out.live⟩
  · have hb3 : Below w.heap.size w (w2.alloc (.cells #[.int .i64 0, .int .i64 0, .int .i64 0] 30)) := (HB1.out.trans (hb2.mono HB1.out.size)).alloc (HB1.out.trans (hb2.mono HB1.out.size)).size _
    have HB3 := Lib.hid hb3
    have HA3 := Lib.hid (HW.out.lone.ar.below hb3)
    clear hb2 hb3
    go_wp2_with fail
    refine (alive b 65536 M F _ HA3.out).mono ?_
    rintro x w' ⟨rfl, rfl⟩
    rw [← HLV.out]
    go_wp2_with fail
    go_ret2
    exact ⟨rfl, ⟨M, F, E, HW.out.below HB3.out, (Kp.of_below HB3.out _), fun q hq => .inl hq, Nat.le_add_right _ _, by rw [if_neg hw0]⟩⟩
end

end Go.Proofs.Ytgkhbnkbhcginaa
