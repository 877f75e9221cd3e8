/- Package pvec: renew with a function that itself changes the arena: the cell is made anew. -/
import Derived.Test.YtgkhbnkbhcginaaPush06
namespace Go.Proofs.Ytgkhbnkbhcginaa
open Go.RowKit

/-- A function that changes a cell's contents, and the arena from M1: called, whatever the call around it has come to, with rows of the caller's own; what it makes of both is in R. -/
def ChgS (f : FuncId) (caps : Array Value) (b most : Nat) (F : Nat → Prop) (w : World) (M1 : Cells) (c : Hc) (R : Hc → Cells → Prop) : Prop :=
  ∀ (o : Int) (v k : Value) (W : World) (F1 : Nat → Prop), Rn w W b most M1 F F1 → (∀ q, v.ownBlock = some q → ¬ F1 q) → (∀ q, k.ownBlock = some q → ¬ F1 q) → W.ownsRow w.heap.size 38 3 v c.vals.length (c.vals.flatMap cells3) → W.ownsRow w.heap.size 3 1 k c.kids.length (nums (ns c.kids)) →
    Calls Try.prog f (#[cagg o c.a c.b v k] ++ caps) W fun e W' => ∃ v' k' c' M2 F2, e = .returned (cagg o c'.a c'.b v' k') ∧ Rd W' v' c'.vals.length (c'.vals.flatMap cells3) ∧ Rd W' k' c'.kids.length (nums (ns c'.kids)) ∧ Rn w W' b most M2 F F2 ∧ (∀ q, v'.ownBlock = some q → ¬ F2 q) ∧ (∀ q, k'.ownBlock = some q → ¬ F2 q) ∧ R c' M2
section
variable {b most : Nat} {M : Cells} {F : Nat → Prop}
set_option maxRecDepth 100000 in
set_option maxHeartbeats 4000000 in
/-- As a new cell, by a function that changes the arena. -/
theorem vrenewS (f : FuncId) (caps : Array Value) (R : Hc → Cells → Prop) (i : Nat) (ow : Int) (c0 : Hc) (w : World) (h : Ar w b most M F) (hf : ∀ (args : Array Value) (W : World), (callFunc f args).run Try.prog W = .ok (.enter f args) W) (hc0 : contC M i = c0) (hal : aloneB M i ow = false) (hch : ChgS f caps b most F w (keepAll M c0.kids) c0 R)
    (hr : ∀ j, rf (M j) + c0.kids.length ≤ 4611686018427387900) (nl : c0.kids.length ≤ 4194304)
    (hR : ∀ c' M2, R c' M2 → live (most + 1) M2 < most ∧ (∀ j, rf (M2 j) ≤ 4611686018427387900) ∧ c'.vals.length ≤ 4194304 ∧ c'.kids.length ≤ 4194304 ∧ (ns c'.kids).all (goodB M2) = true) :
    Calls Try.prog 44 #[ap b, .int .i64 i, .int .u32 ow, .func (.func f) #[] caps] w fun e w' => ∃ n c' M2 M', e = .returned (.int .i64 (n : Nat)) ∧ R c' M2 ∧ 1 ≤ n ∧ n ≤ most ∧ M2 n = none ∧ Drops (upd M2 n (some ({ c' with owner := ow }, 1))) [i] M' ∧ Stp w w' b most M' F := by
  have HA := Lib.hid h
  have HC := Lib.hid hch
  have HR := Lib.hid hr
  clear h hch hr
  have hget := vget i w HA.out
  rw [hc0] at hget
  go_enter Try.func44, Try.ntmps44
  go_wp2_with fail
  refine hget.mono ?_
  rintro e w1 ⟨v, k, rfl, o1, o2, hb1⟩
  obtain ⟨A1, m1, rfl, _⟩ := (Rd.of_own o1).form
  obtain ⟨A2, m2, rfl, _⟩ := (Rd.of_own o2).form
  have O1 := Lib.hid o1
  have O2 := Lib.hid o2
  have B1 := Lib.hid hb1
  clear o1 o2 hb1 hget
  go_wp2_with fail
  refine (valone i ow _ (HA.out.below (B1.out.alloc B1.out.size _))).mono ?_
  rintro e w2 ⟨rfl, hb2⟩
  rw [hal]
  have hb12 : Below w1.heap.size w1 w2 := ((Below.refl _ w1).alloc (Nat.le_refl _) _).trans (hb2.mono (by simp))
  have q1 := (C5.new w1 59 (.int .u32 c0.owner) (.int .u32 c0.a) (.int .u32 c0.b) (.slice A1 c0.vals.length m1) (.slice A2 c0.kids.length m2)).below hb2
  have HB2 := Lib.hid (B1.out.trans (hb12.mono B1.out.size))
  have HZ := Lib.hid (show w.heap.size ≤ w1.heap.size ∧ w1.heap.size < w2.heap.size from ⟨B1.out.size, q1.lt⟩)
  have HK0 := Lib.hid (Kept.mk (w2 := w2) (wr := w2) (B := w.heap.size) (c := c0) (j := 0) (M := M) (b := b) (most := most) (F := F) (Stp.refl (HA.out.below HB2.out)) q1 ((Kp.of_below hb12 (fun _ => False)).own O1.out (fun _ _ => id)) ((Kp.of_below hb12 (fun _ => False)).own O2.out (fun _ _ => id)))
  have HF := Lib.hid (show ∀ x, F x → x < w.heap.size from fun x hx => HA.out.lt hx)
  generalize w1.heap.size = z1 at q1 HZ HK0 ⊢
  have HB1 := Lib.hid B1.out.size
  clear O1 O2 B1 hb2 hb12
  obtain ⟨c1, c2, c3, c4, c5, _⟩ := q1.all
  clear q1
  go_wp2_with fail
  clear c1 c2 c3 c4 c5
  go_loopg [36] c0.kids.length (fun c' iv wr => ∃ j : Nat, j + c' = c0.kids.length ∧ iv = .int .i64 j ∧ Kept w2 wr b most M F w.heap.size z1 c0 (.slice A1 c0.vals.length m1) (.slice A2 c0.kids.length m2) j)
  case atStart => exact ⟨0, by omega, rfl, HK0.out⟩
  case round =>
    obtain ⟨j, hj, rfl, hK⟩ := hrel
    by_cases h1 : j < c0.kids.length
    · obtain ⟨x, hx⟩ : ∃ x, c0.kids[j]? = some x := ⟨_, List.getElem?_eq_getElem h1⟩
      obtain ⟨gx, cx, e, _, hcell, _⟩ := own_at hK.o2 (j := j) (u := .int .i64 (x : Int)) (by rw [nums_at]; unfold ns; rw [List.getElem?_map, hx]; rfl)
      simp only [Value.slice.injEq, true_and] at e
      obtain ⟨rfl, rfl⟩ := e
      have HK := Lib.hid hK
      have HX := Lib.hid hx
      clear hK hx
      have y3 : (0 : Int) ≤ (j : Int) := by omega
      have y4 : (j : Int) < (c0.kids.length : Int) := by omega
      have hrx : rf (keepAll M (c0.kids.take j) x) ≤ 4611686018427387904 := by
        have h1 := keepAll_rf (j := x) (l := c0.kids.take j) (M := M)
        have h2 := HR.out x
        rw [List.length_take] at h1
        omega
      go_wp2_with (go_at_call 54; refine (vkeep1 x _ HK.out.st.ar hrx).mono ?_; rintro e w3 ⟨⟨zz, rfl⟩, hs⟩; have HS := Lib.hid hs; clear hs)
      go_roundg (c0.kids.length - (j + 1))
      case measure => omega
      case rel =>
        refine ⟨j + 1, by omega, by go_num, ?_, HK.out.c5.kp HS.out.kp ?_, HS.out.kp.own HK.out.o1 (fun q hq hf' => ?_), HS.out.kp.own HK.out.o2 (fun q hq hf' => ?_)⟩
        · rw [List.take_add_one, HX.out, Option.toList_some, keepAll_snoc]
          exact HK.out.st.trans HS.out
        · rintro (hf' | hf')
          · have := HF.out _ hf'; have := HZ.out; omega
          · have := HZ.out; omega
        · have h1 := (HK0.out.o1.lt q hq)
          rcases hf' with hf' | hf'
          · have := HF.out _ hf'; omega
          · omega
        · have h1 := (HK0.out.o2.lt q hq)
          rcases hf' with hf' | hf'
          · have := HF.out _ hf'; omega
          · omega
    · obtain rfl : j = c0.kids.length := by omega
      have HK := Lib.hid hK
      clear hK
      obtain ⟨c1, c2, c3, c4, c5, f1, _⟩ := HK.out.c5.all
      have hzn : ¬ Fn F w2 wr z1 := by
        rintro (hf' | hf')
        · have := HF.out _ hf'; have := HZ.out; omega
        · have := HZ.out; omega
      have hvn : ∀ q, (Value.slice A1 c0.vals.length m1).ownBlock = some q → w.heap.size ≤ q ∧ ¬ Fn F w2 wr q := fun q hq => by
        have h1 := (HK0.out.o1.lt q hq)
        refine ⟨h1.1, ?_⟩
        rintro (hf' | hf')
        · have := HF.out _ hf'; omega
        · omega
      have hkn : ∀ q, (Value.slice A2 c0.kids.length m2).ownBlock = some q → w.heap.size ≤ q ∧ ¬ Fn F w2 wr q := fun q hq => by
        have h1 := (HK0.out.o2.lt q hq)
        refine ⟨h1.1, ?_⟩
        rintro (hf' | hf')
        · have := HF.out _ hf'; omega
        · omega
      have HVN := Lib.hid hvn
      have HKN := Lib.hid hkn
      have kz := Kp.one wr z1 0 (.int .u32 ow)
      have hz1 : w.heap.size ≤ z1 := by have := HZ.out; omega
      have kw := ((Kp.of_below HB2.out F).trans HK.out.st.kp (fun _ => .inl)).trans kz (fun q e => .inr (e ▸ hz1))
      have p1 := Lib.hid (kz.own HK.out.o1 (own_ne HK.out.o1 HK.out.c5 (by decide)))
      have p2 := Lib.hid (kz.own HK.out.o2 (own_ne HK.out.o2 HK.out.c5 (by decide)))
      have KW := Lib.hid kw
      have AW := Lib.hid (HK.out.st.ar.kp kz (fun q hq e => hzn (e ▸ hq)))
      clear kz kw hvn hkn
      go_wp2_with fail
      generalize wr.setCell ⟨z1, 0, none⟩ (.int .u32 ow) = w3 at p1 p2 KW AW ⊢
      have RN3 := Lib.hid (show Rn w w3 b most (keepAll M c0.kids) F (Fn F w2 wr) from ⟨by have := AW.out; rw [List.take_length] at this; exact this, KW.out, fun q hq => hq.elim .inl (fun hq => .inr (Nat.le_trans HB2.out.size hq.1))⟩)
      refine (HC.out ow _ _ w3 _ RN3.out (fun q hq => (HVN.out q hq).2) (fun q hq => (HKN.out q hq).2) p1.out p2.out).mono ?_
      rintro e w4 ⟨v', k', c', M2, F2, rfl, r1, r2, rn4, hn1, hn2, hr'⟩
      obtain ⟨A3, m3, rfl, _⟩ := r1.form
      obtain ⟨A4, m4, rfl, _⟩ := r2.form
      obtain ⟨hlv, hrf, nv, nk, hgd⟩ := hR c' M2 hr'
      have R1 := Lib.hid r1
      have R2 := Lib.hid r2
      have RN4 := Lib.hid rn4
      have N1 := Lib.hid hn1
      have N2 := Lib.hid hn2
      have HRR := Lib.hid hr'
      clear r1 r2 rn4 hn1 hn2 hr' c1 c2 c3 c4 c5 f1
      go_wp2_with fail
      refine (amake { c' with owner := ow } _ _ b most _ _ _ RN4.out.ar R1.out R2.out nv nk N1.out N2.out hgd hlv).mono ?_
      rintro e w5 ⟨n, rfl, n1, n2, n3, ha5, hk5⟩
      have RN5 := Lib.hid (RN4.out.stp (Stp.mk ha5 hk5))
      have hr5 : ∀ q, rf (upd M2 n (some ({ c' with owner := ow }, 1)) q) ≤ 4611686018427387904 := fun q => by
        by_cases e : q = n
        · subst e; rw [upd_same]; show 1 ≤ _; decide
        · rw [upd_other _ _ e]
          exact Nat.le_trans (hrf q) (by decide)
      clear ha5 hk5
      go_wp2_with fail
      refine (vdrop1 i _ RN5.out.ar hr5).mono ?_
      rintro e w6 ⟨⟨zz, rfl⟩, M', hd, hs6⟩
      have HD := Lib.hid hd
      have HE := Lib.hid ((RN5.out.stp hs6).fin HF.out)
      clear hd hs6
      go_wp2_with fail
      go_ret
      exact ⟨n, c', M2, M', rfl, HRR.out, n1, n2, n3, HD.out, HE.out⟩
end

end Go.Proofs.Ytgkhbnkbhcginaa
