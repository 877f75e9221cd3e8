/- Several texts in one. -/
import Derived.Test.YtdddhmipifkepaaGreatMq11
import Derived.Test.YtdddhmipifkepaaGreatMq10
import Derived.Test.YtdddhmipifkepaaGreatMq13
import Derived.Test.YtdddhmipifkepaaGreatMq17
import Derived.Test.YtdddhmipifkepaaGreatMq07
namespace Go.Proofs.YtdddhmipifkepaaGreat
open Go.RowKit

theorem Rn.trans {w w1 w2 : World} {b most : Nat} {M1 M2 : Cells} {F F1 F2 : Nat → Prop} (h : Rn w w1 b most M1 F F1) (k : Rn w1 w2 b most M2 F1 F2) : Rn w w2 b most M2 F F2 :=
  ⟨k.ar, h.kp.trans k.kp h.sub, fun x hx => by
    rcases k.sub x hx with h1 | h1
    · exact h.sub x h1
    · exact .inr (Nat.le_trans h.kp.size h1)⟩
theorem Pres.of_reach {M M' : Cells} {i j : Nat} (h : Pres M M' i) (hr : Reach M i j) : Pres M M' j := fun x c q hx e => by
  refine h x c q ?_ e
  clear e
  induction hx with
  | refl => exact hr
  | kid _ hk h0 ih => exact .kid ih hk h0
section
variable {M M' : Cells} {hs : Ky → Nat} {k : Ky} {lv i lvj j : Nat} {l lj : List Pr} {cl : List (Nat × Nat)}
theorem NodeF.kidm {c : Hc} {r b s : Nat} {K : Nat → Nat} {L : Nat → List Pr} (h : NodeF M hs lv i l c r b s K L) {d : Nat} (hd : s.testBit d = true) : K d ∈ c.kids := List.mem_of_getElem? (h.kid d (bit_lt h.s32 hd) hd)
theorem Wp.ht (h : Wp M hs k lv i l cl lvj j lj) : HT M hs lv i l := by
  cases h with
  | nil h => exact h
  | cons h hT => exact .node h hT
theorem Wp.end (h : Wp M hs k lv i l cl lvj j lj) : HT M hs lvj j lj := by
  induction h with
  | nil h => exact h
  | cons _ _ _ _ _ ih => exact ih
theorem Wp.reach (hz : M 0 = none) (h : Wp M hs k lv i l cl lvj j lj) : Reach M i j := by
  have key : ∀ {x y z : Nat}, Reach M x y → Reach M y z → Reach M x z := fun h1 h2 => by
    induction h2 with
    | refl => exact h1
    | kid _ hk h0 ih => exact .kid ih hk h0
  induction h with
  | nil h => exact .refl
  | @cons lv i l c r b s K L cl lvj j lj h hT hd ha hw ih =>
    exact key (.kid .refl (by rw [h.cell]; exact h.kidm hd) ((hT _ (dg_lt _ _) hd).pos hz)) ih
theorem Wp.pres (hz : M 0 = none) (h : Wp M hs k lv i l cl lvj j lj) (hp : Pres M M' i) : Wp M' hs k lv i l cl lvj j lj := by
  induction h with
  | nil h => exact .nil (h.pres hz hp)
  | @cons lv i l c r b s K L cl lvj j lj h hT hd ha hw ih =>
    obtain ⟨r', e⟩ := hp i c r .refl h.cell
    have hk : ∀ d, d < 32 → s.testBit d = true → Pres M M' (K d) := fun d h32 hd' => hp.kid h.cell (h.kidm hd') ((hT d h32 hd').pos hz)
    exact .cons (r := r') { h with cell := e } (fun d h32 hd' => (hT d h32 hd').pres hz (hk d h32 hd')) hd ha (ih (hk _ (dg_lt _ _) hd))
theorem cnt_le32 {s : Nat} : ∀ e, cnt s e ≤ e
  | 0 => Nat.le_refl _
  | e + 1 => by
    show cnt s e + (s.testBit e).toNat ≤ e + 1
    have := cnt_le32 (s := s) e
    have := Bool.toNat_le (s.testBit e)
    omega
end

structure PR (most : Nat) (M : Cells) (H : List Nat) (P : Nat → Nat) (hs : Ky → Nat) (k : Ky) (new : Pr → Prop) (lv : Nat) (l : List Pr) (q : Nat) (n : Nat) (M' : Cells) : Prop where
  pos : 1 ≤ n
  bk : Bk (most + 1) M' H P [n]
  keeps : Keeps P (blank M H) (blank M' H)
  holes : ∀ x ∈ H, M' x = M x
  live : live (most + 1) M' ≤ Proofs.YtdddhmipifkepaaGreat.live (most + 1) M + q
  ht : ∃ l', HT (blank M' H) hs lv n l' ∧ Chd k new l l'

section
variable {most : Nat} {hs : Ky → Nat} {k : Ky} {new : Pr → Prop} {lvj j : Nat} {lj : List Pr}
set_option maxRecDepth 100000 in
set_option maxHeartbeats 1600000 in
theorem vpass_bk (x : Wv) (f : FuncId) (caps : Array Value) (tail : List Nat) (q0 : Nat) (hm : most ≤ 1048576) (hfe : ∀ (args : Array Value) (W : World), (callFunc f args).run Tryz.prog W = .ok (.enter f args) W) (hg : hs k = x.g) (hn : OfK k new) :
    ∀ (cl : List (Nat × Nat)) (lv i : Nat) (l : List Pr) (M : Cells) (H : List Nat) (P : Nat → Nat) (F : Nat → Prop) (w : World), Ar w x.b most M F → Bk (most + 1) M H P [i] → (∀ j, P j + 64 * cl.length ≤ 1152921504606846976) → Wp (blank M H) hs k lv i l cl lvj j lj → cl.length ≤ 1000 →
      live (most + 1) M + (freshN M x.ow (cl.map Prod.fst ++ tail) + q0) ≤ most →
      (∀ (W : World) (M1 : Cells) (H1 : List Nat) (P1 : Nat → Nat) (F1 : Nat → Prop), Rn w W x.b most M1 F F1 → Bk (most + 1) M1 H1 P1 [j] → (∀ j, P1 j ≤ 1152921504606846976) → Pres (blank M H) (blank M1 H1) j → HT (blank M1 H1) hs lvj j lj → live (most + 1) M1 + (freshN M1 x.ow tail + q0) ≤ most →
        Calls Tryz.prog f (#[.int .i64 (j : Nat)] ++ caps) W fun e W' => ∃ n2 M2, e = .returned (.int .i64 (n2 : Nat)) ∧ PR most M1 H1 P1 hs k new lvj lj (freshN M1 x.ow tail + q0) n2 M2 ∧ Stp W W' x.b most M2 F1) →
      Calls Tryz.prog 258 #[wagg x, .int .i64 (i : Nat), .int .i64 (cl.length : Nat), .func (.func f) #[] caps] w fun e w' => ∃ n M', e = .returned (.int .i64 (n : Nat)) ∧ PR most M H P hs k new lv l (freshN M x.ow (cl.map Prod.fst ++ tail) + q0) n M' ∧ Stp w w' x.b most M' F := by
  intro cl
  induction cl with
  | nil =>
    intro lv i l M H P F w h hb hP hw _ hroom hc
    have hnil : i = j ∧ lv = lvj ∧ l = lj ∧ HT (blank M H) hs lv i l := by
      cases hw with
      | nil hT => exact ⟨rfl, rfl, rfl, hT⟩
    obtain ⟨e1, e2, e3, hT⟩ := hnil
    subst e1 e2 e3
    · refine (vpass_zero x i f caps (fun v w' => ∃ n M', v = .int .i64 (n : Nat) ∧ PR most M H P hs k new lv l (freshN M x.ow tail + q0) n M' ∧ Stp w w' x.b most M' F) w hfe (fun W hW => ?_)).mono ?_
      · refine (hc W M H P F ⟨h.below hW, Kp.of_below hW F, fun _ => .inl⟩ hb (fun j => by have := hP j; omega) (Pres.refl _ _) hT (by simpa using hroom)).mono ?_
        rintro e W' ⟨n2, M2, rfl, hr, hs2⟩
        exact ⟨_, rfl, n2, M2, rfl, hr, Stp.from (fun y hy => h.lt hy) hW hs2⟩
      · rintro e w' ⟨v, rfl, n, M', rfl, hr, hs2⟩
        exact ⟨n, M', rfl, hr, hs2⟩
  | cons y cl ih =>
    intro lv i l M H P F w h hb hP hw hlen hroom hc
    have hz : blank M H 0 = none := blank_none.2 hb.zero
    have hl0 := hw.ht.ne
    cases hw with
    | @cons _ _ _ c r b s K L _ _ _ _ hN hT hd ha hw =>
      obtain ⟨d, hdd⟩ : ∃ d, d = dg (hs k) b := ⟨_, rfl⟩
      have hd32 : d < 32 := hdd ▸ dg_lt _ _
      have hi0 : i ≠ 0 := fun e => by have := hN.cell; rw [e, hz] at this; cases this
      have hiH := (hb.hand (i := i) (by simp) hi0).2
      have hMi : M i = some (c, r) := by have := hN.cell; rwa [blank_out hiH] at this
      have hcc : contC M i = c := by unfold contC; rw [hMi]
      have hsd : sdx s x.g b = cnt s d := by unfold sdx; rw [← hg, if_pos hd, hdd]
      have hk : c.kids[cnt s d]? = some (K d) := hN.kid d hd32 (hdd ▸ hd)
      have hkm : K d ∈ c.kids := List.mem_of_getElem? hk
      have hkl : c.kids.length ≤ 32 := by rw [hN.len]; exact cnt_le32 32
      have hkT : HT (blank M H) hs (b + 1) (K d) (L d) := hT d hd32 (hdd ▸ hd)
      have hk0 : K d ≠ 0 := hkT.pos hz
      rw [← hdd] at hw hd
      have hPb : ∀ j, P j + 64 * cl.length + 64 ≤ 1152921504606846976 := fun j => by have := hP j; simp only [List.length_cons] at this; omega
      obtain ⟨q, hq⟩ : ∃ q, q = if aloneB M i x.ow = true then freshN M x.ow (cl.map Prod.fst ++ tail) + q0 else (cl.map Prod.fst ++ tail).length + q0 := ⟨_, rfl⟩
      have hfr : freshN M x.ow (((i, b) :: cl).map Prod.fst ++ tail) + q0 = q + if aloneB M i x.ow = true then 0 else 1 := by
        show (if aloneB M i x.ow = true then freshN M x.ow (cl.map Prod.fst ++ tail) else (cl.map Prod.fst ++ tail).length + 1) + q0 = _
        rw [hq]
        split <;> omega
      rw [hfr] at hroom ⊢
      refine (vpass_succ x i (cl.length + 1) f caps (fun v w' => ∃ n M', v = .int .i64 (n : Nat) ∧ PR most M H P hs k new lv l (q + if aloneB M i x.ow = true then 0 else 1) n M' ∧ Stp w w' x.b most M' F) w (Nat.succ_pos _) (fun W z4 zn zf hW g4 gn gf h4 hn1 hf1 => ?_)).mono ?_
      · have hA := h.below hW
        refine (renewB 280 #[.pointer (some ⟨z4, 0, none⟩), .pointer (some ⟨zn, 0, none⟩), .pointer (some ⟨zf, 0, none⟩)] i x.ow c q
          (fun M1 H1 c' M2 => ∃ n2, PR most M1 H1 (fun k => addP P i k + (c.kids.eraseIdx (cnt s d)).count k) hs k new (b + 1) (L d) (freshN M1 x.ow (cl.map Prod.fst ++ tail) + q0) n2 M2 ∧ c' = { c with kids := c.kids.set (cnt s d) n2 }) W hA (fun args W => by kernel_rfl) hm (fun _ => Nat.le_refl _) (fun j => by have := hPb j; omega) hb hcc (by omega) (fun M1 H1 hw1 => ?_)).mono ?_
        · obtain ⟨P1, hP1⟩ : ∃ P1 : Nat → Nat, P1 = fun k => addP P i k + (c.kids.eraseIdx (cnt s d)).count k := ⟨_, rfl⟩
          rw [← hP1]
          have hb2 : Bk (most + 1) M1 H1 P1 [K d] := hw1.bk.move (fun k' _ => by rw [hP1, (count_erase_set c.kids (cnt s d) (K d) 0 k' hk).1]; show _ = addP P i k' + _ + _; omega) (fun y hy => by rw [hP1]; exact Nat.le_trans (hw1.bk.hole y hy).1 (Nat.le_add_right _ _))
          have hP1b : ∀ j, P1 j + 64 * cl.length ≤ 1152921504606846976 := fun j => by
            have h1 := addP_lt (B := P j) (P := fun y => if y = j then P j else 0) (fun y => by show (if y = j then P j else 0) ≤ _; split <;> omega) i j
            have h2 : (c.kids.eraseIdx (cnt s d)).count j ≤ c.kids.length := Nat.le_trans List.count_le_length (List.length_eraseIdx_le _ _)
            have h3 := hPb j
            have h4 : addP P i j ≤ P j + 1 := by unfold addP; split <;> omega
            rw [hP1]
            show addP P i j + _ + _ ≤ _
            omega
          have hpk := hw1.kids (K d) hkm hk0
          have hwk := hw.pres hz hpk
          have hfl : freshN M1 x.ow (cl.map Prod.fst ++ tail) + q0 ≤ q := by
            rcases hw1.way with ⟨a1, a2, _⟩ | ⟨a1, _, _⟩
            · rw [hq, if_pos a1, a2]; exact Nat.le_refl _
            · rw [hq, if_neg (by rw [a1]; simp)]; exact Nat.add_le_add_right (freshN_le _ _ _) _
          have hl1 := hw1.live
          have hln : ((cl.length + 1 : Nat) : Int) - 1 = (cl.length : Nat) := by omega
          refine (chgS_pass (M1 := M1) (F := F) (most := most) x (cl.length + 1) z4 zn zf (K d) s b f caps (fun n2 M2 => PR most M1 H1 P1 hs k new (b + 1) (L d) (freshN M1 x.ow (cl.map Prod.fst ++ tail) + q0) n2 M2) W (Nat.succ_pos _) (by simp only [List.length_cons] at hlen; omega) h4 hn1 hf1 (fun z hz' hF => by
            have := h.lt hF
            rcases hz' with rfl | rfl | rfl <;> omega) c hN.ca hN.s32 hN.cb hN.b13 (by rw [hsd]; exact hk) (fun W1 F1 hRn => ?_)).mono ?_
          · rw [hln]
            have hR0 : Rn w W1 x.b most M1 F F1 := ⟨hRn.ar, (Kp.of_below hW F).trans hRn.kp (fun _ => .inl), fun y hy => by
              rcases hRn.sub y hy with h1 | h1
              · exact .inl h1
              · exact .inr (Nat.le_trans hW.size h1)⟩
            refine (ih (b + 1) (K d) (L d) M1 H1 P1 F1 W1 hRn.ar hb2 hP1b hwk (by simp only [List.length_cons] at hlen; omega) (by omega) (fun W2 M2 H2 P2 F2 r1 r2 r3 r4 r5 r6 => ?_)).mono ?_
            · exact hc W2 M2 H2 P2 F2 (hR0.trans r1) r2 r3 ((hpk.of_reach (hw.reach hz)).trans r4) r5 r6
            · rintro e W2 ⟨n2, M2, rfl, hr, hs2⟩
              exact ⟨n2, M2, rfl, hr, hs2⟩
          · rintro c' M2 ⟨n2, hr, rfl⟩
            rw [hsd]
            refine ⟨?_, hr.keeps.less (fun k' => by rw [hP1]; exact Nat.le_add_right _ _), hr.holes, by have := hr.live; omega, by show c.vals.length ≤ _; rw [hN.vals]; exact Nat.zero_le _, by show (c.kids.set (cnt s d) n2).length ≤ _; rw [List.length_set]; omega, n2, hr, rfl⟩
            exact hr.bk.move (fun k' _ => by rw [hP1]; show addP P i k' + _ + _ = _ + (c.kids.set (cnt s d) n2).count k'; rw [(count_erase_set c.kids (cnt s d) (K d) n2 k' hk).2]; omega) (fun y hy => (hw1.bk.hole y hy).1)
        · rintro e W' ⟨n, M', rfl, hs2, M1, H1, c', M2, hw1, ⟨n2, hr, rfl⟩, hren⟩
          refine ⟨_, rfl, n, M', rfl, ⟨hren.pos, hren.bk, hren.keeps, hren.holes, hren.live, ?_⟩, Stp.from (fun y hy => h.lt hy) hW hs2⟩
          have hnH := (hren.bk.hand (i := n) (by simp) (by have := hren.pos; omega)).2
          obtain ⟨Ld, hT2, hch⟩ := hr.ht
          have hz2 : blank M2 H1 0 = none := blank_none.2 hr.bk.zero
          have hcl : cnt s d < c.kids.length := (List.getElem?_eq_some_iff.1 hk).1
          have hn2m : n2 ∈ c.kids.set (cnt s d) n2 := List.mem_of_getElem? (List.getElem?_set_self hcl)
          subst hdd
          refine node_set (M := blank M H) (M' := blank M' H) (k' := n2) (r' := 1) (ow := x.ow) hN hl0 hd (fun e he32 he hne => ?_) ?_ (hT2.pres hz2 (hren.kids n2 hn2m (by have := hr.pos; omega))) hn hch ha
          · have hke := hN.kid e he32 he
            have hTe := hT e he32 he
            have h0e := hTe.pos hz
            have hce : cnt s e ≠ cnt s (dg (hs k) b) := fun e' => hne (cnt_inj he hd e')
            have hTe1 := hTe.pres hz (hw1.kids _ (List.mem_of_getElem? hke) h0e)
            have hz1 : blank M1 H1 0 = none := blank_none.2 hw1.bk.zero
            have hme : K e ∈ c.kids.eraseIdx (cnt s (dg (hs k) b)) := List.mem_eraseIdx_iff_getElem?.2 ⟨_, hce, hke⟩
            have hTe2 := hTe1.pres hz1 (hr.keeps _ h0e (by show 1 ≤ addP P i (K e) + _; have := List.count_pos_iff.2 hme; omega))
            exact hTe2.pres hz2 (hren.kids _ (List.mem_of_getElem? (by rw [List.getElem?_set_ne (Ne.symm hce)]; exact hke)) h0e)
          · rw [blank_out hnH]
            exact hren.cell
      · rintro e w' ⟨v, rfl, n, M', rfl, hr, hs2⟩
        exact ⟨n, M', rfl, hr, hs2⟩
end

end Go.Proofs.YtdddhmipifkepaaGreat

namespace Go.Proofs.YtdddhmipifkepaaGreat
set_option maxRecDepth 100000
open Go.RowKit

def beg1 (M : Cells) (root : Nat) (ow : Int) : Cells := if ow = 0 then keepC M root else M
def out1 (P : Nat → Nat) (root : Nat) (ow : Int) : Nat → Nat := if ow = 0 then addP P root else P
theorem out1_le (P : Nat → Nat) (root : Nat) (ow : Int) (j : Nat) : out1 P root ow j ≤ P j + 1 := by
  unfold out1
  split
  · unfold addP; split <;> omega
  · omega
theorem beg1_pres (M : Cells) (root : Nat) (ow : Int) (r : Nat) : Pres M (beg1 M root ow) r := by
  unfold beg1
  split
  · exact Pres.all all_keepC
  · exact Pres.refl _ _
theorem keepC_live1 {N : Nat} {M : Cells} {i : Nat} : live N (keepC M i) = live N M := by
  unfold keepC
  cases e : M i with
  | none => rfl
  | some x => exact live_upd_some N (by rw [e]; simp) _
theorem beg1_live {N : Nat} (M : Cells) (root : Nat) (ow : Int) : live N (beg1 M root ow) = live N M := by
  unfold beg1
  split
  · exact keepC_live1
  · rfl
theorem Bk.beg1 {N : Nat} {M : Cells} {P : Nat → Nat} {root : Nat} (h : Bk N M [] P [root]) (ow : Int) : Bk N (beg1 M root ow) [] (out1 P root ow) [root] := by
  unfold Proofs.YtdddhmipifkepaaGreat.beg1 out1
  split
  · have h1 := h.keep (i := root) (fun h0 => h.hand (by simp) h0)
    refine h1.move (fun k _ => ?_) (fun x hx => by simp at hx)
    show P k + (root :: [root]).count k = addP P root k + [root].count k
    rw [List.count_cons]
    unfold addP
    by_cases e : k = root
    · subst e; simp
    · rw [if_neg e, if_neg (by simpa using Ne.symm e)]; omega
  · exact h
theorem alone_zero (M : Cells) (i : Nat) : aloneB M i 0 = false := by
  unfold aloneB
  cases M i with
  | none => rfl
  | some y => simp
theorem fresh_zero (M : Cells) : ∀ l, freshN M 0 l = l.length
  | [] => rfl
  | i :: l => by
    show (if aloneB M i 0 = true then freshN M 0 l else l.length + 1) = _
    rw [alone_zero]
    rfl
theorem beg1_fresh (M : Cells) (root : Nat) (ow : Int) (l : List Nat) : freshN (beg1 M root ow) ow l = freshN M ow l := by
  unfold beg1
  split
  · rename_i h
    rw [h, fresh_zero, fresh_zero]
  · rfl

structure MRes (most : Nat) (M : Cells) (P : Nat → Nat) (hs : Ky → Nat) (k : Ky) (new : Pr → Prop) (root : Nat) (ow : Int) (l : List Pr) (q n : Nat) (M' : Cells) : Prop where
  bk : Bk (most + 1) M' [] (out1 P root ow) [n]
  keeps : Keeps (out1 P root ow) M M'
  live : live (most + 1) M' ≤ Proofs.YtdddhmipifkepaaGreat.live (most + 1) M + q
  ht : ∃ l', HT M' hs 0 n l' ∧ Chd k new l l'
section
variable {most : Nat} {M : Cells} {F : Nat → Prop} {hs : Ky → Nat} {k : Ky} {new : Pr → Prop} {lvj j : Nat} {lj l : List Pr}
theorem vdo_bk (x : Wv) (f : FuncId) (caps : Array Value) (tail : List Nat) (q0 : Nat) (cl : List (Nat × Nat)) (P : Nat → Nat) (w : World) (h : Ar w x.b most M F) (hm : most ≤ 1048576) (hfe : ∀ (args : Array Value) (W : World), (callFunc f args).run Tryz.prog W = .ok (.enter f args) W) (hg : hs k = x.g) (hn : OfK k new)
    (hb : Bk (most + 1) M [] P [x.root]) (hP : ∀ j, P j ≤ 576460752303423488) (hw : Wp M hs k 0 x.root l cl lvj j lj) (hcl : cl.length ≤ 100) (hroom : live (most + 1) M + (freshN M x.ow (cl.map Prod.fst ++ tail) + q0) ≤ most)
    (hsw : ∀ (W : World) (M1 : Cells) (H1 : List Nat) (P1 : Nat → Nat) (F1 : Nat → Prop), Rn w W x.b most M1 F F1 → Bk (most + 1) M1 H1 P1 [j] → (∀ j, P1 j ≤ 1152921504606846976) → Pres M (blank M1 H1) j → HT (blank M1 H1) hs lvj j lj → live (most + 1) M1 + (freshN M1 x.ow tail + q0) ≤ most →
        Calls Tryz.prog f (#[.int .i64 (j : Nat)] ++ caps) W fun e W' => ∃ n2 M2, e = .returned (.int .i64 (n2 : Nat)) ∧ PR most M1 H1 P1 hs k new lvj lj (freshN M1 x.ow tail + q0) n2 M2 ∧ Stp W W' x.b most M2 F1) :
    Calls Tryz.prog 224 #[wagg x, .int .i64 (cl.length : Nat), .int .i64 ((freshN M x.ow (cl.map Prod.fst ++ tail) + q0 : Nat) : Int), .func (.func f) #[] caps] w fun e w' => ∃ n M', e = .returned (.tuple #[.int .i64 (n : Nat), .int .i64 0]) ∧ 1 ≤ n ∧ MRes most M P hs k new x.root x.ow l (freshN M x.ow (cl.map Prod.fst ++ tail) + q0) n M' ∧ Stp w w' x.b most M' F := by
  have hz := hb.zero
  have hbb := hb.beg1 x.ow
  have hwb : Wp (blank (beg1 M x.root x.ow) []) hs k 0 x.root l cl lvj j lj := by rw [blank_nil]; exact hw.pres hz (beg1_pres _ _ _ _)
  refine (vdo_yes x cl.length (freshN M x.ow (cl.map Prod.fst ++ tail) + q0) f caps (fun W => Stp w W x.b most (beg1 M x.root x.ow) F) (fun v w' => ∃ n M', v = .int .i64 (n : Nat) ∧ 1 ≤ n ∧ MRes most M P hs k new x.root x.ow l (freshN M x.ow (cl.map Prod.fst ++ tail) + q0) n M' ∧ Stp w w' x.b most M' F) w (fun W z vs hW hz' hWC hrd hown => ?_) (fun W hS => ?_)).mono ?_
  · have hA := h.below hW
    have hws := hW.size
    by_cases h0 : x.ow = 0
    · rw [h0]
      refine (vBegin_keep (freshN M 0 (cl.map Prod.fst ++ tail) + q0) [x.root] vs W hA (by rw [h0] at hroom; exact hroom) hrd (fun q hq => ⟨fun hf => by have h1 := hown q hq; have h2 := h.lt hf; omega, (hown q hq).2⟩) (by show 1 ≤ _; decide) (fun j => by
        have h1 := bk_rf hm hP hb (by show 1 ≤ 64; decide) j
        show rf (M j) + 1 ≤ _
        omega)).mono ?_
      rintro e W' ⟨rfl, hs2⟩
      have hs3 : Stp w W' x.b most (beg1 M x.root 0) F := Stp.from (fun y hy => h.lt hy) hW (by unfold beg1; rw [if_pos rfl]; exact hs2)
      exact ⟨rfl, hWC.kp hs2.kp (fun hf => by have := h.lt hf; omega), hs3⟩
    · refine (vBegin_own x.ow (freshN M x.ow (cl.map Prod.fst ++ tail) + q0) vs W hA hroom h0).mono ?_
      rintro e W' ⟨rfl, hb2⟩
      refine ⟨rfl, hWC.below hb2, ?_⟩
      unfold beg1
      rw [if_neg h0]
      exact Stp.below h (hW.trans (hb2.mono hW.size))
  · have hRn : Rn w W x.b most (beg1 M x.root x.ow) F (Fn F w W) := ⟨hS.ar, hS.kp, fun y hy => by
      rcases hy with hy | hy
      · exact .inl hy
      · exact .inr hy.1⟩
    refine (vpass_bk x f caps tail q0 hm hfe hg hn cl 0 x.root l (beg1 M x.root x.ow) [] (out1 P x.root x.ow) (Fn F w W) W hS.ar hbb (fun j => by have h1 := out1_le P x.root x.ow j; have h2 := hP j; omega) hwb (by omega) (by rw [beg1_live, beg1_fresh]; exact hroom) (fun W2 M1 H1 P1 F1 r1 r2 r3 r4 r5 r6 => ?_)).mono ?_
    · refine hsw W2 M1 H1 P1 F1 (hRn.trans r1) r2 r3 ?_ r5 r6
      rw [blank_nil] at r4
      exact (beg1_pres M x.root x.ow j).trans r4
    · rintro e W2 ⟨n, M', rfl, hr, hs2⟩
      refine ⟨_, rfl, n, M', rfl, hr.pos, ⟨hr.bk, fun r h0 hp => ?_, by have := hr.live; rw [beg1_live, beg1_fresh] at this; exact this, ?_⟩, hS.trans hs2⟩
      · have := hr.keeps r h0 hp
        rw [blank_nil, blank_nil] at this
        exact (beg1_pres M x.root x.ow r).trans this
      · have := hr.ht
        rwa [blank_nil] at this
  · rintro e w' ⟨v, rfl, n, M', rfl, h1, h2, h3⟩
    exact ⟨n, M', rfl, h1, h2, h3⟩
theorem vdo_full (x : Wv) (n need : Nat) (fv : Value) (w : World) (h : Ar w x.b most M F) (hroom : most < live (most + 1) M + need) :
    Calls Tryz.prog 224 #[wagg x, .int .i64 (n : Nat), .int .i64 (need : Nat), fv] w fun e w' => e = .returned (.tuple #[.int .i64 0, .int .i64 5]) ∧ Below w.heap.size w w' := by
  refine (vdo_no x n need fv (fun W => Below w.heap.size w W) w (fun W z vs hW hz hWC hrd hown => ?_))
  refine (vBegin_no x.ow need vs W (h.below hW) hroom).mono ?_
  rintro e W' ⟨rfl, hb⟩
  exact ⟨rfl, hW.trans (hb.mono hW.size)⟩
theorem vreplace_bk (x : Wv) (f : FuncId) (caps : Array Value) (q0 : Nat) (cl rest : List (Nat × Nat)) (P : Nat → Nat) (w : World) (h : Ar w x.b most M F) (hm : most ≤ 1048576) (hfe : ∀ (args : Array Value) (W : World), (callFunc f args).run Tryz.prog W = .ok (.enter f args) W) (hg : hs k = x.g) (hn : OfK k new)
    (hb : Bk (most + 1) M [] P [x.root]) (hP : ∀ j, P j ≤ 576460752303423488) (hw : Wp M hs k 0 x.root l cl lvj j lj) (hcl : (cl ++ rest).length ≤ 100) (hne : cl ++ rest ≠ []) (hq0 : q0 ≤ 100) (ho4 : w.ownsRow 0 3 1 (.slice x.A4 x.n4 x.c4) x.n4 (nums (ns ((cl ++ rest).map Prod.fst)))) (hn4 : x.n4 = (cl ++ rest).length)
    (hsw : live (most + 1) M + (freshN M x.ow (cl.map Prod.fst) + q0) ≤ most → ∀ (W0 W : World) (M1 : Cells) (H1 : List Nat) (P1 : Nat → Nat) (F1 : Nat → Prop), Below w.heap.size w W0 → Rn W0 W x.b most M1 F F1 → Bk (most + 1) M1 H1 P1 [j] → (∀ j, P1 j ≤ 1152921504606846976) → Pres M (blank M1 H1) j → HT (blank M1 H1) hs lvj j lj → live (most + 1) M1 + q0 ≤ most →
        Calls Tryz.prog f (#[.int .i64 (j : Nat)] ++ caps) W fun e W' => ∃ n2 M2, e = .returned (.int .i64 (n2 : Nat)) ∧ PR most M1 H1 P1 hs k new lvj lj q0 n2 M2 ∧ Stp W W' x.b most M2 F1) :
    Calls Tryz.prog 157 #[wagg x, .int .i64 (cl.length : Nat), .int .i64 (q0 : Nat), .func (.func f) #[] caps] w fun e w' => (e = .returned (.tuple #[.int .i64 0, .int .i64 5]) ∧ most < live (most + 1) M + (freshN M x.ow (cl.map Prod.fst) + q0) ∧ Below w.heap.size w w') ∨
      ∃ n M', e = .returned (.tuple #[.int .i64 (n : Nat), .int .i64 0]) ∧ 1 ≤ n ∧ MRes most M P hs k new x.root x.ow l (freshN M x.ow (cl.map Prod.fst) + q0) n M' ∧ Stp w w' x.b most M' F := by
  obtain ⟨g4, hA4⟩ : ∃ g4, x.A4 = some ⟨g4, 0, none⟩ := by
    rcases ho4.2 with ⟨_, e⟩ | ⟨g, cap, cur, e, _⟩
    · rw [hn4] at e; exact absurd (List.length_eq_zero_iff.1 e) hne
    · simp only [Value.slice.injEq] at e
      exact ⟨g, e.1⟩
  have hcap : x.n4 ≤ x.c4 := by rw [hA4] at ho4; exact (own_cap ho4).1
  have hcl1 : cl.length ≤ 100 := by rw [List.length_append] at hcl; omega
  have hfr := freshN_le M x.ow (cl.map Prod.fst)
  rw [List.length_map] at hfr
  have hnc : cl.length ≤ x.n4 := by rw [hn4, List.length_append]; omega
  have hrd : ∀ W, Below w.heap.size w W → Rd W (.slice (some ⟨g4, 0, none⟩) cl.length x.c4) (cl.map Prod.fst).length (nums (ns (cl.map Prod.fst))) := fun W hW => by
    have h1 := (Kp.of_below hW (fun _ => False)).own ho4 (fun _ _ h => h)
    rw [hA4] at h1
    have h2 := own_first h1 hnc
    have e : (nums (ns ((cl ++ rest).map Prod.fst))).take (cl.length * 1) = nums (ns (cl.map Prod.fst)) := by
      rw [List.map_append]
      unfold nums ns
      rw [List.map_append, List.map_append, Nat.mul_one, List.take_left' (by simp)]
    rw [e] at h2
    rw [List.length_map]
    exact Rd.of_own h2
  by_cases hroom : live (most + 1) M + (freshN M x.ow (cl.map Prod.fst) + q0) ≤ most
  · refine (vreplace x cl.length (freshN M x.ow (cl.map Prod.fst)) q0 g4 0 (.func (.func f) #[] caps) (fun a c w' => ∃ n M', a = .int .i64 (n : Nat) ∧ c = .int .i64 0 ∧ 1 ≤ n ∧ MRes most M P hs k new x.root x.ow l (freshN M x.ow (cl.map Prod.fst) + q0) n M' ∧ Stp w w' x.b most M' F) w hA4 hnc hcap (by omega) (by omega) (fun W hW => ?_) (fun W hW => ?_)).mono ?_
    · have h1 := vfresh x.ow (cl.map Prod.fst) (.slice (some ⟨g4, 0, none⟩) cl.length x.c4) W (h.below hW) (hrd W hW) (by rw [List.length_map]; omega)
      exact h1
    · have h1 := vdo_bk (new := new) (lvj := lvj) (j := j) (lj := lj) (l := l) x f caps [] q0 cl P W (h.below hW) hm hfe hg hn hb hP hw hcl1 (by rw [List.append_nil]; exact hroom) (fun W2 M1 H1 P1 F1 r1 r2 r3 r4 r5 r6 => by
        have h2 := hsw hroom W W2 M1 H1 P1 F1 hW r1 r2 r3 r4 r5 (by
          have : freshN M1 x.ow [] = 0 := rfl
          omega)
        have e : freshN M1 x.ow [] + q0 = q0 := by show 0 + q0 = q0; omega
        rw [e]
        exact h2)
      rw [List.append_nil] at h1
      refine h1.mono ?_
      rintro e W' ⟨n, M', rfl, h1, h2, h3⟩
      exact ⟨_, _, rfl, n, M', rfl, rfl, h1, h2, Stp.from (fun y hy => h.lt hy) hW h3⟩
    · rintro e w' ⟨a, c, rfl, n, M', rfl, rfl, h1, h2, h3⟩
      exact .inr ⟨n, M', rfl, h1, h2, h3⟩
  · refine (vreplace x cl.length (freshN M x.ow (cl.map Prod.fst)) q0 g4 0 (.func (.func f) #[] caps) (fun a c w' => a = .int .i64 0 ∧ c = .int .i64 5 ∧ Below w.heap.size w w') w hA4 hnc hcap (by omega) (by omega) (fun W hW => ?_) (fun W hW => ?_)).mono ?_
    · exact vfresh x.ow (cl.map Prod.fst) (.slice (some ⟨g4, 0, none⟩) cl.length x.c4) W (h.below hW) (hrd W hW) (by rw [List.length_map]; omega)
    · refine (vdo_full x cl.length (freshN M x.ow (cl.map Prod.fst) + q0) (.func (.func f) #[] caps) W (h.below hW) (by omega)).mono ?_
      rintro e W' ⟨rfl, hb2⟩
      exact ⟨_, _, rfl, rfl, rfl, hW.trans (hb2.mono hW.size)⟩
    · rintro e w' ⟨a, c, rfl, rfl, rfl, h3⟩
      exact .inl ⟨rfl, by omega, h3⟩
end

end Go.Proofs.YtdddhmipifkepaaGreat

namespace Go.Proofs.YtdddhmipifkepaaGreat
set_option maxRecDepth 100000
open Go.RowKit
section
variable {most : Nat} {M : Cells} {F : Nat → Prop} {hs : Ky → Nat} {k : Ky} {new : Pr → Prop} {lvj j : Nat} {lj l : List Pr}
set_option maxHeartbeats 1600000 in
theorem vedit_bk (x : Wv) (f : FuncId) (caps : Array Value) (q0 : Nat) (cl rest : List (Nat × Nat)) (bj : Nat) (cj : Hc) (Qc : Cells → Hc → Cells → Prop) (P : Nat → Nat) (w : World) (h : Ar w x.b most M F) (hm : most ≤ 1048576) (hfe : ∀ (args : Array Value) (W : World), (callFunc f args).run Tryz.prog W = .ok (.enter f args) W) (hg : hs k = x.g) (hn : OfK k new)
    (hb : Bk (most + 1) M [] P [x.root]) (hP : ∀ j, P j ≤ 576460752303423488) (hw : Wp M hs k 0 x.root l cl lvj j lj) (hcj : ∃ rj, M j = some (cj, rj)) (hcl : (cl ++ (j, bj) :: rest).length ≤ 100) (hq0 : q0 ≤ 100) (ho4 : w.ownsRow 0 3 1 (.slice x.A4 x.n4 x.c4) x.n4 (nums (ns ((cl ++ (j, bj) :: rest).map Prod.fst)))) (hn4 : x.n4 = (cl ++ (j, bj) :: rest).length)
    (hch : ∀ (W : World) (M1 : Cells) (H1 : List Nat) (P1 : Nat → Nat) (F1 : Nat → Prop), Rn w W x.b most M1 F F1 → Bk (most + 1) M1 H1 P1 [j] → (∀ j, P1 j ≤ 1152921504606846976) → Pres M (blank M1 H1) j → ∀ M2 H2, Way1 most M1 H1 P1 j x.ow cj M2 H2 → live (most + 1) M2 + q0 ≤ most → ChgS f caps x.b most F1 W M2 cj (Fun most M2 H2 (addP P1 j) q0 (Qc M2)))
    (hfin : ∀ (M1 : Cells) (H1 : List Nat) (P1 : Nat → Nat) (M2 : Cells) (H2 : List Nat) (c' : Hc) (M3 : Cells) (n : Nat) (M' : Cells) (q : Nat), Bk (most + 1) M1 H1 P1 [j] → HT (blank M1 H1) hs lvj j lj → Pres M (blank M1 H1) j → Way1 most M1 H1 P1 j x.ow cj M2 H2 → Qc M2 c' M3 → Ren most M1 H1 P1 x.ow q n M' c' M3 H2 → ∃ lj', HT (blank M' H1) hs lvj n lj' ∧ Chd k new lj lj') :
    Calls Tryz.prog 162 #[wagg x, .int .i64 (cl.length : Nat), .int .i64 (q0 : Nat), .func (.func f) #[] caps] w fun e w' => (e = .returned (.tuple #[.int .i64 0, .int .i64 5]) ∧ most < live (most + 1) M + (freshN M x.ow (cl.map Prod.fst ++ [j]) + q0) ∧ Below w.heap.size w w') ∨
      ∃ n M', e = .returned (.tuple #[.int .i64 (n : Nat), .int .i64 0]) ∧ 1 ≤ n ∧ MRes most M P hs k new x.root x.ow l (freshN M x.ow (cl.map Prod.fst ++ [j]) + q0) n M' ∧ Stp w w' x.b most M' F := by
  obtain ⟨rj, hcj⟩ := hcj
  obtain ⟨g4, hA4⟩ : ∃ g4, x.A4 = some ⟨g4, 0, none⟩ := by
    rcases ho4.2 with ⟨_, e⟩ | ⟨g, cap, cur, e, _⟩
    · rw [hn4] at e; simp at e
    · simp only [Value.slice.injEq] at e
      exact ⟨g, e.1⟩
  have hcap : x.n4 ≤ x.c4 := by rw [hA4] at ho4; exact (own_cap ho4).1
  have hcl1 : cl.length + 1 ≤ 100 := by rw [List.length_append, List.length_cons] at hcl; omega
  have hfr := freshN_le M x.ow (cl.map Prod.fst ++ [j])
  rw [List.length_append, List.length_map, List.length_singleton] at hfr
  have hnc : cl.length + 1 ≤ x.n4 := by rw [hn4, List.length_append, List.length_cons]; omega
  have hrd : ∀ W, Below w.heap.size w W → Rd W (.slice (some ⟨g4, 0, none⟩) (cl.length + 1) x.c4) (cl.map Prod.fst ++ [j]).length (nums (ns (cl.map Prod.fst ++ [j]))) := fun W hW => by
    have h1 := (Kp.of_below hW (fun _ => False)).own ho4 (fun _ _ h => h)
    rw [hA4] at h1
    have h2 := own_first h1 hnc
    have e : (nums (ns ((cl ++ (j, bj) :: rest).map Prod.fst))).take ((cl.length + 1) * 1) = nums (ns (cl.map Prod.fst ++ [j])) := by
      rw [show cl ++ (j, bj) :: rest = (cl ++ [(j, bj)]) ++ rest by simp, List.map_append, show (cl ++ [(j, bj)]).map Prod.fst = cl.map Prod.fst ++ [j] by simp]
      unfold nums ns
      rw [List.map_append, List.map_append, Nat.mul_one, List.take_left' (by simp)]
    rw [e] at h2
    rw [List.length_append, List.length_map, List.length_singleton]
    exact Rd.of_own h2
  have hfn : ∀ W, Below w.heap.size w W → Calls Tryz.prog 223 #[ap x.b, .int .u32 x.ow, .slice (some ⟨g4, 0, none⟩) (cl.length + 1) x.c4] W fun e W' => e = .returned (.int .i64 (freshN M x.ow (cl.map Prod.fst ++ [j]) : Nat)) ∧ Below W.heap.size W W' := fun W hW =>
    vfresh x.ow (cl.map Prod.fst ++ [j]) (.slice (some ⟨g4, 0, none⟩) (cl.length + 1) x.c4) W (h.below hW) (hrd W hW) (by rw [List.length_append, List.length_map, List.length_singleton]; omega)
  by_cases hroom : live (most + 1) M + (freshN M x.ow (cl.map Prod.fst ++ [j]) + q0) ≤ most
  · refine (vedit x cl.length (freshN M x.ow (cl.map Prod.fst ++ [j])) q0 g4 0 f caps (fun a c w' => ∃ n M', a = .int .i64 (n : Nat) ∧ c = .int .i64 0 ∧ 1 ≤ n ∧ MRes most M P hs k new x.root x.ow l (freshN M x.ow (cl.map Prod.fst ++ [j]) + q0) n M' ∧ Stp w w' x.b most M' F) w hA4 hnc hcap (by omega) (by omega) (by omega) hfn (fun W z4 z7 hW g4' g7 hne h4 h7 => ?_)).mono ?_
    · have h1 := vdo_bk (new := new) (lvj := lvj) (j := j) (lj := lj) (l := l) x 226 #[.pointer (some ⟨z4, 0, none⟩), .pointer (some ⟨z7, 0, none⟩)] [j] q0 cl P W (h.below hW) hm (fun args W => by kernel_rfl) hg hn hb hP hw (by omega) hroom (fun W2 M1 H1 P1 F1 r1 r2 r3 r4 r5 r6 => by
        have nf : ∀ z, w.heap.size ≤ z → ¬ F z := fun z hz hf => by have := h.lt hf; omega
        have h42 := h4.kp r1.kp (nf z4 g4')
        have h72 := h7.kp r1.kp (nf z7 g7)
        have hcc : contC M1 j = cj := by
          have hjH := (r2.hand (i := j) (by simp) (r5.pos (blank_none.2 r2.zero))).2
          obtain ⟨r', e'⟩ := r4 j cj rj .refl hcj
          rw [blank_out hjH] at e'
          unfold contC
          rw [e']
        have hf1 : freshN M1 x.ow [j] = if aloneB M1 j x.ow = true then 0 else 1 := rfl
        rw [hf1] at r6 ⊢
        have hRn : Rn w W2 x.b most M1 F F1 := ⟨r1.ar, (Kp.of_below hW F).trans r1.kp (fun _ h => .inl h), fun y hy => by
          rcases r1.sub y hy with h1 | h1
          · exact .inl h1
          · exact .inr (Nat.le_trans hW.size h1)⟩
        refine (vedit1 x j f caps z4 z7 (fun v W' => ∃ n2 M2, v = .int .i64 (n2 : Nat) ∧ PR most M1 H1 P1 hs k new lvj lj ((if aloneB M1 j x.ow = true then 0 else 1) + q0) n2 M2 ∧ Stp W2 W' x.b most M2 F1) W2 h42 h72 ?_).mono ?_
        · refine (renewB f caps j x.ow cj q0 (fun M2 _ => Qc M2) W2 r1.ar hfe hm (fun _ => Nat.le_refl _) r3 r2 hcc (by omega) (fun M2 H2 hw1 => hch W2 M1 H1 P1 F1 hRn r2 r3 r4 M2 H2 hw1 (by have := hw1.live; omega))).mono ?_
          rintro e W' ⟨n, M', rfl, hs2, M2, H2, c', M3, hw1, hq, hren⟩
          exact ⟨_, rfl, n, M', rfl, ⟨hren.pos, hren.bk, hren.keeps, hren.holes, by have := hren.live; omega, hfin M1 H1 P1 M2 H2 c' M3 n M' _ r2 r5 r4 hw1 hq hren⟩, hs2⟩
        · rintro e W' ⟨v, rfl, n2, M2, rfl, h1, h2⟩
          exact ⟨n2, M2, rfl, h1, h2⟩)
      refine h1.mono ?_
      rintro e W' ⟨n, M', rfl, h1, h2, h3⟩
      exact ⟨_, _, rfl, n, M', rfl, rfl, h1, h2, Stp.from (fun y hy => h.lt hy) hW h3⟩
    · rintro e w' ⟨a, c, rfl, n, M', rfl, rfl, h1, h2, h3⟩
      exact .inr ⟨n, M', rfl, h1, h2, h3⟩
  · refine (vedit x cl.length (freshN M x.ow (cl.map Prod.fst ++ [j])) q0 g4 0 f caps (fun a c w' => a = .int .i64 0 ∧ c = .int .i64 5 ∧ Below w.heap.size w w') w hA4 hnc hcap (by omega) (by omega) (by omega) hfn (fun W z4 z7 hW g4' g7 hne h4 h7 => ?_)).mono ?_
    · refine (vdo_full x cl.length (freshN M x.ow (cl.map Prod.fst ++ [j]) + q0) _ W (h.below hW) (by omega)).mono ?_
      rintro e W' ⟨rfl, hb2⟩
      exact ⟨_, _, rfl, rfl, rfl, hW.trans (hb2.mono hW.size)⟩
    · rintro e w' ⟨a, c, rfl, rfl, rfl, h3⟩
      exact .inl ⟨rfl, by omega, h3⟩
end

end Go.Proofs.YtdddhmipifkepaaGreat

namespace Go.Proofs.YtdddhmipifkepaaGreat
set_option maxRecDepth 100000
open Go.RowKit
theorem count_insert : ∀ (l : List Nat) (p n k : Nat), p ≤ l.length → (l.insertIdx p n).count k = (n :: l).count k
  | l, 0, n, k, _ => rfl
  | [], p + 1, _, _, h => by simp at h
  | y :: l, p + 1, n, k, h => by
    rw [List.insertIdx_succ_cons]
    have ih := count_insert l p n k (by simpa using h)
    simp only [List.count_cons] at *
    omega
theorem Bk.leaf {N : Nat} {M : Cells} {H hs : List Nat} {P : Nat → Nat} (h : Bk N M H P hs) {n : Nat} (c : Hc) (hc : c.kids = []) (h1 : 1 ≤ n) (hN : n < N) (hn : M n = none) : Bk N (upd M n (some (c, 1))) H P (n :: hs) := by
  refine Bk.make (c := c) (hs := hs) ?_ h1 hN hn (by rw [hc]; decide)
  rw [hc]; exact h
section
variable {most : Nat} {M : Cells} {F : Nat → Prop} {hs : Ky → Nat} {k v : Ky} {l lf : List Pr}
theorem Wy.end13 {lv j : Nat} {lj : List Pr} {y : Nat × Nat} {rest : List (Nat × Nat)} {g : Nat} (h : Wy M hs g lv j lj (y :: rest) lf) (hy : 13 ≤ y.2) : y = (j, 13) ∧ rest = [] ∧ lj = lf ∧ ∃ c r, LeafF M hs lv j lf c r := by
  cases h with
  | leaf h => exact ⟨rfl, rfl, rfl, _, _, h⟩
  | node h => exact absurd hy (by have := h.b13; show ¬ 13 ≤ _; omega)
theorem Wy.part {lv j b : Nat} {lj : List Pr} {rest : List (Nat × Nat)} {near : Pr} (h : Wy M hs (hs k) lv j lj ((j, b) :: rest) lf) (hb : b < 13) (hn : near ∈ lf) (hp : pt (hs near.1) (hs k) = b) : ∃ c r s K L, NodeF M hs lv j lj c r b s K L ∧ (∀ d, d < 32 → s.testBit d = true → HT M hs (b + 1) (K d) (L d)) ∧ s.testBit (dg (hs k) b) = false := by
  generalize hcl : (j, b) :: rest = cl at h
  cases h with
  | leaf h => injection hcl with e1 e2; injection e1 with _ e3; omega
  | @node _ _ _ c r b' s K L d cl' _ h hT hd hx hw =>
    injection hcl with e1 e2
    injection e1 with _ e3
    subst e3
    refine ⟨c, r, s, K, L, h, hT, ?_⟩
    cases e : s.testBit (dg (hs k) b) with
    | false => rfl
    | true =>
      unfold sdx at hx
      rw [if_pos e] at hx
      have hd2 := cnt_inj hd e hx
      have h1 := h.dig d near (hw.sub near hn)
      exact absurd (h1.trans hd2) (by rw [← hp]; exact pt_ne (by rw [hp]; exact hb))
theorem nFz {w W : World} {b : Nat} {M1 : Cells} {F1 : Nat → Prop} {z : Nat} (hr : Rn w W b most M1 F F1) (hz : z < w.heap.size) (hn : ¬ F z) : ¬ F1 z := fun hf => (hr.sub z hf).elim hn (fun h => by omega)
theorem vput_leaf (x : Wv) (zw zk zv j lvj : Nat) (cl : List (Nat × Nat)) (cj : Hc) (rj : Nat) (P : Nat → Nat) (w : World) (h : Ar w x.b most M F) (hm : most ≤ 1048576) (hg : hs k = x.g) (hb : Bk (most + 1) M [] P [x.root]) (hP : ∀ j, P j ≤ 576460752303423488)
    (hw : Wp M hs k 0 x.root l cl lvj j lf) (hL : LeafF M hs lvj j lf cj rj) (hag : ∀ q ∈ lf, ∀ i, i < 13 → dg (hs k) i = dg (hs q.1) i) (hlf : lf.length ≤ 4096) (hcl : cl.length ≤ 90)
    (ho4 : w.ownsRow 0 3 1 (.slice x.A4 x.n4 x.c4) x.n4 (nums (ns ((cl ++ [(j, 13)]).map Prod.fst)))) (hn4 : x.n4 = (cl ++ [(j, 13)]).length) (hat : x.at' = 2 * lowN k lf) (hhas : x.has = hasN k lf)
    (zw' : WC w zw x) (zk' : C3 w zk 36 (.int .u8 k.1) (.int .i64 k.2.1) (.string k.2.2)) (zv' : C3 w zv 36 (.int .u8 v.1) (.int .i64 v.2.1) (.string v.2.2)) (nF : ∀ z, z = zw ∨ z = zk ∨ z = zv → ¬ F z) :
    Calls Tryz.prog 162 #[wagg x, .int .i64 (cl.length : Nat), .int .i64 0, .func (.func 163) #[] #[.pointer (some ⟨zw, 0, none⟩), .pointer (some ⟨zk, 0, none⟩), .pointer (some ⟨zv, 0, none⟩)]] w fun e w' => (e = .returned (.tuple #[.int .i64 0, .int .i64 5]) ∧ most < live (most + 1) M + (freshN M x.ow (cl.map Prod.fst ++ [j]) + 0) ∧ Below w.heap.size w w') ∨
      ∃ n M', e = .returned (.tuple #[.int .i64 (n : Nat), .int .i64 0]) ∧ 1 ≤ n ∧ MRes most M P hs k (fun q => q = (k, v)) x.root x.ow l (freshN M x.ow (cl.map Prod.fst ++ [j]) + 0) n M' ∧ Stp w w' x.b most M' F := by
  refine vedit_bk x 163 #[.pointer (some ⟨zw, 0, none⟩), .pointer (some ⟨zk, 0, none⟩), .pointer (some ⟨zv, 0, none⟩)] 0 cl [] 13 cj (fun M2 c' M3 => c' = { cj with vals := flatP (leafP k v lf) } ∧ M3 = M2) P w h hm (fun args W => by kernel_rfl) hg (fun q hq => by rw [hq]) hb hP hw ⟨rj, hL.cell⟩ (by simp; omega) (by decide) ho4 hn4 (fun W M1 H1 P1 F1 r1 r2 r3 r4 M2 H2 hw1 hl => ?_) (fun M1 H1 P1 M2 H2 c' M3 n M' q r2 r5 r4 hw1 hq hren => ?_)
  · have l1 := zw'.lt
    have l2 := zk'.lt
    have l3 := zv'.lt
    refine (chgS_put2 (M1 := M2) x zw zk zv cj lf k v W (zw'.kp r1.kp (nF _ (.inl rfl))) (zk'.kp r1.kp (nF _ (.inr (.inl rfl)))) (zv'.kp r1.kp (nF _ (.inr (.inr rfl)))) (fun z hz => by
      rcases hz with rfl | rfl | rfl
      · exact nFz r1 l1 (nF _ (.inl rfl))
      · exact nFz r1 l2 (nF _ (.inr (.inl rfl)))
      · exact nFz r1 l3 (nF _ (.inr (.inr rfl)))) hL.vals hat hhas hlf).mono ?_
    rintro c' M3 ⟨rfl, rfl⟩
    have hpl : (leafP k v lf).length ≤ lf.length + 1 := by
      unfold leafP
      split
      · rw [List.length_set]; omega
      · exact List.length_insertIdx_le_succ
    exact ⟨hw1.bk, Keeps.refl _ _, fun _ _ => rfl, Nat.le_refl _, by show (flatP (leafP k v lf)).length ≤ _; rw [flatP_length]; omega, by show cj.kids.length ≤ _; rw [hL.kids]; exact Nat.zero_le _, rfl, rfl⟩
  · obtain ⟨rfl, rfl⟩ := hq
    have hnH := (hren.bk.hand (i := n) (by simp) (by have := hren.pos; omega)).2
    refine leaf_put (M' := blank M' H1) (i' := n) (r' := 1) (ow := x.ow) (a := cj.a) hL hag ?_
    rw [blank_out hnH, hren.cell]
    show some (({ cj with vals := flatP (leafP k v lf), owner := x.ow } : Hc), 1) = _
    rw [show cj = ⟨cj.owner, cj.a, cj.b, cj.vals, cj.kids⟩ from rfl, hL.cb, hL.kids]
    rfl
theorem vput_kid (x : Wv) (zw zk zv j lvj b : Nat) (cl rest : List (Nat × Nat)) (near : Pr) (lj : List Pr) (P : Nat → Nat) (w : World) (h : Ar w x.b most M F) (hm : most ≤ 1048576) (hg : hs k = x.g) (hb : Bk (most + 1) M [] P [x.root]) (hP : ∀ j, P j ≤ 576460752303423488)
    (hw : Wp M hs k 0 x.root l cl lvj j lj) (hy : Wy M hs (hs k) lvj j lj ((j, b) :: rest) lf) (hb13 : b < 13) (hnear : near ∈ lf) (hp : pt (hs near.1) (hs k) = b) (hcl : (cl ++ (j, b) :: rest).length ≤ 100)
    (ho4 : w.ownsRow 0 3 1 (.slice x.A4 x.n4 x.c4) x.n4 (nums (ns ((cl ++ (j, b) :: rest).map Prod.fst)))) (hn4 : x.n4 = (cl ++ (j, b) :: rest).length)
    (zw' : WC w zw x) (zk' : C3 w zk 36 (.int .u8 k.1) (.int .i64 k.2.1) (.string k.2.2)) (zv' : C3 w zv 36 (.int .u8 v.1) (.int .i64 v.2.1) (.string v.2.2)) (nF : ∀ z, z = zw ∨ z = zk ∨ z = zv → ¬ F z) :
    Calls Tryz.prog 162 #[wagg x, .int .i64 (cl.length : Nat), .int .i64 1, .func (.func 165) #[] #[.pointer (some ⟨zw, 0, none⟩), .pointer (some ⟨zk, 0, none⟩), .pointer (some ⟨zv, 0, none⟩)]] w fun e w' => (e = .returned (.tuple #[.int .i64 0, .int .i64 5]) ∧ most < live (most + 1) M + (freshN M x.ow (cl.map Prod.fst ++ [j]) + 1) ∧ Below w.heap.size w w') ∨
      ∃ n M', e = .returned (.tuple #[.int .i64 (n : Nat), .int .i64 0]) ∧ 1 ≤ n ∧ MRes most M P hs k (fun q => q = (k, v)) x.root x.ow l (freshN M x.ow (cl.map Prod.fst ++ [j]) + 1) n M' ∧ Stp w w' x.b most M' F := by
  obtain ⟨c, r, s, K, L, hN, hT, hbit⟩ := hy.part hb13 hnear hp
  have hk32 : c.kids.length ≤ 32 := by rw [hN.len]; exact cnt_le32 32
  have hcs : cnt s (dg (hs k) b) ≤ c.kids.length := by rw [hN.len]; exact cnt_mono s (Nat.le_of_lt (dg_lt _ _))
  have hnj : near ∈ lj := hy.sub near hnear
  refine vedit_bk x 165 #[.pointer (some ⟨zw, 0, none⟩), .pointer (some ⟨zk, 0, none⟩), .pointer (some ⟨zv, 0, none⟩)] 1 cl rest b c (fun M2 c' M3 => ∃ n : Nat, 1 ≤ n ∧ n ≤ most ∧ M2 n = none ∧ M3 = upd M2 n (some (⟨x.ow, 0, 13, [k, v], []⟩, 1)) ∧ c' = { c with kids := c.kids.insertIdx (cnt s (dg (hs k) b)) n, a := ((s ||| 2 ^ dg (hs k) b : Nat) : Int) }) P w h hm (fun args W => by kernel_rfl) hg (fun q hq => by rw [hq]) hb hP hw ⟨r, hN.cell⟩ hcl (by decide) ho4 hn4 (fun W M1 H1 P1 F1 r1 r2 r3 r4 M2 H2 hw1 hl => ?_) (fun M1 H1 P1 M2 H2 c' M3 n M' q r2 r5 r4 hw1 hq hren => ?_)
  · have l1 := zw'.lt
    have l2 := zk'.lt
    have l3 := zv'.lt
    have hput := chgS_put3 (M1 := M2) (F := F1) (most := most) x zw zk zv s b k v W (zw'.kp r1.kp (nF _ (.inl rfl))) (zk'.kp r1.kp (nF _ (.inr (.inl rfl)))) (zv'.kp r1.kp (nF _ (.inr (.inr rfl)))) (fun z hz => by
      rcases hz with rfl | rfl | rfl
      · exact nFz r1 l1 (nF _ (.inl rfl))
      · exact nFz r1 l2 (nF _ (.inr (.inl rfl)))
      · exact nFz r1 l3 (nF _ (.inr (.inr rfl)))) c hN.ca hN.s32 hN.cb hb13 (by omega) (by rw [← hg]; exact hcs) (by omega)
    rw [← hg] at hput
    refine hput.mono ?_
    rintro c' M3 ⟨n, n1, n2, n3, rfl, rfl⟩
    refine ⟨?_, fun r0 h0 hr => Pres.all (all_blank (all_new n3 _)), fun y hy => ?_, ?_, by show c.vals.length ≤ _; rw [hN.vals]; exact Nat.zero_le _, by show (c.kids.insertIdx _ n).length ≤ _; rw [List.length_insertIdx_of_le_length hcs]; omega, n, n1, n2, n3, rfl, rfl⟩
    · exact (hw1.bk.leaf ⟨x.ow, 0, 13, [k, v], []⟩ rfl n1 (by omega) n3).perm (fun q _ => (count_insert c.kids _ n q hcs).symm)
    · have hyn : y ≠ n := fun e => by have := (hw1.bk.hole y hy).2; rw [e, n3] at this; simp [rf] at this
      exact upd_other _ _ hyn
    · have h1 := live_upd (M := M2) (N := most + 1) n (some (⟨x.ow, 0, 13, [k, v], []⟩, 1)) (by omega)
      rw [n3] at h1
      simp only [one] at h1
      omega
  · obtain ⟨nn, n1, n2, n3, rfl, rfl⟩ := hq
    have hnH := (hren.bk.hand (i := n) (by simp) (by have := hren.pos; omega)).2
    have hz := hb.zero
    have hz1 : blank M1 H1 0 = none := blank_none.2 r2.zero
    have hz2 : blank M2 H2 0 = none := blank_none.2 hw1.bk.zero
    have hz3 : blank (upd M2 nn (some (⟨x.ow, 0, 13, [k, v], []⟩, 1))) H2 0 = none := blank_none.2 (by rw [upd_other _ _ (by omega)]; exact hw1.bk.zero)
    have hj0 : j ≠ 0 := fun e => by have := hN.cell; rw [e, hz] at this; cases this
    have hnnH : nn ∉ H2 := fun hx => by have := (hw1.bk.hole nn hx).2; rw [n3] at this; simp [rf] at this
    have hnnm : nn ∈ c.kids.insertIdx (cnt s (dg (hs k) b)) nn := (List.mem_insertIdx hcs).2 (.inl rfl)
    refine node_add (M := M) (M' := blank M' H1) (i' := n) (r' := 1) (ow := x.ow) (k' := nn) (Ld := [(k, v)]) hN hbit (fun e he32 he => ?_) ?_ ?_ (fun q hq => by rw [hq]) (fun q => by simp) (fun q hq i hi => ?_)
    · have hke := hN.kid e he32 he
      have h0e := (hT e he32 he).pos hz
      have hkm : K e ∈ c.kids := List.mem_of_getElem? hke
      have t1 := (hT e he32 he).pres hz (r4.kid hN.cell hkm h0e)
      have t2 := t1.pres hz1 (hw1.kids _ hkm h0e)
      have t3 := t2.pres hz2 (M' := blank (upd M2 nn (some (⟨x.ow, 0, 13, [k, v], []⟩, 1))) H2) (Pres.all (all_blank (all_new n3 _)))
      exact t3.pres hz3 (hren.kids _ ((List.mem_insertIdx hcs).2 (.inr hkm)) h0e)
    · rw [blank_out hnH]
      exact hren.cell
    · have t0 : HT (blank (upd M2 nn (some (⟨x.ow, 0, 13, [k, v], []⟩, 1))) H2) hs (b + 1) nn [(k, v)] := leaf_one (ow := x.ow) (a := 0) (r' := 1) (by rw [blank_out hnnH, upd_same]) (by omega)
      exact t0.pres hz3 (hren.kids _ hnnm (by omega))
    · rw [← pt_eq (show i < pt (hs near.1) (hs k) by omega)]
      exact hN.agr near hnj q hq i hi
end

end Go.Proofs.YtdddhmipifkepaaGreat
