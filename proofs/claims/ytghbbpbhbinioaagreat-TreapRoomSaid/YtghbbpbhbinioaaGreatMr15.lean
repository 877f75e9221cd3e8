/- Several texts in one. -/
import Derived.Test.YtghbbpbhbinioaaGreatMr14
import Derived.Test.YtghbbpbhbinioaaGreatMr11
import Derived.Test.YtghbbpbhbinioaaGreatMr10
import Derived.Test.YtghbbpbhbinioaaGreatMr08
set_option linter.unusedSimpArgs false
namespace Go.Proofs.YtghbbpbhbinioaaGreat
set_option maxRecDepth 100000
set_option linter.unusedSimpArgs false
set_option linter.unusedVariables false
open Go.RowKit
structure PT (most : Nat) (M : Cells) (H : List Nat) (P : Nat → Nat) (pre suf : List Pr) (q p0 p1 : Nat) (M' : Cells) : Prop where
  bk : Bk (most + 1) M' H P [p0, p1]
  keeps : Keeps P (blank M H) (blank M' H)
  holes : ∀ x ∈ H, M' x = M x
  live : live (most + 1) M' ≤ Proofs.YtghbbpbhbinioaaGreat.live (most + 1) M + q
  t0 : TT (blank M' H) p0 pre
  t1 : TT (blank M' H) p1 suf
def partPre (s : Nat) (p : Pr) (lo pre : List Pr) : List Pr := if s = 0 then pre else lo ++ p :: pre
def partSuf (s : Nat) (p : Pr) (lo suf : List Pr) : List Pr := if s = 0 then suf ++ p :: lo else suf
section
variable {most : Nat} {M : Cells} {H : List Nat} {P : Nat → Nat} {F : Nat → Prop}
set_option maxHeartbeats 8000000 in
theorem vpart_step (x : Yv) (n : Nv) (l : List Nv) (A : Option Addr) (c s q : Nat) (lo pre suf : List Pr) (w : World) (h : Ar w x.b most M F) (hm : most ≤ 1048576) (hb : Bk (most + 1) M H P [n.cell]) (hP : ∀ j, P j + 64 ≤ 1152921504606846976) (hs : s = sideN n x.key)
    (hN : NdN (blank M H) n) (hlo : TT (blank M H) (kidO n s) lo) (hsrt : Srt h0 (partPre s (n.key, n.val) lo pre ++ partSuf s (n.key, n.val) lo suf)) (hcap : l.length + 1 ≤ c) (hlen : l.length ≤ 1100) (hnl : NL w A (n :: l)) (hAg : ∀ a, A = some a → ¬ F a.block) (hroom : live (most + 1) M + (1 + q) ≤ most)
    (hrest : ∀ (W : World) (M1 : Cells) (H1 : List Nat) (P1 : Nat → Nat) (F1 : Nat → Prop) (A1 : Option Addr) (c1 : Nat), Rn w W x.b most M1 F F1 → Bk (most + 1) M1 H1 P1 [kidN n s] → (∀ j, P1 j ≤ P j + 2) → (kidN n s ≠ 0 → Pres (blank M H) (blank M1 H1) (kidN n s)) → live (most + 1) M1 + q ≤ most → NL W A1 l → l.length ≤ c1 → (∀ a, A1 = some a → l ≠ [] → ¬ F1 a.block) →
      Calls Tryz.prog 124 #[yagg x, .slice A1 l.length c1] W fun e W' => ∃ (q0 q1 : Nat) (M2 : Cells), e = .returned (.agg #[.int .i64 (q0 : Nat), .int .i64 (q1 : Nat)]) ∧ PT most M1 H1 P1 pre suf q q0 q1 M2 ∧ Stp W W' x.b most M2 F1) :
    Calls Tryz.prog 124 #[yagg x, .slice A (l.length + 1) c] w fun e w' => ∃ (p0 p1 : Nat) (M' : Cells), e = .returned (.agg #[.int .i64 (p0 : Nat), .int .i64 (p1 : Nat)]) ∧ PT most M H P (partPre s (n.key, n.val) lo pre) (partSuf s (n.key, n.val) lo suf) (1 + q) p0 p1 M' ∧ Stp w w' x.b most M' F := by
  have hF : ∀ q, F q → q < w.heap.size := fun q hq => h.lt hq
  have hs01 : s = 0 ∨ s = 1 := by rw [hs]; unfold sideN; split <;> simp
  obtain ⟨c0, r0, hN0⟩ := hN
  have hiH := (hb.hand (i := n.cell) (by simp) hN0.ne).2
  have hMi : M n.cell = some (c0, r0) := by have := hN0.cell; rwa [blank_out hiH] at this
  have hcc : contC M n.cell = c0 := by unfold contC; rw [hMi]
  have hg : ∃ g o, A = some ⟨g, o, none⟩ ∧ g < w.heap.size := by
    obtain ⟨g, o, e, hg, _⟩ := hnl.head
    exact ⟨g, o, e, hg⟩
  obtain ⟨g, o, rfl, hgl⟩ := hg
  have hAg' := hAg _ rfl
  simp only at hAg'
  have hnl2 := hnl.tail
  have hFs : ∀ z, w.heap.size ≤ z → ¬ F z := fun z hz hf => by have := hF z hf; omega
  refine (vpart_cons x n l (some ⟨g, o, none⟩) c s (fun m p0 p1 M' => PT most M H P (partPre s (n.key, n.val) lo pre) (partSuf s (n.key, n.val) lo suf) (1 + q) (if s = 0 then p0 else m) (if s = 0 then m else p1) M') w hs hnl (by omega) h (fun a e => hAg a e) (fun W z2 z3 z5 z6 hW g2 g3 g5 g6 o25 o35 o56 b2 b3 b5 b6 => ?_)).mono ?_
  · have hA := h.below hW
    refine (vedit_cell x n 161 #[.pointer (some ⟨z2, 0, none⟩), .pointer (some ⟨z3, 0, none⟩), .pointer (some ⟨z5, 0, none⟩), .pointer (some ⟨z6, 0, none⟩)] (fun v W' => ∃ (m p0 p1 : Nat) (M' : Cells), v = .int .i64 (m : Nat) ∧ PT most M H P (partPre s (n.key, n.val) lo pre) (partSuf s (n.key, n.val) lo suf) (1 + q) (if s = 0 then p0 else m) (if s = 0 then m else p1) M' ∧ C2 W' z5 142 (.int .i64 (p0 : Nat)) (.int .i64 (p1 : Nat)) ∧ StpX W W' x.b most M' F (fun z => z = z5)) W (fun W2 y3 y4 y5 hW2 k3 k4 k5 ne34 ne45 d3 d4 d5 => ?_)).mono ?_
    · have hA2 := hA.below hW2
      have hWs := hW.size
      have hW2s := hW2.size
      have l2 := b2.lt
      have l3 := b3.lt
      have l5 := b5.lt
      have l6 := b6.lt
      have ly := d4.lt
      obtain ⟨X, hXe⟩ : ∃ X : Nat → Prop, X = fun z => z = z5 ∨ z = y4 := ⟨_, rfl⟩
      have hXX : ∀ z, X z → z < W2.heap.size := fun z hz => by rw [hXe] at hz; omega
      have b5' := b5.below hW2
      obtain ⟨P1, hP1⟩ : ∃ P1 : Nat → Nat, P1 = fun k => addP P n.cell k + [kidO n s].count k := ⟨_, rfl⟩
      refine (renewX (P := P) (P0 := P) 160 #[.pointer (some ⟨y5, 0, none⟩), .pointer (some ⟨y4, 0, none⟩), .pointer (some ⟨y3, 0, none⟩)] n.cell x.ow c0 q
        (fun M1 H1 ex W' c' M2 => ∃ q0 q1 : Nat, ex = [if s = 0 then q0 else q1] ∧ C2 W' z5 142 (.int .i64 (q0 : Nat)) (.int .i64 (q1 : Nat)) ∧ PT most M1 H1 P1 pre suf q q0 q1 M2 ∧ c'.vals = [n.key, n.val] ∧ c'.kids = [(setK n s (if s = 0 then q1 else q0)).kx, (setK n s (if s = 0 then q1 else q0)).ky]) W2 hXX hA2 (fun args W => by kernel_rfl) hm (fun k => Nat.le_refl _) (fun j => by have := hP j; omega) hb hcc (by split <;> omega) (fun M1 H1 ex c' M2 Wa Wb F' ⟨q0, q1, e1, e2, e3⟩ hk hF' => ⟨q0, q1, e1, e2.kp hk (fun hf => (hF' z5 hf).elim (hFs z5 g5) (fun h => by omega)), e3⟩) (fun M1 H1 hw1 => ?_)).mono ?_
      · have hadd : ∀ j, addP P n.cell j ≤ P j + 1 := fun j => by unfold addP; split <;> omega
        have hP1b : ∀ j, P1 j ≤ P j + 2 := fun j => by rw [hP1]; have := hadd j; have := count1_le (kidO n s) j; show addP P n.cell j + _ ≤ _; omega
        have hhole : ∀ y ∈ H1, 1 ≤ addP P n.cell y := fun y hy => by
          rcases hw1.way with ⟨_, _, e⟩ | ⟨_, _, e⟩
          · rw [e] at hy
            rcases List.mem_cons.1 hy with rfl | hy
            · exact addP_self _ _
            · exact Nat.le_trans (hb.hole y hy).1 (addP_le _ _ _)
          · rw [e] at hy
            exact Nat.le_trans (hb.hole y hy).1 (addP_le _ _ _)
        have hb2 : Bk (most + 1) M1 H1 P1 [kidN n s] := hw1.bk.move (fun k' _ => by
          rw [hP1, hN0.kids, kids_count n s k']
          show addP P n.cell k' + _ = addP P n.cell k' + _ + _
          omega) (fun y hy => by
          rw [hP1]
          exact Nat.le_trans (hhole y hy) (Nat.le_add_right _ _))
        have hka : ∀ k, k ∈ [n.kx, n.ky] → k ≠ 0 → Pres (blank M H) (blank M1 H1) k := fun k hk h0 => hw1.kids k (by rw [hN0.kids]; exact hk) h0
        have hl1 := hw1.live
        refine (chgY_edit (Rin := fun n' M2 W' => ∃ q0 q1 : Nat, n' = setK n s (if s = 0 then q1 else q0) ∧ C2 W' z5 142 (.int .i64 (q0 : Nat)) (.int .i64 (q1 : Nat)) ∧ PT most M1 H1 P1 pre suf q q0 q1 M2) x n y3 y4 y5 161 #[.pointer (some ⟨z2, 0, none⟩), .pointer (some ⟨z3, 0, none⟩), .pointer (some ⟨z5, 0, none⟩), .pointer (some ⟨z6, 0, none⟩)] c0 W2 (fun n' M2 Wa Wb F' ⟨q0, q1, e1, e2, e3⟩ hk hF' => ⟨q0, q1, e1, e2.kp hk (fun hf => (hF' z5 hf).elim (hFs z5 g5) (fun h => by omega)), e3⟩) (fun args W => by kernel_rfl) hXX d3 d4 d5 ⟨hFs _ (by omega), fun hx => by rw [hXe] at hx; omega⟩ (hFs _ (by omega)) (hFs _ (by omega)) (fun W5 F1 hRn hnb => ?_)).mono ?_
        · have hF1 : ∀ z, F1 z → F z ∨ W2.heap.size ≤ z := hRn.sub
          have nF1 : ∀ z, w.heap.size ≤ z → z < W2.heap.size → ¬ F1 z := fun z h1 h2 hz => (hF1 z hz).elim (hFs z h1) (fun h3 => by omega)
          have b2' := (b2.below hW2).kp hRn.kp (hFs _ g2)
          have b3' := (b3.below hW2).kp hRn.kp (hFs _ g3)
          have b5'' := b5'.kp hRn.kp (hFs _ g5)
          have b6' := (b6.below hW2).kp hRn.kp (hFs _ g6)
          have rnw : Rn w W5 x.b most M1 F F1 := ⟨hRn.ar, (Kp.of_below (hW.trans (hW2.mono hWs)) F).trans hRn.kp (fun _ => .inl), fun z hz => (hF1 z hz).imp id (fun hz => by omega)⟩
          refine (vpartC (F1 := F1) (most := most) x n l g o c z2 z3 z5 z6 y4 s (fun q0 q1 M2 => PT most M1 H1 P1 pre suf q q0 q1 M2) W5 (fun z hz => hRn.ar.lt hz) ⟨b2', b3'⟩ b5'' b6' hnb hs01 ⟨by omega, by omega, by omega, by omega, by omega⟩ ⟨nF1 _ g2 (by omega), nF1 _ g3 (by omega), nF1 _ g5 (by omega), nF1 _ g6 (by omega), nF1 _ (by omega) ly⟩ hcap (by omega) (fun W6 A1 c1 hb6 hA1 hc1 => ?_)).mono ?_
          · have hrn6 : Rn w W6 x.b most M1 F F1 := ⟨rnw.ar.below hb6, rnw.kp.trans (Kp.of_below hb6 (fun _ => False)) (fun _ h => h.elim), rnw.sub⟩
            have hnl6 : NL W6 A1 l ∧ ∀ a, A1 = some a → l ≠ [] → ¬ F1 a.block := by
              rcases hA1 with rfl | ⟨h0, rfl⟩
              · exact ⟨hnl2.kp hrn6.kp (fun a e _ => by cases e; exact hAg'), fun a e _ => by cases e; exact fun hz => (hF1 g hz).elim hAg' (fun h3 => by omega)⟩
              · have e := List.eq_nil_of_length_eq_zero h0
                exact ⟨by rw [e]; exact NL.nil _ _, fun _ _ hne => absurd e hne⟩
            exact hrest W6 M1 H1 P1 F1 A1 c1 hrn6 hb2 hP1b (fun h0 => hka _ (kidN_mem n s) h0) (by omega) hnl6.1 hc1 hnl6.2
          · rintro e W' ⟨r, q0, q1, M2, F2, rfl, hT, hc5, hnb2, hR⟩
            exact ⟨r, _, M2, F2, rfl, hnb2, by rw [hXe]; exact hR, q0, q1, rfl, hc5, hT⟩
        · rintro c' M2 Wf ⟨n', ⟨q0, q1, rfl, hc5, hT⟩, hv, hk⟩
          rw [(setK_kv n s _).1, (setK_kv n s _).2] at hv
          refine ⟨[if s = 0 then q0 else q1], ⟨hT.bk.move (fun k' _ => ?_) hhole, hT.keeps.less (fun k' => by rw [hP1]; exact Nat.le_add_right _ _), hT.holes, hT.live, by rw [hv]; exact (by decide : 2 ≤ 4194304), by rw [hk]; exact (by decide : 2 ≤ 64), (by decide : 1 ≤ 64), q0, q1, rfl, hc5, hT, hv, hk⟩⟩
          rw [List.count_append, hk, setK_count n s _ k', hP1, count2]
          show addP P n.cell k' + _ + _ = _ + _
          split <;> omega
      · rintro e W' ⟨m, M', rfl, hst, M1, H1, ex, c', M2, hw1, ⟨q0, q1, rfl, hc5, hT, hv, hk⟩, hren⟩
        have hmH := (hren.bk.hand (i := m) (by simp) (by have := hren.pos; omega)).2
        have hnd : NdC (blank M' H) m { c' with owner := x.ow } 1 n.key n.val (setK n s (if s = 0 then q1 else q0)).kx (setK n s (if s = 0 then q1 else q0)).ky := ⟨by rw [blank_out hmH]; exact hren.cell, by have := hren.pos; omega, hv, hk⟩
        have tO : TT (blank M' H) (kidO n s) lo := hlo.pres (fun h0 => ((hw1.kids _ (by rw [hN0.kids]; exact kidO_mem n s) h0).trans (hT.keeps _ h0 (by rw [hP1]; show 1 ≤ addP P n.cell _ + [kidO n s].count (kidO n s); simp))).trans (hren.kids _ (by rw [hk]; exact (setK_mem n s _).2) h0))
        have hlv := hren.live
        have hif : (if aloneB M n.cell x.ow = true then 0 else 1) ≤ 1 := by split <;> decide
        have k0 : StpX W W' x.b most M' F (fun z => z = z5) := ⟨hst.ar.mono (fun z hz => hz.imp id (fun hz => ⟨by omega, hz.2⟩)) (fun z hz => hz.elim (fun hz => by have := hF z hz; have := hst.kp.size; omega) (fun hz => hz.2)), (Kp.of_below hW2 (FX F (fun z => z = z5))).trans hst.kp (fun z hz => hz.elim (fun hz => .inl (.inl hz)) (fun hz => by rw [hXe] at hz; exact hz.elim (fun hz => .inl (.inr hz)) (fun e => .inr (by omega))))⟩
        have hpt : PT most M H P (partPre s (n.key, n.val) lo pre) (partSuf s (n.key, n.val) lo suf) (1 + q) (if s = 0 then q0 else m) (if s = 0 then m else q1) M' := by
          rcases hs01 with e | e
          · subst e
            have tm : TT (blank M' H) q1 suf := hT.t1.pres (fun h0 => hren.kids q1 (by rw [hk]; exact (setK_mem n 0 q1).1) h0)
            exact ⟨hren.bk.perm (fun k' _ => by show [m, q0].count k' = [q0, m].count k'; rw [count2, count2]; omega), hren.keeps, hren.holes, by omega, hT.t0.pres (fun h0 => hren.hand q0 (by simp) h0), .node hnd tm tO (List.Pairwise.sublist (List.sublist_append_right _ _) hsrt)⟩
          · subst e
            have tm : TT (blank M' H) q0 pre := hT.t0.pres (fun h0 => hren.kids q0 (by rw [hk]; exact (setK_mem n 1 q0).1) h0)
            exact ⟨hren.bk, hren.keeps, hren.holes, by omega, .node hnd tO tm (List.Pairwise.sublist (List.sublist_append_left _ _) hsrt), hT.t1.pres (fun h0 => hren.hand q1 (by simp) h0)⟩
        exact ⟨_, rfl, m, q0, q1, M', rfl, hpt, hc5, k0⟩
    · rintro e W' ⟨v, rfl, m, p0, p1, M', rfl, hT, hc5, hS⟩
      exact ⟨m, p0, p1, M', rfl, hT, hc5, hS⟩
  · rintro e w' ⟨m, p0, p1, M', rfl, hT, hS⟩
    exact ⟨_, _, M', rfl, hT, hS⟩
set_option maxHeartbeats 8000000 in
theorem vpart_bk (x : Yv) (hm : most ≤ 1048576) :
    ∀ (cl : List Nv) (A : Option Addr) (c rx ry : Nat) (lx ly : List Pr) (x' y' : Nat) (lx' ly' pre suf : List Pr) (M : Cells) (H : List Nat) (P : Nat → Nat) (F : Nat → Prop) (w : World), Ar w x.b most M F → Bk (most + 1) M H P [rx] → (∀ j, P j + 64 * cl.length ≤ 1152921504606846976) → Ch (blank M H) x.key cl rx ry lx ly x' y' lx' ly' pre suf → ry = 0 → x' = 0 → y' = 0 → Srt h0 (pre ++ suf) → cl.length ≤ c → cl.length ≤ 1100 → NL w A cl → (∀ a, A = some a → cl ≠ [] → ¬ F a.block) → live (most + 1) M + cl.length ≤ most →
      Calls Tryz.prog 124 #[yagg x, .slice A cl.length c] w fun e w' => ∃ (p0 p1 : Nat) (M' : Cells), e = .returned (.agg #[.int .i64 (p0 : Nat), .int .i64 (p1 : Nat)]) ∧ PT most M H P pre suf cl.length p0 p1 M' ∧ Stp w w' x.b most M' F := by
  intro cl
  induction cl with
  | nil =>
    intro A c rx ry lx ly x' y' lx' ly' pre suf M H P F w h hb hP hCh e1 e2 e3 hsrt hcap hlen hnl hAg hroom
    cases hCh with
    | nil hx hy =>
      refine (vpart_nil x A c w).mono ?_
      rintro e w' ⟨rfl, hbw⟩
      subst e2
      exact ⟨0, 0, M, rfl, ⟨hb.perm (fun k hk => by rw [count2]; have : [0].count k = 0 := by rw [List.count_cons_of_ne (by simpa using (by omega : 0 ≠ k))]; rfl
                                                    omega), Keeps.refl _ _, fun _ _ => rfl, Nat.le_refl _, .nil, .nil⟩, Stp.below h hbw⟩
  | cons n cl ih =>
    intro A c rx ry lx ly x' y' lx' ly' pre suf M H P F w h hb hP hCh e1 e2 e3 hsrt hcap hlen hnl hAg hroom
    cases hCh with
    | @xr _ _ _ _ _ la lb _ _ _ pre _ hn hlt ha hrec =>
      have hsd : 1 = sideN n x.key := by unfold sideN; rw [if_neg]; have h1 := h0_klt.1 hlt; have h2 := vc_swap n.key x.key; omega
      have hkn : kidN n 1 = n.ky := rfl
      have hko : kidO n 1 = n.kx := rfl
      have hLe : (la ++ (n.key, n.val) :: pre) = partPre 1 (n.key, n.val) la pre := by simp [partPre]
      have hLf : suf = partSuf 1 (n.key, n.val) la suf := by simp [partSuf]
      rw [hLe, hLf] at hsrt ⊢
      have hsr2 : Srt h0 (pre ++ suf) := by
        refine List.Pairwise.sublist ?_ hsrt
        exact List.Sublist.append ((List.sublist_cons_self _ _).trans (List.sublist_append_right _ _)) (List.Sublist.refl _)
      rw [show (n :: cl).length = 1 + cl.length by rw [List.length_cons]; omega]
      have hl1 : 1 + cl.length = cl.length + 1 := Nat.add_comm _ _
      rw [hl1]
      have step := vpart_step x n cl A c 1 cl.length la pre suf w h hm hb (fun j => by have := hP j; rw [List.length_cons] at this; omega) hsd hn (by rw [hko]; exact ha) hsrt hcap (by rw [List.length_cons] at hlen; omega) hnl (fun a e => hAg a e (by simp)) (by rw [List.length_cons] at hroom; omega) (fun W M1 H1 P1 F1 A1 c1 r1 r2 r3 r4 r6 r7 r8 r9 => ?_)
      · rw [hl1] at step
        exact step
      · rw [hkn] at r2 r4
        refine ih A1 c1 n.ky ry lb ly _ _ _ _ pre suf M1 H1 P1 F1 W r1.ar r2 (fun j => by have := r3 j; have := hP j; rw [List.length_cons] at this; omega) (hrec.pres (M' := blank M1 H1) r4 (fun h0 => absurd e1 h0)) e1 e2 e3 hsr2 r8 (by rw [List.length_cons] at hlen; omega) r7 r9 (by omega)
    | @xl _ _ _ _ la lb _ _ _ suf hn hgt hb1 hrec =>
      have hsd : 0 = sideN n x.key := by unfold sideN; rw [if_pos]; have h1 := h0_klt.1 hgt; omega
      have hkn : kidN n 0 = n.kx := rfl
      have hko : kidO n 0 = n.ky := rfl
      have hLe : pre = partPre 0 (n.key, n.val) lb pre := by simp [partPre]
      have hLf : (suf ++ (n.key, n.val) :: lb) = partSuf 0 (n.key, n.val) lb suf := by simp [partSuf]
      rw [hLe, hLf] at hsrt ⊢
      have hsr2 : Srt h0 (pre ++ suf) := by
        refine List.Pairwise.sublist ?_ hsrt
        exact List.Sublist.append (List.Sublist.refl _) (List.sublist_append_left _ _)
      rw [show (n :: cl).length = 1 + cl.length by rw [List.length_cons]; omega]
      have hl1 : 1 + cl.length = cl.length + 1 := Nat.add_comm _ _
      rw [hl1]
      have step := vpart_step x n cl A c 0 cl.length lb pre suf w h hm hb (fun j => by have := hP j; rw [List.length_cons] at this; omega) hsd hn (by rw [hko]; exact hb1) hsrt hcap (by rw [List.length_cons] at hlen; omega) hnl (fun a e => hAg a e (by simp)) (by rw [List.length_cons] at hroom; omega) (fun W M1 H1 P1 F1 A1 c1 r1 r2 r3 r4 r6 r7 r8 r9 => ?_)
      · rw [hl1] at step
        exact step
      · rw [hkn] at r2 r4
        refine ih A1 c1 n.kx 0 la [] _ _ _ _ pre suf M1 H1 P1 F1 W r1.ar r2 (fun j => by have := r3 j; have := hP j; rw [List.length_cons] at this; omega) (hrec.pres (M' := blank M1 H1) r4 (fun h0 => absurd rfl h0)) rfl e2 e3 hsr2 r8 (by rw [List.length_cons] at hlen; omega) r7 r9 (by omega)
    | @yl _ _ _ _ _ la lb _ _ _ _ suf hn hgt hb1 hrec => exact absurd e1 hn.ne
end
end Go.Proofs.YtghbbpbhbinioaaGreat

namespace Go.Proofs.YtghbbpbhbinioaaGreat
set_option maxRecDepth 100000
set_option linter.unusedSimpArgs false
set_option linter.unusedVariables false
open Go.RowKit
section
variable {most : Nat} {M : Cells} {F : Nat → Prop}
set_option maxHeartbeats 8000000 in
theorem wread (x : Yv) (i s : Nat) (lo hi : Option Addr) (nd : Int → Nv) (ok : Bool) (w : World) (h : Ar w x.b most M F)
    (hr : ∀ W, Below w.heap.size w W → Calls Tryz.prog 77 #[land x.b x.bh, plagg i lo hi s] W fun e W' => ∃ ρ, e = .returned (.tuple #[nagg (nd ρ), .bool ok]) ∧ Below W.heap.size W W') :
    Calls Tryz.prog 110 #[yagg x, plagg i lo hi s] w fun e w' => ∃ ρ, e = .returned (.tuple #[nagg { nd ρ with fresh := max s (freshN M x.ow [i]) }, .bool ok]) ∧ Below w.heap.size w w' := by
  obtain ⟨fr, hfr⟩ : ∃ fr, fr = freshN M x.ow [i] := ⟨_, rfl⟩
  rw [← hfr]
  have HFR := Lib.hid hfr
  clear hfr
  have hb : Below w.heap.size w (((w.alloc (.cells (ycells x) 146)).alloc (.cells (pcell4 i lo hi s) 141)).alloc (.cells (ncells nzero) 144)) := (((Below.refl _ w).alloc (Nat.le_refl _) _).alloc (by simp) _).alloc (by simp; omega) _
  have e1 : (w.alloc (.cells (ycells x) 146)).heap.size = w.heap.size + 1 := by simp
  have e2 : ((w.alloc (.cells (ycells x) 146)).alloc (.cells (pcell4 i lo hi s) 141)).heap.size = w.heap.size + 1 + 1 := by simp
  have q2 := ((BC.new w 146 (ycells x)).alloc (.cells (pcell4 i lo hi s) 141)).alloc (.cells (ncells nzero) 144)
  have q3 := (BC.new (w.alloc (.cells (ycells x) 146)) 141 (pcell4 i lo hi s)).alloc (.cells (ncells nzero) 144)
  have q4 := BC.new ((w.alloc (.cells (ycells x) 146)).alloc (.cells (pcell4 i lo hi s) 141)) 144 (ncells nzero)
  rw [e1] at q3
  rw [e2] at q4
  have HR := Lib.hid (hr _ hb)
  have hA := Lib.hid (h.below hb)
  have HB := Lib.hid hb
  clear hb e1 e2 h hr
  go_enter Tryz.func110, Tryz.ntmps110
  go_upto_region 1 with fail
  change Code.wp _ _ _ _ (((w.alloc (.cells (ycells x) 146)).alloc (.cells (pcell4 i lo hi s) 141)).alloc (.cells (ncells nzero) 144))
  generalize World.alloc (World.alloc (w.alloc _) _) _ = W1 at q2 q3 q4 hA HB HR ⊢
  obtain ⟨z2, hz2⟩ : ∃ z, z = w.heap.size := ⟨_, rfl⟩
  obtain ⟨z3, hz3⟩ : ∃ z, z = w.heap.size + 1 := ⟨_, rfl⟩
  obtain ⟨z4, hz4⟩ : ∃ z, z = w.heap.size + 1 + 1 := ⟨_, rfl⟩
  have HZ := Lib.hid (And.intro hz2 (And.intro hz3 hz4))
  rw [← hz4] at q4
  rw [← hz3] at q3
  rw [← hz2] at q2
  rw [← hz4, ← hz3, ← hz2]
  clear hz2 hz3 hz4
  have a0 := q2.way.1
  have a1 := q2.way.2.1
  obtain ⟨p0, p1, p2, p3⟩ := q3.place
  go_wp2_with fail
  refine HR.out.mono ?_
  rintro e w2 ⟨ρ, rfl, hb2⟩
  obtain ⟨n, hn⟩ : ∃ n, n = nd ρ := ⟨_, rfl⟩
  rw [← hn]
  have HN := Lib.hid hn
  clear hn HR a0 a1 p0 p1 p2 p3
  go_upto_region 2 with fail
  have q6 := BC.new w2 144 (ncells n)
  have hb3 : Below w2.heap.size w2 (w2.alloc (.cells (ncells n) 144)) := (Below.refl _ w2).alloc (Nat.le_refl _) _
  have hb4 := hb2.trans (hb3.mono hb2.size)
  have HZ6 := Lib.hid (show z4 < w2.heap.size from Nat.lt_of_lt_of_le q4.lt hb2.size)
  have HB3 := Lib.hid (HB.out.trans (hb4.mono HB.out.size))
  have hA3 := Lib.hid (hA.out.below hb4)
  replace q2 := q2.below hb4
  replace q3 := q3.below hb4
  replace q4 := q4.below hb4
  clear hb2 hb3 hb4 HB hA
  change Code.wp _ _ _ _ (w2.alloc (.cells (ncells n) 144))
  generalize w2.alloc _ = W3 at q2 q3 q4 q6 HB3 hA3 ⊢
  generalize w2.heap.size = z6 at q6 HZ6 ⊢
  have HZ2 := Lib.hid (show z2 ≠ z6 ∧ z3 ≠ z6 from by have := HZ.out; have := HZ6.out; omega)
  have A0 := fun (W' : World) (hb : Kp (fun z => z = z6) W3 W') => (q2.kp hb HZ2.out.1).way.1
  have A2 := fun (W' : World) (hb : Kp (fun z => z = z6) W3 W') => (q2.kp hb HZ2.out.1).way.2.2.1
  have P0 := fun (W' : World) (hb : Kp (fun z => z = z6) W3 W') => (q3.kp hb HZ2.out.2).place.1
  have P3 := fun (W' : World) (hb : Kp (fun z => z = z6) W3 W') => (q3.kp hb HZ2.out.2).place.2.2.2
  have hmx : max (s : Int) (fr : Int) = ((max s fr : Nat) : Int) := by omega
  have HMX := Lib.hid hmx
  clear hmx
  refine wp_region_noPanic ?_
  refine wp_region_held_drew (S := fun W' => Kp (fun z => z = z6) W3 W') (by kernel_rfl) (Kp.of_below (Below.refl _ W3).drew _) (fun hH => ?_)
  have hB := (Below.refl W3.heap.size W3).drew
  generalize W3.drew = Wc at hH hB ⊢
  refine tkH ?_ 0 hH ?_ ?_; rotate_left
  · intro W' hS; go_simp; with_reducible rfl
  simp only [tkr]
  refine tkH ?_ 1 hH ?_ ?_; rotate_left
  · intro W' hS; go_simp; with_reducible rfl
  simp only [tkr]
  refine tkH ?_ 2 hH ?_ ?_; rotate_left
  · intro W' hS; go_simp; with_reducible rfl
  simp only [tkr]
  refine tkH ?_ 3 hH ?_ ?_; rotate_left
  · intro W' hS; go_simp; with_reducible rfl
  simp only [tkr]
  refine tkH ?_ 4 hH ?_ ?_; rotate_left
  · intro W' hS; go_simp; with_reducible rfl
  simp only [tkr]
  refine tkH ?_ 5 hH ?_ ?_; rotate_left
  · intro W' hS; go_simp; with_reducible rfl
  simp only [tkr]
  refine tkH ?_ 6 hH ?_ ?_; rotate_left
  · intro W' hS; go_simp; with_reducible rfl
  simp only [tkr]
  refine tkH ?_ 7 hH ?_ ?_; rotate_left
  · intro W' hS; go_simp; with_reducible rfl
  simp only [tkr]
  refine tkH ?_ 8 hH ?_ ?_; rotate_left
  · intro W' hS; go_simp; with_reducible rfl
  simp only [tkr]
  refine rdH 9 rfl (fun K hK => ?_)
  go_simp
  have hrd : Rd (Wc.alloc (.cells #[.int .i64 (i : Nat)] 3)) (.slice (some ⟨Wc.heap.size, 0, none⟩) 1 1) 1 (nums (ns [i])) := .inr ⟨Wc.heap.size, 0, 1, rfl, Nat.le_refl _, fun j u hu => by
    match j, hu with
    | 0, hu => cases hu; exact (C1.new Wc 3 (.int .i64 (i : Nat))).c0⟩
  have hbn : Below Wc.heap.size Wc (Wc.alloc (.cells #[.int .i64 (i : Nat)] 3)) := (Below.refl _ Wc).alloc (Nat.le_refl _) _
  have hH2 := hH.trans (Kp.of_below hbn (fun z => z = z6)) (fun _ => .inl)
  replace hB := hB.trans (hbn.mono hB.size)
  refine hK.out _ _ hH2 (fun hH => ?_)
  clear hK K hH2 hbn
  generalize World.alloc _ _ = Wn at hrd hH hB ⊢
  generalize Wc.heap.size = g at hrd ⊢
  rename World => Wc
  refine rdH 10 rfl (fun K hK => ?_)
  go_simp
  have HF := Lib.hid (vfresh x.ow [i] (.slice (some ⟨g, 0, none⟩) 1 1) Wc (hA3.out.below hB) hrd (by decide : 1 ≤ 4194304))
  rw [← HFR.out] at HF
  refine HF.out.mono ?_
  rintro e Wn ⟨rfl, hbn⟩
  have hH2 := hH.trans (Kp.of_below hbn (fun z => z = z6)) (fun _ => .inl)
  replace hB := hB.trans (hbn.mono hB.size)
  simp only
  refine hK.out _ _ hH2 (fun hH => ?_)
  clear hK K hH2 hbn hrd HF
  rename World => Wc
  refine rdH 11 rfl (fun K hK => ?_)
  go_simp
  rw [HMX.out]
  refine hK.out _ _ hH (fun hH => ?_)
  clear hK K
  refine tkH ?_ 12 hH ?_ ?_; rotate_left
  · intro W' hS; go_simp; with_reducible rfl
  simp only [tkr]
  refine rdH 13 rfl (fun K hK => ?_)
  have q6' := q6.below hB
  have c13 := q6'.node.2.2.2.2.2.2.2.2.2.2.2.2.2
  have f13 := q6'.fz 13
  go_simp
  clear c13 f13
  have kz : Kp (fun z => z = z6) Wc (Wc.setCell ⟨z6, 13, none⟩ (.int .i64 ((max s fr : Nat)))) := (Kp.refl (fun z => z = z6) Wc).setCell (.inl rfl) _
  have hz6 := HZ6.out
  have q9 : BC (Wc.setCell ⟨z6, 13, none⟩ (.int .i64 ((max s fr : Nat)))) z6 144 (ncells { n with fresh := max s fr }) := by
    have := q6'.set 13 (.int .i64 ((max s fr : Nat)))
    simp only [List.setIfInBounds_toArray, List.set_cons_zero, List.set_cons_succ] at this
    exact this
  have q4' := (q4.below hB).kp kz (by omega)
  have hbw := (HB3.out.trans (hB.mono HB3.out.size)).setCell (p := ⟨z6, 13, none⟩) (show w.heap.size ≤ z6 by have := HZ.out; omega) (.int .i64 ((max s fr : Nat)))
  refine hK.out _ _ (hH.trans kz (fun _ => .inl)) (fun hH => ?_)
  clear hK K hH kz q6'
  generalize World.setCell Wc _ _ = W5 at q9 q4' hbw ⊢
  have HBW := Lib.hid hbw
  clear hbw
  refine wpAnyH_done (by kernel_rfl) ?_ _
  refine NoPanic.normal ?_
  clear A0 A2 P0 P3
  obtain ⟨c0, c1, c2, c3, c4, c5, c6, c7, c8, c9, c10, c11, c12, c13⟩ := q9.node
  simp only at c0 c1 c2 c3 c4 c5 c6 c7 c8 c9 c10 c11 c12 c13
  obtain ⟨d0, d1, d2, d3, d4, d5, d6, d7, d8, d9, d10, d11, d12, d13⟩ := q4'.node
  simp only at d0 d1 d2 d3 d4 d5 d6 d7 d8 d9 d10 d11 d12 d13
  obtain ⟨f0, f1, f2, f3, f4, f5, f6, f7, f8, f9, f10, f11, f12, f13⟩ := q4'.fz14
  go_wp2_with fail
  clear c0 c1 c2 c3 c4 c5 c6 c7 c8 c9 c10 c11 c12 c13 d0 d1 d2 d3 d4 d5 d6 d7 d8 d9 d10 d11 d12 d13 f0 f1 f2 f3 f4 f5 f6 f7 f8 f9 f10 f11 f12 f13
  have q10 := q4'.setN { n with fresh := max s fr }
  have b10 := Lib.hid (below_setN HBW.out (show w.heap.size ≤ z4 by have := HZ.out; omega) { n with fresh := max s fr })
  change bodyPost _ _ _ _ _ (setN W5 z4 { n with fresh := max s fr })
  generalize setN W5 z4 _ = W7 at q10 b10 ⊢
  obtain ⟨c0, c1, c2, c3, c4, c5, c6, c7, c8, c9, c10, c11, c12, c13⟩ := q10.node
  simp only at c0 c1 c2 c3 c4 c5 c6 c7 c8 c9 c10 c11 c12 c13
  have e := HN.out
  refine bodyPost_ret (v := .tuple #[nagg { n with fresh := max s fr }, .bool ok]) (by simp [results, Tryz.results110, go_sem, c0, c1, c2, c3, c4, c5, c6, c7, c8, c9, c10, c11, c12, c13]) rfl ⟨ρ, ?_, b10.out⟩
  rw [e]
theorem fresh1 (M : Cells) (ow : Int) (i : Nat) : freshN M ow [i] ≤ 1 := freshN_le M ow [i]
theorem wread_no (x : Yv) (i s : Nat) (lo hi : Option Addr) (w : World) (h : Ar w x.b most M F) (hM : M i = none) (hs : s ≤ 1) :
    Calls Tryz.prog 110 #[yagg x, plagg i lo hi s] w fun e w' => ∃ fr, fr ≤ 1 ∧ e = .returned (.tuple #[nagg { nzero with fresh := fr }, .bool false]) ∧ Below w.heap.size w w' := by
  refine (wread x i s lo hi (fun _ => nzero) false w h (fun W hW => (nread_no i s lo hi W (h.below hW) hM).mono (fun e W' ⟨h1, h2⟩ => ⟨0, h1, h2⟩))).mono ?_
  rintro e w' ⟨ρ, rfl, hb⟩
  exact ⟨_, by have := fresh1 M x.ow i; omega, rfl, hb⟩
theorem wread_yes (x : Yv) (i s : Nat) (lo hi : Option Addr) (n : Nv) (w : World) (h : Ar w x.b most M F) (hn : NdN M n) (hi' : n.cell = i) (hs : s ≤ 1) (hl : Lim w lo (fun a => vc a n.key = -1)) (hh : Lim w hi (fun a => vc n.key a = -1)) :
    Calls Tryz.prog 110 #[yagg x, plagg i lo hi s] w fun e w' => ∃ ρ fr, fr ≤ 1 ∧ (x.ow = 0 → fr = 1) ∧ e = .returned (.tuple #[nagg ⟨n.key, n.val, i, lo, hi, s, ρ, n.kx, n.ky, fr⟩, .bool true]) ∧ Below w.heap.size w w' := by
  obtain ⟨c, r, hc⟩ := hn
  obtain ⟨o, ca, cb, vs, ks⟩ := c
  obtain ⟨h1, h2, h3, h4⟩ := hc
  simp only at h3 h4
  subst h3 h4 hi'
  refine (wread x n.cell s lo hi (fun ρ => ⟨n.key, n.val, n.cell, lo, hi, s, ρ, n.kx, n.ky, 0⟩) true w h (fun W hW => (nread n.cell s lo hi o ca cb n.key n.val n.kx n.ky r W (h.below hW) h1 (hl.below hW) (hh.below hW)).mono (fun e W' h => h))).mono ?_
  rintro e w' ⟨ρ, rfl, hb⟩
  have hf := fresh1 M x.ow n.cell
  exact ⟨ρ, _, by omega, fun h0 => by rw [h0, fresh_zero]; show max s 1 = 1; omega, rfl, hb⟩
end
end Go.Proofs.YtghbbpbhbinioaaGreat

namespace Go.Proofs.YtghbbpbhbinioaaGreat
set_option linter.unusedVariables false
section
variable {M : Cells} {x y x' y' : Nat} {lx ly lx' ly' pre suf : List Pr} {k : Ky} {cl : List Nv}
theorem Ch.snoc_l {n : Nv} {ml mr : List Pr} (h : Ch M k cl x y lx ly n.cell 0 (ml ++ (n.key, n.val) :: mr) [] pre suf) (hn : NdN M n) (hgt : klt h0 k n.key) (ha : TT M n.kx ml) (hb : TT M n.ky mr) : Ch M k (cl ++ [n]) x y lx ly n.kx 0 ml [] pre ((n.key, n.val) :: mr ++ suf) := by
  generalize hx : n.cell = c at h
  generalize hl : ml ++ (n.key, n.val) :: mr = m at h
  generalize hz : 0 = z at h
  generalize he : [] = e at h
  induction h with
  | nil _ _ => subst hx hl hz he; have := Ch.xl hn hgt hb (.nil ha .nil); simpa using this
  | xr h1 h2 h3 _ ih => have := Ch.xr h1 h2 h3 (ih hx hl hz he); subst hz he; simpa using this
  | xl h1 h2 h3 _ ih => have := Ch.xl h1 h2 h3 (ih hx hl hz he); subst hz he; simpa using this
  | yl h1 h2 h3 _ ih => have := Ch.yl h1 h2 h3 (ih hx hl hz he); subst hz he; simpa using this
theorem Ch.snoc_y {n : Nv} {ml mr : List Pr} (h : Ch M k cl x y lx ly x' n.cell lx' (ml ++ (n.key, n.val) :: mr) pre suf) (hn : NdN M n) (hgt : klt h0 k n.key) (ha : TT M n.kx ml) (hb : TT M n.ky mr) (hx : TT M x' lx') : Ch M k (cl ++ [n]) x y lx ly x' n.kx lx' ml pre ((n.key, n.val) :: mr ++ suf) := by
  generalize hy : n.cell = c at h
  generalize hl : ml ++ (n.key, n.val) :: mr = m at h
  induction h with
  | nil _ _ => subst hy hl; have := Ch.yl hn hgt hb (.nil hx ha); simpa using this
  | xr h1 h2 h3 _ ih => have := Ch.xr h1 h2 h3 (ih hx hy hl); simpa using this
  | xl h1 h2 h3 _ ih => have := Ch.xl h1 h2 h3 (ih hx hy hl); simpa using this
  | yl h1 h2 h3 _ ih => have := Ch.yl h1 h2 h3 (ih hx hy hl); simpa using this
theorem Ch.start (h : Ch M k cl x y lx ly x' y' lx' ly' pre suf) (hx : Srt h0 lx) (hy : Srt h0 ly) : TT M x lx ∧ TT M y ly := by
  induction h with
  | nil h1 h2 => exact ⟨h1, h2⟩
  | xr hn _ ha _ ih =>
    obtain ⟨c, r, hc⟩ := hn
    have hs := List.pairwise_append.1 hx
    have h2 := ih (List.Pairwise.of_cons hs.2.1) hy
    exact ⟨.node hc ha h2.1 hx, h2.2⟩
  | xl hn _ hb _ ih =>
    obtain ⟨c, r, hc⟩ := hn
    have hs := List.pairwise_append.1 hx
    have h2 := ih hs.1 hy
    exact ⟨.node hc h2.1 hb hx, h2.2⟩
  | yl hn _ hb _ ih =>
    obtain ⟨c, r, hc⟩ := hn
    have hs := List.pairwise_append.1 hy
    have h2 := ih hx hs.1
    exact ⟨h2.1, .node hc h2.2 hb hy⟩
theorem Ch.split {a b : List Nv} (h : Ch M k cl x y lx ly x' y' lx' ly' pre suf) (hc : cl = a ++ b) (hx : Srt h0 lx) (hy : Srt h0 ly) : ∃ xm ym lxm lym pa sa pb sb, Ch M k a x y lx ly xm ym lxm lym pa sa ∧ Ch M k b xm ym lxm lym x' y' lx' ly' pb sb ∧ pre = pa ++ pb ∧ suf = sb ++ sa := by
  induction h generalizing a with
  | nil hx' hy' =>
    have h2 := List.append_eq_nil_iff.1 hc.symm
    obtain ⟨rfl, rfl⟩ := h2
    exact ⟨_, _, _, _, [], [], [], [], .nil hx' hy', .nil hx' hy', rfl, rfl⟩
  | xr h1 h2 h3 h4 ih =>
    have hs := List.pairwise_append.1 hx
    have hsx := List.Pairwise.of_cons hs.2.1
    cases a with
    | nil =>
      have ht := Ch.start (.xr h1 h2 h3 h4) hx hy
      exact ⟨_, _, _, _, [], [], _, _, .nil ht.1 ht.2, by rw [List.nil_append] at hc; subst hc; exact .xr h1 h2 h3 h4, rfl, by simp⟩
    | cons n a =>
      injection hc with hn hc
      subst hn
      obtain ⟨xm, ym, lxm, lym, pa, sa, pb, sb, ca, cb, rfl, rfl⟩ := ih hc hsx hy
      exact ⟨_, _, _, _, _, _, _, _, .xr h1 h2 h3 ca, cb, by simp, rfl⟩
  | xl h1 h2 h3 h4 ih =>
    have hs := List.pairwise_append.1 hx
    cases a with
    | nil =>
      have ht := Ch.start (.xl h1 h2 h3 h4) hx hy
      exact ⟨_, _, _, _, [], [], _, _, .nil ht.1 ht.2, by rw [List.nil_append] at hc; subst hc; exact .xl h1 h2 h3 h4, rfl, by simp⟩
    | cons n a =>
      injection hc with hn hc
      subst hn
      obtain ⟨xm, ym, lxm, lym, pa, sa, pb, sb, ca, cb, rfl, rfl⟩ := ih hc hs.1 hy
      exact ⟨_, _, _, _, _, _, _, _, .xl h1 h2 h3 ca, cb, rfl, by simp⟩
  | yl h1 h2 h3 h4 ih =>
    have hs := List.pairwise_append.1 hy
    cases a with
    | nil =>
      have ht := Ch.start (.yl h1 h2 h3 h4) hx hy
      exact ⟨_, _, _, _, [], [], _, _, .nil ht.1 ht.2, by rw [List.nil_append] at hc; subst hc; exact .yl h1 h2 h3 h4, rfl, by simp⟩
    | cons n a =>
      injection hc with hn hc
      subst hn
      obtain ⟨xm, ym, lxm, lym, pa, sa, pb, sb, ca, cb, rfl, rfl⟩ := ih hc hx hs.1
      exact ⟨_, _, _, _, _, _, _, _, .yl h1 h2 h3 ca, cb, rfl, by simp⟩
end
end Go.Proofs.YtghbbpbhbinioaaGreat

namespace Go.Proofs.YtghbbpbhbinioaaGreat
set_option maxRecDepth 100000
set_option linter.unusedSimpArgs false
set_option linter.unusedVariables false
open Go.RowKit
def IsB (e : Ending) : Prop := ∃ b, e = .returned (.bool b)
section
set_option maxHeartbeats 4000000 in
theorem nabove (n m : Nv) (w : World) : Calls Tryz.prog 121 #[nagg n, nagg m] w fun e w' => IsB e ∧ Below w.heap.size w w' := by
  have hb : Below w.heap.size w ((w.alloc (.cells (ncells n) 144)).alloc (.cells (ncells m) 144)) := ((Below.refl _ w).alloc (Nat.le_refl _) _).alloc (by simp) _
  have q0 := (BC.new w 144 (ncells n)).alloc (.cells (ncells m) 144)
  have q1 := BC.new (w.alloc (.cells (ncells n) 144)) 144 (ncells m)
  have e1 : (w.alloc (.cells (ncells n) 144)).heap.size = w.heap.size + 1 := by simp
  rw [e1] at q1
  have HB := Lib.hid hb
  clear hb e1
  go_enter Tryz.func121, Tryz.ntmps121
  go_upto_region 1 with fail
  generalize World.alloc (w.alloc _) _ = W1 at q0 q1 HB ⊢
  have x0 := q0.at (i := 0) rfl
  have x1 := q0.at (i := 1) rfl
  have x2 := q0.at (i := 2) rfl
  have xa := q0.at (i := 10) rfl
  have y0 := q1.at (i := 0) rfl
  have y1 := q1.at (i := 1) rfl
  have y2 := q1.at (i := 2) rfl
  have ya := q1.at (i := 10) rfl
  by_cases hv : n.rank = m.rank
  · go_wp2_with fail
    refine (compare _ _ _ _ _ _ _).mono ?_
    rintro e w2 ⟨rfl, hg⟩
    have B2 := Lib.hid (HB.out.trans (hg.below.mono HB.out.size))
    clear hg q0 q1 x0 x1 x2 y0 y1 y2 xa ya
    by_cases hs : vcmp n.key.1 n.key.2.1 n.key.2.2 m.key.1 m.key.2.1 m.key.2.2 < 0
    · go_wp2_with fail
      go_ret
      exact ⟨⟨_, rfl⟩, B2.out⟩
    · go_wp2_with fail
      go_ret
      exact ⟨⟨_, rfl⟩, B2.out⟩
  · by_cases hs : m.rank < n.rank
    · go_wp2_with fail
      go_ret
      exact ⟨⟨_, rfl⟩, HB.out⟩
    · go_wp2_with fail
      go_ret
      exact ⟨⟨_, rfl⟩, HB.out⟩
end
end Go.Proofs.YtghbbpbhbinioaaGreat

namespace Go.Proofs.YtghbbpbhbinioaaGreat
set_option maxRecDepth 100000
set_option linter.unusedSimpArgs false
set_option linter.unusedVariables false
open Go.RowKit
abbrev LimL (W : World) (v : Option Addr) (l : List Pr) : Prop := Lim W v (fun a => ∀ p ∈ l, vc a p.1 = -1)
abbrev LimH (W : World) (v : Option Addr) (l : List Pr) : Prop := Lim W v (fun a => ∀ p ∈ l, vc p.1 a = -1)
structure Pl (M : Cells) (W : World) (i s : Nat) (lo hi : Option Addr) (l : List Pr) : Prop where
  tree : TT M i l
  low : LimL W lo l
  high : LimH W hi l
  shared : s ≤ 1
structure NdP (M : Cells) (W : World) (n : Nv) (la lb l : List Pr) : Prop where
  node : NdN M n
  treex : TT M n.kx la
  treey : TT M n.ky lb
  eq : l = la ++ (n.key, n.val) :: lb
  srt : Srt h0 l
  low : LimL W n.low l
  high : LimH W n.high l
  fresh : n.fresh ≤ 1
section
variable {M : Cells} {W W' : World} {i s : Nat} {lo hi : Option Addr} {l la lb : List Pr} {n : Nv}
theorem Pl.below (h : Pl M W i s lo hi l) (hb : Below W.heap.size W W') : Pl M W' i s lo hi l := ⟨h.tree, h.low.below hb, h.high.below hb, h.shared⟩
theorem NdP.below (h : NdP M W n la lb l) (hb : Below W.heap.size W W') : NdP M W' n la lb l := ⟨h.node, h.treex, h.treey, h.eq, h.srt, h.low.below hb, h.high.below hb, h.fresh⟩
theorem Pl.root (h : TT M i l) : Pl M W i 0 none none l := ⟨h, .inl rfl, .inl rfl, by omega⟩
theorem NdP.pairs (h : NdP M W n la lb l) : Srt h0 la ∧ Srt h0 lb ∧ (∀ p ∈ la, vc p.1 n.key = -1) ∧ (∀ p ∈ lb, vc n.key p.1 = -1) := by
  have h1 := h.srt
  rw [h.eq] at h1
  have h2 := List.pairwise_append.1 h1
  have h3 := List.pairwise_cons.1 h2.2.1
  exact ⟨h2.1, h3.2, fun p hp => h0_klt.1 (h2.2.2 p hp (n.key, n.val) (by simp)), fun p hp => h0_klt.1 (h3.1 p hp)⟩
theorem NdP.placex {g : Nat} (h : NdP M W n la lb l) (hg : C3 W g 36 (.int .u8 n.key.1) (.int .i64 n.key.2.1) (.string n.key.2.2)) : Pl M W n.kx n.fresh n.low (some ⟨g, 0, none⟩) la :=
  ⟨h.treex, h.low.mono (fun a ha p hp => ha p (by rw [h.eq]; simp [hp])), .inr ⟨g, n.key, rfl, hg, h.pairs.2.2.1⟩, h.fresh⟩
theorem NdP.placey {g : Nat} (h : NdP M W n la lb l) (hg : C3 W g 36 (.int .u8 n.key.1) (.int .i64 n.key.2.1) (.string n.key.2.2)) : Pl M W n.ky n.fresh (some ⟨g, 0, none⟩) n.high lb :=
  ⟨h.treey, .inr ⟨g, n.key, rfl, hg, h.pairs.2.2.2⟩, h.high.mono (fun a ha p hp => ha p (by rw [h.eq]; simp [hp])), h.fresh⟩
theorem Pl.open (h : Pl M W i s lo hi l) : i = 0 ∧ l = [] ∨ ∃ c r k v x y la lb, NdC M i c r k v x y ∧ TT M x la ∧ TT M y lb ∧ l = la ++ (k, v) :: lb ∧ Lim W lo (fun a => vc a k = -1) ∧ Lim W hi (fun a => vc k a = -1) := by
  by_cases hi0 : i = 0
  · subst hi0
    exact .inl ⟨rfl, h.tree.zero⟩
  · obtain ⟨c, r, k, v, x, y, la, lb, hn, hx, hy, e⟩ := h.tree.inv hi0
    exact .inr ⟨c, r, k, v, x, y, la, lb, hn, hx, hy, e, h.low.mono (fun a ha => ha (k, v) (by rw [e]; simp)), h.high.mono (fun a ha => ha (k, v) (by rw [e]; simp))⟩
end
def Rp (M : Cells) (W : World) (i s : Nat) (lo hi : Option Addr) (l : List Pr) (n : Nv) (ok : Bool) : Prop :=
  ok = false ∧ i = 0 ∧ l = [] ∧ n.val = nzero.val ∧ n.key = nzero.key ∨ ok = true ∧ n.cell = i ∧ n.shared = s ∧ n.low = lo ∧ n.high = hi ∧ ∃ la lb, NdP M W n la lb l
theorem Rp.below {M : Cells} {W W' : World} {i s : Nat} {lo hi : Option Addr} {l : List Pr} {n : Nv} {ok : Bool} (h : Rp M W i s lo hi l n ok) (hb : Below W.heap.size W W') : Rp M W' i s lo hi l n ok := by
  rcases h with h | ⟨h1, h2, h3, h4, h5, la, lb, h⟩
  · exact .inl h
  · exact .inr ⟨h1, h2, h3, h4, h5, la, lb, h.below hb⟩
section
variable {b bh most : Nat} {M : Cells} {F : Nat → Prop} {l : List Pr}
theorem tread (i s : Nat) (lo hi : Option Addr) (w : World) (h : Ar w b most M F) (hz : M 0 = none) (hp : Pl M w i s lo hi l) :
    Calls Tryz.prog 77 #[land b bh, plagg i lo hi s] w fun e w' => ∃ n ok, e = .returned (.tuple #[nagg n, .bool ok]) ∧ Rp M w' i s lo hi l n ok ∧ Below w.heap.size w w' := by
  rcases hp.open with ⟨rfl, rfl⟩ | ⟨c, r, k, v, x, y, la, lb, hn, hx, hy, e, hl, hh⟩
  · refine (nread_no 0 s lo hi w h hz).mono ?_
    rintro e w' ⟨rfl, hb⟩
    exact ⟨_, _, rfl, .inl ⟨rfl, rfl, rfl, rfl, rfl⟩, hb⟩
  · obtain ⟨o, ca, cb, vs, ks⟩ := c
    obtain ⟨h1, h2, h3, h4⟩ := hn
    simp only at h3 h4
    subst h3 h4
    refine (nread i s lo hi o ca cb k v x y r w h h1 hl hh).mono ?_
    rintro e' w' ⟨ρ, rfl, hb⟩
    exact ⟨_, _, rfl, .inr ⟨rfl, rfl, rfl, rfl, rfl, la, lb, ⟨⟨_, _, h1, h2, rfl, rfl⟩, hx, hy, e, hp.tree.srt, hp.low.below hb, hp.high.below hb, Nat.zero_le _⟩⟩, hb⟩
theorem tread_way (x : Yv) (i s : Nat) (lo hi : Option Addr) (w : World) (h : Ar w x.b most M F) (hz : M 0 = none) (hp : Pl M w i s lo hi l) :
    Calls Tryz.prog 110 #[yagg x, plagg i lo hi s] w fun e w' => ∃ n ok, e = .returned (.tuple #[nagg n, .bool ok]) ∧ Rp M w' i s lo hi l n ok ∧ (ok = true → x.ow = 0 → n.fresh = 1) ∧ Below w.heap.size w w' := by
  rcases hp.open with ⟨rfl, rfl⟩ | ⟨c, r, k, v, xx, y, la, lb, hn, hx, hy, e, hl, hh⟩
  · refine (wread_no x 0 s lo hi w h hz hp.shared).mono ?_
    rintro e w' ⟨fr, hf, rfl, hb⟩
    exact ⟨_, _, rfl, .inl ⟨rfl, rfl, rfl, rfl, rfl⟩, nofun, hb⟩
  · refine (wread_yes x i s lo hi ⟨k, v, i, lo, hi, s, 0, xx, y, 0⟩ w h ⟨c, r, hn⟩ rfl hp.shared hl hh).mono ?_
    rintro e' w' ⟨ρ, fr, hf, hf0, rfl, hb⟩
    exact ⟨_, _, rfl, .inr ⟨rfl, rfl, rfl, rfl, rfl, la, lb, ⟨⟨c, r, hn⟩, hx, hy, e, hp.tree.srt, hp.low.below hb, hp.high.below hb, hf⟩⟩, fun _ => hf0, hb⟩
end
end Go.Proofs.YtghbbpbhbinioaaGreat

namespace Go.Proofs.YtghbbpbhbinioaaGreat
set_option maxRecDepth 100000
set_option linter.unusedSimpArgs false
set_option linter.unusedVariables false
open Go.RowKit
def nxt (n : Nv) (k : Ky) (la lb : List Pr) : List Pr := if vc k n.key < 0 then la else lb
section
variable {M : Cells} {W : World} {n : Nv} {la lb l : List Pr} {k : Ky}
theorem vc_side {a b : Ky} (h : a ≠ b) : vc a b = -1 ∧ vc b a = 1 ∨ vc a b = 1 ∧ vc b a = -1 := by
  have h1 := vc_range a b
  have h2 := vc_swap a b
  have h3 : vc a b ≠ 0 := fun e => h (vc_eq.1 e)
  omega
theorem vc_irr (a : Ky) : vc a a = 0 := vc_eq.2 rfl
theorem nxt_look (h : NdP M W n la lb l) (hk : n.key ≠ k) : lookL k l = lookL k (nxt n k la lb) := by
  obtain ⟨sa, sb, ha, hb⟩ := h.pairs
  have hs := h.srt
  rw [h.eq] at hs ⊢
  have sn : Srt h0 (nxt n k la lb) := by
    unfold nxt
    split
    · exact sa
    · exact sb
  have hmem : ∀ v, (k, v) ∈ la ++ (n.key, n.val) :: lb ↔ (k, v) ∈ nxt n k la lb := by
    intro v
    unfold nxt
    rw [List.mem_append, List.mem_cons]
    rcases vc_side (Ne.symm hk) with ⟨h1, h2⟩ | ⟨h1, h2⟩
    · rw [if_pos (by omega)]
      constructor
      · rintro (h | h | h)
        · exact h
        · cases h; exact absurd rfl hk
        · exact absurd (vc_trans h1 (hb _ h)) (by rw [vc_irr]; decide)
      · exact fun h => .inl h
    · rw [if_neg (by omega)]
      constructor
      · rintro (h | h | h)
        · exact absurd (vc_trans (ha _ h) h2) (by rw [vc_irr]; decide)
        · cases h; exact absurd rfl hk
        · exact h
      · exact fun h => .inr (.inr h)
  cases e : lookL k (nxt n k la lb) with
  | some v => exact (lookL_some hs).2 ((hmem v).2 ((lookL_some sn).1 e))
  | none =>
    cases e2 : lookL k (la ++ (n.key, n.val) :: lb) with
    | none => rfl
    | some v => rw [(lookL_some sn).2 ((hmem v).1 ((lookL_some hs).1 e2))] at e; cases e
theorem look_here (h : NdP M W n la lb l) : lookL n.key l = some n.val := (lookL_some h.srt).2 (by rw [h.eq]; simp)
theorem hasB_look (k : Ky) (l : List Pr) : hasB k l = (lookL k l).isSome := by
  cases e : lookL k l with
  | none =>
    cases e2 : hasB k l with
    | false => rfl
    | true =>
      obtain ⟨q, hq, h⟩ := hasB_iff.1 e2
      exact absurd h (lookL_none.1 e q hq)
  | some v =>
    cases e2 : hasB k l with
    | true => rfl
    | false =>
      rw [lookL_none.2 (fun q hq h => by rw [hasB_iff.2 ⟨q, hq, h⟩] at e2; cases e2)] at e
      cases e
theorem nxt_len (h : NdP M W n la lb l) : (nxt n k la lb).length < l.length := by
  rw [h.eq, List.length_append, List.length_cons]
  unfold nxt
  split <;> omega
theorem nbelow_side (k : Ky) (w : World) (h : NdP M w n la lb l) :
    Calls Tryz.prog 78 #[nagg n, .int .i64 (sideN n k : Nat)] w fun e w' => ∃ i s lo hi, e = .returned (plagg i lo hi s) ∧ Pl M w' i s lo hi (nxt n k la lb) ∧ Below w.heap.size w w' := by
  unfold sideN nxt
  by_cases hv : vc k n.key < 0
  · rw [if_pos hv, if_pos hv]
    refine (nbelow0 n w).mono ?_
    rintro e w' ⟨g, rfl, hg, hl, hb⟩
    exact ⟨_, _, _, _, rfl, (h.below hb).placex hg, hb⟩
  · rw [if_neg hv, if_neg hv]
    refine (nbelow1 n w).mono ?_
    rintro e w' ⟨g, rfl, hg, hl, hb⟩
    exact ⟨_, _, _, _, rfl, (h.below hb).placey hg, hb⟩
end
end Go.Proofs.YtghbbpbhbinioaaGreat
