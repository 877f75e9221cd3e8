/- Several texts in one. -/
import Derived.Test.YtacoingheieceaaGreatMA27
import Derived.IntWalk
/- Package hamt: Put's three cases behind the way: a leaf's pair, a branch's new Kid, a new branch; by the books. -/
namespace Go.Proofs.YtacoingheieceaaGreat
set_option maxRecDepth 100000
open Go.RowKit
theorem count_insert : ∀ (l : List Nat) (p n k : Nat), p ≤ l.length → (l.insertIdx p n).count k = (n :: l).count k
  | l, 0, n, k, _ => rfl
  | [], p + 1, _, _, h => by simp at h
  | y :: l, p + 1, n, k, h => by
    rw [List.insertIdx_succ_cons]
    have ih := count_insert l p n k (by simpa using h)
    simp only [List.count_cons] at *
    omega
/-- A new cell without others. -/
theorem Bk.leaf {N : Nat} {M : Cells} {H hs : List Nat} {P : Nat → Nat} (h : Bk N M H P hs) {n : Nat} (c : Hc) (hc : c.kids = []) (h1 : 1 ≤ n) (hN : n < N) (hn : M n = none) : Bk N (upd M n (some (c, 1))) H P (n :: hs) := by
  refine Bk.make (c := c) (hs := hs) ?_ h1 hN hn (by rw [hc]; decide)
  rw [hc]; exact h
section
variable {most : Nat} {M : Cells} {F : Nat → Prop} {hs : Ky → Nat} {k v : Ky} {l lf : List Pr}
/-- The leaf at the way's end. -/
theorem Wy.end13 {lv j : Nat} {lj : List Pr} {y : Nat × Nat} {rest : List (Nat × Nat)} {g : Nat} (h : Wy M hs g lv j lj (y :: rest) lf) (hy : 13 ≤ y.2) : y = (j, 13) ∧ rest = [] ∧ lj = lf ∧ ∃ c r, LeafF M hs lv j lf c r := by
  cases h with
  | leaf h => exact ⟨rfl, rfl, rfl, _, _, h⟩
  | node h => exact absurd hy (by have := h.b13; show ¬ 13 ≤ _; omega)
/-- A branch of the way to which a key's digit does not lead. -/
theorem Wy.part {lv j b : Nat} {lj : List Pr} {rest : List (Nat × Nat)} {near : Pr} (h : Wy M hs (hs k) lv j lj ((j, b) :: rest) lf) (hb : b < 13) (hn : near ∈ lf) (hp : pt (hs near.1) (hs k) = b) : ∃ c r s K L, NodeF M hs lv j lj c r b s K L ∧ (∀ d, d < 32 → s.testBit d = true → HT M hs (b + 1) (K d) (L d)) ∧ s.testBit (dg (hs k) b) = false := by
  generalize hcl : (j, b) :: rest = cl at h
  cases h with
  | leaf h => injection hcl with e1 e2; injection e1 with _ e3; omega
  | @node _ _ _ c r b' s K L d cl' _ h hT hd hx hw =>
    injection hcl with e1 e2
    injection e1 with _ e3
    subst e3
    refine ⟨c, r, s, K, L, h, hT, ?_⟩
    cases e : s.testBit (dg (hs k) b) with
    | false => rfl
    | true =>
      unfold sdx at hx
      rw [if_pos e] at hx
      have hd2 := cnt_inj hd e hx
      have h1 := h.dig d near (hw.sub near hn)
      exact absurd (h1.trans hd2) (by rw [← hp]; exact pt_ne (by rw [hp]; exact hb))
theorem nFz {w W : World} {b : Nat} {M1 : Cells} {F1 : Nat → Prop} {z : Nat} (hr : Rn w W b most M1 F F1) (hz : z < w.heap.size) (hn : ¬ F z) : ¬ F1 z := fun hf => (hr.sub z hf).elim hn (fun h => by omega)
/-- A leaf gets a pair, or another value. -/
theorem vput_leaf (x : Wv) (zw zk zv j lvj : Nat) (cl : List (Nat × Nat)) (cj : Hc) (rj : Nat) (P : Nat → Nat) (w : World) (h : Ar w x.b most M F) (hm : most ≤ 1048576) (hg : hs k = x.g) (hb : Bk (most + 1) M [] P [x.root]) (hP : ∀ j, P j ≤ 576460752303423488)
    (hw : Wp M hs k 0 x.root l cl lvj j lf) (hL : LeafF M hs lvj j lf cj rj) (hag : ∀ q ∈ lf, ∀ i, i < 13 → dg (hs k) i = dg (hs q.1) i) (hlf : lf.length ≤ 4096) (hcl : cl.length ≤ 90)
    (ho4 : w.ownsRow 0 3 1 (.slice x.A4 x.n4 x.c4) x.n4 (nums (ns ((cl ++ [(j, 13)]).map Prod.fst)))) (hn4 : x.n4 = (cl ++ [(j, 13)]).length) (hat : x.at' = 2 * lowN k lf) (hhas : x.has = hasN k lf)
    (zw' : WC w zw x) (zk' : C3 w zk 43 (.int .u8 k.1) (.int .i64 k.2.1) (.string k.2.2)) (zv' : C3 w zv 43 (.int .u8 v.1) (.int .i64 v.2.1) (.string v.2.2)) (nF : ∀ z, z = zw ∨ z = zk ∨ z = zv → ¬ F z) :
    Calls Tryz.prog 111 #[wagg x, .int .i64 (cl.length : Nat), .int .i64 0, .func (.func 112) #[] #[.pointer (some ⟨zw, 0, none⟩), .pointer (some ⟨zk, 0, none⟩), .pointer (some ⟨zv, 0, none⟩)]] w fun e w' => (e = .returned (.tuple #[.int .i64 0, .int .i64 5]) ∧ most < live (most + 1) M + (freshN M x.ow (cl.map Prod.fst ++ [j]) + 0) ∧ Below w.heap.size w w') ∨
      ∃ n M', e = .returned (.tuple #[.int .i64 (n : Nat), .int .i64 0]) ∧ 1 ≤ n ∧ MRes most M P hs k (fun q => q = (k, v)) x.root x.ow l (freshN M x.ow (cl.map Prod.fst ++ [j]) + 0) n M' ∧ Stp w w' x.b most M' F := by
  refine vedit_bk x 112 #[.pointer (some ⟨zw, 0, none⟩), .pointer (some ⟨zk, 0, none⟩), .pointer (some ⟨zv, 0, none⟩)] 0 cl [] 13 cj (fun M2 c' M3 => c' = { cj with vals := flatP (leafP k v lf) } ∧ M3 = M2) P w h hm (fun args W => by kernel_rfl) hg (fun q hq => by rw [hq]) hb hP hw ⟨rj, hL.cell⟩ (by simp; omega) (by decide) ho4 hn4 (fun W M1 H1 P1 F1 r1 r2 r3 r4 M2 H2 hw1 hl => ?_) (fun M1 H1 P1 M2 H2 c' M3 n M' q r2 r5 r4 hw1 hq hren => ?_)
  · have l1 := zw'.lt
    have l2 := zk'.lt
    have l3 := zv'.lt
    refine (chgS_put2 (M1 := M2) x zw zk zv cj lf k v W (zw'.kp r1.kp (nF _ (.inl rfl))) (zk'.kp r1.kp (nF _ (.inr (.inl rfl)))) (zv'.kp r1.kp (nF _ (.inr (.inr rfl)))) (fun z hz => by
      rcases hz with rfl | rfl | rfl
      · exact nFz r1 l1 (nF _ (.inl rfl))
      · exact nFz r1 l2 (nF _ (.inr (.inl rfl)))
      · exact nFz r1 l3 (nF _ (.inr (.inr rfl)))) hL.vals hat hhas hlf).mono ?_
    rintro c' M3 ⟨rfl, rfl⟩
    have hpl : (leafP k v lf).length ≤ lf.length + 1 := by
      unfold leafP
      split
      · rw [List.length_set]; omega
      · exact List.length_insertIdx_le_succ
    exact ⟨hw1.bk, Keeps.refl _ _, fun _ _ => rfl, Nat.le_refl _, by show (flatP (leafP k v lf)).length ≤ _; rw [flatP_length]; omega, by show cj.kids.length ≤ _; rw [hL.kids]; exact Nat.zero_le _, rfl, rfl⟩
  · obtain ⟨rfl, rfl⟩ := hq
    have hnH := (hren.bk.hand (i := n) (by simp) (by have := hren.pos; omega)).2
    refine leaf_put (M' := blank M' H1) (i' := n) (r' := 1) (ow := x.ow) (a := cj.a) hL hag ?_
    rw [blank_out hnH, hren.cell]
    show some (({ cj with vals := flatP (leafP k v lf), owner := x.ow } : Hc), 1) = _
    rw [show cj = ⟨cj.owner, cj.a, cj.b, cj.vals, cj.kids⟩ from rfl, hL.cb, hL.kids]
    rfl
/-- A branch gets one Kid more. -/
theorem vput_kid (x : Wv) (zw zk zv j lvj b : Nat) (cl rest : List (Nat × Nat)) (near : Pr) (lj : List Pr) (P : Nat → Nat) (w : World) (h : Ar w x.b most M F) (hm : most ≤ 1048576) (hg : hs k = x.g) (hb : Bk (most + 1) M [] P [x.root]) (hP : ∀ j, P j ≤ 576460752303423488)
    (hw : Wp M hs k 0 x.root l cl lvj j lj) (hy : Wy M hs (hs k) lvj j lj ((j, b) :: rest) lf) (hb13 : b < 13) (hnear : near ∈ lf) (hp : pt (hs near.1) (hs k) = b) (hcl : (cl ++ (j, b) :: rest).length ≤ 100)
    (ho4 : w.ownsRow 0 3 1 (.slice x.A4 x.n4 x.c4) x.n4 (nums (ns ((cl ++ (j, b) :: rest).map Prod.fst)))) (hn4 : x.n4 = (cl ++ (j, b) :: rest).length)
    (zw' : WC w zw x) (zk' : C3 w zk 43 (.int .u8 k.1) (.int .i64 k.2.1) (.string k.2.2)) (zv' : C3 w zv 43 (.int .u8 v.1) (.int .i64 v.2.1) (.string v.2.2)) (nF : ∀ z, z = zw ∨ z = zk ∨ z = zv → ¬ F z) :
    Calls Tryz.prog 111 #[wagg x, .int .i64 (cl.length : Nat), .int .i64 1, .func (.func 114) #[] #[.pointer (some ⟨zw, 0, none⟩), .pointer (some ⟨zk, 0, none⟩), .pointer (some ⟨zv, 0, none⟩)]] w fun e w' => (e = .returned (.tuple #[.int .i64 0, .int .i64 5]) ∧ most < live (most + 1) M + (freshN M x.ow (cl.map Prod.fst ++ [j]) + 1) ∧ Below w.heap.size w w') ∨
      ∃ n M', e = .returned (.tuple #[.int .i64 (n : Nat), .int .i64 0]) ∧ 1 ≤ n ∧ MRes most M P hs k (fun q => q = (k, v)) x.root x.ow l (freshN M x.ow (cl.map Prod.fst ++ [j]) + 1) n M' ∧ Stp w w' x.b most M' F := by
  obtain ⟨c, r, s, K, L, hN, hT, hbit⟩ := hy.part hb13 hnear hp
  have hk32 : c.kids.length ≤ 32 := by rw [hN.len]; exact cnt_le32 32
  have hcs : cnt s (dg (hs k) b) ≤ c.kids.length := by rw [hN.len]; exact cnt_mono s (Nat.le_of_lt (dg_lt _ _))
  have hnj : near ∈ lj := hy.sub near hnear
  refine vedit_bk x 114 #[.pointer (some ⟨zw, 0, none⟩), .pointer (some ⟨zk, 0, none⟩), .pointer (some ⟨zv, 0, none⟩)] 1 cl rest b c (fun M2 c' M3 => ∃ n : Nat, 1 ≤ n ∧ n ≤ most ∧ M2 n = none ∧ M3 = upd M2 n (some (⟨x.ow, 0, 13, [k, v], []⟩, 1)) ∧ c' = { c with kids := c.kids.insertIdx (cnt s (dg (hs k) b)) n, a := ((s ||| 2 ^ dg (hs k) b : Nat) : Int) }) P w h hm (fun args W => by kernel_rfl) hg (fun q hq => by rw [hq]) hb hP hw ⟨r, hN.cell⟩ hcl (by decide) ho4 hn4 (fun W M1 H1 P1 F1 r1 r2 r3 r4 M2 H2 hw1 hl => ?_) (fun M1 H1 P1 M2 H2 c' M3 n M' q r2 r5 r4 hw1 hq hren => ?_)
  · have l1 := zw'.lt
    have l2 := zk'.lt
    have l3 := zv'.lt
    have hput := chgS_put3 (M1 := M2) (F := F1) (most := most) x zw zk zv s b k v W (zw'.kp r1.kp (nF _ (.inl rfl))) (zk'.kp r1.kp (nF _ (.inr (.inl rfl)))) (zv'.kp r1.kp (nF _ (.inr (.inr rfl)))) (fun z hz => by
      rcases hz with rfl | rfl | rfl
      · exact nFz r1 l1 (nF _ (.inl rfl))
      · exact nFz r1 l2 (nF _ (.inr (.inl rfl)))
      · exact nFz r1 l3 (nF _ (.inr (.inr rfl)))) c hN.ca hN.s32 hN.cb hb13 (by omega) (by rw [← hg]; exact hcs) (by omega)
    rw [← hg] at hput
    refine hput.mono ?_
    rintro c' M3 ⟨n, n1, n2, n3, rfl, rfl⟩
    refine ⟨?_, fun r0 h0 hr => Pres.all (all_blank (all_new n3 _)), fun y hy => ?_, ?_, by show c.vals.length ≤ _; rw [hN.vals]; exact Nat.zero_le _, by show (c.kids.insertIdx _ n).length ≤ _; rw [List.length_insertIdx_of_le_length hcs]; omega, n, n1, n2, n3, rfl, rfl⟩
    · exact (hw1.bk.leaf ⟨x.ow, 0, 13, [k, v], []⟩ rfl n1 (by omega) n3).perm (fun q _ => (count_insert c.kids _ n q hcs).symm)
    · have hyn : y ≠ n := fun e => by have := (hw1.bk.hole y hy).2; rw [e, n3] at this; simp [rf] at this
      exact upd_other _ _ hyn
    · have h1 := live_upd (M := M2) (N := most + 1) n (some (⟨x.ow, 0, 13, [k, v], []⟩, 1)) (by omega)
      rw [n3] at h1
      simp only [one] at h1
      omega
  · obtain ⟨nn, n1, n2, n3, rfl, rfl⟩ := hq
    have hnH := (hren.bk.hand (i := n) (by simp) (by have := hren.pos; omega)).2
    have hz := hb.zero
    have hz1 : blank M1 H1 0 = none := blank_none.2 r2.zero
    have hz2 : blank M2 H2 0 = none := blank_none.2 hw1.bk.zero
    have hz3 : blank (upd M2 nn (some (⟨x.ow, 0, 13, [k, v], []⟩, 1))) H2 0 = none := blank_none.2 (by rw [upd_other _ _ (by omega)]; exact hw1.bk.zero)
    have hj0 : j ≠ 0 := fun e => by have := hN.cell; rw [e, hz] at this; cases this
    have hnnH : nn ∉ H2 := fun hx => by have := (hw1.bk.hole nn hx).2; rw [n3] at this; simp [rf] at this
    have hnnm : nn ∈ c.kids.insertIdx (cnt s (dg (hs k) b)) nn := (List.mem_insertIdx hcs).2 (.inl rfl)
    refine node_add (M := M) (M' := blank M' H1) (i' := n) (r' := 1) (ow := x.ow) (k' := nn) (Ld := [(k, v)]) hN hbit (fun e he32 he => ?_) ?_ ?_ (fun q hq => by rw [hq]) (fun q => by simp) (fun q hq i hi => ?_)
    · have hke := hN.kid e he32 he
      have h0e := (hT e he32 he).pos hz
      have hkm : K e ∈ c.kids := List.mem_of_getElem? hke
      have t1 := (hT e he32 he).pres hz (r4.kid hN.cell hkm h0e)
      have t2 := t1.pres hz1 (hw1.kids _ hkm h0e)
      have t3 := t2.pres hz2 (M' := blank (upd M2 nn (some (⟨x.ow, 0, 13, [k, v], []⟩, 1))) H2) (Pres.all (all_blank (all_new n3 _)))
      exact t3.pres hz3 (hren.kids _ ((List.mem_insertIdx hcs).2 (.inr hkm)) h0e)
    · rw [blank_out hnH]
      exact hren.cell
    · have t0 : HT (blank (upd M2 nn (some (⟨x.ow, 0, 13, [k, v], []⟩, 1))) H2) hs (b + 1) nn [(k, v)] := leaf_one (ow := x.ow) (a := 0) (r' := 1) (by rw [blank_out hnnH, upd_same]) (by omega)
      exact t0.pres hz3 (hren.kids _ hnnm (by omega))
    · rw [← pt_eq (show i < pt (hs near.1) (hs k) by omega)]
      exact hN.agr near hnj q hq i hi
end

end Go.Proofs.YtacoingheieceaaGreat

/- Package hamt: Put's other two cases: a new branch ahead of a cell, and the first leaf of a map; by the books. -/
namespace Go.Proofs.YtacoingheieceaaGreat
set_option maxRecDepth 100000
open Go.RowKit
section
variable {most : Nat} {M : Cells} {F : Nat → Prop} {hs : Ky → Nat} {k v : Ky} {l lf : List Pr}
theorem Wy.at_lev {lv j : Nat} {lj : List Pr} {y : Nat × Nat} {rest : List (Nat × Nat)} {g : Nat} (h : Wy M hs g lv j lj (y :: rest) lf) : HT M hs y.2 j lj ∧ y.1 = j ∧ (∀ p ∈ lj, ∀ q ∈ lj, ∀ i, i < y.2 → dg (hs p.1) i = dg (hs q.1) i) := by
  cases h with
  | leaf h => exact ⟨.leaf { h with lv := Nat.le_refl _ }, rfl, h.agr⟩
  | node h hT => exact ⟨.node { h with lv := Nat.le_refl _ } hT, rfl, h.agr⟩
theorem Wp.lev_le {lv i lvj j level : Nat} {lj : List Pr} {cl : List (Nat × Nat)} (h : Wp M hs k lv i l cl lvj j lj) (hc : ∀ x ∈ cl, x.2 < level) (hl : lv ≤ level) : lvj ≤ level := by
  induction h with
  | nil _ => exact hl
  | @cons lv i l c r b s K L cl lvj j lj hN hT hd ha hw ih => exact ih (fun x hx => hc x (List.mem_cons_of_mem _ hx)) (hc (i, b) (by simp))
/-- A new branch comes ahead of a cell. -/
theorem vput_fork (x : Wv) (zw zl zn zk zv j lvj b : Nat) (cl rest : List (Nat × Nat)) (y : Nat × Nat) (near : Pr) (lj : List Pr) (P : Nat → Nat) (w : World) (h : Ar w x.b most M F) (hm : most ≤ 1048576) (hg : hs k = x.g) (hb : Bk (most + 1) M [] P [x.root]) (hP : ∀ j, P j ≤ 576460752303423488)
    (hw : Wp M hs k 0 x.root l cl lvj j lj) (hy : Wy M hs (hs k) lvj j lj (y :: rest) lf) (hb13 : b < y.2) (hcb : ∀ q ∈ cl, q.2 < b) (hnear : near ∈ lf) (hp : pt (hs near.1) (hs k) = b) (hp13 : b < 13) (hcl : (cl ++ y :: rest).length ≤ 100)
    (ho4 : w.ownsRow 0 3 1 (.slice x.A4 x.n4 x.c4) x.n4 (nums (ns ((cl ++ y :: rest).map Prod.fst)))) (hn4 : x.n4 = (cl ++ y :: rest).length)
    (zw' : WC w zw x) (zl' : C1 w zl 3 (.int .i64 (b : Int))) (zn' : C1 w zn 22 (.int .u64 (hs near.1 : Nat))) (zk' : C3 w zk 43 (.int .u8 k.1) (.int .i64 k.2.1) (.string k.2.2)) (zv' : C3 w zv 43 (.int .u8 v.1) (.int .i64 v.2.1) (.string v.2.2)) (nF : ∀ z, z = zw ∨ z = zl ∨ z = zn ∨ z = zk ∨ z = zv → ¬ F z) :
    Calls Tryz.prog 106 #[wagg x, .int .i64 (cl.length : Nat), .int .i64 2, .func (.func 116) #[] #[.pointer (some ⟨zw, 0, none⟩), .pointer (some ⟨zl, 0, none⟩), .pointer (some ⟨zn, 0, none⟩), .pointer (some ⟨zk, 0, none⟩), .pointer (some ⟨zv, 0, none⟩)]] w fun e w' => (e = .returned (.tuple #[.int .i64 0, .int .i64 5]) ∧ most < live (most + 1) M + (freshN M x.ow (cl.map Prod.fst) + 2) ∧ Below w.heap.size w w') ∨
      ∃ n M', e = .returned (.tuple #[.int .i64 (n : Nat), .int .i64 0]) ∧ 1 ≤ n ∧ MRes most M P hs k (fun q => q = (k, v)) x.root x.ow l (freshN M x.ow (cl.map Prod.fst) + 2) n M' ∧ Stp w w' x.b most M' F := by
  obtain ⟨hTj, _, hagr⟩ := hy.at_lev
  have hlvj := hw.lev_le hcb (Nat.zero_le _)
  have hnj : near ∈ lj := hy.sub near hnear
  refine vreplace_bk x 116 #[.pointer (some ⟨zw, 0, none⟩), .pointer (some ⟨zl, 0, none⟩), .pointer (some ⟨zn, 0, none⟩), .pointer (some ⟨zk, 0, none⟩), .pointer (some ⟨zv, 0, none⟩)] 2 cl (y :: rest) P w h hm (fun args W => by kernel_rfl) hg (fun q hq => by rw [hq]) hb hP hw hcl (by simp) (by decide) ho4 hn4 (fun hroom W0 W M1 H1 P1 F1 r0 r1 r2 r3 r4 r5 r6 => ?_)
  have hz := hb.zero
  have hz1 : blank M1 H1 0 = none := blank_none.2 r2.zero
  have hj0 := r5.pos hz1
  have hjM : M1 j ≠ none := (r2.hand (i := j) (by simp) hj0).1
  have lt0 : ∀ {z : Nat}, z < w.heap.size → ¬ F z → ¬ F1 z := fun hz hn => nFz r1 (Nat.lt_of_lt_of_le hz r0.size) hn
  refine (vput4 (F := F1) x zw zl zn zk zv j b (hs near.1) k v W r1.ar ((zw'.below r0).kp r1.kp (nF _ (.inl rfl))) ((zl'.below r0).kp r1.kp (nF _ (.inr (.inl rfl)))) ((zn'.below r0).kp r1.kp (nF _ (.inr (.inr (.inl rfl))))) ((zk'.below r0).kp r1.kp (nF _ (.inr (.inr (.inr (.inl rfl)))))) ((zv'.below r0).kp r1.kp (nF _ (.inr (.inr (.inr (.inr rfl)))))) (fun z hz => by
    rcases hz with rfl | rfl | rfl
    · exact lt0 zw'.lt (nF _ (.inl rfl))
    · exact lt0 zk'.lt (nF _ (.inr (.inr (.inr (.inl rfl)))))
    · exact lt0 zv'.lt (nF _ (.inr (.inr (.inr (.inr rfl)))))) hp13 hjM (by omega)).mono ?_
  rintro e W' ⟨n, n2, rfl, n1, nm, nn, m1, mm, mn, hne, hst⟩
  refine ⟨n2, _, rfl, ?_, hst⟩
  rw [← hg]
  have hc1 : cnt (2 ^ dg (hs near.1) b) (dg (hs k) b) ≤ [j].length := by rw [cnt_pow]; split <;> simp
  obtain ⟨Ma, hMa⟩ : ∃ Ma, Ma = upd M1 n (some (⟨x.ow, 0, 13, [k, v], []⟩, 1)) := ⟨_, rfl⟩
  rw [← hMa]
  have hMan2 : Ma n2 = none := by rw [hMa, upd_other _ _ hne]; exact mn
  have b1 : Bk (most + 1) Ma H1 P1 [n, j] := by rw [hMa]; exact r2.leaf ⟨x.ow, 0, 13, [k, v], []⟩ rfl n1 (by omega) nn
  have b2 := Bk.make (c := ⟨x.ow, ((2 ^ dg (hs near.1) b ||| 2 ^ dg (hs k) b : Nat) : Int), (b : Int), [], [j].insertIdx (cnt (2 ^ dg (hs near.1) b) (dg (hs k) b)) n⟩) (hs := []) (b1.perm (fun q _ => by rw [List.append_nil]; exact (count_insert [j] _ n q hc1).symm)) m1 (by omega) hMan2 (by show ([j].insertIdx _ n).length ≤ 64; rw [List.length_insertIdx_of_le_length hc1]; simp)
  have hnH : n ∉ H1 := fun hx => by have := (r2.hole n hx).2; rw [nn] at this; simp [rf] at this
  have hn2H : n2 ∉ H1 := fun hx => by have := (r2.hole n2 hx).2; rw [mn] at this; simp [rf] at this
  have pa : ∀ r, Pres (blank M1 H1) (blank Ma H1) r := fun r => by rw [hMa]; exact Pres.all (all_blank (all_new nn _))
  have pb : ∀ r, Pres (blank Ma H1) (blank (upd Ma n2 (some (⟨x.ow, ((2 ^ dg (hs near.1) b ||| 2 ^ dg (hs k) b : Nat) : Int), (b : Int), [], [j].insertIdx (cnt (2 ^ dg (hs near.1) b) (dg (hs k) b)) n⟩, 1))) H1) r := fun r => Pres.all (all_blank (all_new hMan2 _))
  have hza : blank Ma H1 0 = none := blank_none.2 b1.zero
  refine ⟨m1, b2, fun r h0 hr => (pa r).trans (pb r), fun z hz => ?_, ?_, ?_⟩
  · rw [upd_other _ _ (fun e : z = n2 => hn2H (by rw [← e]; exact hz)), hMa, upd_other _ _ (fun e : z = n => hnH (by rw [← e]; exact hz))]
  · have e1 := live_upd (M := M1) (N := most + 1) n (some (⟨x.ow, 0, 13, [k, v], []⟩, 1)) (by omega)
    have e2 := live_upd (M := Ma) (N := most + 1) n2 (some (⟨x.ow, ((2 ^ dg (hs near.1) b ||| 2 ^ dg (hs k) b : Nat) : Int), (b : Int), [], [j].insertIdx (cnt (2 ^ dg (hs near.1) b) (dg (hs k) b)) n⟩, 1)) (by omega)
    rw [nn] at e1
    rw [hMan2] at e2
    rw [← hMa] at e1
    simp only [one] at e1 e2
    omega
  · have t0 := ((hTj.pres hz r4).pres hz1 (pa j)).pres hza (pb j)
    have t1 : HT (blank Ma H1) hs (b + 1) n [(k, v)] := leaf_one (ow := x.ow) (a := 0) (r' := 1) (by rw [blank_out hnH, hMa, upd_same]) (by omega)
    exact node_fork (near := near.1) (Ld := [(k, v)]) (r' := 1) (ow := x.ow) t0 hb13 hlvj hp hp13 (fun q hq i hi => hagr near hnj q hq i (by omega)) (by rw [blank_out hn2H, upd_same]) (t1.pres hza (pb n)) (fun q hq => by rw [hq]) (fun q => by simp)
end

end Go.Proofs.YtacoingheieceaaGreat

/- Package hamt: Put's first leaf: what a change makes of the empty map. -/
namespace Go.Proofs.YtacoingheieceaaGreat
set_option maxRecDepth 100000
open Go.RowKit
/-- The way of the empty map. -/
abbrev zway (b bh : Nat) (ow : Int) : Wv := ⟨b, bh, ow, 0, 0, none, 0, 0, none, 0, 0, none, 0, 0, 0, false⟩
section
set_option maxHeartbeats 1600000 in
theorem vreplaceE (b bh : Nat) (ow : Int) (fv : Value) (R : Value → Value → World → Prop) (w : World)
    (hF : ∀ W, Below w.heap.size w W → Calls Tryz.prog 138 #[ap b, .int .u32 ow, .slice none 0 0] W fun e W' => e = .returned (.int .i64 0) ∧ Below W.heap.size W W')
    (hD : ∀ W, Below w.heap.size w W → Calls Tryz.prog 139 #[wagg (zway b bh ow), .int .i64 0, .int .i64 1, fv] W fun e W' => ∃ a c, e = .returned (.tuple #[a, c]) ∧ R a c W') :
    Calls Tryz.prog 106 #[wagg (zway b bh ow), .int .i64 0, .int .i64 1, fv] w fun e w' => ∃ a c, e = .returned (.tuple #[a, c]) ∧ R a c w' := by
  obtain ⟨x, hx⟩ : ∃ x, x = zway b bh ow := ⟨_, rfl⟩
  rw [← hx] at hD ⊢
  have xb : x.b = b := by rw [hx]
  have xo : x.ow = ow := by rw [hx]
  have x5 : Value.slice x.A4 x.n4 x.c4 = .slice none 0 0 := by rw [hx]
  have hb : Below w.heap.size w (w.alloc (.cells (wcells x) 138)).drew := ((Below.refl _ w).alloc (Nat.le_refl _) _).drew
  have HB := Lib.hid hb
  have HWX := Lib.hid ((WC.new w x).below ((Below.refl _ (w.alloc (.cells (wcells x) 138))).drew))
  have HFX := Lib.hid hF
  have HDX := Lib.hid hD
  have m0 : ∀ W', WC W' w.heap.size x → W'.cell? ⟨w.heap.size, 0, none⟩ = some (ap b) := fun W' h => xb ▸ h.at rfl
  have m2 : ∀ W', WC W' w.heap.size x → W'.cell? ⟨w.heap.size, 2, none⟩ = some (.int .u32 ow) := fun W' h => xo ▸ h.at rfl
  have m5 : ∀ W', WC W' w.heap.size x → W'.cell? ⟨w.heap.size, 5, none⟩ = some (.slice none 0 0) := fun W' h => x5 ▸ h.at rfl
  clear hF hD hb hx xb xo x5
  go_enter Tryz.func106, Tryz.ntmps106
  go_wp2_with fail
  refine wp_region_noPanic ?_
  go_region_held (fun W' => WC W' w.heap.size x)
    (first | with_reducible assumption | with_reducible exact HWX.out | with_reducible exact HW2.out)
    ((go_at_call 138; refine (HFX.out _ HB.out).mono ?_; rintro e w2 ⟨rfl, hb2⟩; have HW2 := Lib.hid (HWX.out.below hb2); have HB2 := Lib.hid (HB.out.trans (hb2.mono HB.out.size)); clear hb2))
  refine NoPanic.normal ?_
  obtain ⟨q0, q1, q2, q3, q4, q5, q6, q7, q8, q9⟩ := HW2.out.all
  clear m0 m2 m5
  go_wp2_with fail
  refine (HDX.out _ HB2.out).mono ?_
  rintro e w3 ⟨a, c, rfl, hR⟩
  have HR := Lib.hid hR
  clear hR
  go_wp2_with fail
  exact bodyPost_ret (v := .tuple #[a, c]) (by simp [results, Tryz.results106, go_sem]) rfl ⟨a, c, rfl, HR.out⟩
end
section
variable {most : Nat} {M : Cells} {F : Nat → Prop} {hs : Ky → Nat} {k v : Ky}
theorem keepC_gone {M : Cells} {i : Nat} (h : M i = none) : keepC M i = M := by
  unfold keepC
  rw [h]
/-- What a change of the empty map leaves. -/
theorem vdoE (b bh zw zk zv : Nat) (ow : Int) (P : Nat → Nat) (w : World) (h : Ar w b most M F) (hm : most ≤ 1048576) (hb : Bk (most + 1) M [] P [0]) (hP : ∀ j, P j ≤ 576460752303423488) (hroom : live (most + 1) M + 1 ≤ most)
    (zw' : WC w zw (zway b bh ow)) (zk' : C3 w zk 43 (.int .u8 k.1) (.int .i64 k.2.1) (.string k.2.2)) (zv' : C3 w zv 43 (.int .u8 v.1) (.int .i64 v.2.1) (.string v.2.2)) (nF : ∀ z, z = zw ∨ z = zk ∨ z = zv → ¬ F z) :
    Calls Tryz.prog 139 #[wagg (zway b bh ow), .int .i64 0, .int .i64 1, .func (.func 107) #[] #[.pointer (some ⟨zw, 0, none⟩), .pointer (some ⟨zk, 0, none⟩), .pointer (some ⟨zv, 0, none⟩)]] w fun e w' => ∃ n M', e = .returned (.tuple #[.int .i64 (n : Nat), .int .i64 0]) ∧ 1 ≤ n ∧ MRes most M P hs k (fun q => q = (k, v)) 0 ow [] 1 n M' ∧ Stp w w' b most M' F := by
  have hz := hb.zero
  have hM : ∀ w2, beg1 M 0 w2 = M := fun w2 => by unfold beg1; split; · exact keepC_gone hz
                                                  · rfl
  refine (vdo_yes (zway b bh ow) 0 1 107 #[.pointer (some ⟨zw, 0, none⟩), .pointer (some ⟨zk, 0, none⟩), .pointer (some ⟨zv, 0, none⟩)] (fun W => Stp w W b most M F ∧ WC W zw (zway b bh ow) ∧ C3 W zk 43 (.int .u8 k.1) (.int .i64 k.2.1) (.string k.2.2) ∧ C3 W zv 43 (.int .u8 v.1) (.int .i64 v.2.1) (.string v.2.2)) (fun a w' => ∃ n M', a = .int .i64 (n : Nat) ∧ 1 ≤ n ∧ MRes most M P hs k (fun q => q = (k, v)) 0 ow [] 1 n M' ∧ Stp w w' b most M' F) w (fun W z vs hW hz' hWC hrd hown => ?_) (fun W hS => ?_)).mono ?_
  · have hA := h.below hW
    have hws := hW.size
    have hkeep : ∀ W', Stp w W' b most M F → WC W' zw (zway b bh ow) ∧ C3 W' zk 43 (.int .u8 k.1) (.int .i64 k.2.1) (.string k.2.2) ∧ C3 W' zv 43 (.int .u8 v.1) (.int .i64 v.2.1) (.string v.2.2) := fun W' hs => ⟨zw'.kp hs.kp (nF _ (.inl rfl)), zk'.kp hs.kp (nF _ (.inr (.inl rfl))), zv'.kp hs.kp (nF _ (.inr (.inr rfl)))⟩
    by_cases h0 : ow = 0
    · subst h0
      refine (vBegin_keep 1 [0] vs W hA hroom hrd (fun q hq => ⟨fun hf => by have h1 := hown q hq; have h2 := h.lt hf; omega, (hown q hq).2⟩) (by show 1 ≤ _; decide) (fun j => by
        have h1 := bk_rf hm hP hb (by show 1 ≤ 64; decide) j
        show rf (M j) + 1 ≤ _
        omega)).mono ?_
      rintro e W' ⟨rfl, hs2⟩
      have hs3 : Stp w W' b most M F := Stp.from (fun y hy => h.lt hy) hW (by
        have e1 : keepAll M [0] = M := keepC_gone hz
        rwa [e1] at hs2)
      exact ⟨rfl, hWC.kp hs2.kp (fun hf => by have := h.lt hf; omega), hs3, hkeep _ hs3⟩
    · refine (vBegin_own ow 1 vs W hA hroom h0).mono ?_
      rintro e W' ⟨rfl, hb2⟩
      have hs3 : Stp w W' b most M F := Stp.below h (hW.trans (hb2.mono hW.size))
      exact ⟨rfl, hWC.below hb2, hs3, hkeep _ hs3⟩
  · obtain ⟨hS, s1, s2, s3⟩ := hS
    have hnf : ∀ z, z < w.heap.size → ¬ F z → ¬ Fn F w W z := fun z hz hn hf => hf.elim hn (fun h => by omega)
    refine (vpass_zero (zway b bh ow) 0 107 #[.pointer (some ⟨zw, 0, none⟩), .pointer (some ⟨zk, 0, none⟩), .pointer (some ⟨zv, 0, none⟩)] (fun a w' => ∃ n M', a = .int .i64 (n : Nat) ∧ 1 ≤ n ∧ MRes most M P hs k (fun q => q = (k, v)) 0 ow [] 1 n M' ∧ Stp w w' b most M' F) W (fun args W => by kernel_rfl) (fun W2 hb2 => ?_)).mono ?_
    · refine (vput1 (zway b bh ow) zw zk zv 0 k v W2 (hS.ar.below hb2) (s1.below hb2) (s2.below hb2) (s3.below hb2) (by omega)).mono ?_
      rintro e W3 ⟨n, rfl, n1, n2, n3, hs4⟩
      have hb1 := hb.beg1 ow
      rw [hM] at hb1
      refine ⟨_, rfl, n, _, rfl, n1, ⟨?_, fun r h0 hr => Pres.all (all_new n3 _), ?_, ?_⟩, hS.trans (Stp.from (fun y hy => hS.ar.lt hy) hb2 hs4)⟩
      · exact (hb1.leaf ⟨ow, 0, 13, [k, v], []⟩ rfl n1 (by omega) n3).perm (fun q hq => by
          have : ¬ 0 = q := by omega
          simp [List.count_cons, this])
      · have e1 := live_upd (M := M) (N := most + 1) n (some (⟨ow, 0, 13, [k, v], []⟩, 1)) (by omega)
        rw [n3] at e1
        simp only [one] at e1
        show live (most + 1) (upd M n (some (⟨ow, 0, 13, [k, v], []⟩, 1))) ≤ _
        omega
      · exact ⟨[(k, v)], leaf_one (ow := ow) (a := 0) (r' := 1) (upd_same _ _ _) (by omega), fun q => by simp⟩
    · rintro e W2 ⟨a, rfl, n, M', rfl, h1, h2, h3⟩
      exact ⟨_, rfl, n, M', rfl, h1, h2, h3⟩
  · rintro e w' ⟨a, rfl, n, M', rfl, h1, h2, h3⟩
    exact ⟨n, M', rfl, h1, h2, h3⟩
end
end Go.Proofs.YtacoingheieceaaGreat
