/- Package pvec: what Set's other function does to the trunk: a leaf is changed, in whichever way. -/
import Derived.Test.YtgkhbnkbhcginaaRenewS06
import Derived.Deep.RegionHeld3
namespace Go.Proofs.Ytgkhbnkbhcginaa
open Go.RowKit

/-- A row of numbers in which one has been set. -/
theorem rd_setn {w : World} {base g n cp m : Nat} {l : List Nat} (x : Nat) (h : w.ownsRow base 3 1 (.slice (some ⟨g, 0, none⟩) n cp) n (nums (ns l))) (hn : l.length = n) (hm : m < l.length) :
    Rd (w.setCell ⟨g, m, none⟩ (.int .i64 (x : Int))) (.slice (some ⟨g, 0, none⟩) n cp) (l.set m x).length (nums (ns (l.set m x))) := by
  have key : ∀ (q : Nat) (u : Value), (nums (ns l))[q]? = some u → w.cell? ⟨g, q, none⟩ = some u := fun q u hu => by
    have := h.cells (g := g) rfl q u hu
    rwa [add_none, Nat.zero_add] at this
  have at' : ∀ (l : List Nat) (q : Nat), (nums (ns l))[q]? = l[q]?.map fun (x : Nat) => Value.int .i64 (x : Int) := fun l q => by
    rw [nums_at]; unfold ns; rw [List.getElem?_map, Option.map_map]; rfl
  have hcp : n ≤ cp := by
    obtain ⟨_, _, e', hle⟩ := (Rd.of_own h).form
    simp only [Value.slice.injEq] at e'
    omega
  rw [List.length_set, hn]
  refine .inr ⟨g, 0, cp, rfl, hcp, fun j u hu => ?_⟩
  rw [Nat.zero_add]
  rw [at'] at hu
  by_cases e : j = m
  · subst e
    rw [List.getElem?_set_self hm] at hu
    simp only [Option.map_some, Option.some.injEq] at hu
    subst hu
    exact World.cell?_setCell_same _ _ _ (key j _ (by rw [at', List.getElem?_eq_getElem hm]; rfl))
  · rw [List.getElem?_set_ne (Ne.symm e), ← at'] at hu
    rw [World.cell?_setCell_other _ _ _ _ (fun e' => e (by injection e' with _ e' _; exact e'.symm))]
    exact key j u hu

theorem World.frozen_of_kp' {F : Nat → Prop} {w w' : World} (hk : Kp F w w') {g m : Nat} {y : Value} (hg : ¬ F g) (_hc : w'.cell? ⟨g, m, none⟩ = some y) (hl : g < w.heap.size) : w'.frozen? ⟨g, m, none⟩ = w.frozen? ⟨g, m, none⟩ := by
  have h := hk.block g hl hg
  unfold World.frozen?
  rw [h]
/-- The number in a cell. -/
def kI (W : World) (g m : Nat) : Int := match W.cell? ⟨g, m, none⟩ with
  | some (.int _ u) => u
  | _ => 0
/-- What stands while the region runs. -/
structure Sk (W : World) (b z5 z6 za zi zo zf gk m i : Nat) (ow o ca cb : Int) (v k fn : Value) : Prop where
  box : C5 W z5 59 (.int .u32 o) (.int .u32 ca) (.int .u32 cb) v k
  out : C5 W z6 59 (.int .u32 0) (.int .u32 0) (.int .u32 0) (.slice none 0 0) (.slice none 0 0)
  ca : W.cell? ⟨za, 0, none⟩ = some (ap b)
  ci : W.cell? ⟨zi, 0, none⟩ = some (.int .i64 (i : Int))
  co : W.cell? ⟨zo, 0, none⟩ = some (.int .u32 ow)
  cf : W.cell? ⟨zf, 0, none⟩ = some fn
  kc : W.cell? ⟨gk, m, none⟩ = some (.int .i64 (kI W gk m))
  kf : W.frozen? ⟨gk, m, none⟩ = false
  ne : gk ≠ z5 ∧ gk ≠ z6 ∧ gk ≠ za ∧ gk ≠ zi ∧ gk ≠ zo ∧ gk ≠ zf
theorem Sk.drew {W : World} {b z5 z6 za zi zo zf gk m i : Nat} {ow o ca cb : Int} {v k fn : Value} (h : Sk W b z5 z6 za zi zo zf gk m i ow o ca cb v k fn) : Sk W.drew b z5 z6 za zi zo zf gk m i ow o ca cb v k fn := ⟨h.box, h.out, h.ca, h.ci, h.co, h.cf, h.kc, h.kf, h.ne⟩
theorem Sk.store {W : World} {b z5 z6 za zi zo zf gk m i : Nat} {ow o ca cb : Int} {v k fn : Value} (h : Sk W b z5 z6 za zi zo zf gk m i ow o ca cb v k fn) (u : Int) : Sk (W.setCell ⟨gk, m, none⟩ (.int .i64 u)) b z5 z6 za zi zo zf gk m i ow o ca cb v k fn := by
  have far : ∀ z y, gk ≠ z → W.cell? ⟨z, 0, none⟩ = some y → (W.setCell ⟨gk, m, none⟩ (.int .i64 u)).cell? ⟨z, 0, none⟩ = some y := fun z y hz hy => (World.cell?_setCell_other _ _ _ _ (fun e => hz (by injection e))).trans hy
  have hk := World.cell?_setCell_same W ⟨gk, m, none⟩ (.int .i64 u) h.kc
  exact ⟨h.box.other h.ne.1.symm _, h.out.other h.ne.2.1.symm _, far _ _ h.ne.2.2.1 h.ca, far _ _ h.ne.2.2.2.1 h.ci, far _ _ h.ne.2.2.2.2.1 h.co, far _ _ h.ne.2.2.2.2.2 h.cf, by unfold kI; rw [hk], (World.frozen?_setCell _ _ _ _).trans h.kf, h.ne⟩

section
variable {b most : Nat} {M1 : Cells} {F : Nat → Prop}
set_option maxRecDepth 100000 in
set_option maxHeartbeats 1500000 in
theorem chgS_kid (i zi za zo zf kid : Nat) (ow : Int) (fv : Value) (Rin : Nat → Cells → Prop) (w : World) (hi : w.cell? ⟨zi, 0, none⟩ = some (.int .i64 (i : Int)))
    (ha : w.cell? ⟨za, 0, none⟩ = some (ap b)) (ho : w.cell? ⟨zo, 0, none⟩ = some (.int .u32 ow)) (hfn : w.cell? ⟨zf, 0, none⟩ = some fv)
    (nF : ∀ z, z = zi ∨ z = za ∨ z = zo ∨ z = zf → ¬ F z) (c : Hc) (hk : c.kids[i / 32]? = some kid) (hi2 : i < 1024)
    (hin : ∀ (W : World) (F1 : Nat → Prop), Rn w W b most M1 F F1 → Calls Try.prog 44 #[ap b, .int .i64 kid, .int .u32 ow, fv] W fun e W' => ∃ n2 M2, e = .returned (.int .i64 (n2 : Nat)) ∧ Rin n2 M2 ∧ Stp W W' b most M2 F1) :
    ChgS 50 #[.pointer (some ⟨za, 0, none⟩), .pointer (some ⟨zi, 0, none⟩), .pointer (some ⟨zo, 0, none⟩), .pointer (some ⟨zf, 0, none⟩)] b most F w M1 c
      (fun c' M2 => ∃ n2 : Nat, Rin n2 M2 ∧ c' = { c with kids := c.kids.set (i / 32) n2 }) := by
  intro o v k W F1 hRn nv nk o1 o2
  have hlk : i / 32 < c.kids.length := (List.getElem?_eq_some_iff.1 hk).1
  obtain ⟨gk, m2, e, hm2, hcell, hfz⟩ := own_at o2 (j := i / 32) (u := .int .i64 (kid : Int)) (by rw [nums_at]; unfold ns; rw [List.getElem?_map, hk]; rfl)
  subst e
  obtain ⟨A1, m1, rfl, _⟩ := (Rd.of_own o1).form
  have nF1 : ∀ z, z < w.heap.size → ¬ F z → ¬ F1 z := fun z hz hn hf => (hRn.sub z hf).elim hn (fun h => by omega)
  have li : zi < w.heap.size := World.block_lt_of_cell? w _ hi
  have I0 := hRn.kp.cell hi (nF _ (.inl rfl))
  have A0 := hRn.kp.cell ha (nF _ (.inr (.inl rfl)))
  have OW := hRn.kp.cell ho (nF _ (.inr (.inr (.inl rfl))))
  have FN := hRn.kp.cell hfn (nF _ (.inr (.inr (.inr rfl))))
  have la : za < w.heap.size := World.block_lt_of_cell? w _ ha
  have lo : zo < w.heap.size := World.block_lt_of_cell? w _ ho
  have lf : zf < w.heap.size := World.block_lt_of_cell? w _ hfn
  have NA := Lib.hid (show ∀ z, z = za ∨ z = zi ∨ z = zo ∨ z = zf → ¬ F1 z from fun z hz => by
    rcases hz with rfl | rfl | rfl | rfl
    · exact nF1 _ la (nF _ (.inr (.inl rfl)))
    · exact nF1 _ li (nF _ (.inl rfl))
    · exact nF1 _ lo (nF _ (.inr (.inr (.inl rfl))))
    · exact nF1 _ lf (nF _ (.inr (.inr (.inr rfl)))))
  have LW := Lib.hid (show za < w.heap.size ∧ zi < w.heap.size ∧ zo < w.heap.size ∧ zf < w.heap.size from ⟨la, li, lo, lf⟩)
  have hbr := Lib.hid (show ∀ W, Calls Try.prog 51 #[.int .i64 (i : Int)] W fun e w' => e = .returned (.int .i64 ((i / 32 : Nat) : Int)) ∧ W = w' from fun W => vbranch i W hi2)
  have O1 := Lib.hid o1
  have O2 := Lib.hid o2
  have RN := Lib.hid hRn
  have NV := Lib.hid nv
  have NK := Lib.hid nk
  have HIN := Lib.hid hin
  have hws := hRn.kp.size
  have hgk := own_blk o2 gk rfl
  have hF1 := Lib.hid (show ∀ q, F1 q → q < W.heap.size from fun q hq => hRn.ar.lt hq)
  clear o1 o2 hRn nv nk hi ha ho hfn nF nF1 hin
  show Calls Try.prog 50 #[cagg o c.a c.b (.slice A1 c.vals.length m1) (.slice (some ⟨gk, 0, none⟩) c.kids.length m2), .pointer (some ⟨za, 0, none⟩), .pointer (some ⟨zi, 0, none⟩), .pointer (some ⟨zo, 0, none⟩), .pointer (some ⟨zf, 0, none⟩)] W _
  have hb2 : Below W.heap.size W ((W.alloc (.cells #[.int .u32 o, .int .u32 c.a, .int .u32 c.b, .slice A1 c.vals.length m1, .slice (some ⟨gk, 0, none⟩) c.kids.length m2] 59)).alloc (.cells #[.int .u32 0, .int .u32 0, .int .u32 0, .slice none 0 0, .slice none 0 0] 59)) := ((Below.refl _ W).alloc (Nat.le_refl _) _).alloc (by simp) _
  have q1 := (C5.new W 59 (.int .u32 o) (.int .u32 c.a) (.int .u32 c.b) (.slice A1 c.vals.length m1) (.slice (some ⟨gk, 0, none⟩) c.kids.length m2)).alloc (.cells #[.int .u32 0, .int .u32 0, .int .u32 0, .slice none 0 0, .slice none 0 0] 59)
  have q2 := C5.new (W.alloc (.cells #[.int .u32 o, .int .u32 c.a, .int .u32 c.b, .slice A1 c.vals.length m1, .slice (some ⟨gk, 0, none⟩) c.kids.length m2] 59)) 59 (.int .u32 0) (.int .u32 0) (.int .u32 0) (.slice none 0 0) (.slice none 0 0)
  rw [show (W.alloc (.cells #[.int .u32 o, .int .u32 c.a, .int .u32 c.b, .slice A1 c.vals.length m1, .slice (some ⟨gk, 0, none⟩) c.kids.length m2] 59)).heap.size = W.heap.size + 1 by simp] at q2
  go_enter Try.func50, Try.ntmps50
  go_wp2_with fail
  have HK := Lib.hid (Kp.of_below hb2 (fun _ => False))
  have i0 := HK.out.cell I0 id
  have a0 := HK.out.cell A0 id
  have ow0 := HK.out.cell OW id
  have fn0 := HK.out.cell FN id
  have O1a := Lib.hid (HK.out.own O1.out (fun _ _ h => h))
  have O2a := Lib.hid (HK.out.own O2.out (fun _ _ h => h))
  have RN2 := Lib.hid (RN.out.mine HK.out (fun _ h => h.elim))
  have hW2 : W.heap.size + 2 = ((W.alloc (.cells #[.int .u32 o, .int .u32 c.a, .int .u32 c.b, .slice A1 c.vals.length m1, .slice (some ⟨gk, 0, none⟩) c.kids.length m2] 59)).alloc (.cells #[.int .u32 0, .int .u32 0, .int .u32 0, .slice none 0 0, .slice none 0 0] 59)).heap.size := by simp
  generalize (W.alloc (.cells #[.int .u32 o, .int .u32 c.a, .int .u32 c.b, .slice A1 c.vals.length m1, .slice (some ⟨gk, 0, none⟩) c.kids.length m2] 59)).alloc (.cells #[.int .u32 0, .int .u32 0, .int .u32 0, .slice none 0 0, .slice none 0 0] 59) = w2 at q1 q2 i0 a0 ow0 fn0 HK O1a O2a RN2 hW2 ⊢
  have HREN := Lib.hid (HIN.out w2.drew F1 (RN2.out.mine (Kp.of_below (Below.refl _ w2).drew (fun _ => False)) (fun _ h => h.elim)))
  obtain ⟨_, _, e, _, kc, kf⟩ := own_at O2a.out (j := i / 32) (u := .int .i64 (kid : Int)) (by rw [nums_at]; unfold ns; rw [List.getElem?_map, hk]; rfl)
  simp only [Value.slice.injEq, Option.some.injEq, Addr.mk.injEq, and_true, true_and] at e
  obtain ⟨rfl, rfl⟩ := e
  have NB := Lib.hid (show ¬ F1 gk ∧ ¬ F1 W.heap.size ∧ ¬ F1 (W.heap.size + 1) from ⟨NK.out gk rfl, fun hf => absurd (hF1.out _ hf) (Nat.lt_irrefl _), fun hf => by have := hF1.out _ hf; omega⟩)
  have NG := Lib.hid (show (∀ q, (Value.slice A1 c.vals.length m1).ownBlock = some q → q ≠ gk) ∧ gk < W.heap.size ∧ w.heap.size ≤ gk from ⟨fun q hq => by
    obtain ⟨cur, hcur⟩ := own_type O2.out gk rfl
    exact own_ne O1.out hcur (by decide) q hq, hgk.2, hgk.1⟩)
  have NL := Lib.hid (show ∀ q, (Value.slice A1 c.vals.length m1).ownBlock = some q → w.heap.size ≤ q ∧ q < W.heap.size from fun q hq => own_blk O1.out q hq)
  have KJ := Lib.hid (show (nums (ns c.kids))[i / 32]? = some (.int .i64 (kid : Int)) by rw [nums_at]; unfold ns; rw [List.getElem?_map, hk]; rfl)
  have hkI : kI w2.drew gk (i / 32) = (kid : Int) := by unfold kI; rw [show w2.drew.cell? ⟨gk, i / 32, none⟩ = some (.int .i64 (kid : Int)) from kc]
  have hne : gk ≠ W.heap.size ∧ gk ≠ W.heap.size + 1 ∧ gk ≠ za ∧ gk ≠ zi ∧ gk ≠ zo ∧ gk ≠ zf := by
    have h1 := NG.out.2
    have h2 := LW.out
    omega
  have HW2 := Lib.hid (show W.heap.size ≤ w2.heap.size from HK.out.size)
  have HSK := Lib.hid (Sk.mk (b := b) q1 q2 a0 i0 ow0 fn0 (show w2.cell? ⟨gk, i / 32, none⟩ = some (.int .i64 (kI w2 gk (i / 32))) from by unfold kI; rw [kc]) kf hne)
  have HLT := Lib.hid hlk
  have Q1 := Lib.hid q1
  have Q2 := Lib.hid q2
  generalize hm : i / 32 = m at hbr hlk HREN HLT hk KJ hkI HSK kc kf
  have HM := Lib.hid hm
  have hm3 : (0 : Int) ≤ (m : Int) := by omega
  have hm4 : (m : Int) < (c.kids.length : Int) := by omega
  clear q1 q2 hb2 O1 O2 hcell I0 A0 OW FN hlk hm hk kc kf a0 i0 ow0 fn0 hne
  have HKP := Lib.hid (show ∀ W', Kp F1 w2.drew W' → Sk W' b W.heap.size (W.heap.size + 1) za zi zo zf gk m i ow o c.a c.b (.slice A1 c.vals.length m1) (.slice (some ⟨gk, 0, none⟩) c.kids.length m2) fv from fun W' hkp => by
    have h0 := HSK.out.drew
    have hkc := hkp.cell h0.kc NB.out.1
    have e : kI W' gk m = kI w2.drew gk m := by
      show (match W'.cell? ⟨gk, m, none⟩ with | some (.int _ u) => u | _ => 0) = _
      rw [hkc]
    exact ⟨h0.box.kp hkp NB.out.2.1, h0.out.kp hkp NB.out.2.2, hkp.cell h0.ca (NA.out _ (.inl rfl)), hkp.cell h0.ci (NA.out _ (.inr (.inl rfl))), hkp.cell h0.co (NA.out _ (.inr (.inr (.inl rfl)))), hkp.cell h0.cf (NA.out _ (.inr (.inr (.inr rfl)))), by rw [hkc, e], by rw [World.frozen_of_kp' hkp NB.out.1 hkc (by have := NG.out.2.1; have := HW2.out; show gk < w2.heap.size; omega)]; exact h0.kf, h0.ne⟩)
  have g0 : ∀ W', Sk W' b W.heap.size (W.heap.size + 1) za zi zo zf gk m i ow o c.a c.b (.slice A1 c.vals.length m1) (.slice (some ⟨gk, 0, none⟩) c.kids.length m2) fv → W'.cell? ⟨W.heap.size, 4, none⟩ = some (.slice (some ⟨gk, 0, none⟩) c.kids.length m2) := fun W' h => h.box.c4
  have g1 : ∀ W', Sk W' b W.heap.size (W.heap.size + 1) za zi zo zf gk m i ow o c.a c.b (.slice A1 c.vals.length m1) (.slice (some ⟨gk, 0, none⟩) c.kids.length m2) fv → W'.cell? ⟨za, 0, none⟩ = some (ap b) := fun W' h => h.ca
  have g2 : ∀ W', Sk W' b W.heap.size (W.heap.size + 1) za zi zo zf gk m i ow o c.a c.b (.slice A1 c.vals.length m1) (.slice (some ⟨gk, 0, none⟩) c.kids.length m2) fv → W'.cell? ⟨zi, 0, none⟩ = some (.int .i64 (i : Int)) := fun W' h => h.ci
  have g3 : ∀ W', Sk W' b W.heap.size (W.heap.size + 1) za zi zo zf gk m i ow o c.a c.b (.slice A1 c.vals.length m1) (.slice (some ⟨gk, 0, none⟩) c.kids.length m2) fv → W'.cell? ⟨zo, 0, none⟩ = some (.int .u32 ow) := fun W' h => h.co
  have g4 : ∀ W', Sk W' b W.heap.size (W.heap.size + 1) za zi zo zf gk m i ow o c.a c.b (.slice A1 c.vals.length m1) (.slice (some ⟨gk, 0, none⟩) c.kids.length m2) fv → W'.cell? ⟨zf, 0, none⟩ = some fv := fun W' h => h.cf
  have g5 : ∀ W', Sk W' b W.heap.size (W.heap.size + 1) za zi zo zf gk m i ow o c.a c.b (.slice A1 c.vals.length m1) (.slice (some ⟨gk, 0, none⟩) c.kids.length m2) fv → W'.cell? ⟨gk, m, none⟩ = some (.int .i64 (kI W' gk m)) := fun W' h => h.kc
  have g6 : ∀ W', Sk W' b W.heap.size (W.heap.size + 1) za zi zo zf gk m i ow o c.a c.b (.slice A1 c.vals.length m1) (.slice (some ⟨gk, 0, none⟩) c.kids.length m2) fv → W'.frozen? ⟨gk, m, none⟩ = false := fun W' h => h.kf
  refine wp_region_noPanic ?_
  refine wp_region_held_drew (S := fun W' => Sk W' b W.heap.size (W.heap.size + 1) za zi zo zf gk m i ow o c.a c.b (.slice A1 c.vals.length m1) (.slice (some ⟨gk, 0, none⟩) c.kids.length m2) fv) (by kernel_rfl) HSK.out.drew (fun hH => ?_)
  refine wpAnyH_take (i := 0) (v := ?_) rfl (by kernel_rfl) (by kernel_rfl) (by kernel_rfl) (fun _ _ _ h => h) (Or.inl ⟨by rfl, ?_⟩) hH ?_
  rotate_left
  · intro W' hS
    go_simp
    with_reducible rfl
  simp only [Act.put, List.setIfInBounds_toArray, List.set_cons_zero, List.set_cons_succ, List.getElem_toArray, List.getElem_cons_zero]
  refine wpAnyH_take (i := 1) (v := ?_) rfl (by kernel_rfl) (by kernel_rfl) (by kernel_rfl) (fun _ _ _ h => h) (Or.inl ⟨by rfl, ?_⟩) hH ?_
  rotate_left
  · intro W' hS
    go_simp
    with_reducible rfl
  simp only [Act.put, List.setIfInBounds_toArray, List.set_cons_zero, List.set_cons_succ, List.getElem_toArray, List.getElem_cons_zero, List.getElem_cons_succ]
  refine wpAnyH_take (i := 2) (v := ?_) rfl (by kernel_rfl) (by kernel_rfl) (by kernel_rfl) (fun _ _ _ h => h) (Or.inl ⟨by rfl, ?_⟩) hH ?_
  rotate_left
  · intro W' hS
    go_simp
    with_reducible rfl
  simp only [Act.put, List.setIfInBounds_toArray, List.set_cons_zero, List.set_cons_succ, List.getElem_toArray, List.getElem_cons_zero, List.getElem_cons_succ]
  refine wpAnyH_take (i := 4) (v := ?_) rfl (by kernel_rfl) (by kernel_rfl) (by kernel_rfl) (fun _ _ _ h => h) (Or.inl ⟨by rfl, ?_⟩) hH ?_
  rotate_left
  · intro W' hS
    go_simp
    with_reducible rfl
  simp only [Act.put, List.setIfInBounds_toArray, List.set_cons_zero, List.set_cons_succ, List.getElem_toArray, List.getElem_cons_zero, List.getElem_cons_succ]
  refine wpAnyH_take (i := 5) (v := ?_) rfl (by kernel_rfl) (by kernel_rfl) (by kernel_rfl) (fun _ _ _ h => h) (Or.inl ⟨by rfl, ?_⟩) hH ?_
  rotate_left
  · intro W' hS
    go_simp
    with_reducible rfl
  simp only [Act.put, List.setIfInBounds_toArray, List.set_cons_zero, List.set_cons_succ, List.getElem_toArray, List.getElem_cons_zero, List.getElem_cons_succ]
  refine wpAnyH_take (i := 6) (v := ?_) rfl (by kernel_rfl) (by kernel_rfl) (by kernel_rfl) (fun _ _ _ h => h) (Or.inl ⟨by rfl, ?_⟩) hH ?_
  rotate_left
  · intro W' hS
    go_simp
    with_reducible rfl
  simp only [Act.put, List.setIfInBounds_toArray, List.set_cons_zero, List.set_cons_succ, List.getElem_toArray, List.getElem_cons_zero, List.getElem_cons_succ]
  refine wpAnyH_take (i := 7) (v := ?_) rfl (by kernel_rfl) (by kernel_rfl) (by kernel_rfl) (fun _ _ _ h => h) (Or.inl ⟨by rfl, ?_⟩) hH ?_
  rotate_left
  · intro W' hS
    go_simp
    with_reducible rfl
  simp only [Act.put, List.setIfInBounds_toArray, List.set_cons_zero, List.set_cons_succ, List.getElem_toArray, List.getElem_cons_zero, List.getElem_cons_succ]
  refine wpAnyH_take (i := 11) (v := ?_) rfl (by kernel_rfl) (by kernel_rfl) (by kernel_rfl) (fun _ _ _ h => h) (Or.inl ⟨by rfl, ?_⟩) hH ?_
  rotate_left
  · intro W' hS
    go_simp
    with_reducible rfl
  simp only [Act.put, List.setIfInBounds_toArray, List.set_cons_zero, List.set_cons_succ, List.getElem_toArray, List.getElem_cons_zero, List.getElem_cons_succ]
  refine wpAnyH_take (i := 12) (v := ?_) rfl (by kernel_rfl) (by kernel_rfl) (by kernel_rfl) (fun _ _ _ h => h) (Or.inl ⟨by rfl, ?_⟩) hH ?_
  rotate_left
  · intro W' hS
    go_simp
    with_reducible rfl
  simp only [Act.put, List.setIfInBounds_toArray, List.set_cons_zero, List.set_cons_succ, List.getElem_toArray, List.getElem_cons_zero, List.getElem_cons_succ]
  refine wpAnyH_ready (rs := [3]) (by kernel_rfl) (by simp) ?_
  refine AllReadyH.cons rfl (fun K hK => ?_) AllReadyH.nil
  go_simp
  go_wp2_with (go_at_call 51; refine (hbr.out _).mono ?_; rintro e w' ⟨rfl, rfl⟩)
  refine hK.out _ _ ?_ (fun hH => ?_)
  · exact HSK.out.drew
  clear hK K
  refine wpAnyH_ready (rs := [8]) (by kernel_rfl) (by simp) ?_
  refine AllReadyH.cons rfl (fun K hK => ?_) AllReadyH.nil
  go_simp
  go_wp2_with (go_at_call 51; refine (hbr.out _).mono ?_; rintro e w' ⟨rfl, rfl⟩)
  refine hK.out _ _ ?_ (fun hH => ?_)
  · exact HSK.out.drew
  clear hK K
  refine wpAnyH_take (i := 9) (v := ?_) rfl (by kernel_rfl) (by kernel_rfl) (by kernel_rfl) (fun _ _ _ h => h) (Or.inl ⟨by rfl, ?_⟩) hH ?_
  rotate_left
  · intro W' hS
    go_simp
    with_reducible rfl
  simp only [Act.put, List.setIfInBounds_toArray, List.set_cons_zero, List.set_cons_succ, List.getElem_toArray, List.getElem_cons_zero, List.getElem_cons_succ]
  refine wpAnyH_ready (rs := [10]) (by kernel_rfl) (by simp) ?_
  refine AllReadyH.cons rfl (fun K hK => ?_) AllReadyH.nil
  have kc := HSK.out.drew.kc
  rw [hkI] at kc
  go_simp
  clear kc
  refine hK.out _ _ ?_ (fun hH => ?_)
  · exact HSK.out.drew
  clear hK K
  refine wpAnyH_ready (rs := [13]) (by kernel_rfl) (by simp) ?_
  refine AllReadyH.cons rfl (fun K hK => ?_) AllReadyH.nil
  go_simp
  refine HREN.out.mono ?_
  rintro e w5 ⟨n2, M2, rfl, hrin, hs⟩
  have HS := Lib.hid hs
  have HRI := Lib.hid hrin
  have hS5 := HKP.out _ hs.kp
  have HS5 := Lib.hid hS5
  clear hs hrin hS5
  simp only
  refine hK.out _ _ ?_ (fun hH => ?_)
  · exact HS5.out
  clear hK K
  refine wpAnyH_take (i := 14) (v := ?_) rfl (by kernel_rfl) (by kernel_rfl) (by kernel_rfl) (fun _ _ _ h => h) (Or.inl ⟨by rfl, ?_⟩) hH ?_
  rotate_left
  · intro W' hS
    go_simp
    with_reducible rfl
  simp only [Act.put, List.setIfInBounds_toArray, List.set_cons_zero, List.set_cons_succ, List.getElem_toArray, List.getElem_cons_zero, List.getElem_cons_succ]
  refine wpAnyH_ready (rs := [15]) (by kernel_rfl) (by simp) ?_
  refine AllReadyH.cons rfl (fun K hK => ?_) AllReadyH.nil
  have kc := HS5.out.kc
  have kf := HS5.out.kf
  go_simp
  clear kc kf
  refine hK.out _ _ ?_ (fun hH => ?_)
  · exact HS5.out.store _
  clear hK K
  refine wpAnyH_done (by kernel_rfl) ?_ _
  refine NoPanic.normal ?_
  have kd2 := Kp.of_below (Below.refl _ w2).drew (fun _ => False)
  have O1e := HS.out.kp.own (kd2.own O1a.out (fun _ _ h => h)) NV.out
  have O2e := HS.out.kp.own (kd2.own O2a.out (fun _ _ h => h)) NK.out
  have hk6 := Kp.one w5 gk m (.int .i64 (n2 : Int))
  have R1 := Lib.hid (hk6.rd (Rd.of_own O1e) (fun q hq => NG.out.1 q hq))
  have R2 := Lib.hid (rd_setn n2 O2e rfl HLT.out)
  have RN6 := Lib.hid (((RN2.out.mine kd2 (fun _ h => h.elim)).stp HS.out).mine hk6 (fun q hq => ⟨hq ▸ NG.out.2.2, fun hf => by
    subst hq
    rcases hf with hf | hf
    · exact NB.out.1 hf
    · have h1 := NG.out.2.1
      have h2 := HW2.out
      have h3 : w2.heap.size ≤ q := hf.1
      omega⟩))
  have N6 := Lib.hid (show ∀ q, q < W.heap.size + 2 → ¬ F1 q → ¬ Fn F1 w2.drew w5 q from fun q hq hn hf => by
    rcases hf with hf | hf
    · exact hn hf
    · have h3 : w2.heap.size ≤ q := hf.1
      omega)
  have hz : W.heap.size ≤ (w5.setCell ⟨gk, m, none⟩ (.int .i64 (n2 : Int))).heap.size := Nat.le_of_lt hH.box.lt
  obtain ⟨x0, x1, x2, x3, x4, _⟩ := hH.box.all
  obtain ⟨z0, z1, z2, z3, z4, u0, u1, u2, u3, u4⟩ := hH.out.all
  clear hk6 O1e O2e kd2 hH
  generalize w5.setCell ⟨gk, m, none⟩ (.int .i64 (n2 : Int)) = w6 at R1 R2 RN6 hz x0 x1 x2 x3 x4 z0 z1 z2 z3 z4 u0 u1 u2 u3 u4 ⊢
  clear g0 g1 g2 g3 g4 g5 g6
  go_wp2_with fail
  have hk2 : Kp (fun q => q = W.heap.size + 1) w6 (((((w6.setCell ⟨W.heap.size + 1, 0, none⟩ (.int .u32 o)).setCell ⟨W.heap.size + 1, 1, none⟩ (.int .u32 c.a)).setCell ⟨W.heap.size + 1, 2, none⟩ (.int .u32 c.b)).setCell ⟨W.heap.size + 1, 3, none⟩ (.slice A1 c.vals.length m1)).setCell ⟨W.heap.size + 1, 4, none⟩ (.slice (some ⟨gk, 0, none⟩) c.kids.length m2)) := (((((Kp.refl (fun q => q = W.heap.size + 1) w6).setCell (.inl rfl) _).setCell (.inl rfl) _).setCell (.inl rfl) _).setCell (.inl rfl) _).setCell (.inl rfl) _
  refine bodyPost_ret (v := cagg o c.a c.b (.slice A1 c.vals.length m1) (.slice (some ⟨gk, 0, none⟩) c.kids.length m2)) (by simp [results, Try.results50, go_sem, z0, z1, z2, z3, z4]) rfl ⟨.slice A1 c.vals.length m1, .slice (some ⟨gk, 0, none⟩) c.kids.length m2, { c with kids := c.kids.set (i / 32) n2 }, M2, _, rfl, ?_, ?_, RN6.out.mine hk2 (fun q e => ?_), fun q hq => ?_, fun q hq => ?_, n2, HRI.out, rfl⟩
  · exact hk2.rd R1.out (fun q hq => by have := NL.out q hq; omega)
  · rw [HM.out]
    exact hk2.rd R2.out (fun q hq => by have e : gk = q := Option.some.inj hq; have := NG.out.2.1; omega)
  · subst e
    exact ⟨by omega, N6.out _ (by omega) NB.out.2.2⟩
  · have := NL.out q hq
    exact N6.out q (by omega) (NV.out q hq)
  · have e : gk = q := Option.some.inj hq
    have := NG.out.2.1
    exact N6.out q (by omega) (NK.out q hq)
end
end Go.Proofs.Ytgkhbnkbhcginaa
