/- Several texts in one. -/
import Derived.Test.YtghbbpbhbinioaaGreatMr09
import Derived.Test.YtghbbpbhbinioaaGreatMr06
namespace Go.Proofs.YtghbbpbhbinioaaGreat
set_option linter.unusedVariables false
abbrev h0 : Ky → Nat := fun _ => 0
theorem h0_klt {a b : Ky} : klt h0 a b ↔ vc a b = -1 := klt_vc (pt_self 0)
structure Nv where
  key : Ky
  val : Ky
  cell : Nat
  low : Option Addr
  high : Option Addr
  shared : Nat
  rank : Int
  kx : Nat
  ky : Nat
  fresh : Nat
structure NdC (M : Cells) (i : Nat) (c : Hc) (r : Nat) (k v : Ky) (x y : Nat) : Prop where
  cell : M i = some (c, r)
  ne : i ≠ 0
  vals : c.vals = [k, v]
  kids : c.kids = [x, y]
inductive TT (M : Cells) : Nat → List Pr → Prop
  | nil : TT M 0 []
  | node {i r x y : Nat} {c : Hc} {k v : Ky} {lx ly : List Pr} (hn : NdC M i c r k v x y) (hx : TT M x lx) (hy : TT M y ly) (hs : Srt h0 (lx ++ (k, v) :: ly)) : TT M i (lx ++ (k, v) :: ly)
section
variable {M M' : Cells} {i x y : Nat} {l lx ly la lb pre suf ln : List Pr} {k v : Ky}
theorem TT.srt (h : TT M i l) : Srt h0 l := by
  cases h with
  | nil => exact List.Pairwise.nil
  | node _ _ _ hs => exact hs
theorem TT.zero (h : TT M 0 l) : l = [] := by
  generalize hi : 0 = i at h
  cases h with
  | nil => rfl
  | node hn => exact absurd hi.symm hn.ne
theorem TT.inv (h : TT M i l) (hi : i ≠ 0) : ∃ c r k v x y lx ly, NdC M i c r k v x y ∧ TT M x lx ∧ TT M y ly ∧ l = lx ++ (k, v) :: ly := by
  cases h with
  | nil => exact absurd rfl hi
  | node hn hx hy _ => exact ⟨_, _, _, _, _, _, _, _, hn, hx, hy, rfl⟩
theorem NdC.pres {c : Hc} {r : Nat} (h : NdC M i c r k v x y) (hp : Pres M M' i) : ∃ r', NdC M' i c r' k v x y := by
  obtain ⟨r', e⟩ := hp _ _ _ .refl h.cell
  exact ⟨r', e, h.ne, h.vals, h.kids⟩
theorem NdC.presx {c : Hc} {r : Nat} (h : NdC M i c r k v x y) (hp : Pres M M' i) (h0 : x ≠ 0) : Pres M M' x := hp.kid h.cell (by rw [h.kids]; simp) h0
theorem NdC.presy {c : Hc} {r : Nat} (h : NdC M i c r k v x y) (hp : Pres M M' i) (h0 : y ≠ 0) : Pres M M' y := hp.kid h.cell (by rw [h.kids]; simp) h0
theorem TT.pres (h : TT M i l) (hp : i ≠ 0 → Pres M M' i) : TT M' i l := by
  induction h with
  | nil => exact .nil
  | node hn hx hy hs ihx ihy =>
    obtain ⟨r', hn'⟩ := hn.pres (hp hn.ne)
    exact .node hn' (ihx fun h0 => hn.presx (hp hn.ne) h0) (ihy fun h0 => hn.presy (hp hn.ne) h0) hs
def NdN (M : Cells) (n : Nv) : Prop := ∃ c r, NdC M n.cell c r n.key n.val n.kx n.ky
theorem NdN.pres {n : Nv} (h : NdN M n) (hp : Pres M M' n.cell) : NdN M' n := by
  obtain ⟨c, r, hc⟩ := h
  obtain ⟨r', h'⟩ := hc.pres hp
  exact ⟨c, r', h'⟩
theorem NdN.ne {n : Nv} (h : NdN M n) : n.cell ≠ 0 := by
  obtain ⟨c, r, hc⟩ := h
  exact hc.ne
theorem NdN.presx {n : Nv} (h : NdN M n) (hp : Pres M M' n.cell) (h0 : n.kx ≠ 0) : Pres M M' n.kx := by
  obtain ⟨c, r, hc⟩ := h
  exact hc.presx hp h0
theorem NdN.presy {n : Nv} (h : NdN M n) (hp : Pres M M' n.cell) (h0 : n.ky ≠ 0) : Pres M M' n.ky := by
  obtain ⟨c, r, hc⟩ := h
  exact hc.presy hp h0
inductive Ch (M : Cells) (k : Ky) : List Nv → Nat → Nat → List Pr → List Pr → Nat → Nat → List Pr → List Pr → List Pr → List Pr → Prop
  | nil {x y : Nat} {lx ly : List Pr} (hx : TT M x lx) (hy : TT M y ly) : Ch M k [] x y lx ly x y lx ly [] []
  | xr {n : Nv} {cl : List Nv} {y x' y' : Nat} {la lb ly lx' ly' pre suf : List Pr} (hn : NdN M n) (hlt : klt h0 n.key k) (ha : TT M n.kx la) (h : Ch M k cl n.ky y lb ly x' y' lx' ly' pre suf) : Ch M k (n :: cl) n.cell y (la ++ (n.key, n.val) :: lb) ly x' y' lx' ly' (la ++ (n.key, n.val) :: pre) suf
  | xl {n : Nv} {cl : List Nv} {x' y' : Nat} {la lb lx' ly' pre suf : List Pr} (hn : NdN M n) (hgt : klt h0 k n.key) (hb : TT M n.ky lb) (h : Ch M k cl n.kx 0 la [] x' y' lx' ly' pre suf) : Ch M k (n :: cl) n.cell 0 (la ++ (n.key, n.val) :: lb) [] x' y' lx' ly' pre (suf ++ (n.key, n.val) :: lb)
  | yl {n : Nv} {cl : List Nv} {x x' y' : Nat} {la lb lx lx' ly' pre suf : List Pr} (hn : NdN M n) (hgt : klt h0 k n.key) (hb : TT M n.ky lb) (h : Ch M k cl x n.kx lx la x' y' lx' ly' pre suf) : Ch M k (n :: cl) x n.cell lx (la ++ (n.key, n.val) :: lb) x' y' lx' ly' pre (suf ++ (n.key, n.val) :: lb)
variable {cl : List Nv} {x' y' : Nat} {lx' ly' : List Pr}
theorem Ch.eq (h : Ch M k cl x y lx ly x' y' lx' ly' pre suf) : lx ++ ly = pre ++ (lx' ++ ly') ++ suf := by
  induction h with
  | nil => simp
  | xr _ _ _ _ ih => simp only [List.append_assoc, List.cons_append] at ih ⊢; rw [ih]
  | xl _ _ _ _ ih => simp only [List.append_assoc, List.append_nil] at ih ⊢; rw [ih]; simp only [List.append_assoc]
  | yl _ _ _ _ ih => simp only [List.append_assoc] at ih ⊢; rw [← List.append_assoc, ih]; simp only [List.append_assoc]
theorem Ch.pres (h : Ch M k cl x y lx ly x' y' lx' ly' pre suf) : (x ≠ 0 → Pres M M' x) → (y ≠ 0 → Pres M M' y) → Ch M' k cl x y lx ly x' y' lx' ly' pre suf := by
  induction h with
  | nil hx hy => exact fun px py => .nil (hx.pres px) (hy.pres py)
  | xr hn hlt ha _ ih => exact fun px py => .xr (hn.pres (px hn.ne)) hlt (ha.pres fun h => hn.presx (px hn.ne) h) (ih (fun h => hn.presy (px hn.ne) h) py)
  | xl hn hgt hb _ ih => exact fun px py => .xl (hn.pres (px hn.ne)) hgt (hb.pres fun h => hn.presy (px hn.ne) h) (ih (fun h => hn.presx (px hn.ne) h) py)
  | yl hn hgt hb _ ih => exact fun px py => .yl (hn.pres (py hn.ne)) hgt (hb.pres fun h => hn.presy (py hn.ne) h) (ih px (fun h => hn.presx (py hn.ne) h))
theorem Ch.presEnd (h : Ch M k cl x y lx ly x' y' lx' ly' pre suf) : (x ≠ 0 → Pres M M' x) → (y ≠ 0 → Pres M M' y) → (x' ≠ 0 → Pres M M' x') ∧ (y' ≠ 0 → Pres M M' y') := by
  induction h with
  | nil => exact fun px py => ⟨px, py⟩
  | xr hn _ _ _ ih => exact fun px py => ih (fun h => hn.presy (px hn.ne) h) py
  | xl hn _ _ _ ih => exact fun px py => ih (fun h => hn.presx (px hn.ne) h) py
  | yl hn _ _ _ ih => exact fun px py => ih px (fun h => hn.presx (py hn.ne) h)
theorem Ch.endx (h : Ch M k cl x y lx ly x' y' lx' ly' pre suf) : TT M x' lx' := by
  induction h with
  | nil hx _ => exact hx
  | xr _ _ _ _ ih => exact ih
  | xl _ _ _ _ ih => exact ih
  | yl _ _ _ _ ih => exact ih
theorem Ch.endy (h : Ch M k cl x y lx ly x' y' lx' ly' pre suf) : TT M y' ly' := by
  induction h with
  | nil _ hy => exact hy
  | xr _ _ _ _ ih => exact ih
  | xl _ _ _ _ ih => exact ih
  | yl _ _ _ _ ih => exact ih
theorem Ch.len (h : Ch M k cl x y lx ly x' y' lx' ly' pre suf) : cl.length + lx'.length + ly'.length ≤ lx.length + ly.length := by
  induction h with
  | nil => simp
  | xr _ _ _ _ ih => simp only [List.length_cons, List.length_append] at ih ⊢; omega
  | xl _ _ _ _ ih => simp only [List.length_cons, List.length_append, List.length_nil] at ih ⊢; omega
  | yl _ _ _ _ ih => simp only [List.length_cons, List.length_append] at ih ⊢; omega
theorem Ch.snoc_r {n : Nv} {ml mr : List Pr} (h : Ch M k cl x y lx ly n.cell y' (ml ++ (n.key, n.val) :: mr) ly' pre suf) (hn : NdN M n) (hlt : klt h0 n.key k) (ha : TT M n.kx ml) (hb : TT M n.ky mr) (hy : TT M y' ly') : Ch M k (cl ++ [n]) x y lx ly n.ky y' mr ly' (pre ++ (ml ++ [(n.key, n.val)])) suf := by
  generalize hx : n.cell = c at h
  generalize hl : ml ++ (n.key, n.val) :: mr = m at h
  induction h with
  | nil _ _ => subst hx hl; exact .xr hn hlt ha (.nil hb hy)
  | xr h1 h2 h3 _ ih => have := Ch.xr h1 h2 h3 (ih hy hx hl); simpa using this
  | xl h1 h2 h3 _ ih => have := Ch.xl h1 h2 h3 (ih hy hx hl); simpa using this
  | yl h1 h2 h3 _ ih => have := Ch.yl h1 h2 h3 (ih hy hx hl); simpa using this
end
end Go.Proofs.YtghbbpbhbinioaaGreat

namespace Go.Proofs.YtghbbpbhbinioaaGreat
set_option maxRecDepth 100000
set_option linter.unusedVariables false
open Go.RowKit
def FX (F X : Nat → Prop) : Nat → Prop := fun q => F q ∨ X q
structure RnY (w w' : World) (b most : Nat) (M' : Cells) (F X F2 : Nat → Prop) : Prop where
  ar : Ar w' b most M' F2
  kp : Kp (FX F X) w w'
  sub : ∀ q, F2 q → F q ∨ w.heap.size ≤ q
structure StpX (w w' : World) (b most : Nat) (M' : Cells) (F X : Nat → Prop) : Prop where
  ar : Ar w' b most M' (Fn F w w')
  kp : Kp (FX F X) w w'
section
variable {w w' w'' : World} {b most : Nat} {M' M'' : Cells} {F F' X : Nat → Prop}
theorem Kp.fx {G : Nat → Prop} (h : Kp G w w') (hG : ∀ q, G q → F q ∨ X q) : Kp (FX F X) w w' := ⟨h.os, h.tape, h.output, h.size, fun q hq hn => h.block q hq (fun hf => hn (hG q hf))⟩
theorem RnY.stp (h : RnY w w' b most M' F X F') (k : Stp w' w'' b most M'' F') : RnY w w'' b most M'' F X (Fn F' w' w'') :=
  ⟨k.ar, h.kp.trans k.kp (fun q hq => (h.sub q hq).imp .inl id), fun q hq => hq.elim (fun hq => h.sub q hq) (fun hq => .inr (Nat.le_trans h.kp.size hq.1))⟩
theorem RnY.fin (h : RnY w w' b most M' F X F') (hF : ∀ x, F x → x < w.heap.size) : StpX w w' b most M' F X :=
  ⟨h.ar.mono (fun x hx => (h.sub x hx).imp id (fun hx' => ⟨hx', h.ar.lt hx⟩)) (fun x hx => hx.elim (fun hx => Nat.lt_of_lt_of_le (hF x hx) h.kp.size) (fun hx => hx.2)), h.kp⟩
theorem RnY.mine {G : Nat → Prop} (h : RnY w w' b most M' F X F') (hk : Kp G w' w'') (hG : ∀ g, G g → w.heap.size ≤ g ∧ ¬ F' g) : RnY w w'' b most M' F X F' :=
  ⟨h.ar.kp hk (fun x hx hg => (hG x hg).2 hx), h.kp.trans hk (fun g hg => .inr (hG g hg).1), h.sub⟩
theorem RnY.of_rn {F1 F2 : Nat → Prop} {M1 : Cells} (h : Rn w w' b most M1 F F1) (k : RnY w' w'' b most M'' F1 X F2) : RnY w w'' b most M'' F X F2 :=
  ⟨k.ar, (h.kp.fx (fun q hq => .inl hq) : Kp (FX F X) w w').trans k.kp (fun q hq => hq.elim (fun hq => (h.sub q hq).imp .inl id) (fun hq => .inl (.inr hq))), fun q hq => (k.sub q hq).elim (fun hq => h.sub q hq) (fun hq => .inr (Nat.le_trans h.kp.size hq))⟩
end
def Steady (F : Nat → Prop) (w : World) (Z : World → Prop) : Prop := ∀ (W W' : World) (F' : Nat → Prop), Z W → Kp F' W W' → (∀ q, F' q → F q ∨ w.heap.size ≤ q) → Z W'
theorem Steady.of (F : Nat → Prop) (w : World) (p : Prop) : Steady F w (fun _ => p) := fun _ _ _ h _ _ => h
def ChgY (f : FuncId) (caps : Array Value) (b most : Nat) (F X : Nat → Prop) (o : Int) (w : World) (M1 : Cells) (c : Hc) (R : Hc → Cells → World → Prop) : Prop :=
  ∀ (v k : Value) (W : World) (F1 : Nat → Prop), Rn w W b most M1 F F1 → (∀ q, v.ownBlock = some q → ¬ F1 q) → (∀ q, k.ownBlock = some q → ¬ F1 q) → W.ownsRow w.heap.size 36 3 v c.vals.length (c.vals.flatMap cells3) → W.ownsRow w.heap.size 3 1 k c.kids.length (nums (ns c.kids)) →
    Calls Tryz.prog f (#[cagg o c.a c.b v k] ++ caps) W fun e W' => ∃ v' k' c' M2 F2, e = .returned (cagg o c'.a c'.b v' k') ∧ Rd W' v' c'.vals.length (c'.vals.flatMap cells3) ∧ Rd W' k' c'.kids.length (nums (ns c'.kids)) ∧ RnY w W' b most M2 F X F2 ∧ (∀ q, v'.ownBlock = some q → ¬ F2 q) ∧ (∀ q, k'.ownBlock = some q → ¬ F2 q) ∧ R c' M2 W'
section
variable {b most : Nat} {M : Cells} {F : Nat → Prop}
set_option maxRecDepth 100000 in
set_option maxHeartbeats 4000000 in
theorem vrenewY {X : Nat → Prop} (f : FuncId) (caps : Array Value) (R : Hc → Cells → World → Prop) (i : Nat) (ow : Int) (c0 : Hc) (w : World) (hX : ∀ x, X x → x < w.heap.size) (h : Ar w b most M F) (hf : ∀ (args : Array Value) (W : World), (callFunc f args).run Tryz.prog W = .ok (.enter f args) W) (hc0 : contC M i = c0) (hal : aloneB M i ow = false) (hch : ChgY f caps b most F X ow w (keepAll M c0.kids) c0 R)
    (hr : ∀ j, rf (M j) + c0.kids.length ≤ 4611686018427387900) (nl : c0.kids.length ≤ 4194304)
    (hZ : ∀ c' M2, Steady F w (R c' M2)) (hR : ∀ c' M2 W, R c' M2 W → live (most + 1) M2 < most ∧ (∀ j, rf (M2 j) ≤ 4611686018427387900) ∧ c'.vals.length ≤ 4194304 ∧ c'.kids.length ≤ 4194304 ∧ (ns c'.kids).all (goodB M2) = true) :
    Calls Tryz.prog 147 #[ap b, .int .i64 i, .int .u32 ow, .func (.func f) #[] caps] w fun e w' => ∃ n c' M2 M', e = .returned (.int .i64 (n : Nat)) ∧ R c' M2 w' ∧ 1 ≤ n ∧ n ≤ most ∧ M2 n = none ∧ Drops (upd M2 n (some ({ c' with owner := ow }, 1))) [i] M' ∧ StpX w w' b most M' F X := by
  have HA := Lib.hid h
  have HC := Lib.hid hch
  have HR := Lib.hid hr
  clear h hch hr
  have hget := vget i w HA.out
  rw [hc0] at hget
  go_enter Tryz.func147, Tryz.ntmps147
  go_wp2_with fail
  refine hget.mono ?_
  rintro e w1 ⟨v, k, rfl, o1, o2, hb1⟩
  obtain ⟨A1, m1, rfl, _⟩ := (Rd.of_own o1).form
  obtain ⟨A2, m2, rfl, _⟩ := (Rd.of_own o2).form
  have O1 := Lib.hid o1
  have O2 := Lib.hid o2
  have B1 := Lib.hid hb1
  clear o1 o2 hb1 hget
  go_wp2_with fail
  refine (valone i ow _ (HA.out.below (B1.out.alloc B1.out.size _))).mono ?_
  rintro e w2 ⟨rfl, hb2⟩
  rw [hal]
  have hb12 : Below w1.heap.size w1 w2 := ((Below.refl _ w1).alloc (Nat.le_refl _) _).trans (hb2.mono (by simp))
  have q1 := (C5.new w1 94 (.int .u32 c0.owner) (.int .u32 c0.a) (.int .u32 c0.b) (.slice A1 c0.vals.length m1) (.slice A2 c0.kids.length m2)).below hb2
  have HB2 := Lib.hid (B1.out.trans (hb12.mono B1.out.size))
  have HZ := Lib.hid (show w.heap.size ≤ w1.heap.size ∧ w1.heap.size < w2.heap.size from ⟨B1.out.size, q1.lt⟩)
  have HK0 := Lib.hid (Kept.mk (w2 := w2) (wr := w2) (B := w.heap.size) (c := c0) (j := 0) (M := M) (b := b) (most := most) (F := F) (Stp.refl (HA.out.below HB2.out)) q1 ((Kp.of_below hb12 (fun _ => False)).own O1.out (fun _ _ => id)) ((Kp.of_below hb12 (fun _ => False)).own O2.out (fun _ _ => id)))
  have HFX := Lib.hid (show ∀ x, FX F X x → x < w.heap.size from fun x hx => hx.elim (fun hx => HA.out.lt hx) (hX x))
  have HF := Lib.hid (show ∀ x, F x → x < w.heap.size from fun x hx => HA.out.lt hx)
  generalize w1.heap.size = z1 at q1 HZ HK0 ⊢
  have HB1 := Lib.hid B1.out.size
  clear O1 O2 B1 hb2 hb12
  obtain ⟨c1, c2, c3, c4, c5, _⟩ := q1.all
  clear q1
  go_wp2_with fail
  clear c1 c2 c3 c4 c5
  go_loopg [36] c0.kids.length (fun c' iv wr => ∃ j : Nat, j + c' = c0.kids.length ∧ iv = .int .i64 j ∧ Kept w2 wr b most M F w.heap.size z1 c0 (.slice A1 c0.vals.length m1) (.slice A2 c0.kids.length m2) j)
  case atStart => exact ⟨0, by omega, rfl, HK0.out⟩
  case round =>
    obtain ⟨j, hj, rfl, hK⟩ := hrel
    by_cases h1 : j < c0.kids.length
    · obtain ⟨x, hx⟩ : ∃ x, c0.kids[j]? = some x := ⟨_, List.getElem?_eq_getElem h1⟩
      obtain ⟨gx, cx, e, _, hcell, _⟩ := own_at hK.o2 (j := j) (u := .int .i64 (x : Int)) (by rw [nums_at]; unfold ns; rw [List.getElem?_map, hx]; rfl)
      simp only [Value.slice.injEq, true_and] at e
      obtain ⟨rfl, rfl⟩ := e
      have HK := Lib.hid hK
      have HX := Lib.hid hx
      clear hK hx
      have y3 : (0 : Int) ≤ (j : Int) := by omega
      have y4 : (j : Int) < (c0.kids.length : Int) := by omega
      have hrx : rf (keepAll M (c0.kids.take j) x) ≤ 4611686018427387904 := by
        have h1 := keepAll_rf (j := x) (l := c0.kids.take j) (M := M)
        have h2 := HR.out x
        rw [List.length_take] at h1
        omega
      go_wp2_with (go_at_call 63; refine (vkeep1 x _ HK.out.st.ar hrx).mono ?_; rintro e w3 ⟨⟨zz, rfl⟩, hs⟩; have HS := Lib.hid hs; clear hs)
      go_roundg (c0.kids.length - (j + 1))
      case measure => omega
      case rel =>
        refine ⟨j + 1, by omega, by go_num, ?_, HK.out.c5.kp HS.out.kp ?_, HS.out.kp.own HK.out.o1 (fun q hq hf' => ?_), HS.out.kp.own HK.out.o2 (fun q hq hf' => ?_)⟩
        · rw [List.take_add_one, HX.out, Option.toList_some, keepAll_snoc]
          exact HK.out.st.trans HS.out
        · rintro (hf' | hf')
          · have := HF.out _ hf'; have := HZ.out; omega
          · have := HZ.out; omega
        · have h1 := (HK0.out.o1.lt q hq)
          rcases hf' with hf' | hf'
          · have := HF.out _ hf'; omega
          · omega
        · have h1 := (HK0.out.o2.lt q hq)
          rcases hf' with hf' | hf'
          · have := HF.out _ hf'; omega
          · omega
    · obtain rfl : j = c0.kids.length := by omega
      have HK := Lib.hid hK
      clear hK
      obtain ⟨c1, c2, c3, c4, c5, f1, _⟩ := HK.out.c5.all
      have hzn : ¬ Fn F w2 wr z1 := by
        rintro (hf' | hf')
        · have := HF.out _ hf'; have := HZ.out; omega
        · have := HZ.out; omega
      have hvn : ∀ q, (Value.slice A1 c0.vals.length m1).ownBlock = some q → w.heap.size ≤ q ∧ ¬ Fn F w2 wr q := fun q hq => by
        have h1 := (HK0.out.o1.lt q hq)
        refine ⟨h1.1, ?_⟩
        rintro (hf' | hf')
        · have := HF.out _ hf'; omega
        · omega
      have hkn : ∀ q, (Value.slice A2 c0.kids.length m2).ownBlock = some q → w.heap.size ≤ q ∧ ¬ Fn F w2 wr q := fun q hq => by
        have h1 := (HK0.out.o2.lt q hq)
        refine ⟨h1.1, ?_⟩
        rintro (hf' | hf')
        · have := HF.out _ hf'; omega
        · omega
      have HVN := Lib.hid hvn
      have HKN := Lib.hid hkn
      have kz := Kp.one wr z1 0 (.int .u32 ow)
      have hz1 : w.heap.size ≤ z1 := by have := HZ.out; omega
      have kw := ((Kp.of_below HB2.out F).trans HK.out.st.kp (fun _ => .inl)).trans kz (fun q e => .inr (e ▸ hz1))
      have p1 := Lib.hid (kz.own HK.out.o1 (own_ne HK.out.o1 HK.out.c5 (by decide)))
      have p2 := Lib.hid (kz.own HK.out.o2 (own_ne HK.out.o2 HK.out.c5 (by decide)))
      have KW := Lib.hid kw
      have AW := Lib.hid (HK.out.st.ar.kp kz (fun q hq e => hzn (e ▸ hq)))
      clear kz kw hvn hkn
      go_wp2_with fail
      generalize wr.setCell ⟨z1, 0, none⟩ (.int .u32 ow) = w3 at p1 p2 KW AW ⊢
      have RN3 := Lib.hid (show Rn w w3 b most (keepAll M c0.kids) F (Fn F w2 wr) from ⟨by have := AW.out; rw [List.take_length] at this; exact this, KW.out, fun q hq => hq.elim .inl (fun hq => .inr (Nat.le_trans HB2.out.size hq.1))⟩)
      refine (HC.out _ _ w3 _ RN3.out (fun q hq => (HVN.out q hq).2) (fun q hq => (HKN.out q hq).2) p1.out p2.out).mono ?_
      rintro e w4 ⟨v', k', c', M2, F2, rfl, r1, r2, rn4, hn1, hn2, hr'⟩
      obtain ⟨A3, m3, rfl, _⟩ := r1.form
      obtain ⟨A4, m4, rfl, _⟩ := r2.form
      obtain ⟨hlv, hrf, nv, nk, hgd⟩ := hR c' M2 _ hr'
      have R1 := Lib.hid r1
      have R2 := Lib.hid r2
      have RN4 := Lib.hid rn4
      have N1 := Lib.hid hn1
      have N2 := Lib.hid hn2
      have HRR := Lib.hid hr'
      clear r1 r2 rn4 hn1 hn2 hr' c1 c2 c3 c4 c5 f1
      go_wp2_with fail
      refine (amake { c' with owner := ow } _ _ b most _ _ _ RN4.out.ar R1.out R2.out nv nk N1.out N2.out hgd hlv).mono ?_
      rintro e w5 ⟨n, rfl, n1, n2, n3, ha5, hk5⟩
      have RN5 := Lib.hid (RN4.out.stp (Stp.mk ha5 hk5))
      have HK5 := Lib.hid hk5
      have hr5 : ∀ q, rf (upd M2 n (some ({ c' with owner := ow }, 1)) q) ≤ 4611686018427387904 := fun q => by
        by_cases e : q = n
        · subst e; rw [upd_same]; show 1 ≤ _; decide
        · rw [upd_other _ _ e]
          exact Nat.le_trans (hrf q) (by decide)
      clear ha5 hk5
      go_wp2_with fail
      refine (vdrop1 i _ RN5.out.ar hr5).mono ?_
      rintro e w6 ⟨⟨zz, rfl⟩, M', hd, hs6⟩
      have HD := Lib.hid hd
      have HE := Lib.hid ((RN5.out.stp hs6).fin HF.out)
      have HZ6 := Lib.hid (hZ c' M2 _ _ _ HRR.out (HK5.out.trans hs6.kp (fun q hq => hq.imp id (fun hq => hq.1))) RN4.out.sub)
      clear hd hs6
      go_wp2_with fail
      go_ret
      exact ⟨n, c', M2, M', rfl, HZ6.out, n1, n2, n3, HD.out, HE.out⟩
end

section
variable {b most : Nat} {M : Cells} {F : Nat → Prop}
set_option maxRecDepth 100000 in
set_option maxHeartbeats 2000000 in
theorem vrenewY_in {X : Nat → Prop} (f : FuncId) (caps : Array Value) (R : Hc → Cells → World → Prop) (i : Nat) (ow : Int) (c0 : Hc) (w : World) (hX : ∀ x, X x → x < w.heap.size) (h : Ar w b most M F) (hf : ∀ (args : Array Value) (W : World), (callFunc f args).run Tryz.prog W = .ok (.enter f args) W) (hi : M i = some (c0, 1)) (ho : c0.owner = ow) (h0 : ¬ ow = 0) (hch : ChgY f caps b most F X ow w M c0 R)
    (hZ : ∀ c' M2, Steady F w (R c' M2)) (hR : ∀ c' M2 W, R c' M2 W → M2 i = some (c0, 1) ∧ c'.vals.length ≤ 4194304 ∧ c'.kids.length ≤ 4194304 ∧ (ns c'.kids).all (goodB M2) = true) :
    Calls Tryz.prog 147 #[ap b, .int .i64 i, .int .u32 ow, .func (.func f) #[] caps] w fun e w' => ∃ c' M2, e = .returned (.int .i64 (i : Int)) ∧ R c' M2 w' ∧ StpX w w' b most (upd M2 i (some ({ c' with owner := ow }, 1))) F X := by
  have hal : aloneB M i ow = true := by unfold aloneB; rw [hi]; simp [h0, ho]
  have HA := Lib.hid h
  have HI := Lib.hid hi
  have HC := Lib.hid hch
  have HFX := Lib.hid (show ∀ x, FX F X x → x < w.heap.size from fun x hx => hx.elim (fun hx => h.lt hx) (hX x))
  have HF := Lib.hid (show ∀ x, F x → x < w.heap.size from fun x hx => h.lt hx)
  clear h hi hch
  go_enter Tryz.func147, Tryz.ntmps147
  go_wp2_with fail
  refine (get i c0 1 b most M F _ HA.out HI.out).mono ?_
  rintro e w1 ⟨v, k, rfl, o1, o2, hb1⟩
  obtain ⟨A1, m1, rfl, _⟩ := (Rd.of_own o1).form
  obtain ⟨A2, m2, rfl, _⟩ := (Rd.of_own o2).form
  have O1 := Lib.hid o1
  have O2 := Lib.hid o2
  have B1 := Lib.hid hb1
  clear o1 o2 hb1
  go_wp2_with fail
  refine (valone i ow _ (HA.out.below (B1.out.alloc B1.out.size _))).mono ?_
  rintro e w2 ⟨rfl, hb2⟩
  rw [hal]
  have hb12 : Below w1.heap.size w1 w2 := ((Below.refl _ w1).alloc (Nat.le_refl _) _).trans (hb2.mono (by simp))
  have q1 := (C5.new w1 94 (.int .u32 ow) (.int .u32 c0.a) (.int .u32 c0.b) (.slice A1 c0.vals.length m1) (.slice A2 c0.kids.length m2)).below hb2
  have O1' := Lib.hid ((Kp.of_below hb12 (fun _ => False)).own O1.out (fun _ _ => id))
  have O2' := Lib.hid ((Kp.of_below hb12 (fun _ => False)).own O2.out (fun _ _ => id))
  have HB2 := Lib.hid (B1.out.trans (hb12.mono B1.out.size))
  generalize w1.heap.size = z1 at q1 ⊢
  obtain ⟨c1, c2, c3, c4, c5, _⟩ := q1.all
  clear O1 O2 B1 hb2 hb12 q1
  have HN1 := Lib.hid (show ∀ q, (Value.slice A1 c0.vals.length m1).ownBlock = some q → ¬ F q from fun q hq hf' => by
    have h1 := O1'.out.lt q hq
    have := HF.out q hf'; omega)
  have HN2 := Lib.hid (show ∀ q, (Value.slice A2 c0.kids.length m2).ownBlock = some q → ¬ F q from fun q hq hf' => by
    have h1 := O2'.out.lt q hq
    have := HF.out q hf'; omega)
  have RN2 := Lib.hid (show Rn w w2 b most M F F from Rn.below HA.out HB2.out)
  go_wp2_with fail
  refine (HC.out _ _ w2 F RN2.out HN1.out HN2.out O1'.out O2'.out).mono ?_
  rintro e w3 ⟨v', k', c', M2, F2, rfl, r1, r2, rn3, hn1, hn2, hr'⟩
  obtain ⟨A3, m3, rfl, _⟩ := r1.form
  obtain ⟨A4, m4, rfl, _⟩ := r2.form
  obtain ⟨hi2, nv, nk, hgd⟩ := hR c' M2 _ hr'
  have R1 := Lib.hid r1
  have R2 := Lib.hid r2
  have RN3 := Lib.hid rn3
  have HRR := Lib.hid hr'
  have HI2 := Lib.hid hi2
  clear r1 r2 rn3 hn1 hn2 hr' hi2 c1 c2 c3 c4 c5
  go_wp2_with fail
  refine (aeditO i ow ow c' c0 { c' with owner := ow } _ _ b most M2 _ _ RN3.out.ar HI2.out ho.symm h0 rfl R1.out R2.out nv nk hgd).mono ?_
  rintro e w4 ⟨rfl, ha4, hk4⟩
  have HE := Lib.hid ((RN3.out.stp (Stp.mk ha4 hk4)).fin HF.out)
  have HZ4 := Lib.hid (hZ c' M2 _ _ _ HRR.out hk4 RN3.out.sub)
  clear ha4 hk4
  go_wp2_with fail
  go_ret
  exact ⟨c', M2, rfl, HZ4.out, HE.out⟩
end

end Go.Proofs.YtghbbpbhbinioaaGreat

namespace Go.Proofs.YtghbbpbhbinioaaGreat
set_option maxRecDepth 100000
set_option linter.unusedVariables false
open Go.RowKit
structure FunX (most : Nat) (M1 : Cells) (H1 : List Nat) (P1 : Nat → Nat) (q : Nat) (Q : Hc → Cells → Prop) (ex : List Nat) (c' : Hc) (M2 : Cells) : Prop where
  bk : Bk (most + 1) M2 H1 P1 (c'.kids ++ ex)
  keeps : Keeps P1 (blank M1 H1) (blank M2 H1)
  holes : ∀ x ∈ H1, M2 x = M1 x
  live : live (most + 1) M2 ≤ Proofs.YtghbbpbhbinioaaGreat.live (most + 1) M1 + q
  nv : c'.vals.length ≤ 4194304
  nk : c'.kids.length ≤ 64
  nx : ex.length ≤ 64
  q : Q c' M2
structure RenX (most : Nat) (M : Cells) (H : List Nat) (P : Nat → Nat) (ow : Int) (q : Nat) (ex : List Nat) (n : Nat) (M' : Cells) (c' : Hc) (M2 : Cells) (H1 : List Nat) : Prop where
  pos : 1 ≤ n
  bk : Bk (most + 1) M' H P (n :: ex)
  cell : M' n = some ({ c' with owner := ow }, 1)
  keeps : Keeps P (blank M H) (blank M' H)
  kids : ∀ k ∈ c'.kids, k ≠ 0 → Pres (blank M2 H1) (blank M' H) k
  hand : ∀ k ∈ ex, k ≠ 0 → Pres (blank M2 H1) (blank M' H) k
  holes : ∀ x ∈ H, M' x = M x
  live : live (most + 1) M' ≤ Proofs.YtghbbpbhbinioaaGreat.live (most + 1) M + q
section
variable {b most : Nat} {M : Cells} {F : Nat → Prop} {H : List Nat} {P : Nat → Nat}
theorem renx_in {P0 : Nat → Nat} {i q : Nat} {ow : Int} {c0 c' : Hc} {M2 : Cells} {ex : List Nat} {Q : Hc → Cells → Prop} (hb : Bk (most + 1) M H P0 [i]) (hKP : Keeps P (blank M H) (blank M (i :: H))) (hP0 : P i = 0) (hM : M i = some (c0, 1)) (hq : FunX most M (i :: H) (addP P i) q Q ex c' M2) :
    RenX most M H P ow q ex i (upd M2 i (some ({ c' with owner := ow }, 1))) c' M2 (i :: H) := by
  have hi := hb.lt (j := i) (by rw [hM]; simp)
  have hiH := (hb.hand (i := i) (by simp) (by omega)).2
  have hM2 : M2 i = some (c0, 1) := (hq.holes i (by simp)).trans hM
  obtain ⟨f1, f2⟩ := Bk.fill (c := { c' with owner := ow }) (hs := ex) hq.bk hiH (fun x hx => by
    have h1 := (hq.bk.hole x (by simp [hx])).1
    have hxi : x ≠ i := fun e => hiH (e ▸ hx)
    unfold addP at h1
    rw [if_neg hxi] at h1
    omega) hM2 hq.nk
  have hnx : i ∉ ex := fun hx => by
    have b1 := hq.bk.bal (i := i) hi.1
    rw [hM2] at b1
    have b2 := List.count_pos_iff.2 hx
    have b3 := addP_self P i
    rw [List.count_append] at b1
    simp only [rf] at b1
    omega
  have hpf : ∀ r, r ≠ i → Pres (blank M2 (i :: H)) (blank (upd M2 i (some ({ c' with owner := ow }, 1))) H) r := fun r hr => hq.bk.pres_fill hiH hM2 hr
  refine ⟨hi.1, f1, upd_same _ _ _, fun r h0 hr => ?_, fun k hk h0 => hpf k (fun e => f2 (e ▸ hk)), fun k hk h0 => hpf k (fun e => hnx (e ▸ hk)), fun x hx => ?_, ?_⟩
  · have hri : r ≠ i := fun e => by rw [e] at hr; omega
    exact ((hKP r h0 hr).trans (hq.keeps r h0 (Nat.le_trans hr (addP_le _ _ _)))).trans (hpf r hri)
  · have hxi : x ≠ i := fun e => hiH (e ▸ hx)
    rw [upd_other _ _ hxi]
    exact hq.holes x (by simp [hx])
  · rw [live_upd_some _ (by rw [hM2]; simp)]
    exact hq.live
theorem renx_new {P0 : Nat → Nat} {i q n : Nat} {ow : Int} {c0 c' : Hc} {M1 M2 M' : Cells} {ex : List Nat} {Q : Hc → Cells → Prop} (hb : Bk (most + 1) M H P0 [i]) (hKP : Keeps P (blank M H) (blank M1 H)) (hw : Way1 most M H P0 i ow c0 M1 H) (hq : FunX most M1 H (addP P i) q Q ex c' M2) (hM1 : ∀ x ∈ H, M1 x = M x)
    (n1 : 1 ≤ n) (n2 : n ≤ most) (n3 : M2 n = none) (hd : Drops (upd M2 n (some ({ c' with owner := ow }, 1))) [i] M') : RenX most M H P ow (q + 1) ex n M' c' M2 H := by
  have hbm := Bk.make (c := { c' with owner := ow }) (hs := ex) hq.bk n1 (by omega) n3 hq.nk
  have hbm2 : Bk (most + 1) (upd M2 n (some ({ c' with owner := ow }, 1))) H P (i :: n :: ex) := hbm.move (fun k _ => by
    rw [show (i :: n :: ex).count k = (n :: ex).count k + (if i == k then 1 else 0) from List.count_cons]
    unfold addP
    by_cases ek : k = i
    · subst ek; simp; omega
    · rw [if_neg ek, if_neg (by simpa using Ne.symm ek)]; omega) (fun x hx => by
    have h1 := (hq.bk.hole x hx).1
    have hxi : x ≠ i := fun e => by
      have h2 := (hb.hole x hx).2
      by_cases h0 : i = 0
      · rw [e, h0, hb.zero] at h2; simp [rf] at h2
      · exact (hb.hand (i := i) (by simp) h0).2 (e ▸ hx)
    unfold addP at h1
    rw [if_neg hxi] at h1
    omega)
  obtain ⟨d1, d2, d3⟩ := hbm2.drop hd
  have hnH : n ∉ H := fun hx => by have := hq.bk.hole n hx; rw [n3] at this; simp [rf] at this
  have hn' := (d1.hand (i := n) (by simp) (by omega)).1
  have hcell : M' n = some ({ c' with owner := ow }, 1) := by
    cases e : M' n with
    | none => exact absurd e hn'
    | some y =>
      obtain ⟨r0, e0, l0⟩ := d2 n y.1 y.2 (by rw [blank_out hnH, e])
      rw [blank_out hnH, upd_same] at e0
      simp only [Option.some.injEq, Prod.mk.injEq] at e0
      have hp := d1.ok.pos n (by rw [blank_out hnH, e]; simp)
      rw [blank_out hnH, e] at hp
      simp only [rf] at hp
      have e1 : y.2 = 1 := by omega
      rw [e0.1, ← e1]
  have hpn : ∀ r, Pres (blank M2 H) (blank (upd M2 n (some ({ c' with owner := ow }, 1))) H) r := fun r => Pres.all (all_blank (all_new n3 _))
  refine ⟨n1, d1, hcell, fun r h0 hr => ?_, fun k hk h0 => ?_, fun k hk h0 => ?_, fun x hx => ?_, ?_⟩
  · have hr' : blank M' H r ≠ none := fun e => d1.held hr h0 (blank_none.1 e)
    exact (((hKP r h0 hr).trans (hq.keeps r h0 (Nat.le_trans hr (addP_le _ _ _)))).trans (hpn r)).trans (Pres.sub d2 d1.ok hr')
  · have hk' : blank M' H k ≠ none := d1.ok.kid (j := n) (by rw [blank_out hnH, hcell]; exact hk) h0
    exact (hpn k).trans (Pres.sub d2 d1.ok hk')
  · have hk' : blank M' H k ≠ none := fun e => (d1.hand (List.mem_cons_of_mem _ hk) h0).1 (blank_none.1 e)
    exact (hpn k).trans (Pres.sub d2 d1.ok hk')
  · have hxn : x ≠ n := fun e => hnH (e ▸ hx)
    rw [d3 x hx, upd_other _ _ hxn, hq.holes x hx, hM1 x hx]
  · have h1 : live (most + 1) M' ≤ live (most + 1) (upd M2 n (some ({ c' with owner := ow }, 1))) := live_mono fun j hj => by
      have : blank M' H j ≠ none := fun e => hj (blank_none.1 e)
      cases e : blank M' H j with
      | none => exact absurd e this
      | some y =>
        obtain ⟨r0, e0, _⟩ := d2 j y.1 y.2 e
        exact fun e1 => by rw [blank_none.2 e1] at e0; cases e0
    have h2 := live_upd (M := M2) (N := most + 1) n (some ({ c' with owner := ow }, 1)) (by omega)
    rw [n3] at h2
    simp only [one] at h2
    have h3 := hq.live
    have h4 := hw.live
    omega

theorem renewX {P0 : Nat → Nat} {X : Nat → Prop} (f : FuncId) (caps : Array Value) (i : Nat) (ow : Int) (c0 : Hc) (q : Nat) (Q : Cells → List Nat → List Nat → World → Hc → Cells → Prop) (w : World) (hX : ∀ x, X x → x < w.heap.size) (h : Ar w b most M F) (hf : ∀ (args : Array Value) (W : World), (callFunc f args).run Tryz.prog W = .ok (.enter f args) W)
    (hm : most ≤ 1048576) (hPP : ∀ k, P k ≤ P0 k) (hP : ∀ j, P0 j ≤ 1152921504606846976) (hb : Bk (most + 1) M H P0 [i]) (hc0 : contC M i = c0) (hroom : live (most + 1) M + q + (if aloneB M i ow = true then 0 else 1) ≤ most)
    (hZ : ∀ M1 H1 ex c' M2, Steady F w (fun W => Q M1 H1 ex W c' M2))
    (hch : ∀ M1 H1, Way1 most M H P0 i ow c0 M1 H1 → ChgY f caps b most F X ow w M1 c0 (fun c' M2 W => ∃ ex, FunX most M1 H1 (addP P i) q (Q M1 H1 ex W) ex c' M2)) :
    Calls Tryz.prog 147 #[ap b, .int .i64 i, .int .u32 ow, .func (.func f) #[] caps] w fun e w' => ∃ n M', e = .returned (.int .i64 (n : Nat)) ∧ StpX w w' b most M' F X ∧
      ∃ M1 H1 ex c' M2, Way1 most M H P0 i ow c0 M1 H1 ∧ Q M1 H1 ex w' c' M2 ∧ RenX most M H P ow (q + if aloneB M i ow = true then 0 else 1) ex n M' c' M2 H1 := by
  have hsm : c0.kids.length ≤ 64 := by
    rw [← hc0]
    unfold contC
    have := hb.small i
    cases e : M i with
    | none => simp
    | some y => rw [e] at this; exact this
  cases hal : aloneB M i ow with
  | true =>
    obtain ⟨c, hM, hco, h0⟩ := alone_cell hal
    have e0 : c = c0 := by rw [← hc0]; unfold contC; rw [hM]
    subst e0
    have hw := way_in hb hM hal
    refine (vrenewY_in f caps (fun c' M2 W => ∃ ex, FunX most M (i :: H) (addP P i) q (Q M (i :: H) ex W) ex c' M2) i ow c w hX h hf hM hco h0 (hch M (i :: H) hw) (fun c' M2 W W' F' ⟨ex, hq⟩ hk hF' => ⟨ex, { hq with q := hZ _ _ ex c' M2 W W' F' hq.q hk hF' }⟩) (fun c' M2 W ⟨ex, hq⟩ => ?_)).mono ?_
    · refine ⟨(hq.holes i (by simp)).trans hM, hq.nv, Nat.le_trans hq.nk (by decide), good_kids fun x hx h0 => (hq.bk.hand (List.mem_append_left _ hx) h0).1⟩
    · rintro e w' ⟨c', M2, rfl, ⟨ex, hq⟩, hs⟩
      refine ⟨i, _, rfl, hs, M, i :: H, ex, c', M2, hw, hq.q, ?_⟩
      exact renx_in hb (hw.keeps.less hPP) (by have h1 := (alone_held hb hM).1; have h2 := hPP i; omega) hM hq
  | false =>
    have hw := way_new hb hc0 hal
    rw [hal] at hroom
    simp only [Bool.false_eq_true, if_false] at hroom
    have hrf : ∀ j, rf (M j) ≤ 1152921504606846976 + 1 + 67108928 := fun j => by
      have h1 := hb.rfb j
      have h2 := hP j
      have h3 : [i].count j ≤ 1 := List.count_le_length
      have h4 : (most + 1) * 64 ≤ 1048577 * 64 := Nat.mul_le_mul_right _ (by omega)
      omega
    refine (vrenewY f caps (fun c' M2 W => ∃ ex, FunX most (keepAll M c0.kids) H (addP P i) q (Q (keepAll M c0.kids) H ex W) ex c' M2) i ow c0 w hX h hf hc0 hal (hch _ H hw) (fun j => by have := hrf j; omega) (by omega) (fun c' M2 W W' F' ⟨ex, hq⟩ hk hF' => ⟨ex, { hq with q := hZ _ _ ex c' M2 W W' F' hq.q hk hF' }⟩) (fun c' M2 W ⟨ex, hq⟩ => ?_)).mono ?_
    · refine ⟨?_, fun j => ?_, hq.nv, Nat.le_trans hq.nk (by decide), good_kids fun x hx h0 => (hq.bk.hand (List.mem_append_left _ hx) h0).1⟩
      · have h1 := hq.live
        have h2 := hw.live
        omega
      · have h1 := hq.bk.rfb j
        have h2 := hP j
        have h6 := hPP j
        have h3 : (c'.kids ++ ex).count j ≤ 128 := by
          rw [List.count_append]
          have a1 := Nat.le_trans (List.count_le_length (a := j)) hq.nk
          have a2 := Nat.le_trans (List.count_le_length (a := j)) hq.nx
          omega
        have h4 : (most + 1) * 64 ≤ 1048577 * 64 := Nat.mul_le_mul_right _ (by omega)
        have h5 : addP P i j ≤ P j + 1 := by unfold addP; split <;> omega
        omega
    · rintro e w' ⟨n, c', M2, M', rfl, ⟨ex, hq⟩, n1, n2, n3, hd, hs⟩
      refine ⟨n, M', rfl, hs, _, H, ex, c', M2, hw, hq.q, ?_⟩
      exact renx_new hb (hw.keeps.less hPP) hw hq (fun x hx => by
        have h1 := (hw.bk.hole x hx).2
        have h2 := (hb.hole x hx).2
        obtain ⟨y, e⟩ : ∃ y, M x = some y := by
          cases e : M x with
          | none => rw [e] at h2; simp [rf] at h2
          | some y => exact ⟨y, rfl⟩
        obtain ⟨q', e'⟩ := all_keepAll (l := c0.kids) x y.1 y.2 e
        rw [e'] at h1
        rw [e] at h2
        simp only [rf] at h1 h2
        rw [e', e, h1, ← h2]) n1 n2 n3 hd
end
end Go.Proofs.YtghbbpbhbinioaaGreat

namespace Go.Proofs.YtghbbpbhbinioaaGreat
set_option linter.unusedVariables false
section
variable {N : Nat} {M M' : Cells} {own P : Nat → Nat} {i j : Nat} {l : List Pr}
theorem Ok.cover (h : Ok N M own []) (hj : M j ≠ none) : ∃ r, r ≠ 0 ∧ 1 ≤ own r ∧ Reach M r j := by
  obtain ⟨rk, hrk⟩ := h.rank
  have key : ∀ d j, M j ≠ none → sumTo N rk - rk j < d → ∃ r, r ≠ 0 ∧ 1 ≤ own r ∧ Reach M r j := by
    intro d
    induction d with
    | zero => intro j _ h; omega
    | succ d ih =>
      intro j hj hlt
      have hl := h.lt hj
      have hb := h.bal j hl.1
      have hp := h.pos j hj
      simp only [List.count_nil, Nat.add_zero] at hb
      by_cases ho : 1 ≤ own j
      · exact ⟨j, by omega, ho, .refl⟩
      · obtain ⟨p, hpN, hpc⟩ := sumTo_pos (f := fun j' => (kd (M j')).count j) (n := N) (by unfold occ at hb; omega)
        have hmem := List.count_pos_iff.1 hpc
        have hp' : M p ≠ .none := by intro e; simp [e, kd] at hmem
        have hr := hrk p j hmem (by omega)
        have := le_sumTo rk N hpN
        obtain ⟨r, h1, h2, h3⟩ := ih p hp' (by omega)
        exact ⟨r, h1, h2, .kid h3 hmem (by omega)⟩
  exact key _ j hj (Nat.lt_succ_self _)
theorem Bk.cover {hs : List Nat} (h : Bk N M [] P hs) (hj : M j ≠ none) : ∃ r, r ≠ 0 ∧ 1 ≤ P r + hs.count r ∧ Reach M r j := by
  have h1 := h.ok
  rw [blank_nil] at h1
  exact h1.cover hj
theorem Reach.split (h : Reach M i j) : j = i ∨ ∃ k, k ∈ kd (M i) ∧ k ≠ 0 ∧ Reach M k j := by
  induction h with
  | refl => exact .inl rfl
  | @kid x k hx hk h0 ih =>
    rcases ih with rfl | ⟨k', h1, h2, h3⟩
    · exact .inr ⟨k, hk, h0, .refl⟩
    · exact .inr ⟨k', h1, h2, .kid h3 hk h0⟩
theorem Reach.go {k : Nat} (hk : k ∈ kd (M i)) (h0 : k ≠ 0) (h : Reach M k j) : Reach M i j := by
  induction h with
  | refl => exact .kid .refl hk h0
  | kid _ hk' h0' ih => exact .kid ih hk' h0'
def keyC (M : Cells) (j : Nat) : Ky := match M j with
  | some (c, _) => c.vals.headD (0, 0, ⟨#[]⟩)
  | none => (0, 0, ⟨#[]⟩)
theorem NdC.keyC {c : Hc} {r x y : Nat} {k v : Ky} (h : NdC M i c r k v x y) : keyC M i = k := by
  unfold Proofs.YtghbbpbhbinioaaGreat.keyC
  rw [h.cell]
  simp [h.vals]
theorem TT.cells (h : TT M i l) : ∃ cs : List Nat, cs.length = l.length ∧ (i ≠ 0 → ∀ j, Reach M i j → j ∈ cs) ∧ (∀ j ∈ cs, M j ≠ none) ∧ cs.map (keyC M) = l.map Prod.fst := by
  induction h with
  | nil => exact ⟨[], rfl, fun h => absurd rfl h, fun _ h => absurd h (by simp), rfl⟩
  | @node i r x y c k v lx ly hn hx hy hs ihx ihy =>
    obtain ⟨cx, x1, x2, x3, x4⟩ := ihx
    obtain ⟨cy, y1, y2, y3, y4⟩ := ihy
    refine ⟨cx ++ i :: cy, by simp [x1, y1], fun _ j hj => ?_, fun j hj => ?_, by simp [x4, y4, hn.keyC]⟩
    · rcases hj.split with rfl | ⟨k', h1, h2, h3⟩
      · simp
      · rw [hn.cell] at h1
        have h1' : k' ∈ c.kids := h1
        rw [hn.kids] at h1'
        simp only [List.mem_cons, List.not_mem_nil, or_false] at h1'
        rcases h1' with rfl | rfl
        · exact List.mem_append_left _ (x2 h2 j h3)
        · exact List.mem_append_right _ (List.mem_cons_of_mem _ (y2 h2 j h3))
    · rcases List.mem_append.1 hj with h | h
      · exact x3 j h
      · rcases List.mem_cons.1 h with rfl | h
        · rw [hn.cell]; simp
        · exact y3 j h
theorem sumTo_count (N : Nat) : ∀ L : List Nat, sumTo N (fun j => L.count j) ≤ L.length
  | [] => by
    have h : sumTo N (fun j => ([] : List Nat).count j) = 0 := sumTo_zero (fun _ _ => rfl)
    rw [h]
    exact Nat.zero_le _
  | a :: L => by
    have h1 := sumTo_count N L
    have h2 : sumTo N (fun j => (a :: L).count j) = sumTo N (fun j => L.count j) + sumTo N (fun j => if a = j then 1 else 0) := by
      rw [← sumTo_plus]
      exact sumTo_congr N fun j _ => by rw [List.count_cons]; simp
    have h3 : ∀ N, sumTo N (fun j => if a = j then 1 else 0) ≤ 1 ∧ (N ≤ a → sumTo N (fun j => if a = j then 1 else 0) = 0) := fun N => by
      induction N with
      | zero => exact ⟨Nat.zero_le _, fun _ => rfl⟩
      | succ n ih =>
        have e : sumTo (n + 1) (fun j => if a = j then 1 else 0) = sumTo n (fun j => if a = j then 1 else 0) + if a = n then 1 else 0 := rfl
        rw [e]
        by_cases h : a = n
        · rw [ih.2 (by omega), if_pos h]; exact ⟨by omega, fun h' => by omega⟩
        · rw [if_neg h]; exact ⟨by have := ih.1; omega, fun h' => by have := ih.2 (by omega); omega⟩
    have h4 := (h3 N).1
    rw [h2, List.length_cons]
    omega
where sumTo_plus {f g : Nat → Nat} : ∀ {n : Nat}, sumTo n (fun j => f j + g j) = sumTo n f + sumTo n g
  | 0 => rfl
  | n + 1 => by
    have := @sumTo_plus f g n
    simp only [sumTo]
    omega
theorem live_cov {L : List Nat} (h : ∀ j, j < N → M j ≠ none → j ∈ L) : live N M ≤ L.length := by
  refine Nat.le_trans ?_ (sumTo_count N L)
  have key : ∀ n, n ≤ N → sumTo n (fun j => one (M j)) ≤ sumTo n (fun j => L.count j) := fun n => by
    induction n with
    | zero => intro _; exact Nat.le_refl _
    | succ n ih =>
      intro hn
      have h1 := ih (by omega)
      have h2 : one (M n) ≤ L.count n := by
        cases e : M n with
        | none => exact Nat.zero_le _
        | some y => exact List.count_pos_iff.2 (h n (by omega) (by rw [e]; simp))
      simp only [sumTo]
      omega
  exact key N (Nat.le_refl _)
theorem le_live : ∀ {L : List Nat} {M : Cells}, L.Nodup → (∀ j ∈ L, j < N ∧ M j ≠ none) → L.length ≤ live N M
  | [], _, _, _ => Nat.zero_le _
  | a :: L, M, hn, h => by
    obtain ⟨h1, h2⟩ := List.nodup_cons.1 hn
    have h3 := le_live (M := upd M a none) h2 (fun j hj => ⟨(h j (List.mem_cons_of_mem _ hj)).1, by
      rw [upd_other _ _ (show j ≠ a from fun e => h1 (by rw [← e]; exact hj))]
      exact (h j (List.mem_cons_of_mem _ hj)).2⟩)
    have ha := h a (by simp)
    have h4 := live_upd (M := M) (N := N) a none ha.1
    cases e : M a with
    | none => exact absurd e ha.2
    | some y =>
      rw [e] at h4
      simp only [one] at h4
      rw [List.length_cons]
      omega
theorem live_roots {hs : List Nat} {ES : List (Nat × List Pr)} (hb : Bk N M [] P hs) (hc : ∀ k, k ≠ 0 → 1 ≤ P k + hs.count k → ∃ e ∈ ES, e.1 = k) (hT : ∀ e ∈ ES, TT M e.1 e.2) : live N M ≤ (ES.map fun e => e.2.length).sum := by
  have key : ∀ ES : List (Nat × List Pr), (∀ e ∈ ES, TT M e.1 e.2) → ∃ L : List Nat, L.length = (ES.map fun e => e.2.length).sum ∧ ∀ e ∈ ES, e.1 ≠ 0 → ∀ j, Reach M e.1 j → j ∈ L := fun ES => by
    induction ES with
    | nil => intro _; exact ⟨[], rfl, fun _ h => absurd h (by simp)⟩
    | cons e ES ih =>
      intro h
      obtain ⟨L, h1, h2⟩ := ih (fun e he => h e (List.mem_cons_of_mem _ he))
      obtain ⟨cs, c1, c2, _, _⟩ := (h e (by simp)).cells
      refine ⟨cs ++ L, by simp [c1, h1], fun e' he' h0 j hj => ?_⟩
      rcases List.mem_cons.1 he' with rfl | he'
      · exact List.mem_append_left _ (c2 h0 j hj)
      · exact List.mem_append_right _ (h2 e' he' h0 j hj)
  obtain ⟨L, h1, h2⟩ := key ES hT
  rw [← h1]
  refine live_cov fun j _ hj => ?_
  obtain ⟨r, r0, hr, hR⟩ := hb.cover hj
  obtain ⟨e, he, rfl⟩ := hc r r0 hr
  exact h2 e he r0 j hR
theorem key_ne {l : List Pr} (h : Srt h0 l) : (l.map Prod.fst).Nodup := by
  rw [List.nodup_iff_pairwise_ne]
  refine List.Pairwise.map _ (fun p q hpq e => ?_) h
  exact klt_irrefl q.1 (e ▸ hpq)
theorem live_alone {hs : List Nat} (hb : Bk N M [] P hs) (hc : ∀ k, k ≠ 0 → 1 ≤ P k + hs.count k → k = i) (hT : TT M i l) : live N M = l.length := by
  refine Nat.le_antisymm ?_ ?_
  · have := live_roots (ES := [(i, l)]) hb (fun k h0 hk => ⟨(i, l), by simp, (hc k h0 hk).symm⟩) (fun e he => by
      rw [List.mem_singleton.1 he]; exact hT)
    simpa using this
  · obtain ⟨cs, c1, _, c3, c4⟩ := hT.cells
    rw [← c1]
    refine le_live ?_ (fun j hj => ⟨(hb.lt (c3 j hj)).2, c3 j hj⟩)
    have h1 := key_ne hT.srt
    rw [← c4] at h1
    exact List.Pairwise.of_map (S := (· ≠ ·)) (keyC M) (fun a b h e => h (by rw [e])) h1
theorem live_stay (hb : Bk N M [] P []) (hb' : Bk N M' [] P []) (hk : Keeps P M M') : live N M' = live N M := by
  have h1 : ∀ j, M j ≠ none → M' j ≠ none := fun j hj => by
    obtain ⟨r, r0, hr, hR⟩ := hb.cover hj
    cases e : M j with
    | none => exact absurd e hj
    | some y =>
      obtain ⟨q', e'⟩ := hk r r0 (by simpa using hr) j y.1 y.2 hR e
      rw [e']; simp
  have h2 : ∀ j, M' j ≠ none → M j ≠ none := fun j hj => by
    obtain ⟨r, r0, hr, hR⟩ := hb'.cover hj
    have hp := hk r r0 (by simpa using hr)
    have hr0 : M r ≠ none := hb.held (by simpa using hr) r0
    have key : ∀ x, Reach M' r x → Reach M r x ∧ M x ≠ none := fun x hx => by
      induction hx with
      | refl => exact ⟨.refl, hr0⟩
      | @kid x k _ hk' h0 ih =>
        obtain ⟨a1, a2⟩ := ih
        cases e : M x with
        | none => exact absurd e a2
        | some y =>
          obtain ⟨q', e'⟩ := hp x y.1 y.2 a1 e
          rw [e'] at hk'
          have hk2 : k ∈ kd (M x) := by rw [e]; exact hk'
          exact ⟨.kid a1 hk2 h0, (hb.kid (by simp) e hk' h0).1⟩
    exact (key j hR).2
  exact Nat.le_antisymm (live_mono h2) (live_mono h1)
end
end Go.Proofs.YtghbbpbhbinioaaGreat
