/- Several texts in one. -/
import Derived.Test.YtdddhmipifkepaaGreatMq10
import Derived.Deep.RegionHeld
import Derived.Deep.RegionHeld3
set_option linter.unusedSimpArgs false
namespace Go.Proofs.YtdddhmipifkepaaGreat
set_option maxRecDepth 100000
open Go.RowKit
section
set_option maxHeartbeats 1600000 in
theorem vedit1 (x : Wv) (i : Nat) (f : FuncId) (caps : Array Value) (z4 z7 : Nat) (R : Value → World → Prop) (W : World) (h4 : WC W z4 x) (h7 : C1 W z7 226 (.func (.func f) #[] caps))
    (hC : Calls Tryz.prog 227 #[ap x.b, .int .i64 (i : Nat), .int .u32 x.ow, .func (.func f) #[] caps] W fun e W' => ∃ v, e = .returned v ∧ R v W') :
    Calls Tryz.prog 226 #[.int .i64 (i : Nat), .pointer (some ⟨z4, 0, none⟩), .pointer (some ⟨z7, 0, none⟩)] W fun e W' => ∃ v, e = .returned v ∧ R v W' := by
  have HC := Lib.hid hC
  obtain ⟨q0, q1, q2, q3, q4, q5, q6, q7, q8, q9⟩ := h4.all
  have k7 := h7.c0
  clear hC h4 h7
  go_enter Tryz.func226, Tryz.ntmps226
  go_wp2_with fail
  refine HC.out.mono ?_
  rintro e w3 ⟨v, rfl, hR⟩
  have HR := Lib.hid hR
  clear hR
  go_wp2_with fail
  go_ret
  exact ⟨v, rfl, HR.out⟩
set_option maxHeartbeats 1600000 in
theorem vedit (x : Wv) (n k made g o : Nat) (f : FuncId) (caps : Array Value) (R : Value → Value → World → Prop) (w : World) (hA : x.A4 = some ⟨g, o, none⟩) (hn : n + 1 ≤ x.n4) (hc : x.n4 ≤ x.c4) (hn' : n ≤ 1000000) (hk : k ≤ 1000000) (hm : made ≤ 1000000)
    (hF : ∀ W, Below w.heap.size w W → Calls Tryz.prog 223 #[ap x.b, .int .u32 x.ow, .slice (some ⟨g, o, none⟩) (n + 1) x.c4] W fun e W' => e = .returned (.int .i64 (k : Nat)) ∧ Below W.heap.size W W')
    (hD : ∀ W z4 z7, Below w.heap.size w W → w.heap.size ≤ z4 → w.heap.size ≤ z7 → z4 ≠ z7 → WC W z4 x → C1 W z7 226 (.func (.func f) #[] caps) →
      Calls Tryz.prog 224 #[wagg x, .int .i64 (n : Nat), .int .i64 ((k : Int) + (made : Int)), .func (.func 226) #[] #[.pointer (some ⟨z4, 0, none⟩), .pointer (some ⟨z7, 0, none⟩)]] W fun e W' => ∃ a c, e = .returned (.tuple #[a, c]) ∧ R a c W') :
    Calls Tryz.prog 162 #[wagg x, .int .i64 (n : Nat), .int .i64 (made : Nat), .func (.func f) #[] caps] w fun e w' => ∃ a c, e = .returned (.tuple #[a, c]) ∧ R a c w' := by
  have e1 : (w.alloc (.cells (wcells x) 169)).heap.size = w.heap.size + 1 := by simp
  have hb : Below w.heap.size w ((w.alloc (.cells (wcells x) 169)).alloc (.cells #[.func (.func f) #[] caps] 226)).drew := (((Below.refl _ w).alloc (Nat.le_refl _) _).alloc (by simp) _).drew
  have HB := Lib.hid hb
  have hw := (((WC.new w x).alloc (.cells #[.func (.func f) #[] caps] 226)).below ((Below.refl _ _).drew))
  have hc1 := (C1.new (w.alloc (.cells (wcells x) 169)) 226 (.func (.func f) #[] caps)).below ((Below.refl _ _).drew)
  rw [e1] at hc1
  have HWX := Lib.hid (And.intro hw hc1)
  have HFX := Lib.hid hF
  have HDX := Lib.hid hD
  have m0 : ∀ W', (WC W' w.heap.size x ∧ C1 W' (w.heap.size + 1) 226 (.func (.func f) #[] caps)) → W'.cell? ⟨w.heap.size, 0, none⟩ = some (ap x.b) := fun W' h => h.1.at rfl
  have m2 : ∀ W', (WC W' w.heap.size x ∧ C1 W' (w.heap.size + 1) 226 (.func (.func f) #[] caps)) → W'.cell? ⟨w.heap.size, 2, none⟩ = some (.int .u32 x.ow) := fun W' h => h.1.at rfl
  have m5 : ∀ W', (WC W' w.heap.size x ∧ C1 W' (w.heap.size + 1) 226 (.func (.func f) #[] caps)) → W'.cell? ⟨w.heap.size, 5, none⟩ = some (.slice (some ⟨g, o, none⟩) x.n4 x.c4) := fun W' h => hA ▸ h.1.at rfl
  clear hF hD hb hA hw hc1 e1
  go_enter Tryz.func162, Tryz.ntmps162
  go_wp2_with fail
  have s1 : IntKind.i64.wrap ((k : Int) + (made : Int)) = (k : Int) + (made : Int) := IntWalk.i64_in _ (by omega)
  have s4 : IntKind.i64.wrap ((n : Int) + 1) = (n : Int) + 1 := IntWalk.i64_in _ (by omega)
  have s2 : (n : Int) + 1 ≤ (x.c4 : Int) := by omega
  have s3 : (0 : Int) ≤ (n : Int) + 1 := by omega
  have s5 : ((n : Int) + 1).toNat = n + 1 := by omega
  refine wp_region_noPanic ?_
  go_region_held (fun W' => WC W' w.heap.size x ∧ C1 W' (w.heap.size + 1) 226 (.func (.func f) #[] caps))
    (first | with_reducible assumption | with_reducible exact HWX.out | with_reducible exact HW2.out)
    ((go_at_call 223; refine (HFX.out _ HB.out).mono ?_; rintro e w2 ⟨rfl, hb2⟩; have HW2 := Lib.hid (And.intro (HWX.out.1.below hb2) (HWX.out.2.below hb2)); have HB2 := Lib.hid (HB.out.trans (hb2.mono HB.out.size)); clear hb2))
  refine NoPanic.normal ?_
  obtain ⟨q0, q1, q2, q3, q4, q5, q6, q7, q8, q9⟩ := HW2.out.1.all
  clear m0 m2 m5 s1 s4 s5
  go_wp2_with fail
  refine (HDX.out _ _ _ HB2.out (Nat.le_refl _) (Nat.le_succ _) (by omega) HW2.out.1 HW2.out.2).mono ?_
  rintro e w3 ⟨a, c, rfl, hR⟩
  have HR := Lib.hid hR
  clear hR
  go_wp2_with fail
  exact bodyPost_ret (v := .tuple #[a, c]) (by simp [results, Tryz.results162, go_sem]) rfl ⟨a, c, rfl, HR.out⟩
end

end Go.Proofs.YtdddhmipifkepaaGreat

namespace Go.Proofs.YtdddhmipifkepaaGreat
set_option maxRecDepth 100000
open Go.RowKit
theorem Rd.pair (w : World) (k v : V3) (t : TypeId) (b : Nat) (hb : b = w.heap.size) : Rd (w.alloc (.cells #[.int .u8 k.1, .int .i64 k.2.1, .string k.2.2, .int .u8 v.1, .int .i64 v.2.1, .string v.2.2] t)) (.slice (some ⟨b, 0, none⟩) 2 2) 2 ([k, v].flatMap cells3) := by
  subst hb
  refine .inr ⟨_, 0, 2, rfl, Nat.le_refl _, fun j u hu => ?_⟩
  match j, hu with
  | 0, hu => simp [cells3] at hu; subst hu; simp [go_sem]
  | 1, hu => simp [cells3] at hu; subst hu; simp [go_sem]
  | 2, hu => simp [cells3] at hu; subst hu; simp [go_sem]
  | 3, hu => simp [cells3] at hu; subst hu; simp [go_sem]
  | 4, hu => simp [cells3] at hu; subst hu; simp [go_sem]
  | 5, hu => simp [cells3] at hu; subst hu; simp [go_sem]
  | j + 6, hu => simp [cells3] at hu
section
set_option maxHeartbeats 1600000 in
theorem vnewLeaf (x : Wv) (k v : V3) (most : Nat) (M : Cells) (F : Nat → Prop) (w : World) (h : Ar w x.b most M F) (hlt : live (most + 1) M < most) :
    Calls Tryz.prog 159 #[wagg x, xagg k, xagg v] w fun e w' => ∃ i : Nat, e = .returned (.int .i64 i) ∧ 1 ≤ i ∧ i ≤ most ∧ M i = none ∧ Stp w w' x.b most (upd M i (some (⟨x.ow, 0, 13, [k, v], []⟩, 1))) F := by
  obtain ⟨w3, hw3⟩ : ∃ w3, w3 = ((w.alloc (.cells (wcells x) 169)).alloc (.cells #[.int .u8 k.1, .int .i64 k.2.1, .string k.2.2] 36)).alloc (.cells #[.int .u8 v.1, .int .i64 v.2.1, .string v.2.2] 36) := ⟨_, rfl⟩
  have hs : w3.heap.size = w.heap.size + 1 + 1 + 1 := by rw [hw3]; simp
  have hb3 : Below w.heap.size w w3 := by rw [hw3]; exact (((Below.refl _ w).alloc (Nat.le_refl _) _).alloc (by simp) _).alloc (by simp; omega) _
  have hb : Below w.heap.size w (w3.alloc (.cells #[.int .u8 k.1, .int .i64 k.2.1, .string k.2.2, .int .u8 v.1, .int .i64 v.2.1, .string v.2.2] 36)) := hb3.alloc (by rw [hs]; omega) _
  have HC := Lib.hid (amake ⟨x.ow, 0, 13, [k, v], []⟩ _ (.slice none 0 0) x.b most M F _ (h.below hb) (Rd.pair w3 k v _ (w.heap.size + 1 + 1 + 1) hs.symm) (.inl ⟨rfl, rfl, rfl⟩) (by show 2 ≤ 4194304; decide) (by show 0 ≤ 4194304; decide)
    (fun g hg hf => by simp only [Value.ownBlock, Option.some.injEq] at hg; subst hg; have := h.lt hf; omega) (fun g hg => by simp [Value.ownBlock] at hg) rfl hlt)
  have HB := Lib.hid hb
  have HL := Lib.hid (fun y (hy : F y) => h.lt hy)
  rw [hw3] at HC HB
  clear hs hb3 hb hw3 h hlt
  go_enter Tryz.func159, Tryz.ntmps159
  go_wp2_with fail
  refine HC.out.mono ?_
  rintro e w4 ⟨i, rfl, h1, h2, h3, h4, h5⟩
  have HR := Lib.hid (Stp.from HL.out HB.out ⟨h4, h5⟩)
  have H123 := Lib.hid (And.intro h1 (And.intro h2 h3))
  clear h1 h2 h3 h4 h5
  go_wp2_with fail
  go_ret
  exact ⟨i, rfl, H123.out.1, H123.out.2.1, H123.out.2.2, HR.out⟩
end

end Go.Proofs.YtdddhmipifkepaaGreat

/- Shorter words for the steps of a region that draws its order. -/
namespace Go.Proofs.YtdddhmipifkepaaGreat
open Go
section
variable {P : Program} {ops : Array Oper} {Q : Exit → Act → World → Prop} {S : World → Prop}
theorem tkH (v : Value) (i : Nat) {oi : Oper} {fuel : Nat} {listed : Array Bool} {a : Act} {w : World} (hS : S w) (hy : ∀ w, S w → (execOp a.eval oi).run P w = .ok (.value v) w)
    (h : wpAnyH P .any ops Q S fuel (listed.setIfInBounds i true) (a.put oi.dst v) w) (hi : ops[i]? = some oi := by rfl) (hs : Region.noSelect ops = true := by kernel_rfl) (hf : Region.free .any ops listed i = true := by kernel_rfl) (hr : (Region.ready .any ops listed).contains i = true := by kernel_rfl)
    (hQ : ∀ c a w, Q (.panic c) (a.put oi.dst v) w → Q (.panic c) a w := by exact fun _ _ _ h => h) (hw : Region.wanted oi (yielded ops a.tmps) = true := by rfl) : wpAnyH P .any ops Q S (fuel + 1) listed a w :=
  wpAnyH_take hi hs hf hr hQ (.inl ⟨hw, hy⟩) hS h
theorem rdH (i : Nat) {oi : Oper} {fuel : Nat} {listed : Array Bool} {a : Act} {w : World} (ho : ops[i]? = some oi)
    (h : ∀ K' : Act → World → Prop, Shut (∀ a w, S w → (S w → wpAnyH P .any ops Q S fuel (listed.setIfInBounds i true) a w) → K' a w) → if Region.wanted oi (yielded ops a.tmps) = true then Oper.wp P oi a w K' Q else K' (a.put oi.dst undef) w)
    (hr : Region.ready .any ops listed = [i] := by kernel_rfl) : wpAnyH P .any ops Q S (fuel + 1) listed a w :=
  wpAnyH_ready hr (by simp) (AllReadyH.cons ho h AllReadyH.nil)
theorem tkr : (∀ (a : Act) (d : Nat) (v : Value), a.put (some d) v = { a with tmps := a.tmps.setIfInBounds d v }) ∧ (∀ (a : Act) (v : Value), a.put none v = a) ∧ (∀ (α : Type) (l : List α) (i : Nat) (x : α), l.toArray.setIfInBounds i x = (l.set i x).toArray) ∧ (∀ (α : Type) (x a : α) (l : List α), (x :: l).set 0 a = a :: l) ∧ (∀ (α : Type) (x a : α) (l : List α) (n : Nat), (x :: l).set (n + 1) a = x :: l.set n a) ∧
    (∀ (α : Type) (l : List α) (i : Nat) (h : i < l.toArray.size), l.toArray[i] = l[i]'(by simpa using h)) ∧ (∀ (α : Type) (x : α) (l : List α) (h : 0 < (x :: l).length), (x :: l)[0] = x) ∧ (∀ (α : Type) (x : α) (l : List α) (i : Nat) (h : i + 1 < (x :: l).length), (x :: l)[i + 1] = l[i]'(Nat.lt_of_succ_lt_succ h)) :=
  ⟨fun _ _ _ => rfl, fun _ _ => rfl, fun _ _ _ _ => List.setIfInBounds_toArray .., fun _ _ _ _ => rfl, fun _ _ _ _ _ => rfl, fun _ _ _ _ => rfl, fun _ _ _ _ => rfl, fun _ _ _ _ _ => rfl⟩
end
end Go.Proofs.YtdddhmipifkepaaGreat

namespace Go.Proofs.YtdddhmipifkepaaGreat
open Go.RowKit

theorem rd_setn {w : World} {base g n cp m : Nat} {l : List Nat} (x : Nat) (h : w.ownsRow base 3 1 (.slice (some ⟨g, 0, none⟩) n cp) n (nums (ns l))) (hn : l.length = n) (hm : m < l.length) :
    Rd (w.setCell ⟨g, m, none⟩ (.int .i64 (x : Int))) (.slice (some ⟨g, 0, none⟩) n cp) (l.set m x).length (nums (ns (l.set m x))) := by
  have key : ∀ (q : Nat) (u : Value), (nums (ns l))[q]? = some u → w.cell? ⟨g, q, none⟩ = some u := fun q u hu => by
    have := h.cells (g := g) rfl q u hu
    rwa [add_none, Nat.zero_add] at this
  have at' : ∀ (l : List Nat) (q : Nat), (nums (ns l))[q]? = l[q]?.map fun (x : Nat) => Value.int .i64 (x : Int) := fun l q => by
    rw [nums_at]; unfold ns; rw [List.getElem?_map, Option.map_map]; rfl
  have hcp : n ≤ cp := by
    obtain ⟨_, _, e', hle⟩ := (Rd.of_own h).form
    simp only [Value.slice.injEq] at e'
    omega
  rw [List.length_set, hn]
  refine .inr ⟨g, 0, cp, rfl, hcp, fun j u hu => ?_⟩
  rw [Nat.zero_add]
  rw [at'] at hu
  by_cases e : j = m
  · subst e
    rw [List.getElem?_set_self hm] at hu
    simp only [Option.map_some, Option.some.injEq] at hu
    subst hu
    exact World.cell?_setCell_same _ _ _ (key j _ (by rw [at', List.getElem?_eq_getElem hm]; rfl))
  · rw [List.getElem?_set_ne (Ne.symm e), ← at'] at hu
    rw [World.cell?_setCell_other _ _ _ _ (fun e' => e (by injection e' with _ e' _; exact e'.symm))]
    exact key j u hu

theorem World.frozen_of_kp' {F : Nat → Prop} {w w' : World} (hk : Kp F w w') {g m : Nat} {y : Value} (hg : ¬ F g) (_hc : w'.cell? ⟨g, m, none⟩ = some y) (hl : g < w.heap.size) : w'.frozen? ⟨g, m, none⟩ = w.frozen? ⟨g, m, none⟩ := by
  have h := hk.block g hl hg
  unfold World.frozen?
  rw [h]
def kI (W : World) (g m : Nat) : Int := match W.cell? ⟨g, m, none⟩ with
  | some (.int _ u) => u
  | _ => 0
structure Sk (W : World) (z5 z6 z4 zn zf gk m n : Nat) (x : Wv) (o ca cb : Int) (v k fn : Value) : Prop where
  box : C5 W z5 109 (.int .u32 o) (.int .u32 ca) (.int .u32 cb) v k
  out : C5 W z6 109 (.int .u32 0) (.int .u32 0) (.int .u32 0) (.slice none 0 0) (.slice none 0 0)
  wy : WC W z4 x
  cn : W.cell? ⟨zn, 0, none⟩ = some (.int .i64 (n : Int))
  cf : W.cell? ⟨zf, 0, none⟩ = some fn
  kc : W.cell? ⟨gk, m, none⟩ = some (.int .i64 (kI W gk m))
  kf : W.frozen? ⟨gk, m, none⟩ = false
  ne : gk ≠ z5 ∧ gk ≠ z6 ∧ gk ≠ z4 ∧ gk ≠ zn ∧ gk ≠ zf
theorem Sk.drew {W : World} {z5 z6 z4 zn zf gk m n : Nat} {x : Wv} {o ca cb : Int} {v k fn : Value} (h : Sk W z5 z6 z4 zn zf gk m n x o ca cb v k fn) : Sk W.drew z5 z6 z4 zn zf gk m n x o ca cb v k fn := ⟨h.box, h.out, h.wy, h.cn, h.cf, h.kc, h.kf, h.ne⟩
theorem Sk.store {W : World} {z5 z6 z4 zn zf gk m n : Nat} {x : Wv} {o ca cb : Int} {v k fn : Value} (h : Sk W z5 z6 z4 zn zf gk m n x o ca cb v k fn) (u : Int) : Sk (W.setCell ⟨gk, m, none⟩ (.int .i64 u)) z5 z6 z4 zn zf gk m n x o ca cb v k fn := by
  have far : ∀ z y, gk ≠ z → W.cell? ⟨z, 0, none⟩ = some y → (W.setCell ⟨gk, m, none⟩ (.int .i64 u)).cell? ⟨z, 0, none⟩ = some y := fun z y hz hy => (World.cell?_setCell_other _ _ _ _ (fun e => hz (by injection e))).trans hy
  have hk := World.cell?_setCell_same W ⟨gk, m, none⟩ (.int .i64 u) h.kc
  exact ⟨h.box.other h.ne.1.symm _, h.out.other h.ne.2.1.symm _, (Below.heap_setCell W ⟨gk, m, none⟩ (.int .i64 u) z4 (fun e => h.ne.2.2.1 e.symm)).trans h.wy, far _ _ h.ne.2.2.2.1 h.cn, far _ _ h.ne.2.2.2.2 h.cf, by unfold kI; rw [hk], (World.frozen?_setCell _ _ _ _).trans h.kf, h.ne⟩

section
variable {most : Nat} {M1 : Cells} {F : Nat → Prop}
set_option maxRecDepth 100000 in
set_option maxHeartbeats 3000000 in
theorem chgS_pass (x : Wv) (n z4 zn zf kid s lv : Nat) (f : FuncId) (caps : Array Value) (Rin : Nat → Cells → Prop) (w : World) (hn : 0 < n) (hn2 : n ≤ 1000000) (hwy : WC w z4 x) (hcn : C1 w zn 3 (.int .i64 (n : Int)))
    (hfn : C1 w zf 256 (.func (.func f) #[] caps)) (nF : ∀ z, z = z4 ∨ z = zn ∨ z = zf → ¬ F z) (c : Hc) (hs : c.a = (s : Int)) (hs2 : s < 4294967296) (hlv : c.b = (lv : Int)) (hlv2 : lv < 13) (hk : c.kids[sdx s x.g lv]? = some kid)
    (hin : ∀ (W : World) (F1 : Nat → Prop), Rn w W x.b most M1 F F1 → Calls Tryz.prog 258 #[wagg x, .int .i64 kid, .int .i64 ((n : Int) - 1), .func (.func f) #[] caps] W fun e W' => ∃ n2 M2, e = .returned (.int .i64 (n2 : Nat)) ∧ Rin n2 M2 ∧ Stp W W' x.b most M2 F1) :
    ChgS 280 #[.pointer (some ⟨z4, 0, none⟩), .pointer (some ⟨zn, 0, none⟩), .pointer (some ⟨zf, 0, none⟩)] x.b most F w M1 c
      (fun c' M2 => ∃ n2 : Nat, Rin n2 M2 ∧ c' = { c with kids := c.kids.set (sdx s x.g lv) n2 }) := by
  intro o v k W F1 hRn nv nk o1 o2
  obtain ⟨m, hm⟩ : ∃ m, m = sdx s x.g lv := ⟨_, rfl⟩
  rw [← hm] at hk ⊢
  have hlk : m < c.kids.length := (List.getElem?_eq_some_iff.1 hk).1
  obtain ⟨gk, m2, e, hm2, hcell, hfz⟩ := own_at o2 (j := m) (u := .int .i64 (kid : Int)) (by rw [nums_at]; unfold ns; rw [List.getElem?_map, hk]; rfl)
  subst e
  obtain ⟨A1, m1, rfl, _⟩ := (Rd.of_own o1).form
  have nF1 : ∀ z, z < w.heap.size → ¬ F z → ¬ F1 z := fun z hz hn hf => (hRn.sub z hf).elim hn (fun h => by omega)
  have WY := hwy.kp hRn.kp (nF _ (.inl rfl))
  have CN := hcn.kp hRn.kp (nF _ (.inr (.inl rfl)))
  have FN := hfn.kp hRn.kp (nF _ (.inr (.inr rfl)))
  have l4 := hwy.lt
  have ln := hcn.lt
  have lf := hfn.lt
  have NA := Lib.hid (show ∀ z, z = z4 ∨ z = zn ∨ z = zf → ¬ F1 z from fun z hz => by
    rcases hz with rfl | rfl | rfl
    · exact nF1 _ l4 (nF _ (.inl rfl))
    · exact nF1 _ ln (nF _ (.inr (.inl rfl)))
    · exact nF1 _ lf (nF _ (.inr (.inr rfl))))
  have LW := Lib.hid (show z4 < w.heap.size ∧ zn < w.heap.size ∧ zf < w.heap.size from ⟨l4, ln, lf⟩)
  have O1 := Lib.hid o1
  have O2 := Lib.hid o2
  have RN := Lib.hid hRn
  have NV := Lib.hid nv
  have NK := Lib.hid nk
  have HIN := Lib.hid hin
  have hws := hRn.kp.size
  have hgk := own_blk o2 gk rfl
  have hF1 := Lib.hid (show ∀ q, F1 q → q < W.heap.size from fun q hq => hRn.ar.lt hq)
  clear o1 o2 hRn nv nk hwy hcn hfn nF nF1 hin
  show Calls Tryz.prog 280 #[cagg o c.a c.b (.slice A1 c.vals.length m1) (.slice (some ⟨gk, 0, none⟩) c.kids.length m2), .pointer (some ⟨z4, 0, none⟩), .pointer (some ⟨zn, 0, none⟩), .pointer (some ⟨zf, 0, none⟩)] W _
  have hb2 : Below W.heap.size W ((W.alloc (.cells #[.int .u32 o, .int .u32 c.a, .int .u32 c.b, .slice A1 c.vals.length m1, .slice (some ⟨gk, 0, none⟩) c.kids.length m2] 109)).alloc (.cells #[.int .u32 0, .int .u32 0, .int .u32 0, .slice none 0 0, .slice none 0 0] 109)) := ((Below.refl _ W).alloc (Nat.le_refl _) _).alloc (by simp) _
  have q1 := (C5.new W 109 (.int .u32 o) (.int .u32 c.a) (.int .u32 c.b) (.slice A1 c.vals.length m1) (.slice (some ⟨gk, 0, none⟩) c.kids.length m2)).alloc (.cells #[.int .u32 0, .int .u32 0, .int .u32 0, .slice none 0 0, .slice none 0 0] 109)
  have q2 := C5.new (W.alloc (.cells #[.int .u32 o, .int .u32 c.a, .int .u32 c.b, .slice A1 c.vals.length m1, .slice (some ⟨gk, 0, none⟩) c.kids.length m2] 109)) 109 (.int .u32 0) (.int .u32 0) (.int .u32 0) (.slice none 0 0) (.slice none 0 0)
  rw [show (W.alloc (.cells #[.int .u32 o, .int .u32 c.a, .int .u32 c.b, .slice A1 c.vals.length m1, .slice (some ⟨gk, 0, none⟩) c.kids.length m2] 109)).heap.size = W.heap.size + 1 by simp] at q2
  have HSD := Lib.hid (vside o s lv x.g A1 (some ⟨gk, 0, none⟩) c.vals.length m1 c.kids.length m2 ((W.alloc (.cells #[.int .u32 o, .int .u32 c.a, .int .u32 c.b, .slice A1 c.vals.length m1, .slice (some ⟨gk, 0, none⟩) c.kids.length m2] 109)).alloc (.cells #[.int .u32 0, .int .u32 0, .int .u32 0, .slice none 0 0, .slice none 0 0] 109)) hs2 hlv2)
  rw [← hs, ← hlv, ← hm] at HSD
  clear hs hlv hm
  have wx3 := (WY.below hb2).at (i := 3) (u := .int .u64 x.g) rfl
  go_enter Tryz.func280, Tryz.ntmps280
  go_wp2_with fail
  refine HSD.out.mono ?_
  rintro e w2 ⟨rfl, hb3⟩
  have HBB := Lib.hid (hb2.trans (hb3.mono hb2.size))
  replace q1 := q1.below hb3
  replace q2 := q2.below hb3
  have hW2 : W.heap.size + 2 ≤ w2.heap.size := Nat.le_trans (Nat.le_of_eq (by simp)) hb3.size
  clear wx3 HSD hb2 hb3
  go_wp2_with fail
  have HK := Lib.hid (Kp.of_below HBB.out (fun _ => False))
  have wy0 := WY.below HBB.out
  have cn0 := (CN.below HBB.out).c0
  have fn0 := (FN.below HBB.out).c0
  have O1a := Lib.hid (HK.out.own O1.out (fun _ _ h => h))
  have O2a := Lib.hid (HK.out.own O2.out (fun _ _ h => h))
  have RN2 := Lib.hid (RN.out.mine HK.out (fun _ h => h.elim))
  have HREN := Lib.hid (HIN.out w2.drew F1 (RN2.out.mine (Kp.of_below (Below.refl _ w2).drew (fun _ => False)) (fun _ h => h.elim)))
  obtain ⟨_, _, e, _, kc, kf⟩ := own_at O2a.out (j := m) (u := .int .i64 (kid : Int)) (by rw [nums_at]; unfold ns; rw [List.getElem?_map, hk]; rfl)
  simp only [Value.slice.injEq, Option.some.injEq, Addr.mk.injEq, and_true, true_and] at e
  obtain ⟨rfl, rfl⟩ := e
  have NB := Lib.hid (show ¬ F1 gk ∧ ¬ F1 W.heap.size ∧ ¬ F1 (W.heap.size + 1) from ⟨NK.out gk rfl, fun hf => absurd (hF1.out _ hf) (Nat.lt_irrefl _), fun hf => by have := hF1.out _ hf; omega⟩)
  have NG := Lib.hid (show (∀ q, (Value.slice A1 c.vals.length m1).ownBlock = some q → q ≠ gk) ∧ gk < W.heap.size ∧ w.heap.size ≤ gk from ⟨fun q hq => by
    obtain ⟨cur, hcur⟩ := own_type O2.out gk rfl
    exact own_ne O1.out hcur (by decide) q hq, hgk.2, hgk.1⟩)
  have NL := Lib.hid (show ∀ q, (Value.slice A1 c.vals.length m1).ownBlock = some q → w.heap.size ≤ q ∧ q < W.heap.size from fun q hq => own_blk O1.out q hq)
  have hkI : kI w2.drew gk m = (kid : Int) := by unfold kI; rw [show w2.drew.cell? ⟨gk, m, none⟩ = some (.int .i64 (kid : Int)) from kc]
  have hne : gk ≠ W.heap.size ∧ gk ≠ W.heap.size + 1 ∧ gk ≠ z4 ∧ gk ≠ zn ∧ gk ≠ zf := by
    have h1 := NG.out.2
    have h2 := LW.out
    omega
  have HW2 := Lib.hid (show W.heap.size ≤ w2.heap.size from HK.out.size)
  have HW22 := Lib.hid hW2
  have HSK := Lib.hid (Sk.mk q1 q2 wy0 cn0 fn0 (show w2.cell? ⟨gk, m, none⟩ = some (.int .i64 (kI w2 gk m)) from by unfold kI; rw [kc]) kf hne)
  have HLT := Lib.hid hlk
  have hm3 : (0 : Int) ≤ (m : Int) := by omega
  have hm4 : (m : Int) < (c.kids.length : Int) := by omega
  have hn3 : IntKind.i64.wrap ((n : Int) - 1) = (n : Int) - 1 := IntWalk.i64_in _ (by omega)
  clear q1 q2 O1 O2 hcell WY CN FN hlk hk kc kf wy0 cn0 fn0 hne hW2
  have HKP := Lib.hid (show ∀ W', Kp F1 w2.drew W' → Sk W' W.heap.size (W.heap.size + 1) z4 zn zf gk m n x o c.a c.b (.slice A1 c.vals.length m1) (.slice (some ⟨gk, 0, none⟩) c.kids.length m2) (.func (.func f) #[] caps) from fun W' hkp => by
    have h0 := HSK.out.drew
    have hkc := hkp.cell h0.kc NB.out.1
    have e : kI W' gk m = kI w2.drew gk m := by
      show (match W'.cell? ⟨gk, m, none⟩ with | some (.int _ u) => u | _ => 0) = _
      rw [hkc]
    exact ⟨h0.box.kp hkp NB.out.2.1, h0.out.kp hkp NB.out.2.2, h0.wy.kp hkp (NA.out _ (.inl rfl)), hkp.cell h0.cn (NA.out _ (.inr (.inl rfl))), hkp.cell h0.cf (NA.out _ (.inr (.inr rfl))), by rw [hkc, e], by rw [World.frozen_of_kp' hkp NB.out.1 hkc (by have := NG.out.2.1; have := HW2.out; show gk < w2.heap.size; omega)]; exact h0.kf, h0.ne⟩)
  have g0 : ∀ W', Sk W' W.heap.size (W.heap.size + 1) z4 zn zf gk m n x o c.a c.b (.slice A1 c.vals.length m1) (.slice (some ⟨gk, 0, none⟩) c.kids.length m2) (.func (.func f) #[] caps) → W'.cell? ⟨W.heap.size, 4, none⟩ = some (.slice (some ⟨gk, 0, none⟩) c.kids.length m2) := fun W' h => h.box.c4
  have y0 : ∀ W', Sk W' W.heap.size (W.heap.size + 1) z4 zn zf gk m n x o c.a c.b (.slice A1 c.vals.length m1) (.slice (some ⟨gk, 0, none⟩) c.kids.length m2) (.func (.func f) #[] caps) → W'.cell? ⟨z4, 0, none⟩ = some (ap x.b) := fun W' h => h.wy.at rfl
  have y1 : ∀ W', Sk W' W.heap.size (W.heap.size + 1) z4 zn zf gk m n x o c.a c.b (.slice A1 c.vals.length m1) (.slice (some ⟨gk, 0, none⟩) c.kids.length m2) (.func (.func f) #[] caps) → W'.cell? ⟨z4, 1, none⟩ = some (.pointer (some ⟨x.bh, 0, none⟩)) := fun W' h => h.wy.at rfl
  have y2 : ∀ W', Sk W' W.heap.size (W.heap.size + 1) z4 zn zf gk m n x o c.a c.b (.slice A1 c.vals.length m1) (.slice (some ⟨gk, 0, none⟩) c.kids.length m2) (.func (.func f) #[] caps) → W'.cell? ⟨z4, 2, none⟩ = some (.int .u32 x.ow) := fun W' h => h.wy.at rfl
  have y3 : ∀ W', Sk W' W.heap.size (W.heap.size + 1) z4 zn zf gk m n x o c.a c.b (.slice A1 c.vals.length m1) (.slice (some ⟨gk, 0, none⟩) c.kids.length m2) (.func (.func f) #[] caps) → W'.cell? ⟨z4, 3, none⟩ = some (.int .u64 x.g) := fun W' h => h.wy.at rfl
  have y4 : ∀ W', Sk W' W.heap.size (W.heap.size + 1) z4 zn zf gk m n x o c.a c.b (.slice A1 c.vals.length m1) (.slice (some ⟨gk, 0, none⟩) c.kids.length m2) (.func (.func f) #[] caps) → W'.cell? ⟨z4, 4, none⟩ = some (.int .i64 x.root) := fun W' h => h.wy.at rfl
  have y5 : ∀ W', Sk W' W.heap.size (W.heap.size + 1) z4 zn zf gk m n x o c.a c.b (.slice A1 c.vals.length m1) (.slice (some ⟨gk, 0, none⟩) c.kids.length m2) (.func (.func f) #[] caps) → W'.cell? ⟨z4, 5, none⟩ = some (.slice x.A4 x.n4 x.c4) := fun W' h => h.wy.at rfl
  have y6 : ∀ W', Sk W' W.heap.size (W.heap.size + 1) z4 zn zf gk m n x o c.a c.b (.slice A1 c.vals.length m1) (.slice (some ⟨gk, 0, none⟩) c.kids.length m2) (.func (.func f) #[] caps) → W'.cell? ⟨z4, 6, none⟩ = some (.slice x.A5 x.n5 x.c5) := fun W' h => h.wy.at rfl
  have y7 : ∀ W', Sk W' W.heap.size (W.heap.size + 1) z4 zn zf gk m n x o c.a c.b (.slice A1 c.vals.length m1) (.slice (some ⟨gk, 0, none⟩) c.kids.length m2) (.func (.func f) #[] caps) → W'.cell? ⟨z4, 7, none⟩ = some (.slice x.A6 x.n6 x.c6) := fun W' h => h.wy.at rfl
  have y8 : ∀ W', Sk W' W.heap.size (W.heap.size + 1) z4 zn zf gk m n x o c.a c.b (.slice A1 c.vals.length m1) (.slice (some ⟨gk, 0, none⟩) c.kids.length m2) (.func (.func f) #[] caps) → W'.cell? ⟨z4, 8, none⟩ = some (.int .i64 x.at') := fun W' h => h.wy.at rfl
  have y9 : ∀ W', Sk W' W.heap.size (W.heap.size + 1) z4 zn zf gk m n x o c.a c.b (.slice A1 c.vals.length m1) (.slice (some ⟨gk, 0, none⟩) c.kids.length m2) (.func (.func f) #[] caps) → W'.cell? ⟨z4, 9, none⟩ = some (.bool x.has) := fun W' h => h.wy.at rfl
  have g2 : ∀ W', Sk W' W.heap.size (W.heap.size + 1) z4 zn zf gk m n x o c.a c.b (.slice A1 c.vals.length m1) (.slice (some ⟨gk, 0, none⟩) c.kids.length m2) (.func (.func f) #[] caps) → W'.cell? ⟨zn, 0, none⟩ = some (.int .i64 (n : Int)) := fun W' h => h.cn
  have g4 : ∀ W', Sk W' W.heap.size (W.heap.size + 1) z4 zn zf gk m n x o c.a c.b (.slice A1 c.vals.length m1) (.slice (some ⟨gk, 0, none⟩) c.kids.length m2) (.func (.func f) #[] caps) → W'.cell? ⟨zf, 0, none⟩ = some (.func (.func f) #[] caps) := fun W' h => h.cf
  have g5 : ∀ W', Sk W' W.heap.size (W.heap.size + 1) z4 zn zf gk m n x o c.a c.b (.slice A1 c.vals.length m1) (.slice (some ⟨gk, 0, none⟩) c.kids.length m2) (.func (.func f) #[] caps) → W'.cell? ⟨gk, m, none⟩ = some (.int .i64 (kI W' gk m)) := fun W' h => h.kc
  have g6 : ∀ W', Sk W' W.heap.size (W.heap.size + 1) z4 zn zf gk m n x o c.a c.b (.slice A1 c.vals.length m1) (.slice (some ⟨gk, 0, none⟩) c.kids.length m2) (.func (.func f) #[] caps) → W'.frozen? ⟨gk, m, none⟩ = false := fun W' h => h.kf
  refine wp_region_noPanic ?_
  refine wp_region_held_drew (S := fun W' => Sk W' W.heap.size (W.heap.size + 1) z4 zn zf gk m n x o c.a c.b (.slice A1 c.vals.length m1) (.slice (some ⟨gk, 0, none⟩) c.kids.length m2) (.func (.func f) #[] caps)) (by kernel_rfl) HSK.out.drew (fun hH => ?_)
  refine tkH ?_ 0 hH ?_ ?_; rotate_left
  · intro W' hS; go_simp; with_reducible rfl
  simp only [tkr]
  refine tkH ?_ 1 hH ?_ ?_; rotate_left
  · intro W' hS; go_simp; with_reducible rfl
  simp only [tkr]
  refine tkH ?_ 2 hH ?_ ?_; rotate_left
  · intro W' hS; go_simp; with_reducible rfl
  simp only [tkr]
  refine tkH ?_ 3 hH ?_ ?_; rotate_left
  · intro W' hS; go_simp; with_reducible rfl
  simp only [tkr]
  refine tkH ?_ 4 hH ?_ ?_; rotate_left
  · intro W' hS; go_simp; with_reducible rfl
  simp only [tkr]
  refine tkH ?_ 5 hH ?_ ?_; rotate_left
  · intro W' hS; go_simp; with_reducible rfl
  simp only [tkr]
  refine tkH ?_ 6 hH ?_ ?_; rotate_left
  · intro W' hS; go_simp; with_reducible rfl
  simp only [tkr]
  refine tkH ?_ 7 hH ?_ ?_; rotate_left
  · intro W' hS; go_simp; with_reducible rfl
  simp only [tkr]
  refine tkH ?_ 9 hH ?_ ?_; rotate_left
  · intro W' hS; go_simp; with_reducible rfl
  simp only [tkr]
  refine tkH ?_ 10 hH ?_ ?_; rotate_left
  · intro W' hS; go_simp; with_reducible rfl
  simp only [tkr]
  refine tkH ?_ 11 hH ?_ ?_; rotate_left
  · intro W' hS; go_simp; with_reducible rfl
  simp only [tkr]
  refine rdH 8 rfl (fun K hK => ?_)
  have kc := HSK.out.drew.kc
  rw [hkI] at kc
  go_simp
  clear kc
  refine hK.out _ _ ?_ (fun hH => ?_)
  · exact HSK.out.drew
  clear hK K
  refine rdH 12 rfl (fun K hK => ?_)
  go_simp
  refine HREN.out.mono ?_
  rintro e w5 ⟨n2, M2, rfl, hrin, hs⟩
  have HS := Lib.hid hs
  have HRI := Lib.hid hrin
  have hS5 := HKP.out _ hs.kp
  have HS5 := Lib.hid hS5
  clear hs hrin hS5
  simp only
  refine hK.out _ _ ?_ (fun hH => ?_)
  · exact HS5.out
  clear hK K
  refine tkH ?_ 13 hH ?_ ?_; rotate_left
  · intro W' hS; go_simp; with_reducible rfl
  simp only [tkr]
  refine rdH 14 rfl (fun K hK => ?_)
  have kc := HS5.out.kc
  have kf := HS5.out.kf
  go_simp
  clear kc kf
  refine hK.out _ _ ?_ (fun hH => ?_)
  · exact HS5.out.store _
  clear hK K
  refine wpAnyH_done (by kernel_rfl) ?_ _
  refine NoPanic.normal ?_
  have kd2 := Kp.of_below (Below.refl _ w2).drew (fun _ => False)
  have O1e := HS.out.kp.own (kd2.own O1a.out (fun _ _ h => h)) NV.out
  have O2e := HS.out.kp.own (kd2.own O2a.out (fun _ _ h => h)) NK.out
  have hk6 := Kp.one w5 gk m (.int .i64 (n2 : Int))
  have R1 := Lib.hid (hk6.rd (Rd.of_own O1e) (fun q hq => NG.out.1 q hq))
  have R2 := Lib.hid (rd_setn n2 O2e rfl HLT.out)
  have RN6 := Lib.hid (((RN2.out.mine kd2 (fun _ h => h.elim)).stp HS.out).mine hk6 (fun q hq => ⟨hq ▸ NG.out.2.2, fun hf => by
    subst hq
    rcases hf with hf | hf
    · exact NB.out.1 hf
    · have h1 := NG.out.2.1
      have h2 := HW2.out
      have h3 : w2.heap.size ≤ q := hf.1
      omega⟩))
  have N6 := Lib.hid (show ∀ q, q < W.heap.size + 2 → ¬ F1 q → ¬ Fn F1 w2.drew w5 q from fun q hq hn hf => by
    rcases hf with hf | hf
    · exact hn hf
    · have h3 : w2.heap.size ≤ q := hf.1
      have h4 := HW22.out
      omega)
  have hz : W.heap.size ≤ (w5.setCell ⟨gk, m, none⟩ (.int .i64 (n2 : Int))).heap.size := Nat.le_of_lt hH.box.lt
  obtain ⟨x0, x1, x2, x3, x4, _⟩ := hH.box.all
  obtain ⟨p0, p1, p2, p3, p4, u0, u1, u2, u3, u4⟩ := hH.out.all
  clear hk6 O1e O2e kd2 hH
  generalize w5.setCell ⟨gk, m, none⟩ (.int .i64 (n2 : Int)) = w6 at R1 R2 RN6 hz x0 x1 x2 x3 x4 p0 p1 p2 p3 p4 u0 u1 u2 u3 u4 ⊢
  clear g0 g2 g4 g5 g6 y0 y1 y2 y3 y4 y5 y6 y7 y8 y9 hn3
  go_wp2_with fail
  have hk2 : Kp (fun q => q = W.heap.size + 1) w6 (((((w6.setCell ⟨W.heap.size + 1, 0, none⟩ (.int .u32 o)).setCell ⟨W.heap.size + 1, 1, none⟩ (.int .u32 c.a)).setCell ⟨W.heap.size + 1, 2, none⟩ (.int .u32 c.b)).setCell ⟨W.heap.size + 1, 3, none⟩ (.slice A1 c.vals.length m1)).setCell ⟨W.heap.size + 1, 4, none⟩ (.slice (some ⟨gk, 0, none⟩) c.kids.length m2)) := (((((Kp.refl (fun q => q = W.heap.size + 1) w6).setCell (.inl rfl) _).setCell (.inl rfl) _).setCell (.inl rfl) _).setCell (.inl rfl) _).setCell (.inl rfl) _
  refine bodyPost_ret (v := cagg o c.a c.b (.slice A1 c.vals.length m1) (.slice (some ⟨gk, 0, none⟩) c.kids.length m2)) (by simp [results, Tryz.results280, go_sem, p0, p1, p2, p3, p4]) rfl ⟨.slice A1 c.vals.length m1, .slice (some ⟨gk, 0, none⟩) c.kids.length m2, { c with kids := c.kids.set m n2 }, M2, _, rfl, ?_, ?_, RN6.out.mine hk2 (fun q e => ?_), fun q hq => ?_, fun q hq => ?_, n2, HRI.out, rfl⟩
  · exact hk2.rd R1.out (fun q hq => by have := NL.out q hq; omega)
  · exact hk2.rd R2.out (fun q hq => by have e : gk = q := Option.some.inj hq; have := NG.out.2.1; omega)
  · subst e
    exact ⟨by omega, N6.out _ (by omega) NB.out.2.2⟩
  · have := NL.out q hq
    exact N6.out q (by omega) (NV.out q hq)
  · have e : gk = q := Option.some.inj hq
    have := NG.out.2.1
    exact N6.out q (by omega) (NK.out q hq)
end
end Go.Proofs.YtdddhmipifkepaaGreat
