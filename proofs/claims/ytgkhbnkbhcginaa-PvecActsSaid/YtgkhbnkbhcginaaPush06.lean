/- Package pvec: what Push's functions do to a cell. -/
import Derived.Test.YtgkhbnkbhcginaaPvec06
namespace Go.Proofs.Ytgkhbnkbhcginaa
open Go.RowKit

section
variable {F : Nat → Prop}
set_option maxRecDepth 100000 in
set_option maxHeartbeats 800000 in
/-- One more of its others. -/
theorem chg_kid (old zb : Nat) (w : World) (hzb : w.cell? ⟨zb, 0, none⟩ = some (.int .i64 (old : Int))) (hF : ¬ F zb) (c : Hc) (nk : c.kids.length ≤ 4194000) :
    Chg 45 (.pointer (some ⟨zb, 0, none⟩)) F w (fun c => { c with kids := c.kids ++ [old] }) c := by
  intro o v k W hkp o1 o2
  obtain ⟨i1, hi1, hy0, hy1, hy2⟩ := info_parts iinfo
  obtain ⟨A1, m1, rfl, _⟩ := (Rd.of_own o1).form
  obtain ⟨A2, m2, rfl, _⟩ := (Rd.of_own o2).form
  have hz : W.cell? ⟨zb, 0, none⟩ = some (.int .i64 (old : Int)) := hkp.cell hzb hF
  have hzl : zb < W.heap.size := World.block_lt_of_cell? W _ hz
  have hws := hkp.size
  have O1 := Lib.hid o1
  have O2 := Lib.hid o2
  clear o1 o2 hkp hzb
  go_enter Try.func45, Try.ntmps45
  go_wp2_with (at_builtin; refine wpList_append_rd rfl _ _ 57 rfl w.heap.size 3 i1 _ 1 8 Try.underlying57 hi1 hy0 hy1 hy2 rfl (by decide) (.slice A2 c.kids.length m2) c.kids.length (nums (ns c.kids)) rfl ?k0 _ 1 [.int .i64 (old : Int)] rfl ?k1 rfl (by simp [Value.oneCell']) ?k2 ?k3 ?k4 ?_)
  case k0 => exact ((O2.out.alloc _).alloc _).alloc _
  case k1 => exact Rd.one' _ _ _ _ (by simp)
  case k2 => unfold maxLen; omega
  case k3 => omega
  case k4 => simp; omega
  intro v' w' hown hg hat
  obtain ⟨A3, m3, rfl, _⟩ := (Rd.of_own hown).form
  have b2 : ∀ q, (Value.slice A2 c.kids.length m2).ownBlock = some q → q < W.heap.size := fun q hq => (O2.out.lt q hq).2
  have q1 := ((((C5.new W 59 (.int .u32 o) (.int .u32 c.a) (.int .u32 c.b) (.slice A1 c.vals.length m1) (.slice A2 c.kids.length m2)).alloc (.cells #[.int .u32 0, .int .u32 0, .int .u32 0, .slice none 0 0, .slice none 0 0] 59)).alloc (.cells #[.int .i64 (old : Int)] 3)).grown hg (fun e => by have := b2 _ e.symm; omega))
  have q2 := C5.new (W.alloc (.cells #[.int .u32 o, .int .u32 c.a, .int .u32 c.b, .slice A1 c.vals.length m1, .slice A2 c.kids.length m2] 59)) 59 (.int .u32 0) (.int .u32 0) (.int .u32 0) (.slice none 0 0) (.slice none 0 0)
  rw [show (W.alloc (.cells #[.int .u32 o, .int .u32 c.a, .int .u32 c.b, .slice A1 c.vals.length m1, .slice A2 c.kids.length m2] 59)).heap.size = W.heap.size + 1 by simp] at q2
  have q2' := (q2.alloc (.cells #[.int .i64 (old : Int)] 3)).grown hg (fun e => by have := b2 _ e.symm; omega)
  have hb3 : Below W.heap.size W (((W.alloc (.cells #[.int .u32 o, .int .u32 c.a, .int .u32 c.b, .slice A1 c.vals.length m1, .slice A2 c.kids.length m2] 59)).alloc (.cells #[.int .u32 0, .int .u32 0, .int .u32 0, .slice none 0 0, .slice none 0 0] 59)).alloc (.cells #[.int .i64 (old : Int)] 3)) := (((Below.refl _ W).alloc (Nat.le_refl _) _).alloc (by simp) _).alloc (by simp; omega) _
  have kw := (Kp.of_below hb3 (fun x => (Value.slice A2 c.kids.length m2).ownBlock = some x)).trans (Kp.of_grown (F := fun x => (Value.slice A2 c.kids.length m2).ownBlock = some x) hg (fun _ => .inl)) (fun _ => .inl)
  have o1' := kw.own O1.out (fun q hq e => by
    obtain ⟨cur, hcur⟩ := own_type O2.out q e
    exact own_ne O1.out hcur (by decide) q hq rfl)
  have hat' : ∀ q, (Value.slice A3 (c.kids.length + 1) m3).ownBlock = some q → (Value.slice A2 c.kids.length m2).ownBlock = some q ∨ W.heap.size ≤ q := fun q hq => by
    rcases hat with e | e
    · exact .inl (e ▸ hq)
    · rw [e] at hq; injection hq with hq; exact .inr (by omega)
  have hne1 := own_ne o1' q1 (by decide)
  have hne2 := own_ne o1' q2' (by decide)
  have hne3 := own_ne hown q1 (by decide)
  have hne4 := own_ne hown q2' (by decide)
  have KW := Lib.hid kw
  have O3 := Lib.hid o1'
  have O4 := Lib.hid hown
  have HAT := Lib.hid hat'
  have NE := Lib.hid (show (∀ q, (Value.slice A1 c.vals.length m1).ownBlock = some q → ¬ (q = W.heap.size ∨ q = W.heap.size + 1)) ∧ (∀ q, (Value.slice A3 (c.kids.length + 1) m3).ownBlock = some q → ¬ (q = W.heap.size ∨ q = W.heap.size + 1)) from
    ⟨fun q hq => not_or.2 ⟨hne1 q hq, hne2 q hq⟩, fun q hq => not_or.2 ⟨hne3 q hq, hne4 q hq⟩⟩)
  obtain ⟨x0, x1, x2, x3, x4, y0, y1, y2, y3, y4⟩ := q1.all
  obtain ⟨z0, z1, z2, z3, z4, u0, u1, u2, u3, u4⟩ := q2'.all
  clear hg hat hb3 kw o1' hown hat' hne1 hne2 hne3 hne4 q1 q2 q2' O1 O2 b2 hz hzl
  go_wp2_with fail
  refine bodyPost_ret (v := cagg o c.a c.b (.slice A1 c.vals.length m1) (.slice A3 (c.kids.length + 1) m3)) (by simp [results, Try.results45, go_sem, z0, z1, z2, z3, z4]) rfl ⟨_, _, rfl, ?_, ?_, ?_, fun _ => .inl, HAT.out⟩
  · exact Rd.of_own ((((((((Kp.refl (fun x => x = W.heap.size ∨ x = W.heap.size + 1) w').setCell (.inl (.inl rfl)) _).setCell (.inl (.inr rfl)) _).setCell (.inl (.inr rfl)) _).setCell (.inl (.inr rfl)) _).setCell (.inl (.inr rfl)) _).setCell (.inl (.inr rfl)) _).own O3.out NE.out.1)
  · show Rd _ (.slice A3 (c.kids.length + 1) m3) (c.kids ++ [old]).length (nums (ns (c.kids ++ [old])))
    rw [show (c.kids ++ [old]).length = c.kids.length + 1 by simp, ns_snoc]
    exact Rd.of_own ((((((((Kp.refl (fun x => x = W.heap.size ∨ x = W.heap.size + 1) w').setCell (.inl (.inl rfl)) _).setCell (.inl (.inr rfl)) _).setCell (.inl (.inr rfl)) _).setCell (.inl (.inr rfl)) _).setCell (.inl (.inr rfl)) _).setCell (.inl (.inr rfl)) _).own O4.out NE.out.2)
  · exact (KW.out.mono (fun q hq _ => .inr hq)).trans (((((((Kp.refl (fun x => x = W.heap.size ∨ x = W.heap.size + 1) w').setCell (.inl (.inl rfl)) _).setCell (.inl (.inr rfl)) _).setCell (.inl (.inr rfl)) _).setCell (.inl (.inr rfl)) _).setCell (.inl (.inr rfl)) _).setCell (.inl (.inr rfl)) _) (fun q hq => .inr (by omega))
theorem rd_three (w : World) (x0 x1 x2 : Value) (t : TypeId) (b : Nat) (hb : b = w.heap.size) : Rd (w.alloc (.cells #[x0, x1, x2] t)) (.slice (some ⟨b, 0, none⟩) 1 1) 1 [x0, x1, x2] := by
  subst hb
  refine .inr ⟨_, 0, 1, rfl, Nat.le_refl _, fun j u hu => ?_⟩
  match j, hu with
  | 0, hu => simp at hu; subst hu; simp [go_sem]
  | 1, hu => simp at hu; subst hu; simp [go_sem]
  | 2, hu => simp at hu; subst hu; simp [go_sem]
set_option maxRecDepth 100000 in
set_option maxHeartbeats 800000 in
/-- One more of its values. -/
theorem chg_val (x : Int × Int × ByteArray) (zb : Nat) (w : World) (hzb : C3 w zb 38 (.int .u8 x.1) (.int .i64 x.2.1) (.string x.2.2)) (hF : ¬ F zb) (c : Hc) (nk : c.vals.length ≤ 4194000) :
    Chg 46 (.pointer (some ⟨zb, 0, none⟩)) F w (fun c => { c with vals := c.vals ++ [x] }) c := by
  intro o v k W hkp o1 o2
  obtain ⟨i1, hi1, hy0, hy1, hy2⟩ := info_parts vinfo
  obtain ⟨A1, m1, rfl, _⟩ := (Rd.of_own o1).form
  obtain ⟨A2, m2, rfl, _⟩ := (Rd.of_own o2).form
  have hz := hzb.kp hkp hF
  obtain ⟨p0, p1, p2, _⟩ := hz.all
  have hzl : zb < W.heap.size := hz.lt
  have hws := hkp.size
  have O1 := Lib.hid o1
  have O2 := Lib.hid o2
  clear o1 o2 hkp hzb hz
  go_enter Try.func46, Try.ntmps46
  go_wp2_with (at_builtin; refine wpList_append_rd rfl _ _ 31 rfl w.heap.size 38 i1 _ 3 32 Try.underlying31 hi1 hy0 hy1 hy2 rfl (by decide) (.slice A1 c.vals.length m1) c.vals.length (c.vals.flatMap cells3) rfl ?k0 _ 1 [.int .u8 x.1, .int .i64 x.2.1, .string x.2.2] rfl ?k1 rfl (by simp [Value.oneCell']) ?k2 ?k3 ?k4 ?_)
  case k0 => exact ((O1.out.alloc _).alloc _).alloc _
  case k1 => exact rd_three _ _ _ _ _ _ (by simp)
  case k2 => unfold maxLen; omega
  case k3 => omega
  case k4 => simp; omega
  intro v' w' hown hg hat
  obtain ⟨A3, m3, rfl, _⟩ := (Rd.of_own hown).form
  have b2 : ∀ q, (Value.slice A1 c.vals.length m1).ownBlock = some q → q < W.heap.size := fun q hq => (O1.out.lt q hq).2
  have q1 := ((((C5.new W 59 (.int .u32 o) (.int .u32 c.a) (.int .u32 c.b) (.slice A1 c.vals.length m1) (.slice A2 c.kids.length m2)).alloc (.cells #[.int .u32 0, .int .u32 0, .int .u32 0, .slice none 0 0, .slice none 0 0] 59)).alloc (.cells #[.int .u8 x.1, .int .i64 x.2.1, .string x.2.2] 38)).grown hg (fun e => by have := b2 _ e.symm; omega))
  have q2 := C5.new (W.alloc (.cells #[.int .u32 o, .int .u32 c.a, .int .u32 c.b, .slice A1 c.vals.length m1, .slice A2 c.kids.length m2] 59)) 59 (.int .u32 0) (.int .u32 0) (.int .u32 0) (.slice none 0 0) (.slice none 0 0)
  rw [show (W.alloc (.cells #[.int .u32 o, .int .u32 c.a, .int .u32 c.b, .slice A1 c.vals.length m1, .slice A2 c.kids.length m2] 59)).heap.size = W.heap.size + 1 by simp] at q2
  have q2' := (q2.alloc (.cells #[.int .u8 x.1, .int .i64 x.2.1, .string x.2.2] 38)).grown hg (fun e => by have := b2 _ e.symm; omega)
  have hb3 : Below W.heap.size W (((W.alloc (.cells #[.int .u32 o, .int .u32 c.a, .int .u32 c.b, .slice A1 c.vals.length m1, .slice A2 c.kids.length m2] 59)).alloc (.cells #[.int .u32 0, .int .u32 0, .int .u32 0, .slice none 0 0, .slice none 0 0] 59)).alloc (.cells #[.int .u8 x.1, .int .i64 x.2.1, .string x.2.2] 38)) := (((Below.refl _ W).alloc (Nat.le_refl _) _).alloc (by simp) _).alloc (by simp; omega) _
  have kw := (Kp.of_below hb3 (fun q => (Value.slice A1 c.vals.length m1).ownBlock = some q)).trans (Kp.of_grown (F := fun q => (Value.slice A1 c.vals.length m1).ownBlock = some q) hg (fun _ => .inl)) (fun _ => .inl)
  have o1' := kw.own O2.out (fun q hq e => by
    obtain ⟨cur, hcur⟩ := own_type O1.out q e
    exact own_ne O2.out hcur (by decide) q hq rfl)
  have hat' : ∀ q, (Value.slice A3 (c.vals.length + 1) m3).ownBlock = some q → (Value.slice A1 c.vals.length m1).ownBlock = some q ∨ W.heap.size ≤ q := fun q hq => by
    rcases hat with e | e
    · exact .inl (e ▸ hq)
    · rw [e] at hq; injection hq with hq; exact .inr (by omega)
  have hne1 := own_ne o1' q1 (by decide)
  have hne2 := own_ne o1' q2' (by decide)
  have hne3 := own_ne hown q1 (by decide)
  have hne4 := own_ne hown q2' (by decide)
  have KW := Lib.hid kw
  have O3 := Lib.hid o1'
  have O4 := Lib.hid hown
  have HAT := Lib.hid hat'
  have NE := Lib.hid (show (∀ q, (Value.slice A2 c.kids.length m2).ownBlock = some q → ¬ (q = W.heap.size ∨ q = W.heap.size + 1)) ∧ (∀ q, (Value.slice A3 (c.vals.length + 1) m3).ownBlock = some q → ¬ (q = W.heap.size ∨ q = W.heap.size + 1)) from
    ⟨fun q hq => not_or.2 ⟨hne1 q hq, hne2 q hq⟩, fun q hq => not_or.2 ⟨hne3 q hq, hne4 q hq⟩⟩)
  obtain ⟨x0, x1, x2, x3, x4, y0, y1, y2, y3, y4⟩ := q1.all
  obtain ⟨z0, z1, z2, z3, z4, u0, u1, u2, u3, u4⟩ := q2'.all
  clear hg hat hb3 kw o1' hown hat' hne1 hne2 hne3 hne4 q1 q2 q2' O1 O2 b2 hzl p0 p1 p2
  go_wp2_with fail
  refine bodyPost_ret (v := cagg o c.a c.b (.slice A3 (c.vals.length + 1) m3) (.slice A2 c.kids.length m2)) (by simp [results, Try.results46, go_sem, z0, z1, z2, z3, z4]) rfl ⟨_, _, rfl, ?_, ?_, ?_, HAT.out, fun _ => .inl⟩
  · show Rd _ (.slice A3 (c.vals.length + 1) m3) (c.vals ++ [x]).length ((c.vals ++ [x]).flatMap cells3)
    rw [show (c.vals ++ [x]).length = c.vals.length + 1 by simp, List.flatMap_append, List.flatMap_singleton]
    exact Rd.of_own ((((((((Kp.refl (fun x => x = W.heap.size ∨ x = W.heap.size + 1) w').setCell (.inl (.inl rfl)) _).setCell (.inl (.inr rfl)) _).setCell (.inl (.inr rfl)) _).setCell (.inl (.inr rfl)) _).setCell (.inl (.inr rfl)) _).setCell (.inl (.inr rfl)) _).own O4.out NE.out.2)
  · exact Rd.of_own ((((((((Kp.refl (fun x => x = W.heap.size ∨ x = W.heap.size + 1) w').setCell (.inl (.inl rfl)) _).setCell (.inl (.inr rfl)) _).setCell (.inl (.inr rfl)) _).setCell (.inl (.inr rfl)) _).setCell (.inl (.inr rfl)) _).setCell (.inl (.inr rfl)) _).own O3.out NE.out.1)
  · exact (KW.out.mono (fun q hq _ => .inl hq)).trans (((((((Kp.refl (fun x => x = W.heap.size ∨ x = W.heap.size + 1) w').setCell (.inl (.inl rfl)) _).setCell (.inl (.inr rfl)) _).setCell (.inl (.inr rfl)) _).setCell (.inl (.inr rfl)) _).setCell (.inl (.inr rfl)) _).setCell (.inl (.inr rfl)) _) (fun q hq => .inr (by omega))
end

section
variable {b most : Nat} {M : Cells} {F : Nat → Prop}
/-- renew, in one way or the other. -/
theorem vrenew (f : FuncId) (cap : Value) (g : Hc → Hc) (i : Nat) (ow : Int) (w : World) (h : Ar w b most M F) (hf : ∀ (args : Array Value) (W : World), (callFunc f args).run Try.prog W = .ok (.enter f args) W) (hch : Chg f cap F w g (contC M i))
    (hroom : aloneB M i ow = false → live (most + 1) M < most) (hr : ∀ j, rf (M j) + (contC M i).kids.length ≤ 4611686018427387900) (nl : (contC M i).kids.length ≤ 4194304) (nv : (g (contC M i)).vals.length ≤ 4194304) (nk : (g (contC M i)).kids.length ≤ 4194304) (hg : (ns (g (contC M i)).kids).all (goodB M) = true) :
    Calls Try.prog 44 #[ap b, .int .i64 i, .int .u32 ow, .func (.func f) #[] #[cap]] w fun e w' => ∃ n M', e = .returned (.int .i64 (n : Nat)) ∧ Renewed M i ow (g (contC M i)) most n M' ∧ Stp w w' b most M' F := by
  cases hal : aloneB M i ow
  · refine (vrenew_new f cap g i ow (contC M i) w h hf rfl hal hch (hroom hal) hr nl nv nk hg).mono ?_
    rintro e w' ⟨n, M', rfl, n1, n2, n3, hd, hs⟩
    exact ⟨n, M', rfl, by unfold Renewed; rw [if_neg (by rw [hal]; simp)]; exact ⟨n1, n2, n3, hd⟩, hs⟩
  · have hsh : ∃ c, M i = some (c, 1) ∧ c.owner = ow ∧ ¬ ow = 0 := by
      unfold aloneB at hal
      cases hM : M i with
      | none => rw [hM] at hal; simp at hal
      | some y =>
        rw [hM] at hal
        simp at hal
        obtain ⟨h0, h1, h2⟩ := hal
        exact ⟨y.1, by rw [← h1], h2, h0⟩
    obtain ⟨c, hM, ho, h0⟩ := hsh
    have hc : contC M i = c := by unfold contC; rw [hM]
    rw [hc] at hch nv nk hg ⊢
    refine (vrenew_in f cap g i ow c w h hf hM ho h0 hch nv nk hg).mono ?_
    rintro e w' ⟨rfl, hs⟩
    exact ⟨i, _, rfl, by unfold Renewed; rw [if_pos hal]; exact ⟨rfl, rfl⟩, hs⟩

/-- What a change begins with. -/
def begun (M : Cells) (v : Vc) (ow : Int) : Cells := if ow = 0 then keepC (keepC M v.root) v.tail else M
theorem vbegin_ok (v : Vc) (ow : Int) (need : Nat) (w : World) (h : Ar w b most M F) (hn : live (most + 1) M + need ≤ most) (hr : ∀ j, rf (M j) ≤ 4611686018427387900) : Calls Try.prog 43 #[ap b, vagg v, .int .u32 ow, .int .i64 (need : Int)] w fun e w' => e = .returned (.bool true) ∧ Stp w w' b most (begun M v ow) F := by
  by_cases h0 : ow = 0
  · subst h0
    unfold begun
    rw [if_pos rfl]
    exact vbegin_keep v need w h hn hr
  · unfold begun
    rw [if_neg h0]
    refine (vbegin_own v ow need w h hn h0).mono ?_
    rintro e w' ⟨rfl, hb⟩
    exact ⟨rfl, Stp.below h hb⟩
theorem begun_none {v : Vc} {ow : Int} {j : Nat} : begun M v ow j = none ↔ M j = none := by
  unfold begun
  split
  · rw [keepC_none, keepC_none]
  · exact Iff.rfl
theorem begun_live {N : Nat} {v : Vc} {ow : Int} : live N (begun M v ow) = live N M := by
  unfold begun
  split
  · rw [keepC_live, keepC_live]
  · rfl
theorem begun_rf {v : Vc} {ow : Int} {j : Nat} : rf (begun M v ow j) ≤ rf (M j) + 2 := by
  unfold begun
  split
  · have h1 := keepC_rf (M := keepC M v.root) (i := v.tail) (j := j)
    have h2 := keepC_rf (M := M) (i := v.root) (j := j)
    omega
  · omega
theorem keepC_cont {i j : Nat} : contC (keepC M i) j = contC M j := by
  unfold keepC
  cases hM : M i with
  | none => rfl
  | some x =>
    by_cases e : j = i
    · subst e; unfold contC; show (match upd M j (some (x.1, x.2 + 1)) j with | some (c, _) => c | none => _) = _; rw [upd_same, hM]
    · unfold contC; show (match upd M i (some (x.1, x.2 + 1)) j with | some (c, _) => c | none => _) = _; rw [upd_other _ _ e]; rfl
theorem begun_cont {v : Vc} {ow : Int} {j : Nat} : contC (begun M v ow) j = contC M j := by
  unfold begun
  split
  · rw [keepC_cont, keepC_cont]
  · rfl
theorem begun_alone {v : Vc} {ow : Int} {j : Nat} : aloneB (begun M v ow) j ow = aloneB M j ow := by
  unfold begun
  split
  · rename_i e; subst e; rfl
  · rfl
theorem begun_good {v : Vc} {ow : Int} (x : Int) : goodB (begun M v ow) x = goodB M x := by
  unfold goodB
  have : (begun M v ow x.toNat).isSome = (M x.toNat).isSome := by
    cases e : M x.toNat with
    | none => rw [begun_none.2 e]
    | some y =>
      cases e' : begun M v ow x.toNat with
      | none => rw [begun_none.1 e'] at e; cases e
      | some z => rfl
  rw [this]

/-- Behind a step the call's own boxes have changed. -/
theorem Stp.close {M' : Cells} {w w1 w2 w3 : World} (hF : ∀ x, F x → x < w.heap.size) (hb : Below w.heap.size w w1) (h : Stp w1 w2 b most M' F) {G : Nat → Prop} (hk : Kp G w2 w3) (hG : ∀ g, G g → w.heap.size ≤ g ∧ g < w1.heap.size) : Stp w w3 b most M' F := by
  have h1 := h.ar.kp hk (fun k hk' hg => by
    have := hG k hg
    rcases hk' with hk' | hk'
    · have := hF k hk'; omega
    · omega)
  refine ⟨h1.mono (fun x hx => hx.imp id (fun hx => ⟨Nat.le_trans hb.size hx.1, Nat.lt_of_lt_of_le hx.2 hk.size⟩)) (fun x hx => hx.elim (fun hx => Nat.lt_of_lt_of_le (hF x hx) (Nat.le_trans hb.size (Nat.le_trans h.kp.size hk.size))) (fun hx => hx.2)), ((Kp.of_below hb F).trans h.kp (fun _ => .inl)).trans hk (fun g hg => .inr (hG g hg).1)⟩
/-- A block that the arena has not. -/
theorem Stp.not {M' : Cells} {w w' : World} (_hF : ∀ x, F x → x < w.heap.size) (_h : Stp w w' b most M' F) {g : Nat} (hg : g < w.heap.size) (hn : ¬ F g) : ¬ Fn F w w' g := by
  rintro (e | e)
  · exact hn e
  · omega

set_option maxRecDepth 100000 in
set_option maxHeartbeats 1600000 in
/-- One value more, where the tail has room (or there is none). -/
theorem vPush_tail (v : Vc) (l : Vs) (x : Int × Int × ByteArray) (ow : Int) (w : World) (h : Ar w b most M F) (hv : VecIs M v l) (hlt : l.length < 1024) (hnf : l.length = 0 ∨ l.length % 32 ≠ 0) (hroom : live (most + 1) M + freshN M ow [v.tail] ≤ most) (hr : ∀ j, rf (M j) ≤ 4611686018420000000) (hf : ∀ (args : Array Value) (W : World), (callFunc 46 args).run Try.prog W = .ok (.enter 46 args) W) :
    Calls Try.prog 14 #[ap b, vagg v, xagg x, .int .u32 ow] w fun e w' => ∃ n M', e = .returned (.tuple #[vagg ⟨v.n + 1, v.root, n⟩, .int .i64 0]) ∧ Renewed (begun M v ow) v.tail ow { contC M v.tail with vals := (contC M v.tail).vals ++ [x] } most n M' ∧ Stp w w' b most M' F := by
  have HF := Lib.hid (show ∀ q, F q → q < w.heap.size from fun q hq => h.lt hq)
  have HA := Lib.hid h
  have HV := Lib.hid hv
  have HR := Lib.hid hr
  have hn0 : ¬ (1024 : Int) ≤ (v.n : Int) := by have := hv.n; omega
  have hn2 : v.n < 1024 := by have := hv.n; omega
  have hnf' := Lib.hid (show v.n = 0 ∨ v.n % 32 ≠ 0 by have := hv.n; omega)
  have hsl := Lib.hid (show ∀ W, Calls Try.prog 41 #[.int .i64 (v.n : Int)] W fun e w' => e = .returned (.int .i64 ((v.n % 32 : Nat) : Int)) ∧ W = w' from fun W => vslot v.n W (by omega))
  have q5 := (((C3.new w 30 (.int .i64 (v.n : Int)) (.int .i64 (v.root : Int)) (.int .i64 (v.tail : Int))).alloc (.cells #[.int .u8 x.1, .int .i64 x.2.1, .string x.2.2] 38)).alloc (.cells #[.int .i64 0, .int .i64 0, .int .i64 0] 30)).alloc (.cells #[.int .i64 (v.tail : Int)] 3)
  have q6 := ((C3.new (w.alloc (.cells #[.int .i64 (v.n : Int), .int .i64 (v.root : Int), .int .i64 (v.tail : Int)] 30)) 38 (.int .u8 x.1) (.int .i64 x.2.1) (.string x.2.2)).alloc (.cells #[.int .i64 0, .int .i64 0, .int .i64 0] 30)).alloc (.cells #[.int .i64 (v.tail : Int)] 3)
  have q8 := (C3.new ((w.alloc (.cells #[.int .i64 (v.n : Int), .int .i64 (v.root : Int), .int .i64 (v.tail : Int)] 30)).alloc (.cells #[.int .u8 x.1, .int .i64 x.2.1, .string x.2.2] 38)) 30 (.int .i64 0) (.int .i64 0) (.int .i64 0)).alloc (.cells #[.int .i64 (v.tail : Int)] 3)
  have hlit := Rd.one' (((w.alloc (.cells #[.int .i64 (v.n : Int), .int .i64 (v.root : Int), .int .i64 (v.tail : Int)] 30)).alloc (.cells #[.int .u8 x.1, .int .i64 x.2.1, .string x.2.2] 38)).alloc (.cells #[.int .i64 0, .int .i64 0, .int .i64 0] 30)) (.int .i64 (v.tail : Int)) 3 (w.heap.size + 1 + 1 + 1) (by simp)
  have e1 : (w.alloc (.cells #[.int .i64 (v.n : Int), .int .i64 (v.root : Int), .int .i64 (v.tail : Int)] 30)).heap.size = w.heap.size + 1 := by simp
  have e2 : ((w.alloc (.cells #[.int .i64 (v.n : Int), .int .i64 (v.root : Int), .int .i64 (v.tail : Int)] 30)).alloc (.cells #[.int .u8 x.1, .int .i64 x.2.1, .string x.2.2] 38)).heap.size = w.heap.size + 1 + 1 := by simp
  rw [e1] at q6
  rw [e2] at q8
  have hb4 : Below w.heap.size w ((((w.alloc (.cells #[.int .i64 (v.n : Int), .int .i64 (v.root : Int), .int .i64 (v.tail : Int)] 30)).alloc (.cells #[.int .u8 x.1, .int .i64 x.2.1, .string x.2.2] 38)).alloc (.cells #[.int .i64 0, .int .i64 0, .int .i64 0] 30)).alloc (.cells #[.int .i64 (v.tail : Int)] 3)) := ((((Below.refl _ w).alloc (Nat.le_refl _) _).alloc (by simp) _).alloc (by simp; omega) _).alloc (by simp; omega) _
  have hs4 : ((((w.alloc (.cells #[.int .i64 (v.n : Int), .int .i64 (v.root : Int), .int .i64 (v.tail : Int)] 30)).alloc (.cells #[.int .u8 x.1, .int .i64 x.2.1, .string x.2.2] 38)).alloc (.cells #[.int .i64 0, .int .i64 0, .int .i64 0] 30)).alloc (.cells #[.int .i64 (v.tail : Int)] 3)).heap.size = w.heap.size + 1 + 1 + 1 + 1 := by simp
  have HQ := Lib.hid (And.intro q5 (And.intro q6 (And.intro q8 hlit)))
  have HB4 := Lib.hid hb4
  have HS4 := Lib.hid hs4
  have HA4 := Lib.hid (h.below hb4)
  clear h hv hr q5 q6 q8 hlit e1 e2 hb4 hs4 HA
  have hcase : v.n = 0 ∨ 0 < v.n := by omega
  rcases hcase with hz | hz
  case' inl =>
    have hz' : ¬ (0 : Int) < (v.n : Int) := by omega
    have HZ := Lib.hid hz
    clear hz
    go_enter Try.func14, Try.ntmps14
    go_wp2_with fail
  case' inr =>
    have hz' : (0 : Int) < (v.n : Int) := by omega
    obtain ⟨q, hq⟩ : ∃ q, q = v.n % 32 := ⟨_, rfl⟩
    rw [← hq] at hsl
    have hq0 : ¬ (q : Int) = 0 := by have := hnf'.out; omega
    clear hz hq
    go_enter Try.func14, Try.ntmps14
    go_wp2_with (go_at_call 41; refine (hsl.out _).mono ?_; rintro e w' ⟨rfl, rfl⟩)
  all_goals
    generalize (((w.alloc (.cells #[.int .i64 (v.n : Int), .int .i64 (v.root : Int), .int .i64 (v.tail : Int)] 30)).alloc (.cells #[.int .u8 x.1, .int .i64 x.2.1, .string x.2.2] 38)).alloc (.cells #[.int .i64 0, .int .i64 0, .int .i64 0] 30)).alloc (.cells #[.int .i64 (v.tail : Int)] 3) = w4 at HQ HB4 HS4 HA4 ⊢
    refine (vfresh ow [v.tail] _ w4 HA4.out HQ.out.2.2.2 (by show 1 ≤ 4194304; decide)).mono ?_
    rintro e w5 ⟨rfl, hb5⟩
    obtain ⟨zr, hzr⟩ : ∃ z, z = w.heap.size + 1 + 1 := ⟨_, rfl⟩
    rw [← hzr] at HQ ⊢
    obtain ⟨zx, hzx⟩ : ∃ z, z = w.heap.size + 1 := ⟨_, rfl⟩
    rw [← hzx] at HQ ⊢
    obtain ⟨zv, hzv⟩ : ∃ z, z = w.heap.size := ⟨_, rfl⟩
    rw [← hzv] at HQ ⊢
    have hs5 := hb5.size
    have HZ := Lib.hid (show (w.heap.size ≤ zv ∧ zv < w5.heap.size) ∧ (w.heap.size ≤ zx ∧ zx < w5.heap.size) ∧ (w.heap.size ≤ zr ∧ zr < w5.heap.size) from by have := HS4.out; omega)
    have nvr : ¬ zv = zr := by omega
    have nrv : ¬ zr = zv := by omega
    clear hzr hzx hzv hs5
    have HB5 := Lib.hid (HB4.out.trans (hb5.mono HB4.out.size))
    have HA5 := Lib.hid (HA4.out.below hb5)
    have q5 := HQ.out.1.below hb5
    have Q5 := Lib.hid q5
    have Q6 := Lib.hid (HQ.out.2.1.below hb5)
    have Q8 := Lib.hid (HQ.out.2.2.1.below hb5)
    obtain ⟨c0, c1, c2, _⟩ := q5.all
    clear q5 HQ HB4 HS4 HA4 hb5
    go_wp2_with fail
    refine (vbegin_ok v ow (freshN M ow [v.tail]) w5 HA5.out hroom (fun j => Nat.le_trans (HR.out j) (by decide))).mono ?_
    rintro e w6 ⟨rfl, hs6⟩
    have nF : ∀ z, w.heap.size ≤ z → ¬ F z := fun z hz hf' => by have := HF.out z hf'; omega
    have q5 := Q5.out.kp hs6.kp (nF _ HZ.out.1.1)
    have Q56 := Lib.hid q5
    have Q66 := Lib.hid (Q6.out.kp hs6.kp (nF _ HZ.out.2.1.1))
    have Q86 := Lib.hid (Q8.out.kp hs6.kp (nF _ HZ.out.2.2.1))
    have HS6 := Lib.hid hs6
    clear c0 c1 c2 hs6 Q5 Q6 Q8
    obtain ⟨c0, c1, c2, _⟩ := q5.all
    have HT := Lib.hid (show (contC M v.tail).kids = [] ∧ (contC M v.tail).vals.length ≤ 32 from by
      by_cases hl : l = []
      · rw [(HV.out.nil hl).2]
        unfold contC
        rw [HA5.out.zero]
        exact ⟨rfl, Nat.zero_le _⟩
      · obtain ⟨ct, r, hM, hvs, hks⟩ := HV.out.tl hl
        unfold contC
        rw [hM]
        exact ⟨hks, by show ct.vals.length ≤ 32; rw [hvs, chunk_length]; omega⟩)
    have nF' : ∀ z, w.heap.size ≤ z → z < w5.heap.size → ¬ Fn F w5 w6 z := fun z hz hz5 => by
      rintro (e | e)
      · exact nF z hz e
      · omega
    have NF := Lib.hid nF'
    have hch := chg_val x zx w6 Q66.out (nF' _ HZ.out.2.1.1 HZ.out.2.1.2) (contC (begun M v ow) v.tail) (by rw [begun_cont]; have := HT.out.2; omega)
    have hrm : aloneB (begun M v ow) v.tail ow = false → live (most + 1) (begun M v ow) < most := fun e => by
      rw [begun_alone] at e
      rw [begun_live]
      have h1 : freshN M ow [v.tail] = 1 := by
        show (if aloneB M v.tail ow = true then freshN M ow [] else ([] : List Nat).length + 1) = 1
        rw [if_neg (by rw [e]; simp)]
        rfl
      omega
    have hrr : ∀ j, rf (begun M v ow j) + (contC (begun M v ow) v.tail).kids.length ≤ 4611686018427387900 := fun j => by
      rw [begun_cont, HT.out.1]
      have h1 := begun_rf (M := M) (v := v) (ow := ow) (j := j)
      have h2 := HR.out j
      simp only [List.length_nil]
      omega
    have hren0 := vrenew 46 (.pointer (some ⟨zx, 0, none⟩)) (fun c => { c with vals := c.vals ++ [x] }) v.tail ow w6 HS6.out.ar hf hch hrm hrr (by rw [begun_cont, HT.out.1]; exact Nat.zero_le _) (by rw [begun_cont]; show ((contC M v.tail).vals ++ [x]).length ≤ 4194304; rw [List.length_append]; have := HT.out.2; simp only [List.length_singleton]; omega) (by rw [begun_cont]; show (contC M v.tail).kids.length ≤ 4194304; rw [HT.out.1]; exact Nat.zero_le _) (by rw [begun_cont]; show (ns (contC M v.tail).kids).all _ = true; rw [HT.out.1]; rfl)
    rw [begun_cont] at hren0
    have HRN := Lib.hid hren0
    clear nF nF' hch hrm hrr hren0 q5
    go_wp2_with fail
    refine HRN.out.mono ?_
    rintro e w7 ⟨n, M', rfl, hren, hs7⟩
    have q5 := Q56.out.kp hs7.kp (NF.out _ HZ.out.1.1 HZ.out.1.2)
    have q8 := Q86.out.kp hs7.kp (NF.out _ HZ.out.2.2.1 HZ.out.2.2.2)
    have HREN := Lib.hid hren
    have HS7 := Lib.hid (HS6.out.trans hs7)
    clear c0 c1 c2 hren hs7 HRN NF Q56 Q66 Q86 HS6 HT HA5
    obtain ⟨c0, c1, c2, f0, f1, f2⟩ := q5.all
    obtain ⟨d0, d1, d2, g0, g1, g2⟩ := q8.all
    clear q5 q8
    go_wp2_with fail
    refine bodyPost_ret (v := .tuple #[vagg ⟨v.n + 1, v.root, n⟩, .int .i64 0]) (by simp [results, Try.results14, go_sem, d0, d1, d2]) rfl ⟨n, M', rfl, HREN.out, HS7.out.close HF.out HB5.out (G := fun g => g = zv ∨ g = zr) ?_ (fun g e => e.elim (fun e => e ▸ HZ.out.1) (fun e => e ▸ HZ.out.2.2))⟩
    exact (((((Kp.refl (fun g => g = zv ∨ g = zr) w7).setCell (.inl (.inl rfl)) _).setCell (.inl (.inl rfl)) _).setCell (.inl (.inr rfl)) _).setCell (.inl (.inr rfl)) _).setCell (.inl (.inr rfl)) _
/-- From w the call has come to w': the arena holds M in F', which is of F or new; of what was there only F has changed. -/
structure Rn (w w' : World) (b most : Nat) (M' : Cells) (F F' : Nat → Prop) : Prop where
  ar : Ar w' b most M' F'
  kp : Kp F w w'
  sub : ∀ x, F' x → F x ∨ w.heap.size ≤ x
section
variable {M' M'' : Cells} {w w' w'' : World} {F' : Nat → Prop}
theorem Rn.below (h : Ar w b most M F) (hb : Below w.heap.size w w') : Rn w w' b most M F F := ⟨h.below hb, Kp.of_below hb F, fun _ => .inl⟩
theorem Rn.stp (h : Rn w w' b most M' F F') (k : Stp w' w'' b most M'' F') : Rn w w'' b most M'' F (Fn F' w' w'') :=
  ⟨k.ar, h.kp.trans k.kp h.sub, fun x hx => by
    rcases hx with hx | hx
    · exact h.sub x hx
    · exact .inr (Nat.le_trans h.kp.size hx.1)⟩
theorem Rn.mine {G : Nat → Prop} (h : Rn w w' b most M' F F') (hk : Kp G w' w'') (hG : ∀ g, G g → w.heap.size ≤ g ∧ ¬ F' g) : Rn w w'' b most M' F F' :=
  ⟨h.ar.kp hk (fun x hx hg => (hG x hg).2 hx), h.kp.trans hk (fun g hg => .inr (hG g hg).1), h.sub⟩
theorem Rn.fin (h : Rn w w' b most M' F F') (hF : ∀ x, F x → x < w.heap.size) : Stp w w' b most M' F :=
  ⟨h.ar.mono (fun x hx => (h.sub x hx).imp id (fun hx' => ⟨hx', h.ar.lt hx⟩)) (fun x hx => hx.elim (fun hx => Nat.lt_of_lt_of_le (hF x hx) h.kp.size) (fun hx => hx.2)), h.kp⟩
end

theorem sumTo_mono {f g : Nat → Nat} (h : ∀ j, f j ≤ g j) : ∀ n, sumTo n f ≤ sumTo n g
  | 0 => Nat.le_refl _
  | n + 1 => by simp only [sumTo]; exact Nat.add_le_add (sumTo_mono h n) (h n)
theorem release_live {N : Nat} (x : Nat) : live N (release M x).1 ≤ live N M := by
  unfold live
  have key : ∀ j, one ((release M x).1 j) ≤ one (M j) := fun j => by
    cases e : M j with
    | none =>
      have h1 : (release M x).1 j = none := by
        have h2 := release_rf (M := M) x j
        unfold release
        cases hM : M x with
        | none => exact e
        | some y =>
          obtain ⟨c, r⟩ := y
          by_cases e' : j = x
          · subst e'; rw [e] at hM; cases hM
          · show (if 1 < r then (upd M x (some (c, r - 1)), []) else (upd M x none, c.kids)).1 j = none
            split
            · show upd M x (some (c, r - 1)) j = none; rw [upd_other _ _ e']; exact e
            · show upd M x none j = none; rw [upd_other _ _ e']; exact e
      rw [h1]; exact Nat.le_refl _
    | some y =>
      cases (release M x).1 j with
      | none => exact Nat.zero_le _
      | some z => exact Nat.le_refl _
  exact sumTo_mono key N
theorem drops_live {N : Nat} {M' : Cells} {t : List Nat} (h : Drops M t M') : live N M' ≤ live N M := by
  induction h with
  | done M => exact Nat.le_refl _
  | step _ ih => exact Nat.le_trans ih (release_live _)
/-- How many cells renew makes, and how often a cell is held then. -/
theorem Renewed.live_le {i n : Nat} {ow : Int} {c : Hc} {M' : Cells} (h : Renewed M i ow c most n M') : live (most + 1) M' ≤ live (most + 1) M + (if aloneB M i ow = true then 0 else 1) := by
  unfold Renewed at h
  split at h
  · rename_i hal
    obtain ⟨rfl, rfl⟩ := h
    rw [if_pos hal]
    have h2 : M n ≠ none := by
      unfold aloneB at hal
      intro e
      rw [e] at hal
      simp at hal
    by_cases hlt : n < most + 1
    · have h1 := live_upd (M := M) (N := most + 1) n (some ({ c with owner := ow }, 1)) hlt
      cases e : M n with
      | none => exact absurd e h2
      | some y => rw [e] at h1; simp only [one] at h1; omega
    · have : live (most + 1) (upd M n (some ({ c with owner := ow }, 1))) = live (most + 1) M := sumTo_congr _ fun j hj => by rw [upd_other _ _ (by omega)]
      omega
  · rename_i hal
    obtain ⟨n1, n2, n3, hd⟩ := h
    rw [if_neg hal]
    have h0 := drops_live (N := most + 1) hd
    have h1 := live_upd (M := keepAll M (contC M i).kids) (N := most + 1) n (some ({ c with owner := ow }, 1)) (by omega)
    have h3 : keepAll M (contC M i).kids n = none := keepAll_none.2 n3
    rw [h3] at h1
    simp only [one] at h1
    rw [keepAll_live] at h1
    omega
theorem Renewed.rf_le {i n : Nat} {ow : Int} {c : Hc} {M' : Cells} (h : Renewed M i ow c most n M') (j : Nat) : rf (M' j) ≤ rf (M j) + (contC M i).kids.length + 1 := by
  unfold Renewed at h
  split at h
  · obtain ⟨rfl, rfl⟩ := h
    by_cases e : j = n
    · subst e; rw [upd_same]; show 1 ≤ _; omega
    · rw [upd_other _ _ e]; omega
  · obtain ⟨n1, n2, n3, hd⟩ := h
    refine Nat.le_trans (drops_rf hd j) ?_
    by_cases e : j = n
    · subst e; rw [upd_same]; show 1 ≤ _; omega
    · rw [upd_other _ _ e]
      have := keepAll_rf (j := j) (l := (contC M i).kids) (M := M)
      omega

set_option maxRecDepth 100000 in
set_option maxHeartbeats 1600000 in
/-- One value more, where the tail is full: it becomes a leaf. -/
theorem vPush_full (v : Vc) (l : Vs) (x : Int × Int × ByteArray) (ow : Int) (w : World) (h : Ar w b most M F) (hv : VecIs M v l) (hlt : l.length < 1024) (hnf : 0 < l.length ∧ l.length % 32 = 0) (hroom : live (most + 1) M + (freshN M ow [v.root] + 1) ≤ most) (hr : ∀ j, rf (M j) ≤ 4611686018420000000) (hf : ∀ (args : Array Value) (W : World), (callFunc 46 args).run Try.prog W = .ok (.enter 46 args) W) (hf1 : ∀ (args : Array Value) (W : World), (callFunc 45 args).run Try.prog W = .ok (.enter 45 args) W) :
    Calls Try.prog 14 #[ap b, vagg v, xagg x, .int .u32 ow] w fun e w' => ∃ r n M1 M', e = .returned (.tuple #[vagg ⟨v.n + 1, r, n⟩, .int .i64 0]) ∧ Renewed (begun M v ow) v.root ow { contC M v.root with kids := (contC M v.root).kids ++ [v.tail] } most r M1 ∧ Renewed M1 0 ow ⟨0, 0, 0, [x], []⟩ most n M' ∧ Stp w w' b most M' F := by
  have HF := Lib.hid (show ∀ q, F q → q < w.heap.size from fun q hq => h.lt hq)
  have HA := Lib.hid h
  have HV := Lib.hid hv
  have HR := Lib.hid hr
  have hn0 : ¬ (1024 : Int) ≤ (v.n : Int) := by have := hv.n; omega
  have hn2 : v.n < 1024 := by have := hv.n; omega
  have hnf' := Lib.hid (show 0 < v.n ∧ v.n % 32 = 0 by have := hv.n; omega)
  have hsl := Lib.hid (show ∀ W, Calls Try.prog 41 #[.int .i64 (v.n : Int)] W fun e w' => e = .returned (.int .i64 ((v.n % 32 : Nat) : Int)) ∧ W = w' from fun W => vslot v.n W (by omega))
  have q5 := (((C3.new w 30 (.int .i64 (v.n : Int)) (.int .i64 (v.root : Int)) (.int .i64 (v.tail : Int))).alloc (.cells #[.int .u8 x.1, .int .i64 x.2.1, .string x.2.2] 38)).alloc (.cells #[.int .i64 0, .int .i64 0, .int .i64 0] 30)).alloc (.cells #[.int .i64 (v.tail : Int)] 3)
  have q6 := ((C3.new (w.alloc (.cells #[.int .i64 (v.n : Int), .int .i64 (v.root : Int), .int .i64 (v.tail : Int)] 30)) 38 (.int .u8 x.1) (.int .i64 x.2.1) (.string x.2.2)).alloc (.cells #[.int .i64 0, .int .i64 0, .int .i64 0] 30)).alloc (.cells #[.int .i64 (v.tail : Int)] 3)
  have q8 := (C3.new ((w.alloc (.cells #[.int .i64 (v.n : Int), .int .i64 (v.root : Int), .int .i64 (v.tail : Int)] 30)).alloc (.cells #[.int .u8 x.1, .int .i64 x.2.1, .string x.2.2] 38)) 30 (.int .i64 0) (.int .i64 0) (.int .i64 0)).alloc (.cells #[.int .i64 (v.tail : Int)] 3)
  have hlit := Rd.one' (((w.alloc (.cells #[.int .i64 (v.n : Int), .int .i64 (v.root : Int), .int .i64 (v.tail : Int)] 30)).alloc (.cells #[.int .u8 x.1, .int .i64 x.2.1, .string x.2.2] 38)).alloc (.cells #[.int .i64 0, .int .i64 0, .int .i64 0] 30)) (.int .i64 (v.tail : Int)) 3 (w.heap.size + 1 + 1 + 1) (by simp)
  have e1 : (w.alloc (.cells #[.int .i64 (v.n : Int), .int .i64 (v.root : Int), .int .i64 (v.tail : Int)] 30)).heap.size = w.heap.size + 1 := by simp
  have e2 : ((w.alloc (.cells #[.int .i64 (v.n : Int), .int .i64 (v.root : Int), .int .i64 (v.tail : Int)] 30)).alloc (.cells #[.int .u8 x.1, .int .i64 x.2.1, .string x.2.2] 38)).heap.size = w.heap.size + 1 + 1 := by simp
  rw [e1] at q6
  rw [e2] at q8
  have hb4 : Below w.heap.size w ((((w.alloc (.cells #[.int .i64 (v.n : Int), .int .i64 (v.root : Int), .int .i64 (v.tail : Int)] 30)).alloc (.cells #[.int .u8 x.1, .int .i64 x.2.1, .string x.2.2] 38)).alloc (.cells #[.int .i64 0, .int .i64 0, .int .i64 0] 30)).alloc (.cells #[.int .i64 (v.tail : Int)] 3)) := ((((Below.refl _ w).alloc (Nat.le_refl _) _).alloc (by simp) _).alloc (by simp; omega) _).alloc (by simp; omega) _
  have hs4 : ((((w.alloc (.cells #[.int .i64 (v.n : Int), .int .i64 (v.root : Int), .int .i64 (v.tail : Int)] 30)).alloc (.cells #[.int .u8 x.1, .int .i64 x.2.1, .string x.2.2] 38)).alloc (.cells #[.int .i64 0, .int .i64 0, .int .i64 0] 30)).alloc (.cells #[.int .i64 (v.tail : Int)] 3)).heap.size = w.heap.size + 1 + 1 + 1 + 1 := by simp
  have HQ := Lib.hid (And.intro q5 (And.intro q6 (And.intro q8 hlit)))
  have HB4 := Lib.hid hb4
  have HS4 := Lib.hid hs4
  have HA4 := Lib.hid (h.below hb4)
  clear h hv hr q5 q6 q8 hlit e1 e2 hb4 hs4 HA
  have hz' : (0 : Int) < (v.n : Int) := by have := hnf'.out; omega
  rw [hnf'.out.2] at hsl
  go_enter Try.func14, Try.ntmps14
  go_wp2_with (go_at_call 41; refine (hsl.out _).mono ?_; rintro e w' ⟨rfl, rfl⟩)
  generalize (((w.alloc (.cells #[.int .i64 (v.n : Int), .int .i64 (v.root : Int), .int .i64 (v.tail : Int)] 30)).alloc (.cells #[.int .u8 x.1, .int .i64 x.2.1, .string x.2.2] 38)).alloc (.cells #[.int .i64 0, .int .i64 0, .int .i64 0] 30)).alloc (.cells #[.int .i64 (v.tail : Int)] 3) = w4 at HQ HB4 HS4 HA4 ⊢
  refine (vfresh ow [v.tail] _ w4 HA4.out HQ.out.2.2.2 (by show 1 ≤ 4194304; decide)).mono ?_
  rintro e w5 ⟨rfl, hb5⟩
  obtain ⟨zr, hzr⟩ : ∃ z, z = w.heap.size + 1 + 1 := ⟨_, rfl⟩
  rw [← hzr] at HQ ⊢
  obtain ⟨zx, hzx⟩ : ∃ z, z = w.heap.size + 1 := ⟨_, rfl⟩
  rw [← hzx] at HQ ⊢
  obtain ⟨zv, hzv⟩ : ∃ z, z = w.heap.size := ⟨_, rfl⟩
  rw [← hzv] at HQ ⊢
  have hs5 := hb5.size
  have HZ := Lib.hid (show (w.heap.size ≤ zv ∧ zv < w5.heap.size) ∧ (w.heap.size ≤ zx ∧ zx < w5.heap.size) ∧ (w.heap.size ≤ zr ∧ zr < w5.heap.size) from by have := HS4.out; omega)
  have nvr : ¬ zv = zr := by omega
  have nrv : ¬ zr = zv := by omega
  have NXV := Lib.hid (show zx ≠ zv ∧ zr ≠ zv from by omega)
  clear hzr hzx hzv hs5
  have HB5 := Lib.hid (HB4.out.trans (hb5.mono HB4.out.size))
  have HA5 := Lib.hid (HA4.out.below hb5)
  have q5 := HQ.out.1.below hb5
  have Q5 := Lib.hid q5
  have Q6 := Lib.hid (HQ.out.2.1.below hb5)
  have Q8 := Lib.hid (HQ.out.2.2.1.below hb5)
  obtain ⟨c0, c1, c2, _⟩ := q5.all
  clear q5 HQ HB4 HS4 HA4 hb5
  have hb5' : Below w5.heap.size w5 (w5.alloc (.cells #[.int .i64 (v.root : Int)] 3)) := (Below.refl _ w5).alloc (Nat.le_refl _) _
  have hlit2 := Lib.hid (Rd.one' w5 (.int .i64 (v.root : Int)) 3 w5.heap.size rfl)
  have HA5' := Lib.hid (HA5.out.below hb5')
  go_wp2_with fail
  refine (vfresh ow [v.root] _ _ HA5'.out hlit2.out (by show 1 ≤ 4194304; decide)).mono ?_
  rintro e w5b ⟨rfl, hb5b⟩
  have hbb : Below w5.heap.size w5 w5b := hb5'.trans (hb5b.mono hb5'.size)
  have HB5b := Lib.hid (HB5.out.trans (hbb.mono HB5.out.size))
  have HA5b := Lib.hid (HA5.out.below hbb)
  have q5 := Q5.out.below hbb
  have Q5b := Lib.hid q5
  have Q6b := Lib.hid (Q6.out.below hbb)
  have Q8b := Lib.hid (Q8.out.below hbb)
  have hsb := hbb.size
  have HZb := Lib.hid (show (w.heap.size ≤ zv ∧ zv < w5b.heap.size) ∧ (w.heap.size ≤ zx ∧ zx < w5b.heap.size) ∧ (w.heap.size ≤ zr ∧ zr < w5b.heap.size) from by have := HZ.out; omega)
  clear c0 c1 c2 hb5' hlit2 HA5' hb5b hbb Q5 Q6 Q8 HB5 HA5 HZ hsb
  obtain ⟨c0, c1, c2, _⟩ := q5.all
  clear q5
  have hbg := vbegin_ok v ow (freshN M ow [v.root] + 1) w5b HA5b.out hroom (fun j => Nat.le_trans (HR.out j) (by decide))
  rw [show ((freshN M ow [v.root] + 1 : Nat) : Int) = (freshN M ow [v.root] : Int) + 1 by omega] at hbg
  have HBG := Lib.hid hbg
  have hfr : freshN M ow [v.root] ≤ 1 := freshN_le M ow [v.root]
  clear hbg
  go_wp2_with fail
  refine HBG.out.mono ?_
  rintro e w6 ⟨rfl, hs6⟩
  have nF : ∀ z, w.heap.size ≤ z → ¬ F z := fun z hz hf' => by have := HF.out z hf'; omega
  have q5 := Q5b.out.kp hs6.kp (nF _ HZb.out.1.1)
  have Q56 := Lib.hid q5
  have Q66 := Lib.hid (Q6b.out.kp hs6.kp (nF _ HZb.out.2.1.1))
  have Q86 := Lib.hid (Q8b.out.kp hs6.kp (nF _ HZb.out.2.2.1))
  have NF := Lib.hid (show ∀ z, w.heap.size ≤ z → z < w5b.heap.size → ¬ Fn F w5b w6 z from fun z hz hz5 => by
    rintro (e | e)
    · exact nF z hz e
    · omega)
  have hs65 := hs6.kp.size
  have R6 := Lib.hid ((Rn.mk HA5b.out (Kp.of_below HB5b.out F) (fun _ => .inl) : Rn w w5b b most M F F).stp hs6)
  have HS6 := Lib.hid (show w5b.heap.size ≤ w6.heap.size from hs65)
  clear c0 c1 c2 hs6 hs65 Q5b Q6b Q8b nF HBG
  obtain ⟨c0, c1, c2, f0, f1, f2⟩ := q5.all
  have hzl : zv < w6.heap.size := q5.lt
  clear q5
  have hw5 := HB5b.out.size
  have hbx : ((w6.setCell ⟨zv, 2, none⟩ (.int .i64 0)).alloc (.cells #[.int .i64 (v.tail : Int)] 3)).cell? ⟨w6.heap.size, 0, none⟩ = some (.int .i64 (v.tail : Int)) := by
    have e := heap_alloc_new (w6.setCell ⟨zv, 2, none⟩ (.int .i64 0)) (.cells #[.int .i64 (v.tail : Int)] 3)
    rw [show (w6.setCell ⟨zv, 2, none⟩ (.int .i64 0)).heap.size = w6.heap.size by simp] at e
    simpa using cell_of_row _ _ 0 _ _ (0, 0) e
  have hkq : Kp (fun g => g = zv) w6 ((w6.setCell ⟨zv, 2, none⟩ (.int .i64 0)).alloc (.cells #[.int .i64 (v.tail : Int)] 3)) := ((Kp.refl (fun g => g = zv) w6).setCell (.inl rfl) _).alloc _
  have HBX := Lib.hid hbx
  have HSW := Lib.hid (show ((w6.setCell ⟨zv, 2, none⟩ (.int .i64 0)).alloc (.cells #[.int .i64 (v.tail : Int)] 3)).heap.size = w6.heap.size + 1 from by simp)
  have R6w := Lib.hid (R6.out.mine hkq (fun g e => e ▸ ⟨HZb.out.1.1, NF.out _ HZb.out.1.1 HZb.out.1.2⟩))
  have Q5w := Lib.hid ((Q56.out.set2 (.int .i64 0)).alloc (.cells #[.int .i64 (v.tail : Int)] 3))
  have Q6w := Lib.hid ((Q66.out.other NXV.out.1 (o := 2) (.int .i64 0)).alloc (.cells #[.int .i64 (v.tail : Int)] 3))
  have Q8w := Lib.hid ((Q86.out.other NXV.out.2 (o := 2) (.int .i64 0)).alloc (.cells #[.int .i64 (v.tail : Int)] 3))
  have HT := Lib.hid (show (contC M v.root).kids.length ≤ 31 ∧ (contC M v.root).vals = [] ∧ (ns ((contC M v.root).kids ++ [v.tail])).all (goodB M) = true from by
    have gd : ∀ x vs, Leaf M x vs → goodB M (x : Int) = true := fun x vs hx => by
      obtain ⟨c, r, e, _⟩ := hx
      have : ¬ x = 0 := fun e0 => by subst e0; rw [HA5b.out.zero] at e; cases e
      unfold goodB
      rw [Int.toNat_natCast, e]
      simp
      omega
    have gt := gd _ _ (HV.out.tl (by rintro rfl; simp at hnf))
    by_cases h32 : l.length ≤ 32
    · have e : contC M v.root = ⟨0, 0, 0, [], []⟩ := by rw [HV.out.r0 h32]; unfold contC; rw [HA5b.out.zero]
      rw [e]
      refine ⟨by decide, rfl, ?_⟩
      simp [ns, gt]
    · obtain ⟨ct, r, hM, hvs, hks, hkk⟩ := HV.out.rt (by omega)
      have e : contC M v.root = ct := by unfold contC; rw [hM]
      rw [e]
      refine ⟨by rw [hks]; omega, hvs, ?_⟩
      rw [List.all_eq_true]
      intro y hy
      simp only [ns, List.mem_map, List.mem_append, List.mem_singleton] at hy
      obtain ⟨k, hk | rfl, rfl⟩ := hy
      · obtain ⟨j, hj⟩ := List.mem_iff_getElem?.1 hk
        exact gd _ _ (hkk j k hj)
      · exact gt)
  clear hbx hkq Q56 Q66 Q86 R6
  have nF6 : ¬ Fn F w5b w6 w6.heap.size := by
    rintro (e | e)
    · have := HF.out _ e; have := HS6.out; omega
    · omega
  have NF6 := Lib.hid nF6
  go_wp2_with fail
  generalize (w6.setCell ⟨zv, 2, none⟩ (.int .i64 0)).alloc (.cells #[.int .i64 (v.tail : Int)] 3) = w6w at HBX HSW R6w Q5w Q6w Q8w ⊢
  have hch := chg_kid v.tail w6.heap.size w6w HBX.out NF6.out (contC (begun M v ow) v.root) (by rw [begun_cont]; have := HT.out.1; omega)
  have hrm : aloneB (begun M v ow) v.root ow = false → live (most + 1) (begun M v ow) < most := fun e => by
    rw [begun_live]
    omega
  have hrr : ∀ j, rf (begun M v ow j) + (contC (begun M v ow) v.root).kids.length ≤ 4611686018427387900 := fun j => by
    rw [begun_cont]
    have h0 := HT.out.1
    have h1 := begun_rf (M := M) (v := v) (ow := ow) (j := j)
    have h2 := HR.out j
    omega
  have hren0 := vrenew 45 (.pointer (some ⟨w6.heap.size, 0, none⟩)) (fun c => { c with kids := c.kids ++ [v.tail] }) v.root ow w6w R6w.out.ar hf1 hch hrm hrr (by rw [begun_cont]; have := HT.out.1; omega) (by rw [begun_cont]; show (contC M v.root).vals.length ≤ 4194304; rw [HT.out.2.1]; exact Nat.zero_le _) (by rw [begun_cont]; show ((contC M v.root).kids ++ [v.tail]).length ≤ 4194304; rw [List.length_append]; have := HT.out.1; simp only [List.length_singleton]; omega) (by
      rw [begun_cont]
      show (ns ((contC M v.root).kids ++ [v.tail])).all (goodB (begun M v ow)) = true
      rw [show goodB (begun M v ow) = goodB M from funext fun y => begun_good y]
      exact HT.out.2.2)
  rw [begun_cont] at hren0
  have hal0 : live (most + 1) M + (if aloneB M v.root ow = true then 0 else 1) < most := by
    have h1 : freshN M ow [v.root] = if aloneB M v.root ow = true then 0 else 1 := rfl
    omega
  clear hrm hrr hch nF6
  refine hren0.mono ?_
  rintro e w7 ⟨r, M1, rfl, hren, hs7⟩
  have q5 := Q5w.out.kp hs7.kp (NF.out _ HZb.out.1.1 HZb.out.1.2)
  have Q57 := Lib.hid q5
  have Q67 := Lib.hid (Q6w.out.kp hs7.kp (NF.out _ HZb.out.2.1.1 HZb.out.2.1.2))
  have Q87 := Lib.hid (Q8w.out.kp hs7.kp (NF.out _ HZb.out.2.2.1 HZb.out.2.2.2))
  have NF7 := Lib.hid (show ∀ z, w.heap.size ≤ z → z < w5b.heap.size → ¬ Fn (Fn F w5b w6) w6w w7 z from fun z hz hz5 => by
    rintro (e | e)
    · exact NF.out z hz hz5 e
    · have := HSW.out; have := HS6.out; omega)
  have R7 := Lib.hid (R6w.out.stp hs7)
  have HREN := Lib.hid hren
  have HSZ := Lib.hid (show w6w.heap.size ≤ w7.heap.size from hs7.kp.size)
  clear c0 c1 c2 f0 f1 f2 hren0 hren hs7 Q5w Q6w Q8w R6w HBX
  obtain ⟨c0, c1, c2, f0, f1, f2⟩ := q5.all
  clear q5
  have Q5x := Lib.hid (Q57.out.set1 (.int .i64 (r : Int)))
  have Q6x := Lib.hid (Q67.out.other NXV.out.1 (o := 1) (.int .i64 (r : Int)))
  have Q8x := Lib.hid (Q87.out.other NXV.out.2 (o := 1) (.int .i64 (r : Int)))
  have R7x := Lib.hid (R7.out.mine (Kp.one w7 zv 1 (.int .i64 (r : Int))) (fun g e => e ▸ ⟨HZb.out.1.1, NF7.out _ HZb.out.1.1 HZb.out.1.2⟩))
  have HSX := Lib.hid (show w7.heap.size = (w7.setCell ⟨zv, 1, none⟩ (.int .i64 (r : Int))).heap.size from by simp)
  clear Q57 Q67 Q87 R7
  go_wp2_with fail
  generalize w7.setCell ⟨zv, 1, none⟩ (.int .i64 (r : Int)) = w7x at Q5x Q6x Q8x R7x HSX ⊢
  have hz0 : contC M1 0 = ⟨0, 0, 0, [], []⟩ := by unfold contC; rw [R7x.out.ar.zero]
  have hch := chg_val x zx w7x Q6x.out (NF7.out _ HZb.out.2.1.1 HZb.out.2.1.2) (contC M1 0) (by rw [hz0]; exact Nat.zero_le _)
  have hrm : aloneB M1 0 ow = false → live (most + 1) M1 < most := fun _ => by
    have h1 := HREN.out.live_le
    rw [begun_live, begun_alone] at h1
    omega
  have hrr : ∀ j, rf (M1 j) + (contC M1 0).kids.length ≤ 4611686018427387900 := fun j => by
    rw [hz0]
    have h1 := HREN.out.rf_le j
    rw [begun_cont] at h1
    have h0 := HT.out.1
    have h3 := begun_rf (M := M) (v := v) (ow := ow) (j := j)
    have h2 := HR.out j
    simp only [List.length_nil]
    omega
  have hren1 := vrenew 46 (.pointer (some ⟨zx, 0, none⟩)) (fun c => { c with vals := c.vals ++ [x] }) 0 ow w7x R7x.out.ar hf hch hrm hrr (by rw [hz0]; exact Nat.zero_le _) (by rw [hz0]; show 1 ≤ 4194304; decide) (by rw [hz0]; exact Nat.zero_le _) (by rw [hz0]; rfl)
  rw [hz0] at hren1
  clear hch hrm hrr hz0
  refine hren1.mono ?_
  rintro e w8 ⟨n, M', rfl, hre2, hs8⟩
  have q5 := Q5x.out.kp hs8.kp (NF7.out _ HZb.out.1.1 HZb.out.1.2)
  have q8 := Q8x.out.kp hs8.kp (NF7.out _ HZb.out.2.2.1 HZb.out.2.2.2)
  have NF8 := Lib.hid (show ∀ z, w.heap.size ≤ z → z < w5b.heap.size → ¬ Fn (Fn (Fn F w5b w6) w6w w7) w7x w8 z from fun z hz hz5 => by
    rintro (e | e)
    · exact NF7.out z hz hz5 e
    · have := HSW.out; have := HS6.out; have := HSX.out; have := HSZ.out; omega)
  have R8 := Lib.hid (R7x.out.stp hs8)
  have HRE2 := Lib.hid hre2
  clear c0 c1 c2 f0 f1 f2 hren1 hre2 hs8 Q5x Q6x Q8x R7x
  obtain ⟨c0, c1, c2, f0, f1, f2⟩ := q5.all
  obtain ⟨d0, d1, d2, g0, g1, g2⟩ := q8.all
  clear q5 q8
  go_wp2_with fail
  refine bodyPost_ret (v := .tuple #[vagg ⟨v.n + 1, r, n⟩, .int .i64 0]) (by simp [results, Try.results14, go_sem, d0, d1, d2]) rfl ⟨r, n, M1, M', rfl, HREN.out, HRE2.out, (R8.out.mine (G := fun g => g = zv ∨ g = zr) ?_ (fun g e => e.elim (fun e => e ▸ ⟨HZb.out.1.1, NF8.out _ HZb.out.1.1 HZb.out.1.2⟩) (fun e => e ▸ ⟨HZb.out.2.2.1, NF8.out _ HZb.out.2.2.1 HZb.out.2.2.2⟩))).fin HF.out⟩
  exact (((((Kp.refl (fun g => g = zv ∨ g = zr) w8).setCell (.inl (.inl rfl)) _).setCell (.inl (.inl rfl)) _).setCell (.inl (.inr rfl)) _).setCell (.inl (.inr rfl)) _).setCell (.inl (.inr rfl)) _
end

end Go.Proofs.Ytgkhbnkbhcginaa
