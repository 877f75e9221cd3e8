/- Layer 6's law: within one act: the vectors, the arena's box and the act's. slices.Clone of values. Layer 6's law: a region that copies, lays a value, appends it and boxes what comes of it, in whatever order: what it has come to. -/
import Derived.Test.YtgkhbnkbhcginaaGrow06
import Derived.Test.YtgkhbnkbhcginaaChange06
import Derived.Test.YtgkhbnkbhcginaaFits06
import Derived.Test.YtgkhbnkbhcginaaApart04
import Derived.Test.YtgkhbnkbhcginaaBoxes
namespace Go.Proofs.Ytgkhbnkbhcginaa
open Go.RowKit

theorem sumN_take_le (l : List Ac) (j : Nat) : sumN (l.take j) ≤ sumN l := by
  induction l generalizing j with
  | nil => simp
  | cons a l ih =>
    cases j with
    | zero => exact Nat.zero_le _
    | succ j =>
      have := ih j
      show pushN a + sumN (l.take j) ≤ pushN a + sumN l
      omega
theorem sumN_next {l : List Ac} {j : Nat} {a : Ac} (h : l[j]? = some a) : sumN (l.take (j + 1)) = sumN (l.take j) + pushN a := by
  rw [show l.take (j + 1) = l.take j ++ [a] by rw [List.take_add_one, h]; rfl, sumN_snoc]
theorem holds_bound {E : List En} {k : Nat} (hE : E.length ≤ 1000) (j : Nat) : (holds (E.eraseIdx k)).count j ≤ 576460752303423488 := by
  have h1 : (holds (E.eraseIdx k)).count j ≤ (holds (E.eraseIdx k)).length := List.count_le_length
  have h2 : (E.eraseIdx k).length ≤ E.length := List.length_eraseIdx_le _ _
  rw [holds_length] at h1
  omega
/-- A row of one's own that is not empty has a block. -/
theorem own_form1 {w : World} {base e size n : Nat} {v : Value} {xs : List Value} (h : w.ownsRow base e size v n xs) (hx : 0 < xs.length) : ∃ g c, v = .slice (some ⟨g, 0, none⟩) n c ∧ n ≤ c := by
  obtain ⟨g, c, e, hc, _⟩ := own_at h (j := 0) (List.getElem?_eq_getElem hx)
  exact ⟨g, c, e, hc⟩
theorem rd_lit3 (w : World) (x y z : Value) (t : TypeId) : Rd (w.alloc (.cells #[x, y, z] t)) (.slice (some ⟨w.heap.size, 0, none⟩) 1 1) 1 [x, y, z] :=
  .inr ⟨w.heap.size, 0, 1, rfl, Nat.le_refl _, fun j u hj => by
    have h3 := C3.new w t x y z
    match j, hj with
    | 0, hj => simp at hj; subst hj; exact h3.c0
    | 1, hj => simp at hj; subst hj; exact h3.c1
    | 2, hj => simp at hj; subst hj; exact h3.c2⟩
theorem rd_lit5 (w : World) (x y z u v : Value) (t : TypeId) : Rd (w.alloc (.cells #[x, y, z, u, v] t)) (.slice (some ⟨w.heap.size, 0, none⟩) 1 1) 1 [x, y, z, u, v] :=
  .inr ⟨w.heap.size, 0, 1, rfl, Nat.le_refl _, fun j u' hj => by
    have h5 := C5.new w t x y z u v
    match j, hj with
    | 0, hj => simp at hj; subst hj; exact h5.c0
    | 1, hj => simp at hj; subst hj; exact h5.c1
    | 2, hj => simp at hj; subst hj; exact h5.c2
    | 3, hj => simp at hj; subst hj; exact h5.c3
    | 4, hj => simp at hj; subst hj; exact h5.c4⟩

theorem below_thru {a b c : World} (h : Below a.heap.size a b) (k : Below b.heap.size b c) : Below a.heap.size a c := h.trans (k.mono h.size)
theorem below_row {a b c : World} {row : Option Nat} (h : Below a.heap.size a b) (k : b.grownBy c row) (hg : ∀ q, row = some q → a.heap.size ≤ q) : Below a.heap.size a c :=
  ⟨k.os.trans h.os, k.tape.trans h.tape, k.output.trans h.output, Nat.le_trans h.size k.size, fun i hi => (k.block i (Nat.lt_of_lt_of_le hi h.size) (fun e => by have := hg i e.symm; omega)).trans (h.block i hi)⟩

/-- The beginning of a slice of values. -/
theorem rd_pre {w : World} {A : Option Addr} {n c m : Nat} {l : Vs} (h : Rd w (.slice A n c) n (l.flatMap cells3)) (hl : l.length = n) (hm : m ≤ n) : Rd w (.slice A m m) (l.take m).length ((l.take m).flatMap cells3) := by
  have hlm : (l.take m).length = m := by rw [List.length_take]; omega
  rw [hlm]
  rcases h with ⟨e, h1, h2⟩ | ⟨b, o, c', e, hc, hcell⟩
  · simp only [Value.slice.injEq] at e
    obtain ⟨rfl, rfl, rfl⟩ := e
    obtain rfl : m = 0 := by omega
    exact .inl ⟨rfl, rfl, rfl⟩
  · simp only [Value.slice.injEq] at e
    obtain ⟨rfl, _, rfl⟩ := e
    refine .inr ⟨b, o, m, rfl, Nat.le_refl _, fun j u hu => hcell j u ?_⟩
    rw [← List.take_append_drop m l, List.flatMap_append, List.getElem?_append_left (List.getElem?_eq_some_iff.1 hu).1]
    exact hu
theorem own_pre (A : Option Addr) (n c m d : Nat) : (Value.slice A m d).ownBlock = (Value.slice A n c).ownBlock := by
  cases A with
  | none => rfl
  | some a => rfl

/-- Between two acts. -/
def Mid (w0 : World) (b za : Nat) (l : List Ac) (j : Nat) (s5 : Value) (wq : World) : Prop :=
  ∃ E M F g cp, s5 = .slice (some ⟨g, 0, none⟩) (List.length E) cp ∧ 1 ≤ E.length ∧ E.length ≤ 13 ∧ Wd w0 wq b M F s5 E ∧ live (65536 + 1) M ≤ 2 * sumN (l.take j) + 602 * j ∧ wq.cell? ⟨za, 0, none⟩ = some (ap b) ∧ ¬ F za ∧ za ≠ g ∧ w0.heap.size ≤ za

/-- Within one. -/
structure In6 (w0 W : World) (b za xb : Nat) (a : Ac) (g cp n B : Nat) (M : Cells) (F : Nat → Prop) (E : List En) : Prop where
  wd : Wd w0 W b M F (.slice (some ⟨g, 0, none⟩) E.length cp) E
  len : E.length = n
  lv : live (65536 + 1) M ≤ B
  ca : W.cell? ⟨za, 0, none⟩ = some (ap b)
  x0 : W.cell? ⟨xb, 0, none⟩ = some (.int .u8 a.kd)
  x2 : W.cell? ⟨xb, 2, none⟩ = some (.int .i64 a.n)
  x3 : W.cell? ⟨xb, 3, none⟩ = some (.int .u8 a.x.1)
  x4 : W.cell? ⟨xb, 4, none⟩ = some (.int .i64 a.x.2.1)
  x5 : W.cell? ⟨xb, 5, none⟩ = some (.string a.x.2.2)
  nF : ¬ F za ∧ za ≠ g ∧ ¬ F xb ∧ xb ≠ g
section
variable {w0 W W' : World} {b za xb g cp n B : Nat} {a : Ac} {M : Cells} {F : Nat → Prop} {E : List En}
theorem In6.below (h : In6 w0 W b za xb a g cp n B M F E) (hb : Below W.heap.size W W') : In6 w0 W' b za xb a g cp n B M F E := by
  have hz := World.block_lt_of_cell? W _ h.ca
  have hx := World.block_lt_of_cell? W _ h.x0
  exact ⟨h.wd.below hb, h.len, h.lv, (hb.cell (p := ⟨za, 0, none⟩) hz).trans h.ca, (hb.cell (p := ⟨xb, 0, none⟩) hx).trans h.x0, (hb.cell (p := ⟨xb, 2, none⟩) hx).trans h.x2, (hb.cell (p := ⟨xb, 3, none⟩) hx).trans h.x3, (hb.cell (p := ⟨xb, 4, none⟩) hx).trans h.x4, (hb.cell (p := ⟨xb, 5, none⟩) hx).trans h.x5, h.nF⟩
theorem In6.did {k : Nat} {e : En} {l2 : Vs} {s2 : Value} {want : Int} (h : In6 w0 W b za xb a g cp n B M F E) (hd : Did w0 W W' b M F (.slice (some ⟨g, 0, none⟩) n cp) E k g e l2 s2 want) :
    ∃ M' F' E', In6 w0 W' b za xb a g cp n (B + 2) M' F' E' := by
  obtain ⟨M', F', E', hw, hk, hF, hl, hE⟩ := hd.ex
  have hz := World.block_lt_of_cell? W _ h.ca
  have hx := World.block_lt_of_cell? W _ h.x0
  simp only at hz hx
  have hlen : E'.length = E.length := by
    by_cases hw0 : want = 0
    · rw [if_pos hw0] at hE
      obtain ⟨v', rfl⟩ := hE
      exact List.length_set
    · rw [if_neg hw0] at hE
      rw [hE]
  have nz : ¬ (F za ∨ za = g) := not_or.2 ⟨h.nF.1, h.nF.2.1⟩
  have nx : ¬ (F xb ∨ xb = g) := not_or.2 ⟨h.nF.2.2.1, h.nF.2.2.2⟩
  have hn : E'.length = n := hlen.trans h.len
  exact ⟨M', F', E', by rw [hn]; exact hw, hn, by have := h.lv; omega, hk.cell h.ca nz, hk.cell h.x0 nx, hk.cell h.x2 nx, hk.cell h.x3 nx, hk.cell h.x4 nx, hk.cell h.x5 nx, fun hf => (hF za hf).elim h.nF.1 (fun e => by omega), h.nF.2.1, fun hf => (hF xb hf).elim h.nF.2.2.1 (fun e => by omega), h.nF.2.2.2⟩
theorem In6.mid {l : List Ac} {j : Nat} (h : In6 w0 W b za xb a g cp n B M F E) (h1 : 1 ≤ n) (h2 : n ≤ 13) (hB : B ≤ 2 * sumN (l.take (j + 1)) + 602 * (j + 1)) (hz : w0.heap.size ≤ za) : Mid w0 b za l (j + 1) (.slice (some ⟨g, 0, none⟩) n cp) W := by
  have hn := h.len
  subst hn
  exact ⟨E, M, F, g, cp, rfl, h1, h2, h.wd, Nat.le_trans h.lv hB, h.ca, h.nF.1, h.nF.2.1, hz⟩
theorem Lone.rn {most : Nat} {M' : Cells} {F' : Nat → Prop} (h : Lone w0 W b most M F) (R : Rn W W' b most M' F F') : Lone w0 W' b most M' F' :=
  ⟨R.ar, below_kp h.bel R.kp h.new, fun q hq => (R.sub q hq).elim (h.new q) (fun e => Nat.le_trans h.bel.size e)⟩
theorem In6.free {k : Nat} {e : En} (h : In6 w0 W b za xb a g cp n B M F E) (hk : E[k]? = some e) : In6 w0 (W.setCell ⟨g, k * 5 + 4, none⟩ (.int .u32 0)) b za xb a g cp n B M F (E.set k ⟨e.v, e.l, e.s, 0⟩) := by
  have far : ∀ z o y, z ≠ g → W.cell? ⟨z, o, none⟩ = some y → (W.setCell ⟨g, k * 5 + 4, none⟩ (.int .u32 0)).cell? ⟨z, o, none⟩ = some y := fun z o y hz hy => (World.cell?_setCell_other _ _ _ _ (fun e => hz (by injection e with e1 _ _; exact e1.symm))).trans hy
  exact ⟨by rw [List.length_set]; exact h.wd.free hk, by rw [List.length_set]; exact h.len, h.lv, far _ _ _ h.nF.2.1 h.ca, far _ _ _ h.nF.2.2.2 h.x0, far _ _ _ h.nF.2.2.2 h.x2, far _ _ _ h.nF.2.2.2 h.x3, far _ _ _ h.nF.2.2.2 h.x4, far _ _ _ h.nF.2.2.2 h.x5, h.nF⟩
theorem In6.snoc {k g2 cp2 : Nat} {e : En} {W1 W2 : World} {M' : Cells} {F' : Nat → Prop} (h : In6 w0 W b za xb a g cp n B M F E) (hk : E[k]? = some e) (ow' : Int) (R : Rn W W1 b 65536 M' F F')
    (hbk : Bk (65536 + 1) M' [] (addP (addP (fun j => (holds (E.eraseIdx k)).count j) e.v.root) e.v.tail) [e.v.root, e.v.tail]) (hks : ∀ r, Pres M M' r) (hlv : live (65536 + 1) M' ≤ B)
    (hown : W2.ownsRow w0.heap.size 34 5 (.slice (some ⟨g2, 0, none⟩) (n + 1) cp2) (n + 1) ((E ++ [(⟨e.v, e.l, e.s, ow'⟩ : En)]).flatMap cells5)) (hg : W1.grownBy W2 (some g)) (hat : g2 = g ∨ g2 = W1.heap.size) :
    In6 w0 W2 b za xb a g2 cp2 (n + 1) B M' F' (E ++ [⟨e.v, e.l, e.s, ow'⟩]) := by
  have hn := h.len
  subst hn
  have hz := World.block_lt_of_cell? W _ h.ca
  have hx := World.block_lt_of_cell? W _ h.x0
  simp only at hz hx
  have kg : Kp (fun q => (some g : Option Nat) = some q) W1 W2 := Kp.of_grown hg (fun q hq => .inl hq)
  have far : ∀ z o y, z < W.heap.size → ¬ F z → z ≠ g → W.cell? ⟨z, o, none⟩ = some y → W2.cell? ⟨z, o, none⟩ = some y := fun z o y hl hF hz hy =>
    kg.cell (R.kp.cell hy hF) (fun e => hz (Option.some.inj e).symm)
  have hgs := R.kp.size
  have ne : ∀ z, z < W.heap.size → z ≠ g → z ≠ g2 := fun z hl hz e => by
    rcases hat with e' | e'
    · exact hz (e.trans e')
    · omega
  refine ⟨?_, by simp, hlv, far _ _ _ hz h.nF.1 h.nF.2.1 h.ca, far _ _ _ hx h.nF.2.2.1 h.nF.2.2.2 h.x0, far _ _ _ hx h.nF.2.2.1 h.nF.2.2.2 h.x2, far _ _ _ hx h.nF.2.2.1 h.nF.2.2.2 h.x3, far _ _ _ hx h.nF.2.2.1 h.nF.2.2.2 h.x4, far _ _ _ hx h.nF.2.2.1 h.nF.2.2.2 h.x5, fun hf => (R.sub za hf).elim h.nF.1 (fun e => by omega), ne _ hz h.nF.2.1, fun hf => (R.sub xb hf).elim h.nF.2.2.1 (fun e => by omega), ne _ hx h.nF.2.2.2⟩
  rw [List.length_append]
  exact h.wd.snoc hk ow' (h.wd.lone.rn R) R.sub R.kp hbk hks hown hg (hat.imp (fun e => by rw [e]; rfl) (fun e => by rw [e]; rfl))
theorem In6.erase {k : Nat} {e : En} {W1 W2 : World} {M' : Cells} {F' : Nat → Prop} (h : In6 w0 W b za xb a g cp n B M F E) (hk : E[k]? = some e) (R : Rn W W1 b 65536 M' F F')
    (hbk : Bk (65536 + 1) M' [] (fun j => (holds (E.eraseIdx k)).count j) []) (hks : Keeps (fun j => (holds (E.eraseIdx k)).count j) M M') (hlv : live (65536 + 1) M' ≤ B)
    (hown : W2.ownsRow w0.heap.size 34 5 (.slice (some ⟨g, 0, none⟩) (n - 1) cp) (n - 1) ((E.eraseIdx k).flatMap cells5)) (hg : Kp (fun q => q = g) W1 W2) :
    In6 w0 W2 b za xb a g cp (n - 1) B M' F' (E.eraseIdx k) := by
  have hn := h.len
  subst hn
  have hz := World.block_lt_of_cell? W _ h.ca
  have hx := World.block_lt_of_cell? W _ h.x0
  simp only at hz hx
  have far : ∀ z o y, ¬ F z → z ≠ g → W.cell? ⟨z, o, none⟩ = some y → W2.cell? ⟨z, o, none⟩ = some y := fun z o y hF hz hy => hg.cell (R.kp.cell hy hF) hz
  have hle : (E.eraseIdx k).length = E.length - 1 := List.length_eraseIdx_of_lt (List.getElem?_eq_some_iff.1 hk).1
  refine ⟨?_, hle, hlv, far _ _ _ h.nF.1 h.nF.2.1 h.ca, far _ _ _ h.nF.2.2.1 h.nF.2.2.2 h.x0, far _ _ _ h.nF.2.2.1 h.nF.2.2.2 h.x2, far _ _ _ h.nF.2.2.1 h.nF.2.2.2 h.x3, far _ _ _ h.nF.2.2.1 h.nF.2.2.2 h.x4, far _ _ _ h.nF.2.2.1 h.nF.2.2.2 h.x5, fun hf => (R.sub za hf).elim h.nF.1 (fun e => by omega), h.nF.2.1, fun hf => (R.sub xb hf).elim h.nF.2.2.1 (fun e => by omega), h.nF.2.2.2⟩
  rw [hle]
  exact h.wd.erase hk (h.wd.lone.rn R) R.sub R.kp hbk hks hown hg
theorem vchange_n {w : World} (k : Nat) (e : En) (l2 : Vs) (s2 : Value) (want : Int) (f : FuncId) (caps : Array Value) (hn : E.length = n) (h : Wd w0 w b M F (.slice (some ⟨g, 0, none⟩) E.length cp) E) (hk : E[k]? = some e) (hE : n ≤ 1000)
    (hfe : ∀ (args : Array Value) (W : World), (callFunc f args).run Try.prog W = .ok (.enter f args) W) (hs2 : Rd w s2 l2.length (l2.flatMap cells3)) (hf2 : ∀ q, s2.ownBlock = some q → ¬ F q ∧ q < w.heap.size ∧ q ≠ g)
    (hd : Does w b M F (fun j => (holds (E.eraseIdx k)).count j) e l2 want f caps) :
    Calls Try.prog 12 #[ap b, .slice (some ⟨g, 0, none⟩) n cp, .int .i64 k, .func (.func f) #[] caps, s2, .int .i64 want] w fun x w' => x = .returned (.tuple #[.slice (some ⟨g, 0, none⟩) n cp, .bool true]) ∧ Did w0 w w' b M F (.slice (some ⟨g, 0, none⟩) n cp) E k g e l2 s2 want := by
  subst hn
  exact vchange g cp k e l2 s2 want f caps w h hk hE hfe hs2 hf2 hd
end

end Go.Proofs.Ytgkhbnkbhcginaa

namespace Go.Proofs.Ytgkhbnkbhcginaa
open Go.RowKit

set_option maxRecDepth 100000 in
theorem clone_vals (v : Value) (l : List (Int × Int × ByteArray)) (w : World) (hk : Rd w v l.length (l.flatMap cells3)) (nk : l.length ≤ 4194304) :
    Calls Try.prog 11 #[v] w fun e w' => ∃ v', e = .returned v' ∧ w'.ownsRow w.heap.size 38 3 v' l.length (l.flatMap cells3) ∧ Below w.heap.size w w' := by
  obtain ⟨i1, hi1, hy0, hy1, hy2⟩ := info_parts vinfo
  have HK := Lib.hid hk
  rcases hk with ⟨rfl, hn, hx⟩ | ⟨b, o, c, rfl, _, _⟩
  · have he := Lib.run_eql_slice_nil (P := Try.prog) w 31 38 none 0 0 0 0 Try.underlying31
    go_enter Try.func11, Try.ntmps11
    go_wp2_with fail
    go_ret
    exact ⟨_, rfl, by rw [hn, hx]; exact World.ownsRow_nil _ _ _ _, Below.refl _ _⟩
  · have he := Lib.run_eql_slice_nil (P := Try.prog) w 31 38 (some ⟨b, o, none⟩) l.length c 0 0 Try.underlying31
    go_enter Try.func11, Try.ntmps11
    go_wp2_with (at_builtin; refine wpList_append_rd rfl _ _ 31 rfl w.heap.size 38 i1 _ 3 32 Try.underlying31 hi1 hy0 hy1 hy2 rfl (by decide) _ 0 [] rfl (World.ownsRow_lit _ #[] 0 (by simp) (by decide) (by decide)) _ l.length (l.flatMap cells3) rfl (HK.out.alloc _) (flat_len l) (flat_one l) ?k2 ?k3 ?k4 ?_)
    case k2 => unfold maxLen; omega
    case k3 => omega
    case k4 => simp
    intro v1 w1 hown hg hat
    have hb : Below w.heap.size w w1 := ⟨hg.os, hg.tape, hg.output, Nat.le_trans (by simp) hg.size, fun k hk => (hg.block k (by simp; omega) (by simp [Value.ownBlock]; omega)).trans (Below.heap_alloc w _ k hk)⟩
    have HO := Lib.hid (show w1.ownsRow w.heap.size 38 3 v1 l.length (l.flatMap cells3) by simpa using hown)
    have HB := Lib.hid hb
    clear hown hg hat hb
    go_wp2_with fail
    go_ret
    exact ⟨_, rfl, HO.out, HB.out⟩

end Go.Proofs.Ytgkhbnkbhcginaa

namespace Go.Proofs.Ytgkhbnkbhcginaa
open Go.RowKit

/-- Ahead of the append: the copy, the value's block, the box. -/
structure Q20 (wz W : World) (l : Vs) (x : Int × Int × ByteArray) (v : Option Value) (b z : Option Nat) : Prop where
  bel : Below wz.heap.size wz W
  own : ∀ u, v = some u → W.ownsRow wz.heap.size 38 3 u l.length (l.flatMap cells3)
  lit : ∀ q, b = some q → Rd W (.slice (some ⟨q, 0, none⟩) 1 1) 1 (cells3 x)
  box : ∀ q, z = some q → C1 W q 31 (.slice none 0 0) ∧ wz.heap.size ≤ q
/-- Behind it. -/
structure R20 (wz W : World) (l : Vs) (x : Int × Int × ByteArray) (v : Value) (z : Option Nat) : Prop where
  bel : Below wz.heap.size wz W
  own : W.ownsRow wz.heap.size 38 3 v (l.length + 1) ((l ++ [x]).flatMap cells3)
  box : ∀ q, z = some q → C1 W q 31 (.slice none 0 0) ∧ wz.heap.size ≤ q
section
variable {wz W W' : World} {l : Vs} {x : Int × Int × ByteArray} {v : Option Value} {b z : Option Nat} {u : Value}
theorem Q20.start (wz : World) (l : Vs) (x : Int × Int × ByteArray) : Q20 wz wz.drew l x none none none :=
  ⟨(Below.refl _ _).drew, fun _ h => (by cases h), fun _ h => (by cases h), fun _ h => (by cases h)⟩
theorem Q20.clone (h : Q20 wz W l x none b z) (ho : W'.ownsRow W.heap.size 38 3 u l.length (l.flatMap cells3)) (hb : Below W.heap.size W W') : Q20 wz W' l x (some u) b z :=
  ⟨below_thru h.bel hb, fun u' e => by obtain rfl : u = u' := Option.some.inj e; exact own_less ho h.bel.size, fun q e => (h.lit q e).below hb, fun q e => ⟨(h.box q e).1.below hb, (h.box q e).2⟩⟩
theorem Q20.build (h : Q20 wz W l x v none z) (t : TypeId) : Q20 wz (W.alloc (.cells #[.int .u8 x.1, .int .i64 x.2.1, .string x.2.2] t)) l x v (some W.heap.size) z :=
  ⟨h.bel.alloc h.bel.size _, fun u e => (h.own u e).alloc _, fun q e => by obtain rfl := Option.some.inj e; exact rd_lit3 W _ _ _ t, fun q e => ⟨(h.box q e).1.alloc _, (h.box q e).2⟩⟩
theorem Q20.alloc (h : Q20 wz W l x v b none) : Q20 wz (W.alloc (.cells #[.slice none 0 0] 31)) l x v b (some W.heap.size) :=
  ⟨h.bel.alloc h.bel.size _, fun u e => (h.own u e).alloc _, fun q e => (h.lit q e).alloc _, fun q e => by obtain rfl := Option.some.inj e; exact ⟨C1.new W _ _, h.bel.size⟩⟩
theorem Q20.app {v' : Value} (h : Q20 wz W l x (some u) b z) (ho : W'.ownsRow wz.heap.size 38 3 v' (l.length + 1) (l.flatMap cells3 ++ [.int .u8 x.1, .int .i64 x.2.1, .string x.2.2])) (hg : W.grownBy W' u.ownBlock) : R20 wz W' l x v' z := by
  have hu := h.own u rfl
  refine ⟨below_row h.bel hg (fun q hq => (own_blk hu q hq).1), by rw [List.flatMap_append]; exact ho, fun q e => ⟨?_, (h.box q e).2⟩⟩
  have hc := (h.box q e).1
  exact (hg.block q hc.lt (fun e' => own_ne hu hc (by decide) q e'.symm rfl)).trans hc
theorem R20.alloc (h : R20 wz W l x u none) : R20 wz (W.alloc (.cells #[.slice none 0 0] 31)) l x u (some W.heap.size) :=
  ⟨h.bel.alloc h.bel.size _, h.own.alloc _, fun q e => by obtain rfl := Option.some.inj e; exact ⟨C1.new W _ _, h.bel.size⟩⟩
/-- Behind the store into the box. -/
theorem R20.fin {q : Nat} (h : R20 wz W l x u (some q)) : ∃ g2 c2, u = .slice (some ⟨g2, 0, none⟩) (l.length + 1) c2 ∧ wz.heap.size ≤ q ∧ wz.heap.size ≤ g2 ∧ Below wz.heap.size wz (W.setCell ⟨q, 0, none⟩ u) ∧ (W.setCell ⟨q, 0, none⟩ u).cell? ⟨q, 0, none⟩ = some u ∧ Rd (W.setCell ⟨q, 0, none⟩ u) u (l.length + 1) ((l ++ [x]).flatMap cells3) := by
  obtain ⟨g2, c2, e, _⟩ := own_form1 h.own (by rw [flat_len, List.length_append]; simp)
  have hc := (h.box q rfl).1
  have hg := own_blk h.own g2 (by rw [e]; rfl)
  refine ⟨g2, c2, e, (h.box q rfl).2, hg.1, h.bel.setCell (p := ⟨q, 0, none⟩) (h.box q rfl).2 _, (hc.set u).c0, (Kp.one W q 0 u).rd (Rd.of_own h.own) (fun k hk e' => own_ne h.own hc (by decide) k hk e')⟩
end

/-- The block of this number. -/
def Code.blk (n : Nat) : Code → Option Code
  | .block m c => if m = n then some (.block m c) else blk n c
  | .seq a b => match blk n a with
    | some x => some x
    | none => blk n b
  | .cond _ a b => match blk n a with
    | some x => some x
    | none => blk n b
  | .loop c => blk n c
  | .scope c => blk n c
  | _ => none

end Go.Proofs.Ytgkhbnkbhcginaa
