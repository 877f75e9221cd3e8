/- Several texts in one. -/
import Derived.Test.YtghbbpbhbinioaaGreatMr15
import Derived.Test.YtghbbpbhbinioaaGreatMr09
import Derived.Deep.RegionHeld
import Derived.Laws.Tables
import Derived.Test.YtghbbpbhbinioaaGreatMr02
namespace Go.Proofs.YtghbbpbhbinioaaGreat
set_option maxRecDepth 100000
set_option linter.unusedSimpArgs false
set_option linter.unusedVariables false
open Go.RowKit
def sumF (l : List Nv) : Nat := (l.map fun n => n.fresh).sum
theorem sumF_le : ∀ (l : List Nv), (∀ n ∈ l, n.fresh ≤ 1) → sumF l ≤ l.length
  | [], _ => Nat.le_refl _
  | n :: l, h => by
    have h1 := sumF_le l (fun m hm => h m (List.mem_cons_of_mem _ hm))
    have h2 := h n (by simp)
    unfold sumF at h1 ⊢
    rw [List.map_cons, List.sum_cons, List.length_cons]
    omega
theorem sumF_all : ∀ (l : List Nv), (∀ n ∈ l, n.fresh = 1) → sumF l = l.length
  | [], _ => rfl
  | n :: l, h => by
    have h1 := sumF_all l (fun m hm => h m (List.mem_cons_of_mem _ hm))
    have h2 := h n (by simp)
    unfold sumF at h1 ⊢
    rw [List.map_cons, List.sum_cons, List.length_cons]
    omega
theorem sumF_take {l : List Nv} {j : Nat} {n : Nv} (h : l[j]? = some n) : sumF (l.take (j + 1)) = sumF (l.take j) + n.fresh := by
  unfold sumF
  rw [List.take_add_one, h, List.map_append, List.sum_append]
  simp
theorem RowN.cells {W : World} {g o : Nat} {n : Nv} (h : RowN W g o n) : W.cell? ⟨g, o, none⟩ = some (.int .u8 n.key.1) ∧ W.cell? ⟨g, o + 1, none⟩ = some (.int .i64 n.key.2.1) ∧ W.cell? ⟨g, o + 2, none⟩ = some (.string n.key.2.2) ∧ W.cell? ⟨g, o + 3, none⟩ = some (.int .u8 n.val.1) ∧ W.cell? ⟨g, o + 4, none⟩ = some (.int .i64 n.val.2.1) ∧ W.cell? ⟨g, o + 5, none⟩ = some (.string n.val.2.2) ∧ W.cell? ⟨g, o + 6, none⟩ = some (.int .i64 (n.cell : Nat)) ∧ W.cell? ⟨g, o + 7, none⟩ = some (.pointer n.low) ∧ W.cell? ⟨g, o + 8, none⟩ = some (.pointer n.high) ∧ W.cell? ⟨g, o + 9, none⟩ = some (.int .i64 (n.shared : Nat)) ∧ W.cell? ⟨g, o + 10, none⟩ = some (.int .u64 n.rank) ∧ W.cell? ⟨g, o + 11, none⟩ = some (.int .i64 (n.kx : Nat)) ∧ W.cell? ⟨g, o + 12, none⟩ = some (.int .i64 (n.ky : Nat)) ∧ W.cell? ⟨g, o + 13, none⟩ = some (.int .i64 (n.fresh : Nat)) :=
  ⟨h 0 _ rfl, h 1 _ rfl, h 2 _ rfl, h 3 _ rfl, h 4 _ rfl, h 5 _ rfl, h 6 _ rfl, h 7 _ rfl, h 8 _ rfl, h 9 _ rfl, h 10 _ rfl, h 11 _ rfl, h 12 _ rfl, h 13 _ rfl⟩
theorem NL.at {W : World} {A : Option Addr} {l : List Nv} (h : NL W A l) {i : Nat} {n : Nv} (hi : l[i]? = some n) : ∃ g o, A = some ⟨g, o, none⟩ ∧ g < W.heap.size ∧ RowN W g (o + i * 14) n := by
  rcases h with rfl | ⟨g, o, rfl, hg, hc⟩
  · simp at hi
  · exact ⟨g, o, rfl, hg, hc i n hi⟩
section
set_option maxHeartbeats 4000000 in
theorem wfresh (A : Option Addr) (l : List Nv) (c : Nat) (w : World) (hl : NL w A l) (hn : l.length ≤ 100000) (hf : ∀ n ∈ l, n.fresh ≤ 1) :
    Calls Tryz.prog 113 #[.slice A l.length c] w fun e w' => e = .returned (.int .i64 (sumF l : Nat)) ∧ Below w.heap.size w w' := by
  have HL := Lib.hid (And.intro hl (And.intro hn hf))
  clear hl hn hf
  go_enter Tryz.func113, Tryz.ntmps113
  go_wp2_with fail
  go_loopg [3, 8] l.length (fun c' s3 s8 wr => ∃ j : Nat, j + c' = l.length ∧ s8 = .int .i64 (j : Int) ∧ s3 = .int .i64 (sumF (l.take j) : Nat) ∧ Below w.heap.size w wr)
  case atStart => exact ⟨0, by omega, rfl, by simp [sumF], Below.refl _ _⟩
  case round =>
    obtain ⟨j, hj, rfl, rfl, hb⟩ := hrel
    by_cases h1 : j < l.length
    · obtain ⟨n, hnj⟩ : ∃ n, l[j]? = some n := ⟨_, List.getElem?_eq_getElem h1⟩
      obtain ⟨g, o, rfl, hg, hrow⟩ := (HL.out.1.below hb).at hnj
      have HS := Lib.hid (sumF_take hnj)
      have HF := Lib.hid (HL.out.2.2 n (List.mem_of_getElem? hnj))
      have hsum := sumF_le (l.take j) (fun m hm => HL.out.2.2 m (List.mem_of_mem_take hm))
      have hlt : (l.take j).length ≤ 100000 := by rw [List.length_take]; have := HL.out.2.1; omega
      have y0 : (0 : Int) ≤ (j : Int) := by omega
      have y1 : (j : Int) < (l.length : Int) := by omega
      have HJ := Lib.hid (And.intro hj h1)
      have HB := Lib.hid hb
      obtain ⟨S, hS⟩ : ∃ S, S = sumF (l.take j) := ⟨_, rfl⟩
      rw [← hS] at hsum HS ⊢
      have hS2 : S ≤ 100000 := by omega
      have W1 := Lib.hid (show wrap64 ((j : Int) + 1) = (j : Int) + 1 from IntWalk.wrap64_in _ (by have := HL.out.2.1; omega))
      have W2 := Lib.hid (show IntKind.i64.wrap ((j : Int) + 1) = (j : Int) + 1 from IntWalk.i64_in _ (by have := HL.out.2.1; omega))
      have hrg : -9223372036854775808 ≤ (S : Int) + (n.fresh : Int) ∧ (S : Int) + (n.fresh : Int) ≤ 9223372036854775807 := by have := HF.out; omega
      have hcs : (S : Int) + (n.fresh : Int) = ((S + n.fresh : Nat) : Int) := by omega
      have W3 := Lib.hid (show wrap64 ((S : Int) + (n.fresh : Int)) = ((S + n.fresh : Nat) : Int) from (IntWalk.wrap64_in _ hrg).trans hcs)
      have W4 := Lib.hid (show IntKind.i64.wrap ((S : Int) + (n.fresh : Int)) = ((S + n.fresh : Nat) : Int) from (IntWalk.i64_in _ hrg).trans hcs)
      clear hrg hcs
      clear hj h1 hnj hsum hlt hb hS hS2
      have HROW := Lib.hid hrow
      clear hrow
      go_upto_region 5 with (refine wpList_load_mid rfl _ _ rfl g (o + j * 14) rfl (ncells n).toList _ HROW.out Tryz.underlying144 rfl node_size ?_)
      have q5 := BC.new wr 144 (ncells n)
      have hb5 : Below wr.heap.size wr (wr.alloc (.cells (ncells n) 144)) := (Below.refl _ wr).alloc (Nat.le_refl _) _
      have HB5 := Lib.hid (HB.out.trans (hb5.mono HB.out.size))
      clear hb5 hg
      change Code.wp _ _ _ _ (wr.alloc (.cells (ncells n) 144))
      generalize wr.alloc _ = W5 at q5 HB5 ⊢
      generalize wr.heap.size = z5 at q5 ⊢
      have c13 := q5.node.2.2.2.2.2.2.2.2.2.2.2.2.2
      clear q5
      have HN := Lib.hid (show sumF (l.take (j + 1)) = S + n.fresh from HS.out)
      have w1 := W1.out
      have w2 := W2.out
      have w3 := W3.out
      have w4 := W4.out
      clear W1 W2 W3 W4
      go_wp2_with fail
      go_roundg (l.length - (j + 1))
      case measure => have := HJ.out; omega
      case rel => exact ⟨j + 1, by have := HJ.out; omega, by go_num, by rw [HN.out]; first | rfl | (rw [Int.natCast_add]), HB5.out⟩
    · obtain rfl : j = l.length := by omega
      have HB := Lib.hid hb
      clear hb hj h1
      rw [List.take_length]
      go_wp2_with fail
      go_ret
      exact ⟨rfl, HB.out⟩
end
end Go.Proofs.YtghbbpbhbinioaaGreat

namespace Go.Proofs.YtghbbpbhbinioaaGreat
open Go Go.RowKit
section
variable {P : Program} {ops : Array Oper} {Q : Exit → Act → World → Prop} {S : World → Prop} {X : List Nat}
def AnyW (P : Program) (ops : Array Oper) (Q : Exit → Act → World → Prop) (S : World → Prop) (X : List Nat) : Nat → Array Bool → Act → World → Prop
  | 0, done, a, w => Region.ready .any ops done = [] ∧ Q .normal a w
  | k + 1, done, a, w => (Region.ready .any ops done = [] → Q .normal a w) ∧ ∀ i ∈ Region.ready .any ops done, wpOp P ops Q i (fun a' w' => (i ∈ X ∨ (S w → S w')) ∧ AnyW P ops Q S X k (done.setIfInBounds i true) a' w') a w
theorem AnyW.any : ∀ (k : Nat) (done : Array Bool) (a : Act) (w : World), AnyW P ops Q S X k done a w → wpAny P .any ops Q k done a w
  | 0, _, _, _, h => h
  | k + 1, _, _, _, h => ⟨h.1, fun i hi => wpOp_mono (fun _ _ h => AnyW.any k _ _ _ h.2) (h.2 i hi)⟩
theorem AnyW.take {i : Nat} {oi : Oper} {v : Value} (hX : waits ops X i = true) (hi : ops[i]? = some oi) (hs : Region.noSelect ops = true) (hQ : ∀ c a w, Q (.panic c) (a.put oi.dst v) w → Q (.panic c) a w) :
    ∀ (k : Nat) (done : Array Bool) (a : Act) (w : World), (∀ j oj, ops[j]? = some oj → j ≠ i → done.getD j true = false → (∀ e ∈ oj.after, Region.binds .any e = true → e.on ≠ i) → oi.apart ops oj = true) →
      i ∈ Region.ready .any ops done → YieldsIf P ops S oi v a → S w → AnyW P ops Q S X k (done.setIfInBounds i true) (a.put oi.dst v) w → AnyW P ops Q S X (k + 1) done a w
  | k, done, a, w, hfree, hr, hd, hS, H => by
    refine ⟨fun e => absurd hr (by rw [e]; exact List.not_mem_nil), fun j hj => ?_⟩
    by_cases hji : j = i
    · subst hji; exact hd.wpOp hi hS ⟨.inr id, H⟩
    · have hj2 := ready_mono hj hji
      cases k with
      | zero => rw [H.1] at hj2; cases hj2
      | succ k =>
        obtain ⟨hun, oj, hoj, hall⟩ := mem_ready.1 hj
        have hi0 := (mem_ready.1 hr).1
        have hnot : ∀ e ∈ oj.after, Region.binds .any e = true → e.on ≠ i := fun e he hb e2 => by
          have h1 := hall e he hb
          rw [e2] at h1
          by_cases hlt : i < done.size
          · rw [Array.getD_eq_getD_getElem?, Array.getElem?_eq_getElem hlt] at h1 hi0
            simp only [Option.getD_some] at h1 hi0
            rw [h1] at hi0
            cases hi0
          · rw [Array.getD_eq_getD_getElem?, Array.getElem?_eq_none (by omega)] at hi0
            cases hi0
        have hjX : j ∉ X := fun hx => by
          obtain ⟨e, he, hb, e2⟩ := waits_spec hX hx hoj
          exact hnot e he hb e2
        have h2 := wpOp_putIf hoj (hfree j oj hoj hji hun hnot) (Region.noSelect_spec hs i oi · · hi) (Region.noSelect_spec hs j oj · · hoj) hQ hd (H.2 j hj2)
        refine wpOp_mono (fun a' w' h3 => ⟨h3.2.1, AnyW.take hX hi hs hQ k (done.setIfInBounds j true) a' w' (fun x ox hx hxi hxu hno => ?_) (ready_mono hr (Ne.symm hji)) h3.1 (h3.2.1.resolve_left hjX hS) ?_⟩) h2
        · refine hfree x ox hx hxi ?_ hno
          by_cases hjx : j = x
          · subst hjx; exact hun
          · rwa [getD_set_ne true hjx] at hxu
        · rw [Array.setIfInBounds_comm _ _ hji]
          exact h3.2.2
theorem AnyW.takeV {i : Nat} {oi : Oper} {v : Value} (hi : ops[i]? = some oi) (hs : Region.noSelect ops = true) (hQ : ∀ c a w, Q (.panic c) (a.put oi.dst v) w → Q (.panic c) a w) :
    ∀ (k : Nat) (done : Array Bool) (a : Act) (w : World), (∀ j oj, ops[j]? = some oj → j ≠ i → done.getD j true = false → (∀ e ∈ oj.after, Region.binds .any e = true → e.on ≠ i) → oi.apart ops oj = true) →
      i ∈ Region.ready .any ops done → YieldsIf P ops (fun _ => True) oi v a → AnyW P ops Q S X k (done.setIfInBounds i true) (a.put oi.dst v) w → AnyW P ops Q S X (k + 1) done a w
  | k, done, a, w, hfree, hr, hd, H => by
    refine ⟨fun e => absurd hr (by rw [e]; exact List.not_mem_nil), fun j hj => ?_⟩
    by_cases hji : j = i
    · subst hji; exact hd.wpOp hi trivial ⟨.inr id, H⟩
    · have hj2 := ready_mono hj hji
      cases k with
      | zero => rw [H.1] at hj2; cases hj2
      | succ k =>
        obtain ⟨hun, oj, hoj, hall⟩ := mem_ready.1 hj
        have hi0 := (mem_ready.1 hr).1
        have hnot : ∀ e ∈ oj.after, Region.binds .any e = true → e.on ≠ i := fun e he hb e2 => by
          have h1 := hall e he hb
          rw [e2] at h1
          by_cases hlt : i < done.size
          · rw [Array.getD_eq_getD_getElem?, Array.getElem?_eq_getElem hlt] at h1 hi0
            simp only [Option.getD_some] at h1 hi0
            rw [h1] at hi0
            cases hi0
          · rw [Array.getD_eq_getD_getElem?, Array.getElem?_eq_none (by omega)] at hi0
            cases hi0
        have h2 := wpOp_putIf hoj (hfree j oj hoj hji hun hnot) (Region.noSelect_spec hs i oi · · hi) (Region.noSelect_spec hs j oj · · hoj) hQ hd (H.2 j hj2)
        refine wpOp_mono (fun a' w' h3 => ⟨h3.2.1, AnyW.takeV hi hs hQ k (done.setIfInBounds j true) a' w' (fun x ox hx hxi hxu hno => ?_) (ready_mono hr (Ne.symm hji)) h3.1 ?_⟩) h2
        · refine hfree x ox hx hxi ?_ hno
          by_cases hjx : j = x
          · subst hjx; exact hun
          · rwa [getD_set_ne true hjx] at hxu
        · rw [Array.setIfInBounds_comm _ _ hji]
          exact h3.2.2
theorem AnyW.first {i : Nat} {oi : Oper} {v : Value} {k : Nat} {done : Array Bool} {a : Act} {w : World} (hX : waits ops X i = true) (hi : ops[i]? = some oi) (hs : Region.noSelect ops = true) (hf : Region.free .any ops done i = true) (hr : (Region.ready .any ops done).contains i = true)
    (hQ : ∀ c a w, Q (.panic c) (a.put oi.dst v) w → Q (.panic c) a w) (hd : YieldsIf P ops S oi v a) (hS : S w) (H : AnyW P ops Q S X k (done.setIfInBounds i true) (a.put oi.dst v) w) : AnyW P ops Q S X (k + 1) done a w :=
  AnyW.take hX hi hs hQ k done a w (Region.free_spec hi hf) (by simpa using hr) hd hS H
theorem AnyW.firstV {i : Nat} {oi : Oper} {v : Value} {k : Nat} {done : Array Bool} {a : Act} {w : World} (hi : ops[i]? = some oi) (hs : Region.noSelect ops = true) (hf : Region.free .any ops done i = true) (hr : (Region.ready .any ops done).contains i = true)
    (hQ : ∀ c a w, Q (.panic c) (a.put oi.dst v) w → Q (.panic c) a w) (hd : YieldsIf P ops (fun _ => True) oi v a) (H : AnyW P ops Q S X k (done.setIfInBounds i true) (a.put oi.dst v) w) : AnyW P ops Q S X (k + 1) done a w :=
  AnyW.takeV hi hs hQ k done a w (Region.free_spec hi hf) (by simpa using hr) hd H
theorem AnyW.one {i : Nat} {o : Oper} {k : Nat} {done : Array Bool} {a : Act} {w : World} (hr : Region.ready .any ops done = [i]) (ho : ops[i]? = some o)
    (h : ∀ K : Act → World → Prop, Shut (∀ a' w', (i ∈ X ∨ (S w → S w')) → AnyW P ops Q S X k (done.setIfInBounds i true) a' w' → K a' w') → if Region.wanted o (yielded ops a.tmps) = true then Oper.wp P o a w K Q else K (a.put o.dst undef) w) : AnyW P ops Q S X (k + 1) done a w :=
  ⟨fun e => (by rw [hr] at e; cases e), fun j hj => by
    rw [hr, List.mem_singleton] at hj
    subst hj
    exact wpOp_step ho (fun K' hK => h K' (fun a w hS hW => hK a w ⟨hS, hW⟩))⟩
theorem AnyW.done {done : Array Bool} {a : Act} {w : World} (hr : Region.ready .any ops done = []) (h : Q .normal a w) : ∀ k, AnyW P ops Q S X k done a w
  | 0 => ⟨hr, h⟩
  | _ + 1 => ⟨fun _ => h, by rw [hr]; simp⟩
theorem anyW_region {id : Nat} {a : Act} {w : World} (X : List Nat) (hm : P.follows .mixedOrders = true) (hS : S w.drew) (h : S w.drew → AnyW P ops Q S X ops.size (Array.replicate ops.size false) a w.drew) : (Code.region id ops true).wp P Q a w :=
  wp_region_any hm ((h hS).any _ _ _ _)
end
end Go.Proofs.YtghbbpbhbinioaaGreat

namespace Go.Proofs.YtghbbpbhbinioaaGreat
set_option maxRecDepth 100000
set_option linter.unusedSimpArgs false
set_option linter.unusedVariables false
open Go.RowKit
section
variable {W W' : World} {z t : Nat} {cs : Array Value}
theorem BC.setRow (h : BC W z t cs) (cs' : Array Value) : BC (W.setRow z cs') z t cs' := setRow_heap W z cs cs' t (0, 0) h
theorem kp_setRow (W : World) (z : Nat) (cs : Array Value) : Kp (fun q => q = z) W (W.setRow z cs) :=
  ⟨rfl, rfl, rfl, by rw [size_setRow]; exact Nat.le_refl _, fun k _ hk => setRow_other W z k cs hk⟩
def setA : Array Value → Nat → List Value → Array Value
  | cs, _, [] => cs
  | cs, o, v :: r => setA (cs.setIfInBounds o v) (o + 1) r
theorem BC.setCells : ∀ (vs : List Value) (o : Nat) (W : World) (cs : Array Value), BC W z t cs → BC (W.setCells z o vs) z t (setA cs o vs)
  | [], _, _, _, h => h
  | v :: r, o, W, cs, h => BC.setCells r (o + 1) (W.setCell ⟨z, o, none⟩ v) (cs.setIfInBounds o v) (h.set o v)
theorem kp_setCells : ∀ (vs : List Value) (o : Nat) (W : World), Kp (fun q => q = z) W (W.setCells z o vs)
  | [], _, W => Kp.refl _ W
  | v :: r, o, W => ((Kp.refl (fun q => q = z) W).setCell (.inl rfl) v).trans (kp_setCells r (o + 1) (W.setCell ⟨z, o, none⟩ v)) (fun _ => .inl)
theorem BC.there (h : BC W z t cs) {o n : Nat} (hn : o + n ≤ cs.size) : W.there z o n := fun j hj => by
  refine ⟨?_, h.fz _⟩
  rw [h.at (Array.getElem?_eq_getElem (show o + j < cs.size by omega))]
  rfl
end
section
variable {P : Program} {ops : Array Oper} {rest : List Oper} {op : Oper} {a : Act} {w : World} {Q : Exit → Act → World → Prop}
theorem wpList_store_part (hgd : op.guard = none) (ty : TypeId) (x y : Operand) (ho : op.op = .store ty x y) (z o t : Nat) (old cells : Array Value) (hx : a.eval x = .pointer (some ⟨z, o, none⟩)) (hy : a.eval y = .agg cells) (hz : BC w z t old) (hn : o + cells.size ≤ old.size) (hi : (P.info? ty).map (·.size) = some cells.size) (h1 : cells.all (·.oneCell') = true)
    (h : ∀ W', BC W' z t (setA old o cells.toList) → Kp (fun q => q = z) w W' → wpList P ops Q rest (a.put op.dst undef) W') : wpList P ops Q (op :: rest) a w :=
  wpList_store_mid hgd ty x y ho z o cells hx hy (hz.there hn) hi h1 (h _ (hz.setCells _ _ _ _) (kp_setCells _ _ _))
theorem wpList_store_whole (hgd : op.guard = none) (ty : TypeId) (x y : Operand) (ho : op.op = .store ty x y) (z t : Nat) (old cells : Array Value) (hx : a.eval x = .pointer (some ⟨z, 0, none⟩)) (hy : a.eval y = .agg cells) (hz : BC w z t old) (hn : old.size = cells.size) (hi : (P.info? ty).map (·.size) = some cells.size) (h1 : cells.all (·.oneCell') = true)
    (h : ∀ W', BC W' z t cells → Kp (fun q => q = z) w W' → wpList P ops Q rest (a.put op.dst undef) W') : wpList P ops Q (op :: rest) a w :=
  wpList_store_row hgd ty x y ho z cells hx hy t old hz hi hn h1 (h _ (hz.setRow _) (kp_setRow _ _ _))
theorem wpList_build_to (hg : op.guard = none) (t : TypeId) (parts : Array (Nat × Operand)) (ho : op.op = .build t parts) (cs : Array Value)
    (hf : P.built t (parts.map fun (i, x) => (i, a.eval x)).toList = some cs)
    (h : wpList P ops Q rest (a.put op.dst (.agg cs)) w) : wpList P ops Q (op :: rest) a w := by
  refine wpList_build hg t parts ho (by rw [hf]; rfl) ?_
  rw [hf]
  exact h
theorem wpList_load_whole (hgd : op.guard = none) (ty : TypeId) (x : Operand) (ho : op.op = .load ty x) (z t : Nat) (hx : a.eval x = .pointer (some ⟨z, 0, none⟩)) (cs : Array Value) (d : TypeDesc) (hz : BC w z t cs) (hu : P.underlying ty = some d) (hd : (match d with | .struct _ | .array _ _ => true | _ => false) = true) (hi : (P.info? ty).map (·.size) = some cs.size)
    (h : wpList P ops Q rest (a.put op.dst (.agg cs)) w) : wpList P ops Q (op :: rest) a w :=
  wpList_load_row hgd ty x ho z hx t cs (0, 0) d hz hu hd hi h
end
theorem ninfo : (Tryz.prog.info? 144).map (fun i => (i.zero, i.size, i.bytes)) = some (some (.agg (ncells nzero)), 14, 128) := by kernel_rfl
abbrev nlist (n : Nv) : List Value := (ncells n).toList
theorem flat_at {α : Type} {f : α → List Value} {m : Nat} (hf : ∀ a, (f a).length = m) : ∀ (l : List α) (i j : Nat) (a : α) (v : Value), l[i]? = some a → (f a)[j]? = some v → (l.flatMap f)[i * m + j]? = some v
  | [], i, j, a, v, h, _ => by simp at h
  | x :: l, 0, j, a, v, h, hv => by
    simp only [List.getElem?_cons_zero, Option.some.injEq] at h
    subst h
    rw [List.flatMap_cons, Nat.zero_mul, Nat.zero_add, List.getElem?_append_left (List.getElem?_eq_some_iff.1 hv).1]
    exact hv
  | x :: l, i + 1, j, a, v, h, hv => by
    rw [List.getElem?_cons_succ] at h
    have h1 := flat_at hf l i j a v h hv
    rw [List.flatMap_cons, List.getElem?_append_right (by rw [hf, Nat.add_mul]; omega), hf, show (i + 1) * m + j - m = i * m + j by rw [Nat.add_mul]; omega]
    exact h1
abbrev OwnN (W : World) (B : Nat) (A : Option Addr) (c : Nat) (l : List Nv) : Prop := W.ownsRow B 144 14 (.slice A l.length c) l.length (l.flatMap nlist)
theorem OwnN.nl {W : World} {B : Nat} {A : Option Addr} {c : Nat} {l : List Nv} (h : OwnN W B A c l) : NL W A l := by
  cases l with
  | nil => exact .inl rfl
  | cons x l =>
    have h0 : ((x :: l).flatMap nlist)[0]? = some (.int .u8 x.key.1) := rfl
    obtain ⟨g, c', e, _, _, _⟩ := own_at h h0
    injection e with e1 e2 e3
    subst e1
    refine .inr ⟨g, 0, rfl, (own_blk h g rfl).2, fun i n hi => ?_⟩
    intro j v hv
    have h1 := flat_at (f := nlist) (m := 14) (fun _ => rfl) (x :: l) i j n v hi hv
    obtain ⟨g', c'', e', _, hc, _⟩ := own_at h h1
    injection e' with e1 _ _
    injection e1 with e1
    injection e1 with e1 _ _
    subst e1
    rw [Nat.zero_add]
    exact hc
theorem OwnN.cap {W : World} {B : Nat} {A : Option Addr} {c : Nat} {l : List Nv} (h : OwnN W B A c l) : l.length ≤ c := by
  obtain ⟨A', c', e, hc⟩ := (Rd.of_own h).form
  injection e with _ _ e
  omega
theorem rd14 (w : World) (n : Nv) (t : TypeId) : Rd (w.alloc (.cells (ncells n) t)) (.slice (some ⟨w.heap.size, 0, none⟩) 1 1) 1 (nlist n) :=
  .inr ⟨w.heap.size, 0, 1, rfl, Nat.le_refl _, fun j u hj => by
    rw [Nat.zero_add]
    exact (BC.new w t (ncells n)).at (by rw [← Array.getElem?_toList]; exact hj)⟩
def NoV (W : World) (q : Nat) : Prop := ∃ cur t, W.heap[q]? = some (.cells cur t (0, 0)) ∧ t ≠ 36
theorem BC.nov {W : World} {z t : Nat} {cs : Array Value} (h : BC W z t cs) (ht : t ≠ 36) : NoV W z := ⟨_, _, h, ht⟩
section
variable {W W' : World} {G : Nat → Prop} {M : Cells}
theorem Lim.kpt {v : Option Addr} {P : Ky → Prop} (h : Lim W v P) (hk : Kp G W W') (hG : ∀ q, G q → NoV W q) : Lim W' v P := by
  rcases h with h | ⟨g, k, e, c, p⟩
  · exact .inl h
  · refine .inr ⟨g, k, e, c.kp hk (fun hg => ?_), p⟩
    obtain ⟨cur, t, e1, e2⟩ := hG g hg
    have h1 : W.heap[g]? = some _ := c
    rw [e1] at h1
    simp only [Option.some.injEq, Obj.cells.injEq] at h1
    exact e2 h1.2.1
theorem NdP.kpt {n : Nv} {la lb l : List Pr} (h : NdP M W n la lb l) (hk : Kp G W W') (hG : ∀ q, G q → NoV W q) : NdP M W' n la lb l := ⟨h.node, h.treex, h.treey, h.eq, h.srt, h.low.kpt hk hG, h.high.kpt hk hG, h.fresh⟩
theorem Rp.kpt {i s : Nat} {lo hi : Option Addr} {l : List Pr} {n : Nv} {ok : Bool} (h : Rp M W i s lo hi l n ok) (hk : Kp G W W') (hG : ∀ q, G q → NoV W q) : Rp M W' i s lo hi l n ok := by
  rcases h with h | ⟨h1, h2, h3, h4, h5, la, lb, h⟩
  · exact .inl h
  · exact .inr ⟨h1, h2, h3, h4, h5, la, lb, h.kpt hk hG⟩
end
theorem nbelow_at {M : Cells} {n : Nv} {la lb l : List Pr} (k : Ky) (w : World) (h : NdP M w n la lb l) :
    Calls Tryz.prog 78 #[nagg n, .int .i64 (sideN n k : Nat)] w fun e w' => ∃ lo hi, e = .returned (plagg (kidN n (sideN n k)) lo hi n.fresh) ∧ Pl M w' (kidN n (sideN n k)) n.fresh lo hi (nxt n k la lb) ∧ Below w.heap.size w w' := by
  unfold sideN nxt
  by_cases hv : vc k n.key < 0
  · rw [if_pos hv, if_pos hv]
    refine (nbelow0 n w).mono ?_
    rintro e w' ⟨g, rfl, hg, hl, hb⟩
    exact ⟨_, _, rfl, (h.below hb).placex hg, hb⟩
  · rw [if_neg hv, if_neg hv]
    refine (nbelow1 n w).mono ?_
    rintro e w' ⟨g, rfl, hg, hl, hb⟩
    exact ⟨_, _, rfl, (h.below hb).placey hg, hb⟩
theorem Ch.next {M : Cells} {W : World} {k : Ky} {cl : List Nv} {root : Nat} {l lj pre suf la lb : List Pr} {n : Nv} (h : Ch M k cl root 0 l [] n.cell 0 lj [] pre suf) (hn : NdP M W n la lb lj) (hk : n.key ≠ k) : ∃ pre' suf', Ch M k (cl ++ [n]) root 0 l [] (kidN n (sideN n k)) 0 (nxt n k la lb) [] pre' suf' := by
  rw [hn.eq] at h
  unfold kidN sideN nxt
  rcases vc_side (Ne.symm hk) with ⟨h1, h2⟩ | ⟨h1, h2⟩
  · rw [if_pos (show vc k n.key < 0 by omega), if_pos (show vc k n.key < 0 by omega)]
    exact ⟨_, _, h.snoc_l hn.node (h0_klt.2 h1) hn.treex hn.treey⟩
  · rw [if_neg (show ¬ vc k n.key < 0 by omega), if_neg (show ¬ vc k n.key < 0 by omega)]
    exact ⟨_, _, h.snoc_r hn.node (h0_klt.2 h2) hn.treex hn.treey .nil⟩
theorem nlist_one (n : Nv) : ∀ u ∈ nlist n, u.oneCell' = true := by simp [Value.oneCell']
theorem ncells_one (n : Nv) : (ncells n).all (fun v => v.oneCell') = true := by simp [Value.oneCell']
theorem ycells_one (x : Yv) : (ycells x).all (fun v => v.oneCell') = true := by simp [Value.oneCell']
end Go.Proofs.YtghbbpbhbinioaaGreat

namespace Go.Proofs.YtghbbpbhbinioaaGreat
set_option maxRecDepth 100000
set_option linter.unusedSimpArgs false
set_option linter.unusedVariables false
open Go.RowKit
section
variable {ev : Operand → Value} {o : Oper} {W : World} {x y : Operand}
theorem elem_node (w : World) : (sizeOf (Tryz.prog.elem 137)).run Tryz.prog w = .ok 14 w := by kernel_rfl
theorem und_nodes : Tryz.prog.underlying 137 = some (.slice (Tryz.prog.elem 137)) := by kernel_rfl
theorem exec_slice_to {A : Option Addr} {n c t : Nat} (ho : o.op = .slice 137 x none (some y) none) (hx : ev x = .slice A n c) (hy : ev y = .int .i64 (t : Nat)) (ht : t ≤ c) : (execOp ev o).run Tryz.prog W = .ok (.value (sliced A 0 t c 14)) W := by
  have h1 := run_slice_h (P := Tryz.prog) (w := W) 137 A n c und_nodes .i64 (t : Int) (by omega) (by omega)
  rw [elem_node, Int.toNat_natCast] at h1
  unfold execOp
  simp only [ho, hx, hy, Option.map_some, Option.map_none, run_sliceAt_slice _ _ _ _ _ _ und_nodes, h1, Result.andThen_ok, Sem.run_bind, Sem.run_pure]
theorem exec_slice_from {A : Option Addr} {n c t : Nat} (ho : o.op = .slice 137 x (some y) none none) (hx : ev x = .slice A n c) (hy : ev y = .int .i64 (t : Nat)) (ht : t ≤ n) : (execOp ev o).run Tryz.prog W = .ok (.value (.slice (if c = t then A else A.map (·.add (t * 14))) (n - t) (c - t))) W := by
  have h1 := run_slice_l (P := Tryz.prog) (w := W) 137 A n c und_nodes .i64 (t : Int) (by omega) (by omega)
  rw [elem_node, Int.toNat_natCast] at h1
  unfold execOp
  simp only [ho, hx, hy, Option.map_some, Option.map_none, run_sliceAt_slice _ _ _ _ _ _ und_nodes, h1, Result.andThen_ok, Sem.run_bind, Sem.run_pure, sliced]
end
theorem OwnN.addr {W : World} {B : Nat} {A : Option Addr} {c : Nat} {l : List Nv} (h : OwnN W B A c l) : A = none ∨ ∃ g, A = some ⟨g, 0, none⟩ := by
  rcases h.2 with ⟨e, _⟩ | ⟨g, cap, cur, e, _⟩
  · injection e with e1 _ _; exact .inl e1
  · injection e with e1 _ _; exact .inr ⟨g, e1⟩
theorem sliced_to {A : Option Addr} {t c : Nat} (h : A = none ∨ ∃ g, A = some ⟨g, 0, none⟩) : sliced A 0 t c 14 = .slice A t c := by
  unfold sliced
  rcases h with rfl | ⟨g, rfl⟩
  · simp
  · simp [Addr.add]
theorem NL.take {W : World} {A : Option Addr} {l : List Nv} (h : NL W A l) (t : Nat) : NL W A (l.take t) := by
  rcases h with rfl | ⟨g, o, rfl, hg, hc⟩
  · exact .inl (by simp)
  · refine .inr ⟨g, o, rfl, hg, fun i n hi => hc i n ?_⟩
    rw [List.getElem?_take] at hi
    split at hi
    · exact hi
    · cases hi
theorem NL.drop {W : World} {B : Nat} {A : Option Addr} {c : Nat} {l : List Nv} (h : OwnN W B A c l) (t : Nat) (ht : t ≤ l.length) : NL W (if c = t then A else A.map (·.add (t * 14))) (l.drop t) ∧ ∀ a, (if c = t then A else A.map (·.add (t * 14))) = some a → l.drop t ≠ [] → (Value.slice A l.length c).ownBlock = some a.block := by
  have hcap := h.cap
  by_cases hl : l.drop t = []
  · exact ⟨.inl hl, fun _ _ hne => absurd hl hne⟩
  · have hlt : t < l.length := by
      apply Nat.lt_of_not_le
      intro hle
      exact hl (List.drop_eq_nil_of_le hle)
    have hct : ¬ c = t := by omega
    rcases h.nl with e | ⟨g, o, rfl, hg, hc⟩
    · exact absurd (by rw [e]; simp) hl
    · rw [if_neg hct]
      have hadd : (⟨g, o, none⟩ : Addr).add (t * 14) = ⟨g, o + t * 14, none⟩ := Addr.add_mid _ _ _
      refine ⟨.inr ⟨g, o + t * 14, by simp [hadd], hg, fun i n hi => ?_⟩, fun a e _ => ?_⟩
      · rw [List.getElem?_drop] at hi
        have := hc (t + i) n hi
        rw [show o + t * 14 + i * 14 = o + (t + i) * 14 by omega]
        exact this
      · simp only [Option.map_some, Option.some.injEq, hadd] at e
        rw [← e]
        rfl
theorem Ch.yzero {M : Cells} {k : Ky} {cl : List Nv} {x y x' y' : Nat} {lx ly lx' ly' pre suf : List Pr} (h : Ch M k cl x y lx ly x' y' lx' ly' pre suf) (h0 : y = 0) : y' = 0 := by
  induction h with
  | nil _ _ => exact h0
  | xr _ _ _ _ ih => exact ih h0
  | xl _ _ _ _ ih => exact ih rfl
  | yl hn _ _ _ _ => exact absurd h0 hn.ne
def AsksB (w : World) (f : FuncId) (caps : Array Value) (n : Nat) : Prop :=
  (∀ (args : Array Value) (W : World), (callFunc f args).run Tryz.prog W = .ok (.enter f args) W) ∧ ∀ j, j < n → ∀ W, Below w.heap.size w W → Calls Tryz.prog f (#[.int .i64 (j : Nat)] ++ caps) W fun e W' => IsB e ∧ Below W.heap.size W W'
set_option maxHeartbeats 1600000 in
theorem vSearchB (f : FuncId) (caps : Array Value) (n : Nat) (w : World) (ha : AsksB w f caps n) (hn : n ≤ 4611686018427387904) :
    Calls Tryz.prog 119 #[.int .i64 (n : Nat), .func (.func f) #[] caps] w fun e w' => ∃ t : Nat, t ≤ n ∧ e = .returned (.int .i64 (t : Nat)) ∧ Below w.heap.size w w' := by
  have HA := Lib.hid ha.2
  have hfe := ha.1
  clear ha
  go_enter Tryz.func119, Tryz.ntmps119
  go_wp2_with fail
  go_loopw [5, 6] (fun i j wr => ∃ a b : Nat, i = .int .i64 (a : Nat) ∧ j = .int .i64 (b : Nat) ∧ a ≤ b ∧ b ≤ n ∧ Below w.heap.size w wr) (fun i j _ => (intOf j).toNat - (intOf i).toNat)
  case atStart => exact ⟨0, n, rfl, rfl, Nat.zero_le _, Nat.le_refl _, Below.refl _ _⟩
  case round =>
    obtain ⟨a, b, rfl, rfl, hb, hbn, hw⟩ := hrel
    have HW := Lib.hid hw
    clear hw
    by_cases hab : a < b
    · have hab' : (a : Int) < (b : Int) := by omega
      have hh := half a b
      obtain ⟨m, hm⟩ : ∃ m, m = (a + b) / 2 := ⟨_, rfl⟩
      rw [← hm] at hh
      have hm1 : a ≤ m ∧ m < b := by omega
      clear hm
      have HC := Lib.hid (HA.out m (by omega) _ HW.out)
      go_upto_region 4 with fail
      clear hh
      go_wp2_with (refine HC.out.mono ?_; rintro x w' ⟨⟨ans, rfl⟩, hb'⟩; have HB := Lib.hid (HW.out.trans (hb'.mono HW.out.size)); clear hb'; cases ans)
      · go_roundw
        case rel => exact ⟨m + 1, b, by go_num, rfl, by omega, hbn, HB.out⟩
        case measure => simp [intOf]; omega
      · go_roundw
        case rel => exact ⟨a, m, rfl, rfl, by omega, by omega, HB.out⟩
        case measure => simp [intOf]; omega
    · obtain rfl : a = b := by omega
      have hab' : ¬ (a : Int) < (a : Int) := by omega
      go_wp2_with fail
      go_ret
      exact ⟨a, hbn, rfl, HW.out⟩
end Go.Proofs.YtghbbpbhbinioaaGreat
