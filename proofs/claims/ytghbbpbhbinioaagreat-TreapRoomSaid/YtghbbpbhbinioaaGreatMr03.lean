/- Several texts in one. -/
import Derived.Test.YtghbbpbhbinioaaGreatProg
import Derived.Test.YtghbbpbhbinioaaGreatMr01
import Derived.Test.YtghbbpbhbinioaaGreatMr02
import Derived.WalkLawsBesides
import Derived.WalkSpells
import Derived.Deep.RegionWith
import Derived.RegionTactic
import Derived.RegionCalls
import Derived.BigQuiet
import Derived.Deep.QuietTactic
import Derived.Laws.LoneSync
import Derived.Laws.NewBlocks
import Derived.Laws.Pointers
namespace Go.Proofs.YtghbbpbhbinioaaGreat
open Go.RowKit

theorem vinfo : (Tryz.prog.info? 36).map (fun i => (i.zero, i.size, i.bytes)) = some (some (.agg #[.int .u8 0, .int .i64 0, .string ⟨#[]⟩]), 3, 32) := by kernel_rfl
theorem iinfo : (Tryz.prog.info? 3).map (fun i => (i.zero, i.size, i.bytes)) = some (some (.int .i64 0), 1, 8) := by kernel_rfl
theorem hinfo : (Tryz.prog.info? 118).map (fun i => (i.zero, i.size, i.bytes)) = some (some (.pointer none), 1, 8) := by kernel_rfl

def nums (l : List Int) : List Value := l.map fun x => Value.int .i64 x
theorem nums_length (l : List Int) : (nums l).length = l.length := by simp [nums]
theorem nums_at (l : List Int) (j : Nat) : (nums l)[j]? = l[j]?.map fun x => Value.int .i64 x := by simp [nums]
theorem nums_one (l : List Int) : ∀ u ∈ nums l, u.oneCell' = true := by
  intro u hu
  obtain ⟨b, _, rfl⟩ := List.mem_map.1 hu
  rfl
theorem flat_one (l : List V3) : ∀ u ∈ l.flatMap cells3, u.oneCell' = true := by
  intro u hu
  obtain ⟨x, _, hx⟩ := List.mem_flatMap.1 hu
  simp [cells3] at hx
  rcases hx with rfl | rfl | rfl <;> rfl

abbrev cagg (o a b : Int) (v k : Value) : Value := .agg #[.int .u32 o, .int .u32 a, .int .u32 b, v, k]

def Apart (o a b : Int) (vs : List V3) (ks : List Int) (w : World) (e : Ending) (w' : World) : Prop :=
  ∃ v k, e = .returned (cagg o a b v k) ∧ w'.ownsRow w.heap.size 36 3 v vs.length (vs.flatMap cells3) ∧ w'.ownsRow w.heap.size 3 1 k ks.length (nums ks) ∧ Below w.heap.size w w'

set_option maxHeartbeats 1600000 in
theorem apart (o a b : Int) (v k : Value) (vs : List V3) (ks : List Int) (w : World) (hv : Rd w v vs.length (vs.flatMap cells3)) (hk : Rd w k ks.length (nums ks)) (nv : vs.length ≤ 4194304) (nk : ks.length ≤ 4194304) :
    Calls Tryz.prog 75 #[cagg o a b v k] w (Apart o a b vs ks w) := by
  obtain ⟨i0, hi, hz0, hz1, hz2⟩ := info_parts vinfo
  obtain ⟨i1, hi1, hy0, hy1, hy2⟩ := info_parts iinfo
  obtain ⟨A, cv, rfl, _⟩ := hv.form
  obtain ⟨A', ck, rfl, _⟩ := hk.form
  have HV := Lib.hid hv
  have HK := Lib.hid hk
  clear hv hk
  go_enter Tryz.func75, Tryz.ntmps75
  go_wp2_with (at_builtin; refine wpList_append_rd rfl _ _ 50 rfl w.heap.size 36 i0 _ 3 32 Tryz.underlying50 hi hz0 hz1 hz2 rfl (by decide) _ 0 [] rfl (World.ownsRow_nil _ _ _ _) _ vs.length (vs.flatMap cells3) rfl ((HV.out.alloc _).alloc _) (flat_len vs) (flat_one vs) ?c1 ?c2 ?c3 ?_)
  case c1 => unfold maxLen; omega
  case c2 => omega
  case c3 => simp; omega
  intro v1 w1 hown1 hg1 _
  obtain ⟨X1, m1, rfl, _⟩ := (Rd.of_own hown1).form
  have r1 := ((C5.new w 94 (.int .u32 o) (.int .u32 a) (.int .u32 b) (.slice A vs.length cv) (.slice A' ks.length ck)).alloc _).grown hg1 (by simp [Value.ownBlock])
  have q1 := (C5.new (w.alloc _) 94 (.int .u32 0) (.int .u32 0) (.int .u32 0) (.slice none 0 0) (.slice none 0 0)).grown hg1 (by simp [Value.ownBlock])
  rw [show (w.alloc (.cells #[.int .u32 o, .int .u32 a, .int .u32 b, .slice A vs.length cv, .slice A' ks.length ck] 94)).heap.size = w.heap.size + 1 by simp] at q1
  have hb1 : Below w.heap.size w w1 := (((Below.refl _ w).alloc (Nat.le_refl _) _).alloc (by simp) _).grown hg1 (by simp; omega) (by simp [Value.ownBlock])
  have O1 := Lib.hid hown1
  have B1 := Lib.hid hb1
  have hs1 : w.heap.size + 1 < w1.heap.size := q1.lt
  clear hg1 hown1 hb1
  obtain ⟨c0, c1, c2, c3, c4, f0, f1, f2, f3, f4⟩ := r1.all
  have R1 := Lib.hid r1
  have Q1 := Lib.hid q1
  clear r1 q1
  go_wp2_with (at_builtin; refine wpList_append_rd rfl _ _ 92 rfl w.heap.size 3 i1 _ 1 8 Tryz.underlying92 hi1 hy0 hy1 hy2 rfl (by decide) _ 0 [] rfl (World.ownsRow_nil _ _ _ _) _ ks.length (nums ks) rfl ?k0 ?k1 (nums_one ks) ?k2 ?k3 ?k4 ?_)
  case k0 => exact HK.out.below (B1.out.setCell (Nat.le_refl _) _)
  case k1 => rw [nums_length]; omega
  case k2 => unfold maxLen; omega
  case k3 => omega
  case k4 => simp; omega
  intro v2 w2 hown2 hg2 hat2
  obtain ⟨X2, m2, rfl, _⟩ := (Rd.of_own hown2).form
  have r2 := (R1.out.set3 (.slice X1 vs.length m1)).grown hg2 (by simp [Value.ownBlock])
  have q2 := (Q1.out.other (g := w.heap.size) (o := 3) (by omega) (.slice X1 vs.length m1)).grown hg2 (by simp [Value.ownBlock])
  have hb2 : Below w.heap.size w w2 := (B1.out.setCell (p := ⟨w.heap.size, 3, none⟩) (Nat.le_refl _) _).grown hg2 (by simp; omega) (by simp [Value.ownBlock])
  have hv2 : w2.ownsRow w.heap.size 36 3 (.slice X1 vs.length m1) vs.length (vs.flatMap cells3) := by
    have hne := own_ne O1.out R1.out (by decide)
    exact (Kp.of_grown (F := fun _ => False) hg2 (by simp [Value.ownBlock])).own ((Kp.setCell (Kp.refl (fun k => k = w.heap.size) _) (.inl rfl) _).own O1.out hne) (fun _ _ => id)
  have hs2 : w.heap.size + 1 < w2.heap.size := q2.lt
  clear c0 c1 c2 c3 c4 f0 f1 f2 f3 f4 hg2 R1 Q1 B1
  have HB := Lib.hid hb2
  have HO := Lib.hid hown2
  have HW := Lib.hid hv2
  clear hb2 hown2 hv2 hat2
  obtain ⟨c0, c1, c2, c3, c4, f0, f1, f2, f3, f4⟩ := r2.all
  obtain ⟨d0, d1, d2, d3, d4, g0, g1, g2, g3, g4⟩ := q2.all
  have n1 := own_ne HW.out r2 (by decide)
  have n2 := own_ne HW.out q2 (by decide)
  have n3 := own_ne HO.out r2 (by decide)
  have n4 := own_ne HO.out q2 (by decide)
  have NE := Lib.hid (show (∀ k, (Value.slice X1 vs.length m1).ownBlock = some k → ¬ (k = w.heap.size ∨ k = w.heap.size + 1)) ∧ (∀ k, (Value.slice X2 ks.length m2).ownBlock = some k → ¬ (k = w.heap.size ∨ k = w.heap.size + 1)) from
    ⟨fun k hk => not_or.2 ⟨n1 k hk, n2 k hk⟩, fun k hk => not_or.2 ⟨n3 k hk, n4 k hk⟩⟩)
  clear r2 q2 n1 n2 n3 n4
  go_wp2_with fail
  refine bodyPost_ret (v := cagg o a b (.slice X1 vs.length m1) (.slice X2 ks.length m2)) (by simp [results, Tryz.results75, go_sem, d0, d1, d2, d3, d4]) rfl ⟨_, _, rfl, ?_, ?_, ?_⟩
  · exact (((((((Kp.refl (fun k => k = w.heap.size ∨ k = w.heap.size + 1) w2).setCell (.inl (.inl rfl)) _).setCell (.inl (.inr rfl)) _).setCell (.inl (.inr rfl)) _).setCell (.inl (.inr rfl)) _).setCell (.inl (.inr rfl)) _).setCell (.inl (.inr rfl)) _).own HW.out NE.out.1
  · exact (((((((Kp.refl (fun k => k = w.heap.size ∨ k = w.heap.size + 1) w2).setCell (.inl (.inl rfl)) _).setCell (.inl (.inr rfl)) _).setCell (.inl (.inr rfl)) _).setCell (.inl (.inr rfl)) _).setCell (.inl (.inr rfl)) _).setCell (.inl (.inr rfl)) _).own HO.out NE.out.2
  · exact (((((HB.out.setCell (Nat.le_refl _) _).setCell (Nat.le_succ _) _).setCell (Nat.le_succ _) _).setCell (Nat.le_succ _) _).setCell (Nat.le_succ _) _).setCell (Nat.le_succ _) _

end Go.Proofs.YtghbbpbhbinioaaGreat

namespace Go.Proofs.YtghbbpbhbinioaaGreat
set_option maxRecDepth 100000
open Go.RowKit

abbrev ap (b : Nat) : Value := .pointer (some ⟨b, 0, none⟩)
def ptrOf : Option (Hc × Nat) → Nat → Value
  | none, _ => .pointer none
  | some _, h => .pointer (some ⟨h, 0, none⟩)
def places (M : Cells) (H : Nat → Nat) (n : Nat) : List Value := (List.range n).map fun j => ptrOf (M (j + 1)) (H (j + 1))
def ns (l : List Nat) : List Int := l.map fun (x : Nat) => (x : Int)

def Cel (w : World) (F : Nat → Prop) (vf : Value) (h : Nat) (c : Hc) (r : Nat) : Prop :=
  ∃ v k, C6 w h 154 (.int .u32 c.owner) (.int .u32 c.a) (.int .u32 c.b) v k (.int .i64 r) ∧ w.ownsRow 0 36 3 v c.vals.length (c.vals.flatMap cells3) ∧
    w.ownsRow 0 3 1 k c.kids.length (nums (ns c.kids)) ∧ F h ∧ (∀ g, v.ownBlock = some g → F g) ∧ (∀ g, k.ownBlock = some g → F g ∧ vf.ownBlock ≠ some g) ∧ c.vals.length ≤ 4194304 ∧ c.kids.length ≤ 4194304

structure ArD (d : Nat) (w : World) (b most : Nat) (M : Cells) (F : Nat → Prop) (n : Nat) (vc vf : Value) (fr : List Nat) (H : Nat → Nat) : Prop where
  m1 : 1 ≤ most
  m2 : most ≤ 1048576
  row : C4 w b 134 (.int .i64 most) (.int .i64 (live (most + 1) M)) vc vf
  cs : w.ownsRow 0 118 1 vc n (places M H n)
  fs : w.ownsRow 0 3 1 vf fr.length (nums (ns fr))
  cel : ∀ j c r, M j = some (c, r) → 1 ≤ j ∧ j ≤ n ∧ 1 ≤ r ∧ Cel w F vf (H j) c r
  inj : ∀ j k, M j ≠ none → M k ≠ none → H j = H k → j = k
  nd : fr.Nodup
  fi : ∀ i ∈ fr, 1 ≤ i ∧ i ≤ n ∧ M i = none
  len : n = live (most + 1) M + fr.length + d
  le : n ≤ most
  fb : F b
  fc : ∀ k, vc.ownBlock = some k → F k
  ff : ∀ k, vf.ownBlock = some k → F k
  lt : ∀ k, F k → k < w.heap.size
def Ar (w : World) (b most : Nat) (M : Cells) (F : Nat → Prop) : Prop := ∃ n vc vf fr H, ArD 0 w b most M F n vc vf fr H

section
variable {d : Nat} {w w' : World} {b most : Nat} {M : Cells} {F G : Nat → Prop} {n : Nat} {vc vf : Value} {fr : List Nat} {H : Nat → Nat}
theorem places_length (M : Cells) (H : Nat → Nat) (n : Nat) : (places M H n).length = n := by simp [places]
theorem places_at {j : Nat} (hj : j < n) : (places M H n)[j]? = some (ptrOf (M (j + 1)) (H (j + 1))) := by simp [places, hj]
theorem Cel.kp {h : Nat} {c : Hc} {r : Nat} (hc : Cel w F vf h c r) (hk : Kp G w w') (hG : ∀ k, F k → ¬ G k) : Cel w' F vf h c r := by
  obtain ⟨v, k, h1, h2, h3, h4, h5, h6, h7, h8⟩ := hc
  exact ⟨v, k, h1.kp hk (hG _ h4), hk.own h2 (fun g hg => hG _ (h5 g hg)), hk.own h3 (fun g hg => hG _ (h6 g hg).1), h4, h5, h6, h7, h8⟩
theorem ArD.kp (h : ArD d w b most M F n vc vf fr H) (hk : Kp G w w') (hG : ∀ k, F k → ¬ G k) : ArD d w' b most M F n vc vf fr H where
  m1 := h.m1
  m2 := h.m2
  row := h.row.kp hk (hG _ h.fb)
  cs := hk.own h.cs (fun g hg => hG _ (h.fc g hg))
  fs := hk.own h.fs (fun g hg => hG _ (h.ff g hg))
  cel := fun j c r hj => by
    obtain ⟨h1, h2, h3, h4⟩ := h.cel j c r hj
    exact ⟨h1, h2, h3, h4.kp hk hG⟩
  inj := h.inj
  nd := h.nd
  fi := h.fi
  len := h.len
  le := h.le
  fb := h.fb
  fc := h.fc
  ff := h.ff
  lt := fun k hk' => Nat.lt_of_lt_of_le (h.lt k hk') hk.size
theorem Ar.kp (h : Ar w b most M F) (hk : Kp G w w') (hG : ∀ k, F k → ¬ G k) : Ar w' b most M F := by
  obtain ⟨n, vc, vf, fr, H, h⟩ := h
  exact ⟨n, vc, vf, fr, H, h.kp hk hG⟩
theorem Ar.below (h : Ar w b most M F) (hb : Below w.heap.size w w') : Ar w' b most M F := h.kp (Kp.of_below hb (fun _ => False)) (fun _ _ => id)
theorem Ar.alloc (h : Ar w b most M F) (o : Obj) : Ar (w.alloc o) b most M F := h.below ((Below.refl _ _).alloc (Nat.le_refl _) o)
theorem Ar.drew (h : Ar w b most M F) : Ar w.drew b most M F := h.below (Below.refl _ _).drew
theorem Ar.drewN (h : Ar w b most M F) (k : Nat) : Ar (w.drewN k) b most M F := h.below ⟨rfl, rfl, rfl, Nat.le_refl _, fun _ _ => rfl⟩
theorem Ar.blt (h : Ar w b most M F) : b < w.heap.size := by obtain ⟨n, vc, vf, fr, H, h⟩ := h; exact h.row.lt
theorem Ar.lt (h : Ar w b most M F) {k : Nat} (hk : F k) : k < w.heap.size := by obtain ⟨n, vc, vf, fr, H, h⟩ := h; exact h.lt k hk
theorem ArD.zero (h : ArD d w b most M F n vc vf fr H) : M 0 = none := by
  cases e : M 0 with
  | none => rfl
  | some x => have := (h.cel 0 x.1 x.2 e).1; omega
theorem ArD.top (h : ArD d w b most M F n vc vf fr H) {j : Nat} (hj : n < j) : M j = none := by
  cases e : M j with
  | none => rfl
  | some x => have := (h.cel j x.1 x.2 e).2.1; omega
theorem ArD.held (h : ArD d w b most M F n vc vf fr H) {j : Nat} (hj : M j ≠ none) : 1 ≤ j ∧ j ≤ n := by
  cases e : M j with
  | none => exact absurd e hj
  | some x => have := h.cel j x.1 x.2 e; exact ⟨this.1, this.2.1⟩
theorem live_le (N : Nat) (M : Cells) : live N M ≤ N := by
  have := sumTo_le (f := fun j => one (M j)) 1 N (fun j _ => by cases M j <;> simp [one])
  unfold live; omega
theorem ArD.live_le (h : ArD d w b most M F n vc vf fr H) : live (most + 1) M ≤ most := by have := h.len; have := h.le; omega
end

theorem quiet_same {P : Program} {f : FuncId} {args : Array Value} {w : World} {n : Nat} {v : Value}
    (h : Calls P f args (w.drewN n) fun e w' => e = .returned v ∧ w.drewN n = w') : Calls P f args (w.drewN n) fun e w'' => e = .returned v ∧ ∃ m, w'' = w.drewN m :=
  h.mono fun _ _ ⟨he, hm⟩ => ⟨he, n, hm.symm⟩

theorem anew (most : Nat) (w : World) (h1 : 1 ≤ most) (h2 : most ≤ 1048576) : Calls Tryz.prog 46 #[.int .i64 most] w fun e w' =>
    e = .returned (.tuple #[ap w.heap.size, .int .i64 0]) ∧ Ar w' w.heap.size most (fun _ => none) (fun k => k = w.heap.size) ∧ Below w.heap.size w w' := by
  have h1' : ¬ (most : Int) < 1 := by omega
  go_enter Tryz.func46, Tryz.ntmps46
  go_wp2
  go_ret2
  refine ⟨rfl, ⟨0, .slice none 0 0, .slice none 0 0, [], fun _ => 0, ?_⟩, (Below.refl _ _).alloc (Nat.le_refl _) _⟩
  have hl : live (most + 1) (fun _ => none) = 0 := live_zero fun _ => rfl
  refine ⟨h1, h2, ?_, World.ownsRow_nil _ _ _ _, World.ownsRow_nil _ _ _ _, fun j c r h => (by cases h), fun j k h => absurd rfl h, List.nodup_nil, (by simp), (by simp [hl]), Nat.zero_le _, rfl, (by simp [Value.ownBlock]), (by simp [Value.ownBlock]), (by simp)⟩
  rw [hl]
  exact C4.new w _ _ _ _ _
theorem alive (b most : Nat) (M : Cells) (F : Nat → Prop) (w : World) (h : Ar w b most M F) : Calls Tryz.prog 38 #[ap b] w fun e w' => e = .returned (.int .i64 (live (most + 1) M)) ∧ w = w' := by
  obtain ⟨n, vc, vf, fr, H, h⟩ := h
  have hl := run_call_load (P := Tryz.prog) Tryz.func109 (by kernel_rfl) (by kernel_rfl) (by kernel_rfl) .i64 (by kernel_rfl) h.row.c1
  have hle := h.live_le
  have h2 := h.m2
  clear h
  go_enter Tryz.func38, Tryz.ntmps38
  go_wp2_with (go_at_call 67; go_in)
  go_ret
  exact ⟨rfl, rfl⟩
set_option maxHeartbeats 1600000 in
theorem aroom (b most : Nat) (M : Cells) (F : Nat → Prop) (w : World) (h : Ar w b most M F) : Calls Tryz.prog 40 #[ap b] w fun e w' => e = .returned (.int .i64 ((most : Int) - live (most + 1) M)) ∧ ∃ k, w' = w.drewN k := by
  have h' := h
  obtain ⟨n, vc, vf, fr, H, hi⟩ := h'
  have c0 := hi.row.c0
  have hle := hi.live_le
  have h2 := hi.m2
  clear hi
  have hm1 : (most : Int) ≤ 1048576 := by omega
  have hm2 : ((live (most + 1) M : Nat) : Int) ≤ 1048576 := by omega
  go_enter Tryz.func40, Tryz.ntmps40
  go_wp2_with fail
  go_quiet ((go_at_call 38; exact quiet_same (alive b most M F _ (h.drewN _))))
  go_wp2_with fail
  go_ret
  exact ⟨rfl, _, rfl⟩
def fptr (M : Cells) (H : Nat → Nat) (i : Int) : Value := if 1 ≤ i then ptrOf (M i.toNat) (H i.toNat) else .pointer none
theorem fptr_nat (M : Cells) (H : Nat → Nat) (k : Nat) (hk : 1 ≤ k) : fptr M H k = ptrOf (M k) (H k) := by unfold fptr; rw [if_pos (by omega)]; simp
theorem fptr_none (M : Cells) (H : Nat → Nat) {i : Int} (h : 1 ≤ i → M i.toNat = none) : fptr M H i = .pointer none := by
  unfold fptr
  split
  · rename_i hi; rw [h hi]; rfl
  · rfl
theorem fptr_some (M : Cells) (H : Nat → Nat) {k : Nat} {x : Hc × Nat} (hk : 1 ≤ k) (h : M k = some x) : fptr M H k = ap (H k) := by rw [fptr_nat M H k hk, h]; rfl

section
variable {d : Nat} {b most : Nat} {M : Cells} {F : Nat → Prop} {n : Nat} {vc vf : Value} {fr : List Nat} {H : Nat → Nat}
set_option maxHeartbeats 1600000 in
theorem find (i : Int) (w : World) (h : ArD d w b most M F n vc vf fr H) : Calls Tryz.prog 59 #[ap b, .int .i64 i] w fun e w' => e = .returned (fptr M H i) ∧ w = w' := by
  obtain ⟨A, c, rfl, hc⟩ := (Rd.of_own h.cs).form
  have c2 := h.row.c2
  have hn : n ≤ 1048576 := by have := h.le; have := h.m2; omega
  by_cases h1 : i < 1
  · rw [fptr_none M H (fun h => by omega)]
    clear h
    go_enter Tryz.func59, Tryz.ntmps59
    go_wp2_with fail
    go_ret
    exact ⟨rfl, rfl⟩
  · obtain ⟨k, rfl⟩ : ∃ k : Nat, i = k := ⟨i.toNat, by omega⟩
    by_cases h2 : n < k
    · rw [fptr_none M H (fun _ => by simpa using h.top h2)]
      clear h
      go_enter Tryz.func59, Tryz.ntmps59
      go_wp2_with fail
      go_ret
      exact ⟨rfl, rfl⟩
    · obtain ⟨j, rfl⟩ : ∃ j, k = j + 1 := ⟨k - 1, by omega⟩
      obtain ⟨g, c', e, _, hx, _⟩ := own_at h.cs (places_at (M := M) (H := H) (n := n) (j := j) (by omega))
      simp only [Value.slice.injEq, true_and] at e
      obtain ⟨rfl, rfl⟩ := e
      have HF := Lib.hid (fptr_nat M H (j + 1) (by omega))
      clear h
      have hj : ((j + 1 : Nat) : Int) - 1 = j := by omega
      go_enter Tryz.func59, Tryz.ntmps59
      go_wp2_with fail
      go_ret
      exact ⟨congrArg Ending.returned HF.out.symm, rfl⟩
def goodB (M : Cells) (x : Int) : Bool := x == 0 || (decide (1 ≤ x) && (M x.toNat).isSome)
theorem good_fptr {x : Int} (h0 : x ≠ 0) (hg : goodB M x = true) : fptr M H x = ap (H x.toNat) := by
  unfold goodB at hg
  simp only [Bool.or_eq_true, beq_iff_eq, h0, false_or, Bool.and_eq_true, decide_eq_true_eq] at hg
  obtain ⟨k, rfl⟩ : ∃ k : Nat, x = k := ⟨x.toNat, by omega⟩
  obtain ⟨y, hy⟩ := Option.isSome_iff_exists.1 hg.2
  exact fptr_some M H (by omega) hy
theorem bad_fptr {x : Int} (hg : goodB M x = false) : fptr M H x = .pointer none := by
  unfold goodB at hg
  simp only [Bool.or_eq_false_iff, beq_eq_false_iff_ne, Bool.and_eq_false_iff, decide_eq_false_iff_not] at hg
  refine fptr_none M H fun h1 => ?_
  rcases hg.2 with h | h
  · exact absurd h1 h
  · exact Option.isSome_eq_false_iff.1 h |> Option.isNone_iff_eq_none.1

set_option maxHeartbeats 1600000 in
theorem allHeld (v : Value) (ks : List Int) (w : World) (h : ArD d w b most M F n vc vf fr H) (hv : Rd w v ks.length (nums ks)) (hl : ks.length ≤ 4194304) :
    Calls Tryz.prog 73 #[ap b, v] w fun e w' => e = .returned (.bool (ks.all (goodB M))) ∧ w = w' := by
  obtain ⟨A, c, rfl, hc⟩ := hv.form
  go_enter Tryz.func73, Tryz.ntmps73
  go_wp2_with fail
  go_loop [9] (fun i => ∃ j : Nat, j ≤ ks.length ∧ i = .int .i64 j ∧ (ks.take j).all (goodB M) = true) (fun i => ks.length - (intOf i).toNat)
  case atStart => exact ⟨0, Nat.zero_le _, rfl, rfl⟩
  case round =>
    obtain ⟨j, hj, rfl, hall⟩ := hrel
    have HA := Lib.hid hall
    clear hall
    by_cases h1 : j < ks.length
    · obtain ⟨x, hx⟩ : ∃ x, ks[j]? = some x := ⟨_, List.getElem?_eq_getElem h1⟩
      obtain ⟨g, o, c', e, _, hcell⟩ := hv.at (j := j) (by rw [nums_at, hx]; rfl)
      injection e with e1 e2 e3
      subst e1 e3
      have HX := Lib.hid hx
      clear hx
      have hstep : (ks.take (j + 1)).all (goodB M) = goodB M x := by
        rw [List.take_add_one, HX.out, List.all_append, HA.out]; simp
      have HS := Lib.hid hstep
      clear hstep
      by_cases h0 : x = 0
      · subst h0
        go_wp2_with fail
        go_round
        case rel => exact ⟨j + 1, by omega, by go_num, by rw [HS.out]; rfl⟩
        case measure => simp [intOf]; omega
      · cases hg : goodB M x
        · have hf := bad_fptr (H := H) hg
          have hall : ks.all (goodB M) = false := by
            rw [List.all_eq_false]
            exact ⟨x, List.mem_of_getElem? HX.out, by simp [hg]⟩
          have HL := Lib.hid hall
          clear hall
          go_wp2_with (go_at_call 59; refine (find _ _ h).mono ?_; rintro e w' ⟨rfl, rfl⟩; rw [hf])
          go_ret
          exact ⟨ret_bool HL.out.symm, rfl⟩
        · have hf := good_fptr (H := H) h0 hg
          go_wp2_with (go_at_call 59; refine (find _ _ h).mono ?_; rintro e w' ⟨rfl, rfl⟩; rw [hf])
          go_round
          case rel => exact ⟨j + 1, by omega, by go_num, by rw [HS.out]; exact hg⟩
          case measure => simp [intOf]; omega
    · obtain rfl : j = ks.length := by omega
      rw [List.take_length] at HA
      go_wp2_with fail
      go_ret
      exact ⟨ret_bool HA.out.symm, rfl⟩
end

def rfi (M : Cells) (i : Int) : Nat := if 1 ≤ i then rf (M i.toNat) else 0
theorem arefs (i : Int) (b most : Nat) (M : Cells) (F : Nat → Prop) (w : World) (h : Ar w b most M F) : Calls Tryz.prog 129 #[ap b, .int .i64 i] w fun e w' => e = .returned (.int .i64 (rfi M i)) ∧ w = w' := by
  obtain ⟨n, vc, vf, fr, H, h⟩ := h
  by_cases hs : 1 ≤ i ∧ M i.toNat ≠ none
  · obtain ⟨k, rfl⟩ : ∃ k : Nat, i = k := ⟨i.toNat, by omega⟩
    obtain ⟨x, hx⟩ := Option.ne_none_iff_exists'.1 hs.2
    simp only [Int.toNat_natCast] at hx
    obtain ⟨_, _, _, v, q, r6, _⟩ := h.cel k x.1 x.2 hx
    have hf := fptr_some M H (by omega) hx
    have c5 := r6.c5
    have he : rfi M k = x.2 := by unfold rfi; rw [if_pos (by omega), Int.toNat_natCast, hx]; rfl
    rw [he]
    clear r6
    go_enter Tryz.func129, Tryz.ntmps129
    go_wp2_with (go_at_call 59; refine (find _ _ h).mono ?_; rintro e w' ⟨rfl, rfl⟩; rw [hf])
    go_ret
    exact ⟨rfl, rfl⟩
  · have hn : 1 ≤ i → M i.toNat = none := fun h1 => Classical.byContradiction fun hne => hs ⟨h1, hne⟩
    have hf := fptr_none M H hn
    have he : rfi M i = 0 := by
      unfold rfi
      split
      · rename_i h1; rw [hn h1]; rfl
      · rfl
    rw [he]
    go_enter Tryz.func129, Tryz.ntmps129
    go_wp2_with (go_at_call 59; refine (find _ _ h).mono ?_; rintro e w' ⟨rfl, rfl⟩; rw [hf])
    go_ret
    exact ⟨rfl, rfl⟩
end Go.Proofs.YtghbbpbhbinioaaGreat

namespace Go.Proofs.YtghbbpbhbinioaaGreat
set_option maxRecDepth 100000
open Go.RowKit

def Got (c : Hc) (w : World) (e : Ending) (w' : World) : Prop :=
  ∃ v k, e = .returned (.tuple #[cagg c.owner c.a c.b v k, .bool true]) ∧ w'.ownsRow w.heap.size 36 3 v c.vals.length (c.vals.flatMap cells3) ∧ w'.ownsRow w.heap.size 3 1 k c.kids.length (nums (ns c.kids)) ∧ Below w.heap.size w w'
theorem ns_length (l : List Nat) : (ns l).length = l.length := by simp [ns]

set_option maxRecDepth 100000 in
set_option maxHeartbeats 800000 in
theorem get_no (i : Int) (b most : Nat) (M : Cells) (F : Nat → Prop) (w : World) (h : Ar w b most M F) (hn : 1 ≤ i → M i.toNat = none) :
    Calls Tryz.prog 100 #[ap b, .int .i64 i] w fun e w' => e = .returned (.tuple #[cagg 0 0 0 (.slice none 0 0) (.slice none 0 0), .bool false]) ∧ Below w.heap.size w w' := by
  have h' := h.alloc (.cells #[.int .u32 0, .int .u32 0, .int .u32 0, .slice none 0 0, .slice none 0 0] 94)
  obtain ⟨n, vc, vf, fr, H, h⟩ := h'
  have hf := fptr_none M H hn
  go_enter Tryz.func100, Tryz.ntmps100
  go_wp2_with (go_at_call 59; refine (find _ _ h).mono ?_; rintro e w1 ⟨rfl, hw⟩; rw [hf]; have q1 : C5 w1 w.heap.size 94 (.int .u32 0) (.int .u32 0) (.int .u32 0) (.slice none 0 0) (.slice none 0 0) := hw ▸ C5.new w _ _ _ _ _ _; have B1 := Lib.hid (show Below w.heap.size w w1 from hw ▸ (Below.refl _ w).alloc (Nat.le_refl _) _); clear hw; obtain ⟨d0, d1, d2, d3, d4, g0, g1, g2, g3, g4⟩ := q1.all; clear q1)
  refine bodyPost_ret (v := .tuple #[cagg 0 0 0 (.slice none 0 0) (.slice none 0 0), .bool false]) (by simp [results, Tryz.results100, go_sem, d0, d1, d2, d3, d4]) rfl ⟨rfl, ?_⟩
  exact ((((B1.out.setCell (Nat.le_refl _) _).setCell (Nat.le_refl _) _).setCell (Nat.le_refl _) _).setCell (Nat.le_refl _) _).setCell (Nat.le_refl _) _
set_option maxRecDepth 100000 in
set_option maxHeartbeats 1600000 in
theorem get (i : Nat) (c : Hc) (r : Nat) (b most : Nat) (M : Cells) (F : Nat → Prop) (w : World) (h : Ar w b most M F) (hi : M i = some (c, r)) :
    Calls Tryz.prog 100 #[ap b, .int .i64 i] w (Got c w) := by
  have h' := h.alloc (.cells #[.int .u32 0, .int .u32 0, .int .u32 0, .slice none 0 0, .slice none 0 0] 94)
  obtain ⟨n, vc, vf, fr, H, h⟩ := h'
  obtain ⟨h1, _, _, v, k, r6, hv, hk, _, _, _, nv, nk⟩ := h.cel i c r hi
  have hf := fptr_some M H h1 hi
  obtain ⟨A, cv, rfl, _⟩ := (Rd.of_own hv).form
  obtain ⟨A', ck, rfl, _⟩ := (Rd.of_own hk).form
  have c0 := r6.c0
  have c1 := r6.c1
  have c2 := r6.c2
  have c3 := r6.c3
  have c4 := r6.c4
  clear r6 h1
  go_enter Tryz.func100, Tryz.ntmps100
  go_wp2_with (first | (go_at_call 59; refine (find _ _ h).mono ?_; rintro e w' ⟨rfl, rfl⟩; rw [hf]) | (go_at_call 75; refine (apart c.owner c.a c.b _ _ c.vals (ns c.kids) _ (Rd.of_own hv) (by rw [ns_length]; exact Rd.of_own hk) nv (by rw [ns_length]; exact nk)).mono ?_; rintro e w1 ⟨v1, k1, rfl, ho1, ho2, hb1⟩; obtain ⟨X1, m1, rfl, _⟩ := (Rd.of_own ho1).form; rw [ns_length] at ho2; obtain ⟨X2, m2, rfl, _⟩ := (Rd.of_own ho2).form; have q1 := (C5.new w 94 (.int .u32 0) (.int .u32 0) (.int .u32 0) (.slice none 0 0) (.slice none 0 0)).below hb1; obtain ⟨d0, d1, d2, d3, d4, g0, g1, g2, g3, g4⟩ := q1.all; have N1 := Lib.hid (own_ne ho1 q1 (by decide)); have N2 := Lib.hid (own_ne ho2 q1 (by decide)); have O1 := Lib.hid ho1; have O2 := Lib.hid ho2; have B1 := Lib.hid hb1; clear q1 ho1 ho2 hb1))
  refine bodyPost_ret (v := .tuple #[cagg c.owner c.a c.b (.slice X1 c.vals.length m1) (.slice X2 c.kids.length m2), .bool true]) (by simp [results, Tryz.results100, go_sem, d0, d1, d2, d3, d4]) rfl ⟨_, _, rfl, ?_, ?_, ?_⟩
  · exact (((((((Kp.refl (fun k => k = w.heap.size) w1).setCell (.inl rfl) _).setCell (.inl rfl) _).setCell (.inl rfl) _).setCell (.inl rfl) _).setCell (.inl rfl) _).own (own_less O1.out (by simp)) N1.out)
  · exact (((((((Kp.refl (fun k => k = w.heap.size) w1).setCell (.inl rfl) _).setCell (.inl rfl) _).setCell (.inl rfl) _).setCell (.inl rfl) _).setCell (.inl rfl) _).own (own_less O2.out (by simp)) N2.out)
  · have hb : Below w.heap.size w w1 := ((Below.refl _ w).alloc (Nat.le_refl _) _).trans (B1.out.mono (by simp))
    exact ((((hb.setCell (Nat.le_refl _) _).setCell (Nat.le_refl _) _).setCell (Nat.le_refl _) _).setCell (Nat.le_refl _) _).setCell (Nat.le_refl _) _

end Go.Proofs.YtghbbpbhbinioaaGreat

namespace Go.Proofs.YtghbbpbhbinioaaGreat
set_option maxRecDepth 100000
open Go.RowKit

def Fn (F : Nat → Prop) (w w' : World) : Nat → Prop := fun k => F k ∨ (w.heap.size ≤ k ∧ k < w'.heap.size)
theorem Fn.old {F : Nat → Prop} {w w' : World} {k : Nat} (h : Fn F w w' k) : F k ∨ w.heap.size ≤ k := h.elim .inl fun h => .inr h.1
theorem Fn.lt {F : Nat → Prop} {w w' : World} (h : ∀ k, F k → k < w.heap.size) (hs : w.heap.size ≤ w'.heap.size) : ∀ k, Fn F w w' k → k < w'.heap.size := fun k hk => by
  rcases hk with hk | hk
  · exact Nat.lt_of_lt_of_le (h k hk) hs
  · exact hk.2

section
variable {d : Nat} {w w' : World} {b most : Nat} {M : Cells} {F G : Nat → Prop} {n : Nat} {vc vf : Value} {fr : List Nat} {H : Nat → Nat}

theorem Cel.mono {h : Nat} {c : Hc} {r : Nat} (hc : Cel w F vf h c r) (hF : ∀ k, F k → G k) : Cel w G vf h c r := by
  obtain ⟨v, k, h1, h2, h3, h4, h5, h6, h7, h8⟩ := hc
  exact ⟨v, k, h1, h2, h3, hF _ h4, fun g hg => hF _ (h5 g hg), fun g hg => ⟨hF _ (h6 g hg).1, (h6 g hg).2⟩, h7, h8⟩
theorem Cel.six {h : Nat} {c : Hc} {r : Nat} (hc : Cel w F vf h c r) : ∃ cur, w.heap[h]? = some (.cells cur 154 (0, 0)) := by
  obtain ⟨v, k, h1, _⟩ := hc
  exact ⟨_, h1⟩
theorem Cel.keep {h g : Nat} {c : Hc} {r : Nat} {cur : Array Value} (hc : Cel w F vf h c r) (hk : Kp (fun k => k = g) w w') (hg : w.heap[g]? = some (.cells cur 154 (0, 0))) (hne : h ≠ g) : Cel w' F vf h c r := by
  obtain ⟨v, k, h1, h2, h3, h4, h5, h6, h7, h8⟩ := hc
  exact ⟨v, k, h1.kp hk hne, hk.own h2 (own_ne h2 hg (by decide)), hk.own h3 (own_ne h3 hg (by decide)), h4, h5, h6, h7, h8⟩
theorem live_same {N i : Nat} {x y : Hc × Nat} (h : M i = some x) (hi : i < N) : live N (upd M i (some y)) = live N M := by
  have := live_upd (M := M) i (some y) hi
  rw [h] at this
  simp only [one] at this
  omega
theorem places_same {i : Nat} {x y : Hc × Nat} (h : M i = some x) (H : Nat → Nat) (n : Nat) : places (upd M i (some y)) H n = places M H n := by
  unfold places
  apply List.map_congr_left
  intro j _
  by_cases e : j + 1 = i
  · subst e; rw [upd_same, h]; rfl
  · rw [upd_other _ _ e]

theorem ArD.put (h : ArD d w b most M F n vc vf fr H) {i : Nat} {x y : Hc × Nat} (hi : M i = some x) (hk : Kp (fun k => k = H i) w w') (hF : ∀ k, F k → G k) (hG : ∀ k, G k → k < w'.heap.size) (hc : Cel w' G vf (H i) y.1 y.2) (hr : 1 ≤ y.2) :
    ArD d w' b most (upd M i (some y)) G n vc vf fr H := by
  obtain ⟨i1, i2, i3, i4⟩ := h.cel i x.1 x.2 hi
  obtain ⟨cur, h6⟩ := i4.six
  have hN : i < most + 1 := by have := h.le; omega
  refine ⟨h.m1, h.m2, ?_, ?_, ?_, ?_, ?_, h.nd, ?_, ?_, h.le, hF _ h.fb, fun k hk' => hF _ (h.fc k hk'), fun k hk' => hF _ (h.ff k hk'), hG⟩
  · rw [live_same hi hN]; exact h.row.kp hk (ne_types h.row h6 (by decide))
  · rw [places_same hi]; exact hk.own h.cs (own_ne h.cs h6 (by decide))
  · exact hk.own h.fs (own_ne h.fs h6 (by decide))
  · intro j c r hj
    by_cases e : j = i
    · subst e
      rw [upd_same] at hj
      injection hj with hj
      subst hj
      exact ⟨i1, i2, hr, hc⟩
    · rw [upd_other _ _ e] at hj
      obtain ⟨j1, j2, j3, j4⟩ := h.cel j c r hj
      exact ⟨j1, j2, j3, (j4.keep hk h6 (fun eq => e (h.inj j i (by rw [hj]; simp) (by rw [hi]; simp) eq))).mono hF⟩
  · have hh : ∀ j, upd M i (some y) j ≠ none → M j ≠ none := fun j hj => by
      by_cases e : j = i
      · subst e; rw [hi]; simp
      · rwa [upd_other _ _ e] at hj
    exact fun j k hj hk' => h.inj j k (hh j hj) (hh k hk')
  · intro j hj
    obtain ⟨j1, j2, j3⟩ := h.fi j hj
    refine ⟨j1, j2, ?_⟩
    rw [upd_other _ _ (by rintro rfl; rw [hi] at j3; cases j3)]
    exact j3
  · rw [live_same hi hN]; exact h.len
end

theorem akeep (i : Nat) (c : Hc) (r : Nat) (b most : Nat) (M : Cells) (F : Nat → Prop) (w : World) (h : Ar w b most M F) (hi : M i = some (c, r)) (hr : r ≤ 4611686018427387904) :
    Calls Tryz.prog 63 #[ap b, .int .i64 i] w fun e w' => e = .returned (.int .i64 0) ∧ Ar w' b most (upd M i (some (c, r + 1))) (Fn F w w') ∧ Kp F w w' := by
  obtain ⟨n, vc, vf, fr, H, h⟩ := h
  obtain ⟨h1, _, _, h6⟩ := h.cel i c r hi
  have hf := fptr_some M H h1 hi
  obtain ⟨v, k, r6, hv, hk, hF, fv, fk, nv, nk⟩ := h6
  have hA : Kp (fun k => k = H i) w (w.setCell ⟨H i, 5, none⟩ (.int .i64 ((r + 1 : Nat) : Int))) := Kp.one w _ _ _
  have hnew : ArD 0 (w.setCell ⟨H i, 5, none⟩ (.int .i64 ((r + 1 : Nat) : Int))) b most (upd M i (some (c, r + 1))) (Fn F w (w.setCell ⟨H i, 5, none⟩ (.int .i64 ((r + 1 : Nat) : Int)))) n vc vf fr H :=
    h.put (y := (c, r + 1)) hi hA (fun _ => .inl) (Fn.lt h.lt hA.size)
      ⟨v, k, r6.set5 _, hA.own hv (own_ne hv r6 (by decide)), hA.own hk (own_ne hk r6 (by decide)), .inl hF, fun g hg => .inl (fv g hg), fun g hg => ⟨.inl (fk g hg).1, (fk g hg).2⟩, nv, nk⟩ (by simp)
  have HN := Lib.hid hnew
  have HK := Lib.hid (show Kp F w _ from hA.mono (G := F) fun k e _ => e ▸ hF)
  have c5 := r6.c5
  have f5 := r6.fz 5
  clear hnew hA r6 h1
  go_enter Tryz.func63, Tryz.ntmps63
  go_wp2_with (go_at_call 59; refine (find _ _ h).mono ?_; rintro e w' ⟨rfl, rfl⟩; rw [hf])
  go_ret
  exact ⟨rfl, ⟨n, vc, vf, fr, H, HN.out⟩, HK.out⟩
theorem akeep_no (i : Int) (b most : Nat) (M : Cells) (F : Nat → Prop) (w : World) (h : Ar w b most M F) (hn : 1 ≤ i → M i.toNat = none) :
    Calls Tryz.prog 63 #[ap b, .int .i64 i] w fun e w' => e = .returned (.int .i64 4) ∧ w = w' := by
  obtain ⟨n, vc, vf, fr, H, h⟩ := h
  have hf := fptr_none M H hn
  go_enter Tryz.func63, Tryz.ntmps63
  go_wp2_with (go_at_call 59; refine (find _ _ h).mono ?_; rintro e w' ⟨rfl, rfl⟩; rw [hf])
  go_ret
  exact ⟨rfl, rfl⟩
end Go.Proofs.YtghbbpbhbinioaaGreat

namespace Go.Proofs.YtghbbpbhbinioaaGreat
set_option maxRecDepth 100000
open Go.RowKit

section
variable {d : Nat} {w w' : World} {b most : Nat} {M : Cells} {F G : Nat → Prop} {n : Nat} {vc vf : Value} {fr : List Nat} {H : Nat → Nat}

theorem Cel.keepT {h : Nat} {c : Hc} {r : Nat} (hc : Cel w F vf h c r) (hk : Kp G w w') (hG : ∀ k, G k → ∃ cur t z, w.heap[k]? = some (.cells cur t z) ∧ t ≠ 154 ∧ t ≠ 36 ∧ t ≠ 3) : Cel w' F vf h c r := by
  obtain ⟨v, k, h1, h2, h3, h4, h5, h6, h7, h8⟩ := hc
  refine ⟨v, k, h1.kp hk fun g => ?_, hk.own h2 fun j hj g => ?_, hk.own h3 fun j hj g => ?_, h4, h5, h6, h7, h8⟩
  · obtain ⟨cur, t, z, hg, t1, _⟩ := hG _ g
    exact ne_types h1 hg (Ne.symm t1) rfl
  · obtain ⟨cur, t, z, hg, _, t2, _⟩ := hG _ g
    exact own_ne h2 hg (Ne.symm t2) j hj rfl
  · obtain ⟨cur, t, z, hg, _, _, t3⟩ := hG _ g
    exact own_ne h3 hg (Ne.symm t3) j hj rfl
theorem Cel.vf' {h : Nat} {c : Hc} {r : Nat} {vf' : Value} (hc : Cel w F vf h c r) (hv : ∀ g, vf'.ownBlock = some g → vf.ownBlock = some g ∨ ¬ F g) : Cel w F vf' h c r := by
  obtain ⟨v, k, h1, h2, h3, h4, h5, h6, h7, h8⟩ := hc
  refine ⟨v, k, h1, h2, h3, h4, h5, fun g hg => ⟨(h6 g hg).1, fun e => ?_⟩, h7, h8⟩
  rcases hv g e with e' | e'
  · exact (h6 g hg).2 e'
  · exact e' (h6 g hg).1

theorem places_succ (h : M (n + 1) = none) : places M H (n + 1) = places M H n ++ [.pointer none] := by
  unfold places
  rw [List.range_succ, List.map_append, List.map_singleton, h]
  rfl

theorem ArD.grow (h : ArD 0 w b most M F n vc vf [] H) (hlt : live (most + 1) M < most) {v' : Value} {w1 : World} {o : Obj} (hown : w1.ownsRow 0 118 1 v' (n + 1) (places M H n ++ [.pointer none])) (hg : (w.alloc o).grownBy w1 vc.ownBlock)
    (hat : v'.ownBlock = vc.ownBlock ∨ v'.ownBlock = some (w.heap.size + 1)) :
    ArD 1 (w1.setCell ⟨b, 2, none⟩ v') b most M (Fn F w (w1.setCell ⟨b, 2, none⟩ v')) (n + 1) v' vf [] H ∧ Kp F w (w1.setCell ⟨b, 2, none⟩ v') := by
  have hl := h.len
  simp only [List.length_nil, Nat.add_zero] at hl
  have k1 : Kp (fun k => vc.ownBlock = some k) w w1 := ((Kp.refl (fun k => vc.ownBlock = some k) w).alloc o).trans (Kp.of_grown (F := fun k => vc.ownBlock = some k) hg (fun k e => .inl e)) (fun k e => .inl e)
  have k2 : Kp (fun k => vc.ownBlock = some k ∨ k = b) w (w1.setCell ⟨b, 2, none⟩ v') := (k1.mono (G := fun k => vc.ownBlock = some k ∨ k = b) (fun _ e _ => .inl e)).setCell (.inl (.inr rfl)) _
  have hG : ∀ k, (vc.ownBlock = some k ∨ k = b) → ∃ cur t z, w.heap[k]? = some (.cells cur t z) ∧ t ≠ 154 ∧ t ≠ 36 ∧ t ≠ 3 := by
    rintro k (e | rfl)
    · obtain ⟨cur, hc⟩ := own_type h.cs k e
      exact ⟨cur, _, _, hc, by decide, by decide, by decide⟩
    · exact ⟨_, _, _, h.row, by decide, by decide, by decide⟩
  have hcb : ∀ k, vc.ownBlock = some k → k ≠ b := own_ne h.cs h.row (by decide)
  have r1 : C4 w1 b 134 (.int .i64 most) (.int .i64 (live (most + 1) M)) vc vf := h.row.kp k1 (fun e => hcb b e rfl)
  have hF : Kp F w (w1.setCell ⟨b, 2, none⟩ v') := k2.mono (fun k e _ => e.elim (h.fc k) (fun e => e ▸ h.fb))
  have hsz : w.heap.size + 1 ≤ w1.heap.size := by have := hg.size; simpa using this
  refine ⟨⟨h.m1, h.m2, r1.set2 v', ?_, ?_, ?_, h.inj, h.nd, by simp, ?_, by omega, .inl h.fb, ?_, fun k hk => .inl (h.ff k hk), Fn.lt h.lt hF.size⟩, hF⟩
  · rw [places_succ (h.top (Nat.lt_succ_self n))]
    refine (Kp.one w1 b 2 v').own hown (own_ne hown r1 (by decide))
  · refine k2.own h.fs fun k hk e => ?_
    rcases e with e | rfl
    · obtain ⟨cur, hc⟩ := own_type h.cs k e
      exact own_ne h.fs hc (by decide) k hk rfl
    · exact own_ne h.fs h.row (by decide) k hk rfl
  · intro j c r hj
    obtain ⟨j1, j2, j3, j4⟩ := h.cel j c r hj
    exact ⟨j1, by omega, j3, (j4.keepT k2 hG).mono fun _ => .inl⟩
  · simp only [List.length_nil]; omega
  · intro k hk
    have hlt : k < (w1.setCell ⟨b, 2, none⟩ v').heap.size := by have := (hown.lt k hk).2; simpa using this
    rcases hat with e | e
    · exact .inl (h.fc k (e ▸ hk))
    · rw [e] at hk; injection hk with hk; exact .inr ⟨by omega, hlt⟩

theorem take_ns (l : List Nat) (i : Nat) : (nums (ns (l ++ [i]))).take (l.length * 1) = nums (ns l) := by
  rw [Nat.mul_one]
  unfold nums ns
  rw [List.map_append, List.map_append, List.take_left' (by simp)]

theorem ArD.shrink {i g c : Nat} (h : ArD 0 w b most M F n vc (.slice (some ⟨g, 0, none⟩) (fr ++ [i]).length c) (fr ++ [i]) H) :
    ArD 1 (w.setCell ⟨b, 3, none⟩ (.slice (some ⟨g, 0, none⟩) fr.length c)) b most M (Fn F w (w.setCell ⟨b, 3, none⟩ (.slice (some ⟨g, 0, none⟩) fr.length c))) n vc (.slice (some ⟨g, 0, none⟩) fr.length c) fr H ∧
      Kp F w (w.setCell ⟨b, 3, none⟩ (.slice (some ⟨g, 0, none⟩) fr.length c)) := by
  have hk := Kp.one w b 3 (.slice (some ⟨g, 0, none⟩) fr.length c)
  have hF : Kp F w (w.setCell ⟨b, 3, none⟩ (.slice (some ⟨g, 0, none⟩) fr.length c)) := hk.mono (fun k e _ => e ▸ h.fb)
  have hG : ∀ k, k = b → ∃ cur t z, w.heap[k]? = some (.cells cur t z) ∧ t ≠ 154 ∧ t ≠ 36 ∧ t ≠ 3 := by
    rintro k rfl
    exact ⟨_, _, _, h.row, by decide, by decide, by decide⟩
  have hfs := own_take h.fs (m := fr.length) (by simp)
  rw [take_ns] at hfs
  have hl := h.len
  simp only [List.length_append, List.length_singleton, Nat.add_zero] at hl
  refine ⟨⟨h.m1, h.m2, h.row.set3 _, hk.own h.cs (own_ne h.cs h.row (by decide)), hk.own hfs (own_ne hfs h.row (by decide)), ?_, h.inj, (List.nodup_append.1 h.nd).1, fun j hj => h.fi j (List.mem_append_left _ hj), by omega, h.le, .inl h.fb, fun k hk' => .inl (h.fc k hk'), fun k hk' => .inl (h.ff k hk'), Fn.lt h.lt hk.size⟩, hF⟩
  intro j c' r hj
  obtain ⟨j1, j2, j3, j4⟩ := h.cel j c' r hj
  exact ⟨j1, j2, j3, ((j4.keepT hk hG).vf' (fun _ e => .inl e)).mono fun _ => .inl⟩
end

def Unused (b most : Nat) (M : Cells) (F : Nat → Prop) (H : Nat → Nat) (w : World) (e : Ending) (w' : World) : Prop :=
  ∃ (i n : Nat) (vc vf : Value) (fr : List Nat), e = .returned (.int .i64 i) ∧ ArD 1 w' b most M (Fn F w w') n vc vf fr H ∧ 1 ≤ i ∧ i ≤ n ∧ M i = none ∧ i ∉ fr ∧ Kp F w w'

set_option maxRecDepth 100000 in
set_option maxHeartbeats 1600000 in
theorem unused {b most : Nat} {M : Cells} {F : Nat → Prop} {n : Nat} {vc vf : Value} {fr : List Nat} {H : Nat → Nat} (w : World) (h : ArD 0 w b most M F n vc vf fr H) (hlt : live (most + 1) M < most) :
    Calls Tryz.prog 74 #[ap b] w (Unused b most M F H w) := by
  have hn : n ≤ 1048576 := by have := h.le; have := h.m2; omega
  have hf : fr.length ≤ 1048576 := by have := h.len; omega
  obtain ⟨_, _, c2, c3, _, _, f2, f3⟩ := h.row.all
  by_cases hnil : fr = []
  · subst hnil
    obtain ⟨i0, hi, hz0, hz1, hz2⟩ := info_parts hinfo
    obtain ⟨A, c, rfl, _⟩ := (Rd.of_own h.fs).form
    have HA := Lib.hid h
    have hnl := Lib.hid (h.top (Nat.lt_succ_self n))
    have hle := Lib.hid h.len
    have hlt' := h.row.lt
    have hcb : ∀ k, vc.ownBlock = some k → k ≠ b := own_ne h.cs h.row (by decide)
    have HB := Lib.hid hcb
    obtain ⟨Ac, cc, rfl, _⟩ := (Rd.of_own h.cs).form
    clear h hcb
    go_enter Tryz.func74, Tryz.ntmps74
    go_wp2_with (at_builtin; refine wpList_append_rd rfl _ _ 132 rfl 0 118 i0 _ 1 8 Tryz.underlying132 hi hz0 hz1 hz2 rfl (by decide) _ n (places M H n) rfl (HA.out.cs.alloc _) _ 1 [.pointer none] rfl ?k0 rfl ?k1 ?k2 ?k3 (Nat.zero_le _) ?_)
    case k0 => exact Rd.one _ _ _
    case k1 => intro u hu; simp at hu; subst hu; rfl
    case k2 => unfold maxLen; omega
    case k3 => omega
    intro v1 w1 hown hg hat
    obtain ⟨A1, c1, rfl, _⟩ := (Rd.of_own hown).form
    obtain ⟨hD, hK⟩ := HA.out.grow hlt hown hg (by simpa using hat)
    have r1 := (HA.out.row.alloc _).grown hg (fun e => HB.out _ e.symm rfl)
    have d2 := r1.c2
    have e2 := r1.fz 2
    have HD := Lib.hid hD
    have HK := Lib.hid hK
    clear r1 hD hK hown hg hat c2 c3 f2 f3
    go_wp2_with fail
    go_ret
    exact ⟨n + 1, n + 1, _, _, [], rfl, HD.out, by omega, by omega, hnl.out, by simp, HK.out⟩
  · obtain ⟨fr', i, rfl⟩ : ∃ l i, fr = l ++ [i] := ⟨fr.dropLast, fr.getLast hnil, (List.dropLast_concat_getLast hnil).symm⟩
    obtain ⟨g, c, e, _, hx, _⟩ := own_at h.fs (j := fr'.length) (u := .int .i64 i) (by rw [nums_at]; simp [ns])
    subst e
    obtain ⟨hD, hK⟩ := h.shrink
    have HD := Lib.hid hD
    have HK := Lib.hid hK
    have HI := Lib.hid (h.fi i (by simp))
    have HN := Lib.hid (show i ∉ fr' from fun hm => (List.nodup_append.1 h.nd).2.2 i hm i (by simp) rfl)
    have hlen : (fr' ++ [i]).length = fr'.length + 1 := by simp
    rw [hlen] at c3 hf
    clear h hD hK hnil
    go_enter Tryz.func74, Tryz.ntmps74
    go_wp2_with fail
    go_ret
    exact ⟨i, n, _, _, fr', rfl, HD.out, HI.out.1, HI.out.2.1, HI.out.2.2, HN.out, HK.out⟩

end Go.Proofs.YtghbbpbhbinioaaGreat
