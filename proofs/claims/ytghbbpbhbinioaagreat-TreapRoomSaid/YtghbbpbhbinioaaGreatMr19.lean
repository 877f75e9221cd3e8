/- Several texts in one. -/
import Derived.Test.YtghbbpbhbinioaaGreatMr18
import Derived.Test.YtghbbpbhbinioaaGreatMr11
import Derived.Test.YtghbbpbhbinioaaGreatMr08
set_option linter.unusedSimpArgs false
namespace Go.Proofs.YtghbbpbhbinioaaGreat
set_option maxRecDepth 100000
set_option linter.unusedSimpArgs false
set_option linter.unusedVariables false
open Go.RowKit
section
set_option maxHeartbeats 2000000 in
theorem vadd1 (x : Yv) (n : Nv) (z2 z6 j : Nat) (cl : List Nv) (w : World) (h2 : BC w z2 146 (ycells x)) (h6 : BC w z6 144 (ncells n)) (hnl : NL w x.A cl) (hn : x.n = cl.length) (hj : j < cl.length) :
    Calls Tryz.prog 120 #[.int .i64 (j : Nat), .pointer (some ⟨z6, 0, none⟩), .pointer (some ⟨z2, 0, none⟩)] w fun e w' => IsB e ∧ Below w.heap.size w w' := by
  obtain ⟨m, hm⟩ : ∃ m, cl[j]? = some m := ⟨_, List.getElem?_eq_getElem hj⟩
  obtain ⟨g, o, hA, hg, hrow⟩ := hnl.at hm
  have y0 : (0 : Int) ≤ (j : Int) := by omega
  have y1 : (j : Int) < (x.n : Int) := by omega
  have y2 : j < x.n := by omega
  obtain ⟨S, hS⟩ : ∃ S : World → Prop, S = fun W' => Below w.heap.size w W' := ⟨_, rfl⟩
  have HH := Lib.hid (And.intro h2 (And.intro h6 hrow))
  have HA := Lib.hid hA
  clear h2 h6 hrow hm hnl hn hj hA hg hS
  go_enter Tryz.func120, Tryz.ntmps120
  go_upto_region 1 with fail
  have l7 : ∀ W', Below w.heap.size w W' → W'.cell? ⟨z2, 7, none⟩ = some (.slice (some ⟨g, o, none⟩) x.n x.c) := fun W' h => by rw [← HA.out]; exact (HH.out.1.below h).way.2.2.2.2.2.2.2.1
  refine wp_region_noPanic ?_
  refine wp_region_held_drew (S := fun W' => Below w.heap.size w W') (by kernel_rfl) (Below.refl _ w).drew (fun hH => ?_)
  generalize w.drew = Wc at hH ⊢
  refine wpAnyH_take (i := 0) (v := nagg n) rfl (by kernel_rfl) (by kernel_rfl) (by kernel_rfl) (fun _ _ _ h => h) (Or.inl ⟨by rfl, fun W' hS => exec_node rfl rfl (HH.out.2.1.below hS)⟩) hH ?_
  simp only [Act.put, List.setIfInBounds_toArray, List.set_cons_zero, List.set_cons_succ, List.getElem_toArray, List.getElem_cons_zero, List.getElem_cons_succ]
  refine tkH ?_ 1 hH ?_ ?_; rotate_left
  · intro W' hS; go_simp; with_reducible rfl
  simp only [tkr]
  refine tkH ?_ 2 hH ?_ ?_; rotate_left
  · intro W' hS; go_simp; with_reducible rfl
  simp only [tkr]
  refine tkH ?_ 3 hH ?_ ?_; rotate_left
  · intro W' hS; go_simp; with_reducible rfl
  simp only [tkr]
  refine tkH ?_ 4 hH ?_ ?_; rotate_left
  · intro W' hS; go_simp; with_reducible rfl
  simp only [tkr]
  refine wpAnyH_take (i := 5) (v := nagg m) rfl (by kernel_rfl) (by kernel_rfl) (by kernel_rfl) (fun _ _ _ h => h) (Or.inl ⟨by rfl, fun W' hS => exec_row rfl rfl (HH.out.2.2.kp (Kp.of_below hS (fun _ => False)) id)⟩) hH ?_
  simp only [Act.put, List.setIfInBounds_toArray, List.set_cons_zero, List.set_cons_succ, List.getElem_toArray, List.getElem_cons_zero, List.getElem_cons_succ]
  refine rdH 6 rfl (fun K hK => ?_)
  go_simp
  refine (nabove n m _).mono ?_
  rintro e Wn ⟨⟨ans, rfl⟩, hbn⟩
  have hH2 := hH.trans (hbn.mono hH.size)
  simp only
  refine hK.out _ _ hH2 (fun hH => ?_)
  clear hK K hH2 hbn
  rename World => Wc
  refine tkH ?_ 7 hH ?_ ?_; rotate_left
  · intro W' hS; go_simp; with_reducible rfl
  simp only [tkr]
  refine wpAnyH_done (by kernel_rfl) ?_ _
  refine NoPanic.normal ?_
  clear l7
  have HF := Lib.hid hH
  clear hH
  go_wp2_with fail
  exact bodyPost_ret (v := .bool ans) (by simp [results, Tryz.results120, go_sem]) rfl ⟨⟨_, rfl⟩, HF.out⟩
set_option maxHeartbeats 2000000 in
theorem vadd2 (x : Yv) (t z2 z7 z6 : Nat) (R : Value → World → Prop) (w : World) (hs : Wz w z2 z7 x t) (hA : x.A = none ∨ ∃ g, x.A = some ⟨g, 0, none⟩) (ht : t ≤ x.c)
    (hE : ∀ W, Below w.heap.size w W → Calls Tryz.prog 115 #[yagg x, .slice x.A t x.c, .func (.func 123) #[] #[.pointer (some ⟨z2, 0, none⟩), .pointer (some ⟨z7, 0, none⟩), .pointer (some ⟨z6, 0, none⟩)]] W fun e W' => ∃ u, e = .returned u ∧ R u W' ∧ Wz W' z2 z7 x t) :
    Calls Tryz.prog 122 #[.pointer (some ⟨z2, 0, none⟩), .pointer (some ⟨z7, 0, none⟩), .pointer (some ⟨z6, 0, none⟩)] w fun e W' => ∃ u, e = .returned u ∧ R u W' := by
  have HE := Lib.hid hE
  have HS := Lib.hid hs
  have HSL := Lib.hid (And.intro (sliced_to (t := t) (c := x.c) hA) ht)
  clear hE hs hA ht
  go_enter Tryz.func122, Tryz.ntmps122
  go_upto_region 1 with fail
  have y7 : ∀ W', Wz W' z2 z7 x t → W'.cell? ⟨z2, 7, none⟩ = some (.slice x.A x.n x.c) := fun W' h => h.way.way.2.2.2.2.2.2.2.1
  have t0 : ∀ W', Wz W' z2 z7 x t → W'.cell? ⟨z7, 0, none⟩ = some (.int .i64 (t : Nat)) := fun W' h => h.top.c0
  refine wp_region_noPanic ?_
  refine wp_region_held_drew (S := fun W' => Wz W' z2 z7 x t) (by kernel_rfl) (HS.out.below (Below.refl _ w).drew) (fun hH => ?_)
  have hB0 : Below w.heap.size w w.drew := (Below.refl _ w).drew
  generalize w.drew = Wc at hH hB0 ⊢
  refine wpAnyH_take (i := 0) (v := yagg x) rfl (by kernel_rfl) (by kernel_rfl) (by kernel_rfl) (fun _ _ _ h => h) (Or.inl ⟨by rfl, fun W' hS => exec_way rfl rfl (Wz.way hS)⟩) hH ?_
  simp only [Act.put, List.setIfInBounds_toArray, List.set_cons_zero, List.set_cons_succ, List.getElem_toArray, List.getElem_cons_zero, List.getElem_cons_succ]
  refine tkH ?_ 1 hH ?_ ?_; rotate_left
  · intro W' hS; go_simp; with_reducible rfl
  simp only [tkr]
  refine tkH ?_ 2 hH ?_ ?_; rotate_left
  · intro W' hS; go_simp; with_reducible rfl
  simp only [tkr]
  refine tkH ?_ 3 hH ?_ ?_; rotate_left
  · intro W' hS; go_simp; with_reducible rfl
  simp only [tkr]
  refine wpAnyH_take (i := 4) (v := .slice x.A t x.c) rfl (by kernel_rfl) (by kernel_rfl) (by kernel_rfl) (fun _ _ _ h => h) (Or.inl ⟨by rfl, fun W' hS => by rw [← HSL.out.1]; exact exec_slice_to rfl rfl rfl HSL.out.2⟩) hH ?_
  simp only [Act.put, List.setIfInBounds_toArray, List.set_cons_zero, List.set_cons_succ, List.getElem_toArray, List.getElem_cons_zero, List.getElem_cons_succ]
  refine wpAnyH_take (i := 5) (v := .func (.func 123) #[] #[.pointer (some ⟨z2, 0, none⟩), .pointer (some ⟨z7, 0, none⟩), .pointer (some ⟨z6, 0, none⟩)]) rfl (by kernel_rfl) (by kernel_rfl) (by kernel_rfl) (fun _ _ _ h => h) (Or.inl ⟨by rfl, fun W' hS => by kernel_rfl⟩) hH ?_
  simp only [Act.put, List.setIfInBounds_toArray, List.set_cons_zero, List.set_cons_succ, List.getElem_toArray, List.getElem_cons_zero, List.getElem_cons_succ]
  refine rdH 6 rfl (fun K hK => ?_)
  go_simp
  refine (HE.out _ hB0).mono ?_
  rintro e Wn ⟨u, rfl, hR, hH2⟩
  have HR := Lib.hid hR
  simp only
  refine hK.out _ _ hH2 (fun hH => ?_)
  clear hK K hH2 hR hB0
  rename World => Wc
  refine tkH ?_ 7 hH ?_ ?_; rotate_left
  · intro W' hS; go_simp; with_reducible rfl
  simp only [tkr]
  refine wpAnyH_done (by kernel_rfl) ?_ _
  refine NoPanic.normal ?_
  clear y7 t0
  go_wp2_with fail
  go_ret
  exact ⟨u, rfl, HR.out⟩
end
section
variable {most : Nat} {M : Cells} {F : Nat → Prop}
theorem tadd_do (x : Yv) (n : Nv) (t z2 z7 z6 B need : Nat) (cl : List Nv) (l pre suf : List Pr) (P : Nat → Nat) (w : World) (h : Ar w x.b most M F) (hm : most ≤ 1048576) (hb : Bk (most + 1) M [] P [x.root]) (hP : ∀ j, P j ≤ 576460752303423488)
    (hwt : WayT M w B x.b x.bh x.root x.ow x.key l x cl 0 [] pre suf) (hsrt : Srt h0 (pre ++ (n.key, n.val) :: suf)) (hl : l.length ≤ 1024) (hB : ∀ q, F q → q < B) (hs : Wz w z2 z7 x t) (hq6 : BC w z6 144 (ncells n)) (ht : t ≤ cl.length) (hsz : z2 ≠ z6 ∧ z7 ≠ z6) (nF : ¬ F z2 ∧ ¬ F z7 ∧ ¬ F z6) (h6 : ∀ q, (Value.slice x.A cl.length x.c).ownBlock = some q → q ≠ z6) (hneed : live (most + 1) M + need ≤ most) (hroom : live (most + 1) M + (cl.length + 1) ≤ most) :
    Calls Tryz.prog 112 #[yagg x, .int .i64 (need : Nat), .func (.func 122) #[] #[.pointer (some ⟨z2, 0, none⟩), .pointer (some ⟨z7, 0, none⟩), .pointer (some ⟨z6, 0, none⟩)]] w fun e w' => ∃ (m : Nat) (M' : Cells), e = .returned (.tuple #[.int .i64 (m : Nat), .int .i64 0]) ∧ TRes most M P x.root x.ow (pre ++ (n.key, n.val) :: suf) (cl.length + 1) m M' ∧ StpX w w' x.b most M' F (fun z => z = z6) := by
  have hn : x.n = cl.length := hwt.head.2.2.2.2.2
  have l2 := hs.way.lt
  have l7 := hs.top.lt
  have l6 := hq6.lt
  have hsh := hwt.way.short
  have hcap := hwt.row.cap
  have hat : (cl.take t).length = t := by rw [List.length_take]; omega
  have hbt : (cl.drop t).length = cl.length - t := List.length_drop
  have hlx : l = pre ++ suf := by have := hwt.way.chain.eq; simpa using this
  have hsl : Srt h0 l := by
    rw [hlx]
    exact List.Pairwise.sublist (List.Sublist.append (List.Sublist.refl _) (List.sublist_cons_self _ _)) hsrt
  have hblk : ∀ q, (Value.slice x.A cl.length x.c).ownBlock = some q → q < w.heap.size ∧ ¬ F q := fun q hq => ⟨(own_blk hwt.row q hq).2, fun hf => by have h1 := (own_blk hwt.row q hq).1; have h2 := hB q hf; omega⟩
  refine tdo_bk (X0 := fun z => z = z6) x 122 _ need (cl.length + 1) _ P w h hm (fun args W => by kernel_rfl) (fun z e => by subst e; exact ⟨l6, nF.2.2⟩) hb hP hneed (fun W M1 P1 F1 r1 e1 b1 p1 pr1 lv1 => ?_)
  have nF1 : ∀ q, q < w.heap.size → ¬ F q → ¬ F1 q := fun q hq hn hf => (r1.sub q hf).elim hn (fun h => by omega)
  have ws1 := hs.kp r1.kp nF.1 nF.2.1
  have hch1 : Ch M1 x.key cl x.root 0 l [] 0 0 [] [] pre suf := hwt.way.chain.pres (fun _ => pr1 _) (fun _ => pr1 _)
  obtain ⟨xm, ym, lxm, lym, pa, sa, pb, sb, ca, cb, rfl, rfl⟩ := hch1.split (List.take_append_drop t cl).symm hsl List.Pairwise.nil
  obtain rfl := ca.yzero rfl
  obtain rfl := ca.endy.zero
  have hL : (pa ++ pb) ++ (n.key, n.val) :: (sb ++ sa) = pa ++ (pb ++ (n.key, n.val) :: sb) ++ sa := by simp
  rw [hL] at hsrt ⊢
  have hss : Srt h0 (pb ++ (n.key, n.val) :: sb) := List.Pairwise.sublist ((List.sublist_append_right _ _).trans (List.sublist_append_left _ _)) hsrt
  have hq : cl.length + 1 = (cl.take t).length + ((cl.drop t).length + 1) := by rw [hat, hbt]; omega
  refine (vadd2 x t z2 z7 z6 (fun u W' => ∃ (n2 : Nat) (M2 : Cells), u = .int .i64 (n2 : Nat) ∧ TR most M1 [] P1 (pa ++ (pb ++ (n.key, n.val) :: sb) ++ sa) (cl.length + 1) n2 M2 ∧ StpX W W' x.b most M2 F1 (fun z => z = z6)) W ws1 hwt.row.addr (by omega) (fun W' hW' => ?_)).mono ?_
  · have r2 : Rn w W' x.b most M1 F F1 := ⟨r1.ar.below hW', r1.kp.trans (Kp.of_below hW' (fun _ => False)) (fun _ h => h.elim), r1.sub⟩
    have ws2 := ws1.below hW'
    have hrow2 : OwnN W' B x.A x.c cl := r2.kp.own hwt.row (fun q hq hf => (hblk q hq).2 hf)
    have call := vrelink_bk (X0 := fun z => z = z6) x 123 #[.pointer (some ⟨z2, 0, none⟩), .pointer (some ⟨z7, 0, none⟩), .pointer (some ⟨z6, 0, none⟩)] ((cl.drop t).length + 1) (pb ++ (n.key, n.val) :: sb) xm 0 lxm [] hm 600000000000000000 (by decide) (fun args W => by kernel_rfl) (cl.take t) x.A x.c x.root 0 l [] pa sa M1 [] P1 F1 W' r2.ar (fun z e => by subst e; exact Nat.lt_of_lt_of_le l6 r2.kp.size) b1.zero2 (fun j => by have := p1 j; have := hP j; omega) (by rw [blank_nil]; exact ca) hsrt (by omega) (by omega) (hrow2.nl.take t) (fun a e _ => ⟨nF1 _ (hblk a.block (by rw [e]; rfl)).1 (hblk a.block (by rw [e]; rfl)).2, h6 a.block (by rw [e]; rfl)⟩) (by omega) (fun W2 M2 H2 P2 F2 t1 t2 t3 t4 _ t6 => ?_)
    · rw [hat] at call
      refine call.mono ?_
      rintro e W'' ⟨m, M', rfl, hT, hS⟩
      rw [show t + ((List.drop t cl).length + 1) = cl.length + 1 by omega] at hT
      have hs' : StpX W W'' x.b most M' F1 (fun z => z = z6) := ⟨hS.ar.mono (fun z hz => hz.imp id (fun hz => ⟨Nat.le_trans hW'.size hz.1, hz.2⟩)) (fun z hz => hz.elim (fun hz => by have := r1.ar.lt hz; have := hW'.size; have := hS.kp.size; omega) (fun hz => hz.2)), (Kp.of_below hW' (FX F1 (fun z => z = z6))).trans hS.kp (fun _ => .inl)⟩
      exact ⟨_, rfl, ⟨m, M', rfl, hT, hs'⟩, ws2.kp hS.kp (fun hf => hf.elim (nF1 _ l2 nF.1) hsz.1) (fun hf => hf.elim (nF1 _ l7 nF.2.1) hsz.2)⟩
    · have nF2 : ∀ q, q < w.heap.size → ¬ F q → ¬ F2 q := fun q hq hn hf => (t1.sub q hf).elim (nF1 q hq hn) (fun h => by have := r2.kp.size; omega)
      have hcb : Ch (blank M2 H2) x.key (cl.drop t) xm 0 lxm [] 0 0 [] [] pb sb := cb.pres (fun h0 => by have := t4 h0; rwa [blank_nil] at this) (fun h0 => absurd rfl h0)
      have h62 := (hq6.kp r2.kp nF.2.2).kp t1.kp (nF1 _ l6 nF.2.2)
      exact tadd_end x n t z2 z7 z6 B xm cl lxm pb sb W2 t1.ar hm t2.zero1 (fun j => by have := t3 j; omega) (ws2.kp t1.kp (nF1 _ l2 nF.1) (nF1 _ l7 nF.2.1)) h62 hn (t1.kp.own hrow2 (fun q hq => nF1 q (hblk q hq).1 (hblk q hq).2)) (fun q hf _ e => nF2 q (hblk q e).1 (hblk q e).2 hf) ht (by omega) hcb hss hsz ⟨nF2 _ l2 nF.1, nF2 _ l7 nF.2.1, nF2 _ l6 nF.2.2⟩ t6
  · rintro e W' ⟨u, rfl, m, M', rfl, hT, hS⟩
    exact ⟨m, M', rfl, hT, hS⟩
end
end Go.Proofs.YtghbbpbhbinioaaGreat

namespace Go.Proofs.YtghbbpbhbinioaaGreat
set_option maxRecDepth 100000
set_option linter.unusedSimpArgs false
set_option linter.unusedVariables false
open Go.RowKit
def ChgH (w w' : World) (b bh seed most : Nat) (M : Cells) (F : Nat → Prop) (P : Nat → Nat) (root : Nat) (ow : Int) (L : List Pr) (q : Nat) (e : Ending) : Prop :=
  (∃ (n : Nat) (M' : Cells), e = .returned (.tuple #[.int .i64 (n : Nat), .int .i64 0]) ∧ TRes most M P root ow L q n M' ∧ StpH w w' b bh seed most M' F) ∨ (e = .returned (.tuple #[.int .i64 0, .int .i64 5]) ∧ ow = 0 ∧ most < live (most + 1) M + q ∧ Kp (fun q => q = bh) w w' ∧ Hs w' bh seed)
structure Wj (w W : World) (z2 z3 z6 : Nat) (x : Yv) (v : Ky) (n : Nv) (seed : Nat) : Prop where
  ws : Ws W z2 z3 x v
  node : BC W z6 144 (ncells n)
  hs : Hs W x.bh seed
  kp : Kp (fun q => q = x.bh) w W
  zz : z3 < z6
section
variable {most : Nat} {M : Cells} {F : Nat → Prop}
set_option maxHeartbeats 8000000 in
theorem tadd (x : Yv) (v : Ky) (seed B : Nat) (cl : List Nv) (l pre suf : List Pr) (P : Nat → Nat) (w : World) (h : Ar w x.b most M F) (hm : most ≤ 1048576) (hb : Bk (most + 1) M [] P [x.root]) (hP : ∀ j, P j ≤ 576460752303423488)
    (hwt : WayT M w B x.b x.bh x.root x.ow x.key l x cl 0 [] pre suf) (hsrt : Srt h0 (pre ++ (x.key, v) :: suf)) (hl : l.length ≤ 1024) (hB : ∀ q, F q → q < B) (hroom : x.ow = 0 ∨ live (most + 1) M + (cl.length + 1) ≤ most) (hh : Hs w x.bh seed) (nbh : ¬ F x.bh) (hbB : x.bh < B) (hk : OkK x.key) :
    Calls Tryz.prog 72 #[yagg x, xagg v] w fun e w' => ChgH w w' x.b x.bh seed most M F P x.root x.ow (pre ++ (x.key, v) :: suf) (cl.length + 1) e := by
  have hF : ∀ q, F q → q < w.heap.size := fun q hq => h.lt hq
  have hbl := hh.lt
  have hn : x.n = cl.length := hwt.head.2.2.2.2.2
  have hsh := hwt.way.short
  have hcl : cl.length ≤ 1024 := by omega
  have hfs : sumF cl ≤ cl.length := sumF_le cl (fun n hn => (hwt.way.frs n hn).1)
  have hfa : x.ow = 0 → sumF cl = cl.length := fun h0 => sumF_all cl (fun n hn => (hwt.way.frs n hn).2 h0)
  have hblk : ∀ q, (Value.slice x.A cl.length x.c).ownBlock = some q → B ≤ q ∧ q < w.heap.size := fun q hq => own_blk hwt.row q hq
  obtain ⟨n0, hn0⟩ : ∃ n0 : Nv, n0 = ⟨x.key, v, 0, none, none, 0, (hashN seed x.key.1 x.key.2.1 x.key.2.2 : Nat), 0, 0, 0⟩ := ⟨_, rfl⟩
  have hnk : n0.key = x.key ∧ n0.val = v := by rw [hn0]; exact ⟨rfl, rfl⟩
  have hb1 : Below w.heap.size w ((w.alloc (.cells (ycells x) 146)).alloc (.cells #[.int .u8 v.1, .int .i64 v.2.1, .string v.2.2] 36)) := ((Below.refl _ w).alloc (Nat.le_refl _) _).alloc (by simp) _
  have e1 : (w.alloc (.cells (ycells x) 146)).heap.size = w.heap.size + 1 := by simp
  have q2 := (BC.new w 146 (ycells x)).alloc (.cells #[.int .u8 v.1, .int .i64 v.2.1, .string v.2.2] 36)
  have q3 := C3.new (w.alloc (.cells (ycells x) 146)) 36 (.int .u8 v.1) (.int .i64 v.2.1) (.string v.2.2)
  rw [e1] at q3
  have HWS := Lib.hid (Ws.mk q2 q3)
  have hrowk : ∀ W, Kp (fun q => q = x.bh) w W → OwnN W B x.A x.c cl := fun W hW => hW.own hwt.row (fun q hq e => by have := hblk q hq; omega)
  have HNL := Lib.hid (fun (W : World) (hW : Kp (fun q => q = x.bh) w W) => wfresh x.A cl x.c W (hrowk W hW).nl (by omega) (fun n hn => (hwt.way.frs n hn).1))
  have HROW := Lib.hid hrowk
  rw [← hn] at HNL
  obtain ⟨need, hneed⟩ : ∃ need, need = sumF cl + 1 := ⟨_, rfl⟩
  have hcs : (sumF cl : Int) + 1 = (need : Int) := by omega
  have hrg : -9223372036854775808 ≤ (sumF cl : Int) + 1 ∧ (sumF cl : Int) + 1 ≤ 9223372036854775807 := by omega
  have WW3 := Lib.hid (show wrap64 ((sumF cl : Int) + 1) = (need : Int) from (IntWalk.wrap64_in _ hrg).trans hcs)
  have WW4 := Lib.hid (show IntKind.i64.wrap ((sumF cl : Int) + 1) = (need : Int) from (IntWalk.i64_in _ hrg).trans hcs)
  have HDO := Lib.hid (fun (W : World) (t z2 z7 z6 : Nat) (hW : Kp (fun q => q = x.bh) w W) (hhs : Hs W x.bh seed) (hs : Wz W z2 z7 x t) (h6 : BC W z6 144 (ncells n0)) (ht : t ≤ cl.length) (g2 : w.heap.size ≤ z2) (g7 : w.heap.size ≤ z7) (g6 : w.heap.size ≤ z6) (hne : z2 ≠ z6 ∧ z7 ≠ z6) => show Calls Tryz.prog 112 #[yagg x, .int .i64 (need : Nat), .func (.func 122) #[] #[.pointer (some ⟨z2, 0, none⟩), .pointer (some ⟨z7, 0, none⟩), .pointer (some ⟨z6, 0, none⟩)]] W (fun e w' => ∃ v1 v2, e = .returned (.tuple #[v1, v2]) ∧ ChgH w w' x.b x.bh seed most M F P x.root x.ow (pre ++ (x.key, v) :: suf) (cl.length + 1) e ∧ Wz w' z2 z7 x t) from by
    have hA : Ar W x.b most M F := h.kp hW (fun q hq e => nbh (e ▸ hq))
    have nF : ∀ z, w.heap.size ≤ z → ¬ F z := fun z hz hf => by have := hF z hf; omega
    by_cases hr : live (most + 1) M + need ≤ most
    · have call := tadd_do x n0 t z2 z7 z6 B need cl l pre suf P W hA hm hb hP ⟨hwt.head, hrowk W hW, hwt.way⟩ (by rw [hnk.1, hnk.2]; exact hsrt) hl hB hs h6 ht hne ⟨nF _ g2, nF _ g7, nF _ g6⟩ (fun q hq e => by have := hblk q hq; omega) hr (by
        rcases hroom with h0 | h0
        · have := hfa h0; omega
        · exact h0)
      rw [hnk.1, hnk.2] at call
      refine call.mono ?_
      rintro e w' ⟨n, M', rfl, hT, hS⟩
      have hws := hW.size
      refine ⟨_, _, rfl, .inl ⟨n, M', rfl, hT, ⟨hS.ar.mono (fun q hq => hq.imp id (fun hq => ⟨by omega, hq.2⟩)) (fun q hq => hq.elim (fun hq => by have := hF q hq; have := hS.kp.size; omega) (fun hq => hq.2)), (hW.mono (fun _ e _ => .inr e) : Kp (fun q => F q ∨ q = x.bh) w W).trans hS.kp (fun q hq => hq.elim (fun hq => .inl (.inl hq)) (fun e => .inr (by omega))), hhs.kp hS.kp (fun hq => hq.elim nbh (fun e => by omega))⟩⟩, hs.kp hS.kp (fun hq => hq.elim (nF _ g2) hne.1) (fun hq => hq.elim (nF _ g7) hne.2)⟩
    · refine (tdo_no x need _ W hA (by omega)).mono ?_
      rintro e w' ⟨rfl, hbw⟩
      have h0 : x.ow = 0 := by
        rcases hroom with h0 | h0
        · exact h0
        · exact absurd h0 (by omega)
      exact ⟨_, _, rfl, .inr ⟨rfl, h0, by omega, hW.trans (Kp.of_below hbw (fun _ => False)) (fun _ h => h.elim), hhs.below hbw⟩, hs.below hbw⟩)
  have HB1 := Lib.hid hb1
  have HH := Lib.hid (And.intro (hh.below hb1) (And.intro hk (And.intro hbl (And.intro hn (And.intro hcl hn0)))))
  clear h hb hP hwt hsrt hroom hsh hcl hfs hfa hneed hcs hrg hb1 e1 q2 q3 hF hn hB hl hm hblk hn0 hnk hrowk hh nbh hbB hk hbl
  go_enter Tryz.func72, Tryz.ntmps72
  go_upto_region 1 with fail
  change Code.wp _ _ _ _ ((w.alloc (.cells (ycells x) 146)).alloc (.cells #[.int .u8 v.1, .int .i64 v.2.1, .string v.2.2] 36))
  generalize World.alloc (w.alloc _) _ = W1 at HWS HB1 HH ⊢
  obtain ⟨z2, hz2⟩ : ∃ z, z = w.heap.size := ⟨_, rfl⟩
  obtain ⟨z3, hz3⟩ : ∃ z, z = w.heap.size + 1 := ⟨_, rfl⟩
  rw [← hz3, ← hz2] at HWS ⊢
  have HZ := Lib.hid (And.intro hz2 hz3)
  clear hz2 hz3
  go_cut [6] from 8 to 18 (fun s6 wc => ∃ z6, s6 = .pointer (some ⟨z6, 0, none⟩) ∧ Wj w wc z2 z3 z6 x v n0 seed)
  case first =>
    have a3 : ∀ W', Ws W' z2 z3 x v → W'.cell? ⟨z2, 3, none⟩ = some (.int .u8 x.key.1) := fun W' h => h.way.way.2.2.2.1
    have a4 : ∀ W', Ws W' z2 z3 x v → W'.cell? ⟨z2, 4, none⟩ = some (.int .i64 x.key.2.1) := fun W' h => h.way.way.2.2.2.2.1
    have a5 : ∀ W', Ws W' z2 z3 x v → W'.cell? ⟨z2, 5, none⟩ = some (.string x.key.2.2) := fun W' h => h.way.way.2.2.2.2.2.1
    have a1 : ∀ W', Ws W' z2 z3 x v → W'.cell? ⟨z2, 1, none⟩ = some (.pointer (some ⟨x.bh, 0, none⟩)) := fun W' h => h.way.way.2.1
    have v0 : ∀ W', Ws W' z2 z3 x v → W'.cell? ⟨z3, 0, none⟩ = some (.int .u8 v.1) := fun W' h => h.val.c0
    have v1 : ∀ W', Ws W' z2 z3 x v → W'.cell? ⟨z3, 1, none⟩ = some (.int .i64 v.2.1) := fun W' h => h.val.c1
    have v2 : ∀ W', Ws W' z2 z3 x v → W'.cell? ⟨z3, 2, none⟩ = some (.string v.2.2) := fun W' h => h.val.c2
    refine wp_region_noPanic ?_
    refine wp_region_held_drew (S := fun W' => Ws W' z2 z3 x v) (by kernel_rfl) (HWS.out.below (Below.refl _ W1).drew) (fun hH => ?_)
    have hhs : Hs W1.drew x.bh seed := HH.out.1.below (Below.refl _ W1).drew
    have hk : Kp (fun q => q = x.bh) w W1.drew := Kp.of_below (HB1.out.trans ((Below.refl _ W1).drew.mono HB1.out.size)) _
    generalize W1.drew = Wc at hH hhs hk ⊢
    clear HWS HB1
    refine tkH ?_ 0 hH ?_ ?_; rotate_left
    · intro W' hS; go_simp; with_reducible rfl
    simp only [tkr]
    refine tkH ?_ 1 hH ?_ ?_; rotate_left
    · intro W' hS; go_simp; with_reducible rfl
    simp only [tkr]
    refine tkH ?_ 2 hH ?_ ?_; rotate_left
    · intro W' hS; go_simp; with_reducible rfl
    simp only [tkr]
    refine tkH ?_ 3 hH ?_ ?_; rotate_left
    · intro W' hS; go_simp; with_reducible rfl
    simp only [tkr]
    refine tkH ?_ 4 hH ?_ ?_; rotate_left
    · intro W' hS; go_simp; with_reducible rfl
    simp only [tkr]
    refine tkH ?_ 5 hH ?_ ?_; rotate_left
    · intro W' hS; go_simp; with_reducible rfl
    simp only [tkr]
    refine tkH ?_ 6 hH ?_ ?_; rotate_left
    · intro W' hS; go_simp; with_reducible rfl
    simp only [tkr]
    refine tkH ?_ 7 hH ?_ ?_; rotate_left
    · intro W' hS; go_simp; with_reducible rfl
    simp only [tkr]
    refine tkH ?_ 8 hH ?_ ?_; rotate_left
    · intro W' hS; go_simp; with_reducible rfl
    simp only [tkr]
    refine wpAnyH_ready (rs := [9, 11]) (by kernel_rfl) (by simp) ?_
    refine AllReadyH.cons rfl (fun K hK => ?_) (AllReadyH.cons rfl (fun K hK => ?_) (AllReadyH.nil))
    · go_simp
      refine (hof x.bh seed x.key.1 x.key.2.1 x.key.2.2 _ hhs HH.out.2.1.1 HH.out.2.1.2.1 HH.out.2.1.2.2).mono ?_
      rintro e Wn ⟨rfl, hh2, hg⟩
      have kg : Kp (fun q => q = x.bh) Wc Wn := Kp.of_grown hg (fun q e => .inl (Option.some.inj e).symm)
      have hH2 := hH.kp kg (fun e => by have := HZ.out; have := HH.out.2.2.1; omega) (fun e => by have := HZ.out; have := HH.out.2.2.1; omega)
      try replace mz := mz.kp kg (fun e => by have := HZ.out; have := HH.out.2.2.1; omega)
      replace hk := hk.trans kg (fun _ => .inl)
      replace hhs := hh2
      simp only
      refine hK.out _ _ hH2 (fun hH => ?_)
      clear hK K hH2 hh2 kg hg
      rename World => Wc
      refine wpAnyH_take (i := 10) (v := nagg n0) rfl (by kernel_rfl) (by kernel_rfl) (by kernel_rfl) (fun _ _ _ h => h) (Or.inl ⟨by rfl, fun W' hS => by rw [HH.out.2.2.2.2.2]; kernel_rfl⟩) hH ?_
      simp only [Act.put, List.setIfInBounds_toArray, List.set_cons_zero, List.set_cons_succ, List.getElem_toArray, List.getElem_cons_zero, List.getElem_cons_succ]
      refine rdH 11 rfl (fun K hK => ?_)
      go_simp
      change K _ (Wc.alloc (.cells (ncells nzero) 144))
      have mz := BC.new Wc 144 (ncells nzero)
      have nz : z3 < Wc.heap.size := hH.val.lt
      have hba : Below Wc.heap.size Wc (Wc.alloc (.cells (ncells nzero) 144)) := (Below.refl _ Wc).alloc (Nat.le_refl _) _
      have hH2 := hH.below hba
      replace hk := hk.trans (Kp.of_below hba (fun _ => False)) (fun _ h => h.elim)
      replace hhs := hhs.below hba
      generalize Wc.alloc _ = Wn at mz hH2 hk hhs ⊢
      refine hK.out _ _ hH2 (fun hH => ?_)
      clear hK K hH2 hba
      generalize Wc.heap.size = z6 at mz nz ⊢
      rename World => Wc
      refine rdH 12 rfl (fun K hK => ?_)
      obtain ⟨f0, f1, f2, f3, f4, f5, f6, f7, f8, f9, f10, f11, f12, f13⟩ := mz.fz14
      obtain ⟨c0, c1, c2, c3, c4, c5, c6, c7, c8, c9, c10, c11, c12, c13⟩ := mz.node
      simp only at c0 c1 c2 c3 c4 c5 c6 c7 c8 c9 c10 c11 c12 c13
      go_simp
      clear f0 f1 f2 f3 f4 f5 f6 f7 f8 f9 f10 f11 f12 f13 c0 c1 c2 c3 c4 c5 c6 c7 c8 c9 c10 c11 c12 c13
      change K _ (setN Wc z6 n0)
      have mz2 := mz.setN n0
      have kz := kp_setN Wc z6 n0
      have hl2 := hH.way.lt
      have hH2 := hH.kp kz (fun e => by have := HZ.out; omega) (fun e => by omega)
      have hk2 := hk.trans kz (fun q e => .inr (by have := HZ.out; omega))
      have hhs2 := hhs.kp kz (fun e => by have := HZ.out; have := HH.out.2.2.1; omega)
      clear hk hhs mz hl2 kz
      generalize setN Wc z6 n0 = Wn at mz2 hk2 hhs2 hH2 ⊢
      refine hK.out _ _ hH2 (fun hH => ?_)
      clear hK K hH2
      rename World => Wc
      refine wpAnyH_done (by kernel_rfl) ?_ _
      refine NoPanic.normal ?_
      clear a1 a3 a4 a5 v0 v1 v2
      go_wp2_with fail
      go_meet
      exact ⟨_, rfl, ⟨hH, mz2, hhs2, hk2, nz⟩⟩
    · go_simp
      change K _ (Wc.alloc (.cells (ncells nzero) 144))
      have mz := BC.new Wc 144 (ncells nzero)
      have nz : z3 < Wc.heap.size := hH.val.lt
      have hba : Below Wc.heap.size Wc (Wc.alloc (.cells (ncells nzero) 144)) := (Below.refl _ Wc).alloc (Nat.le_refl _) _
      have hH2 := hH.below hba
      replace hk := hk.trans (Kp.of_below hba (fun _ => False)) (fun _ h => h.elim)
      replace hhs := hhs.below hba
      generalize Wc.alloc _ = Wn at mz hH2 hk hhs ⊢
      refine hK.out _ _ hH2 (fun hH => ?_)
      clear hK K hH2 hba
      generalize Wc.heap.size = z6 at mz nz ⊢
      rename World => Wc
      refine rdH 9 rfl (fun K hK => ?_)
      go_simp
      refine (hof x.bh seed x.key.1 x.key.2.1 x.key.2.2 _ hhs HH.out.2.1.1 HH.out.2.1.2.1 HH.out.2.1.2.2).mono ?_
      rintro e Wn ⟨rfl, hh2, hg⟩
      have kg : Kp (fun q => q = x.bh) Wc Wn := Kp.of_grown hg (fun q e => .inl (Option.some.inj e).symm)
      have hH2 := hH.kp kg (fun e => by have := HZ.out; have := HH.out.2.2.1; omega) (fun e => by have := HZ.out; have := HH.out.2.2.1; omega)
      try replace mz := mz.kp kg (fun e => by have := HZ.out; have := HH.out.2.2.1; omega)
      replace hk := hk.trans kg (fun _ => .inl)
      replace hhs := hh2
      simp only
      refine hK.out _ _ hH2 (fun hH => ?_)
      clear hK K hH2 hh2 kg hg
      rename World => Wc
      refine wpAnyH_take (i := 10) (v := nagg n0) rfl (by kernel_rfl) (by kernel_rfl) (by kernel_rfl) (fun _ _ _ h => h) (Or.inl ⟨by rfl, fun W' hS => by rw [HH.out.2.2.2.2.2]; kernel_rfl⟩) hH ?_
      simp only [Act.put, List.setIfInBounds_toArray, List.set_cons_zero, List.set_cons_succ, List.getElem_toArray, List.getElem_cons_zero, List.getElem_cons_succ]
      refine rdH 12 rfl (fun K hK => ?_)
      obtain ⟨f0, f1, f2, f3, f4, f5, f6, f7, f8, f9, f10, f11, f12, f13⟩ := mz.fz14
      obtain ⟨c0, c1, c2, c3, c4, c5, c6, c7, c8, c9, c10, c11, c12, c13⟩ := mz.node
      simp only at c0 c1 c2 c3 c4 c5 c6 c7 c8 c9 c10 c11 c12 c13
      go_simp
      clear f0 f1 f2 f3 f4 f5 f6 f7 f8 f9 f10 f11 f12 f13 c0 c1 c2 c3 c4 c5 c6 c7 c8 c9 c10 c11 c12 c13
      change K _ (setN Wc z6 n0)
      have mz2 := mz.setN n0
      have kz := kp_setN Wc z6 n0
      have hl2 := hH.way.lt
      have hH2 := hH.kp kz (fun e => by have := HZ.out; omega) (fun e => by omega)
      have hk2 := hk.trans kz (fun q e => .inr (by have := HZ.out; omega))
      have hhs2 := hhs.kp kz (fun e => by have := HZ.out; have := HH.out.2.2.1; omega)
      clear hk hhs mz hl2 kz
      generalize setN Wc z6 n0 = Wn at mz2 hk2 hhs2 hH2 ⊢
      refine hK.out _ _ hH2 (fun hH => ?_)
      clear hK K hH2
      rename World => Wc
      refine wpAnyH_done (by kernel_rfl) ?_ _
      refine NoPanic.normal ?_
      clear a1 a3 a4 a5 v0 v1 v2
      go_wp2_with fail
      go_meet
      exact ⟨_, rfl, ⟨hH, mz2, hhs2, hk2, nz⟩⟩
  case rest =>
    obtain ⟨z6, rfl, wj⟩ := hcut
    have y7 := wj.ws.way.way.2.2.2.2.2.2.2.1
    have HWJ := Lib.hid wj
    have HASK := Lib.hid (fun (W : World) (hW : Kp (fun q => q = x.bh) w W) (h2 : BC W z2 146 (ycells x)) (h6 : BC W z6 144 (ncells n0)) => vSearchB 120 #[.pointer (some ⟨z6, 0, none⟩), .pointer (some ⟨z2, 0, none⟩)] x.n W ⟨fun args W => by kernel_rfl, fun j hj W' hW' => vadd1 x n0 z2 z6 j cl W' (h2.below hW') (h6.below hW') ((HROW.out W hW).nl.below hW') HH.out.2.2.2.1 (by have := HH.out.2.2.2.1; omega)⟩ (by have := HH.out.2.2.2.1; have := HH.out.2.2.2.2.1; omega))
    clear wj HWS HB1
    go_wp2_with fail
    refine (HASK.out _ HWJ.out.kp HWJ.out.ws.way HWJ.out.node).mono ?_
    rintro e w3 ⟨t, ht, rfl, hb3⟩
    have HT := Lib.hid (show t ≤ cl.length by have := HH.out.2.2.2.1; omega)
    have hba : Below w3.heap.size w3 (w3.alloc (.cells #[.int .i64 (t : Nat)] 3)) := (Below.refl _ w3).alloc (Nat.le_refl _) _
    have hb4 := hb3.trans (hba.mono hb3.size)
    have wz : Wz (w3.alloc (.cells #[.int .i64 (t : Nat)] 3)) z2 w3.heap.size x t := ⟨HWJ.out.ws.way.below hb4, C1.new w3 3 (.int .i64 (t : Nat))⟩
    have n6 := HWJ.out.node.below hb4
    have hs4 := HWJ.out.hs.below hb4
    have kp4 := HWJ.out.kp.trans (Kp.of_below hb4 (fun _ => False)) (fun _ h => h.elim)
    have n67 : z6 < w3.heap.size := Nat.lt_of_lt_of_le HWJ.out.node.lt hb3.size
    have z36 := HWJ.out.zz
    have HZ7 := Lib.hid (And.intro n67 z36)
    clear ht hba hb3 hb4 HWJ HASK n67 z36 y7
    go_upto_region 3 with fail
    change Code.wp _ _ _ _ (w3.alloc (.cells #[.int .i64 (t : Nat)] 3))
    generalize w3.alloc _ = W4 at wz n6 hs4 kp4 ⊢
    generalize w3.heap.size = z7 at wz HZ7 ⊢
    have l7 : ∀ W', Wz W' z2 z7 x t → W'.cell? ⟨z2, 7, none⟩ = some (.slice x.A x.n x.c) := fun W' h => h.way.way.2.2.2.2.2.2.2.1
    have hbd : Below W4.heap.size W4 W4.drew := (Below.refl _ W4).drew
    refine wp_region_noPanic ?_
    refine wp_region_held_drew (S := fun W' => Wz W' z2 z7 x t) (by kernel_rfl) (wz.below hbd) (fun hH => ?_)
    replace n6 := n6.below hbd
    replace hs4 := hs4.below hbd
    replace kp4 := kp4.trans (Kp.of_below hbd (fun _ => False)) (fun _ h => h.elim)
    clear wz hbd
    generalize W4.drew = Wc at hH n6 hs4 kp4 ⊢
    refine wpAnyH_take (i := 0) (v := yagg x) rfl (by kernel_rfl) (by kernel_rfl) (by kernel_rfl) (fun _ _ _ h => h) (Or.inl ⟨by rfl, fun W' hS => exec_way rfl rfl (Wz.way hS)⟩) hH ?_
    simp only [Act.put, List.setIfInBounds_toArray, List.set_cons_zero, List.set_cons_succ, List.getElem_toArray, List.getElem_cons_zero, List.getElem_cons_succ]
    refine tkH ?_ 1 hH ?_ ?_; rotate_left
    · intro W' hS; go_simp; with_reducible rfl
    simp only [tkr]
    refine tkH ?_ 2 hH ?_ ?_; rotate_left
    · intro W' hS; go_simp; with_reducible rfl
    simp only [tkr]
    refine wpAnyH_take (i := 5) (v := .func (.func 122) #[] #[.pointer (some ⟨z2, 0, none⟩), .pointer (some ⟨z7, 0, none⟩), .pointer (some ⟨z6, 0, none⟩)]) rfl (by kernel_rfl) (by kernel_rfl) (by kernel_rfl) (fun _ _ _ h => h) (Or.inl ⟨by rfl, fun W' hS => by kernel_rfl⟩) hH ?_
    simp only [Act.put, List.setIfInBounds_toArray, List.set_cons_zero, List.set_cons_succ, List.getElem_toArray, List.getElem_cons_zero, List.getElem_cons_succ]
    refine rdH 3 rfl (fun K hK => ?_)
    go_simp
    refine (HNL.out _ kp4).mono ?_
    rintro e Wn ⟨rfl, hbn⟩
    have hH2 := hH.below hbn
    replace n6 := n6.below hbn
    replace hs4 := hs4.below hbn
    replace kp4 := kp4.trans (Kp.of_below hbn (fun _ => False)) (fun _ h => h.elim)
    simp only
    have w3 := WW3.out
    have w4 := WW4.out
    refine hK.out _ _ hH2 (fun hH => ?_)
    clear hK K hH2 hbn
    rename World => Wc
    refine tkH ?_ 4 hH ?_ ?_; rotate_left
    · intro W' hS; go_simp; with_reducible rfl
    simp only [tkr]
    refine rdH 6 rfl (fun K hK => ?_)
    clear w3 w4
    go_simp
    first | rw [WW3.out] | rw [WW4.out] | skip
    refine (HDO.out _ t z2 z7 z6 kp4 hs4 hH n6 HT.out (by have := HZ.out; omega) (by have := HZ.out; have := HZ7.out; omega) (by have := HZ.out; have := HZ7.out; omega) (by have := HZ.out; have := HZ7.out; omega)).mono ?_
    rintro e Wn ⟨v1, v2, rfl, hR, hH2⟩
    have HR := Lib.hid hR
    simp only
    refine hK.out _ _ hH2 (fun hH => ?_)
    clear hK K hR hH2 n6 hs4 kp4
    rename World => Wc
    refine tkH ?_ 7 hH ?_ ?_; rotate_left
    · intro W' hS; go_simp; with_reducible rfl
    simp only [tkr]
    refine tkH ?_ 8 hH ?_ ?_; rotate_left
    · intro W' hS; go_simp; with_reducible rfl
    simp only [tkr]
    refine tkH ?_ 9 hH ?_ ?_; rotate_left
    · intro W' hS; go_simp; with_reducible rfl
    simp only [tkr]
    refine tkH ?_ 10 hH ?_ ?_; rotate_left
    · intro W' hS; go_simp; with_reducible rfl
    simp only [tkr]
    refine wpAnyH_done (by kernel_rfl) ?_ _
    refine NoPanic.normal ?_
    clear l7
    go_wp2_with fail
    exact bodyPost_ret (v := .tuple #[v1, v2]) (by simp [results, Tryz.results72, go_sem]) rfl HR.out
end
end Go.Proofs.YtghbbpbhbinioaaGreat

namespace Go.Proofs.YtghbbpbhbinioaaGreat
set_option maxRecDepth 100000
set_option linter.unusedSimpArgs false
set_option linter.unusedVariables false
open Go.RowKit
section
variable {M : Cells} {k : Ky} {cl : List Nv} {x y x' y' : Nat} {lx ly lx' ly' pre suf : List Pr}
theorem Ch.sides (h : Ch M k cl x y lx ly x' y' lx' ly' pre suf) : Srt h0 lx → Srt h0 ly → (∀ p ∈ pre, klt h0 p.1 k) ∧ (∀ p ∈ suf, klt h0 k p.1) := by
  induction h with
  | nil => exact fun _ _ => ⟨fun p hp => (by cases hp), fun p hp => (by cases hp)⟩
  | xr hn hlt _ _ ih =>
    intro hx hy
    have hs := List.pairwise_append.1 hx
    obtain ⟨h1, h2⟩ := ih (List.Pairwise.of_cons hs.2.1) hy
    refine ⟨fun p hp => ?_, h2⟩
    rcases List.mem_append.1 hp with hp | hp
    · exact klt_trans (hs.2.2 p hp _ (List.mem_cons_self ..)) hlt
    · rcases List.mem_cons.1 hp with rfl | hp
      · exact hlt
      · exact h1 p hp
  | xl hn hgt _ _ ih =>
    intro hx hy
    have hs := List.pairwise_append.1 hx
    obtain ⟨h1, h2⟩ := ih hs.1 List.Pairwise.nil
    refine ⟨h1, fun p hp => ?_⟩
    rcases List.mem_append.1 hp with hp | hp
    · exact h2 p hp
    · rcases List.mem_cons.1 hp with rfl | hp
      · exact hgt
      · exact klt_trans hgt ((List.pairwise_cons.1 hs.2.1).1 p hp)
  | yl hn hgt _ _ ih =>
    intro hx hy
    have hs := List.pairwise_append.1 hy
    obtain ⟨h1, h2⟩ := ih hx hs.1
    refine ⟨h1, fun p hp => ?_⟩
    rcases List.mem_append.1 hp with hp | hp
    · exact h2 p hp
    · rcases List.mem_cons.1 hp with rfl | hp
      · exact hgt
      · exact klt_trans hgt ((List.pairwise_cons.1 hs.2.1).1 p hp)
theorem srt_mid {v : Ky} (h : Srt h0 (pre ++ suf)) (h1 : ∀ p ∈ pre, klt h0 p.1 k) (h2 : ∀ p ∈ suf, klt h0 k p.1) : Srt h0 (pre ++ (k, v) :: suf) := by
  have hs := List.pairwise_append.1 h
  refine List.pairwise_append.2 ⟨hs.1, List.pairwise_cons.2 ⟨fun p hp => h2 p hp, hs.2.1⟩, fun p hp q hq => ?_⟩
  rcases List.mem_cons.1 hq with rfl | hq
  · exact h1 p hp
  · exact hs.2.2 p hp q hq
theorem put_mid {v : Ky} (h : Srt h0 (pre ++ suf)) (h1 : ∀ p ∈ pre, klt h0 p.1 k) (h2 : ∀ p ∈ suf, klt h0 k p.1) : pre ++ (k, v) :: suf = putL h0 (k, v) (pre ++ suf) := by
  refine putL_uniq h (srt_mid h h1 h2) fun q => ?_
  rw [List.mem_append, List.mem_cons, List.mem_append]
  constructor
  · rintro (hq | hq | hq)
    · exact .inr ⟨.inl hq, fun e => klt_irrefl (hs := h0) k (by have := h1 q hq; rw [e] at this; exact this)⟩
    · exact .inl hq
    · exact .inr ⟨.inr hq, fun e => klt_irrefl (hs := h0) k (by have := h2 q hq; rw [e] at this; exact this)⟩
  · rintro (hq | ⟨hq | hq, _⟩)
    · exact .inr (.inl hq)
    · exact .inl hq
    · exact .inr (.inr hq)
theorem srt_val {v v' : Ky} (h : Srt h0 (pre ++ (k, v) :: suf)) : Srt h0 (pre ++ (k, v') :: suf) := by
  have hs := List.pairwise_append.1 h
  have hc := List.pairwise_cons.1 hs.2.1
  refine List.pairwise_append.2 ⟨hs.1, List.pairwise_cons.2 ⟨fun p hp => hc.1 p hp, hc.2⟩, fun p hp q hq => ?_⟩
  rcases List.mem_cons.1 hq with rfl | hq
  · exact hs.2.2 p hp (k, v) (List.mem_cons_self ..)
  · exact hs.2.2 p hp q (List.mem_cons_of_mem _ hq)
theorem mid_ne {v : Ky} (h : Srt h0 (pre ++ (k, v) :: suf)) : (∀ p ∈ pre, p.1 ≠ k) ∧ (∀ p ∈ suf, p.1 ≠ k) := by
  have hs := List.pairwise_append.1 h
  have hc := List.pairwise_cons.1 hs.2.1
  exact ⟨fun p hp e => klt_irrefl (hs := h0) k (by have := hs.2.2 p hp (k, v) (List.mem_cons_self ..); rw [e] at this; exact this), fun p hp e => klt_irrefl (hs := h0) k (by have := hc.1 p hp; rw [e] at this; exact this)⟩
theorem put_val {v v' : Ky} (h : Srt h0 (pre ++ (k, v) :: suf)) : pre ++ (k, v') :: suf = putL h0 (k, v') (pre ++ (k, v) :: suf) := by
  obtain ⟨n1, n2⟩ := mid_ne h
  refine putL_uniq h (srt_val h) fun q => ?_
  rw [List.mem_append, List.mem_cons, List.mem_append, List.mem_cons]
  constructor
  · rintro (hq | hq | hq)
    · exact .inr ⟨.inl hq, n1 q hq⟩
    · exact .inl hq
    · exact .inr ⟨.inr (.inr hq), n2 q hq⟩
  · rintro (hq | ⟨hq | hq | hq, hne⟩)
    · exact .inr (.inl hq)
    · exact .inl hq
    · exact absurd (by rw [hq]) hne
    · exact .inr (.inr hq)
theorem take_mid {v : Ky} (h : Srt h0 (pre ++ (k, v) :: suf)) : pre ++ suf = takeL k (pre ++ (k, v) :: suf) := by
  obtain ⟨n1, n2⟩ := mid_ne h
  refine takeL_uniq h (List.Pairwise.sublist (List.Sublist.append (List.Sublist.refl _) (List.sublist_cons_self _ _)) h) fun q => ?_
  rw [List.mem_append, List.mem_append, List.mem_cons]
  constructor
  · rintro (hq | hq)
    · exact ⟨.inl hq, n1 q hq⟩
    · exact ⟨.inr (.inr hq), n2 q hq⟩
  · rintro ⟨hq | hq | hq, hne⟩
    · exact .inl hq
    · exact absurd (by rw [hq]) hne
    · exact .inr hq
end
section
set_option maxHeartbeats 1600000 in
theorem tgrown (N root : Nat) (by' : Int) (w : World) : Calls Tryz.prog 70 #[.agg #[.int .i64 (N : Nat), .int .i64 (root : Nat)], .int .i64 by'] w fun e w' => ∃ zt zb, e = .returned (.func (.func 111) #[] #[.pointer (some ⟨zt, 0, none⟩), .pointer (some ⟨zb, 0, none⟩)]) ∧ C2 w' zt 72 (.int .i64 (N : Int)) (.int .i64 (root : Int)) ∧ C1 w' zb 3 (.int .i64 by') ∧ w.heap.size ≤ zt ∧ w.heap.size ≤ zb ∧ Below w.heap.size w w' := by
  have hb : Below w.heap.size w ((w.alloc (.cells #[.int .i64 (N : Int), .int .i64 (root : Int)] 72)).alloc (.cells #[.int .i64 by'] 3)) := ((Below.refl _ w).alloc (Nat.le_refl _) _).alloc (by simp) _
  have e1 : (w.alloc (.cells #[.int .i64 (N : Int), .int .i64 (root : Int)] 72)).heap.size = w.heap.size + 1 := by simp
  have q1 := (C2.new w 72 (.int .i64 (N : Int)) (.int .i64 (root : Int))).alloc (.cells #[.int .i64 by'] 3)
  have q2 := C1.new (w.alloc (.cells #[.int .i64 (N : Int), .int .i64 (root : Int)] 72)) 3 (.int .i64 by')
  rw [e1] at q2
  have HX := Lib.hid (And.intro q1 (And.intro q2 (And.intro (Nat.le_refl w.heap.size) (And.intro (Nat.le_succ w.heap.size) hb))))
  clear hb e1 q1 q2
  go_enter Tryz.func70, Tryz.ntmps70
  go_wp2_with fail
  exact bodyPost_ret (v := .func (.func 111) #[] #[.pointer (some ⟨w.heap.size, 0, none⟩), .pointer (some ⟨w.heap.size + 1, 0, none⟩)]) (by simp [results, Tryz.results70, go_sem]) rfl ⟨_, _, rfl, HX.out⟩
set_option maxHeartbeats 1600000 in
theorem tgrown_ok (N root n : Nat) (by' : Int) (N' : Nat) (zt zb : Nat) (w : World) (q1 : C2 w zt 72 (.int .i64 (N : Int)) (.int .i64 (root : Int))) (q2 : C1 w zb 3 (.int .i64 by')) (hN : (N : Int) + by' = (N' : Int)) (hN' : N' ≤ 4194304) :
    Calls Tryz.prog 111 #[.int .i64 (n : Nat), .int .i64 0, .pointer (some ⟨zt, 0, none⟩), .pointer (some ⟨zb, 0, none⟩)] w fun e w' => e = .returned (.tuple #[.agg #[.int .i64 (N' : Nat), .int .i64 (n : Nat)], .int .i64 0]) ∧ Below w.heap.size w w' := by
  have hrg : -9223372036854775808 ≤ (N : Int) + by' ∧ (N : Int) + by' ≤ 9223372036854775807 := by omega
  have W3 := (show wrap64 ((N : Int) + by') = (N' : Int) from (IntWalk.wrap64_in _ hrg).trans hN)
  have W4 := (show IntKind.i64.wrap ((N : Int) + by') = (N' : Int) from (IntWalk.i64_in _ hrg).trans hN)
  have x0 := q1.c0
  have x1 := q2.c0
  have y0 := q1.lt
  have y1 := q2.lt
  have hb : Below w.heap.size w (w.alloc (.cells #[.int .i64 (N' : Nat), .int .i64 (n : Nat)] 72)) := (Below.refl _ w).alloc (Nat.le_refl _) _
  have HB := Lib.hid hb
  have q6 := C2.new w 72 (.int .i64 (N' : Nat)) (.int .i64 (n : Nat))
  have HQ := Lib.hid q6
  clear q1 q2 hN hN' hrg hb q6
  go_enter Tryz.func111, Tryz.ntmps111
  go_wp2_with fail
  obtain ⟨c0, c1, _⟩ := HQ.out.all
  exact bodyPost_ret (v := .tuple #[.agg #[.int .i64 (N' : Nat), .int .i64 (n : Nat)], .int .i64 0]) (by simp [results, Tryz.results111, go_sem, c0, c1]) rfl ⟨rfl, HB.out⟩
set_option maxHeartbeats 1600000 in
theorem tgrown_no (r er : Int) (h : er ≠ 0) (zt zb : Nat) (w : World) :
    Calls Tryz.prog 111 #[.int .i64 r, .int .i64 er, .pointer (some ⟨zt, 0, none⟩), .pointer (some ⟨zb, 0, none⟩)] w fun e w' => e = .returned (.tuple #[.agg #[.int .i64 0, .int .i64 0], .int .i64 er]) ∧ Below w.heap.size w w' := by
  have hb : Below w.heap.size w (w.alloc (.cells #[.int .i64 0, .int .i64 0] 72)) := (Below.refl _ w).alloc (Nat.le_refl _) _
  have HB := Lib.hid hb
  have q6 := C2.new w 72 (.int .i64 0) (.int .i64 0)
  have HQ := Lib.hid q6
  clear hb q6
  go_enter Tryz.func111, Tryz.ntmps111
  go_wp2_with fail
  obtain ⟨c0, c1, _⟩ := HQ.out.all
  exact bodyPost_ret (v := .tuple #[.agg #[.int .i64 0, .int .i64 0], .int .i64 er]) (by simp [results, Tryz.results111, go_sem, c0, c1]) rfl ⟨rfl, HB.out⟩
end
end Go.Proofs.YtghbbpbhbinioaaGreat
