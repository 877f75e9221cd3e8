/- For every number and any list of acts: calls on an arena, by a caller who gives away only holds that it has: cells, how often each is held, how many are live; at last none (ArenaActs returns true; the arguments read as they did). No condition. -/
import Derived.Test.YtndbhcdiinpkkaaRows
import Derived.Test.YtndbhcdiinpkkaaActs04
import Derived.Test.YtndbhcdiinpkkaaMakeAct04
import Derived.Test.YtndbhcdiinpkkaaEditAct04
import Derived.Test.YtndbhcdiinpkkaaEditNo04
import Derived.Test.YtndbhcdiinpkkaaSame04
import Derived.Test.YtndbhcdiinpkkaaEnd04
import Derived.Deep.LoopGhost
namespace Go.Proofs.Ytndbhcdiinpkkaa.arenaActs
open Go.ChangeShapes Go.WideShapes Go.ChangeAt Go.RowKit Go.Joins Go.Deep

theorem own : ownKnob Try.prog.godebug = none := by kernel_rfl
theorem laidOut : laidOutB Try.prog = true := by kernel_rfl

/-- Any act. -/
theorem act {w0 w : World} {wb b rb most L : Nat} (x : Ac) (hx : x.Fits) (hL : L ≤ 500) (hm2 : most ≤ 1000) (h : St w0 wb b rb most L w) :
    Calls Try.prog 11 #[wp' wb, aact x.kd x.i x.ow x.p x.q x.wo] w (Acted w0 wb b rb most L) := by
  obtain ⟨nd, vC, vn, vm, D, K, Nm, mine, own, M, F, hn, hl, hI⟩ := h
  obtain ⟨⟨k0, k1⟩, ⟨o0, o1⟩, ⟨w0', w1⟩⟩ := hx
  have hc : x.kd % 4 = 0 ∨ x.kd % 4 = 1 ∨ x.kd % 4 = 2 ∨ x.kd % 4 = 3 := by omega
  rcases hc with e | e | e | e
  · by_cases hf : live (most + 1) M = most
    · exact act_full x.kd x.i x.ow x.p x.q x.wo e k0 k1 o0 o1 w0' w1 hL hn hl hI hf
    · have hle : live (most + 1) M ≤ most := by obtain ⟨n, vc, vf, fr, H, ha⟩ := hl.ar; exact ha.live_le
      exact act_make x.kd x.i x.ow x.p x.q x.wo e k0 k1 o0 o1 w0' w1 hL hn hl hI (by omega) hm2
  · exact act_keep x.kd x.i x.ow x.p x.q x.wo e k0 k1 hL hn hl hI
  · exact act_drop x.kd x.i x.ow x.p x.q x.wo e k0 k1 hL hn hl hI
  · by_cases hm : mine (ix nd x.i) = 0
    · exact act_edit_none x.kd x.i x.ow x.p x.q x.wo e k0 k1 hL hn hl hI hm
    · by_cases hb : x.ow % 3 = 0 ∨ x.ow % 3 ≠ (D (ix nd x.i)).owner ∨ 1 < (D (ix nd x.i)).refs
      · exact act_edit_state x.kd x.i x.ow x.p x.q x.wo e k0 k1 o0 o1 w0' w1 hL hn hl hI (by omega) hb
      · obtain ⟨_, hr, _⟩ := hI.held (k := ix nd x.i) (by omega)
        exact act_edit x.kd x.i x.ow x.p x.q x.wo e k0 k1 o0 o1 w0' w1 hL hn hl hI (by omega) (fun e => hb (.inl e)) (Classical.byContradiction fun e => hb (.inr (.inl (Ne.symm e)))) (by omega)

theorem walk_big (m : Int) (A : Option Addr) (l : List Ac) (c : Nat) (w : World) (hbig : 120 < l.length) :
    Calls Try.prog 3 #[.int .i64 m, .slice A l.length c] w fun e w' => e = .returned (.bool true) ∧ Below w.heap.size w w' := by
  have hb : (120 : Int) < (l.length : Int) := by omega
  go_enter Try.func3, Try.ntmps3
  go_wp2_with fail
  refine (lives4 _).mono ?_
  rintro e w1 ⟨rfl, g1⟩
  go_wp2_with fail
  refine (lives4 _).mono ?_
  rintro e w2 ⟨rfl, g2⟩
  go_wp2_with fail
  go_ret
  exact ⟨rfl, g1.trans (g2.mono g1.size)⟩

theorem size_of (n : Int) : ∃ k : Nat, 1 ≤ k ∧ k ≤ 20 ∧ wrap64 (1 + wrap64 ((IntKind.u64.wrap n).tmod 20)) = k := by
  have h0 : 0 ≤ IntKind.u64.wrap n := by rw [IntKind.wrap_u64]; omega
  rw [Int.tmod_eq_emod_of_nonneg h0]
  have h1 : 0 ≤ IntKind.u64.wrap n % 20 := by omega
  have h2 : IntKind.u64.wrap n % 20 < 20 := by omega
  rw [IntWalk.wrap64_in (IntKind.u64.wrap n % 20) (by omega), IntWalk.wrap64_in _ (by omega)]
  exact ⟨(1 + IntKind.u64.wrap n % 20).toNat, by omega, by omega, by omega⟩

/-- The law's world, as it is made. -/
theorem start {w1 w2 w3 w6 : World} {b rb most : Nat} {vC : Value} (h1 : 1 ≤ most) (ha : Ar w2 b most (fun _ => none) (fun k => k = b)) (hb : b = w1.heap.size) (g1 : Below w1.heap.size w1 w2) (hd : Doc w3 w2.heap.size rb 1 most vC (fun _ => d0) (fun _ => .slice none 0 0)) (g2 : Below w2.heap.size w2 w3) (hrb : w2.heap.size ≤ rb)
    (h6 : w6 = ((w3.alloc (.cells #[.int .i64 0] 3)).alloc (.cells #[.int .i64 0] 3)).alloc (.cells #[ap b, rp rb, .slice (some ⟨w3.heap.size, 0, none⟩) 1 1, .slice (some ⟨w3.heap.size + 1, 0, none⟩) 1 1] 34)) :
    St w1 (w3.heap.size + 1 + 1) b rb most 1 w6 := by
  subst h6
  have e1 : (w3.alloc (.cells #[.int .i64 0] 3)).heap.size = w3.heap.size + 1 := by simp
  have e2 : ((w3.alloc (.cells #[.int .i64 0] 3)).alloc (.cells #[.int .i64 0] 3)).heap.size = w3.heap.size + 1 + 1 := by simp
  have b3 : Below w3.heap.size w3 (((w3.alloc (.cells #[.int .i64 0] 3)).alloc (.cells #[.int .i64 0] 3)).alloc (.cells #[ap b, rp rb, .slice (some ⟨w3.heap.size, 0, none⟩) 1 1, .slice (some ⟨w3.heap.size + 1, 0, none⟩) 1 1] 34)) := (((Below.refl _ w3).alloc (Nat.le_refl _) _).alloc (by simp) _).alloc (by simp; omega) _
  have hs := g1.size
  have hs2 := g2.size
  have hblt : b < w2.heap.size := ha.lt rfl
  have o1 := (World.ownsRow_lit (base := w1.heap.size) (e := 3) (size := 1) w3 #[.int .i64 0] 1 (by omega) (by decide) (by decide)).alloc (.cells #[.int .i64 0] 3) |>.alloc (.cells #[ap b, rp rb, .slice (some ⟨w3.heap.size, 0, none⟩) 1 1, .slice (some ⟨w3.heap.size + 1, 0, none⟩) 1 1] 34)
  have o2 := (World.ownsRow_lit (base := w1.heap.size) (e := 3) (size := 1) (w3.alloc (.cells #[.int .i64 0] 3)) #[.int .i64 0] 1 (by rw [e1]; omega) (by decide) (by decide)).alloc (.cells #[ap b, rp rb, .slice (some ⟨w3.heap.size, 0, none⟩) 1 1, .slice (some ⟨w3.heap.size + 1, 0, none⟩) 1 1] 34)
  rw [e1] at o2
  have c4 := C4.new ((w3.alloc (.cells #[.int .i64 0] 3)).alloc (.cells #[.int .i64 0] 3)) 34 (ap b) (rp rb) (.slice (some ⟨w3.heap.size, 0, none⟩) 1 1) (.slice (some ⟨w3.heap.size + 1, 0, none⟩) 1 1)
  rw [e2] at c4
  have hd' : Doc w3 w1.heap.size rb 1 most vC (fun _ => d0) (fun _ => .slice none 0 0) := ⟨hd.rd, own_less hd.cr hs, hd.n1, hd.n2, fun k k1 k2 => by omega, hd.k0⟩
  have hdl : ∀ g, Lw (w3.heap.size + 1 + 1) rb 1 vC (.slice (some ⟨w3.heap.size, 0, none⟩) 1 1) (.slice (some ⟨w3.heap.size + 1, 0, none⟩) 1 1) (fun _ => .slice none 0 0) g → w2.heap.size ≤ g := fun g hg => by
    rcases hg with e | e | e | e | e | ⟨k, k1, k2, _⟩
    · omega
    · omega
    · exact (hd.cr.lt g e).1
    · simp only [Value.ownBlock, Option.some.injEq] at e; omega
    · simp only [Value.ownBlock, Option.some.injEq] at e; omega
    · omega
  refine ⟨1, vC, .slice (some ⟨w3.heap.size, 0, none⟩) 1 1, .slice (some ⟨w3.heap.size + 1, 0, none⟩) 1 1, fun _ => d0, fun _ => .slice none 0 0, fun _ => 0, fun _ => 0, fun _ => 0, fun _ => none, fun k => k = b, Nat.le_refl _, ⟨⟨c4, hd'.below b3, o1, o2, fun g e e' => ?_, fun k k1 k2 => by omega, by omega, by omega⟩, (ha.below g2).below b3, fun g hg e => ?_, (g1.trans (g2.mono hs)).trans (b3.mono (by omega)), fun g e => by omega⟩, ?_⟩
  · simp only [Value.ownBlock, Option.some.injEq] at e e'; omega
  · have := hdl g hg; omega
  · have hocc : ∀ i, occ (most + 1) (fun _ => none) i = 0 := fun i => sumTo_zero fun _ _ => by simp [kd]
    refine ⟨⟨rfl, rfl, fun k _ h => ?_, fun k k' _ _ h => ?_, fun i h => absurd rfl h, fun k _ h => ?_⟩, ⟨rfl, fun _ _ => rfl, fun _ h => absurd rfl h, fun i _ => ?_, ⟨fun _ => 0, fun j k hk => by simp [kd] at hk⟩⟩, fun k _ h => ?_, fun _ _ _ => rfl, fun _ _ => ⟨rfl, rfl⟩, fun _ => Nat.zero_le _, fun _ => by decide⟩
    · simp [d0] at h
    · simp [d0] at h
    · simp [d0] at h
    · rw [hocc]; simp [rf]
    · simp [d0] at h

/-- Where the caller lets its holds go. -/
def Going (w0 : World) (wb b rb nd most : Nat) (vC vn vm : Value) (D : Nat → Dc) (K : Nat → Value) (Nm : Nat → Nat) (j : Nat) (mj : Nat → Prop) (wr : World) : Prop :=
  ∃ (mine : Nat → Nat) (M : Cells) (F : Nat → Prop), Fin4 w0 wr wb b rb nd most vC vn vm D K Nm mine M F ∧ (∀ k, k < j → mine k = 0) ∧ mj (mine j)

set_option maxRecDepth 100000 in
set_option maxHeartbeats 4000000 in
theorem walk_small (m : Int) (A : Option Addr) (l : List Ac) (c : Nat) (w : World) (hl : Acts w A l) (hf : ∀ x ∈ l, x.Fits) (hle : l.length ≤ 120) :
    Calls Try.prog 3 #[.int .i64 m, .slice A l.length c] w fun e w' => e = .returned (.bool true) ∧ Below w.heap.size w w' := by
  have hb : ¬ (120 : Int) < (l.length : Int) := by omega
  go_enter Try.func3, Try.ntmps3
  go_wp2_with fail
  refine (lives4 _).mono ?_
  rintro e w1 ⟨rfl, g1⟩
  have HL := Lib.hid (hl.below g1)
  have HF := Lib.hid hf
  have G1 := Lib.hid g1
  clear hl hf g1
  obtain ⟨most, hm1, hm2, hm⟩ := size_of m
  go_wp2_with fail
  rw [hm]
  refine (anew most w1 hm1 (by omega)).mono ?_
  rintro e w2 ⟨rfl, ha, g2⟩
  have HA := Lib.hid ha
  have G2 := Lib.hid g2
  clear ha g2
  go_wp2_with fail
  refine (ref_new most w2).mono ?_
  rintro e w3 ⟨rb, vC, rfl, hd, g3, hrb⟩
  have HD := Lib.hid hd
  have G3 := Lib.hid g3
  have HRB := Lib.hid hrb
  clear hd g3 hrb
  go_wp2_with fail
  have HS := Lib.hid (start hm1 HA.out rfl G2.out HD.out G3.out HRB.out rfl)
  generalize hw6 : ((w3.alloc (.cells #[.int .i64 0] 3)).alloc (.cells #[.int .i64 0] 3)).alloc (.cells #[ap w1.heap.size, rp rb, .slice (some ⟨w3.heap.size, 0, none⟩) 1 1, .slice (some ⟨w3.heap.size + 1, 0, none⟩) 1 1] 34) = w6 at HS ⊢
  generalize hwb : w3.heap.size + 1 + 1 = wb at HS ⊢
  generalize hb1 : w1.heap.size = b at HS ⊢
  clear hw6 hwb hb1 HA HD G2 G3 HRB hm hb
  go_loopg [41] l.length (fun c' i wr => ∃ j : Nat, j + c' = l.length ∧ i = .int .i64 j ∧ St w1 wb b rb most (1 + j) wr)
  case atStart => exact ⟨0, by omega, rfl, HS.out⟩
  case round =>
    obtain ⟨j, hj, rfl, hS⟩ := hrel
    by_cases h1 : j < l.length
    · obtain ⟨x, hx⟩ : ∃ x, l[j]? = some x := ⟨_, List.getElem?_eq_getElem h1⟩
      have hbel : Below w1.heap.size w1 wr := by
        obtain ⟨nd, vC', vn, vm, D, K, Nm, mine, own', M, F, hn5, hl5, hI5⟩ := hS
        exact hl5.bel
      obtain ⟨g, o, rfl, a0, a1, a2, a3, a4, a5⟩ := (HL.out.below hbel).at hx
      have hfx := Lib.hid (HF.out x (List.mem_of_getElem? hx))
      have HSr := Lib.hid hS
      clear hS hbel hx
      go_wp2_with fail
      refine (act x hfx.out (by omega) (by omega) (HSr.out.below ((Below.refl _ _).alloc (Nat.le_refl _) _))).mono ?_
      rintro e w5 ⟨rfl, hS5⟩
      obtain ⟨nd, vC', vn, vm, D, K, Nm, mine, own', M, F, hn5, hl5, hI5⟩ := hS5
      clear a0 a1 a2 a3 a4 a5 HSr
      go_wp2_with fail
      refine (lsame (L := 1 + j + 1) (by omega) hl5 hI5 (by omega)).mono ?_
      rintro e w6' ⟨rfl, hl6⟩
      have HE := Lib.hid (show St w1 wb b rb most (1 + (j + 1)) w6' from ⟨nd, vC', vn, vm, D, K, Nm, mine, own', M, F, by omega, hl6, hI5⟩)
      clear hl5 hI5 hl6 hn5
      go_wp2_with fail
      go_roundg (l.length - (j + 1))
      case measure => omega
      case rel => exact ⟨j + 1, by omega, by go_num, HE.out⟩
    · obtain rfl : j = l.length := by omega
      obtain ⟨nd, vC', vn, vm, D, K, Nm, mine, own', M, F, hn5, hl5, hI5⟩ := hS
      have n1 := hl5.mem.doc.n1
      have n2 := hl5.mem.doc.n2
      obtain ⟨gm, cm, hvm, _, _⟩ := hl5.mem.mineAt (j := 0) (by omega)
      obtain ⟨gn, cn, hvn, _⟩ := hl5.mem.nameAt (j := 0) (by omega)
      have m3 := hl5.mem.wd.c3
      rw [hvm] at m3
      have HG := Lib.hid (show Going w1 wb b rb nd most vC' vn vm D K Nm 0 (fun _ => True) wr from ⟨mine, M, F, Fin4.start hl5 hI5 (by omega), fun k h => by omega, trivial⟩)
      clear hl5 hI5 hn5
      go_wp2_with fail
      go_loopg [60] nd (fun c' i wq => ∃ k : Nat, k + c' = nd ∧ i = .int .i64 k ∧ Going w1 wb b rb nd most vC' vn vm D K Nm k (fun _ => True) wq)
      case atStart => exact ⟨0, by omega, rfl, HG.out⟩
      case round =>
        obtain ⟨k, hk, rfl, hg⟩ := hrel
        by_cases h2 : k < nd
        · obtain ⟨mine0, M0, F0, hF0, hz0, _⟩ := hg
          have HG0 := Lib.hid (show Going w1 wb b rb nd most vC' vn vm D K Nm k (fun v => v = mine0 k) wr from ⟨mine0, M0, F0, hF0, hz0, rfl⟩)
          have y3 : (0 : Int) ≤ (k : Int) := by omega
          have y4 : (k : Int) < (nd : Int) := by omega
          clear hF0 hz0
          go_wp2_with fail
          go_loopg [] (mine0 k) (fun c' wq => Going w1 wb b rb nd most vC' vn vm D K Nm k (fun v => v = c') wq)
          case atStart => exact HG0.out
          case round =>
            obtain ⟨mine', M', F', hF', hz', hc'⟩ := hrel
            have HC := Lib.hid hc'
            clear hc'
            have p3 := hF'.law.mem.wd.c3
            rw [hvm] at p3
            obtain ⟨g', c2, e, pc, pf⟩ := hF'.law.mem.mineAt h2
            rw [hvm] at e
            simp only [Value.slice.injEq, Option.some.injEq, Addr.mk.injEq, and_true, true_and] at e
            obtain ⟨rfl, rfl⟩ := e
            have hle' := hF'.le k
            by_cases h3 : 1 ≤ mine' k
            · have h3' : (0 : Int) < (mine' k : Int) := by omega
              have p2 := hF'.law.mem.wd.c2
              rw [hvn] at p2
              obtain ⟨g', c2, e, pn⟩ := hF'.law.mem.nameAt h2
              rw [hvn] at e
              simp only [Value.slice.injEq, Option.some.injEq, Addr.mk.injEq, and_true, true_and] at e
              obtain ⟨rfl, rfl⟩ := e
              have HF' := Lib.hid hF'
              clear hF'
              go_wp2_with fail
              refine (adrop (Nm k) b most M' F' _ HF'.out.law.ar (HF'.out.ne h2 h3) (fun j => Nat.le_trans (HF'.out.rf j) (by decide))).mono ?_
              rintro e wd ⟨rfl, M2, hd, ha, hk2⟩
              have HN := Lib.hid (HF'.out.next h2 h3 hd ha hk2 hvm)
              have hl' := HF'.out.law.arena ha hk2
              have q3 := hl'.mem.wd.c3
              rw [hvm] at q3
              obtain ⟨g', c2, e, qc, qf⟩ := hl'.mem.mineAt h2
              rw [hvm] at e
              simp only [Value.slice.injEq, Option.some.injEq, Addr.mk.injEq, and_true, true_and] at e
              obtain ⟨rfl, rfl⟩ := e
              clear hl' ha hk2 hd p2 p3 pc pf pn HF'
              go_wp2_with fail
              go_roundg (gk - 1)
              case measure => have := HC.out; omega
              case rel => exact ⟨upd mine' k (mine' k - 1), M2, _, HN.out, fun k' hk' => by rw [upd_other _ _ (by omega)]; exact hz' k' hk', by rw [upd_same]; have := HC.out; omega⟩
            · have h3' : ¬ (0 : Int) < (mine' k : Int) := by omega
              have HG2 := Lib.hid (show Going w1 wb b rb nd most vC' vn vm D K Nm (k + 1) (fun _ => True) wr from ⟨mine', M', F', hF', fun k' hk' => by
                by_cases e : k' = k
                · subst e; omega
                · exact hz' k' (by omega), trivial⟩)
              clear hF'
              go_wp2_with fail
              go_roundg (nd - (k + 1))
              case measure => omega
              case rel => exact ⟨k + 1, by omega, by go_num, HG2.out⟩
        · obtain rfl : k = nd := by omega
          obtain ⟨mine0, M0, F0, hF0, hz0, _⟩ := hg
          have HZ := Lib.hid (hF0.nobody hz0)
          have HF0 := Lib.hid hF0
          clear hF0 hz0
          go_wp2_with (first | (go_at_call 14; refine (alive b most M0 _ _ HF0.out.law.ar).mono ?_; rintro e w' ⟨rfl, rfl⟩; rw [HZ.out]) | (go_at_call 15; refine (aroom b most M0 _ _ HF0.out.law.ar).mono ?_; rintro e w' ⟨rfl, k, rfl⟩; rw [HZ.out]))
          go_ret
          exact ⟨ret_bool (by simp), G1.out.trans ((HF0.out.law.bel.trans ((below_drewN _ _).mono HF0.out.law.bel.size)).mono G1.out.size)⟩

theorem walk (m : Int) (A : Option Addr) (l : List Ac) (c : Nat) (w : World) (hl : Acts w A l) (hf : ∀ x ∈ l, x.Fits) :
    Calls Try.prog 3 #[.int .i64 m, .slice A l.length c] w fun e w' => e = .returned (.bool true) ∧ Below w.heap.size w w' := by
  by_cases h : l.length ≤ 120
  · exact walk_small m A l c w hl hf h
  · exact walk_big m A l c w (by omega)

set_option maxRecDepth 100000 in
theorem lifted (os : Os) (started : os.Started) (H : Type) (enc : TypeId × Value → H) :
    ReturnsInHanded {} Try.checked os 3 .any (Rows.arenaActsSpec.pre6 enc Try.prog Try.f3 Rows.arenaActsRow.domain false) (Rows.arenaActsSpec.post enc Try.prog Try.f3 false true false false) := by
  refine returnsInHanded_of_change (C := Try.checked) own started (by kernel_rfl) Try.func3
    (ChangeSpec.witness6 (enc := enc) (C := Try.checked) false ⟨#[], #[.int .i64 0, .slice none 0 0], []⟩ 8 (by kernel_rfl) (by kernel_rfl) (by kernel_rfl) (by kernel_rfl)) ?_
  intro W base args ds gs before hval0 hW _ _
  have hval : ∀ (j : Nat) t v, Try.f3.params[j]? = some t → args[j]? = some v → Value.okWide Try.prog W .any base t v := hval0
  have hW' := hW
  obtain ⟨p, q, hA0, hV, rfl, _, _⟩ := hW
  have hA : DataW.TrodAll enc Try.prog W 0 (fun _ => true) true Try.f3.params.toList args.toList ds p := hA0
  rw [Try.params3] at hA hval
  obtain ⟨v0, vs0, d0, ds0, p0, q0, hargs, rfl, rfl, h0, r0⟩ := trodAll_cons hA
  obtain ⟨v1, vs1, d1, ds1, p1, q1, rfl, rfl, rfl, h1, r1⟩ := trodAll_cons r0
  obtain ⟨rfl, rfl, rfl⟩ := trodAll_nil r1
  obtain rfl : args = #[v0, v1] := by cases args; simp_all
  obtain ⟨rfl, rfl⟩ := trodVars_none hV
  simp only [List.append_nil] at hW'
  obtain ⟨a0, rfl, rfl, rfl, w0⟩ := open_int Try.underlying3 (hval 0 3 v0 rfl rfl) h0
  obtain ⟨A, l, c, rfl, hl, hf, _⟩ := open_acts (hval 1 22 v1 rfl rfl) h1
  clear hA0 hval0
  refine (walk a0 A l c W hl hf).mono fun e W' ⟨he, hg⟩ => ?_
  subst he
  have hlt : ∀ x ∈ p1, x.block < W.heap.size := fun x hx => by simpa using hW'.lt x (by simpa using hx)
  refine ⟨_, rfl, _, _, _, [], p1, [], by simpa using hW', ?_, ?_, ?_, hg.frame _, fun h => by cases h⟩
  · exact trodAll_cons_mk (shut_bool Try.underlying4 _) trodAll_mk0
  · have g2 := Below.trod laidOut (by kernel_rfl) (of_decide_eq_true (by kernel_rfl)) h1 hg hlt
    have := trodAll_cons_mk (shut_int Try.underlying3 w0) (trodAll_cons_mk g2 trodAll_mk0)
    rw [List.append_nil] at this
    exact this
  · rfl

theorem over : Rows.arenaActsRow.holds Try.pinned (OpenSpec.ofChange Rows.arenaActsSpec) :=
  OpenClaim.holds_of_wide 3 Try.f3 rfl rfl rfl rfl rfl rfl rfl ⟨rfl, rfl, rfl, rfl, rfl⟩ rfl rfl rfl rfl rfl (by kernel_rfl) Try.func3 (by kernel_rfl)
    (of_decide_eq_true (by kernel_rfl)) (by unfold Func.isWrapper; first | (rw [if_pos (by decide +kernel)]; kernel_rfl) | (rw [if_neg (by decide +kernel)]; exact ⟨rfl, rfl⟩))
    (fun os started H enc _ => lifted os started H enc)

theorem proved : Rows.ArenaActsSaid :=
  over
#print axioms proved

end Go.Proofs.Ytndbhcdiinpkkaa.arenaActs
