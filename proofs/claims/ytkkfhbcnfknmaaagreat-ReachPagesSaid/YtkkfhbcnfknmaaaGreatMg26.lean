/- Several texts in one. -/
import Derived.Test.YtkkfhbcnfknmaaaGreatMg23
import Derived.Test.YtkkfhbcnfknmaaaGreatMg25
import Derived.Test.YtkkfhbcnfknmaaaGreatMg11
set_option linter.unusedSimpArgs false
namespace Go.Proofs.YtkkfhbcnfknmaaaGreat
set_option maxRecDepth 100000
set_option linter.unusedSimpArgs false
set_option linter.unusedVariables false
open Go.RowKit Go.Shelf
def addN : Nat → List Ky → List Pr → List Pr
  | _, [], L => L
  | i, k :: r, L => addN (i + 1) r (putL h0 (k, (2, (i : Int), ⟨#[]⟩)) L)
theorem addN_step : ∀ (l : List Ky) (i j : Nat) (L : List Pr) (k : Ky), l[j]? = some k → addN i (l.take (j + 1)) L = putL h0 (k, (2, ((i + j : Nat) : Int), ⟨#[]⟩)) (addN i (l.take j) L)
  | [], i, j, L, k, h => by simp at h
  | x :: l, i, 0, L, k, h => by
    simp only [List.getElem?_cons_zero, Option.some.injEq] at h
    subst h
    rfl
  | x :: l, i, j + 1, L, k, h => by
    rw [List.getElem?_cons_succ] at h
    rw [List.take_succ_cons, List.take_succ_cons]
    have := addN_step l (i + 1) j (putL h0 (x, (2, (i : Int), ⟨#[]⟩)) L) k h
    unfold addN
    rw [this, show i + 1 + j = i + (j + 1) by omega]
abbrev OkR (k : Ky) : Prop := OkK k ∧ rightB k.1 k.2.1 k.2.2 = true
abbrev T8 : TypeId := 109
structure Mq (w W : World) (b bh seed z4 z5 z10 z11 : Nat) (M : Cells) (F : Nat → Prop) (root : Nat) (L : List Pr) (N rt : Nat) (LR : List Pr) (vr : Value) : Prop where
  ls : LS w b bh seed 4096 z10 M F W
  b4 : C2 W z4 26 (.pointer none) (.pointer none)
  b5 : C2 W z5 72 (.int .i64 0) (.int .i64 0)
  b11 : C2 W z11 72 (.int .i64 (N : Nat)) (.int .i64 (rt : Nat))
  nf : ¬ F z4 ∧ ¬ F z5 ∧ ¬ F z11
  zs : w.heap.size ≤ z4 ∧ z4 < z5 ∧ z5 < bh ∧ bh < z10 ∧ z10 < z11
  bk : Bk (4096 + 1) M [] (fun _ => 0) [root]
  tt : TT M root L
  row : W.ownsRow w.heap.size T8 6 vr LR.length (LR.flatMap pcells)
  rnf : ∀ k, vr.ownBlock = some k → ¬ F k ∧ k ≠ bh
  keys : ∀ q ∈ L, OkR q.1
section
variable {w W W' : World} {b bh seed z4 z5 z10 z11 root N rt n : Nat} {M M' : Cells} {F F' : Nat → Prop} {L LR L' : List Pr} {vr : Value}
theorem Mq.kp {G : Nat → Prop} (h : Mq w W b bh seed z4 z5 z10 z11 M F root L N rt LR vr) (hk : Kp G W W') (hG : ∀ q, G q → w.heap.size ≤ q ∧ ¬ F q ∧ q ≠ bh ∧ q ≠ z4 ∧ q ≠ z5 ∧ q ≠ z10 ∧ q ≠ z11 ∧ vr.ownBlock ≠ some q) : Mq w W' b bh seed z4 z5 z10 z11 M F root L N rt LR vr :=
  ⟨h.ls.kp hk (fun q hq => ⟨(hG q hq).1, (hG q hq).2.1, (hG q hq).2.2.1, (hG q hq).2.2.2.2.2.1⟩), h.b4.kp hk (fun hq => (hG _ hq).2.2.2.1 rfl), h.b5.kp hk (fun hq => (hG _ hq).2.2.2.2.1 rfl), h.b11.kp hk (fun hq => (hG _ hq).2.2.2.2.2.2.1 rfl), h.nf, h.zs, h.bk, h.tt, hk.own h.row (fun k e hq => (hG _ hq).2.2.2.2.2.2.2 e), h.rnf, h.keys⟩
theorem Mq.below (h : Mq w W b bh seed z4 z5 z10 z11 M F root L N rt LR vr) (hb : Below W.heap.size W W') : Mq w W' b bh seed z4 z5 z10 z11 M F root L N rt LR vr := h.kp (Kp.of_below hb (fun _ => False)) (fun _ h => h.elim)
theorem Mq.live (h : Mq w W b bh seed z4 z5 z10 z11 M F root L N rt LR vr) : live (4096 + 1) M = L.length :=
  live_alone h.bk (fun k h0 hk => by
    have : [root].count k ≠ 0 := by omega
    have := List.count_pos_iff.1 (Nat.pos_of_ne_zero this)
    simpa using this) h.tt
theorem Mq.put (h : Mq w W b bh seed z4 z5 z10 z11 M F root L N rt LR vr) (hL : ∀ q ∈ L', OkR q.1) (hls : LS w b bh seed 4096 z10 M' F' W') (hT : TRes 4096 M (fun _ => 0) root 1 L' (L.length + 1) n M') (hF : ∀ q, q < W.heap.size → ¬ F q → ¬ F' q) (hk : Kp (fun q => F q ∨ q = bh) W W') : Mq w W' b bh seed z4 z5 z10 z11 M' F' n L' N rt LR vr := by
  obtain ⟨f4, f5, f11⟩ := h.nf
  obtain ⟨s1, s2, s3, s4, s5⟩ := h.zs
  have l4 := h.b4.lt
  have l5 := h.b5.lt
  have l11 := h.b11.lt
  have e0 : out1 (fun _ => 0) root 1 = fun _ => 0 := by unfold out1; rw [if_neg (by decide)]
  have hb := hT.bk
  rw [e0] at hb
  exact ⟨hls, h.b4.kp hk (fun e => e.elim f4 (by omega)), h.b5.kp hk (fun e => e.elim f5 (by omega)), h.b11.kp hk (fun e => e.elim f11 (by omega)), ⟨hF _ l4 f4, hF _ l5 f5, hF _ l11 f11⟩, h.zs, hb, hT.tt, hk.own h.row (fun k e hq => hq.elim (h.rnf k e).1 (h.rnf k e).2), fun k e => ⟨hF k (own_blk h.row k e).2 (h.rnf k e).1, (h.rnf k e).2⟩, hL⟩
theorem Mq.docs {vr' : Value} (h : Mq w W b bh seed z4 z5 z10 z11 M F root L N rt LR vr) (hb : Below W.heap.size W W') (hr : W'.ownsRow W.heap.size T8 6 vr' L'.length (L'.flatMap pcells)) : Mq w W' b bh seed z4 z5 z10 z11 M F root L N rt L' vr' := by
  have h' := h.below hb
  exact ⟨h'.ls, h'.b4, h'.b5, h'.b11, h'.nf, h'.zs, h'.bk, h'.tt, own_less hr h.ls.bel.size, fun k e => by
    have h1 := (own_blk hr k e).1
    exact ⟨fun hf => by have := h.ls.ar.lt hf; omega, fun e => by have := h.ls.hh.lt; omega⟩, h'.keys⟩
theorem Mq.box (h : Mq w W b bh seed z4 z5 z10 z11 M F root L N rt LR vr) (N' rt' : Nat) : Mq w ((W.setCell ⟨z11, 0, none⟩ (.int .i64 (N' : Nat))).setCell ⟨z11, 1, none⟩ (.int .i64 (rt' : Nat))) b bh seed z4 z5 z10 z11 M F root L N' rt' LR vr := by
  have kz : Kp (fun q => q = z11) W ((W.setCell ⟨z11, 0, none⟩ (.int .i64 (N' : Nat))).setCell ⟨z11, 1, none⟩ (.int .i64 (rt' : Nat))) := ((Kp.refl (fun q => q = z11) W).setCell (.inl rfl) _).setCell (.inl rfl) _
  obtain ⟨s1, s2, s3, s4, s5⟩ := h.zs
  refine ⟨h.ls.kp kz (fun q e => by subst e; exact ⟨by omega, h.nf.2.2, by omega, by omega⟩), h.b4.kp kz (by omega), h.b5.kp kz (by omega), (h.b11.set0 _).set1 _, h.nf, h.zs, h.bk, h.tt, kz.own h.row (fun k e e' => ?_), h.rnf, h.keys⟩
  exact own_ne h.row h.b11 (by decide) k e e'
end
def Om (w : World) (F : Nat → Prop) (bh z4 z5 z10 z11 z14 : Nat) (vr : Value) (z : Nat) : Prop := w.heap.size ≤ z ∧ ¬ F z ∧ z ≠ bh ∧ z ≠ z4 ∧ z ≠ z5 ∧ z ≠ z10 ∧ z ≠ z11 ∧ z ≠ z14 ∧ vr.ownBlock ≠ some z
section
variable {w W W' : World} {b bh seed z4 z5 z10 z11 z14 root N rt n : Nat} {M M' : Cells} {F F' : Nat → Prop} {L LR L' : List Pr} {vr v0 v1 v2 : Value}
theorem Mq.fresh (h : Mq w W b bh seed z4 z5 z10 z11 M F root L N rt LR vr) (hk : C3 W z14 36 v0 v1 v2) : Om w F bh z4 z5 z10 z11 z14 vr W.heap.size := by
  have l4 := h.b4.lt
  have l5 := h.b5.lt
  have l10 := h.ls.lb.lt
  have l11 := h.b11.lt
  have l14 := hk.lt
  have lh := h.ls.hh.lt
  exact ⟨h.ls.bel.size, fun hf => by have := h.ls.ar.lt hf; omega, by omega, by omega, by omega, by omega, by omega, by omega, fun e => by have := (own_blk h.row _ e).2; omega⟩
end
structure MadeR (seed : Nat) (l : List Ky) (w : World) (e : Ending) (w' : World) : Prop where
  has : (∃ (b bh N rt : Nat) (A : Option Addr) (n c : Nat), e = .returned (.tuple #[land b bh, .agg #[.int .i64 (N : Nat), .int .i64 (rt : Nat)], .slice A n c, .bool false]) ∧ ∃ k ∈ l, ¬ (rightB k.1 k.2.1 k.2.2 = true ∧ k.2.2.size ≤ 60)) ∨
    ∃ (b bh root : Nat) (M : Cells) (F : Nat → Prop) (A : Option Addr) (c : Nat), e = .returned (.tuple #[land b bh, .agg #[.int .i64 ((addN 0 l []).length : Nat), .int .i64 (root : Nat)], .slice A (addN 0 l []).length c, .bool true]) ∧ Ar w' b 4096 M F ∧ TT M root (addN 0 l []) ∧ w'.ownsRow w.heap.size T8 6 (.slice A (addN 0 l []).length c) (addN 0 l []).length ((addN 0 l []).flatMap pcells) ∧ (∀ q ∈ addN 0 l [], OkR q.1) ∧ (addN 0 l []).length ≤ l.length
  bel : Below w.heap.size w w'
section
set_option maxHeartbeats 8000000 in
theorem lmade12 (seed : Nat) (A : Option Addr) (l : List Ky) (c : Nat) (w : World) (hL : Lst w A l) (hok : ∀ k ∈ l, 0 ≤ k.1 ∧ k.1 ≤ 255) (hn : l.length ≤ 200) :
    Calls Tryz.prog 49 #[.int .u64 seed, .slice A l.length c] w (MadeR seed l w) := by
  have HH := Lib.hid (And.intro hL (And.intro hok hn))
  have hb1 : Below w.heap.size w ((w.alloc (.cells #[.pointer none, .pointer none] 26)).alloc (.cells #[.int .i64 0, .int .i64 0] 72)) := ((Below.refl _ w).alloc (Nat.le_refl _) _).alloc (by simp) _
  have q4 : C2 ((w.alloc (.cells #[.pointer none, .pointer none] 26)).alloc (.cells #[.int .i64 0, .int .i64 0] 72)) w.heap.size 26 (.pointer none) (.pointer none) := (C2.new w _ _ _).alloc _
  have q5 : C2 ((w.alloc (.cells #[.pointer none, .pointer none] 26)).alloc (.cells #[.int .i64 0, .int .i64 0] 72)) (w.heap.size + 1) 72 (.int .i64 0) (.int .i64 0) := by
    have h := C2.new (w.alloc (.cells #[.pointer none, .pointer none] 26)) 72 (.int .i64 0) (.int .i64 0)
    simpa using h
  obtain ⟨W1, hW1⟩ : ∃ W1, W1 = (w.alloc (.cells #[.pointer none, .pointer none] 26)).alloc (.cells #[.int .i64 0, .int .i64 0] 72) := ⟨_, rfl⟩
  rw [← hW1] at hb1 q4 q5
  have hsz : W1.heap.size = w.heap.size + 1 + 1 := by rw [hW1]; simp
  have H1 := Lib.hid (And.intro hb1 (And.intro q4 (And.intro q5 hsz)))
  have HN := Lib.hid (anew 4096 W1 (by decide) (by decide))
  clear hL hok hn hb1 q4 q5 hsz
  go_enter Tryz.func49, Tryz.ntmps49
  go_upto_region 1 with fail
  rw [← hW1]
  clear hW1
  go_wp2_with fail
  refine HN.out.mono ?_
  rintro e w2 ⟨rfl, ha, hb2⟩
  have H2 := Lib.hid (And.intro ha hb2)
  clear ha hb2 HN
  go_wp2_with fail
  refine (hnew seed w2).mono ?_
  rintro e w3 ⟨rfl, hh, hg⟩
  have H3 := Lib.hid (And.intro hh hg.below)
  clear hh hg
  go_upto_block 0 with fail
  have mq0 : Mq w ((w3.alloc (.cells #[ap W1.heap.size, .pointer (some ⟨w2.heap.size, 0, none⟩)] 26)).alloc (.cells #[.int .i64 0, .int .i64 0] 72)) W1.heap.size w2.heap.size seed w.heap.size (w.heap.size + 1) w3.heap.size (w3.heap.size + 1) (fun _ => none) (fun k => k = W1.heap.size) 0 [] 0 0 [] (.slice none 0 0) := by
    obtain ⟨hb1, q4, q5, hsz⟩ := H1.out
    obtain ⟨ha, hb2⟩ := H2.out
    obtain ⟨hh, hb3⟩ := H3.out
    have s2 := hb2.size
    have s3 := hb3.size
    have hbl := ha.blt
    have hhl := hh.lt
    have ba : Below w3.heap.size w3 ((w3.alloc (.cells #[ap W1.heap.size, .pointer (some ⟨w2.heap.size, 0, none⟩)] 26)).alloc (.cells #[.int .i64 0, .int .i64 0] 72)) := ((Below.refl _ w3).alloc (Nat.le_refl _) _).alloc (by simp) _
    have h11 := C2.new (w3.alloc (.cells #[ap W1.heap.size, .pointer (some ⟨w2.heap.size, 0, none⟩)] 26)) 72 (.int .i64 0) (.int .i64 0)
    rw [World.size_alloc] at h11
    refine ⟨⟨(ha.below hb3).below ba, hh.below ba, fun e => by omega, (C2.new w3 _ _ _).alloc _, ⟨fun e => by omega, by omega⟩, ((hb1.trans (hb2.mono (by omega))).trans (hb3.mono (by omega))).trans (ba.mono (by omega)), fun q e => by omega, ⟨by omega, by omega⟩⟩, ((q4.below hb2).below hb3).below ba, ((q5.below hb2).below hb3).below ba, h11, ⟨fun e => by omega, fun e => by omega, fun e => by omega⟩, ⟨by omega, by omega, by omega, by omega, by omega⟩, bk0 4096, .nil, World.ownsRow_nil _ _ _ _, fun k e => (by cases e), fun q hq => (by simp at hq)⟩
  have MQ0 := Lib.hid mq0
  clear mq0 H2 H3
  obtain ⟨z4, hz4⟩ : ∃ z, z = w.heap.size := ⟨_, rfl⟩
  obtain ⟨z5, hz5⟩ : ∃ z, z = w.heap.size + 1 := ⟨_, rfl⟩
  obtain ⟨b, hbz⟩ : ∃ z, z = W1.heap.size := ⟨_, rfl⟩
  obtain ⟨bh, hbhz⟩ : ∃ z, z = w2.heap.size := ⟨_, rfl⟩
  obtain ⟨z10, hz10⟩ : ∃ z, z = w3.heap.size := ⟨_, rfl⟩
  obtain ⟨z11, hz11⟩ : ∃ z, z = w3.heap.size + 1 := ⟨_, rfl⟩
  have HZ4 := Lib.hid hz4
  rw [← hz11, ← hz10, ← hz5, ← hbz, ← hbhz] at MQ0 ⊢
  rw [← hz4] at MQ0 ⊢
  clear hz4 hz5 hbz hbhz hz10 hz11 H1
  have hslice : ∀ W v LR, (W : World).ownsRow w.heap.size T8 6 v (LR : List Pr).length (LR.flatMap pcells) → ∃ Av cv, v = .slice Av LR.length cv := fun W v LR h => by
    obtain ⟨Av, cv, e, _⟩ := (Rd.of_own h).form
    exact ⟨Av, cv, e⟩
  have HSL := Lib.hid hslice
  clear hslice
  go_wp2_with fail
  go_loopg [12, 27] l.length (fun c' s12 s27 wr => ∃ (j : Nat) (M : Cells) (F : Nat → Prop) (root : Nat), j + c' = l.length ∧ s27 = .int .i64 (j : Int) ∧ (addN 0 (l.take j) []).length ≤ j ∧ Mq w wr b bh seed z4 z5 z10 z11 M F root (addN 0 (l.take j) []) (addN 0 (l.take j) []).length root (addN 0 (l.take j) []) s12)
  case atStart => exact ⟨0, _, _, 0, by omega, rfl, Nat.le_refl _, MQ0.out⟩
  case round =>
    clear MQ0
    obtain ⟨j, M, F, rt, hj, rfl, hlen, mq⟩ := hrel
    obtain ⟨Av, cv, rfl⟩ := HSL.out _ _ _ mq.row
    have MQ := Lib.hid mq
    by_cases h1 : j < l.length
    · obtain ⟨k, hk⟩ : ∃ k, l[j]? = some k := ⟨_, List.getElem?_eq_getElem h1⟩
      obtain ⟨g, o, rfl, hgl, c0, c1, c2⟩ := (HH.out.1.below mq.ls.bel).at hk
      have y1 : (0 : Int) ≤ (j : Int) := by omega
      have y2 : (j : Int) < (l.length : Int) := by omega
      have HJ := Lib.hid (And.intro hj (And.intro h1 (And.intro hk hlen)))
      have hst := addN_step l 0 j [] k hk
      rw [Nat.zero_add] at hst
      have HST := Lib.hid hst
      have HK1 := Lib.hid (HH.out.2.1 k (List.mem_of_getElem? hk))
      have hlj : (l.length : Int) ≤ 200 := by have := HH.out.2.2; omega
      clear mq hj h1 hk hgl hst hlen
      generalize addN 0 (l.take j) [] = LR at MQ HST HJ ⊢
      obtain ⟨N, hN⟩ : ∃ N, N = LR.length := ⟨_, rfl⟩
      have HN := Lib.hid hN
      rw [← hN] at MQ
      clear hN
      go_upto_region 8 with fail
      have MQ5 := Lib.hid (MQ.out.below ((Below.refl _ wr).alloc (Nat.le_refl _) (.cells #[.int .u8 k.1, .int .i64 k.2.1, .string k.2.2] 36)))
      have K5 := Lib.hid (C3.new wr 36 (.int .u8 k.1) (.int .i64 k.2.1) (.string k.2.2))
      have NK := Lib.hid (MQ.out.ls.fresh11)
      clear c0 c1 c2 MQ
      generalize wr.alloc (.cells #[.int .u8 k.1, .int .i64 k.2.1, .string k.2.2] 36) = w5 at MQ5 K5 ⊢
      generalize wr.heap.size = z14 at K5 NK ⊢
      obtain ⟨x4, x5, x6, _⟩ := K5.out.all
      go_cut [41] from 32 to 40 (fun s41 wc => ∃ (bd : Bool), s41 = .bool bd ∧ Below w5.heap.size w5 wc ∧ (bd = false → Hid (rightB k.1 k.2.1 k.2.2 = true ∧ k.2.2.size ≤ 60)) ∧ (bd = true → Hid (¬ (rightB k.1 k.2.1 k.2.2 = true ∧ k.2.2.size ≤ 60))))
      case first =>
        go_wp2_with fail
        refine (lof12 k w5).mono ?_
        rintro e w6 ⟨rfl, hb6⟩
        have HB6 := Lib.hid hb6
        have K6 := Lib.hid (K5.out.below hb6)
        clear hb6 x4 x5 x6
        go_wp2_with fail
        refine (ref_right k.1 k.2.1 k.2.2 w6).mono ?_
        rintro e w7 ⟨rfl, g7⟩
        have HB7 := Lib.hid (HB6.out.trans (g7.below.mono HB6.out.size))
        obtain ⟨x4, x5, x6, _⟩ := (K6.out.below g7.below).all
        clear g7
        cases hr : rightB k.1 k.2.1 k.2.2
        · have HR := Lib.hid hr
          clear hr
          go_wp2_with fail
          go_meet
          case rel => exact ⟨true, rfl, HB7.out, fun e => (by cases e), fun _ => Lib.hid (fun h => by rw [HR.out] at h; cases h.1)⟩
        · have HR := Lib.hid hr
          clear hr
          by_cases h60 : (60 : Int) < (k.2.2.size : Int)
          · have H60 := Lib.hid h60
            go_wp2_with fail
            go_meet
            case rel => exact ⟨true, (by first | rfl | rw [decide_eq_true H60.out]), HB7.out, fun e => (by cases e), fun _ => Lib.hid (fun h => by have := H60.out; have := h.2; omega)⟩
          · have H60 := Lib.hid h60
            go_wp2_with fail
            go_meet
            case rel => exact ⟨false, (by rw [decide_eq_false (by have := H60.out; omega)]), HB7.out, fun _ => Lib.hid ⟨HR.out, by have := H60.out; omega⟩, fun e => (by cases e)⟩
      case rest =>
        obtain ⟨bd, rfl, hb6, hgood, hbad⟩ := hcut
        have HBAD := Lib.hid hbad
        clear hbad
        replace MQ := Lib.hid (MQ5.out.below hb6)
        replace K5 := Lib.hid (K5.out.below hb6)
        have HG := Lib.hid hgood
        clear hb6 hgood x4 x5 x6 MQ5
        cases bd
        · have hN := HN.out
          subst hN
          have hok : OkK k := by
            have := HG.out rfl
            exact ⟨HK1.out.1, HK1.out.2, by have := this.out.2; omega⟩
          have hlen5 : LR.length ≤ 200 := by have h1 := HJ.out; have h2 := HH.out.2.2; omega
          have hlive := MQ.out.live
          have HPUT := Lib.hid (put11 (w := w) (b := b) (bh := bh) (z1 := z10) (most := 4096) (M := M) (P := fun _ => 0) (F := F) seed rt 1 k (2, (j : Int), ⟨#[]⟩) LR (by decide) hok MQ.out.bk (fun _ => by decide) MQ.out.tt (by omega) (by omega))
          have HOK := Lib.hid hok
          have HL5 := Lib.hid hlen5
          have HRT := Lib.hid (HG.out rfl).out.1
          have hkeys : ∀ q ∈ putL h0 (k, (2, (j : Int), ⟨#[]⟩)) LR, OkR q.1 := fun q hq => by
            rcases ((putL_spec MQ.out.tt.srt).2 q).1 hq with rfl | ⟨h1, _⟩
            · exact ⟨HOK.out, HRT.out⟩
            · exact MQ.out.keys q h1
          have HKS := Lib.hid hkeys
          have HSRT := Lib.hid MQ.out.tt.srt
          have HLEN := Lib.hid (show (putL h0 (k, (2, (j : Int), ⟨#[]⟩)) LR).length ≤ LR.length + 1 from by rw [putL_length MQ.out.tt.srt]; split <;> omega)
          have HQK := Lib.hid MQ.out.keys
          clear hok hlen5 hlive hkeys HG
          generalize hLp : putL h0 (k, (2, (j : Int), ⟨#[]⟩)) LR = L' at *
          have HLP := Lib.hid hLp
          clear hLp
          go_upto_region 10 with fail
          go_cut [15, 16] from 45 to 53 (fun s15 s16 wd => ∃ (z15 n : Nat) (M' : Cells) (F' : Nat → Prop), s15 = .pointer (some ⟨z15, 0, none⟩) ∧ s16 = .int .i64 0 ∧ C2 wd z15 72 (.int .i64 (L'.length : Nat)) (.int .i64 (n : Nat)) ∧ Mq w wd b bh seed z4 z5 z10 z11 M' F' n L' LR.length rt LR (.slice Av LR.length cv) ∧ C3 wd z14 36 (.int .u8 k.1) (.int .i64 k.2.1) (.string k.2.2) ∧ ¬ z15 = z11)
          case first =>
            have l0 : ∀ W', C2 W' z10 26 (ap b) (.pointer (some ⟨bh, 0, none⟩)) ∧ C2 W' z11 72 (.int .i64 (LR.length : Nat)) (.int .i64 (rt : Nat)) ∧ C3 W' z14 36 (.int .u8 k.1) (.int .i64 k.2.1) (.string k.2.2) → W'.cell? ⟨z10, 0, none⟩ = some (ap b) := fun W' h => h.1.c0
            have l1 : ∀ W', C2 W' z10 26 (ap b) (.pointer (some ⟨bh, 0, none⟩)) ∧ C2 W' z11 72 (.int .i64 (LR.length : Nat)) (.int .i64 (rt : Nat)) ∧ C3 W' z14 36 (.int .u8 k.1) (.int .i64 k.2.1) (.string k.2.2) → W'.cell? ⟨z10, 1, none⟩ = some (.pointer (some ⟨bh, 0, none⟩)) := fun W' h => h.1.c1
            have l2 : ∀ W', C2 W' z10 26 (ap b) (.pointer (some ⟨bh, 0, none⟩)) ∧ C2 W' z11 72 (.int .i64 (LR.length : Nat)) (.int .i64 (rt : Nat)) ∧ C3 W' z14 36 (.int .u8 k.1) (.int .i64 k.2.1) (.string k.2.2) → W'.cell? ⟨z11, 0, none⟩ = some (.int .i64 (LR.length : Nat)) := fun W' h => h.2.1.c0
            have l3 : ∀ W', C2 W' z10 26 (ap b) (.pointer (some ⟨bh, 0, none⟩)) ∧ C2 W' z11 72 (.int .i64 (LR.length : Nat)) (.int .i64 (rt : Nat)) ∧ C3 W' z14 36 (.int .u8 k.1) (.int .i64 k.2.1) (.string k.2.2) → W'.cell? ⟨z11, 1, none⟩ = some (.int .i64 (rt : Nat)) := fun W' h => h.2.1.c1
            have l4 : ∀ W', C2 W' z10 26 (ap b) (.pointer (some ⟨bh, 0, none⟩)) ∧ C2 W' z11 72 (.int .i64 (LR.length : Nat)) (.int .i64 (rt : Nat)) ∧ C3 W' z14 36 (.int .u8 k.1) (.int .i64 k.2.1) (.string k.2.2) → W'.cell? ⟨z14, 0, none⟩ = some (.int .u8 k.1) := fun W' h => h.2.2.c0
            have l5 : ∀ W', C2 W' z10 26 (ap b) (.pointer (some ⟨bh, 0, none⟩)) ∧ C2 W' z11 72 (.int .i64 (LR.length : Nat)) (.int .i64 (rt : Nat)) ∧ C3 W' z14 36 (.int .u8 k.1) (.int .i64 k.2.1) (.string k.2.2) → W'.cell? ⟨z14, 1, none⟩ = some (.int .i64 k.2.1) := fun W' h => h.2.2.c1
            have l6 : ∀ W', C2 W' z10 26 (ap b) (.pointer (some ⟨bh, 0, none⟩)) ∧ C2 W' z11 72 (.int .i64 (LR.length : Nat)) (.int .i64 (rt : Nat)) ∧ C3 W' z14 36 (.int .u8 k.1) (.int .i64 k.2.1) (.string k.2.2) → W'.cell? ⟨z14, 2, none⟩ = some (.string k.2.2) := fun W' h => h.2.2.c2
            refine wp_region_noPanic ?_
            refine wp_region_held_drew (S := fun W' => C2 W' z10 26 (ap b) (.pointer (some ⟨bh, 0, none⟩)) ∧ C2 W' z11 72 (.int .i64 (LR.length : Nat)) (.int .i64 (rt : Nat)) ∧ C3 W' z14 36 (.int .u8 k.1) (.int .i64 k.2.1) (.string k.2.2)) (by kernel_rfl) ⟨(MQ.out.below (Below.refl _ _).drew).ls.lb, (MQ.out.below (Below.refl _ _).drew).b11, K5.out.below (Below.refl _ _).drew⟩ (fun hH => ?_)
            replace MQ := Lib.hid (MQ.out.below (Below.refl _ _).drew)
            replace K5 := Lib.hid (K5.out.below (Below.refl _ _).drew)
            generalize World.drew _ = Wc at MQ K5 hH ⊢
            refine tkH ?_ 0 hH ?_ ?_; rotate_left
            · intro W' hS; go_simp; with_reducible rfl
            simp only [tkr]
            refine tkH ?_ 1 hH ?_ ?_; rotate_left
            · intro W' hS; go_simp; with_reducible rfl
            simp only [tkr]
            refine tkH ?_ 2 hH ?_ ?_; rotate_left
            · intro W' hS; go_simp; with_reducible rfl
            simp only [tkr]
            refine tkH ?_ 3 hH ?_ ?_; rotate_left
            · intro W' hS; go_simp; with_reducible rfl
            simp only [tkr]
            refine wpAnyH_ready (rs := [4, 9]) (by kernel_rfl) (by simp) ?_
            refine AllReadyH.cons rfl (fun K hK => ?_) (AllReadyH.cons rfl (fun K hK => ?_) (AllReadyH.nil))
            · go_simp
              refine (lnumber (j : Int) Wc).mono ?_
              rintro e Wc ⟨rfl, hbn⟩
              replace MQ := Lib.hid (MQ.out.below hbn)
              replace K5 := Lib.hid (K5.out.below hbn)
              try replace mz := mz.below hbn
              clear hbn
              simp only
              refine hK.out _ _ ?_ (fun hH => ?_)
              · exact ⟨MQ.out.ls.lb, MQ.out.b11, K5.out⟩
              clear hK K
              refine wpAnyH_ready (rs := [5, 9]) (by kernel_rfl) (by simp) ?_
              refine AllReadyH.cons rfl (fun K hK => ?_) (AllReadyH.cons rfl (fun K hK => ?_) (AllReadyH.nil))
              · go_simp
                refine (HPUT.out Wc MQ.out.ls).mono ?_
                rintro e Wc ⟨n, M1, F1, rfl, ls1, hpt, hF1, hk1⟩
                try have hz15 := mz.lt
                try replace mz := mz.kp hk1 (fun e => e.elim nz.2.1 nz.2.2.1)
                try replace nz := (show Om w F1 bh z4 z5 z10 z11 z14 (.slice Av LR.length cv) z15 from ⟨nz.1, hF1 z15 hz15 nz.2.1, nz.2.2⟩)
                replace K5 := Lib.hid (K5.out.kp hk1 (fun e => e.elim NK.out.2.1 NK.out.2.2.2))
                replace MQ := Lib.hid (MQ.out.put HKS.out ls1 hpt hF1 hk1)
                simp only
                refine hK.out _ _ ?_ (fun hH => ?_)
                · exact ⟨MQ.out.ls.lb, MQ.out.b11, K5.out⟩
                clear hK K ls1 hpt hF1 hk1
                refine tkH ?_ 6 hH ?_ ?_; rotate_left
                · intro W' hS; go_simp; with_reducible rfl
                simp only [tkr]
                refine tkH ?_ 7 hH ?_ ?_; rotate_left
                · intro W' hS; go_simp; with_reducible rfl
                simp only [tkr]
                refine tkH ?_ 8 hH ?_ ?_; rotate_left
                · intro W' hS; go_simp; with_reducible rfl
                simp only [tkr]
                refine rdH 9 rfl (fun K hK => ?_)
                go_simp
                have mz := C2.new Wc 72 (.int .i64 0) (.int .i64 0)
                have nz := MQ.out.fresh K5.out
                replace MQ := Lib.hid (MQ.out.below ((Below.refl _ Wc).alloc (Nat.le_refl _) (.cells #[.int .i64 0, .int .i64 0] 72)))
                replace K5 := Lib.hid (K5.out.alloc (.cells #[.int .i64 0, .int .i64 0] 72))
                refine hK.out _ _ ?_ (fun hH => ?_)
                · exact ⟨MQ.out.ls.lb, MQ.out.b11, K5.out⟩
                clear hK K
                generalize World.alloc _ _ = Wn at MQ K5 mz hH ⊢
                generalize Wc.heap.size = z15 at mz nz ⊢
                rename World => Wc
                refine rdH 10 rfl (fun K hK => ?_)
                obtain ⟨c0, c1, f0, f1⟩ := mz.all
                go_simp
                clear c0 c1 f0 f1
                have kz : Kp (fun q => q = z15) Wc ((Wc.setCell ⟨z15, 0, none⟩ (.int .i64 (L'.length : Nat))).setCell ⟨z15, 1, none⟩ (.int .i64 (n : Nat))) := ((Kp.refl (fun q => q = z15) Wc).setCell (.inl rfl) _).setCell (.inl rfl) _
                replace MQ := Lib.hid (MQ.out.kp kz (fun q e => by rw [e]; exact ⟨nz.1, nz.2.1, nz.2.2.1, nz.2.2.2.1, nz.2.2.2.2.1, nz.2.2.2.2.2.1, nz.2.2.2.2.2.2.1, nz.2.2.2.2.2.2.2.2⟩))
                replace K5 := Lib.hid (K5.out.kp kz (fun e => nz.2.2.2.2.2.2.2.1 e.symm))
                replace mz := (mz.set0 (.int .i64 (L'.length : Nat))).set1 (.int .i64 (n : Nat))
                refine hK.out _ _ ?_ (fun hH => ?_)
                · exact ⟨MQ.out.ls.lb, MQ.out.b11, K5.out⟩
                clear hK K kz
                refine tkH ?_ 11 hH ?_ ?_; rotate_left
                · intro W' hS; go_simp; with_reducible rfl
                simp only [tkr]
                refine wpAnyH_done (by kernel_rfl) ?_ _
                refine NoPanic.normal ?_
                clear l0 l1 l2 l3 l4 l5 l6 hH
                go_wp2_with fail
                go_meet
                case rel => exact ⟨z15, n, _, _, rfl, rfl, mz, MQ.out, K5.out, nz.2.2.2.2.2.2.1⟩
              · go_simp
                have mz := C2.new Wc 72 (.int .i64 0) (.int .i64 0)
                have nz := MQ.out.fresh K5.out
                replace MQ := Lib.hid (MQ.out.below ((Below.refl _ Wc).alloc (Nat.le_refl _) (.cells #[.int .i64 0, .int .i64 0] 72)))
                replace K5 := Lib.hid (K5.out.alloc (.cells #[.int .i64 0, .int .i64 0] 72))
                refine hK.out _ _ ?_ (fun hH => ?_)
                · exact ⟨MQ.out.ls.lb, MQ.out.b11, K5.out⟩
                clear hK K
                generalize World.alloc _ _ = Wn at MQ K5 mz hH ⊢
                generalize Wc.heap.size = z15 at mz nz ⊢
                rename World => Wc
                refine rdH 5 rfl (fun K hK => ?_)
                go_simp
                refine (HPUT.out Wc MQ.out.ls).mono ?_
                rintro e Wc ⟨n, M1, F1, rfl, ls1, hpt, hF1, hk1⟩
                try have hz15 := mz.lt
                try replace mz := mz.kp hk1 (fun e => e.elim nz.2.1 nz.2.2.1)
                try replace nz := (show Om w F1 bh z4 z5 z10 z11 z14 (.slice Av LR.length cv) z15 from ⟨nz.1, hF1 z15 hz15 nz.2.1, nz.2.2⟩)
                replace K5 := Lib.hid (K5.out.kp hk1 (fun e => e.elim NK.out.2.1 NK.out.2.2.2))
                replace MQ := Lib.hid (MQ.out.put HKS.out ls1 hpt hF1 hk1)
                simp only
                refine hK.out _ _ ?_ (fun hH => ?_)
                · exact ⟨MQ.out.ls.lb, MQ.out.b11, K5.out⟩
                clear hK K ls1 hpt hF1 hk1
                refine tkH ?_ 6 hH ?_ ?_; rotate_left
                · intro W' hS; go_simp; with_reducible rfl
                simp only [tkr]
                refine tkH ?_ 7 hH ?_ ?_; rotate_left
                · intro W' hS; go_simp; with_reducible rfl
                simp only [tkr]
                refine tkH ?_ 8 hH ?_ ?_; rotate_left
                · intro W' hS; go_simp; with_reducible rfl
                simp only [tkr]
                refine rdH 10 rfl (fun K hK => ?_)
                obtain ⟨c0, c1, f0, f1⟩ := mz.all
                go_simp
                clear c0 c1 f0 f1
                have kz : Kp (fun q => q = z15) Wc ((Wc.setCell ⟨z15, 0, none⟩ (.int .i64 (L'.length : Nat))).setCell ⟨z15, 1, none⟩ (.int .i64 (n : Nat))) := ((Kp.refl (fun q => q = z15) Wc).setCell (.inl rfl) _).setCell (.inl rfl) _
                replace MQ := Lib.hid (MQ.out.kp kz (fun q e => by rw [e]; exact ⟨nz.1, nz.2.1, nz.2.2.1, nz.2.2.2.1, nz.2.2.2.2.1, nz.2.2.2.2.2.1, nz.2.2.2.2.2.2.1, nz.2.2.2.2.2.2.2.2⟩))
                replace K5 := Lib.hid (K5.out.kp kz (fun e => nz.2.2.2.2.2.2.2.1 e.symm))
                replace mz := (mz.set0 (.int .i64 (L'.length : Nat))).set1 (.int .i64 (n : Nat))
                refine hK.out _ _ ?_ (fun hH => ?_)
                · exact ⟨MQ.out.ls.lb, MQ.out.b11, K5.out⟩
                clear hK K kz
                refine tkH ?_ 11 hH ?_ ?_; rotate_left
                · intro W' hS; go_simp; with_reducible rfl
                simp only [tkr]
                refine wpAnyH_done (by kernel_rfl) ?_ _
                refine NoPanic.normal ?_
                clear l0 l1 l2 l3 l4 l5 l6 hH
                go_wp2_with fail
                go_meet
                case rel => exact ⟨z15, n, _, _, rfl, rfl, mz, MQ.out, K5.out, nz.2.2.2.2.2.2.1⟩
            · go_simp
              have mz := C2.new Wc 72 (.int .i64 0) (.int .i64 0)
              have nz := MQ.out.fresh K5.out
              replace MQ := Lib.hid (MQ.out.below ((Below.refl _ Wc).alloc (Nat.le_refl _) (.cells #[.int .i64 0, .int .i64 0] 72)))
              replace K5 := Lib.hid (K5.out.alloc (.cells #[.int .i64 0, .int .i64 0] 72))
              refine hK.out _ _ ?_ (fun hH => ?_)
              · exact ⟨MQ.out.ls.lb, MQ.out.b11, K5.out⟩
              clear hK K
              generalize World.alloc _ _ = Wn at MQ K5 mz hH ⊢
              generalize Wc.heap.size = z15 at mz nz ⊢
              rename World => Wc
              refine rdH 4 rfl (fun K hK => ?_)
              go_simp
              refine (lnumber (j : Int) Wc).mono ?_
              rintro e Wc ⟨rfl, hbn⟩
              replace MQ := Lib.hid (MQ.out.below hbn)
              replace K5 := Lib.hid (K5.out.below hbn)
              try replace mz := mz.below hbn
              clear hbn
              simp only
              refine hK.out _ _ ?_ (fun hH => ?_)
              · exact ⟨MQ.out.ls.lb, MQ.out.b11, K5.out⟩
              clear hK K
              refine rdH 5 rfl (fun K hK => ?_)
              go_simp
              refine (HPUT.out Wc MQ.out.ls).mono ?_
              rintro e Wc ⟨n, M1, F1, rfl, ls1, hpt, hF1, hk1⟩
              try have hz15 := mz.lt
              try replace mz := mz.kp hk1 (fun e => e.elim nz.2.1 nz.2.2.1)
              try replace nz := (show Om w F1 bh z4 z5 z10 z11 z14 (.slice Av LR.length cv) z15 from ⟨nz.1, hF1 z15 hz15 nz.2.1, nz.2.2⟩)
              replace K5 := Lib.hid (K5.out.kp hk1 (fun e => e.elim NK.out.2.1 NK.out.2.2.2))
              replace MQ := Lib.hid (MQ.out.put HKS.out ls1 hpt hF1 hk1)
              simp only
              refine hK.out _ _ ?_ (fun hH => ?_)
              · exact ⟨MQ.out.ls.lb, MQ.out.b11, K5.out⟩
              clear hK K ls1 hpt hF1 hk1
              refine tkH ?_ 6 hH ?_ ?_; rotate_left
              · intro W' hS; go_simp; with_reducible rfl
              simp only [tkr]
              refine tkH ?_ 7 hH ?_ ?_; rotate_left
              · intro W' hS; go_simp; with_reducible rfl
              simp only [tkr]
              refine tkH ?_ 8 hH ?_ ?_; rotate_left
              · intro W' hS; go_simp; with_reducible rfl
              simp only [tkr]
              refine rdH 10 rfl (fun K hK => ?_)
              obtain ⟨c0, c1, f0, f1⟩ := mz.all
              go_simp
              clear c0 c1 f0 f1
              have kz : Kp (fun q => q = z15) Wc ((Wc.setCell ⟨z15, 0, none⟩ (.int .i64 (L'.length : Nat))).setCell ⟨z15, 1, none⟩ (.int .i64 (n : Nat))) := ((Kp.refl (fun q => q = z15) Wc).setCell (.inl rfl) _).setCell (.inl rfl) _
              replace MQ := Lib.hid (MQ.out.kp kz (fun q e => by rw [e]; exact ⟨nz.1, nz.2.1, nz.2.2.1, nz.2.2.2.1, nz.2.2.2.2.1, nz.2.2.2.2.2.1, nz.2.2.2.2.2.2.1, nz.2.2.2.2.2.2.2.2⟩))
              replace K5 := Lib.hid (K5.out.kp kz (fun e => nz.2.2.2.2.2.2.2.1 e.symm))
              replace mz := (mz.set0 (.int .i64 (L'.length : Nat))).set1 (.int .i64 (n : Nat))
              refine hK.out _ _ ?_ (fun hH => ?_)
              · exact ⟨MQ.out.ls.lb, MQ.out.b11, K5.out⟩
              clear hK K kz
              refine tkH ?_ 11 hH ?_ ?_; rotate_left
              · intro W' hS; go_simp; with_reducible rfl
              simp only [tkr]
              refine wpAnyH_done (by kernel_rfl) ?_ _
              refine NoPanic.normal ?_
              clear l0 l1 l2 l3 l4 l5 l6 hH
              go_wp2_with fail
              go_meet
              case rel => exact ⟨z15, n, _, _, rfl, rfl, mz, MQ.out, K5.out, nz.2.2.2.2.2.2.1⟩
          case rest =>
            obtain ⟨z15, n, M', F', rfl, rfl, hz, hmq, hk5, hn15⟩ := hcut
            have HNZ := Lib.hid (show ¬ z15 = z11 from hn15)
            have HNK := Lib.hid (show ¬ z14 = z11 from fun e => by subst e; have h1 : _ = some _ := hk5; have h2 : _ = some _ := hmq.b11; rw [h1] at h2; simp only [Option.some.injEq, Obj.cells.injEq] at h2; exact absurd h2.2.1 (by decide))
            have HZ := Lib.hid hz
            replace MQ := Lib.hid hmq
            replace K5 := Lib.hid hk5
            clear hz hmq hk5 HPUT hn15
            go_upto_region 13 with fail
            have l0 : ∀ W', C2 W' z15 72 (.int .i64 (L'.length : Nat)) (.int .i64 (n : Nat)) ∧ C3 W' z14 36 (.int .u8 k.1) (.int .i64 k.2.1) (.string k.2.2) → W'.cell? ⟨z15, 0, none⟩ = some (.int .i64 (L'.length : Nat)) := fun W' h => h.1.c0
            have l1 : ∀ W', C2 W' z15 72 (.int .i64 (L'.length : Nat)) (.int .i64 (n : Nat)) ∧ C3 W' z14 36 (.int .u8 k.1) (.int .i64 k.2.1) (.string k.2.2) → W'.cell? ⟨z15, 1, none⟩ = some (.int .i64 (n : Nat)) := fun W' h => h.1.c1
            have l4 : ∀ W', C2 W' z15 72 (.int .i64 (L'.length : Nat)) (.int .i64 (n : Nat)) ∧ C3 W' z14 36 (.int .u8 k.1) (.int .i64 k.2.1) (.string k.2.2) → W'.cell? ⟨z14, 0, none⟩ = some (.int .u8 k.1) := fun W' h => h.2.c0
            have l5 : ∀ W', C2 W' z15 72 (.int .i64 (L'.length : Nat)) (.int .i64 (n : Nat)) ∧ C3 W' z14 36 (.int .u8 k.1) (.int .i64 k.2.1) (.string k.2.2) → W'.cell? ⟨z14, 1, none⟩ = some (.int .i64 k.2.1) := fun W' h => h.2.c1
            have l6 : ∀ W', C2 W' z15 72 (.int .i64 (L'.length : Nat)) (.int .i64 (n : Nat)) ∧ C3 W' z14 36 (.int .u8 k.1) (.int .i64 k.2.1) (.string k.2.2) → W'.cell? ⟨z14, 2, none⟩ = some (.string k.2.2) := fun W' h => h.2.c2
            refine wp_region_noPanic ?_
            refine wp_region_held_drew (S := fun W' => C2 W' z15 72 (.int .i64 (L'.length : Nat)) (.int .i64 (n : Nat)) ∧ C3 W' z14 36 (.int .u8 k.1) (.int .i64 k.2.1) (.string k.2.2)) (by kernel_rfl) ⟨HZ.out.below (Below.refl _ _).drew, K5.out.below (Below.refl _ _).drew⟩ (fun hH => ?_)
            replace MQ := Lib.hid (MQ.out.below (Below.refl _ _).drew)
            clear HZ K5
            generalize World.drew _ = Wc at MQ hH ⊢
            refine tkH ?_ 0 hH ?_ ?_; rotate_left
            · intro W' hS; go_simp; with_reducible rfl
            simp only [tkr]
            refine tkH ?_ 1 hH ?_ ?_; rotate_left
            · intro W' hS; go_simp; with_reducible rfl
            simp only [tkr]
            refine tkH ?_ 2 hH ?_ ?_; rotate_left
            · intro W' hS; go_simp; with_reducible rfl
            simp only [tkr]
            refine tkH ?_ 4 hH ?_ ?_; rotate_left
            · intro W' hS; go_simp; with_reducible rfl
            simp only [tkr]
            refine tkH ?_ 5 hH ?_ ?_; rotate_left
            · intro W' hS; go_simp; with_reducible rfl
            simp only [tkr]
            refine rdH 3 rfl (fun K hK => ?_)
            go_simp
            refine (lof12 k Wc).mono ?_
            rintro e We ⟨rfl, hbn⟩
            replace MQ := Lib.hid (MQ.out.below hbn)
            have hh := (show C2 We z15 72 (.int .i64 (L'.length : Nat)) (.int .i64 (n : Nat)) ∧ C3 We z14 36 (.int .u8 k.1) (.int .i64 k.2.1) (.string k.2.2) from ⟨hH.1.below hbn, hH.2.below hbn⟩)
            clear hbn
            refine hK.out _ _ hh (fun hH => ?_)
            clear hK K hh
            refine tkH ?_ 6 hH ?_ ?_; rotate_left
            · intro W' hS; go_simp; with_reducible rfl
            simp only [tkr]
            refine rdH 7 rfl (fun K hK => ?_)
            go_simp
            refine (rput11 w.heap.size (.slice Av LR.length cv) (k, (2, (j : Int), ⟨#[]⟩)) LR We HSRT.out (by have := HL5.out; omega) (show k.2.2.size ≤ _ by have := HOK.out.2.2; omega) (fun q hq => by have := (HQK.out q hq).1.2.2; omega) MQ.out.row).mono ?_
            rintro e Wf ⟨y, rfl, hrow, hbn⟩
            rw [HLP.out] at hrow
            replace MQ := Lib.hid (MQ.out.docs hbn hrow)
            have hh := (show C2 Wf z15 72 (.int .i64 (L'.length : Nat)) (.int .i64 (n : Nat)) ∧ C3 Wf z14 36 (.int .u8 k.1) (.int .i64 k.2.1) (.string k.2.2) from ⟨hH.1.below hbn, hH.2.below hbn⟩)
            clear hbn hrow
            simp only
            refine hK.out _ _ hh (fun hH => ?_)
            clear hK K hh
            refine rdH 8 rfl (fun K hK => ?_)
            obtain ⟨c0, c1, f0, f1⟩ := MQ.out.b11.all
            go_simp
            clear c0 c1 f0 f1
            have kz : Kp (fun q => q = z11) Wf ((Wf.setCell ⟨z11, 0, none⟩ (.int .i64 (L'.length : Nat))).setCell ⟨z11, 1, none⟩ (.int .i64 (n : Nat))) := ((Kp.refl (fun q => q = z11) Wf).setCell (.inl rfl) _).setCell (.inl rfl) _
            replace MQ := Lib.hid (MQ.out.box L'.length n)
            have n15 : ¬ z15 = z11 := fun e => HNZ.out e
            have n14 : ¬ z14 = z11 := HNK.out
            refine hK.out _ _ ⟨hH.1.kp kz n15, hH.2.kp kz n14⟩ (fun hH => ?_)
            clear hK K kz
            refine tkH ?_ 9 hH ?_ ?_; rotate_left
            · intro W' hS; go_simp; with_reducible rfl
            simp only [tkr]
            refine wpAnyH_done (by kernel_rfl) ?_ _
            refine NoPanic.normal ?_
            obtain ⟨Ay, cy, rfl⟩ := HSL.out _ _ _ MQ.out.row
            have hw1 : IntKind.i64.wrap ((j : Int) + 1) = (j : Int) + 1 := IntWalk.i64_in _ (by omega)
            clear l0 l1 l4 l5 l6 hH
            go_wp2_with fail
            go_roundg (l.length - (j + 1))
            case measure => have := HJ.out; omega
            case rel =>
              refine ⟨j + 1, M', F', n, by have := HJ.out; omega, by go_num, ?_, ?_⟩
              · rw [HST.out]; have h1 := HLEN.out; have h2 := HJ.out.2.2.2; omega
              · rw [HST.out]; exact MQ.out
        · go_upto_region 9 with fail
          have l0 : ∀ W', C2 W' z10 26 (ap b) (.pointer (some ⟨bh, 0, none⟩)) ∧ C2 W' z11 72 (.int .i64 (N : Nat)) (.int .i64 (rt : Nat)) → W'.cell? ⟨z10, 0, none⟩ = some (ap b) := fun W' h => h.1.c0
          have l1 : ∀ W', C2 W' z10 26 (ap b) (.pointer (some ⟨bh, 0, none⟩)) ∧ C2 W' z11 72 (.int .i64 (N : Nat)) (.int .i64 (rt : Nat)) → W'.cell? ⟨z10, 1, none⟩ = some (.pointer (some ⟨bh, 0, none⟩)) := fun W' h => h.1.c1
          have l2 : ∀ W', C2 W' z10 26 (ap b) (.pointer (some ⟨bh, 0, none⟩)) ∧ C2 W' z11 72 (.int .i64 (N : Nat)) (.int .i64 (rt : Nat)) → W'.cell? ⟨z11, 0, none⟩ = some (.int .i64 (N : Nat)) := fun W' h => h.2.c0
          have l3 : ∀ W', C2 W' z10 26 (ap b) (.pointer (some ⟨bh, 0, none⟩)) ∧ C2 W' z11 72 (.int .i64 (N : Nat)) (.int .i64 (rt : Nat)) → W'.cell? ⟨z11, 1, none⟩ = some (.int .i64 (rt : Nat)) := fun W' h => h.2.c1
          refine wp_region_noPanic ?_
          refine wp_region_held_drew (S := fun W' => C2 W' z10 26 (ap b) (.pointer (some ⟨bh, 0, none⟩)) ∧ C2 W' z11 72 (.int .i64 (N : Nat)) (.int .i64 (rt : Nat))) (by kernel_rfl) ⟨(MQ.out.below (Below.refl _ _).drew).ls.lb, (MQ.out.below (Below.refl _ _).drew).b11⟩ (fun hH => ?_)
          replace MQ := Lib.hid (MQ.out.below (Below.refl _ _).drew)
          generalize World.drew _ = Wc at MQ hH ⊢
          refine tkH ?_ 0 hH ?_ ?_; rotate_left
          · intro W' hS; go_simp; with_reducible rfl
          simp only [tkr]
          refine tkH ?_ 1 hH ?_ ?_; rotate_left
          · intro W' hS; go_simp; with_reducible rfl
          simp only [tkr]
          refine tkH ?_ 2 hH ?_ ?_; rotate_left
          · intro W' hS; go_simp; with_reducible rfl
          simp only [tkr]
          refine rdH 3 rfl (fun K hK => ?_)
          obtain ⟨c0, c1, f0, f1⟩ := MQ.out.b4.all
          go_simp
          clear c0 c1 f0 f1
          have k4 : Kp (fun q => q = z4) Wc ((Wc.setCell ⟨z4, 0, none⟩ (ap b)).setCell ⟨z4, 1, none⟩ (.pointer (some ⟨bh, 0, none⟩))) := ((Kp.refl (fun q => q = z4) Wc).setCell (.inl rfl) _).setCell (.inl rfl) _
          have q4 := (MQ.out.b4.set0 (ap b)).set1 (.pointer (some ⟨bh, 0, none⟩))
          have hz := MQ.out.zs
          have q5 := MQ.out.b5.kp k4 (by omega)
          have HD := Lib.hid (And.intro k4 (And.intro q4 q5))
          refine hK.out _ _ ⟨hH.1.kp k4 (by omega), hH.2.kp k4 (by omega)⟩ (fun hH => ?_)
          clear hK K q4 q5 k4
          change wpAnyH _ _ _ _ _ _ _ _ ((Wc.setCell ⟨z4, 0, none⟩ (ap b)).setCell ⟨z4, 1, none⟩ (.pointer (some ⟨bh, 0, none⟩)))
          generalize (Wc.setCell ⟨z4, 0, none⟩ (ap b)).setCell ⟨z4, 1, none⟩ (.pointer (some ⟨bh, 0, none⟩)) = Wd at hH HD ⊢
          refine rdH 4 rfl (fun K hK => ?_)
          obtain ⟨c0, c1, f0, f1⟩ := HD.out.2.2.all
          go_simp
          clear c0 c1 f0 f1
          have k5 : Kp (fun q => q = z5) Wd ((Wd.setCell ⟨z5, 0, none⟩ (.int .i64 (N : Nat))).setCell ⟨z5, 1, none⟩ (.int .i64 (rt : Nat))) := ((Kp.refl (fun q => q = z5) Wd).setCell (.inl rfl) _).setCell (.inl rfl) _
          have q5 := (HD.out.2.2.set0 (.int .i64 (N : Nat))).set1 (.int .i64 (rt : Nat))
          have q4 := HD.out.2.1.kp k5 (by omega)
          have kk : Kp (fun q => q = z4 ∨ q = z5) Wc ((Wd.setCell ⟨z5, 0, none⟩ (.int .i64 (N : Nat))).setCell ⟨z5, 1, none⟩ (.int .i64 (rt : Nat))) := (HD.out.1.mono (fun q e _ => .inl e)).trans k5 (fun q e => .inl (.inr e))
          have HE := Lib.hid (And.intro kk (And.intro q4 q5))
          refine hK.out _ _ ⟨hH.1.kp k5 (by omega), hH.2.kp k5 (by omega)⟩ (fun hH => ?_)
          clear hK K q4 q5 k5 kk HD
          change wpAnyH _ _ _ _ _ _ _ _ ((Wd.setCell ⟨z5, 0, none⟩ (.int .i64 (N : Nat))).setCell ⟨z5, 1, none⟩ (.int .i64 (rt : Nat)))
          generalize (Wd.setCell ⟨z5, 0, none⟩ (.int .i64 (N : Nat))).setCell ⟨z5, 1, none⟩ (.int .i64 (rt : Nat)) = We at hH HE ⊢
          refine tkH ?_ 5 hH ?_ ?_; rotate_left
          · intro W' hS; go_simp; with_reducible rfl
          simp only [tkr]
          refine tkH ?_ 6 hH ?_ ?_; rotate_left
          · intro W' hS; go_simp; with_reducible rfl
          simp only [tkr]
          refine wpAnyH_done (by kernel_rfl) ?_ _
          refine NoPanic.normal ?_
          clear l0 l1 l2 l3 hH
          go_wp2_with fail
          obtain ⟨a0, a1, _, _⟩ := HE.out.2.1.all
          obtain ⟨a2, a3, _, _⟩ := HE.out.2.2.all
          have hkk := HE.out.1
          have hbb : Below w.heap.size w We := ((Kp.of_below MQ.out.ls.bel (fun _ => False)).trans hkk (fun q e => .inr (by omega))).below (fun _ h => h.elim)
          refine bodyPost_ret (v := .tuple #[land b bh, .agg #[.int .i64 (N : Nat), .int .i64 (rt : Nat)], .slice Av LR.length cv, .bool false]) (by simp [results, Tryz.results49, go_sem, a0, a1, a2, a3]) rfl ⟨?_, hbb⟩
          exact .inl ⟨b, bh, N, rt, Av, LR.length, cv, rfl, k, List.mem_of_getElem? HJ.out.2.2.1, (HBAD.out (by simp)).out⟩
    · obtain rfl : j = l.length := by omega
      rw [List.take_length] at MQ ⊢
      rw [List.take_length] at hlen
      have HLN := Lib.hid hlen
      clear mq hj h1 hlen
      obtain ⟨LR, hLR⟩ : ∃ LR, LR = addN 0 l [] := ⟨_, rfl⟩
      rw [← hLR] at MQ HLN ⊢
      have HLR := Lib.hid hLR
      obtain ⟨N, hN⟩ : ∃ N, N = LR.length := ⟨_, rfl⟩
      have HN := Lib.hid hN
      rw [← hN] at MQ
      clear hLR hN
      go_upto_region 15 with fail
      have l0 : ∀ W', C2 W' z10 26 (ap b) (.pointer (some ⟨bh, 0, none⟩)) ∧ C2 W' z11 72 (.int .i64 (N : Nat)) (.int .i64 (rt : Nat)) → W'.cell? ⟨z10, 0, none⟩ = some (ap b) := fun W' h => h.1.c0
      have l1 : ∀ W', C2 W' z10 26 (ap b) (.pointer (some ⟨bh, 0, none⟩)) ∧ C2 W' z11 72 (.int .i64 (N : Nat)) (.int .i64 (rt : Nat)) → W'.cell? ⟨z10, 1, none⟩ = some (.pointer (some ⟨bh, 0, none⟩)) := fun W' h => h.1.c1
      have l2 : ∀ W', C2 W' z10 26 (ap b) (.pointer (some ⟨bh, 0, none⟩)) ∧ C2 W' z11 72 (.int .i64 (N : Nat)) (.int .i64 (rt : Nat)) → W'.cell? ⟨z11, 0, none⟩ = some (.int .i64 (N : Nat)) := fun W' h => h.2.c0
      have l3 : ∀ W', C2 W' z10 26 (ap b) (.pointer (some ⟨bh, 0, none⟩)) ∧ C2 W' z11 72 (.int .i64 (N : Nat)) (.int .i64 (rt : Nat)) → W'.cell? ⟨z11, 1, none⟩ = some (.int .i64 (rt : Nat)) := fun W' h => h.2.c1
      refine wp_region_noPanic ?_
      refine wp_region_held_drew (S := fun W' => C2 W' z10 26 (ap b) (.pointer (some ⟨bh, 0, none⟩)) ∧ C2 W' z11 72 (.int .i64 (N : Nat)) (.int .i64 (rt : Nat))) (by kernel_rfl) ⟨(MQ.out.below (Below.refl _ _).drew).ls.lb, (MQ.out.below (Below.refl _ _).drew).b11⟩ (fun hH => ?_)
      replace MQ := Lib.hid (MQ.out.below (Below.refl _ _).drew)
      generalize World.drew _ = Wc at MQ hH ⊢
      refine tkH ?_ 0 hH ?_ ?_; rotate_left
      · intro W' hS; go_simp; with_reducible rfl
      simp only [tkr]
      refine tkH ?_ 1 hH ?_ ?_; rotate_left
      · intro W' hS; go_simp; with_reducible rfl
      simp only [tkr]
      refine tkH ?_ 2 hH ?_ ?_; rotate_left
      · intro W' hS; go_simp; with_reducible rfl
      simp only [tkr]
      refine rdH 3 rfl (fun K hK => ?_)
      obtain ⟨c0, c1, f0, f1⟩ := MQ.out.b4.all
      go_simp
      clear c0 c1 f0 f1
      have k4 : Kp (fun q => q = z4) Wc ((Wc.setCell ⟨z4, 0, none⟩ (ap b)).setCell ⟨z4, 1, none⟩ (.pointer (some ⟨bh, 0, none⟩))) := ((Kp.refl (fun q => q = z4) Wc).setCell (.inl rfl) _).setCell (.inl rfl) _
      have q4 := (MQ.out.b4.set0 (ap b)).set1 (.pointer (some ⟨bh, 0, none⟩))
      have hz := MQ.out.zs
      have q5 := MQ.out.b5.kp k4 (by omega)
      have HD := Lib.hid (And.intro k4 (And.intro q4 q5))
      refine hK.out _ _ ⟨hH.1.kp k4 (by omega), hH.2.kp k4 (by omega)⟩ (fun hH => ?_)
      clear hK K q4 q5 k4
      change wpAnyH _ _ _ _ _ _ _ _ ((Wc.setCell ⟨z4, 0, none⟩ (ap b)).setCell ⟨z4, 1, none⟩ (.pointer (some ⟨bh, 0, none⟩)))
      generalize (Wc.setCell ⟨z4, 0, none⟩ (ap b)).setCell ⟨z4, 1, none⟩ (.pointer (some ⟨bh, 0, none⟩)) = Wd at hH HD ⊢
      refine rdH 4 rfl (fun K hK => ?_)
      obtain ⟨c0, c1, f0, f1⟩ := HD.out.2.2.all
      go_simp
      clear c0 c1 f0 f1
      have k5 : Kp (fun q => q = z5) Wd ((Wd.setCell ⟨z5, 0, none⟩ (.int .i64 (N : Nat))).setCell ⟨z5, 1, none⟩ (.int .i64 (rt : Nat))) := ((Kp.refl (fun q => q = z5) Wd).setCell (.inl rfl) _).setCell (.inl rfl) _
      have q5 := (HD.out.2.2.set0 (.int .i64 (N : Nat))).set1 (.int .i64 (rt : Nat))
      have q4 := HD.out.2.1.kp k5 (by omega)
      have kk : Kp (fun q => q = z4 ∨ q = z5) Wc ((Wd.setCell ⟨z5, 0, none⟩ (.int .i64 (N : Nat))).setCell ⟨z5, 1, none⟩ (.int .i64 (rt : Nat))) := (HD.out.1.mono (fun q e _ => .inl e)).trans k5 (fun q e => .inl (.inr e))
      have HE := Lib.hid (And.intro kk (And.intro q4 q5))
      refine hK.out _ _ ⟨hH.1.kp k5 (by omega), hH.2.kp k5 (by omega)⟩ (fun hH => ?_)
      clear hK K q4 q5 k5 kk HD
      change wpAnyH _ _ _ _ _ _ _ _ ((Wd.setCell ⟨z5, 0, none⟩ (.int .i64 (N : Nat))).setCell ⟨z5, 1, none⟩ (.int .i64 (rt : Nat)))
      generalize (Wd.setCell ⟨z5, 0, none⟩ (.int .i64 (N : Nat))).setCell ⟨z5, 1, none⟩ (.int .i64 (rt : Nat)) = We at hH HE ⊢
      refine tkH ?_ 5 hH ?_ ?_; rotate_left
      · intro W' hS; go_simp; with_reducible rfl
      simp only [tkr]
      refine tkH ?_ 6 hH ?_ ?_; rotate_left
      · intro W' hS; go_simp; with_reducible rfl
      simp only [tkr]
      refine wpAnyH_done (by kernel_rfl) ?_ _
      refine NoPanic.normal ?_
      clear l0 l1 l2 l3 hH
      go_wp2_with fail
      obtain ⟨a0, a1, _, _⟩ := HE.out.2.1.all
      obtain ⟨a2, a3, _, _⟩ := HE.out.2.2.all
      have hkk := HE.out.1
      have hbb : Below w.heap.size w We := ((Kp.of_below MQ.out.ls.bel (fun _ => False)).trans hkk (fun q e => .inr (by omega))).below (fun _ h => h.elim)
      refine bodyPost_ret (v := .tuple #[land b bh, .agg #[.int .i64 (N : Nat), .int .i64 (rt : Nat)], .slice Av LR.length cv, .bool true]) (by simp [results, Tryz.results49, go_sem, a0, a1, a2, a3]) rfl ⟨?_, hbb⟩
      have hN := HN.out
      subst hN
      have hLR := HLR.out
      subst hLR
      exact .inr ⟨b, bh, rt, M, F, Av, cv, rfl, MQ.out.ls.ar.kp hkk (fun q hf e => e.elim (fun e => MQ.out.nf.1 (e ▸ hf)) (fun e => MQ.out.nf.2.1 (e ▸ hf))), MQ.out.tt, hkk.own MQ.out.row (fun k e e' => e'.elim (own_ne MQ.out.row MQ.out.b4 (by decide) k e) (own_ne MQ.out.row MQ.out.b5 (by decide) k e)), MQ.out.keys, HLN.out⟩
end
end Go.Proofs.YtkkfhbcnfknmaaaGreat
