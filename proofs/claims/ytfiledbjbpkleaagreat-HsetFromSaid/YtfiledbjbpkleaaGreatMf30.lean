/- Several texts in one. -/
import Derived.Test.YtfiledbjbpkleaaGreatMf29
import Derived.Test.YtfiledbjbpkleaaGreatMf11
set_option linter.unusedSimpArgs false
namespace Go.Proofs.YtfiledbjbpkleaaGreat
set_option maxRecDepth 100000
set_option linter.unusedSimpArgs false
set_option linter.unusedVariables false
open Go.RowKit Go.Shelf
attribute [local go_sem] Oper.semAt_some
def nbool (k : Ky) : Bool := k.1 != 1
theorem lwant (k : Ky) (w : World) : Calls Tryz.prog 60 #[xagg k] w fun e w' => e = .returned (.bool (nbool k)) ∧ Below w.heap.size w w' := by
  have HB := Lib.hid (show Below w.heap.size w (w.alloc (.cells #[.int .u8 k.1, .int .i64 k.2.1, .string k.2.2] 36)) from (Below.refl _ w).alloc (Nat.le_refl _) _)
  go_enter Tryz.func60, Tryz.ntmps60
  go_wp2_with fail
  go_ret
  exact ⟨rfl, HB.out⟩
theorem addAll_srt {hs : Ky → Nat} {wb : Ky → Bool} : ∀ (ks : List Ky) {L : List Pr}, Srt hs L → Srt hs (addAll hs wb ks L) ∧ ∀ q, (q ∈ addAll hs wb ks L ↔ (q.2 = noV ∧ q.1 ∈ ks ∧ wb q.1 = true) ∨ (q ∈ L ∧ (q.1 ∈ ks → wb q.1 = false)))
  | [], L, h => ⟨h, fun q => by simp [addAll]⟩
  | k :: ks, L, h => by
    have e : addAll hs wb (k :: ks) L = addAll hs wb ks (if wb k then putL hs (k, noV) L else L) := rfl
    cases hk : wb k
    · rw [e, hk]
      obtain ⟨h1, h2⟩ := addAll_srt ks h (wb := wb)
      refine ⟨h1, fun q => (h2 q).trans ?_⟩
      constructor
      · rintro (⟨a, b, c⟩ | ⟨a, b⟩)
        · exact .inl ⟨a, List.mem_cons_of_mem _ b, c⟩
        · exact .inr ⟨a, fun hm => (List.mem_cons.1 hm).elim (fun e => by rw [e]; exact hk) b⟩
      · rintro (⟨a, b, c⟩ | ⟨a, b⟩)
        · exact .inl ⟨a, (List.mem_cons.1 b).elim (fun e => by rw [e, hk] at c; cases c) id, c⟩
        · exact .inr ⟨a, fun hm => b (List.mem_cons_of_mem _ hm)⟩
    · rw [e, hk]
      obtain ⟨p1, p2⟩ := putL_spec (p := (k, noV)) h
      obtain ⟨h1, h2⟩ := addAll_srt ks p1 (wb := wb)
      refine ⟨h1, fun q => (h2 q).trans ?_⟩
      constructor
      · rintro (⟨a, b, c⟩ | ⟨a, b⟩)
        · exact .inl ⟨a, List.mem_cons_of_mem _ b, c⟩
        · rcases (p2 q).1 a with rfl | ⟨c, d⟩
          · exact .inl ⟨rfl, List.mem_cons_self, hk⟩
          · exact .inr ⟨c, fun hm => (List.mem_cons.1 hm).elim (fun e => absurd e d) b⟩
      · rintro (⟨a, b, c⟩ | ⟨a, b⟩)
        · rcases List.mem_cons.1 b with e | b
          · by_cases hm : q.1 ∈ ks
            · exact .inl ⟨a, hm, c⟩
            · refine .inr ⟨(p2 q).2 (.inl ?_), fun h => absurd h hm⟩
              rw [← e, ← a]
          · exact .inl ⟨a, b, c⟩
        · have hq : q.1 ≠ k := fun e2 => by
            have := b (List.mem_cons.2 (.inl e2))
            rw [e2, hk] at this
            cases this
          exact .inr ⟨(p2 q).2 (.inr ⟨a, hq⟩), fun hm => b (List.mem_cons_of_mem _ hm)⟩
theorem addAll_more {hs : Ky → Nat} {wb : Ky → Bool} (ks ms : List Ky) (h : ∀ k ∈ ms, k ∈ ks) : addAll hs wb (ks ++ ms) [] = addAll hs wb ks [] := by
  have h0 : Srt hs [] := List.Pairwise.nil
  obtain ⟨a1, a2⟩ := addAll_srt (wb := wb) (ks ++ ms) h0
  obtain ⟨b1, b2⟩ := addAll_srt (wb := wb) ks h0
  refine Srt.ext a1 b1 (fun q => ?_)
  rw [a2 q, b2 q]
  simp only [List.mem_append, List.not_mem_nil, false_and, or_false]
  constructor
  · rintro ⟨a, b, c⟩
    exact ⟨a, b.elim id (h _), c⟩
  · rintro ⟨a, b, c⟩
    exact ⟨a, .inl b, c⟩
theorem Lst.take {w : World} {A : Option Addr} {l : List Ky} (h : Lst w A l) (n : Nat) : Lst w A (l.take n) := by
  rcases h with h | ⟨b, o, hA, hb, hc⟩
  · exact .inl (by rw [h]; simp)
  · refine .inr ⟨b, o, hA, hb, fun i x hx => hc i x ?_⟩
    rw [List.getElem?_take] at hx
    split at hx
    · exact hx
    · cases hx
theorem bk_nobody {most : Nat} {M : Cells} (h : Bk (most + 1) M [] (fun _ => 0) []) : live (most + 1) M = 0 := by
  have e := h.ok.nobody (fun i => by simp)
  rw [blank_nil] at e
  exact live_zero e
theorem right10_all {l : List Ky} (h : right10 l = true) : (∀ k ∈ l, ok10 k = true) ∧ l.length ≤ 120 := by
  unfold right10 at h
  rw [Bool.and_eq_true, List.all_eq_true] at h
  exact ⟨h.1, by simpa using h.2⟩
def FromD (hs : Ky → Nat) (l : List Ky) (n0 : Nat) (N nn er : Int) (M' : Cells) : Prop :=
  (∃ n' : Nat, N = ((addAll hs nbool l []).length : Nat) ∧ nn = (n' : Int) ∧ er = 0 ∧ Mp M' hs n' (addAll hs nbool l [])) ∨ (N = 0 ∧ nn = 0 ∧ er = 5 ∧ live (n0 + 1) M' = 0)
theorem hfrom {b bh seed n0 z9 : Nat} {hs : Ky → Nat} {A : Option Addr} {l : List Ky} {c : Nat} {w : World} (hhs : ∀ q, OkK q → hs q = hashN seed q.1 q.2.1 q.2.2) (h : Lst w A l) (hok : ∀ k ∈ l, OkK k) (hn : l.length ≤ 120) (hn1 : 1 ≤ n0) (hn2 : n0 ≤ 200) (za zb g0 : Nat) (W : World) (ls : LS w b bh seed n0 z9 (fun _ => none) (fun k => k = b) W) (va : C1 W za 50 (.slice A l.length c)) (vb : C1 W zb 50 (.slice A (l.take (l.length / 2)).length c)) (vg : C2 W g0 101 (seqx za) (seqx zb)) (na : za ≠ b ∧ za ≠ bh) (nb' : zb ≠ b ∧ zb ≠ bh) (ng : g0 ≠ b ∧ g0 ≠ bh) :
    Calls Tryz.prog 61 #[land b bh, .func (.func 60) #[] #[], .slice (some ⟨g0, 0, none⟩) 2 2] W fun e w' => ∃ (N nn er : Int) (M' : Cells) (F' : Nat → Prop), e = .returned (.tuple #[.agg #[.int .i64 N, .int .i64 nn], .int .i64 er]) ∧ LS w b bh seed n0 z9 M' F' w' ∧ FromD hs l n0 N nn er M' ∧ (∀ q, q < W.heap.size → ¬ q = b → ¬ F' q) ∧ Kp (fun q => q = b ∨ q = bh) W w' := by
  obtain ⟨ss, hss⟩ : ∃ ss : List (FuncId × Array Value × List Ky), ss = [(114, #[.pointer (some ⟨za, 0, none⟩)], l), (114, #[.pointer (some ⟨zb, 0, none⟩)], l.take (l.length / 2))] := ⟨_, rfl⟩
  have hkey : keysOf ss = l ++ l.take (l.length / 2) := by rw [hss]; simp [keysOf]
  have hlen : (keysOf ss).length ≤ 1000 := by rw [hkey, List.length_append, List.length_take]; omega
  have hlst : ∀ W', Kp (fun q => q = b ∨ q = bh) W W' → Lst W' A l := fun W' hk => h.below (below_kp ls.bel hk (fun q e => e.elim (fun e => ls.fr q e) (fun e => by rw [e]; exact ls.lo.2)))
  have hgv : ∀ (z : Nat) (ks : List Ky), ks.length ≤ 1000000 → C1 W z 50 (.slice A ks.length c) → z ≠ b ∧ z ≠ bh → (∀ W', Lst W' A l → Lst W' A ks) → ∀ W2, Kp (fun q => q = b ∨ q = bh) W W2 → GivesL Tryz.prog 114 (fun v => #[] ++ #[v] ++ #[.pointer (some ⟨z, 0, none⟩)]) (fun k : Ky => #[xagg k]) (fun lp => Kx W (fun k => k = b) bh (fun _ => none) (fun _ => 0) W2.heap.size lp b n0) ks W2 := fun z ks hk1 hv hz hl W2 hk => by
    refine seqx_gives z A ks c (fun W' => Kp (fun q => q = b ∨ q = bh) W W') _ W2 hk1 (fun lp A B hx hi => hx.old hi) (fun lp A B hx => (hx.kw 0 (.inl rfl)).sz) (fun A B hb hi => hi.trans (Kp.of_below hb (fun _ => False)) (fun _ h => h.elim)) (fun A hi => ⟨hv.kp hi (fun e => e.elim hz.1 hz.2), hl _ (hlst _ hi)⟩) (fun W' hb => hk.trans (Kp.of_below hb (fun _ => False)) (fun _ h => h.elim))
  have hcall := vFrom (b := b) (bh := bh) (seed := seed) (most := n0) (hs := hs) (M0 := fun _ => none) (P := fun _ => 0) (F0 := fun k => k = b) (f0 := 60) (caps0 := #[]) (wb := nbool) (g0 := g0) (o0 := 0) (c0 := 2) (ss := ss) W ls.ar (by omega) (fun _ => Nat.zero_le _) ((bk0 n0).perm (fun j hj => by rw [count1r, if_neg (by omega)]; rfl)) ls.hh ls.nb hhs (fun _ _ => rfl)
    (fun W' M F k _ _ _ hh _ _ => (lwant k W').mono (fun e W'' ⟨h1, h2⟩ => ⟨h1, Kp.of_below h2 _, hh.below h2⟩))
    (fun W' hk i s hs => by
      have v2 := vg.kp hk (fun e => e.elim ng.1 ng.2)
      rw [hss] at hs
      match i, hs with
      | 0, hs => cases hs; exact v2.c0
      | 1, hs => cases hs; exact v2.c1)
    (fun s hs => by
      rw [hss] at hs
      rcases List.mem_cons.1 hs with rfl | hs
      · exact ⟨fun _ _ => rfl, hok, fun W' M F hk _ _ => hgv za l (by omega) va na (fun _ h => h) W' hk⟩
      · rw [List.mem_singleton.1 hs]
        exact ⟨fun _ _ => rfl, fun k hk => hok k (List.mem_of_mem_take hk), fun W' M F hk _ _ => hgv zb (l.take (l.length / 2)) (by rw [List.length_take]; omega) vb nb' (fun _ h => h.take _) W' hk⟩)
    hlen (by rw [hss]; simp) (by rw [hss]; simp)
  rw [show ss.length = 2 from by rw [hss]; rfl] at hcall
  refine hcall.mono ?_
  have hadd : addAll hs nbool (keysOf ss) [] = addAll hs nbool l [] := by rw [hkey]; exact addAll_more l _ (fun k hk => List.mem_of_mem_take hk)
  rintro e w' (⟨n', M', F', rfl, hr, hm⟩ | ⟨M', F', rfl, hfull, hr⟩)
  · rw [hadd] at hm ⊢
    exact ⟨_, _, _, M', F', rfl, (ls.from hr).1, .inl ⟨n', rfl, rfl, rfl, hm⟩, (ls.from hr).2, hr.kp⟩
  · exact ⟨_, _, _, M', F', rfl, (ls.from hr).1, .inr ⟨rfl, rfl, rfl, bk_nobody hr.bk⟩, (ls.from hr).2, hr.kp⟩
theorem addAll_len {hs : Ky → Nat} {wb : Ky → Bool} : ∀ (ks : List Ky) {L : List Pr}, Srt hs L → (addAll hs wb ks L).length ≤ L.length + ks.length
  | [], L, _ => Nat.le_refl _
  | k :: ks, L, h => by
    have e : addAll hs wb (k :: ks) L = addAll hs wb ks (if wb k then putL hs (k, noV) L else L) := rfl
    rw [e]
    cases wb k
    · have := addAll_len ks h (wb := wb)
      simp only [Bool.false_eq_true, if_false, List.length_cons] at this ⊢
      omega
    · have h1 := addAll_len ks (putL_spec (p := (k, noV)) h).1 (wb := wb)
      have h2 := putL_length (p := (k, noV)) h
      have h3 : (putL hs (k, noV) L).length ≤ L.length + 1 := by rw [h2]; split <;> omega
      simp only [if_true, List.length_cons] at h1 ⊢
      omega
theorem min_one {n t : Nat} (h : t = min n 1) : min (n : Int) 1 = (t : Int) := by
  cases n with
  | zero => rw [h]; rfl
  | succ m => rw [h, Nat.min_eq_right (Nat.succ_le_succ (Nat.zero_le m)), Int.min_eq_right (by omega)]; rfl
theorem wp_rangeB {α : Type} {P : Program} {g : Operand} {ps : Array Tmp} {assign body : Code} {Q : Exit → Act → World → Prop} {a : Act} {w : World} {f : FuncId} {first last : Array Value} {k : Nat}
    (hg : a.eval g = .func (.func f) first last) (hf : ∀ (args : Array Value) (w : World), (callFunc f args).run P w = .ok (.enter f args) w) {encs : α → Array Value} {Kp : Nat → World → World → Prop} {xs : List α} (hps : ∀ x, (encs x).size = ps.size)
    (hseq : GivesL P f (fun v => first ++ #[v] ++ last) encs Kp xs w)
    (hKt : ∀ {A B C : World}, Kp (w.heap.size + 1) A B → Kp (w.heap.size + 1) B C → Kp (w.heap.size + 1) A C) (hKb : ∀ (W : World) (o o' : Obj), W.heap[w.heap.size + 1]? = some o → o.isCells = false → Kp (w.heap.size + 1) W (W.putObj (w.heap.size + 1) o'))
    (I : Nat → World → Prop) (Ix : Code → Nat → World → Prop) (IE : World → Prop) (hI : OwnFrom w.heap.size I) (hIx : ∀ c, OwnFrom w.heap.size (Ix c)) (h0 : I 0 w)
    (hKB : ∀ A B : World, Below A.heap.size A B → Kp (w.heap.size + 1) A B)
    (hround : ∀ (l i : Nat) (x : α) (W : World), xs[i]? = some x → I i W → w.heap.size ≤ W.heap.size → assign.wpIn (Fence.wide.inRound l) 0 P (Exit.then (fun a₁ Wa => Below W.heap.size W Wa ∧ ∃ J : Nat → World → Prop, OwnFrom w.heap.size J ∧ J i Wa ∧ ∀ W', J i W' → Wa.heap.size ≤ W'.heap.size → body.wpIn (Fence.wide.inRound l) 0 P (roundOfL w.heap.size (Kp (w.heap.size + 1)) I Ix (i + 1) W') a₁ W') (fun _ _ _ => False)) { tmps := (ps.zip (encs x)).foldl (fun t (p, v) => t.setIfInBounds p v) a.tmps, defers := [] } W)
    (hD : ∀ W, I xs.length W → IE W) (hX : ∀ c i W, Ix c i W → c = .exit k ∧ IE W)
    (hend : ∀ (D : Nat) (W : World), w.heap.size ≤ D → IE W → W.heap[D]? = some (.deferred (some [])) → Q .normal { a with defers := { target := .collected D, args := #[] } :: a.defers } W) :
    (Code.rangeFunc g ps assign body).wp P (Exit.inBlock k Q) a w := by
  refine wp_rangeL hg hf hps hseq hKt hKb I Ix hI hIx h0 hKB hround (fun D W h1 h2 h3 => hend D W h1 (hD _ h2) h3) (fun D c i W h1 h2 h3 h4 => ?_)
  obtain ⟨rfl, h⟩ := hX _ _ _ h3
  refine wp_exit ?_
  show (if k = k then Q .normal _ _ else _)
  rw [if_pos rfl]
  exact hend D W h1 h h4
structure Ub (w : World) (b bh seed n0 z9 z11 z13 : Nat) (M : Cells) (F : Nat → Prop) (N n t : Nat) (W : World) : Prop where
  ls : LS w b bh seed n0 z9 M F W
  mz : C2 W z11 78 (.int .i64 (N : Int)) (.int .i64 (n : Int))
  cz : C1 W z13 3 (.int .i64 (t : Int))
theorem Ub.kp {w W W' : World} {b bh seed n0 z9 z11 z13 N n t : Nat} {M : Cells} {F G : Nat → Prop} (h : Ub w b bh seed n0 z9 z11 z13 M F N n t W) (hk : Kp G W W') (hG : ∀ q, G q → w.heap.size ≤ q ∧ ¬ F q ∧ q ≠ bh ∧ q ≠ z9 ∧ q ≠ z11 ∧ q ≠ z13) : Ub w b bh seed n0 z9 z11 z13 M F N n t W' :=
  ⟨h.ls.kp hk (fun q hq => ⟨(hG q hq).1, (hG q hq).2.1, (hG q hq).2.2.1, (hG q hq).2.2.2.1⟩), h.mz.kp hk (fun hq => (hG _ hq).2.2.2.2.1 rfl), h.cz.kp hk (fun hq => (hG _ hq).2.2.2.2.2 rfl)⟩
theorem Ub.below {w W W' : World} {b bh seed n0 z9 z11 z13 N n t : Nat} {M : Cells} {F : Nat → Prop} (h : Ub w b bh seed n0 z9 z11 z13 M F N n t W) (hb : Below W.heap.size W W') : Ub w b bh seed n0 z9 z11 z13 M F N n t W' := ⟨h.ls.below hb, h.mz.below hb, h.cz.below hb⟩
section
set_option maxHeartbeats 8000000 in
theorem lfrom10 (seed : Nat) (A : Option Addr) (l : List Ky) (c : Nat) (n : Int) (w : World) (h : Lst w A l) (hf : ∀ k ∈ l, 0 ≤ k.1 ∧ k.1 ≤ 255) (hll : l.length ≤ 140737488355328) (hlc : l.length ≤ c) :
    Calls Tryz.prog 9 #[.int .u64 (seed : Nat), .slice A l.length c, .int .i64 n] w fun e w' => e = .returned (.bool true) ∧ Below w.heap.size w w' := by
  obtain ⟨hs, hhs⟩ : ∃ hs : Ky → Nat, ∀ q, OkK q → hs q = hashN seed q.1 q.2.1 q.2.2 := ⟨fun q => hashN seed q.1 q.2.1 q.2.2, fun _ _ => rfl⟩
  have HHS := Lib.hid hhs
  have HL := Lib.hid (And.intro h (And.intro hf (And.intro hll hlc)))
  clear hhs h hf hll hlc
  refine (callsIn_wide (n := 4)).1 ?_
  refine callsIn_of_wp_marks Tryz.func9 rfl trivial ?_ rfl
  refine wpIn_wide.2 ?_
  simp only [Tryz.ntmps9, List.size_toArray, List.length_cons, List.length_nil, Nat.reduceAdd, Nat.reduceSub, Array.replicate_succ, Array.replicate_zero, List.push_toArray, List.append_toArray, List.nil_append, List.cons_append]
  go_wp2_with fail
  refine (llives10 w).mono ?_
  rintro e w1 ⟨rfl, hb1⟩
  have H1 := Lib.hid hb1
  clear hb1
  go_wp2_with fail
  refine (lright A l c w1 (HL.out.1.below H1.out) HL.out.2.2.1).mono ?_
  rintro e w2 ⟨rfl, hb2⟩
  have H2 := Lib.hid (H1.out.trans (hb2.mono H1.out.size))
  clear hb2
  cases hr : right10 l
  · clear hr
    go_wp2_with fail
    refine (llives10 w2).mono ?_
    rintro e w3 ⟨rfl, hb3⟩
    have H3 := Lib.hid (H2.out.trans (hb3.mono H2.out.size))
    clear hb3
    go_wp2_with fail
    exact ⟨.bool true, by simp [results, Tryz.results9, go_sem], rfl, H3.out⟩
  · obtain ⟨r1, r2⟩ := right10_all hr
    have HR := Lib.hid (And.intro (fun k hk => ok10_ok (r1 k hk) (HL.out.2.1 k hk) : ∀ k ∈ l, OkK k) r2)
    clear hr r1 r2
    obtain ⟨n0, hn0, hn1, hn2⟩ : ∃ n0 : Nat, wrap64 (1 + wrap64 ((IntKind.u64.wrap n).tmod 200)) = (n0 : Int) ∧ 1 ≤ n0 ∧ n0 ≤ 200 := by
      have h0 : 0 ≤ IntKind.u64.wrap n := by rw [IntKind.wrap_u64]; omega
      have h1 : 0 ≤ (IntKind.u64.wrap n).tmod 200 ∧ (IntKind.u64.wrap n).tmod 200 < 200 := by
        rw [Int.tmod_eq_emod_of_nonneg h0]
        omega
      rw [IntWalk.wrap64_in ((IntKind.u64.wrap n).tmod 200) (by omega), IntWalk.wrap64_in _ (by omega)]
      exact ⟨(1 + (IntKind.u64.wrap n).tmod 200).toNat, by omega, by omega, by omega⟩
    have HN := Lib.hid (And.intro hn0 (And.intro hn1 hn2))
    clear hn0 hn1 hn2
    go_wp2_with fail
    rw [HN.out.1]
    refine (anew n0 w2 HN.out.2.1 (by have := HN.out.2.2; omega)).mono ?_
    rintro e w3 ⟨rfl, ha, hb3⟩
    have H3 := Lib.hid (And.intro ha (And.intro hb3 H2.out.size))
    have hbb := ha.blt
    clear ha hb3
    go_wp2_with fail
    refine (hnew seed w3).mono ?_
    rintro e w4 ⟨rfl, hh, hg⟩
    have H4 := Lib.hid (And.intro hh hg.below)
    clear hh hg
    go_upto_region 6 with fail
    have ls : LS w w2.heap.size w3.heap.size seed n0 w4.heap.size (fun _ => none) (fun k => k = w2.heap.size) (w4.alloc (.cells #[ap w2.heap.size, .pointer (some ⟨w3.heap.size, 0, none⟩)] 26)) := by
      obtain ⟨ha, hb3, hs2⟩ := H3.out
      obtain ⟨hh, hb4⟩ := H4.out
      have s3 := hb3.size
      have s4 := hb4.size
      have hbel : Below w.heap.size w w4 := (H2.out.trans (hb3.mono H2.out.size)).trans (hb4.mono (Nat.le_trans H2.out.size hb3.size))
      exact ⟨(ha.below hb4).alloc _, hh.alloc _, fun e => by omega, C2.new _ _ _ _, ⟨fun e => by have := hh.lt; omega, by have := hh.lt; omega⟩, hbel.alloc hbel.size _, fun q e => by omega, ⟨hbel.size, by omega⟩⟩
    have LS0 := Lib.hid ls
    clear ls hbb
    generalize w4.alloc (.cells #[ap w2.heap.size, .pointer (some ⟨w3.heap.size, 0, none⟩)] 26) = w5 at LS0 ⊢
    clear H3 H4
    generalize w2.heap.size = b at LS0 ⊢
    generalize w3.heap.size = bh at LS0 ⊢
    generalize w4.heap.size = z9 at LS0 ⊢
    clear w3 w4
    have HFROM := Lib.hid (fun za zb g0 W => hfrom (b := b) (bh := bh) (z9 := z9) (w := w) (c := c) HHS.out HL.out.1 HR.out.1 HR.out.2 HN.out.2.1 HN.out.2.2 za zb g0 W)
    go_cut [11, 12] from 35 to 49 (fun s11 s12 wc => ∃ (z11 : Nat) (N nn er : Int) (M' : Cells) (F' : Nat → Prop), s11 = .pointer (some ⟨z11, 0, none⟩) ∧ s12 = .int .i64 er ∧ C2 wc z11 78 (.int .i64 N) (.int .i64 nn) ∧ LS w b bh seed n0 z9 M' F' wc ∧ FromD hs l n0 N nn er M' ∧ Own1 w F' z9 bh z11)
    case first =>
      obtain ls := LS0.out
      obtain ⟨m, hm1, hm2, hq3⟩ : ∃ m : Nat, m = (l.take (l.length / 2)).length ∧ wrap64 ((l.length : Int) / 2) = (m : Int) ∧ (m : Int) ≤ (c : Int) := by
        have h1 := HR.out.2
        have h2 := HL.out.2.2.2
        have h3 : (l.take (l.length / 2)).length = l.length / 2 := by rw [List.length_take]; omega
        refine ⟨_, rfl, ?_, by omega⟩
        rw [h3, IntWalk.wrap64_in _ (by omega)]
        rfl
      have hq2 : (0 : Int) ≤ (m : Int) := by omega
      have hq : IntKind.i64.wrap ((l.length : Int) / 2) = (m : Int) := (IntWalk.i64_left _).trans hm2
      have HM := Lib.hid hm1
      clear hm1 hm2
      have l0 : ∀ W', C2 W' z9 26 (ap b) (.pointer (some ⟨bh, 0, none⟩)) → W'.cell? ⟨z9, 0, none⟩ = some (ap b) := fun W' h => h.c0
      have l1 : ∀ W', C2 W' z9 26 (ap b) (.pointer (some ⟨bh, 0, none⟩)) → W'.cell? ⟨z9, 1, none⟩ = some (.pointer (some ⟨bh, 0, none⟩)) := fun W' h => h.c1
      refine wp_region_noPanic ?_
      refine wp_region_held_drew (S := (fun W' => C2 W' z9 26 (ap b) (.pointer (some ⟨bh, 0, none⟩)))) (by kernel_rfl) (ls.below (Below.refl _ w5).drew).lb (fun hH => ?_)
      replace ls := ls.below (Below.refl _ w5).drew
      generalize w5.drew = Wc at ls hH ⊢
      refine tkH ?_ 0 hH ?_ ?_; rotate_left
      · intro W' hS; go_simp; with_reducible rfl
      simp only [tkr]
      refine tkH ?_ 1 hH ?_ ?_; rotate_left
      · intro W' hS; go_simp; with_reducible rfl
      simp only [tkr]
      refine tkH ?_ 2 hH ?_ ?_; rotate_left
      · intro W' hS; go_simp; with_reducible rfl
      simp only [tkr]
      refine tkH ?_ 4 hH ?_ ?_; rotate_left
      · intro W' hS; go_simp; with_reducible rfl
      simp only [tkr]
      refine tkH ?_ 5 hH ?_ ?_; rotate_left
      · intro W' hS; go_simp; with_reducible rfl
      simp only [tkr]
      refine tkH ?_ 6 hH ?_ ?_; rotate_left
      · intro W' hS; go_simp; with_reducible rfl
      simp only [tkr]
      refine tkH ?_ 7 hH ?_ ?_; rotate_left
      · intro W' hS; go_simp; with_reducible rfl
      simp only [tkr]
      refine tkH ?_ 8 hH ?_ ?_; rotate_left
      · intro W' hS; go_simp; with_reducible rfl
      simp only [tkr]
      refine wpAnyH_ready (rs := [3, 15]) (by kernel_rfl) (by simp) ?_
      refine AllReadyH.cons rfl (fun K hK => ?_) (AllReadyH.cons rfl (fun K hK => ?_) (AllReadyH.nil))
      · go_simp
        refine (vSeqV A l.length c Wc).mono ?_
        rintro e Wn ⟨za, rfl, va, hza, hbn⟩
        have na : za ≠ b ∧ za ≠ bh := ⟨fun e => by have := ls.ar.blt; omega, fun e => by have := ls.hh.lt; omega⟩
        replace ls := ls.below hbn
        try replace mz := mz.below hbn
        clear hbn hza
        simp only
        refine hK.out _ _ ?_ (fun hH => ?_)
        · exact ls.lb
        clear hK K
        rename World => Wc
        refine wpAnyH_ready (rs := [9, 15]) (by kernel_rfl) (by simp) ?_
        refine AllReadyH.cons rfl (fun K hK => ?_) (AllReadyH.cons rfl (fun K hK => ?_) (AllReadyH.nil))
        · go_simp
          refine (vSeqV A m c Wc).mono ?_
          rintro e Wn ⟨zb, rfl, vb, hza, hbn⟩
          have nb' : zb ≠ b ∧ zb ≠ bh := ⟨fun e => by have := ls.ar.blt; omega, fun e => by have := ls.hh.lt; omega⟩
          replace ls := ls.below hbn
          replace va := va.below hbn
          try replace mz := mz.below hbn
          clear hbn hza
          simp only
          refine hK.out _ _ ?_ (fun hH => ?_)
          · exact ls.lb
          clear hK K
          rename World => Wc
          refine wpAnyH_ready (rs := [10, 15]) (by kernel_rfl) (by simp) ?_
          refine AllReadyH.cons rfl (fun K hK => ?_) (AllReadyH.cons rfl (fun K hK => ?_) (AllReadyH.nil))
          · go_simp
            have vg := C2.new Wc 101 (seqx za) (seqx zb)
            have ng : Wc.heap.size ≠ b ∧ Wc.heap.size ≠ bh := ⟨fun e => by have := ls.ar.blt; omega, fun e => by have := ls.hh.lt; omega⟩
            replace ls := ls.alloc (.cells #[seqx za, seqx zb] 101)
            replace va := va.alloc (.cells #[seqx za, seqx zb] 101)
            replace vb := vb.alloc (.cells #[seqx za, seqx zb] 101)
            try replace mz := mz.alloc (.cells #[seqx za, seqx zb] 101)
            refine hK.out _ _ ?_ (fun hH => ?_)
            · exact ls.lb
            clear hK K
            first
              | generalize World.alloc _ _ = Wn at ls va vb vg mz hH ⊢
              | generalize World.alloc _ _ = Wn at ls va vb vg hH ⊢
            generalize Wc.heap.size = g0 at vg ng ⊢
            rename World => Wc
            refine wpAnyH_ready (rs := [11, 15]) (by kernel_rfl) (by simp) ?_
            refine AllReadyH.cons rfl (fun K hK => ?_) (AllReadyH.cons rfl (fun K hK => ?_) (AllReadyH.nil))
            · go_simp
              refine (HFROM.out za zb g0 Wc ls va (by rw [← HM.out]; exact vb) vg na nb' ng).mono ?_
              rintro e Wn ⟨N, nn, er, M1, F1, rfl, ls1, hfd, hF1, hk1⟩
              clear va vb vg na nb' ng
              try have hz2 := mz.lt
              try replace mz := mz.kp hk1 (fun e => e.elim nz.2.1 nz.2.2.2)
              try replace nz := (show Own1 w F1 z9 bh z11 from ⟨nz.1, hF1 z11 hz2 nz.2.1, nz.2.2⟩)
              replace ls := ls1
              simp only
              refine hK.out _ _ ?_ (fun hH => ?_)
              · exact ls.lb
              clear hK K ls1 hF1 hk1
              rename World => Wc
              refine tkH ?_ 12 hH ?_ ?_; rotate_left
              · intro W' hS; go_simp; with_reducible rfl
              simp only [tkr]
              refine tkH ?_ 13 hH ?_ ?_; rotate_left
              · intro W' hS; go_simp; with_reducible rfl
              simp only [tkr]
              refine tkH ?_ 14 hH ?_ ?_; rotate_left
              · intro W' hS; go_simp; with_reducible rfl
              simp only [tkr]
              refine rdH 15 rfl (fun K hK => ?_)
              go_simp
              have mz := C2.new Wc 78 (.int .i64 0) (.int .i64 0)
              have nz := ls.fresh
              replace ls := ls.alloc (.cells #[.int .i64 0, .int .i64 0] 78)
              try replace va := va.alloc (.cells #[.int .i64 0, .int .i64 0] 78)
              try replace vb := vb.alloc (.cells #[.int .i64 0, .int .i64 0] 78)
              try replace vg := vg.alloc (.cells #[.int .i64 0, .int .i64 0] 78)
              refine hK.out _ _ ?_ (fun hH => ?_)
              · exact ls.lb
              clear hK K
              first
                | generalize World.alloc _ _ = Wn at ls mz va vb vg hH ⊢
                | generalize World.alloc _ _ = Wn at ls mz va vb hH ⊢
                | generalize World.alloc _ _ = Wn at ls mz va hH ⊢
                | generalize World.alloc _ _ = Wn at ls mz hH ⊢
              generalize Wc.heap.size = z11 at mz nz ⊢
              rename World => Wc
              refine rdH 16 rfl (fun K hK => ?_)
              obtain ⟨c0, c1, f0, f1⟩ := mz.all
              go_simp
              clear c0 c1 f0 f1
              have kz : Kp (fun q => q = z11) Wc ((Wc.setCell ⟨z11, 0, none⟩ (.int .i64 N)).setCell ⟨z11, 1, none⟩ (.int .i64 nn)) := ((Kp.refl (fun q => q = z11) Wc).setCell (.inl rfl) _).setCell (.inl rfl) _
              replace ls := ls.kp kz (fun q e => by rw [e]; exact ⟨nz.1, nz.2.1, nz.2.2.2, fun e => nz.2.2.1 e.symm⟩)
              replace mz := (mz.set0 (.int .i64 N)).set1 (.int .i64 nn)
              refine hK.out _ _ ?_ (fun hH => ?_)
              · exact ls.lb
              clear hK K kz
              refine tkH ?_ 17 hH ?_ ?_; rotate_left
              · intro W' hS; go_simp; with_reducible rfl
              simp only [tkr]
              refine wpAnyH_done (by kernel_rfl) ?_ _
              refine NoPanic.normal ?_
              clear l0 l1
              go_wp2_with fail
              go_meet
              exact ⟨z11, N, nn, er, M1, F1, rfl, rfl, mz, ls, hfd, nz⟩
            · go_simp
              have mz := C2.new Wc 78 (.int .i64 0) (.int .i64 0)
              have nz := ls.fresh
              replace ls := ls.alloc (.cells #[.int .i64 0, .int .i64 0] 78)
              try replace va := va.alloc (.cells #[.int .i64 0, .int .i64 0] 78)
              try replace vb := vb.alloc (.cells #[.int .i64 0, .int .i64 0] 78)
              try replace vg := vg.alloc (.cells #[.int .i64 0, .int .i64 0] 78)
              refine hK.out _ _ ?_ (fun hH => ?_)
              · exact ls.lb
              clear hK K
              first
                | generalize World.alloc _ _ = Wn at ls mz va vb vg hH ⊢
                | generalize World.alloc _ _ = Wn at ls mz va vb hH ⊢
                | generalize World.alloc _ _ = Wn at ls mz va hH ⊢
                | generalize World.alloc _ _ = Wn at ls mz hH ⊢
              generalize Wc.heap.size = z11 at mz nz ⊢
              rename World => Wc
              refine rdH 11 rfl (fun K hK => ?_)
              go_simp
              refine (HFROM.out za zb g0 Wc ls va (by rw [← HM.out]; exact vb) vg na nb' ng).mono ?_
              rintro e Wn ⟨N, nn, er, M1, F1, rfl, ls1, hfd, hF1, hk1⟩
              clear va vb vg na nb' ng
              try have hz2 := mz.lt
              try replace mz := mz.kp hk1 (fun e => e.elim nz.2.1 nz.2.2.2)
              try replace nz := (show Own1 w F1 z9 bh z11 from ⟨nz.1, hF1 z11 hz2 nz.2.1, nz.2.2⟩)
              replace ls := ls1
              simp only
              refine hK.out _ _ ?_ (fun hH => ?_)
              · exact ls.lb
              clear hK K ls1 hF1 hk1
              rename World => Wc
              refine tkH ?_ 12 hH ?_ ?_; rotate_left
              · intro W' hS; go_simp; with_reducible rfl
              simp only [tkr]
              refine tkH ?_ 13 hH ?_ ?_; rotate_left
              · intro W' hS; go_simp; with_reducible rfl
              simp only [tkr]
              refine tkH ?_ 14 hH ?_ ?_; rotate_left
              · intro W' hS; go_simp; with_reducible rfl
              simp only [tkr]
              refine rdH 16 rfl (fun K hK => ?_)
              obtain ⟨c0, c1, f0, f1⟩ := mz.all
              go_simp
              clear c0 c1 f0 f1
              have kz : Kp (fun q => q = z11) Wc ((Wc.setCell ⟨z11, 0, none⟩ (.int .i64 N)).setCell ⟨z11, 1, none⟩ (.int .i64 nn)) := ((Kp.refl (fun q => q = z11) Wc).setCell (.inl rfl) _).setCell (.inl rfl) _
              replace ls := ls.kp kz (fun q e => by rw [e]; exact ⟨nz.1, nz.2.1, nz.2.2.2, fun e => nz.2.2.1 e.symm⟩)
              replace mz := (mz.set0 (.int .i64 N)).set1 (.int .i64 nn)
              refine hK.out _ _ ?_ (fun hH => ?_)
              · exact ls.lb
              clear hK K kz
              refine tkH ?_ 17 hH ?_ ?_; rotate_left
              · intro W' hS; go_simp; with_reducible rfl
              simp only [tkr]
              refine wpAnyH_done (by kernel_rfl) ?_ _
              refine NoPanic.normal ?_
              clear l0 l1
              go_wp2_with fail
              go_meet
              exact ⟨z11, N, nn, er, M1, F1, rfl, rfl, mz, ls, hfd, nz⟩
          · go_simp
            have mz := C2.new Wc 78 (.int .i64 0) (.int .i64 0)
            have nz := ls.fresh
            replace ls := ls.alloc (.cells #[.int .i64 0, .int .i64 0] 78)
            try replace va := va.alloc (.cells #[.int .i64 0, .int .i64 0] 78)
            try replace vb := vb.alloc (.cells #[.int .i64 0, .int .i64 0] 78)
            try replace vg := vg.alloc (.cells #[.int .i64 0, .int .i64 0] 78)
            refine hK.out _ _ ?_ (fun hH => ?_)
            · exact ls.lb
            clear hK K
            first
              | generalize World.alloc _ _ = Wn at ls mz va vb vg hH ⊢
              | generalize World.alloc _ _ = Wn at ls mz va vb hH ⊢
              | generalize World.alloc _ _ = Wn at ls mz va hH ⊢
              | generalize World.alloc _ _ = Wn at ls mz hH ⊢
            generalize Wc.heap.size = z11 at mz nz ⊢
            rename World => Wc
            refine rdH 10 rfl (fun K hK => ?_)
            go_simp
            have vg := C2.new Wc 101 (seqx za) (seqx zb)
            have ng : Wc.heap.size ≠ b ∧ Wc.heap.size ≠ bh := ⟨fun e => by have := ls.ar.blt; omega, fun e => by have := ls.hh.lt; omega⟩
            replace ls := ls.alloc (.cells #[seqx za, seqx zb] 101)
            replace va := va.alloc (.cells #[seqx za, seqx zb] 101)
            replace vb := vb.alloc (.cells #[seqx za, seqx zb] 101)
            try replace mz := mz.alloc (.cells #[seqx za, seqx zb] 101)
            refine hK.out _ _ ?_ (fun hH => ?_)
            · exact ls.lb
            clear hK K
            first
              | generalize World.alloc _ _ = Wn at ls va vb vg mz hH ⊢
              | generalize World.alloc _ _ = Wn at ls va vb vg hH ⊢
            generalize Wc.heap.size = g0 at vg ng ⊢
            rename World => Wc
            refine rdH 11 rfl (fun K hK => ?_)
            go_simp
            refine (HFROM.out za zb g0 Wc ls va (by rw [← HM.out]; exact vb) vg na nb' ng).mono ?_
            rintro e Wn ⟨N, nn, er, M1, F1, rfl, ls1, hfd, hF1, hk1⟩
            clear va vb vg na nb' ng
            try have hz2 := mz.lt
            try replace mz := mz.kp hk1 (fun e => e.elim nz.2.1 nz.2.2.2)
            try replace nz := (show Own1 w F1 z9 bh z11 from ⟨nz.1, hF1 z11 hz2 nz.2.1, nz.2.2⟩)
            replace ls := ls1
            simp only
            refine hK.out _ _ ?_ (fun hH => ?_)
            · exact ls.lb
            clear hK K ls1 hF1 hk1
            rename World => Wc
            refine tkH ?_ 12 hH ?_ ?_; rotate_left
            · intro W' hS; go_simp; with_reducible rfl
            simp only [tkr]
            refine tkH ?_ 13 hH ?_ ?_; rotate_left
            · intro W' hS; go_simp; with_reducible rfl
            simp only [tkr]
            refine tkH ?_ 14 hH ?_ ?_; rotate_left
            · intro W' hS; go_simp; with_reducible rfl
            simp only [tkr]
            refine rdH 16 rfl (fun K hK => ?_)
            obtain ⟨c0, c1, f0, f1⟩ := mz.all
            go_simp
            clear c0 c1 f0 f1
            have kz : Kp (fun q => q = z11) Wc ((Wc.setCell ⟨z11, 0, none⟩ (.int .i64 N)).setCell ⟨z11, 1, none⟩ (.int .i64 nn)) := ((Kp.refl (fun q => q = z11) Wc).setCell (.inl rfl) _).setCell (.inl rfl) _
            replace ls := ls.kp kz (fun q e => by rw [e]; exact ⟨nz.1, nz.2.1, nz.2.2.2, fun e => nz.2.2.1 e.symm⟩)
            replace mz := (mz.set0 (.int .i64 N)).set1 (.int .i64 nn)
            refine hK.out _ _ ?_ (fun hH => ?_)
            · exact ls.lb
            clear hK K kz
            refine tkH ?_ 17 hH ?_ ?_; rotate_left
            · intro W' hS; go_simp; with_reducible rfl
            simp only [tkr]
            refine wpAnyH_done (by kernel_rfl) ?_ _
            refine NoPanic.normal ?_
            clear l0 l1
            go_wp2_with fail
            go_meet
            exact ⟨z11, N, nn, er, M1, F1, rfl, rfl, mz, ls, hfd, nz⟩
        · go_simp
          have mz := C2.new Wc 78 (.int .i64 0) (.int .i64 0)
          have nz := ls.fresh
          replace ls := ls.alloc (.cells #[.int .i64 0, .int .i64 0] 78)
          try replace va := va.alloc (.cells #[.int .i64 0, .int .i64 0] 78)
          try replace vb := vb.alloc (.cells #[.int .i64 0, .int .i64 0] 78)
          try replace vg := vg.alloc (.cells #[.int .i64 0, .int .i64 0] 78)
          refine hK.out _ _ ?_ (fun hH => ?_)
          · exact ls.lb
          clear hK K
          first
            | generalize World.alloc _ _ = Wn at ls mz va vb vg hH ⊢
            | generalize World.alloc _ _ = Wn at ls mz va vb hH ⊢
            | generalize World.alloc _ _ = Wn at ls mz va hH ⊢
            | generalize World.alloc _ _ = Wn at ls mz hH ⊢
          generalize Wc.heap.size = z11 at mz nz ⊢
          rename World => Wc
          refine rdH 9 rfl (fun K hK => ?_)
          go_simp
          refine (vSeqV A m c Wc).mono ?_
          rintro e Wn ⟨zb, rfl, vb, hza, hbn⟩
          have nb' : zb ≠ b ∧ zb ≠ bh := ⟨fun e => by have := ls.ar.blt; omega, fun e => by have := ls.hh.lt; omega⟩
          replace ls := ls.below hbn
          replace va := va.below hbn
          try replace mz := mz.below hbn
          clear hbn hza
          simp only
          refine hK.out _ _ ?_ (fun hH => ?_)
          · exact ls.lb
          clear hK K
          rename World => Wc
          refine rdH 10 rfl (fun K hK => ?_)
          go_simp
          have vg := C2.new Wc 101 (seqx za) (seqx zb)
          have ng : Wc.heap.size ≠ b ∧ Wc.heap.size ≠ bh := ⟨fun e => by have := ls.ar.blt; omega, fun e => by have := ls.hh.lt; omega⟩
          replace ls := ls.alloc (.cells #[seqx za, seqx zb] 101)
          replace va := va.alloc (.cells #[seqx za, seqx zb] 101)
          replace vb := vb.alloc (.cells #[seqx za, seqx zb] 101)
          try replace mz := mz.alloc (.cells #[seqx za, seqx zb] 101)
          refine hK.out _ _ ?_ (fun hH => ?_)
          · exact ls.lb
          clear hK K
          first
            | generalize World.alloc _ _ = Wn at ls va vb vg mz hH ⊢
            | generalize World.alloc _ _ = Wn at ls va vb vg hH ⊢
          generalize Wc.heap.size = g0 at vg ng ⊢
          rename World => Wc
          refine rdH 11 rfl (fun K hK => ?_)
          go_simp
          refine (HFROM.out za zb g0 Wc ls va (by rw [← HM.out]; exact vb) vg na nb' ng).mono ?_
          rintro e Wn ⟨N, nn, er, M1, F1, rfl, ls1, hfd, hF1, hk1⟩
          clear va vb vg na nb' ng
          try have hz2 := mz.lt
          try replace mz := mz.kp hk1 (fun e => e.elim nz.2.1 nz.2.2.2)
          try replace nz := (show Own1 w F1 z9 bh z11 from ⟨nz.1, hF1 z11 hz2 nz.2.1, nz.2.2⟩)
          replace ls := ls1
          simp only
          refine hK.out _ _ ?_ (fun hH => ?_)
          · exact ls.lb
          clear hK K ls1 hF1 hk1
          rename World => Wc
          refine tkH ?_ 12 hH ?_ ?_; rotate_left
          · intro W' hS; go_simp; with_reducible rfl
          simp only [tkr]
          refine tkH ?_ 13 hH ?_ ?_; rotate_left
          · intro W' hS; go_simp; with_reducible rfl
          simp only [tkr]
          refine tkH ?_ 14 hH ?_ ?_; rotate_left
          · intro W' hS; go_simp; with_reducible rfl
          simp only [tkr]
          refine rdH 16 rfl (fun K hK => ?_)
          obtain ⟨c0, c1, f0, f1⟩ := mz.all
          go_simp
          clear c0 c1 f0 f1
          have kz : Kp (fun q => q = z11) Wc ((Wc.setCell ⟨z11, 0, none⟩ (.int .i64 N)).setCell ⟨z11, 1, none⟩ (.int .i64 nn)) := ((Kp.refl (fun q => q = z11) Wc).setCell (.inl rfl) _).setCell (.inl rfl) _
          replace ls := ls.kp kz (fun q e => by rw [e]; exact ⟨nz.1, nz.2.1, nz.2.2.2, fun e => nz.2.2.1 e.symm⟩)
          replace mz := (mz.set0 (.int .i64 N)).set1 (.int .i64 nn)
          refine hK.out _ _ ?_ (fun hH => ?_)
          · exact ls.lb
          clear hK K kz
          refine tkH ?_ 17 hH ?_ ?_; rotate_left
          · intro W' hS; go_simp; with_reducible rfl
          simp only [tkr]
          refine wpAnyH_done (by kernel_rfl) ?_ _
          refine NoPanic.normal ?_
          clear l0 l1
          go_wp2_with fail
          go_meet
          exact ⟨z11, N, nn, er, M1, F1, rfl, rfl, mz, ls, hfd, nz⟩
      · go_simp
        have mz := C2.new Wc 78 (.int .i64 0) (.int .i64 0)
        have nz := ls.fresh
        replace ls := ls.alloc (.cells #[.int .i64 0, .int .i64 0] 78)
        try replace va := va.alloc (.cells #[.int .i64 0, .int .i64 0] 78)
        try replace vb := vb.alloc (.cells #[.int .i64 0, .int .i64 0] 78)
        try replace vg := vg.alloc (.cells #[.int .i64 0, .int .i64 0] 78)
        refine hK.out _ _ ?_ (fun hH => ?_)
        · exact ls.lb
        clear hK K
        first
          | generalize World.alloc _ _ = Wn at ls mz va vb vg hH ⊢
          | generalize World.alloc _ _ = Wn at ls mz va vb hH ⊢
          | generalize World.alloc _ _ = Wn at ls mz va hH ⊢
          | generalize World.alloc _ _ = Wn at ls mz hH ⊢
        generalize Wc.heap.size = z11 at mz nz ⊢
        rename World => Wc
        refine rdH 3 rfl (fun K hK => ?_)
        go_simp
        refine (vSeqV A l.length c Wc).mono ?_
        rintro e Wn ⟨za, rfl, va, hza, hbn⟩
        have na : za ≠ b ∧ za ≠ bh := ⟨fun e => by have := ls.ar.blt; omega, fun e => by have := ls.hh.lt; omega⟩
        replace ls := ls.below hbn
        try replace mz := mz.below hbn
        clear hbn hza
        simp only
        refine hK.out _ _ ?_ (fun hH => ?_)
        · exact ls.lb
        clear hK K
        rename World => Wc
        refine rdH 9 rfl (fun K hK => ?_)
        go_simp
        refine (vSeqV A m c Wc).mono ?_
        rintro e Wn ⟨zb, rfl, vb, hza, hbn⟩
        have nb' : zb ≠ b ∧ zb ≠ bh := ⟨fun e => by have := ls.ar.blt; omega, fun e => by have := ls.hh.lt; omega⟩
        replace ls := ls.below hbn
        replace va := va.below hbn
        try replace mz := mz.below hbn
        clear hbn hza
        simp only
        refine hK.out _ _ ?_ (fun hH => ?_)
        · exact ls.lb
        clear hK K
        rename World => Wc
        refine rdH 10 rfl (fun K hK => ?_)
        go_simp
        have vg := C2.new Wc 101 (seqx za) (seqx zb)
        have ng : Wc.heap.size ≠ b ∧ Wc.heap.size ≠ bh := ⟨fun e => by have := ls.ar.blt; omega, fun e => by have := ls.hh.lt; omega⟩
        replace ls := ls.alloc (.cells #[seqx za, seqx zb] 101)
        replace va := va.alloc (.cells #[seqx za, seqx zb] 101)
        replace vb := vb.alloc (.cells #[seqx za, seqx zb] 101)
        try replace mz := mz.alloc (.cells #[seqx za, seqx zb] 101)
        refine hK.out _ _ ?_ (fun hH => ?_)
        · exact ls.lb
        clear hK K
        first
          | generalize World.alloc _ _ = Wn at ls va vb vg mz hH ⊢
          | generalize World.alloc _ _ = Wn at ls va vb vg hH ⊢
        generalize Wc.heap.size = g0 at vg ng ⊢
        rename World => Wc
        refine rdH 11 rfl (fun K hK => ?_)
        go_simp
        refine (HFROM.out za zb g0 Wc ls va (by rw [← HM.out]; exact vb) vg na nb' ng).mono ?_
        rintro e Wn ⟨N, nn, er, M1, F1, rfl, ls1, hfd, hF1, hk1⟩
        clear va vb vg na nb' ng
        try have hz2 := mz.lt
        try replace mz := mz.kp hk1 (fun e => e.elim nz.2.1 nz.2.2.2)
        try replace nz := (show Own1 w F1 z9 bh z11 from ⟨nz.1, hF1 z11 hz2 nz.2.1, nz.2.2⟩)
        replace ls := ls1
        simp only
        refine hK.out _ _ ?_ (fun hH => ?_)
        · exact ls.lb
        clear hK K ls1 hF1 hk1
        rename World => Wc
        refine tkH ?_ 12 hH ?_ ?_; rotate_left
        · intro W' hS; go_simp; with_reducible rfl
        simp only [tkr]
        refine tkH ?_ 13 hH ?_ ?_; rotate_left
        · intro W' hS; go_simp; with_reducible rfl
        simp only [tkr]
        refine tkH ?_ 14 hH ?_ ?_; rotate_left
        · intro W' hS; go_simp; with_reducible rfl
        simp only [tkr]
        refine rdH 16 rfl (fun K hK => ?_)
        obtain ⟨c0, c1, f0, f1⟩ := mz.all
        go_simp
        clear c0 c1 f0 f1
        have kz : Kp (fun q => q = z11) Wc ((Wc.setCell ⟨z11, 0, none⟩ (.int .i64 N)).setCell ⟨z11, 1, none⟩ (.int .i64 nn)) := ((Kp.refl (fun q => q = z11) Wc).setCell (.inl rfl) _).setCell (.inl rfl) _
        replace ls := ls.kp kz (fun q e => by rw [e]; exact ⟨nz.1, nz.2.1, nz.2.2.2, fun e => nz.2.2.1 e.symm⟩)
        replace mz := (mz.set0 (.int .i64 N)).set1 (.int .i64 nn)
        refine hK.out _ _ ?_ (fun hH => ?_)
        · exact ls.lb
        clear hK K kz
        refine tkH ?_ 17 hH ?_ ?_; rotate_left
        · intro W' hS; go_simp; with_reducible rfl
        simp only [tkr]
        refine wpAnyH_done (by kernel_rfl) ?_ _
        refine NoPanic.normal ?_
        clear l0 l1
        go_wp2_with fail
        go_meet
        exact ⟨z11, N, nn, er, M1, F1, rfl, rfl, mz, ls, hfd, nz⟩
    case rest =>
      obtain ⟨z11, N, nn, er, M', F', rfl, rfl, mz, ls, hfd, nz⟩ := hcut
      clear HFROM LS0
      rcases hfd with ⟨n', rfl, rfl, rfl, hm⟩ | ⟨rfl, rfl, rfl, hlv⟩
      · obtain ⟨L, hL⟩ : ∃ L, L = addAll hs nbool l [] := ⟨_, rfl⟩
        rw [← hL] at mz hm
        have hsr : Srt hs [] := List.Pairwise.nil
        have hlen : L.length ≤ 120 := by have := addAll_len (wb := nbool) l hsr; rw [← hL] at this; have := HR.out.2; simp only [List.length_nil] at *; omega
        have hok : ∀ q ∈ L, OkK q.1 := fun q hq => by
          rw [hL] at hq
          rcases ((addAll_srt (wb := nbool) l hsr).2 q).1 hq with ⟨_, h, _⟩ | ⟨h, _⟩
          · exact HR.out.1 _ h
          · cases h
        have ub : Ub w b bh seed n0 z9 z11 wc.heap.size M' F' L.length n' 0 (wc.alloc (.cells #[.int .i64 0] 3)) := ⟨ls.alloc _, mz.alloc _, C1.new _ _ _⟩
        have hz : Own1 w F' z9 bh wc.heap.size ∧ z11 ≠ wc.heap.size := ⟨ls.fresh, fun e => absurd mz.lt (by rw [e]; exact Nat.lt_irrefl _)⟩
        have S := Lib.hid ub
        have HZ := Lib.hid (And.intro nz hz)
        have HM := Lib.hid (And.intro hm (And.intro hL (And.intro hlen hok)))
        clear mz ls nz hm hL hsr hlen hok ub hz
        go_upto_region 10 with fail
        generalize wc.alloc (.cells #[.int .i64 0] 3) = w9 at S ⊢
        generalize wc.heap.size = z13 at S HZ ⊢
        obtain ⟨x0, x1, _⟩ := S.out.ls.lb.all
        obtain ⟨x2, x3, _⟩ := S.out.mz.all
        go_wp2_with fail
        refine (vValues b bh L.length n' w9).mono ?_
        rintro e w10 ⟨zl, zs, rfl, ql, qm, hl1, hl2, hbn⟩
        have S10 := Lib.hid (S.out.below hbn)
        have HG := Lib.hid (values_gives (b := b) (bh := bh) (most := n0) (root := n') (N := L.length) (M0 := M') (hs := hs) (l := L) zl zs w10 (by have := HM.out.2.2.1; omega) S10.out.ls.ar.zero HM.out.1 ⟨M', F', S10.out.ls.ar, Pres.refl M' n'⟩ ql qm)
        have HB := Lib.hid (show ∀ q, w10.heap.size ≤ q → w.heap.size ≤ q ∧ ¬ F' q ∧ q ≠ bh ∧ q ≠ z9 ∧ q ≠ z11 ∧ q ≠ z13 from fun q hq => by
          have h1 := S10.out.ls.bel.size
          have h2 := S10.out.ls.hh.lt
          have h3 := S10.out.ls.lb.lt
          have h4 := S10.out.mz.lt
          have h5 := S10.out.cz.lt
          exact ⟨by omega, fun hf => by have := S10.out.ls.ar.lt hf; omega, by omega, by omega, by omega, by omega⟩)
        clear ql qm hl1 hl2 hbn x0 x1 x2 x3 S
        go_wp2_with fail
        refine wp_rangeB (encs := fun p : Pr => #[xagg p.1]) (Kp := fun lp => Kw w10.heap.size lp b n0 M' n') (first := #[]) (last := #[.pointer (some ⟨zl, 0, none⟩), .pointer (some ⟨zs, 0, none⟩)]) (f := 115) rfl (fun _ _ => rfl) (fun _ => rfl) HG.out (fun h1 h2 => h1.trans h2) (fun W o o' ho hc => Kw.putObj ho hc)
          (fun i W' => i = 0 ∧ Ub w b bh seed n0 z9 z11 z13 M' F' L.length n' 0 W') (fun c i W' => c = .exit 0 ∧ 1 ≤ L.length ∧ Ub w b bh seed n0 z9 z11 z13 M' F' L.length n' 1 W') (fun W' => Ub w b bh seed n0 z9 z11 z13 M' F' L.length n' (min L.length 1) W')
          (fun i A B row h hg hr => ⟨h.1, h.2.kp (Kp.of_grown hg (F := fun q => row = some q) (fun q e => .inl e)) (fun q e => HB.out q (hr q e).1)⟩) (fun c i A B row h hg hr => ⟨h.1, h.2.1, h.2.2.kp (Kp.of_grown hg (F := fun q => row = some q) (fun q e => .inl e)) (fun q e => HB.out q (hr q e).1)⟩) ⟨rfl, S10.out⟩ (fun A B hb => Kw.below hb) ?_ ?_ ?_ ?_
        · intro lp i x W4 hx hI hsz
          have HX := Lib.hid (show 1 ≤ L.length from by have := (List.getElem?_eq_some_iff.1 hx).1; omega)
          clear hx HG
          gi_wp2
          refine ⟨Below.refl _ W4, fun j W' => j = 0 ∧ Ub w b bh seed n0 z9 z11 z13 M' F' L.length n' 0 W', fun i A B row h hg hr => ⟨h.1, h.2.kp (Kp.of_grown hg (F := fun q => row = some q) (fun q e => .inl e)) (fun q e => HB.out q (hr q e).1)⟩, hI, fun W5 hJ5 hs5 => ?_⟩
          have S5 := Lib.hid hJ5.2
          have x0 : W5.cell? ⟨z13, 0, none⟩ = some (.int .i64 0) := S5.out.cz.c0
          have f0 := S5.out.cz.all.2
          clear hJ5 hI
          gi_wp2
          have kz := Kp.one W5 z13 0 (.int .i64 1)
          have kk := kw_of_kp (n0 := w10.heap.size) (l := w10.heap.size + 1) (root := n') (M0 := M') S5.out.ls.ar kz (fun q e hf => HZ.out.2.1.2.1 (e ▸ hf)) (fun q e => ⟨by have := S10.out.cz.lt; omega, fun o ho => by
            have h1 : W5.heap[z13]? = some _ := S5.out.cz
            rw [← e, ho] at h1
            cases h1
            rfl⟩)
          exact ⟨kk.2.from _, kk.1, rfl, HX.out, S5.out.ls.kp kz (fun q e => by rw [e]; exact ⟨HZ.out.2.1.1, HZ.out.2.1.2.1, HZ.out.2.1.2.2.2, fun e => HZ.out.2.1.2.2.1 e.symm⟩), S5.out.mz.kp kz HZ.out.2.2, S5.out.cz.set _⟩
        · rintro W' ⟨h1, h2⟩
          have h3 : min L.length 1 = 0 := by rw [h1]; rfl
          rw [h3]
          exact h2
        · rintro c i W' ⟨h1, h2, h3⟩
          rw [Nat.min_eq_right h2]
          exact ⟨h1, h3⟩
        · intro D W11 hD hub hdef
          have S11 := Lib.hid (And.intro hub (And.intro hdef hD))
          clear hub hdef hD HG
          go_upto_region 12 with fail
          obtain ⟨t, ht⟩ : ∃ t, t = min L.length 1 := ⟨_, rfl⟩
          rw [← ht] at S11
          have HMIN := Lib.hid (min_one ht)
          have HMIN2 := Lib.hid (show min (1 : Int) (L.length : Int) = (t : Int) from by rw [Int.min_comm]; exact min_one ht)
          clear ht
          have l0 : ∀ W', (C2 W' z9 26 (ap b) (.pointer (some ⟨bh, 0, none⟩)) ∧ C2 W' z11 78 (.int .i64 (L.length : Int)) (.int .i64 (n' : Int)) ∧ C1 W' z13 3 (.int .i64 (t : Int))) → W'.cell? ⟨z9, 0, none⟩ = some (ap b) := fun W' h => h.1.c0
          have l1 : ∀ W', (C2 W' z9 26 (ap b) (.pointer (some ⟨bh, 0, none⟩)) ∧ C2 W' z11 78 (.int .i64 (L.length : Int)) (.int .i64 (n' : Int)) ∧ C1 W' z13 3 (.int .i64 (t : Int))) → W'.cell? ⟨z9, 1, none⟩ = some (.pointer (some ⟨bh, 0, none⟩)) := fun W' h => h.1.c1
          have l2 : ∀ W', (C2 W' z9 26 (ap b) (.pointer (some ⟨bh, 0, none⟩)) ∧ C2 W' z11 78 (.int .i64 (L.length : Int)) (.int .i64 (n' : Int)) ∧ C1 W' z13 3 (.int .i64 (t : Int))) → W'.cell? ⟨z11, 0, none⟩ = some (.int .i64 (L.length : Int)) := fun W' h => h.2.1.c0
          have l3 : ∀ W', (C2 W' z9 26 (ap b) (.pointer (some ⟨bh, 0, none⟩)) ∧ C2 W' z11 78 (.int .i64 (L.length : Int)) (.int .i64 (n' : Int)) ∧ C1 W' z13 3 (.int .i64 (t : Int))) → W'.cell? ⟨z11, 1, none⟩ = some (.int .i64 (n' : Int)) := fun W' h => h.2.1.c1
          have l4 : ∀ W', (C2 W' z9 26 (ap b) (.pointer (some ⟨bh, 0, none⟩)) ∧ C2 W' z11 78 (.int .i64 (L.length : Int)) (.int .i64 (n' : Int)) ∧ C1 W' z13 3 (.int .i64 (t : Int))) → W'.cell? ⟨z13, 0, none⟩ = some (.int .i64 (t : Int)) := fun W' h => h.2.2.c0
          refine wp_region_noPanic ?_
          refine wp_region_held_drew (S := (fun W' => C2 W' z9 26 (ap b) (.pointer (some ⟨bh, 0, none⟩)) ∧ C2 W' z11 78 (.int .i64 (L.length : Int)) (.int .i64 (n' : Int)) ∧ C1 W' z13 3 (.int .i64 (t : Int)))) (by kernel_rfl) ⟨(S11.out.1.below (Below.refl _ _).drew).ls.lb, (S11.out.1.below (Below.refl _ _).drew).mz, (S11.out.1.below (Below.refl _ _).drew).cz⟩ (fun hH => ?_)
          have ub := S11.out.1.below (Below.refl _ W11).drew
          have hde : W11.drew.heap[D]? = some (.deferred (some [])) := S11.out.2.1
          have hbD : bh < D := Nat.lt_of_lt_of_le S10.out.ls.hh.lt S11.out.2.2
          generalize W11.drew = Wc at ub hde hH ⊢
          refine tkH ?_ 0 hH ?_ ?_; rotate_left
          · intro W' hS; go_simp; with_reducible rfl
          simp only [tkr]
          refine tkH ?_ 1 hH ?_ ?_; rotate_left
          · intro W' hS; go_simp; with_reducible rfl
          simp only [tkr]
          refine tkH ?_ 2 hH ?_ ?_; rotate_left
          · intro W' hS; go_simp; with_reducible rfl
          simp only [tkr]
          refine tkH ?_ 3 hH ?_ ?_; rotate_left
          · intro W' hS; go_simp; with_reducible rfl
          simp only [tkr]
          refine tkH ?_ 4 hH ?_ ?_; rotate_left
          · intro W' hS; go_simp; with_reducible rfl
          simp only [tkr]
          refine rdH 5 rfl (fun K hK => ?_)
          go_simp
          refine (llist hs seed HHS.out A l c 60 #[] nbool Wc (HL.out.1.below ub.ls.bel) HR.out.1 (by have := HR.out.2; omega) (fun _ _ => rfl) (fun W k hb hk => lwant k W)).mono ?_
          rintro e Wn ⟨y, rfl, hown, _, hbn⟩
          rw [← HM.out.2.1] at hown
          have hyb : ∀ q, y.ownBlock = some q → q < Wn.heap.size ∧ q ≠ bh := fun q e => ⟨(own_blk hown q e).2, fun e2 => by have := (own_blk hown q e).1; have := ub.ls.hh.lt; omega⟩
          replace ub := ub.below hbn
          replace hde := (hbn.block D (Array.getElem?_eq_some_iff.1 hde).1).trans hde
          clear hbn
          simp only
          refine hK.out _ _ ?_ (fun hH => ?_)
          · exact ⟨ub.ls.lb, ub.mz, ub.cz⟩
          clear hK K
          rename World => Wc
          refine rdH 6 rfl (fun K hK => ?_)
          go_simp
          refine (lsame10 (L := L) y Wc ub.ls.ar ub.ls.ar.zero HM.out.1 ub.ls.hh ub.ls.nb HHS.out HM.out.2.2.2 (by have := HM.out.2.2.1; omega) (Rd.of_own hown) hyb).mono ?_
          rintro e Wn ⟨rfl, hkn, hhn⟩
          replace hde := (hkn.block D (Array.getElem?_eq_some_iff.1 hde).1 (by omega)).trans hde
          replace ub := (⟨ub.ls.hash hkn hhn, ub.mz.kp hkn HZ.out.1.2.2.2, ub.cz.kp hkn HZ.out.2.1.2.2.2⟩ : Ub w b bh seed n0 z9 z11 z13 M' F' L.length n' t Wn)
          clear hkn hhn hown hyb
          simp only
          refine hK.out _ _ ?_ (fun hH => ?_)
          · exact ⟨ub.ls.lb, ub.mz, ub.cz⟩
          clear hK K
          rename World => Wc
          refine tkH ?_ 7 hH ?_ ?_; rotate_left
          · intro W' hS; go_simp; with_reducible rfl
          simp only [tkr]
          refine tkH ?_ 8 hH ?_ ?_; rotate_left
          · intro W' hS; go_simp; with_reducible rfl
          simp only [tkr]
          refine tkH ?_ 9 hH ?_ ?_; rotate_left
          · intro W' hS; go_simp; with_reducible rfl
          simp only [tkr]
          refine tkH ?_ 10 hH ?_ ?_; rotate_left
          · intro W' hS; go_simp; with_reducible rfl
          simp only [tkr]
          refine tkH ?_ 11 hH ?_ ?_; rotate_left
          · intro W' hS; go_simp; with_reducible rfl
          simp only [tkr]
          refine rdH 12 rfl (fun K hK => ?_)
          go_simp
          try rw [HMIN.out]
          try rw [HMIN2.out]
          refine hK.out _ _ ?_ (fun hH => ?_)
          · exact ⟨ub.ls.lb, ub.mz, ub.cz⟩
          clear hK K
          refine tkH ?_ 13 hH ?_ ?_; rotate_left
          · intro W' hS; go_simp; with_reducible rfl
          simp only [tkr]
          refine tkH ?_ 14 hH ?_ ?_; rotate_left
          · intro W' hS; go_simp; with_reducible rfl
          simp only [tkr]
          refine tkH ?_ 15 hH ?_ ?_; rotate_left
          · intro W' hS; go_simp; with_reducible rfl
          simp only [tkr]
          refine wpAnyH_done (by kernel_rfl) ?_ _
          refine NoPanic.normal ?_
          clear l0 l1 l2 l3 l4
          have BEL := Lib.hid (And.intro ub.ls.bel hde)
          clear ub hde
          go_wp2_with fail
          refine ⟨by simp, .inl ⟨_, _, rfl, run_takeDeferred BEL.out.2, ?_⟩⟩
          exact ⟨.bool true, by simp [results, Tryz.results9, go_sem], rfl, below_kp BEL.out.1 (kp_putObj (x := D)) (fun q e => by rw [e]; exact Nat.le_trans S10.out.ls.bel.size S11.out.2.2)⟩
      · have HV := Lib.hid (alive b n0 M' F' wc ls.ar)
        rw [hlv] at HV
        have S := Lib.hid ls
        obtain ⟨x0, x1, _⟩ := S.out.lb.all
        obtain ⟨x2, x3, _⟩ := mz.all
        clear mz ls nz
        go_wp2_with fail
        refine HV.out.mono ?_
        rintro e w9 ⟨rfl, rfl⟩
        go_wp2_with fail
        exact ⟨.bool true, by simp [results, Tryz.results9, go_sem], rfl, S.out.bel⟩
end
end Go.Proofs.YtfiledbjbpkleaaGreat
