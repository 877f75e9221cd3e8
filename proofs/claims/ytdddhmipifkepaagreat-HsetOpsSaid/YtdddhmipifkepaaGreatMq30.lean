/- Several texts in one. -/
import Derived.Test.YtdddhmipifkepaaGreatMq29
import Derived.Lib.AppendZerosOnto
import Derived.Test.YtdddhmipifkepaaGreatMq27
import Derived.Test.YtdddhmipifkepaaGreatMq24
namespace Go.Proofs.YtdddhmipifkepaaGreat
set_option maxRecDepth 100000
section
variable {hs : Ky → Nat}
theorem key_addAll {wb : Ky → Bool} (l : List Ky) (k : Ky) : k ∈ (addAll hs wb l []).map Prod.fst ↔ k ∈ l ∧ wb k = true := by
  have h := (addAll_srt (hs := hs) (wb := wb) l (L := []) List.Pairwise.nil).2
  rw [List.mem_map]
  constructor
  · rintro ⟨q, hq, rfl⟩
    rcases (h q).1 hq with ⟨_, h1, h2⟩ | ⟨h1, _⟩
    · exact ⟨h1, h2⟩
    · cases h1
  · rintro ⟨h1, h2⟩
    exact ⟨(k, noV), (h _).2 (.inl ⟨rfl, h1, h2⟩), rfl⟩
def inB (k : Ky) (m : List Ky) : Bool := hasB k (m.map (fun x => (x, noV)))
theorem inB_iff {k : Ky} {m : List Ky} : inB k m = true ↔ k ∈ m := by
  unfold inB
  rw [hasB_iff]
  constructor
  · rintro ⟨q, hq, rfl⟩
    obtain ⟨x, hx, rfl⟩ := List.mem_map.1 hq
    exact hx
  · exact fun h => ⟨_, List.mem_map.2 ⟨k, h, rfl⟩, rfl⟩
theorem has_addAll (m : List Ky) (k : Ky) : hasB k (addAll hs (fun _ => true) m []) = inB k m := by
  have h := key_addAll (hs := hs) (wb := fun _ => true) m k
  rw [Bool.eq_iff_iff, hasB_iff, inB_iff]
  rw [List.mem_map] at h
  exact h.trans (by simp)
theorem addAll_ext {wa wb : Ky → Bool} (ks ms : List Ky) (h : ∀ k, (k ∈ ks ∧ wa k = true) ↔ (k ∈ ms ∧ wb k = true)) : addAll hs wa ks [] = addAll hs wb ms [] := by
  have h0 : Srt hs [] := List.Pairwise.nil
  obtain ⟨a1, a2⟩ := addAll_srt (wb := wa) ks h0
  obtain ⟨b1, b2⟩ := addAll_srt (wb := wb) ms h0
  refine Srt.ext a1 b1 (fun q => ?_)
  rw [a2 q, b2 q]
  simp only [List.not_mem_nil, false_and, or_false]
  exact and_congr_right (fun _ => h q.1)
theorem or_doc (l m : List Ky) : addAll hs (fun _ => true) ((addAll hs (fun _ => true) l []).map Prod.fst ++ (addAll hs (fun _ => true) m []).map Prod.fst) [] = addAll hs (fun _ => true) (l ++ m) [] :=
  addAll_ext _ _ (fun k => by rw [List.mem_append, List.mem_append, key_addAll, key_addAll]; simp)
theorem and_doc (l m : List Ky) : addAll hs (fun k => hasB k (addAll hs (fun _ => true) m [])) ((addAll hs (fun _ => true) l []).map Prod.fst) [] = addAll hs (fun k => inB k m) l [] :=
  addAll_ext _ _ (fun k => by rw [key_addAll, has_addAll]; simp)
theorem minus_doc (l m : List Ky) : addAll hs (fun k => !hasB k (addAll hs (fun _ => true) m [])) ((addAll hs (fun _ => true) l []).map Prod.fst) [] = addAll hs (fun k => !inB k m) l [] :=
  addAll_ext _ _ (fun k => by rw [key_addAll, has_addAll]; simp)
end
end Go.Proofs.YtdddhmipifkepaaGreat

namespace Go.Proofs.YtdddhmipifkepaaGreat
set_option maxRecDepth 100000
set_option linter.unusedSimpArgs false
set_option linter.unusedVariables false
open Go.RowKit Go.Shelf
theorem ix_on {l : List Ky} {j : Nat} {k x : Ky} (h : ∀ i y, i < j → l[i]? = some y → y ≠ k) (hx : l[j]? = some x) (hn : x ≠ k) : Hid (∀ i y, i < j + 1 → l[i]? = some y → y ≠ k) :=
  Lib.hid (fun i y hi hy => by
    rcases Nat.lt_succ_iff_lt_or_eq.1 hi with h1 | rfl
    · exact h i y h1 hy
    · rw [hx] at hy
      rw [← Option.some.inj hy]
      exact hn)
section
set_option maxHeartbeats 4000000 in
theorem vIndex (A : Option Addr) (l : List Ky) (c : Nat) (k : Ky) (w : World) (hL : Lst w A l) (hl : l.length ≤ 1000000) :
    Calls Tryz.prog 38 #[.slice A l.length c, xagg k] w fun e w' => ∃ z : Int, e = .returned (.int .i64 z) ∧ ((∃ i : Nat, z = (i : Int) ∧ l[i]? = some k) ∨ (z = -1 ∧ k ∉ l)) ∧ Below w.heap.size w w' := by
  obtain ⟨W0, hW0⟩ : ∃ W0, W0 = w.alloc (.cells #[.int .u8 k.1, .int .i64 k.2.1, .string k.2.2] 36) := ⟨_, rfl⟩
  have hb0 : Below w.heap.size w W0 := by rw [hW0]; exact (Below.refl _ w).alloc (Nat.le_refl _) _
  have q3 : C3 W0 w.heap.size 36 (.int .u8 k.1) (.int .i64 k.2.1) (.string k.2.2) := by rw [hW0]; exact C3.new w _ _ _ _
  have HW0 := Lib.hid hW0
  have HB0 := Lib.hid hb0
  have HQ := Lib.hid (And.intro q3 (And.intro (hL.below hb0) hl))
  clear hL hW0 hb0 q3 hl
  go_enter Tryz.func38, Tryz.ntmps38
  go_upto_region 1 with fail
  rw [← HW0.out]
  clear HW0
  go_wp2_with fail
  go_loopw [5, 8] (fun _ s8 wr => ∃ j q : Nat, s8 = .int .i64 (j : Int) ∧ j ≤ l.length ∧ Hid (∀ i x, i < j → l[i]? = some x → x ≠ k) ∧ wr = W0.drewN q) (fun _ s8 _ => l.length - (intOf s8).toNat)
  case atStart => exact ⟨0, 0, rfl, Nat.zero_le _, fun i p hi => by omega, rfl⟩
  case round =>
    obtain ⟨j, q, rfl, hj, HA, rfl⟩ := hrel
    by_cases hjl : j < l.length
    · have hlt : (j : Int) < (l.length : Int) := by omega
      have hj0 : (0 : Int) ≤ (j : Int) := by omega
      obtain ⟨p, hp⟩ : ∃ p, l[j]? = some p := ⟨_, List.getElem?_eq_getElem hjl⟩
      obtain ⟨g, o, rfl, hg, k0, k1, k2⟩ := HQ.out.2.1.at hp
      obtain ⟨a0, a1, a2, _⟩ := HQ.out.1.all
      obtain ⟨pk, pn, ps⟩ := p
      obtain ⟨kk, kn, ks⟩ := k
      simp only at k0 k1 k2 a0 a1 a2 ⊢
      have HP := Lib.hid hp
      have hw2 : wrap64 ((j : Int) + 1) = ((j + 1 : Nat) : Int) := by rw [IntWalk.wrap64_in _ (by have := HQ.out.2.2; omega)]; rfl
      have HX := Lib.hid (And.intro hjl hw2)
      clear hp hw2 hg
      by_cases e0 : pk = kk
      · by_cases e1 : pn = kn
        · by_cases e2 : ps = ks
          · subst e0 e1 e2
            go_wp2_with fail
            go_quiet (fail)
            go_wp2_with fail
            go_ret
            have hb1 := HB0.out.trans ((below_drewN W0 q).mono HB0.out.size)
            exact ⟨_, rfl, .inl ⟨j, rfl, HP.out⟩, hb1.trans ((below_drewN _ nq).mono hb1.size)⟩
          · have e3 : ¬ ps.toList = ks.toList := fun h => e2 (bytes_ext h)
            have e4 : ¬ ks.toList = ps.toList := fun h => e3 h.symm
            subst e0 e1
            go_wp2_with fail
            go_quiet (fail)
            go_wp2_with fail
            go_roundw
            case rel => exact ⟨j + 1, q + nq, by rw [HX.out.2], by have := HX.out.1; omega, ix_on HA.out HP.out (fun e => e2 (congrArg (fun x : Ky => x.2.2) e)), rfl⟩
            case measure => rw [HX.out.2]; have := HX.out.1; simp [intOf]; omega
        · have e4 : ¬ kn = pn := fun h => e1 h.symm
          subst e0
          go_wp2_with fail
          go_quiet (fail)
          go_wp2_with fail
          go_roundw
          case rel => exact ⟨j + 1, q + nq, by rw [HX.out.2], by have := HX.out.1; omega, ix_on HA.out HP.out (fun e => e1 (congrArg (fun x : Ky => x.2.1) e)), rfl⟩
          case measure => rw [HX.out.2]; have := HX.out.1; simp [intOf]; omega
      · have e4 : ¬ kk = pk := fun h => e0 h.symm
        go_wp2_with fail
        go_quiet (fail)
        go_wp2_with fail
        go_roundw
        case rel => exact ⟨j + 1, q + nq, by rw [HX.out.2], by have := HX.out.1; omega, ix_on HA.out HP.out (fun e => e0 (congrArg (fun x : Ky => x.1) e)), rfl⟩
        case measure => rw [HX.out.2]; have := HX.out.1; simp [intOf]; omega
    · obtain rfl : j = l.length := by omega
      go_wp2_with fail
      go_ret
      refine ⟨_, rfl, .inr ⟨rfl, fun hm => ?_⟩, HB0.out.trans ((below_drewN W0 _).mono HB0.out.size)⟩
      obtain ⟨i, hi⟩ := List.getElem?_of_mem hm
      exact HA.out i k (List.getElem?_eq_some_iff.1 hi).1 hi rfl
theorem vContains (A : Option Addr) (l : List Ky) (c : Nat) (k : Ky) (w : World) (hL : Lst w A l) (hl : l.length ≤ 1000000) :
    Calls Tryz.prog 30 #[.slice A l.length c, xagg k] w fun e w' => e = .returned (.bool (inB k l)) ∧ Below w.heap.size w w' := by
  have hb : Below w.heap.size w (w.alloc (.cells #[.int .u8 k.1, .int .i64 k.2.1, .string k.2.2] 36)) := (Below.refl _ w).alloc (Nat.le_refl _) _
  have q3 := C3.new w 36 (.int .u8 k.1) (.int .i64 k.2.1) (.string k.2.2)
  have HI := Lib.hid (vIndex A l c k _ (hL.below hb) hl)
  have HB := Lib.hid hb
  clear hL hl hb
  go_enter Tryz.func30, Tryz.ntmps30
  go_upto_region 1 with fail
  generalize w.alloc (.cells #[.int .u8 k.1, .int .i64 k.2.1, .string k.2.2] 36) = W1 at q3 HI HB ⊢
  obtain ⟨a0, a1, a2, _⟩ := q3.all
  clear q3
  go_wp2_with fail
  refine HI.out.mono ?_
  rintro e w2 ⟨z, rfl, hz, hb2⟩
  have B2 := Lib.hid (HB.out.trans (hb2.mono HB.out.size))
  clear hb2 a0 a1 a2
  rcases hz with ⟨i, rfl, hi⟩ | ⟨rfl, hn⟩
  · have e1 : inB k l = true := inB_iff.2 (List.mem_of_getElem? hi)
    have hi0 : (0 : Int) ≤ (i : Int) := by omega
    go_wp2_with fail
    go_ret
    exact ⟨ret_bool e1.symm, B2.out⟩
  · have e1 : inB k l = false := by rw [Bool.eq_false_iff]; exact fun h => hn (inB_iff.1 h)
    go_wp2_with fail
    go_ret
    exact ⟨ret_bool e1.symm, B2.out⟩
end
end Go.Proofs.YtdddhmipifkepaaGreat

namespace Go.Proofs.YtdddhmipifkepaaGreat
set_option maxRecDepth 100000
set_option linter.unusedSimpArgs false
set_option linter.unusedVariables false
open Go.RowKit Go.Shelf
section
theorem lany (k : Ky) (w : World) : Calls Tryz.prog 28 #[xagg k] w fun e w' => e = .returned (.bool true) ∧ Below w.heap.size w w' := by
  have HB := Lib.hid (show Below w.heap.size w (w.alloc (.cells #[.int .u8 k.1, .int .i64 k.2.1, .string k.2.2] 36)) from (Below.refl _ w).alloc (Nat.le_refl _) _)
  go_enter Tryz.func28, Tryz.ntmps28
  go_wp2_with fail
  go_ret
  exact ⟨rfl, HB.out⟩
theorem lin (A : Option Addr) (m : List Ky) (c z5 : Nat) (k : Ky) (w : World) (hm : Lst w A m) (hl : m.length ≤ 1000000) (h5 : C1 w z5 50 (.slice A m.length c)) :
    Calls Tryz.prog 29 #[xagg k, .pointer (some ⟨z5, 0, none⟩)] w fun e w' => e = .returned (.bool (inB k m)) ∧ Below w.heap.size w w' := by
  have hb : Below w.heap.size w (w.alloc (.cells #[.int .u8 k.1, .int .i64 k.2.1, .string k.2.2] 36)) := (Below.refl _ w).alloc (Nat.le_refl _) _
  have q3 := C3.new w 36 (.int .u8 k.1) (.int .i64 k.2.1) (.string k.2.2)
  have q5 := h5.below hb
  have HC := Lib.hid (vContains A m c k _ (hm.below hb) hl)
  have HB := Lib.hid hb
  clear hm hl h5 hb
  go_enter Tryz.func29, Tryz.ntmps29
  go_upto_region 1 with fail
  generalize w.alloc (.cells #[.int .u8 k.1, .int .i64 k.2.1, .string k.2.2] 36) = W1 at q3 q5 HC HB ⊢
  obtain ⟨a0, a1, a2, _⟩ := q3.all
  have a5 := q5.c0
  clear q3 q5
  go_wp2_with fail
  refine HC.out.mono ?_
  rintro e w2 ⟨rfl, hb2⟩
  have B2 := Lib.hid (HB.out.trans (hb2.mono HB.out.size))
  clear hb2 a0 a1 a2 a5
  go_wp2_with fail
  go_ret
  exact ⟨rfl, B2.out⟩
theorem lout (A : Option Addr) (m : List Ky) (c z5 : Nat) (k : Ky) (w : World) (hm : Lst w A m) (hl : m.length ≤ 1000000) (h5 : C1 w z5 50 (.slice A m.length c)) :
    Calls Tryz.prog 31 #[xagg k, .pointer (some ⟨z5, 0, none⟩)] w fun e w' => e = .returned (.bool (!inB k m)) ∧ Below w.heap.size w w' := by
  have hb : Below w.heap.size w (w.alloc (.cells #[.int .u8 k.1, .int .i64 k.2.1, .string k.2.2] 36)) := (Below.refl _ w).alloc (Nat.le_refl _) _
  have q3 := C3.new w 36 (.int .u8 k.1) (.int .i64 k.2.1) (.string k.2.2)
  have q5 := h5.below hb
  have HC := Lib.hid (vContains A m c k _ (hm.below hb) hl)
  have HB := Lib.hid hb
  clear hm hl h5 hb
  go_enter Tryz.func31, Tryz.ntmps31
  go_upto_region 1 with fail
  generalize w.alloc (.cells #[.int .u8 k.1, .int .i64 k.2.1, .string k.2.2] 36) = W1 at q3 q5 HC HB ⊢
  obtain ⟨a0, a1, a2, _⟩ := q3.all
  have a5 := q5.c0
  clear q3 q5
  go_wp2_with fail
  refine HC.out.mono ?_
  rintro e w2 ⟨rfl, hb2⟩
  have B2 := Lib.hid (HB.out.trans (hb2.mono HB.out.size))
  clear hb2 a0 a1 a2 a5
  go_wp2_with fail
  go_ret
  exact ⟨rfl, B2.out⟩
end
end Go.Proofs.YtdddhmipifkepaaGreat

namespace Go.Proofs.YtdddhmipifkepaaGreat
open Go.RowKit

theorem zeroCells_len (z : Array Value) : ∀ n, (Builtin.zeroCells z n).size = n * z.size := by
  intro n
  simp [Builtin.zeroCells]
set_option maxRecDepth 100000 in
set_option maxHeartbeats 800000 in
theorem vgrow (n : Nat) (hn : n ≤ 100000) (w : World) : Calls Tryz.prog 106 #[.slice none 0 0, .int .i64 n] w fun e w' => ∃ v, e = .returned v ∧ w'.ownsRow w.heap.size 36 3 v 0 [] ∧ Below w.heap.size w w' := by
  obtain ⟨i0, hi, hz0, hz1, hz2⟩ := info_parts vinfo
  by_cases h0 : n = 0
  · subst h0
    go_enter Tryz.func106, Tryz.ntmps106
    go_wp2_with fail
    go_ret
    exact ⟨_, rfl, World.ownsRow_nil _ _ _ _, Below.refl _ _⟩
  · have hp : ¬ (n : Int) ≤ 0 := by omega
    have h1 : (0 : Int) < (n : Int) := by omega
    have hrz : ∀ ty, (Builtin.append_ #[50, 3] ty #[.slice none 0 0, .int .i64 n]).run Tryz.prog w =
        .ok (.slice (some ⟨w.heap.size, 0, none⟩) n (grownCap w n 0 36)) (w.drew.alloc (.cells (Builtin.zeroCells (Value.agg #[.int .u8 0, .int .i64 0, .string ⟨#[]⟩]).cells n ++ Builtin.zeroCells (Value.agg #[.int .u8 0, .int .i64 0, .string ⟨#[]⟩]).cells (grownCap w n 0 36 - n)) 36)) := fun ty =>
      Lib.run_append_nil_zeros w 50 3 ty 36 i0 _ .i64 .i64 Tryz.underlying50 Tryz.underlying3 hi hz0 n (by omega) (by rw [hz1]; decide) (by omega) (by rw [hz2]; omega)
    have hG := grownCap_ge w n 0 36
    have hG2 := grownCap_le_maxLen w n 0 36 (by unfold maxLen; omega)
    obtain ⟨G, hGG⟩ : ∃ G, G = grownCap w n 0 36 := ⟨_, rfl⟩
    rw [← hGG] at hrz hG hG2
    have hG63 : G ≤ 9223372036854775807 := by unfold maxLen at hG2; omega
    obtain ⟨cs, hcs⟩ : ∃ cs, cs = Builtin.zeroCells (Value.agg #[.int .u8 0, .int .i64 0, .string ⟨#[]⟩]).cells n ++ Builtin.zeroCells (Value.agg #[.int .u8 0, .int .i64 0, .string ⟨#[]⟩]).cells (G - n) := ⟨_, rfl⟩
    have hsz : cs.size = G * 3 := by
      rw [hcs, Array.size_append, zeroCells_len, zeroCells_len]
      have e : (Value.agg #[.int .u8 0, .int .i64 0, .string ⟨#[]⟩]).cells.size = 3 := rfl
      rw [e]
      omega
    rw [← hcs] at hrz
    have hown : (w.drew.alloc (.cells cs 36)).ownsRow w.heap.size 36 3 (.slice (some ⟨w.heap.size, 0, none⟩) 0 G) 0 [] := ⟨rfl, .inr ⟨w.heap.size, G, cs, rfl, Nat.le_refl _, heap_alloc_new w.drew _, Nat.zero_le _, hG2, hsz, by simp⟩⟩
    have HO := Lib.hid hown
    have HB := Lib.hid (show Below w.heap.size w (w.drew.alloc (.cells cs 36)) from ((Below.refl _ w).drew).alloc (Nat.le_refl _) _)
    clear hcs hsz hown hGG hG2
    go_enter Tryz.func106, Tryz.ntmps106
    go_wp2_with (at_builtin; refine Lib.wpList_append_run _ rfl _ _ _ _ rfl _ _ rfl rfl _ _ (hrz _) ?_)
    go_ret
    exact ⟨_, rfl, HO.out, HB.out⟩

end Go.Proofs.YtdddhmipifkepaaGreat

namespace Go.Proofs.YtdddhmipifkepaaGreat
open Go.RowKit
def Rg (w : World) (v : Value) (n : Nat) (xs : List Value) : Prop :=
  (v = .slice none 0 0 ∧ n = 0 ∧ xs = []) ∨ ∃ (a : Addr) (c : Nat), v = .slice (some a) n c ∧ ∀ j u, xs[j]? = some u → w.cell? (a.add j) = some u
theorem Rg.below {w w' : World} {v : Value} {n : Nat} {xs : List Value} (h : Rg w v n xs) (hb : Below w.heap.size w w') : Rg w' v n xs := by
  rcases h with h | ⟨a, c, e, hc⟩
  · exact .inl h
  · exact .inr ⟨a, c, e, fun j u hu => (hb.cell (p := a.add j) (World.block_lt_of_cell? w _ (hc j u hu))).trans (hc j u hu)⟩
theorem Lst.rg {w : World} {A : Option Addr} {l : List Ky} {c : Nat} (h : Lst w A l) (hA : A = none → c = 0) : Rg w (.slice A l.length c) l.length (l.flatMap cells3) := by
  rcases h with rfl | ⟨b, o, rfl, hb, hc⟩
  · cases A with
    | none => exact .inl ⟨by rw [hA rfl]; rfl, rfl, rfl⟩
    | some a => exact .inr ⟨a, c, rfl, fun j u hu => by simp at hu⟩
  · refine .inr ⟨_, c, rfl, fun j u hu => ?_⟩
    have hj : j < l.length * 3 := by rw [← flat_len l]; exact (List.getElem?_eq_some_iff.1 hu).1
    obtain ⟨x, hx⟩ : ∃ x, l[j / 3]? = some x := ⟨_, List.getElem?_eq_getElem (by omega)⟩
    have h1 := flat_get l (j / 3) x hx (j % 3) (by omega)
    have e : j / 3 * 3 + j % 3 = j := by omega
    rw [e, hu] at h1
    obtain ⟨c0, c1, c2⟩ := hc _ _ hx
    rw [add_none]
    have h3 : j % 3 = 0 ∨ j % 3 = 1 ∨ j % 3 = 2 := by omega
    rcases h3 with h3 | h3 | h3
    · rw [h3] at h1
      have e1 : u = .int .u8 x.1 := by simpa [cells3] using h1
      rw [e1, show o + j = o + j / 3 * 3 from by omega]
      exact c0
    · rw [h3] at h1
      have e1 : u = .int .i64 x.2.1 := by simpa [cells3] using h1
      rw [e1, show o + j = o + j / 3 * 3 + 1 from by omega]
      exact c1
    · rw [h3] at h1
      have e1 : u = .string x.2.2 := by simpa [cells3] using h1
      rw [e1, show o + j = o + j / 3 * 3 + 2 from by omega]
      exact c2
section
variable {P : Program} {w : World}
theorem run_append_rg (B : Nat) (t ty e : TypeId) (i : TypeInfo) (z : Value) (size bytes : Nat) (ht : P.underlying t = some (.slice e)) (hi : P.info? e = some i) (hz : i.zero = some z) (hsize : i.size = size) (hby : i.bytes = bytes)
    (hzs : z.cells.size = size) (hsz : 0 < size) (v : Value) (n : Nat) (xs : List Value) (hown : w.ownsRow B e size v n xs) (y : Value) (m : Nat) (ys : List Value) (hy : Rg w y m ys) (hl : ys.length = m * size) (h1 : ∀ u ∈ ys, u.oneCell' = true)
    (h63 : n + m ≤ maxLen) (hbytes : (n + m) * bytes ≤ 140737488355328) (hB : B ≤ w.heap.size) :
    ∃ v' w', (Builtin.append_ #[t, t] ty #[v, y]).run P w = .ok v' w' ∧ w'.ownsRow B e size v' (n + m) (xs ++ ys) ∧ w.grownBy w' v.ownBlock ∧ (v'.ownBlock = v.ownBlock ∨ v'.ownBlock = some w.heap.size) := by
  rcases hy with ⟨rfl, rfl, rfl⟩ | ⟨a, c, rfl, hc⟩
  · exact ⟨v, w, run_append_owned_none w B t ty e i size ht hi v _ _ hown, by simpa using hown, ⟨rfl, rfl, rfl, Nat.le_refl _, fun _ _ _ => rfl⟩, .inl rfl⟩
  · obtain ⟨v', w', hr, ho, hg, _, hat⟩ := run_append_own_at (P := P) w B t ty e i z size bytes ht hi hz hsize hby hzs hsz v n xs hown a m c ys hl hc h1 h63 hbytes hB
    exact ⟨v', w', hr, ho, hg, hat⟩
theorem wpList_append_rg {ops : Array Oper} {rest : List Oper} {o : Oper} {a : Act} {Q : Exit → Act → World → Prop} (hgd : o.guard = none) (s x : Operand) (t : TypeId)
    (ho : o.op = .call { callee := .builtin .append, args := #[s, x], argTypes := #[t, t] })
    (B : Nat) (e : TypeId) (i : TypeInfo) (z : Value) (size bytes : Nat) (ht : P.underlying t = some (.slice e)) (hi : P.info? e = some i) (hz : i.zero = some z) (hsize : i.size = size) (hby : i.bytes = bytes) (hzs : z.cells.size = size) (hsz : 0 < size)
    (v : Value) (n : Nat) (xs : List Value) (hs : a.eval s = v) (hown : w.ownsRow B e size v n xs) (y : Value) (m : Nat) (ys : List Value) (hx : a.eval x = y) (hy : Rg w y m ys) (hl : ys.length = m * size) (h1 : ∀ u ∈ ys, u.oneCell' = true)
    (h63 : n + m ≤ maxLen) (hbytes : (n + m) * bytes ≤ 140737488355328) (hB : B ≤ w.heap.size)
    (h : ∀ v' w', w'.ownsRow B e size v' (n + m) (xs ++ ys) → w.grownBy w' v.ownBlock → (v'.ownBlock = v.ownBlock ∨ v'.ownBlock = some w.heap.size) → wpList P ops Q rest (a.put o.dst v') w') : wpList P ops Q (o :: rest) a w :=
  wpList_plain hgd fun _ hK => by
    obtain ⟨v', w', hrun, h2, h3, h4⟩ := run_append_rg (P := P) (w := w) B t o.type e i z size bytes ht hi hz hsize hby hzs hsz v n xs hown y m ys hy hl h1 h63 hbytes hB
    unfold Oper.wp execOp
    simp only [ho, resolve, invoke, builtin, Sem.run_bind, Sem.run_pure, Result.andThen_ok, List.map_toArray, List.map_cons, List.map_nil, hs, hx, hrun]
    exact hK _ _ (h v' w' h2 h3 h4)
end
end Go.Proofs.YtdddhmipifkepaaGreat

namespace Go.Proofs.YtdddhmipifkepaaGreat
open Go.RowKit

def upTo (a b j : Nat) : Nat := if j = 0 then 0 else if j = 1 then a else a + b
def upL (a b : Vs) (j : Nat) : Vs := if j = 0 then [] else if j = 1 then a else a ++ b
structure Ct (w wr : World) (x : Value) (n : Nat) (xs : Vs) : Prop where
  bel : Below w.heap.size w wr
  own : wr.ownsRow w.heap.size 36 3 x n (xs.flatMap cells3)
set_option maxRecDepth 100000 in
set_option maxHeartbeats 1600000 in
theorem vconcat (g : Nat) (A1 A2 : Option Addr) (c1 c2 : Nat) (l1 l2 : Vs) (w : World) (hg0 : w.cell? ⟨g, 0, none⟩ = some (.slice A1 l1.length c1)) (hg1 : w.cell? ⟨g, 1, none⟩ = some (.slice A2 l2.length c2))
    (h1 : Rg w (.slice A1 l1.length c1) l1.length (l1.flatMap cells3)) (h2 : Rg w (.slice A2 l2.length c2) l2.length (l2.flatMap cells3)) (hl1 : l1.length ≤ 10000) (hl2 : l2.length ≤ 10000) :
    Calls Tryz.prog 34 #[.slice (some ⟨g, 0, none⟩) 2 2] w fun e w' => ∃ x, e = .returned x ∧ w'.ownsRow w.heap.size 36 3 x (l1 ++ l2).length ((l1 ++ l2).flatMap cells3) ∧ Below w.heap.size w w' := by
  obtain ⟨i1, hi1, hy0, hy1, hy2⟩ := info_parts vinfo
  have H1 := Lib.hid h1
  have H2 := Lib.hid h2
  have hgl : g < w.heap.size := World.block_lt_of_cell? w _ hg0
  have HG0 := Lib.hid hg0
  have HG1 := Lib.hid hg1
  clear h1 h2 hg0 hg1
  go_enter Tryz.func34, Tryz.ntmps34
  go_wp2_with fail
  go_loopg [3, 11] 2 (fun c' s i wr => ∃ j : Nat, j + c' = 2 ∧ i = .int .i64 j ∧ s = .int .i64 (upTo l1.length l2.length j : Nat) ∧ w = wr)
  case atStart => exact ⟨0, by omega, rfl, rfl, rfl⟩
  case round =>
    obtain ⟨j, hj, rfl, rfl, rfl⟩ := hrel
    have e0 : upTo l1.length l2.length 0 = 0 := rfl
    have e1 : upTo l1.length l2.length 1 = l1.length := rfl
    have e2 : upTo l1.length l2.length 2 = l1.length + l2.length := rfl
    obtain rfl | rfl | rfl : j = 0 ∨ j = 1 ∨ j = 2 := by omega
    · rw [e0]
      have x0 := HG0.out
      go_wp2_with fail
      go_roundg 1
      case measure => omega
      case rel => exact ⟨1, rfl, rfl, by rw [e1], rfl⟩
    · rw [e1]
      have x0 := HG1.out
      go_wp2_with fail
      go_roundg 0
      case measure => omega
      case rel => exact ⟨2, rfl, rfl, by rw [e2]; rfl, rfl⟩
    · rw [e2]
      clear e0 e1 e2 hj
      obtain ⟨n, hn⟩ : ∃ n, n = l1.length + l2.length := ⟨_, rfl⟩
      rw [← hn]
      have hn2 : n ≤ 100000 := by omega
      clear hn
      go_wp2_with fail
      refine (vgrow n hn2 w).mono ?_
      rintro e w2 ⟨x, rfl, ho, hb⟩
      obtain ⟨A3, m3, rfl, _⟩ := (Rd.of_own ho).form
      have HC := Lib.hid (Ct.mk (xs := []) hb ho)
      clear ho hb
      go_wp2_with fail
      go_loopg [6, 27] 2 (fun c' s i wq => ∃ j : Nat, j + c' = 2 ∧ i = .int .i64 j ∧ Ct w wq s (upTo l1.length l2.length j) (upL l1 l2 j))
      case atStart => exact ⟨0, by omega, rfl, HC.out⟩
      case round =>
        obtain ⟨j, hj, rfl, hC⟩ := hrel
        have HC2 := Lib.hid hC
        obtain ⟨A4, m4, rfl, _⟩ := (Rd.of_own hC.own).form
        clear hC HC
        have e0 : upTo l1.length l2.length 0 = 0 := rfl
        have e1 : upTo l1.length l2.length 1 = l1.length := rfl
        have e2 : upTo l1.length l2.length 2 = l1.length + l2.length := rfl
        have hs := HC2.out.bel.size
        obtain rfl | rfl | rfl : j = 0 ∨ j = 1 ∨ j = 2 := by omega
        · rw [e0] at HC2 ⊢
          have x0 := (HC2.out.bel.cell (p := ⟨g, 0, none⟩) hgl).trans HG0.out
          go_wp2_with (at_builtin; refine wpList_append_rg rfl _ _ 50 rfl w.heap.size 36 i1 _ 3 32 Tryz.underlying50 hi1 hy0 hy1 hy2 rfl (by decide) (.slice A4 0 m4) 0 ((upL l1 l2 0).flatMap cells3) rfl ?k0 (.slice A1 l1.length c1) l1.length (l1.flatMap cells3) rfl ?k1 (flat_len l1) (flat_one l1) ?k2 ?k3 ?k4 ?_)
          case k0 => exact HC2.out.own
          case k1 => exact H1.out.below HC2.out.bel
          case k2 => unfold maxLen; omega
          case k3 => omega
          case k4 => exact hs
          intro v' w' hown hgr hat
          obtain ⟨A5, m5, rfl, _⟩ := (Rd.of_own hown).form
          have HC3 := Lib.hid (show Ct w w' (.slice A5 l1.length m5) (upTo l1.length l2.length 1) (upL l1 l2 1) from ⟨HC2.out.bel.grown hgr hs (fun q e => (HC2.out.own.lt q e).1), by rw [e1, show upL l1 l2 1 = l1 from rfl]; have := hown; rw [show (upL l1 l2 0).flatMap cells3 = [] from rfl, List.nil_append] at this; simpa using this⟩)
          clear hown hgr hat HC2
          go_wp2_with fail
          go_roundg 1
          case measure => omega
          case rel => exact ⟨1, rfl, rfl, HC3.out⟩
        · rw [e1] at HC2 ⊢
          have x0 := (HC2.out.bel.cell (p := ⟨g, 1, none⟩) hgl).trans HG1.out
          go_wp2_with (at_builtin; refine wpList_append_rg rfl _ _ 50 rfl w.heap.size 36 i1 _ 3 32 Tryz.underlying50 hi1 hy0 hy1 hy2 rfl (by decide) (.slice A4 l1.length m4) l1.length ((upL l1 l2 1).flatMap cells3) rfl ?k0 (.slice A2 l2.length c2) l2.length (l2.flatMap cells3) rfl ?k1 (flat_len l2) (flat_one l2) ?k2 ?k3 ?k4 ?_)
          case k0 => exact HC2.out.own
          case k1 => exact H2.out.below HC2.out.bel
          case k2 => unfold maxLen; omega
          case k3 => omega
          case k4 => exact hs
          intro v' w' hown hgr hat
          obtain ⟨A5, m5, rfl, _⟩ := (Rd.of_own hown).form
          have HC3 := Lib.hid (show Ct w w' (.slice A5 (l1.length + l2.length) m5) (upTo l1.length l2.length 2) (upL l1 l2 2) from ⟨HC2.out.bel.grown hgr hs (fun q e => (HC2.out.own.lt q e).1), by rw [e2, show upL l1 l2 2 = l1 ++ l2 from rfl, List.flatMap_append]; exact hown⟩)
          clear hown hgr hat HC2
          go_wp2_with fail
          go_roundg 0
          case measure => omega
          case rel => exact ⟨2, rfl, rfl, HC3.out⟩
        · rw [e2] at HC2 ⊢
          have HE := Lib.hid (show wr.ownsRow w.heap.size 36 3 (.slice A4 (l1.length + l2.length) m4) (l1 ++ l2).length ((l1 ++ l2).flatMap cells3) by rw [List.length_append]; exact HC2.out.own)
          have HB := Lib.hid HC2.out.bel
          clear HC2 e0 e1 e2
          go_wp2_with fail
          go_ret
          exact ⟨_, rfl, HE.out, HB.out⟩

end Go.Proofs.YtdddhmipifkepaaGreat

namespace Go.Proofs.YtdddhmipifkepaaGreat
set_option maxRecDepth 100000
set_option linter.unusedSimpArgs false
set_option linter.unusedVariables false
open Go.RowKit
section
variable {w W W' : World} {F0 F : Nat → Prop} {b bh seed most root n cnt : Nat} {hs : Ky → Nat} {M0 M M' : Cells} {P : Nat → Nat} {L : List Pr} {k : Ky} {ow : Int} {l' : List Pr}
theorem FromR.add1 (h : FromR w W F0 b bh seed most M0 P M F [root] cnt) (h0 : ow ≠ 0) (hm : MapR most M P hs root ow l' n M') (hs' : StpH W W' b bh seed most M' F) : FromR w W' F0 b bh seed most M0 P M' (Fn F W W') [n] (cnt + 1) := by
  have e0 : out1 P root ow = P := by unfold out1; rw [if_neg h0]
  have hb' := hm.bk
  have hk' := hm.keeps
  rw [e0] at hb' hk'
  exact ⟨hs'.ar, hs'.hh, fun hf => hf.elim h.nb (fun e => by have := h.hh.lt; omega), fun q hf => hf.elim (h.fr q) (fun e => .inr (by have := h.size; omega)), h.kp.trans hs'.kp (fun q hq => hq.elim (fun hq => (h.fr q hq).imp .inl id) (fun e => .inl (.inr e))), hb', h.keeps.trans hk', by have := hm.live; have := h.live; omega⟩
theorem FromR.below (h : FromR w W F0 b bh seed most M0 P M F [root] cnt) (hb : Below W.heap.size W W') : FromR w W' F0 b bh seed most M0 P M F [root] cnt := h.kpz (Kp.of_below hb (fun _ => False)) (fun _ h => h.elim)
end
structure Mz (w W : World) (F0 : Nat → Prop) (b bh seed most : Nat) (hs : Ky → Nat) (M0 : Cells) (P : Nat → Nat) (M : Cells) (F : Nat → Prop) (root : Nat) (L : List Pr) (cnt z2 z4 z6 : Nat) : Prop where
  fr : FromR w W F0 b bh seed most M0 P M F [root] cnt
  mp : Mp M hs root L
  keys : ∀ q ∈ L, OkK q.1
  len : L.length ≤ cnt
  lb : C2 W z2 26 (ap b) (.pointer (some ⟨bh, 0, none⟩))
  rs : C2 W z4 54 (.int .i64 0) (.int .i64 0)
  sb : C2 W z6 54 (.int .i64 (L.length : Int)) (.int .i64 (root : Int))
  nf : ¬ F z2 ∧ ¬ F z4 ∧ ¬ F z6
  zs : w.heap.size ≤ z2 ∧ z2 < z4 ∧ z4 < z6 ∧ bh < w.heap.size
section
variable {w W W' : World} {F0 F : Nat → Prop} {b bh seed most root n cnt z2 z4 z6 : Nat} {hs : Ky → Nat} {M0 M M' : Cells} {P : Nat → Nat} {L : List Pr} {k : Ky}
theorem Mz.below (h : Mz w W F0 b bh seed most hs M0 P M F root L cnt z2 z4 z6) (hb : Below W.heap.size W W') : Mz w W' F0 b bh seed most hs M0 P M F root L cnt z2 z4 z6 :=
  ⟨h.fr.below hb, h.mp, h.keys, h.len, h.lb.below hb, h.rs.below hb, h.sb.below hb, h.nf, h.zs⟩
theorem Mz.add (h : Mz w W F0 b bh seed most hs M0 P M F root L cnt z2 z4 z6) (hk : OkK k) (hm : MapR most M P hs root 1 (putL hs (k, noV) L) n M') (hs' : StpH W W' b bh seed most M' F) :
    Mz w ((W'.setCell ⟨z6, 0, none⟩ (.int .i64 ((putL hs (k, noV) L).length : Int))).setCell ⟨z6, 1, none⟩ (.int .i64 (n : Int))) F0 b bh seed most hs M0 P M' (Fn F W W') n (putL hs (k, noV) L) (cnt + 1) z2 z4 z6 ∧ C2 W' z6 54 (.int .i64 (L.length : Int)) (.int .i64 (root : Int)) := by
  obtain ⟨s1, s2, s3, s4⟩ := h.zs
  obtain ⟨f2, f4, f6⟩ := h.nf
  have l2 := h.lb.lt
  have l4 := h.rs.lt
  have l6 := h.sb.lt
  have hne : ∀ z, ¬ F z → z ≠ bh → ¬ (F z ∨ z = bh) := fun z hz hb hq => hq.elim hz hb
  have hnF : ∀ z, ¬ F z → z < W.heap.size → ¬ Fn F W W' z := fun z hz hl hq => hq.elim hz (fun e => by omega)
  have kz := kp2z W' z6 (.int .i64 ((putL hs (k, noV) L).length : Int)) (.int .i64 (n : Int))
  have q6 := h.sb.kp hs'.kp (hne z6 f6 (by omega))
  have hlen := putL_length (p := (k, noV)) h.mp.srt
  refine ⟨⟨(h.fr.add1 (by decide) hm hs').kpz kz (fun q e => by subst e; exact ⟨by omega, hnF _ f6 l6, by omega⟩), hm.mp, fun q hq => ?_, ?_, (h.lb.kp hs'.kp (hne z2 f2 (by omega))).kp kz (by omega), (h.rs.kp hs'.kp (hne z4 f4 (by omega))).kp kz (by omega), (q6.set0 _).set1 _, ⟨hnF z2 f2 l2, hnF z4 f4 l4, hnF z6 f6 l6⟩, h.zs⟩, q6⟩
  · rcases ((putL_spec h.mp.srt).2 q).1 hq with rfl | ⟨h1, _⟩
    · exact hk
    · exact h.keys q h1
  · have := h.len
    rw [hlen]
    split <;> omega
set_option maxHeartbeats 4000000 in
theorem lmade10 (A : Option Addr) (l : List Ky) (c : Nat) (w : World) (h : Ar w b most M0 F0) (hm : most ≤ 1048576) (hP : ∀ j, P j ≤ 576460752303423488) (hb : Bk (most + 1) M0 [] P []) (hh : Hs w bh seed) (nbh : ¬ F0 bh) (hhs : ∀ q, OkK q → hs q = hashN seed q.1 q.2.1 q.2.2) (hL : ∀ W, Kp (fun q => F0 q ∨ q = bh) w W → Lst W A l) (hok : ∀ k ∈ l, OkK k) (hn : l.length ≤ 1000) (hroom : live (most + 1) M0 + 16 * l.length + 16 ≤ most) :
    Calls Tryz.prog 24 #[land b bh, .slice A l.length c] w fun e w' => ∃ (n : Nat) (M' : Cells) (F' : Nat → Prop), e = .returned (.tuple #[.agg #[.int .i64 ((addAll hs (fun _ => true) l []).length : Nat), .int .i64 (n : Nat)], .bool true]) ∧ FromR w w' F0 b bh seed most M0 P M' F' [n] l.length ∧ Mp M' hs n (addAll hs (fun _ => true) l []) ∧ ∀ q ∈ addAll hs (fun _ => true) l [], OkK q.1 := by
  have hbl := hh.lt
  obtain ⟨W1, hW1⟩ : ∃ W1, W1 = ((w.alloc (.cells #[ap b, .pointer (some ⟨bh, 0, none⟩)] 26)).alloc (.cells #[.int .i64 0, .int .i64 0] 54)).alloc (.cells #[.int .i64 0, .int .i64 0] 54) := ⟨_, rfl⟩
  have hb1 : Below w.heap.size w W1 := by rw [hW1]; exact (((Below.refl _ w).alloc (Nat.le_refl _) _).alloc (by simp) _).alloc (by simp; omega) _
  have st : Mz w W1 F0 b bh seed most hs M0 P M0 F0 0 [] 0 w.heap.size (w.heap.size + 1) (w.heap.size + 1 + 1) := by
    have hnf : ∀ z, w.heap.size ≤ z → ¬ F0 z := fun z hz hf => by have := h.lt hf; omega
    refine ⟨⟨h.below hb1, hh.below hb1, nbh, fun q hq => .inl hq, Kp.of_below hb1 _, hb.perm (fun k hk => ?_), Keeps.refl P M0, Nat.le_add_right _ _⟩, .inl ⟨rfl, rfl⟩, fun q hq => by simp at hq, Nat.zero_le _, ?_, ?_, ?_, ⟨hnf _ (by omega), hnf _ (by omega), hnf _ (by omega)⟩, ⟨by omega, by omega, by omega, hbl⟩⟩
    · rw [List.count_cons_of_ne (by simpa using (by omega : 0 ≠ k))]
    · rw [hW1]; exact ((C2.new w 26 (ap b) (.pointer (some ⟨bh, 0, none⟩))).alloc _).alloc _
    · have h := (C2.new (w.alloc (.cells #[ap b, .pointer (some ⟨bh, 0, none⟩)] 26)) 54 (.int .i64 0) (.int .i64 0)).alloc (.cells #[.int .i64 0, .int .i64 0] 54)
      rw [hW1]
      simpa using h
    · have h := C2.new ((w.alloc (.cells #[ap b, .pointer (some ⟨bh, 0, none⟩)] 26)).alloc (.cells #[.int .i64 0, .int .i64 0] 54)) 54 (.int .i64 0) (.int .i64 0)
      rw [hW1]
      simpa using h
  have ST := Lib.hid st
  have HH := Lib.hid (And.intro hm (And.intro hP (And.intro hhs (And.intro hok (And.intro hn hroom)))))
  have HL := Lib.hid hL
  clear h hm hP hb hh nbh hhs hL hok hn hroom hbl st
  go_enter Tryz.func24, Tryz.ntmps24
  go_upto_region 2 with fail
  rw [← hW1]
  obtain ⟨z2, hz2⟩ : ∃ z, z = w.heap.size := ⟨_, rfl⟩
  obtain ⟨z4, hz4⟩ : ∃ z, z = w.heap.size + 1 := ⟨_, rfl⟩
  obtain ⟨z6, hz6⟩ : ∃ z, z = w.heap.size + 1 + 1 := ⟨_, rfl⟩
  rw [← hz6, ← hz4, ← hz2] at ST
  rw [← hz6, ← hz4, ← hz2]
  clear hz2 hz4 hz6 hW1 hb1
  go_wp2_with fail
  go_loopg [13] l.length (fun c' s13 wr => ∃ (j : Nat) (M : Cells) (F : Nat → Prop) (root : Nat), j + c' = l.length ∧ s13 = .int .i64 (j : Int) ∧ Mz w wr F0 b bh seed most hs M0 P M F root (addAll hs (fun _ => true) (l.take j) []) j z2 z4 z6)
  case atStart => exact ⟨0, M0, F0, 0, by omega, rfl, by simp only [List.take_zero, addAll]; exact ST.out⟩
  case round =>
    clear ST
    obtain ⟨j, M, F, root, hj, rfl, mz⟩ := hrel
    have S := Lib.hid mz
    by_cases h1 : j < l.length
    · obtain ⟨k, hk⟩ : ∃ k, l[j]? = some k := ⟨_, List.getElem?_eq_getElem h1⟩
      obtain ⟨g, o, rfl, hgl, c0, c1, c2⟩ := (HL.out wr mz.fr.kp).at hk
      have y1 : (0 : Int) ≤ (j : Int) := by omega
      have y2 : (j : Int) < (l.length : Int) := by omega
      have HJ := Lib.hid (And.intro hj (And.intro h1 hk))
      have hst := addAll_step (hs := hs) (wb := fun _ => true) hk []
      rw [if_pos rfl] at hst
      have HST := Lib.hid hst
      have hlj : (l.length : Int) ≤ 1000 := by have := HH.out.2.2.2.2.1; omega
      clear mz hj h1 hk hgl hst
      generalize addAll hs (fun _ => true) (l.take j) [] = L6 at S HST ⊢
      go_upto_region 5 with fail
      have S5 := Lib.hid (S.out.below ((Below.refl _ wr).alloc (Nat.le_refl _) (.cells #[.int .u8 k.1, .int .i64 k.2.1, .string k.2.2] 36)))
      have K5 := Lib.hid (C3.new wr 36 (.int .u8 k.1) (.int .i64 k.2.1) (.string k.2.2))
      clear c0 c1 c2 S
      generalize wr.alloc (.cells #[.int .u8 k.1, .int .i64 k.2.1, .string k.2.2] 36) = w5 at S5 K5 ⊢
      generalize wr.heap.size = z8 at K5 ⊢
      obtain ⟨x0, x1, _⟩ := S5.out.lb.all
      obtain ⟨x2, x3, _⟩ := S5.out.sb.all
      obtain ⟨x4, x5, x6, _⟩ := K5.out.all
      have HADD := Lib.hid (vAdd (l := L6) (hs := hs) b bh seed root k 1 P w5 S5.out.fr.ar HH.out.1 S5.out.fr.bk HH.out.2.1 S5.out.mp S5.out.fr.hh S5.out.fr.nb HH.out.2.2.1 S5.out.keys (HH.out.2.2.2.1 k (List.mem_of_getElem? HJ.out.2.2)) (by have := S5.out.len; have := HJ.out; have := HH.out.2.2.2.2.1; omega))
      go_wp2_with fail
      refine HADD.out.mono ?_
      clear HADD x0 x1 x2 x3 x4 x5 x6 K5
      rintro e w6 (⟨_, _, hlong, _⟩ | ⟨_, hfull, _⟩ | ⟨n, M', rfl, _, _, hm6, hs6⟩)
      · exfalso
        have := S5.out.len; have := HJ.out; have := HH.out.2.2.2.2.1
        unfold Long at hlong
        omega
      · exfalso
        have := S5.out.fr.live; have := HJ.out; have := HH.out.2.2.2.2.2
        omega
      · obtain ⟨s7, q6⟩ := S5.out.add (HH.out.2.2.2.1 k (List.mem_of_getElem? HJ.out.2.2)) hm6 hs6
        rw [← HST.out] at s7
        generalize hN : (putL hs (k, noV) L6).length = N at s7 ⊢
        have hN2 : (addAll hs (fun _ => true) (l.take (j + 1)) []).length = N := by rw [HST.out]; exact hN
        rw [hN2] at s7
        have S7 := Lib.hid s7
        have hb8 : Below w6.heap.size w6 (w6.alloc (.cells #[.int .i64 (N : Int), .int .i64 (n : Int)] 54)) := (Below.refl _ w6).alloc (Nat.le_refl _) _
        obtain ⟨x0, x1, x2, x3⟩ := q6.all
        have x4 := q6.lt
        have hw1 : IntKind.i64.wrap ((j : Int) + 1) = (j : Int) + 1 := IntWalk.i64_in _ (by omega)
        clear s7 hm6 hs6 hN hN2 HST q6 hb8
        go_wp2_with fail
        go_roundg (l.length - (j + 1))
        case measure => have := HJ.out; omega
        case rel => exact ⟨j + 1, M', _, n, by have := HJ.out; omega, by go_num, S7.out.below ((Below.refl _ _).alloc (Nat.le_refl _) _)⟩
    · obtain rfl : j = l.length := by omega
      rw [List.take_length] at S
      clear mz hj h1
      obtain ⟨x0, x1, _⟩ := S.out.sb.all
      obtain ⟨x2, x3, x4, x5⟩ := S.out.rs.all
      go_wp2_with fail
      have kz := kp2z wr z4 (.int .i64 ((addAll hs (fun _ => true) l []).length : Int)) (.int .i64 (root : Int))
      have q4 := (S.out.rs.set0 (.int .i64 ((addAll hs (fun _ => true) l []).length : Int))).set1 (.int .i64 (root : Int))
      clear x0 x1 x2 x3 x4 x5
      obtain ⟨x0, x1, _, _⟩ := q4.all
      have hz := S.out.zs
      exact bodyPost_ret (v := .tuple #[.agg #[.int .i64 ((addAll hs (fun _ => true) l []).length : Nat), .int .i64 (root : Nat)], .bool true]) (by simp [results, Tryz.results24, go_sem, x0, x1]) rfl ⟨root, M, F, rfl, S.out.fr.kpz kz (fun q e => by subst e; exact ⟨by omega, S.out.nf.2.1, by omega⟩), S.out.mp, S.out.keys⟩
end
end Go.Proofs.YtdddhmipifkepaaGreat

namespace Go.Proofs.YtdddhmipifkepaaGreat
open Go.RowKit
structure Ob (w : World) (b bh seed z7 z5 : Nat) (v5 : Value) (M : Cells) (F : Nat → Prop) (bs : List (Nat × Nat × Nat)) (W : World) : Prop where
  ls : LS w b bh seed 16384 z7 M F W
  mb : C1 W z5 50 v5
  n5 : ¬ F z5 ∧ z5 ≠ bh
  bx : ∀ x ∈ bs, C2 W x.1 54 (.int .i64 (x.2.1 : Nat)) (.int .i64 (x.2.2 : Nat)) ∧ Own1 w F z7 bh x.1
section
variable {w W W' : World} {b bh seed z7 z5 : Nat} {v5 : Value} {M M' : Cells} {F F' : Nat → Prop} {bs : List (Nat × Nat × Nat)}
theorem Ob.below (h : Ob w b bh seed z7 z5 v5 M F bs W) (hb : Below W.heap.size W W') : Ob w b bh seed z7 z5 v5 M F bs W' :=
  ⟨h.ls.below hb, h.mb.below hb, h.n5, fun x hx => ⟨(h.bx x hx).1.below hb, (h.bx x hx).2⟩⟩
theorem Ob.hash (h : Ob w b bh seed z7 z5 v5 M F bs W) (hk : Kp (fun q => q = bh) W W') (hh : Hs W' bh seed) : Ob w b bh seed z7 z5 v5 M F bs W' :=
  ⟨h.ls.hash hk hh, h.mb.kp hk h.n5.2, h.n5, fun x hx => ⟨(h.bx x hx).1.kp hk (h.bx x hx).2.2.2.2, (h.bx x hx).2⟩⟩
theorem Ob.from {P : Nat → Nat} {hx : List Nat} {cnt : Nat} (h : Ob w b bh seed z7 z5 v5 M F bs W) (hr : FromR W W' F b bh seed 16384 M P M' F' hx cnt) : Ob w b bh seed z7 z5 v5 M' F' bs W' := by
  obtain ⟨h1, h2⟩ := h.ls.from hr
  refine ⟨h1, h.mb.kp hr.kp (fun e => e.elim h.n5.1 h.n5.2), ⟨h2 z5 h.mb.lt h.n5.1, h.n5.2⟩, fun x hx => ?_⟩
  obtain ⟨c, o⟩ := h.bx x hx
  exact ⟨c.kp hr.kp (fun e => e.elim o.2.1 o.2.2.2), o.1, h2 x.1 c.lt o.2.1, o.2.2⟩
theorem Ob.box (h : Ob w b bh seed z7 z5 v5 M F bs W) (N n : Nat) : Ob w b bh seed z7 z5 v5 M F ((W.heap.size, N, n) :: bs) (W.alloc (.cells #[.int .i64 (N : Nat), .int .i64 (n : Nat)] 54)) := by
  have h1 := h.below ((Below.refl _ W).alloc (Nat.le_refl _) (.cells #[.int .i64 (N : Nat), .int .i64 (n : Nat)] 54))
  refine ⟨h1.ls, h1.mb, h1.n5, fun x hx => ?_⟩
  rcases List.mem_cons.1 hx with rfl | hx
  · exact ⟨C2.new _ _ _ _, h.ls.fresh⟩
  · exact h1.bx x hx
theorem Ob.stp (h : Ob w b bh seed z7 z5 v5 M F bs W) (hs : Stp W W' b 16384 M' F) : Ob w b bh seed z7 z5 v5 M' (Fn F W W') bs W' := by
  refine ⟨h.ls.stp hs, h.mb.kp hs.kp h.n5.1, ⟨fun hf => hf.elim h.n5.1 (fun e => by have := h.mb.lt; omega), h.n5.2⟩, fun x hx => ?_⟩
  obtain ⟨c, o⟩ := h.bx x hx
  exact ⟨c.kp hs.kp o.2.1, o.1, fun hf => hf.elim o.2.1 (fun e => by have := c.lt; omega), o.2.2⟩
end
end Go.Proofs.YtdddhmipifkepaaGreat

namespace Go.Proofs.YtdddhmipifkepaaGreat
set_option maxRecDepth 100000
open Go.RowKit
def BC (w : World) (z t : Nat) (cs : Array Value) : Prop := w.heap[z]? = some (.cells cs t (0, 0))
section
variable {w w' : World} {z t : Nat} {cs : Array Value}
theorem BC.at {i : Nat} {u : Value} (h : BC w z t cs) (hi : cs[i]? = some u) : w.cell? ⟨z, i, none⟩ = some u := by
  have := cell_of_row w z i _ _ (0, 0) h
  rw [this]
  exact hi
theorem BC.lt (h : BC w z t cs) : z < w.heap.size := (Array.getElem?_eq_some_iff.1 h).1
theorem BC.below (h : BC w z t cs) (hb : Below w.heap.size w w') : BC w' z t cs := (hb.block z h.lt).trans h
theorem BC.kp {F : Nat → Prop} (h : BC w z t cs) (hk : Kp F w w') (hF : ¬ F z) : BC w' z t cs := hk.at h hF
theorem BC.new (w : World) (t : Nat) (cs : Array Value) : BC (w.alloc (.cells cs t)) w.heap.size t cs := heap_alloc_new w _
theorem BC.alloc (h : BC w z t cs) (o : Obj) : BC (w.alloc o) z t cs := (Below.heap_alloc w o z h.lt).trans h
theorem BC.drew (h : BC w z t cs) : BC w.drew z t cs := h
theorem BC.fz (h : BC w z t cs) (i : Nat) : w.frozen? ⟨z, i, none⟩ = false := frozen_of_row w z i _ _ h
theorem BC.set (h : BC w z t cs) (i : Nat) (y : Value) : BC (w.setCell ⟨z, i, none⟩ y) z t (cs.setIfInBounds i y) := by
  have := heap_setCell_same w z i _ _ y h
  simpa [BC] using this
theorem BC.other (h : BC w z t cs) {g o : Nat} (hg : z ≠ g) (y : Value) : BC (w.setCell ⟨g, o, none⟩ y) z t cs := (Below.heap_setCell w ⟨g, o, none⟩ y z hg).trans h
end
end Go.Proofs.YtdddhmipifkepaaGreat
