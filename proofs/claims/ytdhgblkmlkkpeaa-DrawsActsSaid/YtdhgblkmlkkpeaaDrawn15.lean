/- Package draws: Next, More, New (slices.Clone), and no draws; the law's has and lives. -/
import Derived.Test.YtdhgblkmlkkpeaaDraws15
namespace Go.Proofs.Ytdhgblkmlkkpeaa
set_option maxRecDepth 100000
set_option linter.unusedSimpArgs false
set_option linter.unusedVariables false
open Go.RowKit
/-- What Next tells. -/
def nv : List Int → Value
  | [] => .tuple #[.int .u64 0, .int .i64 13]
  | x :: _ => .tuple #[.int .u64 x, .int .i64 0]
theorem info_u8 : (Try.prog.info? 27).map (fun i => (i.zero, i.size, i.bytes)) = some (some (.int .u64 0), 1, 8) := by kernel_rfl
theorem u8_one (l : List Int) : ∀ u ∈ u8 l, u.oneCell' = true := by simp [Value.oneCell']
section
variable {w : World} {b B : Nat} {v : Value} {l : List Int} {u : Int}
theorem dnext (h : Dr w b B v l u) (hu : u + 1 ≤ 1000000000) : Calls Try.prog 7 #[dp b] w fun e w' => e = .returned (nv l) ∧ Drew w b B v l.tail (u + ((l.length : Int) - l.tail.length)) w' := by
  have D0 := Lib.hid h
  have hblt := h.blt
  match l, D0, hblt with
  | [], D0, hblt =>
    go_enter Try.func7, Try.ntmps7
    go_wp2_with (first | (go_at_call 12; refine (dleft D0.out).mono ?_; rintro e w' ⟨rfl, rfl⟩))
    go_ret2
    refine ⟨rfl, v, ?_, fun k hk => hk, Kp.refl _ _⟩
    have := D0.out
    simpa using this
  | x :: l1, D0, hblt =>
    clear h
    have hlong : ¬ (((x :: l1).length : Int) < 1) := by simp; omega
    go_enter Try.func7, Try.ntmps7
    go_wp2_with (first | (go_at_call 12; refine (dleft D0.out).mono ?_; rintro e w' ⟨rfl, rfl⟩))
    refine (ddraw D0.out hu).mono ?_
    rintro e w1 ⟨rfl, h1⟩
    have H1 := Lib.hid h1
    clear h1
    go_wp2_with fail
    go_ret2
    refine ⟨rfl, ?_⟩
    have e1 : u + (((x :: l1).length : Int) - (x :: l1).tail.length) = u + 1 := by simp; omega
    simp only [List.length_cons] at e1 ⊢
    rw [e1]
    exact H1.out
set_option maxHeartbeats 1000000 in
theorem dmore (h : Dr w b B v l u) {y : Value} {m : List Int} (hy : Rw w y m.length (u8 m)) (hm : l.length + m.length ≤ 1000000) (hB : B ≤ w.heap.size) :
    Calls Try.prog 11 #[dp b, y] w fun e w' => e = .returned (.tuple #[]) ∧ ∃ v', Dr w' b B v' (l ++ m) u ∧ (v'.ownBlock = v.ownBlock ∨ ∀ k, v'.ownBlock = some k → w.heap.size ≤ k) ∧ Kp (fun k => k = b ∨ v.ownBlock = some k) w w' := by
  have D0 := Lib.hid h
  obtain ⟨A, c, rfl, hc⟩ := h.os.form
  obtain ⟨A', c', rfl⟩ := hy.form
  obtain ⟨c0, c1, f0, f1⟩ := row2 h.row
  have HY := Lib.hid hy
  have HM := Lib.hid (And.intro hm hB)
  have hbl := h.lt
  clear h hy hm hB
  obtain ⟨i, hi, hi2⟩ := Option.map_eq_some_iff.1 info_u8
  simp only [Prod.mk.injEq] at hi2
  have HI := Lib.hid (And.intro hi hi2)
  clear hi hi2
  go_enter Try.func11, Try.ntmps11
  go_wp2_with (refine wpList_append_os _ rfl _ _ 22 rfl B 27 i (.int .u64 0) 8 und_u8 HI.out.1 HI.out.2.1 HI.out.2.2.1 HI.out.2.2.2 rfl _ _ _ rfl D0.out.os _ _ _ rfl HY.out (by simp) (u8_one m) (by have := HM.out.1; simp only [maxLen]; omega) (by have := HM.out.1; omega) HM.out.2 ?_; intro v' w' hos hg hat; obtain ⟨A2, c2, rfl, hc2⟩ := hos.form; have HG := Lib.hid (show w.grownBy w' (Value.slice A l.length c).ownBlock from hg); have HO := Lib.hid (And.intro hos (show (Value.slice A2 (l.length + m.length) c2).ownBlock = (Value.slice A l.length c).ownBlock ∨ ∀ k, (Value.slice A2 (l.length + m.length) c2).ownBlock = some k → w.heap.size ≤ k from hat)); clear hg hat hos; have hr' := (Kp.of_grown HG.out (F := fun k => (Value.slice A l.length c).ownBlock = some k) (fun k e => .inl e)).at D0.out.row (fun e => D0.out.ne e); obtain ⟨z0, z1, z2, z3⟩ := row2 hr'; have HR := Lib.hid hr'; clear hr')
  have k1 := Kp.of_grown HG.out (F := fun k => k = b ∨ (Value.slice A l.length c).ownBlock = some k) (fun k e => .inl (.inr e))
  have k2 := Kp.one w' b 0 (.slice A2 (l.length + m.length) c2)
  have hne2 : (Value.slice A2 (l.length + m.length) c2).ownBlock ≠ some b := fun e => by
    rcases HO.out.2 with h | h
    · exact D0.out.ne (h ▸ e)
    · have := h b e
      omega
  have hrow := heap_setCell_same w' b 0 _ _ (.slice A2 (l.length + m.length) c2) HR.out
  have hlen : (l ++ m).length = l.length + m.length := by simp
  refine bodyPost_end (results_none rfl _ _ _) rfl ?_
  refine ⟨rfl, _, ⟨by simpa using hrow, ?_, hne2, by rw [hlen]; exact HM.out.1, D0.out.u0⟩, HO.out.2, k1.trans k2 (fun q e => .inl (.inl e))⟩
  rw [hlen, show u8 (l ++ m) = u8 l ++ u8 m by simp [u8]]
  exact HO.out.1.kp k2 (fun k hk e => hne2 (e ▸ hk))
set_option maxHeartbeats 1000000 in
/-- New: its own copy. -/
theorem dnew {w : World} {y : Value} {l : List Int} (hy : Rd w y l.length (u8 l)) (hl : l.length ≤ 1000000) : Calls Try.prog 6 #[y] w fun e w' => ∃ b v, e = .returned (dp b) ∧ Dr w' b w.heap.size v l 0 ∧ w.heap.size ≤ b ∧ Below w.heap.size w w' := by
  have hclone : Calls Try.prog 16 #[y] w fun e w' => ∃ v, e = .returned v ∧ Os w' w.heap.size 27 v l.length (u8 l) ∧ Below w.heap.size w w' := by
    obtain ⟨i, hi, hi2⟩ := Option.map_eq_some_iff.1 info_u8
    simp only [Prod.mk.injEq] at hi2
    have HI := Lib.hid (And.intro hi hi2)
    have HY := Lib.hid (And.intro hy hl)
    clear hi hi2 hl
    have q1 : ∀ W : World, (binOp .eql 22 (.slice none 0 0) (.slice none 0 0)).run Try.prog W = .ok (.bool true) W := fun _ => rfl
    have q2 : ∀ (a : Addr) (n c : Nat) (W : World), (binOp .eql 22 (.slice (some a) n c) (.slice none 0 0)).run Try.prog W = .ok (.bool false) W := fun _ _ _ _ => rfl
    rcases hy with ⟨rfl, e1, e2⟩ | ⟨g, o, c, rfl, hc, _⟩
    · have e3 : l = [] := List.eq_nil_of_length_eq_zero e1
      subst e3
      clear e1 e2
      go_enter Try.func16, Try.ntmps16
      go_wp2
      go_ret
      exact ⟨_, rfl, Os.of_own (World.ownsRow_nil _ _ _ _), Below.refl _ _⟩
    · go_enter Try.func16, Try.ntmps16
      go_wp2_with (refine wpList_append_rd rfl _ _ 22 rfl w.heap.size 27 i (.int .u64 0) 1 8 und_u8 HI.out.1 HI.out.2.1 HI.out.2.2.1 HI.out.2.2.2 rfl (by omega) _ _ _ rfl (World.ownsRow_made w #[] 0 (Nat.le_refl _) (Nat.zero_le _) rfl) _ _ _ rfl (HY.out.1.alloc _) (by simp) (u8_one l) (by have := HY.out.2; simp only [maxLen]; omega) (by have := HY.out.2; omega) (by simp) ?_; intro v' w' hos hg hat)
      have hb1 : Below w.heap.size w (w.alloc (.cells #[] 27)) := (Below.refl _ w).alloc (Nat.le_refl _) _
      have hos' : w'.ownsRow w.heap.size 27 1 v' l.length (u8 l) := by simpa using hos
      have hg' : (w.alloc (.cells #[] 27)).grownBy w' (some w.heap.size) := hg
      clear hos hg hat
      go_ret
      exact ⟨_, rfl, Os.of_own hos', below_grown hb1 hg' (Nat.le_refl _)⟩
  go_enter Try.func6, Try.ntmps6
  go_wp2_with fail
  refine hclone.mono ?_
  rintro e w1 ⟨v1, rfl, h1, h2⟩
  obtain ⟨A, c, rfl, hc⟩ := h1.form
  have H1 := Lib.hid (And.intro h1 (And.intro h2 hl))
  clear h1 h2 hy hl hclone
  go_wp2_with fail
  go_ret
  have hb := (Below.refl w1.heap.size w1).alloc (Nat.le_refl _) (.cells #[.slice A l.length c, .int .i64 0] 46)
  exact ⟨_, _, rfl, ⟨heap_alloc_new w1 _, H1.out.1.below hb, fun e => by have := (H1.out.1.lt _ e).2; omega, H1.out.2.2, by omega⟩, H1.out.2.1.size, H1.out.2.1.trans (hb.mono H1.out.2.1.size)⟩
end
section
variable (w : World)
theorem lnil : Calls Try.prog 12 #[.pointer none] w fun e w' => e = .returned (.int .i64 0) ∧ w = w' := by
  go_enter Try.func12, Try.ntmps12
  go_wp2
  go_ret
  exact ⟨rfl, rfl⟩
theorem unil : Calls Try.prog 13 #[.pointer none] w fun e w' => e = .returned (.int .i64 0) ∧ w = w' := by
  go_enter Try.func13, Try.ntmps13
  go_wp2
  go_ret
  exact ⟨rfl, rfl⟩
theorem nnil : Calls Try.prog 7 #[.pointer none] w fun e w' => e = .returned (.tuple #[.int .u64 0, .int .i64 13]) ∧ w = w' := by
  go_enter Try.func7, Try.ntmps7
  go_wp2_with (first | (go_at_call 12; refine (lnil _).mono ?_; rintro e w' ⟨rfl, rfl⟩))
  go_ret2
  exact ⟨rfl, rfl⟩
theorem mnil (A : Option Addr) (n c : Nat) : Calls Try.prog 11 #[.pointer none, .slice A n c] w fun e w' => e = .returned (.tuple #[]) ∧ w = w' := by
  go_enter Try.func11, Try.ntmps11
  go_wp2
  exact bodyPost_end (results_none rfl _ _ _) rfl ⟨rfl, rfl⟩
theorem hnil (f : Value) : Calls Try.prog 8 #[.pointer none, f] w fun e w' => e = .returned (.tuple #[ha 0 0, .int .i64 13]) ∧ Below w.heap.size w w' := by
  go_enter Try.func8, Try.ntmps8
  go_wp2_with fail
  go_loopg [6] 0 (fun k s6 wr => wr = w.alloc (.cells #[.int .u64 0, .int .u64 0] 35))
  case atStart => rfl
  case round =>
    subst hrel
    go_wp2_with (first | (go_at_call 12; refine (lnil _).mono ?_; rintro e w' ⟨rfl, rfl⟩))
    obtain ⟨z0, z1, _, _⟩ := row2 (heap_alloc_new w (.cells #[.int .u64 0, .int .u64 0] 35))
    exact bodyPost_ret (v := .tuple #[ha 0 0, .int .i64 13]) (by simp [results, Try.results8, go_sem, z0, z1]) rfl ⟨rfl, (Below.refl _ w).alloc (Nat.le_refl _) _⟩
end
/-- The law's function that takes no handle. -/
theorem free15 (x y : Int) (w : World) : Calls Try.prog 15 #[ha x y] w fun e w' => e = .returned (.bool false) ∧ Below w.heap.size w w' := by
  go_enter Try.func15, Try.ntmps15
  go_wp2
  go_ret
  exact ⟨rfl, (Below.refl _ w).alloc (Nat.le_refl _) _⟩
set_option maxHeartbeats 1000000 in
theorem lives15 (w : World) : Calls Try.prog 5 #[] w fun e w' => e = .returned (.bool true) ∧ Below w.heap.size w w' := by
  have hmf : ∀ (args : Array Value) (W : World), (callFunc 15 args).run Try.prog W = .ok (.enter 15 args) W := fun _ _ => rfl
  go_enter Try.func5, Try.ntmps5
  go_wp2_with fail
  have hr : Rd (w.alloc (.cells #[.int .u64 0, .int .u64 0, .int .u64 1, .int .u64 2] 27)) (.slice (some ⟨w.heap.size, 0, none⟩) 4 4) 4 (u8 [0, 0, 1, 2]) := by
    refine .inr ⟨_, 0, 4, rfl, Nat.le_refl _, fun j u hu => ?_⟩
    match j, hu with
    | 0, hu => simp at hu; subst hu; simp [go_sem]
    | 1, hu => simp at hu; subst hu; simp [go_sem]
    | 2, hu => simp at hu; subst hu; simp [go_sem]
    | 3, hu => simp at hu; subst hu; simp [go_sem]
  refine (dnew (l := [0, 0, 1, 2]) hr (by decide)).mono ?_
  rintro e w1 ⟨b, v, rfl, hd, hb, hw⟩
  have H1 := Lib.hid (And.intro hd (((Below.refl _ w).alloc (Nat.le_refl _) _).trans (hw.mono (by simp))))
  have H2 := Lib.hid hb
  clear hr hd hb hw
  go_wp2_with fail
  refine (dhandle (f := 15) (caps := #[]) (t := fun _ _ => false) H1.out.1 (by simp) hmf (fun W _ x y => free15 x y W)).mono ?_
  rintro e w2 ⟨rfl, v2, h2, h3, h4⟩
  have e : hv (hd (fun _ _ => false) [0, 0, 1, 2]).1 = .tuple #[ha 1 2, .int .i64 0] := by simp [hd, hv]
  rw [e]
  have hb2 : Below w.heap.size w w2 := (Kp.trans (Kp.of_below H1.out.2 (fun _ => False)) h4 (fun q e => .inr (by have := H2.out; simp at this; omega))).below (fun _ h => h.elim)
  have HB := Lib.hid hb2
  clear e h2 h3 h4 hb2
  go_wp2_with fail
  go_ret
  exact ⟨rfl, HB.out.alloc HB.out.size _⟩
end Go.Proofs.Ytdhgblkmlkkpeaa
