/- Layer 4's law: its world in memory; pick, pair, give. -/
import Derived.Test.YtndbhcdiinpkkaaRefDrop04
import Derived.Test.YtndbhcdiinpkkaaRefMake04
namespace Go.Proofs.Ytndbhcdiinpkkaa
open Go.RowKit

/-- Block wb is the law's world: the arena, the document's, numbers by name, holds by name. -/
structure MemD (w : World) (B wb b rb nd dn most : Nat) (vC vn vm : Value) (D : Nat → Dc) (K : Nat → Value) (Nm mine : Nat → Nat) : Prop where
  wd : C4 w wb 34 (ap b) (rp rb) vn vm
  doc : Doc w B rb dn most vC D K
  nr : w.ownsRow B 3 1 vn nd (ints nd Nm)
  mr : w.ownsRow B 3 1 vm nd (ints nd mine)
  nm : ∀ g, vn.ownBlock = some g → vm.ownBlock ≠ some g
  kn : ∀ k, 1 ≤ k → k < dn → ∀ g, (K k).ownBlock = some g → vn.ownBlock ≠ some g ∧ vm.ownBlock ≠ some g
  bw : B ≤ wb
  br : B ≤ rb
/-- .. with as many of the document's cells as names. -/
abbrev Mem (w : World) (B wb b rb nd most : Nat) (vC vn vm : Value) (D : Nat → Dc) (K : Nat → Value) (Nm mine : Nat → Nat) : Prop := MemD w B wb b rb nd nd most vC vn vm D K Nm mine
/-- Its blocks. -/
def Lw (wb rb nd : Nat) (vC vn vm : Value) (K : Nat → Value) (g : Nat) : Prop := g = wb ∨ g = rb ∨ vC.ownBlock = some g ∨ vn.ownBlock = some g ∨ vm.ownBlock = some g ∨ ∃ k, 1 ≤ k ∧ k < nd ∧ (K k).ownBlock = some g
section
variable {w w' : World} {B wb b rb nd dn most : Nat} {vC vn vm : Value} {D : Nat → Dc} {K : Nat → Value} {Nm mine : Nat → Nat} {F : Nat → Prop}
theorem MemD.kp (h : MemD w B wb b rb nd dn most vC vn vm D K Nm mine) (hk : Kp F w w') (hF : ∀ g, Lw wb rb dn vC vn vm K g → ¬ F g) : MemD w' B wb b rb nd dn most vC vn vm D K Nm mine where
  wd := h.wd.kp hk (hF _ (.inl rfl))
  doc := h.doc.kp hk (hF _ (.inr (.inl rfl))) (fun g e => hF _ (.inr (.inr (.inl e)))) (fun k k1 k2 g e => hF _ (.inr (.inr (.inr (.inr (.inr ⟨k, k1, k2, e⟩))))))
  nr := hk.own h.nr (fun g e => hF _ (.inr (.inr (.inr (.inl e)))))
  mr := hk.own h.mr (fun g e => hF _ (.inr (.inr (.inr (.inr (.inl e))))))
  nm := h.nm
  kn := h.kn
  bw := h.bw
  br := h.br
theorem MemD.below (h : MemD w B wb b rb nd dn most vC vn vm D K Nm mine) (hb : Below w.heap.size w w') : MemD w' B wb b rb nd dn most vC vn vm D K Nm mine := h.kp (Kp.of_below hb (fun _ => False)) (fun _ _ => id)
theorem MemD.drewN (h : MemD w B wb b rb nd dn most vC vn vm D K Nm mine) (k : Nat) : MemD (w.drewN k) B wb b rb nd dn most vC vn vm D K Nm mine := h.below (below_drewN w k)
theorem MemD.alloc (h : MemD w B wb b rb nd dn most vC vn vm D K Nm mine) (o : Obj) : MemD (w.alloc o) B wb b rb nd dn most vC vn vm D K Nm mine := h.below ((Below.refl _ _).alloc (Nat.le_refl _) o)
/-- The blocks lie in memory, from B on. -/
theorem MemD.lt (h : MemD w B wb b rb nd dn most vC vn vm D K Nm mine) {g : Nat} (hg : Lw wb rb dn vC vn vm K g) : B ≤ g ∧ g < w.heap.size := by
  rcases hg with rfl | rfl | e | e | e | ⟨k, k1, k2, e⟩
  · exact ⟨h.bw, h.wd.lt⟩
  · exact ⟨h.br, h.doc.rd.lt⟩
  · exact h.doc.cr.lt g e
  · exact h.nr.lt g e
  · exact h.mr.lt g e
  · exact (h.doc.kr k k1 k2).lt g e
/-- A name's hold, where it lies. -/
theorem MemD.mineAt (h : MemD w B wb b rb nd dn most vC vn vm D K Nm mine) {j : Nat} (hj : j < nd) : ∃ g c, vm = .slice (some ⟨g, 0, none⟩) nd c ∧ w.cell? ⟨g, j, none⟩ = some (.int .i64 (mine j : Int)) ∧ w.frozen? ⟨g, j, none⟩ = false := by
  obtain ⟨g, c, e, _, h1, h2⟩ := own_at h.mr (ints_at hj)
  exact ⟨g, c, e, h1, h2⟩
theorem MemD.nameAt (h : MemD w B wb b rb nd dn most vC vn vm D K Nm mine) {j : Nat} (hj : j < nd) : ∃ g c, vn = .slice (some ⟨g, 0, none⟩) nd c ∧ w.cell? ⟨g, j, none⟩ = some (.int .i64 (Nm j : Int)) := by
  obtain ⟨g, c, e, _, h1, _⟩ := own_at h.nr (ints_at hj)
  exact ⟨g, c, e, h1⟩
/-- One name's holds have changed. -/
theorem MemD.setMine (h : MemD w B wb b rb nd dn most vC vn vm D K Nm mine) {j : Nat} (hj : j < nd) (v : Nat) : ∀ {g c : Nat}, vm = .slice (some ⟨g, 0, none⟩) nd c →
    MemD (w.setCell ⟨g, j, none⟩ (.int .i64 (v : Int))) B wb b rb nd dn most vC vn vm D K Nm (upd mine j v) ∧ Kp (Lw wb rb dn vC vn vm K) w (w.setCell ⟨g, j, none⟩ (.int .i64 (v : Int))) := by
  rintro g c rfl
  have hk := Kp.one w g j (.int .i64 (v : Int))
  obtain ⟨cur, hg⟩ := own_type h.mr g rfl
  refine ⟨⟨h.wd.kp hk (ne_types h.wd hg (by decide)), h.doc.kp hk (ne_types h.doc.rd hg (by decide)) (own_ne h.doc.cr hg (by decide)) (fun k k1 k2 b e e' => (h.kn k k1 k2 b e).2 (e' ▸ rfl)), hk.own h.nr (fun b e e' => h.nm b e (e' ▸ rfl)), ?_, h.nm, h.kn, h.bw, h.br⟩, hk.mono (fun b e _ => .inr (.inr (.inr (.inr (.inl (e ▸ rfl))))))⟩
  rw [← ints_set hj]
  exact (h.mr.stored j _).1
end

/-- A name, of any number. -/
def ix (nd : Nat) (n : Int) : Nat := (n % 18446744073709551616).toNat % nd
theorem ix_lt {nd : Nat} (h : 1 ≤ nd) (n : Int) : ix nd n < nd := Nat.mod_lt _ (by omega)
def pk (nd : Nat) (mine : Nat → Nat) (n : Int) : Nat := if 1 ≤ mine (ix nd n) then ix nd n else 0
theorem ix_run {nd : Nat} (h : 1 ≤ nd) (h2 : nd ≤ 1000) (n : Int) : wrap64 ((IntKind.u64.wrap n).tmod (nd : Int)) = ((ix nd n : Nat) : Int) := by
  have e : IntKind.u64.wrap n = n % 18446744073709551616 := by rw [IntKind.wrap_u64]
  have h0 : 0 ≤ n % 18446744073709551616 := by omega
  rw [e, Int.tmod_eq_emod_of_nonneg h0]
  have e2 : n % 18446744073709551616 = ((n % 18446744073709551616).toNat : Int) := by omega
  have h3 : (((n % 18446744073709551616).toNat % nd : Nat) : Int) = n % 18446744073709551616 % (nd : Int) := by rw [Int.natCast_emod, ← e2]
  have h4 : (n % 18446744073709551616).toNat % nd < nd := Nat.mod_lt _ (by omega)
  rw [← h3, IntWalk.wrap64_in _ (by omega)]
  rfl
abbrev wp' (b : Nat) : Value := .pointer (some ⟨b, 0, none⟩)

section
variable {B wb b rb nd dn most : Nat} {vC vn vm : Value} {D : Nat → Dc} {K : Nat → Value} {Nm mine : Nat → Nat}
theorem lpick (n : Int) (w : World) (h : Mem w B wb b rb nd most vC vn vm D K Nm mine) (hm : ∀ k, mine k ≤ 1000) : Calls Try.prog 65 #[wp' wb, .int .i64 n] w fun e w' => e = .returned (.int .i64 (pk nd mine n)) ∧ w = w' := by
  have n1 := h.doc.n1
  have n2 := h.doc.n2
  have c3 := h.wd.c3
  have hkl := ix_lt n1 n
  have hix := ix_run n1 n2 n
  have hpk : pk nd mine n = if 1 ≤ mine (ix nd n) then ix nd n else 0 := rfl
  obtain ⟨k, hk⟩ : ∃ k, k = ix nd n := ⟨_, rfl⟩
  rw [← hk] at hkl hix hpk
  have HP := Lib.hid hpk
  clear hpk hk
  obtain ⟨g, c, rfl, hx, _⟩ := h.mineAt hkl
  by_cases hp : 1 ≤ mine k
  · have hp' : (0 : Int) < (mine k : Int) := by omega
    go_enter Try.func65, Try.ntmps65
    go_wp2_with fail
    go_ret
    exact ⟨ret_int (by rw [HP.out, if_pos hp]; exact hix), rfl⟩
  · have hp' : ¬ (0 : Int) < (mine k : Int) := by omega
    go_enter Try.func65, Try.ntmps65
    go_wp2_with fail
    go_ret
    exact ⟨ret_int (by rw [HP.out, if_neg hp]; rfl), rfl⟩

/-- Two names that the caller may give. -/
def Gives (nd : Nat) (mine : Nat → Nat) (x y : Nat) : Prop := x < nd ∧ y < nd ∧ (x ≠ 0 → 1 ≤ mine x) ∧ (y ≠ 0 → 1 ≤ mine y) ∧ (x = y → x ≠ 0 → 2 ≤ mine x)
abbrev two (x y : Nat) : Value := .agg #[.int .i64 (x : Int), .int .i64 (y : Int)]
def Paired (nd : Nat) (mine : Nat → Nat) (w : World) (e : Ending) (w' : World) : Prop := ∃ x y, Gives nd mine x y ∧ e = .returned (two x y) ∧ Below w.heap.size w w'
theorem pk_lt (h : 1 ≤ nd) (n : Int) : pk nd mine n < nd := by unfold pk; split; exact ix_lt h n; omega
theorem pk_mine (n : Int) (h : pk nd mine n ≠ 0) : 1 ≤ mine (pk nd mine n) := by
  unfold pk at *
  split
  · rename_i h'; rw [if_pos h'] at h; exact h'
  · rename_i h'; rw [if_neg h'] at h; exact absurd rfl h

set_option maxRecDepth 100000 in
set_option maxHeartbeats 800000 in
theorem lpair (m n : Int) (w : World) (h : Mem w B wb b rb nd most vC vn vm D K Nm mine) (hm : ∀ k, mine k ≤ 1000) : Calls Try.prog 37 #[wp' wb, .agg #[.int .i64 m, .int .i64 n]] w (Paired nd mine w) := by
  have n1 := h.doc.n1
  have n2 := h.doc.n2
  obtain ⟨x, hx⟩ : ∃ x, x = pk nd mine m := ⟨_, rfl⟩
  obtain ⟨y, hy⟩ : ∃ y, y = pk nd mine n := ⟨_, rfl⟩
  have hx1 : x < nd := hx ▸ pk_lt n1 m
  have hy1 : y < nd := hy ▸ pk_lt n1 n
  have HX := Lib.hid (show x ≠ 0 → 1 ≤ mine x from hx ▸ pk_mine m)
  have HY := Lib.hid (show y ≠ 0 → 1 ≤ mine y from hy ▸ pk_mine n)
  have HXE := Lib.hid hx
  have HYE := Lib.hid hy
  clear hx hy
  have HM := Lib.hid ((h.alloc (.cells #[.int .i64 m, .int .i64 n] 36)).alloc (.cells #[.int .i64 0, .int .i64 0] 36))
  go_enter Try.func37, Try.ntmps37
  go_wp2_with fail
  go_quiet ((go_at_call 65; exact quiet_same (lpick _ _ (HM.out.drewN _) hm)))
  rw [← HXE.out, ← HYE.out]
  have hM2 := HM.out.drewN nq
  have hb2 : Below w.heap.size w (((w.alloc (.cells #[.int .i64 m, .int .i64 n] 36)).alloc (.cells #[.int .i64 0, .int .i64 0] 36)).drewN nq) := (((Below.refl _ w).alloc (Nat.le_refl _) _).alloc (by simp) _).trans ((below_drewN _ _).mono (by simp; omega))
  obtain ⟨g, c, hvm, hcm, _⟩ := hM2.mineAt hx1
  have c3 := hM2.wd.c3
  rw [hvm] at c3
  have hmx := hm x
  have HB2 := Lib.hid hb2
  clear hM2 hb2 hvm HM h
  by_cases e : x = y
  · subst e
    by_cases e0 : x = 0
    · subst e0
      go_wp2_with fail
      refine bodyPost_ret (v := two 0 0) (by simp [results, Try.results37, go_sem]) rfl ⟨0, 0, ⟨hx1, hx1, fun h => absurd rfl h, fun h => absurd rfl h, fun _ h => absurd rfl h⟩, rfl, ?_⟩
      exact (HB2.out.setCell (Nat.le_succ _) _).setCell (Nat.le_succ _) _
    · have e0' : ¬ (x : Int) = 0 := by omega
      by_cases e2 : mine x < 2
      · have e2' : (mine x : Int) < 2 := by omega
        go_wp2_with fail
        refine bodyPost_ret (v := two x 0) (by simp [results, Try.results37, go_sem]) rfl ⟨x, 0, ⟨hx1, by omega, HX.out, fun h => absurd rfl h, fun h h' => absurd h h'⟩, rfl, ?_⟩
        exact (HB2.out.setCell (Nat.le_succ _) _).setCell (Nat.le_succ _) _
      · have e2' : ¬ (mine x : Int) < 2 := by omega
        go_wp2_with fail
        refine bodyPost_ret (v := two x x) (by simp [results, Try.results37, go_sem]) rfl ⟨x, x, ⟨hx1, hx1, HX.out, HX.out, fun _ _ => by omega⟩, rfl, ?_⟩
        exact (HB2.out.setCell (Nat.le_succ _) _).setCell (Nat.le_succ _) _
  · have e' : ¬ (x : Int) = y := by omega
    go_wp2_with fail
    refine bodyPost_ret (v := two x y) (by simp [results, Try.results37, go_sem]) rfl ⟨x, y, ⟨hx1, hy1, HX.out, HY.out, fun h => absurd h e⟩, rfl, ?_⟩
    exact (HB2.out.setCell (Nat.le_succ _) _).setCell (Nat.le_succ _) _

/-- One hold of a name less. -/
def dec (mine : Nat → Nat) (x : Nat) : Nat → Nat := if x = 0 then mine else upd mine x (mine x - 1)
theorem dec_zero (mine : Nat → Nat) : dec mine 0 = mine := if_pos rfl
theorem dec_pos (mine : Nat → Nat) {x : Nat} (h : x ≠ 0) : dec mine x = upd mine x (mine x - 1) := if_neg h
theorem dec_le (mine : Nat → Nat) (x : Nat) {L : Nat} (h : ∀ k, mine k ≤ L) : ∀ k, dec mine x k ≤ L := fun k => by
  unfold dec
  split
  · exact h k
  · by_cases e : k = x
    · subst e; rw [upd_same]; have := h k; omega
    · rw [upd_other _ _ e]; exact h k

theorem index0 (p q : Int) (w : World) : (Instr.index 36 (.agg #[.int .i64 p, .int .i64 q]) (.int .i64 0)).run Try.prog w = .ok (.int .i64 p) w := by kernel_rfl
theorem index1 (p q : Int) (w : World) : (Instr.index 36 (.agg #[.int .i64 p, .int .i64 q]) (.int .i64 1)).run Try.prog w = .ok (.int .i64 q) w := by kernel_rfl

def Given (B wb b rb nd dn most : Nat) (vC vn vm : Value) (D : Nat → Dc) (K : Nat → Value) (Nm mine : Nat → Nat) (w : World) (e : Ending) (w' : World) : Prop :=
  e = .returned (.tuple #[]) ∧ MemD w' B wb b rb nd dn most vC vn vm D K Nm mine ∧ Kp (Lw wb rb dn vC vn vm K) w w'

set_option maxRecDepth 100000 in
set_option maxHeartbeats 800000 in
theorem lgive (x y : Nat) (w : World) (h : MemD w B wb b rb nd dn most vC vn vm D K Nm mine) (n2 : nd ≤ 1000) (hm : ∀ k, mine k ≤ 1000) (hg : Gives nd mine x y) : Calls Try.prog 40 #[wp' wb, two x y] w (Given B wb b rb nd dn most vC vn vm D K Nm (dec (dec mine x) y) w) := by
  obtain ⟨hx, hy, gx, gy, gxy⟩ := hg
  have HM := Lib.hid (h.alloc (.cells #[.int .i64 (x : Int), .int .i64 (y : Int)] 36))
  have HM2 := Lib.hid (dec_le mine x hm)
  have h1y : y ≠ 0 → 1 ≤ dec mine x y := fun h0 => by
    unfold dec
    split
    · exact gy h0
    · by_cases e : y = x
      · subst e; rw [upd_same]; have := gxy rfl h0; omega
      · rw [upd_other _ _ e]; exact gy h0
  have HY := Lib.hid h1y
  have HX := Lib.hid gx
  have i0 := index0
  have i1 := index1
  clear h gx gy gxy h1y
  go_enter Try.func40, Try.ntmps40
  go_wp2_with fail
  go_loopg [7] 2 (fun k i wr => ∃ j : Nat, j + k = 2 ∧ i = .int .i64 j ∧ Given B wb b rb nd dn most vC vn vm D K Nm (if j = 0 then mine else if j = 1 then dec mine x else dec (dec mine x) y) w (.returned (.tuple #[])) wr)
  case atStart => exact ⟨0, rfl, rfl, rfl, HM.out, (Kp.refl _ w).alloc _⟩
  case round =>
    obtain ⟨j, hj, rfl, _, hM, hK⟩ := hrel
    match j, hj with
    | 0, hj =>
      obtain rfl : gk = 2 := by omega
      have hM' : MemD wr B wb b rb nd dn most vC vn vm D K Nm mine := hM
      clear hM
      by_cases h0 : x = 0
      · subst h0
        have HN := Lib.hid (show Given B wb b rb nd dn most vC vn vm D K Nm (dec mine 0) w (.returned (.tuple #[])) wr from ⟨rfl, by rw [dec_zero]; exact hM', hK⟩)
        clear hM' hK
        go_wp2_with fail
        go_roundg 1
        case measure => omega
        case rel => exact ⟨1, rfl, rfl, HN.out⟩
      · obtain ⟨g, c, hv, hc, hf⟩ := hM'.mineAt hx
        obtain ⟨n1, n2'⟩ := hM'.setMine hx (mine x - 1) hv
        have hp := HX.out h0
        have hmx := hm x
        have e1 : ((mine x - 1 : Nat) : Int) = (mine x : Int) - 1 := by omega
        rw [e1] at n1 n2'
        have HN := Lib.hid (show Given B wb b rb nd dn most vC vn vm D K Nm (dec mine x) w (.returned (.tuple #[])) _ from ⟨rfl, by rw [dec_pos mine h0]; exact n1, hK.trans n2' (fun _ => .inl)⟩)
        have c3 := hM'.wd.c3
        rw [hv] at c3
        have h0' : ¬ (x : Int) = 0 := by omega
        clear hM' hK n1 n2' e1
        go_wp2_with fail
        go_roundg 1
        case measure => omega
        case rel => exact ⟨1, rfl, rfl, HN.out⟩
    | 1, hj =>
      obtain rfl : gk = 1 := by omega
      have hM' : MemD wr B wb b rb nd dn most vC vn vm D K Nm (dec mine x) := hM
      clear hM
      by_cases h0 : y = 0
      · subst h0
        have HN := Lib.hid (show Given B wb b rb nd dn most vC vn vm D K Nm (dec (dec mine x) 0) w (.returned (.tuple #[])) wr from ⟨rfl, by rw [dec_zero]; exact hM', hK⟩)
        clear hM' hK
        go_wp2_with fail
        go_roundg 0
        case measure => omega
        case rel => exact ⟨2, rfl, rfl, HN.out⟩
      · obtain ⟨g, c, hv, hc, hf⟩ := hM'.mineAt hy
        obtain ⟨n1, n2'⟩ := hM'.setMine hy (dec mine x y - 1) hv
        have hp := HY.out h0
        have hmx := HM2.out y
        have e1 : ((dec mine x y - 1 : Nat) : Int) = (dec mine x y : Int) - 1 := by omega
        rw [e1] at n1 n2'
        have HN := Lib.hid (show Given B wb b rb nd dn most vC vn vm D K Nm (dec (dec mine x) y) w (.returned (.tuple #[])) _ from ⟨rfl, by rw [dec_pos _ h0]; exact n1, hK.trans n2' (fun _ => .inl)⟩)
        have c3 := hM'.wd.c3
        rw [hv] at c3
        have h0' : ¬ (y : Int) = 0 := by omega
        clear hM' hK n1 n2' e1
        go_wp2_with fail
        go_roundg 0
        case measure => omega
        case rel => exact ⟨2, rfl, rfl, HN.out⟩
    | 2, hj =>
      go_wp2_with fail
      go_end0
      exact ⟨rfl, hM, hK⟩
    | j + 3, hj => omega
end

end Go.Proofs.Ytndbhcdiinpkkaa
