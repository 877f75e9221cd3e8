/- Package pvec: Push where it may not be: a long vector, no room. -/
import Derived.Test.YtgkhbnkbhcginaaPush06
namespace Go.Proofs.Ytgkhbnkbhcginaa
open Go.RowKit

set_option maxRecDepth 100000 in
set_option maxHeartbeats 800000 in
theorem vPush_long (v : Vc) (x : Int × Int × ByteArray) (ow : Int) (a : Value) (w : World) (hn : 1024 ≤ v.n) :
    Calls Try.prog 14 #[a, vagg v, xagg x, .int .u32 ow] w fun e w' => e = .returned (.tuple #[vagg ⟨0, 0, 0⟩, .int .i64 12]) ∧ Below w.heap.size w w' := by
  have hn0 : (1024 : Int) ≤ (v.n : Int) := by omega
  have hz' : (0 : Int) < (v.n : Int) := by omega
  go_enter Try.func14, Try.ntmps14
  go_wp2_with fail
  refine bodyPost_ret (v := .tuple #[vagg ⟨0, 0, 0⟩, .int .i64 12]) (by simp [results, Try.results14, go_sem, vagg]) rfl ⟨rfl, ?_⟩
  have hb := ((((Below.refl _ w).alloc (Nat.le_refl _) (.cells #[.int .i64 (v.n : Int), .int .i64 (v.root : Int), .int .i64 (v.tail : Int)] 30)).alloc (by simp) (.cells #[.int .u8 x.1, .int .i64 x.2.1, .string x.2.2] 38)).alloc (by simp; omega) (.cells #[.int .i64 0, .int .i64 0, .int .i64 0] 30))
  exact hb

section
variable {b most : Nat} {M : Cells} {F : Nat → Prop}
set_option maxRecDepth 100000 in
set_option maxHeartbeats 1600000 in
theorem vPush_none (v : Vc) (l : Vs) (x : Int × Int × ByteArray) (ow : Int) (w : World) (h : Ar w b most M F) (hv : VecIs M v l) (hlt : l.length < 1024) (hnf : l.length = 0 ∨ l.length % 32 ≠ 0) (hroom : most < live (most + 1) M + freshN M ow [v.tail]) :
    Calls Try.prog 14 #[ap b, vagg v, xagg x, .int .u32 ow] w fun e w' => e = .returned (.tuple #[vagg ⟨0, 0, 0⟩, .int .i64 5]) ∧ Below w.heap.size w w' := by
  have HF := Lib.hid (show ∀ q, F q → q < w.heap.size from fun q hq => h.lt hq)
  have HA := Lib.hid h
  have HV := Lib.hid hv
  have hn0 : ¬ (1024 : Int) ≤ (v.n : Int) := by have := hv.n; omega
  have hn2 : v.n < 1024 := by have := hv.n; omega
  have hnf' := Lib.hid (show v.n = 0 ∨ v.n % 32 ≠ 0 by have := hv.n; omega)
  have hsl := Lib.hid (show ∀ W, Calls Try.prog 41 #[.int .i64 (v.n : Int)] W fun e w' => e = .returned (.int .i64 ((v.n % 32 : Nat) : Int)) ∧ W = w' from fun W => vslot v.n W (by omega))
  have q5 := (((C3.new w 30 (.int .i64 (v.n : Int)) (.int .i64 (v.root : Int)) (.int .i64 (v.tail : Int))).alloc (.cells #[.int .u8 x.1, .int .i64 x.2.1, .string x.2.2] 38)).alloc (.cells #[.int .i64 0, .int .i64 0, .int .i64 0] 30)).alloc (.cells #[.int .i64 (v.tail : Int)] 3)
  have q6 := ((C3.new (w.alloc (.cells #[.int .i64 (v.n : Int), .int .i64 (v.root : Int), .int .i64 (v.tail : Int)] 30)) 38 (.int .u8 x.1) (.int .i64 x.2.1) (.string x.2.2)).alloc (.cells #[.int .i64 0, .int .i64 0, .int .i64 0] 30)).alloc (.cells #[.int .i64 (v.tail : Int)] 3)
  have q8 := (C3.new ((w.alloc (.cells #[.int .i64 (v.n : Int), .int .i64 (v.root : Int), .int .i64 (v.tail : Int)] 30)).alloc (.cells #[.int .u8 x.1, .int .i64 x.2.1, .string x.2.2] 38)) 30 (.int .i64 0) (.int .i64 0) (.int .i64 0)).alloc (.cells #[.int .i64 (v.tail : Int)] 3)
  have hlit := Rd.one' (((w.alloc (.cells #[.int .i64 (v.n : Int), .int .i64 (v.root : Int), .int .i64 (v.tail : Int)] 30)).alloc (.cells #[.int .u8 x.1, .int .i64 x.2.1, .string x.2.2] 38)).alloc (.cells #[.int .i64 0, .int .i64 0, .int .i64 0] 30)) (.int .i64 (v.tail : Int)) 3 (w.heap.size + 1 + 1 + 1) (by simp)
  have e1 : (w.alloc (.cells #[.int .i64 (v.n : Int), .int .i64 (v.root : Int), .int .i64 (v.tail : Int)] 30)).heap.size = w.heap.size + 1 := by simp
  have e2 : ((w.alloc (.cells #[.int .i64 (v.n : Int), .int .i64 (v.root : Int), .int .i64 (v.tail : Int)] 30)).alloc (.cells #[.int .u8 x.1, .int .i64 x.2.1, .string x.2.2] 38)).heap.size = w.heap.size + 1 + 1 := by simp
  rw [e1] at q6
  rw [e2] at q8
  have hb4 : Below w.heap.size w ((((w.alloc (.cells #[.int .i64 (v.n : Int), .int .i64 (v.root : Int), .int .i64 (v.tail : Int)] 30)).alloc (.cells #[.int .u8 x.1, .int .i64 x.2.1, .string x.2.2] 38)).alloc (.cells #[.int .i64 0, .int .i64 0, .int .i64 0] 30)).alloc (.cells #[.int .i64 (v.tail : Int)] 3)) := ((((Below.refl _ w).alloc (Nat.le_refl _) _).alloc (by simp) _).alloc (by simp; omega) _).alloc (by simp; omega) _
  have hs4 : ((((w.alloc (.cells #[.int .i64 (v.n : Int), .int .i64 (v.root : Int), .int .i64 (v.tail : Int)] 30)).alloc (.cells #[.int .u8 x.1, .int .i64 x.2.1, .string x.2.2] 38)).alloc (.cells #[.int .i64 0, .int .i64 0, .int .i64 0] 30)).alloc (.cells #[.int .i64 (v.tail : Int)] 3)).heap.size = w.heap.size + 1 + 1 + 1 + 1 := by simp
  have HQ := Lib.hid (And.intro q5 (And.intro q6 (And.intro q8 hlit)))
  have HB4 := Lib.hid hb4
  have HS4 := Lib.hid hs4
  have HA4 := Lib.hid (h.below hb4)
  clear h hv q5 q6 q8 hlit e1 e2 hb4 hs4 HA
  have hcase : v.n = 0 ∨ 0 < v.n := by omega
  rcases hcase with hz | hz
  case' inl =>
    have hz' : ¬ (0 : Int) < (v.n : Int) := by omega
    have HZ := Lib.hid hz
    clear hz
    go_enter Try.func14, Try.ntmps14
    go_wp2_with fail
  case' inr =>
    have hz' : (0 : Int) < (v.n : Int) := by omega
    obtain ⟨q, hq⟩ : ∃ q, q = v.n % 32 := ⟨_, rfl⟩
    rw [← hq] at hsl
    have hq0 : ¬ (q : Int) = 0 := by have := hnf'.out; omega
    clear hz hq
    go_enter Try.func14, Try.ntmps14
    go_wp2_with (go_at_call 41; refine (hsl.out _).mono ?_; rintro e w' ⟨rfl, rfl⟩)
  all_goals
    generalize (((w.alloc (.cells #[.int .i64 (v.n : Int), .int .i64 (v.root : Int), .int .i64 (v.tail : Int)] 30)).alloc (.cells #[.int .u8 x.1, .int .i64 x.2.1, .string x.2.2] 38)).alloc (.cells #[.int .i64 0, .int .i64 0, .int .i64 0] 30)).alloc (.cells #[.int .i64 (v.tail : Int)] 3) = w4 at HQ HB4 HS4 HA4 ⊢
    refine (vfresh ow [v.tail] _ w4 HA4.out HQ.out.2.2.2 (by show 1 ≤ 4194304; decide)).mono ?_
    rintro e w5 ⟨rfl, hb5⟩
    obtain ⟨zr, hzr⟩ : ∃ z, z = w.heap.size + 1 + 1 := ⟨_, rfl⟩
    rw [← hzr] at HQ ⊢
    obtain ⟨zx, hzx⟩ : ∃ z, z = w.heap.size + 1 := ⟨_, rfl⟩
    rw [← hzx] at HQ ⊢
    obtain ⟨zv, hzv⟩ : ∃ z, z = w.heap.size := ⟨_, rfl⟩
    rw [← hzv] at HQ ⊢
    have hs5 := hb5.size
    have HZ := Lib.hid (show (w.heap.size ≤ zv ∧ zv < w5.heap.size) ∧ (w.heap.size ≤ zx ∧ zx < w5.heap.size) ∧ (w.heap.size ≤ zr ∧ zr < w5.heap.size) from by have := HS4.out; omega)
    have nvr : ¬ zv = zr := by omega
    have nrv : ¬ zr = zv := by omega
    clear hzr hzx hzv hs5
    have HB5 := Lib.hid (HB4.out.trans (hb5.mono HB4.out.size))
    have HA5 := Lib.hid (HA4.out.below hb5)
    have q5 := HQ.out.1.below hb5
    have Q5 := Lib.hid q5
    have Q6 := Lib.hid (HQ.out.2.1.below hb5)
    have Q8 := Lib.hid (HQ.out.2.2.1.below hb5)
    obtain ⟨c0, c1, c2, _⟩ := q5.all
    clear q5 HQ HB4 HS4 HA4 hb5
    go_wp2_with fail
    refine (vbegin_no v ow (freshN M ow [v.tail]) w5 HA5.out hroom).mono ?_
    rintro e w6 ⟨rfl, hb6⟩
    have q5 := Q5.out.below hb6
    have q8 := Q8.out.below hb6
    have HB6 := Lib.hid (HB5.out.trans (hb6.mono HB5.out.size))
    clear c0 c1 c2 Q5 Q6 Q8 hb6 HB5
    obtain ⟨c0, c1, c2, f0, f1, f2⟩ := q5.all
    obtain ⟨d0, d1, d2, g0, g1, g2⟩ := q8.all
    clear q5 q8
    go_wp2_with fail
    refine bodyPost_ret (v := .tuple #[vagg ⟨0, 0, 0⟩, .int .i64 5]) (by simp [results, Try.results14, go_sem, vagg, d0, d1, d2]) rfl ⟨rfl, ?_⟩
    exact (((HB6.out.setCell (p := ⟨zr, 0, none⟩) HZ.out.2.2.1 _).setCell (p := ⟨zr, 1, none⟩) HZ.out.2.2.1 _).setCell (p := ⟨zr, 2, none⟩) HZ.out.2.2.1 _)
set_option maxRecDepth 100000 in
set_option maxHeartbeats 1600000 in
theorem vPush_fullnone (v : Vc) (l : Vs) (x : Int × Int × ByteArray) (ow : Int) (w : World) (h : Ar w b most M F) (hv : VecIs M v l) (hlt : l.length < 1024) (hnf : 0 < l.length ∧ l.length % 32 = 0) (hroom : most < live (most + 1) M + (freshN M ow [v.root] + 1)) :
    Calls Try.prog 14 #[ap b, vagg v, xagg x, .int .u32 ow] w fun e w' => e = .returned (.tuple #[vagg ⟨0, 0, 0⟩, .int .i64 5]) ∧ Below w.heap.size w w' := by
  have HF := Lib.hid (show ∀ q, F q → q < w.heap.size from fun q hq => h.lt hq)
  have HA := Lib.hid h
  have HV := Lib.hid hv
  have hn0 : ¬ (1024 : Int) ≤ (v.n : Int) := by have := hv.n; omega
  have hn2 : v.n < 1024 := by have := hv.n; omega
  have hnf' := Lib.hid (show 0 < v.n ∧ v.n % 32 = 0 by have := hv.n; omega)
  have hsl := Lib.hid (show ∀ W, Calls Try.prog 41 #[.int .i64 (v.n : Int)] W fun e w' => e = .returned (.int .i64 ((v.n % 32 : Nat) : Int)) ∧ W = w' from fun W => vslot v.n W (by omega))
  have q5 := (((C3.new w 30 (.int .i64 (v.n : Int)) (.int .i64 (v.root : Int)) (.int .i64 (v.tail : Int))).alloc (.cells #[.int .u8 x.1, .int .i64 x.2.1, .string x.2.2] 38)).alloc (.cells #[.int .i64 0, .int .i64 0, .int .i64 0] 30)).alloc (.cells #[.int .i64 (v.tail : Int)] 3)
  have q6 := ((C3.new (w.alloc (.cells #[.int .i64 (v.n : Int), .int .i64 (v.root : Int), .int .i64 (v.tail : Int)] 30)) 38 (.int .u8 x.1) (.int .i64 x.2.1) (.string x.2.2)).alloc (.cells #[.int .i64 0, .int .i64 0, .int .i64 0] 30)).alloc (.cells #[.int .i64 (v.tail : Int)] 3)
  have q8 := (C3.new ((w.alloc (.cells #[.int .i64 (v.n : Int), .int .i64 (v.root : Int), .int .i64 (v.tail : Int)] 30)).alloc (.cells #[.int .u8 x.1, .int .i64 x.2.1, .string x.2.2] 38)) 30 (.int .i64 0) (.int .i64 0) (.int .i64 0)).alloc (.cells #[.int .i64 (v.tail : Int)] 3)
  have hlit := Rd.one' (((w.alloc (.cells #[.int .i64 (v.n : Int), .int .i64 (v.root : Int), .int .i64 (v.tail : Int)] 30)).alloc (.cells #[.int .u8 x.1, .int .i64 x.2.1, .string x.2.2] 38)).alloc (.cells #[.int .i64 0, .int .i64 0, .int .i64 0] 30)) (.int .i64 (v.tail : Int)) 3 (w.heap.size + 1 + 1 + 1) (by simp)
  have e1 : (w.alloc (.cells #[.int .i64 (v.n : Int), .int .i64 (v.root : Int), .int .i64 (v.tail : Int)] 30)).heap.size = w.heap.size + 1 := by simp
  have e2 : ((w.alloc (.cells #[.int .i64 (v.n : Int), .int .i64 (v.root : Int), .int .i64 (v.tail : Int)] 30)).alloc (.cells #[.int .u8 x.1, .int .i64 x.2.1, .string x.2.2] 38)).heap.size = w.heap.size + 1 + 1 := by simp
  rw [e1] at q6
  rw [e2] at q8
  have hb4 : Below w.heap.size w ((((w.alloc (.cells #[.int .i64 (v.n : Int), .int .i64 (v.root : Int), .int .i64 (v.tail : Int)] 30)).alloc (.cells #[.int .u8 x.1, .int .i64 x.2.1, .string x.2.2] 38)).alloc (.cells #[.int .i64 0, .int .i64 0, .int .i64 0] 30)).alloc (.cells #[.int .i64 (v.tail : Int)] 3)) := ((((Below.refl _ w).alloc (Nat.le_refl _) _).alloc (by simp) _).alloc (by simp; omega) _).alloc (by simp; omega) _
  have hs4 : ((((w.alloc (.cells #[.int .i64 (v.n : Int), .int .i64 (v.root : Int), .int .i64 (v.tail : Int)] 30)).alloc (.cells #[.int .u8 x.1, .int .i64 x.2.1, .string x.2.2] 38)).alloc (.cells #[.int .i64 0, .int .i64 0, .int .i64 0] 30)).alloc (.cells #[.int .i64 (v.tail : Int)] 3)).heap.size = w.heap.size + 1 + 1 + 1 + 1 := by simp
  have HQ := Lib.hid (And.intro q5 (And.intro q6 (And.intro q8 hlit)))
  have HB4 := Lib.hid hb4
  have HS4 := Lib.hid hs4
  have HA4 := Lib.hid (h.below hb4)
  clear h hv q5 q6 q8 hlit e1 e2 hb4 hs4 HA
  have hz' : (0 : Int) < (v.n : Int) := by have := hnf'.out; omega
  rw [hnf'.out.2] at hsl
  go_enter Try.func14, Try.ntmps14
  go_wp2_with (go_at_call 41; refine (hsl.out _).mono ?_; rintro e w' ⟨rfl, rfl⟩)
  generalize (((w.alloc (.cells #[.int .i64 (v.n : Int), .int .i64 (v.root : Int), .int .i64 (v.tail : Int)] 30)).alloc (.cells #[.int .u8 x.1, .int .i64 x.2.1, .string x.2.2] 38)).alloc (.cells #[.int .i64 0, .int .i64 0, .int .i64 0] 30)).alloc (.cells #[.int .i64 (v.tail : Int)] 3) = w4 at HQ HB4 HS4 HA4 ⊢
  refine (vfresh ow [v.tail] _ w4 HA4.out HQ.out.2.2.2 (by show 1 ≤ 4194304; decide)).mono ?_
  rintro e w5 ⟨rfl, hb5⟩
  obtain ⟨zr, hzr⟩ : ∃ z, z = w.heap.size + 1 + 1 := ⟨_, rfl⟩
  rw [← hzr] at HQ ⊢
  obtain ⟨zx, hzx⟩ : ∃ z, z = w.heap.size + 1 := ⟨_, rfl⟩
  rw [← hzx] at HQ ⊢
  obtain ⟨zv, hzv⟩ : ∃ z, z = w.heap.size := ⟨_, rfl⟩
  rw [← hzv] at HQ ⊢
  have hs5 := hb5.size
  have HZ := Lib.hid (show (w.heap.size ≤ zv ∧ zv < w5.heap.size) ∧ (w.heap.size ≤ zx ∧ zx < w5.heap.size) ∧ (w.heap.size ≤ zr ∧ zr < w5.heap.size) from by have := HS4.out; omega)
  have nvr : ¬ zv = zr := by omega
  have nrv : ¬ zr = zv := by omega
  have NXV := Lib.hid (show zx ≠ zv ∧ zr ≠ zv from by omega)
  clear hzr hzx hzv hs5
  have HB5 := Lib.hid (HB4.out.trans (hb5.mono HB4.out.size))
  have HA5 := Lib.hid (HA4.out.below hb5)
  have q5 := HQ.out.1.below hb5
  have Q5 := Lib.hid q5
  have Q6 := Lib.hid (HQ.out.2.1.below hb5)
  have Q8 := Lib.hid (HQ.out.2.2.1.below hb5)
  obtain ⟨c0, c1, c2, _⟩ := q5.all
  clear q5 HQ HB4 HS4 HA4 hb5
  have hb5' : Below w5.heap.size w5 (w5.alloc (.cells #[.int .i64 (v.root : Int)] 3)) := (Below.refl _ w5).alloc (Nat.le_refl _) _
  have hlit2 := Lib.hid (Rd.one' w5 (.int .i64 (v.root : Int)) 3 w5.heap.size rfl)
  have HA5' := Lib.hid (HA5.out.below hb5')
  go_wp2_with fail
  refine (vfresh ow [v.root] _ _ HA5'.out hlit2.out (by show 1 ≤ 4194304; decide)).mono ?_
  rintro e w5b ⟨rfl, hb5b⟩
  have hbb : Below w5.heap.size w5 w5b := hb5'.trans (hb5b.mono hb5'.size)
  have HB5b := Lib.hid (HB5.out.trans (hbb.mono HB5.out.size))
  have HA5b := Lib.hid (HA5.out.below hbb)
  have q5 := Q5.out.below hbb
  have Q5b := Lib.hid q5
  have Q6b := Lib.hid (Q6.out.below hbb)
  have Q8b := Lib.hid (Q8.out.below hbb)
  have hsb := hbb.size
  have HZb := Lib.hid (show (w.heap.size ≤ zv ∧ zv < w5b.heap.size) ∧ (w.heap.size ≤ zx ∧ zx < w5b.heap.size) ∧ (w.heap.size ≤ zr ∧ zr < w5b.heap.size) from by have := HZ.out; omega)
  clear c0 c1 c2 hb5' hlit2 HA5' hb5b hbb Q5 Q6 Q8 HB5 HA5 HZ hsb
  obtain ⟨c0, c1, c2, _⟩ := q5.all
  clear q5
  have hbg := vbegin_no v ow (freshN M ow [v.root] + 1) w5b HA5b.out hroom
  rw [show ((freshN M ow [v.root] + 1 : Nat) : Int) = (freshN M ow [v.root] : Int) + 1 by omega] at hbg
  have HBG := Lib.hid hbg
  have hfr : freshN M ow [v.root] ≤ 1 := freshN_le M ow [v.root]
  clear hbg
  go_wp2_with fail
  refine HBG.out.mono ?_
  rintro e w6 ⟨rfl, hb6⟩
  have q5 := Q5b.out.below hb6
  have q8 := Q8b.out.below hb6
  have HB6 := Lib.hid (HB5b.out.trans (hb6.mono HB5b.out.size))
  clear c0 c1 c2 Q5b Q6b Q8b hb6 HB5b
  obtain ⟨c0, c1, c2, f0, f1, f2⟩ := q5.all
  obtain ⟨d0, d1, d2, g0, g1, g2⟩ := q8.all
  clear q5 q8
  go_wp2_with fail
  refine bodyPost_ret (v := .tuple #[vagg ⟨0, 0, 0⟩, .int .i64 5]) (by simp [results, Try.results14, go_sem, vagg, d0, d1, d2]) rfl ⟨rfl, ?_⟩
  exact (((HB6.out.setCell (p := ⟨zr, 0, none⟩) HZb.out.2.2.1 _).setCell (p := ⟨zr, 1, none⟩) HZb.out.2.2.1 _).setCell (p := ⟨zr, 2, none⟩) HZb.out.2.2.1 _)
end

end Go.Proofs.Ytgkhbnkbhcginaa
