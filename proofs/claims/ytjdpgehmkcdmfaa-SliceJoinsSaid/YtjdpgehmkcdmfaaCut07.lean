/- Package slice: Cut. -/
import Derived.Test.YtjdpgehmkcdmfaaPart07
import Derived.Test.YtjdpgehmkcdmfaaFrom07
namespace Go.Proofs.Ytjdpgehmkcdmfaa
open Go.RowKit

section
variable {b most : Nat} {M M0 : Cells} {F : Nat → Prop}
set_option maxRecDepth 100000 in
theorem vcut_no (a : Value) (v : Vc) (f t : Int) (w : World) (h : f < 0 ∨ t < f ∨ (v.n : Int) < t) :
    Calls Try.prog 35 #[a, vagg v, .int .i64 f, .int .i64 t] w fun e w' => e = .returned (.tuple #[vagg ⟨0, 0, 0⟩, .int .i64 3]) ∧ Below w.heap.size w w' := by
  have hb : Below w.heap.size w ((w.alloc (.cells #[.int .i64 (v.n : Int), .int .i64 (v.root : Int), .int .i64 (v.tail : Int)] 30)).alloc (.cells #[.int .i64 0, .int .i64 0, .int .i64 0] 30)) := ((Below.refl _ w).alloc (Nat.le_refl _) _).alloc (by simp) _
  have HB := Lib.hid hb
  by_cases h1 : f < 0
  · clear h hb
    go_enter Try.func35, Try.ntmps35
    go_wp2_with fail
    exact bodyPost_ret (v := .tuple #[vagg ⟨0, 0, 0⟩, .int .i64 3]) (by simp [results, Try.results35, go_sem, vagg]) rfl ⟨rfl, HB.out⟩
  · by_cases h2 : t < f
    · clear h hb
      go_enter Try.func35, Try.ntmps35
      go_wp2_with fail
      exact bodyPost_ret (v := .tuple #[vagg ⟨0, 0, 0⟩, .int .i64 3]) (by simp [results, Try.results35, go_sem, vagg]) rfl ⟨rfl, HB.out⟩
    · have h3 : (v.n : Int) < t := by omega
      clear h hb
      go_enter Try.func35, Try.ntmps35
      go_wp2_with fail
      exact bodyPost_ret (v := .tuple #[vagg ⟨0, 0, 0⟩, .int .i64 3]) (by simp [results, Try.results35, go_sem, vagg]) rfl ⟨rfl, HB.out⟩
/-- What comes of From comes of the call around it. -/
theorem Fromd.around {w w1 w2 w3 : World} {lv : Vs} {e : Ending} (h : Fromd w1 w2 b most M F lv e) (hF : ∀ x, F x → x < w.heap.size) (hb : Below w.heap.size w w1) {z : Nat} (hz : w.heap.size ≤ z) (hz1 : z < w1.heap.size) (hk : Kp (fun g => g = z) w2 w3) : Fromd w w3 b most M F lv e := by
  have key : ∀ M', Stp w1 w2 b most M' F → Stp w w3 b most M' F := fun M' hs => Stp.close hF hb hs hk (fun g e => e ▸ ⟨hz, hz1⟩)
  rcases h with ⟨v, ks, M', h1, h2, h3⟩ | ⟨er, h1, h2, h3⟩
  · exact .inl ⟨v, ks, M', h1, h2, key _ h3⟩
  · exact .inr ⟨er, h1, key _ h2, h3⟩
theorem Fromd.form {w w' : World} {lv : Vs} {e : Ending} (h : Fromd w w' b most M F lv e) : ∃ (v : Vc) (er : Int) (M' : Cells), e = .returned (.tuple #[vagg v, .int .i64 er]) ∧ Stp w w' b most M' F := by
  rcases h with ⟨v, ks, M', h1, h2, h3⟩ | ⟨er, h1, h2, h3⟩
  · exact ⟨v, 0, M', h1, h3⟩
  · exact ⟨_, er, M, h1, h2⟩
set_option maxRecDepth 100000 in
set_option maxHeartbeats 800000 in
theorem vcut (v : Vc) (l : Vs) (f t : Nat) (w : World) (h : Ar w b most M F) (hv : VecIs M v l) (hft : f ≤ t) (ht : t ≤ l.length) (hr : ∀ j, rf (M j) ≤ 1000) :
    Calls Try.prog 35 #[ap b, vagg v, .int .i64 f, .int .i64 t] w fun e w' => Fromd w w' b most M F ((l.drop f).take (t - f)) e := by
  have hn := hv.n
  have hle := hv.le
  have HF := Lib.hid (show ∀ q, F q → q < w.heap.size from fun q hq => h.lt hq)
  have g1 : ¬ (f : Int) < 0 := by omega
  have g2 : ¬ (t : Int) < (f : Int) := by omega
  have g3 : ¬ (v.n : Int) < (t : Int) := by omega
  have hb : Below w.heap.size w ((w.alloc (.cells #[.int .i64 (v.n : Int), .int .i64 (v.root : Int), .int .i64 (v.tail : Int)] 30)).alloc (.cells #[.int .i64 0, .int .i64 0, .int .i64 0] 30)) := ((Below.refl _ w).alloc (Nat.le_refl _) _).alloc (by simp) _
  have q8 := C3.new (w.alloc (.cells #[.int .i64 (v.n : Int), .int .i64 (v.root : Int), .int .i64 (v.tail : Int)] 30)) 30 (.int .i64 0) (.int .i64 0) (.int .i64 0)
  rw [show (w.alloc (.cells #[.int .i64 (v.n : Int), .int .i64 (v.root : Int), .int .i64 (v.tail : Int)] 30)).heap.size = w.heap.size + 1 by simp] at q8
  have HP := Lib.hid (vpart v l f t _ (h.below hb) hv hft ht)
  have HB := Lib.hid hb
  have HA := Lib.hid h
  have HR := Lib.hid hr
  have Q8 := Lib.hid q8
  generalize (l.drop f).take (t - f) = xs at HP ⊢
  clear h hv hn hb hr q8
  go_enter Try.func35, Try.ntmps35
  go_wp2_with fail
  refine HP.out.mono ?_
  rintro e w2 ⟨x, rfl, ho, hb2⟩
  have HB2 := Lib.hid (HB.out.trans (hb2.mono HB.out.size))
  have Q82 := Lib.hid (Q8.out.below hb2)
  have HO := Lib.hid (own_less ho HB.out.size)
  obtain ⟨A1, m1, rfl, _⟩ := (Rd.of_own ho).form
  obtain ⟨z8, hz8⟩ : ∃ z, z = w.heap.size + 1 := ⟨_, rfl⟩
  rw [← hz8] at Q82 ⊢
  have HZ := Lib.hid (show w.heap.size ≤ z8 by omega)
  clear ho hb2 HP HB Q8 hz8
  go_wp2_with fail
  refine (vfrom xs _ w2 (HA.out.below HB2.out) (Rd.of_own HO.out) (fun k hk hf => by have := HF.out k hf; have := (HO.out.lt k hk).1; omega) HR.out).mono ?_
  rintro e w3 hfd
  obtain ⟨v', er, M', rfl, hs⟩ := hfd.form
  have q83 := Q82.out.kp hs.kp (fun hf => by have := HF.out _ hf; have := HZ.out; omega)
  obtain ⟨d0, d1, d2, e0, e1, e2⟩ := q83.all
  have HFD := Lib.hid hfd
  clear hs q83 hfd
  go_wp2_with fail
  refine bodyPost_ret (v := .tuple #[vagg v', .int .i64 er]) (by simp [results, Try.results35, go_sem, vagg, d0, d1, d2]) rfl (HFD.out.around HF.out HB2.out HZ.out Q82.out.lt ?_)
  exact ((((Kp.refl (fun g => g = z8) w3).setCell (.inl rfl) _).setCell (.inl rfl) _).setCell (.inl rfl) _)
/-- Cut, of any two numbers. -/
theorem vcut_any (v : Vc) (l : Vs) (f t : Int) (w : World) (h : Ar w b most M F) (hv : VecIs M v l) (hr : ∀ j, rf (M j) ≤ 1000) :
    Calls Try.prog 35 #[ap b, vagg v, .int .i64 f, .int .i64 t] w fun e w' => ((f < 0 ∨ t < f ∨ (l.length : Int) < t) ∧ e = .returned (.tuple #[vagg ⟨0, 0, 0⟩, .int .i64 3]) ∧ Below w.heap.size w w') ∨ (∃ fN tN : Nat, f = fN ∧ t = tN ∧ fN ≤ tN ∧ tN ≤ l.length ∧ Fromd w w' b most M F ((l.drop fN).take (tN - fN)) e) := by
  have hn := hv.n
  by_cases h1 : f < 0 ∨ t < f ∨ (v.n : Int) < t
  · refine (vcut_no (ap b) v f t w h1).mono ?_
    rintro e w' ⟨rfl, hb⟩
    exact .inl ⟨by omega, rfl, hb⟩
  · have hp := vcut v l f.toNat t.toNat w h hv (by omega) (by omega) hr
    rw [show ((f.toNat : Nat) : Int) = f by omega, show ((t.toNat : Nat) : Int) = t by omega] at hp
    refine hp.mono ?_
    intro e w' hfd
    exact .inr ⟨f.toNat, t.toNat, by omega, by omega, by omega, by omega, hfd⟩
end

end Go.Proofs.Ytjdpgehmkcdmfaa
