/- Layer 7: what every statement of it asks first (lives). -/
import Derived.Test.YtjdpgehmkcdmfaaFrom07
import Derived.Test.YtjdpgehmkcdmfaaPage07
import Derived.Test.YtjdpgehmkcdmfaaFill07
namespace Go.Proofs.Ytjdpgehmkcdmfaa
open Go.RowKit

/-- A row laid at once. -/
theorem rd_lit (w : World) (cs : Array Value) (t : TypeId) (n b : Nat) (hb : b = w.heap.size) : Rd (w.alloc (.cells cs t)) (.slice (some ⟨b, 0, none⟩) n n) n cs.toList := by
  subst hb
  refine .inr ⟨_, 0, n, rfl, Nat.le_refl _, fun j u hu => ?_⟩
  have h := cell_of_row _ _ j cs t (0, 0) (heap_alloc_new w (.cells cs t))
  rw [Nat.zero_add, h]
  simpa using hu
theorem gnumber (n : Int) (w : World) : Calls Try.prog 24 #[.int .i64 n] w fun e w' => e = .returned (xagg (2, n, ⟨#[]⟩)) ∧ Gw w w' := by
  go_enter Try.func24, Try.ntmps24
  go_wp2_with fail
  exact bodyPost_ret (v := xagg (2, n, ⟨#[]⟩)) (by simp [results, Try.results24, go_sem]) rfl ⟨rfl, (Gw.refl _).alloc _ _⟩
theorem Lone.stp {w0 w w' : World} {b most : Nat} {M M' : Cells} {F : Nat → Prop} (h : Lone w0 w b most M F) (k : Stp w w' b most M' F) : Lone w0 w' b most M' (Fn F w w') := h.step k.ar k.kp
/-- From, in an arena with room enough. -/
theorem from_ok {w w' : World} {b most : Nat} {M : Cells} {F : Nat → Prop} {lv : Vs} {e : Ending} (h : Fromd w w' b most M F lv e) (h1 : lv.length ≤ 1024) (h2 : live (most + 1) M + 35 ≤ most) : ∃ v ks M', e = .returned (.tuple #[vagg v, .int .i64 0]) ∧ Mine (most + 1) M M' 4294967295 v lv ks ∧ Stp w w' b most M' F := by
  rcases h with h | ⟨er, _, _, h3 | h3⟩
  · exact h
  · omega
  · omega
def xs3 : Vs := [(2, 1, ⟨#[]⟩), (2, 2, ⟨#[]⟩), (2, 3, ⟨#[]⟩)]
set_option maxRecDepth 100000 in
set_option maxHeartbeats 800000 in
theorem lives7 (w : World) : Calls Try.prog 28 #[] w fun e w' => e = .returned (.bool true) ∧ Below w.heap.size w w' := by
  go_enter Try.func28, Try.ntmps28
  go_wp2_with fail
  refine (anew 50 w (by omega) (by omega)).mono ?_
  rintro e w1 ⟨rfl, ha, hb⟩
  have L1 : Lone w w1 w.heap.size 50 (fun _ => none) (fun k => k = w.heap.size) := ⟨ha, hb, fun k e => Nat.le_of_eq e.symm⟩
  obtain ⟨b, hbb⟩ : ∃ b, b = w.heap.size := ⟨_, rfl⟩
  rw [← hbb] at L1 ⊢
  have HL1 := Lib.hid L1
  clear ha hb hbb L1
  go_wp2_with fail
  refine (vnumber 1 w1).mono ?_
  rintro e w2 ⟨rfl, hb2⟩
  have HL2 := Lib.hid (HL1.out.below hb2)
  clear hb2 HL1
  go_wp2_with fail
  refine (vnumber 2 w2).mono ?_
  rintro e w3 ⟨rfl, hb3⟩
  have HL3 := Lib.hid (HL2.out.below hb3)
  clear hb3 HL2
  go_wp2_with fail
  refine (vnumber 3 w3).mono ?_
  rintro e w4 ⟨rfl, hb4⟩
  have HL4 := Lib.hid (HL3.out.below hb4)
  clear hb4 HL3
  go_wp2_with fail
  refine (vfrom xs3 _ _ (HL4.out.alloc _).ar (rd_lit w4 #[.int .u8 2, .int .i64 1, .string ⟨#[]⟩, .int .u8 2, .int .i64 2, .string ⟨#[]⟩, .int .u8 2, .int .i64 3, .string ⟨#[]⟩] 38 3 _ rfl) (fun k hk hf => by injection hk with hk; subst hk; exact absurd (HL4.out.ar.lt hf) (Nat.lt_irrefl _)) (fun _ => Nat.zero_le _)).mono ?_
  rintro e w5 hfd
  obtain ⟨v, ks, M', rfl, hM, hs⟩ := from_ok hfd (by decide) (by rw [live_zero fun _ => rfl]; decide)
  have HL5 := Lib.hid ((HL4.out.alloc _).stp hs)
  generalize Fn _ _ _ = F5 at HL5
  have HM := Lib.hid hM
  clear hs hM hfd HL4
  go_wp2_with fail
  refine (vpage v xs3 1 9 _ (HL5.out.alloc _).ar HM.out.vec (by decide) (by decide)).mono ?_
  rintro e w6 ⟨x, rfl, ho, hb6⟩
  have HL6 := Lib.hid ((HL5.out.alloc _).below hb6)
  have q6 := (C3.new w5 30 (.int .i64 (v.n : Int)) (.int .i64 (v.root : Int)) (.int .i64 (v.tail : Int))).below hb6
  rw [show v.n = 3 from HM.out.n] at q6
  have ho' : w6.ownsRow (w5.alloc (.cells #[.int .i64 (v.n : Int), .int .i64 (v.root : Int), .int .i64 (v.tail : Int)] 30)).heap.size 38 3 x 2 [.int .u8 2, .int .i64 2, .string ⟨#[]⟩, .int .u8 2, .int .i64 3, .string ⟨#[]⟩] := ho
  obtain ⟨g, m, rfl, hgm, x0, _⟩ := own_at ho' (j := 0) rfl
  have hx := ho'.cells (g := g) rfl
  have x1 : w6.cell? ⟨g, 1, none⟩ = some (.int .i64 2) := by have := hx 1 _ rfl; rwa [add_none] at this
  have x2 : w6.cell? ⟨g, 2, none⟩ = some (.string ⟨#[]⟩) := by have := hx 2 _ rfl; rwa [add_none] at this
  have hgl : g < w6.heap.size := World.block_lt_of_cell? w6 _ x0
  have G0 := Gr.cell x0 hgl
  have G1 := Gr.cell x1 hgl
  have G2 := Gr.cell x2 hgl
  have K0 := Gr.cell q6.c0 q6.lt
  have HM6 := Lib.hid HM.out
  clear hb6 HL5 ho ho' hx x0 x1 x2 q6 HM
  obtain ⟨z, hz⟩ : ∃ z, z = w5.heap.size := ⟨_, rfl⟩
  rw [← hz] at K0 ⊢
  clear hz
  go_wp2_with fail
  refine region_grown (by kernel_rfl) (by kernel_rfl) ?_
  repeat (go_big_quiet_step ((go_at_call 24; exact Gr.calls _ (gnumber _ _))))
  refine wpQuiet_nil ?_
  rintro _ ⟨g', rfl⟩
  go_wp2_with fail
  go_ret
  exact ⟨rfl, HL6.out.bel.trans (g'.grown.below.mono HL6.out.bel.size)⟩

end Go.Proofs.Ytjdpgehmkcdmfaa
