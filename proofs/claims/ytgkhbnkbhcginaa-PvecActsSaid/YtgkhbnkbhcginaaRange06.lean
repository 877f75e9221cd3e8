/- Package pvec: Set where there is no such place, whoever owns the vector. -/
import Derived.Test.YtgkhbnkbhcginaaSetNo06
namespace Go.Proofs.Ytgkhbnkbhcginaa
open Go.RowKit

set_option maxRecDepth 100000 in
set_option maxHeartbeats 800000 in
theorem vSet_rangeI (b : Nat) (v : Vc) (i : Int) (x : Int × Int × ByteArray) (ow : Int) (w : World) (hi : i < 0 ∨ (v.n : Int) ≤ i) :
    Calls Try.prog 16 #[ap b, vagg v, .int .i64 i, xagg x, .int .u32 ow] w fun e w' => e = .returned (.tuple #[vagg ⟨0, 0, 0⟩, .int .i64 3]) ∧ Below w.heap.size w w' := by
  have hb6 : Below w.heap.size w ((((((w.alloc (.cells #[ap b] 25)).alloc (.cells #[.int .i64 (v.n : Int), .int .i64 (v.root : Int), .int .i64 (v.tail : Int)] 30)).alloc (.cells #[.int .i64 i] 3)).alloc (.cells #[.int .u8 x.1, .int .i64 x.2.1, .string x.2.2] 38)).alloc (.cells #[.int .u32 ow] 32)).alloc (.cells #[.int .i64 0, .int .i64 0, .int .i64 0] 30)) :=
    ((((((Below.refl _ w).alloc (Nat.le_refl _) _).alloc (by simp) _).alloc (by simp; omega) _).alloc (by simp; omega) _).alloc (by simp; omega) _).alloc (by simp; omega) _
  have q10 := C3.new (((((w.alloc (.cells #[ap b] 25)).alloc (.cells #[.int .i64 (v.n : Int), .int .i64 (v.root : Int), .int .i64 (v.tail : Int)] 30)).alloc (.cells #[.int .i64 i] 3)).alloc (.cells #[.int .u8 x.1, .int .i64 x.2.1, .string x.2.2] 38)).alloc (.cells #[.int .u32 ow] 32)) 30 (.int .i64 0) (.int .i64 0) (.int .i64 0)
  rw [show (((((w.alloc (.cells #[ap b] 25)).alloc (.cells #[.int .i64 (v.n : Int), .int .i64 (v.root : Int), .int .i64 (v.tail : Int)] 30)).alloc (.cells #[.int .i64 i] 3)).alloc (.cells #[.int .u8 x.1, .int .i64 x.2.1, .string x.2.2] 38)).alloc (.cells #[.int .u32 ow] 32)).heap.size = w.heap.size + 1 + 1 + 1 + 1 + 1 by simp] at q10
  have HB := Lib.hid hb6
  have Q := Lib.hid q10
  clear hb6 q10
  go_enter Try.func16, Try.ntmps16
  go_wp2_with fail
  refine (vGet_no v i _ hi).mono ?_
  rintro e w7 ⟨rfl, hb7⟩
  have hB := HB.out.trans (hb7.mono HB.out.size)
  have q := Q.out.below hb7
  obtain ⟨d0, d1, d2, f0, f1, f2⟩ := q.all
  have hl10 := q.lt
  have HB7 := Lib.hid hB
  obtain ⟨z10, hz⟩ : ∃ z, z = w.heap.size + 1 + 1 + 1 + 1 + 1 := ⟨_, rfl⟩
  rw [← hz] at d0 d1 d2 f0 f1 f2 hl10 ⊢
  have HZ := Lib.hid (show w.heap.size ≤ z10 by omega)
  clear hb7 q hB hz HB Q
  go_wp2_with fail
  refine bodyPost_ret (v := .tuple #[vagg ⟨0, 0, 0⟩, .int .i64 3]) (by simp [results, Try.results16, go_sem, vagg, d0, d1, d2, hl10]) rfl ⟨rfl, ?_⟩
  have hb := ((HB7.out.setCell (p := ⟨z10, 0, none⟩) HZ.out (.int .i64 0)).setCell (p := ⟨z10, 1, none⟩) HZ.out (.int .i64 0)).setCell (p := ⟨z10, 2, none⟩) HZ.out (.int .i64 0)
  exact hb.alloc hb.size _

end Go.Proofs.Ytgkhbnkbhcginaa
