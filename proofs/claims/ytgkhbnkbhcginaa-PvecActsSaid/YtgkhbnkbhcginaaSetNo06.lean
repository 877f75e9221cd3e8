/- Package pvec: Set without an owner, where there is no room; at no place. -/
import Derived.Test.YtgkhbnkbhcginaaSetW06
namespace Go.Proofs.Ytgkhbnkbhcginaa
open Go.RowKit

section
variable {b most : Nat} {M : Cells} {F : Nat → Prop}
set_option maxRecDepth 100000 in
set_option maxHeartbeats 1600000 in
theorem vSet_none (v : Vc) (l : Vs) (i : Nat) (x : Int × Int × ByteArray) (w : World) (h : Ar w b most M F) (hv : VecIs M v l) (hi : i < l.length) (hq : i / 32 = (l.length - 1) / 32) (hroom : most < live (most + 1) M + 1) :
    Calls Try.prog 16 #[ap b, vagg v, .int .i64 i, xagg x, .int .u32 0] w fun e w' => e = .returned (.tuple #[vagg ⟨0, 0, 0⟩, .int .i64 5]) ∧ Below w.heap.size w w' := by
  have hn := hv.n
  have hle := hv.le
  have HF := Lib.hid (show ∀ q, F q → q < w.heap.size from fun q hq => h.lt hq)
  have HV := Lib.hid hv
  obtain ⟨y, hy⟩ : ∃ y, l[i]? = some y := ⟨_, List.getElem?_eq_getElem hi⟩
  have HY := Lib.hid hy
  have hi2 : i < 1024 := by omega
  obtain ⟨w6, hw6⟩ : ∃ w6, w6 = (((((w.alloc (.cells #[ap b] 25)).alloc (.cells #[.int .i64 (v.n : Int), .int .i64 (v.root : Int), .int .i64 (v.tail : Int)] 30)).alloc (.cells #[.int .i64 (i : Int)] 3)).alloc (.cells #[.int .u8 x.1, .int .i64 x.2.1, .string x.2.2] 38)).alloc (.cells #[.int .u32 0] 32)).alloc (.cells #[.int .i64 0, .int .i64 0, .int .i64 0] 30) := ⟨_, rfl⟩
  have hb6 : Below w.heap.size w w6 := by
    rw [hw6]
    exact ((((((Below.refl _ w).alloc (Nat.le_refl _) _).alloc (by simp) _).alloc (by simp; omega) _).alloc (by simp; omega) _).alloc (by simp; omega) _).alloc (by simp; omega) _
  have hSB : SB w6 w.heap.size (w.heap.size + 1) (w.heap.size + 1 + 1) (w.heap.size + 1 + 1 + 1) (w.heap.size + 1 + 1 + 1 + 1) (w.heap.size + 1 + 1 + 1 + 1 + 1) b v i x 0 := by
    rw [hw6]
    refine ⟨?_, ?_, ?_, ?_, ?_, ?_⟩
    · rw [World.cell?_alloc_lt _ _ _ (by simp; omega), World.cell?_alloc_lt _ _ _ (by simp; omega), World.cell?_alloc_lt _ _ _ (by simp; omega), World.cell?_alloc_lt _ _ _ (by simp; omega), World.cell?_alloc_lt _ _ _ (by simp)]
      exact cell1_new _ _ _ _ rfl
    · have := ((((C3.new (w.alloc (.cells #[ap b] 25)) 30 (.int .i64 (v.n : Int)) (.int .i64 (v.root : Int)) (.int .i64 (v.tail : Int))).alloc (.cells #[.int .i64 (i : Int)] 3)).alloc (.cells #[.int .u8 x.1, .int .i64 x.2.1, .string x.2.2] 38)).alloc (.cells #[.int .u32 0] 32)).alloc (.cells #[.int .i64 0, .int .i64 0, .int .i64 0] 30)
      simpa using this
    · rw [World.cell?_alloc_lt _ _ _ (by simp), World.cell?_alloc_lt _ _ _ (by simp), World.cell?_alloc_lt _ _ _ (by simp)]
      exact cell1_new _ _ _ _ (by simp)
    · have := ((C3.new (((w.alloc (.cells #[ap b] 25)).alloc (.cells #[.int .i64 (v.n : Int), .int .i64 (v.root : Int), .int .i64 (v.tail : Int)] 30)).alloc (.cells #[.int .i64 (i : Int)] 3)) 38 (.int .u8 x.1) (.int .i64 x.2.1) (.string x.2.2)).alloc (.cells #[.int .u32 0] 32)).alloc (.cells #[.int .i64 0, .int .i64 0, .int .i64 0] 30)
      simpa using this
    · rw [World.cell?_alloc_lt _ _ _ (by simp)]
      exact cell1_new _ _ _ _ (by simp)
    · have := C3.new (((((w.alloc (.cells #[ap b] 25)).alloc (.cells #[.int .i64 (v.n : Int), .int .i64 (v.root : Int), .int .i64 (v.tail : Int)] 30)).alloc (.cells #[.int .i64 (i : Int)] 3)).alloc (.cells #[.int .u8 x.1, .int .i64 x.2.1, .string x.2.2] 38)).alloc (.cells #[.int .u32 0] 32)) 30 (.int .i64 0) (.int .i64 0) (.int .i64 0)
      simpa using this
  have HA6 := Lib.hid (h.below hb6)
  have HB6 := Lib.hid hb6
  have HSB := Lib.hid hSB
  have HN := Lib.hid (show v.n = l.length ∧ l.length ≤ 1024 ∧ i < l.length from ⟨hn, hle, hi⟩)
  clear h hv hy hb6 hSB hn
  go_enter Try.func16, Try.ntmps16
  go_wp2_with fail
  rw [← hw6]
  clear hw6
  obtain ⟨z10, h10⟩ : ∃ z, z = w.heap.size + 1 + 1 + 1 + 1 + 1 := ⟨_, rfl⟩
  rw [← h10] at HSB ⊢
  obtain ⟨z9, h9⟩ : ∃ z, z = w.heap.size + 1 + 1 + 1 + 1 := ⟨_, rfl⟩
  rw [← h9] at HSB ⊢
  obtain ⟨z8, h8⟩ : ∃ z, z = w.heap.size + 1 + 1 + 1 := ⟨_, rfl⟩
  rw [← h8] at HSB ⊢
  obtain ⟨z7, h7⟩ : ∃ z, z = w.heap.size + 1 + 1 := ⟨_, rfl⟩
  rw [← h7] at HSB ⊢
  obtain ⟨z6, h6⟩ : ∃ z, z = w.heap.size + 1 := ⟨_, rfl⟩
  rw [← h6] at HSB ⊢
  obtain ⟨z5, h5⟩ : ∃ z, z = w.heap.size := ⟨_, rfl⟩
  rw [← h5] at HSB ⊢
  have HZ := Lib.hid (show (∀ q, IsZ z5 z6 z7 z8 z9 z10 q → w.heap.size ≤ q) ∧ z6 ≠ z10 from ⟨fun q hq => by rcases hq with e | e | e | e | e | e <;> omega, by omega⟩)
  have NZ := Lib.hid (show ∀ q, IsZ z5 z6 z7 z8 z9 z10 q → ¬ F q from fun q hq hf => by have := HZ.out.1 q hq; have := HF.out q hf; omega)
  clear h5 h6 h7 h8 h9 h10
  refine (vGet v l i y w6 HA6.out HV.out HY.out).mono ?_
  rintro e w7 ⟨rfl, hb7⟩
  have HS7 := Lib.hid (HSB.out.below hb7)
  have HB7 := Lib.hid (HB6.out.trans (hb7.mono HB6.out.size))
  have HA7 := Lib.hid (HA6.out.below hb7)
  clear hb7 HSB HB6 HA6
  go_wp2_with fail
  have hbX : Below w7.heap.size w7 ((w7.alloc (.cells #[.int .u8 y.1, .int .i64 y.2.1, .string y.2.2] 38)).drew) := ((Below.refl _ w7).alloc (Nat.le_refl _) _).drew
  have HSX := Lib.hid (HS7.out.below hbX)
  have HBX := Lib.hid (HB7.out.trans (hbX.mono HB7.out.size))
  have HAX := Lib.hid (HA7.out.below hbX)
  clear hbX HS7 HB7 HA7
  have r5 : ∀ W', SB W' z5 z6 z7 z8 z9 z10 b v i x 0 → W'.cell? ⟨z5, 0, none⟩ = some (ap b) := fun W' h => h.c5
  have r60 : ∀ W', SB W' z5 z6 z7 z8 z9 z10 b v i x 0 → W'.cell? ⟨z6, 0, none⟩ = some (.int .i64 (v.n : Int)) := fun W' h => h.c6.c0
  have r61 : ∀ W', SB W' z5 z6 z7 z8 z9 z10 b v i x 0 → W'.cell? ⟨z6, 1, none⟩ = some (.int .i64 (v.root : Int)) := fun W' h => h.c6.c1
  have r62 : ∀ W', SB W' z5 z6 z7 z8 z9 z10 b v i x 0 → W'.cell? ⟨z6, 2, none⟩ = some (.int .i64 (v.tail : Int)) := fun W' h => h.c6.c2
  have r7 : ∀ W', SB W' z5 z6 z7 z8 z9 z10 b v i x 0 → W'.cell? ⟨z7, 0, none⟩ = some (.int .i64 (i : Int)) := fun W' h => h.c7
  have r9 : ∀ W', SB W' z5 z6 z7 z8 z9 z10 b v i x 0 → W'.cell? ⟨z9, 0, none⟩ = some (.int .u32 0) := fun W' h => h.c9
  refine wp_region_noPanic ?_
  go_region_held (fun W' => SB W' z5 z6 z7 z8 z9 z10 b v i x 0)
    (first | with_reducible assumption | with_reducible exact HSX.out | with_reducible exact HS8.out | (rename SB _ _ _ _ _ _ _ _ _ _ _ _ => hH; with_reducible exact hH.below ((Below.refl _ _).alloc (Nat.le_refl _) _)) | with_reducible exact HS8.out.below ((Below.refl _ _).alloc (Nat.le_refl _) _))
    ((go_at_call 47; refine (vleaf v l i _ HAX.out HV.out hi).mono ?_; rintro e w8 ⟨xl, rfl, hlf, hb8⟩; have HXL := Lib.hid (hlf.tail hq); have HS8 := Lib.hid (HSX.out.below hb8); have HB8 := Lib.hid (HBX.out.trans (hb8.mono HBX.out.size)); have HA8 := Lib.hid (HAX.out.below hb8); clear hlf hb8))
  refine NoPanic.normal ?_
  obtain rfl : xl = v.tail := HXL.out
  have hbY : Below w8.heap.size w8 (w8.alloc (.cells #[.int .i64 (v.root : Int), .int .i64 (v.tail : Int)] 3)) := (Below.refl _ w8).alloc (Nat.le_refl _) _
  have hpath : Rd (w8.alloc (.cells #[.int .i64 (v.root : Int), .int .i64 (v.tail : Int)] 3)) (.slice (some ⟨w8.heap.size, 1, none⟩) 1 1) 1 (nums (ns [v.tail])) := by
    refine .inr ⟨_, 1, 1, rfl, Nat.le_refl _, fun j u hu => ?_⟩
    have h := cell_of_row _ _ (1 + j) _ 3 (0, 0) (heap_alloc_new w8 (.cells #[.int .i64 (v.root : Int), .int .i64 (v.tail : Int)] 3))
    rw [h]
    match j, hu with
    | 0, hu => simpa [nums, ns] using hu
    | j + 1, hu => simp [nums, ns] at hu
  have HPA := Lib.hid hpath
  have HSY := Lib.hid (HS8.out.below hbY)
  have HBY := Lib.hid (HB8.out.trans (hbY.mono HB8.out.size))
  have HAY := Lib.hid (HA8.out.below hbY)
  generalize w8.alloc (.cells #[.int .i64 (v.root : Int), .int .i64 (v.tail : Int)] 3) = w9 at HPA HSY HBY HAY ⊢
  obtain ⟨zp, hzp⟩ : ∃ z, z = w8.heap.size := ⟨_, rfl⟩
  rw [← hzp] at HPA ⊢
  clear hzp hpath hbY HSX HBX HAX HXL HS8 HB8 HA8
  obtain ⟨a5, a60, a61, a62, a7, a9⟩ := HSY.out.opened
  have hit : decide (i / 32 = (v.n - 1) / 32) = true := by rw [HN.out.1]; simpa using hq
  have hit0 := vinTail v i w9 (by have := HN.out; omega) (by have := HN.out; omega) hi2
  rw [hit] at hit0
  have HIT := Lib.hid hit0
  clear hit hit0
  go_wp2_with fail
  refine HIT.out.mono ?_
  rintro e w10 ⟨rfl, hb10⟩
  have HS10 := Lib.hid (HSY.out.below hb10)
  have HB10 := Lib.hid (HBY.out.trans (hb10.mono HBY.out.size))
  have HA10 := Lib.hid (HAY.out.below hb10)
  have HP10 := Lib.hid (HPA.out.below hb10)
  clear hb10 HSY HBY HAY HPA HIT a5 a60 a61 a62 a7 a9
  go_wp2_with fail
  refine wp_region_noPanic ?_
  go_region_held (fun W' => SB W' z5 z6 z7 z8 z9 z10 b v i x 0)
    (first | with_reducible assumption | with_reducible exact HS10.out.below (Below.refl _ _).drew | with_reducible exact HS10.out | with_reducible exact HS11.out | with_reducible exact HS12.out)
    (first
      | (go_at_call 42; refine (vfresh 0 [v.tail] _ _ (HA10.out.drew) (HP10.out.drew) (by show 1 ≤ 4194304; decide)).mono ?_; rintro e w11 ⟨rfl, hb11⟩; have HS11 := Lib.hid ((HS10.out.below (Below.refl _ _).drew).below hb11); have HB11 := Lib.hid ((HB10.out.trans ((Below.refl _ w10).drew.mono HB10.out.size)).trans (hb11.mono (HB10.out.trans ((Below.refl _ w10).drew.mono HB10.out.size)).size)); have HA11 := Lib.hid (HA10.out.drew.below hb11); clear hb11)
      | (go_at_call 43; refine (vbegin_no v 0 1 _ HA11.out hroom).mono ?_; rintro e w12 ⟨rfl, hb12⟩; have HS12 := Lib.hid (HS11.out.below hb12); have HB12 := Lib.hid (HB11.out.trans (hb12.mono HB11.out.size)); clear hb12))
  refine NoPanic.normal ?_
  clear r5 r60 r61 r62 r7 r9
  have q10 := HS12.out.c10
  obtain ⟨d0, d1, d2, g0, g1, g2⟩ := q10.all
  clear q10
  go_wp2_with fail
  refine bodyPost_ret (v := .tuple #[vagg ⟨0, 0, 0⟩, .int .i64 5]) (by simp [results, Try.results16, go_sem, vagg, d0, d1, d2]) rfl ⟨rfl, ?_⟩
  have hz := HZ.out.1 z10 (.inr (.inr (.inr (.inr (.inr rfl)))))
  exact ((HB12.out.setCell (p := ⟨z10, 0, none⟩) hz _).setCell (p := ⟨z10, 1, none⟩) hz _).setCell (p := ⟨z10, 2, none⟩) hz _
set_option maxRecDepth 100000 in
set_option maxHeartbeats 1600000 in
/-- In a leaf, where there is no room for two. -/
theorem vSet_nonekid (v : Vc) (l : Vs) (i : Nat) (x : Int × Int × ByteArray) (w : World) (h : Ar w b most M F) (hv : VecIs M v l) (hi : i < l.length) (hq : i / 32 ≠ (l.length - 1) / 32) (hroom : most < live (most + 1) M + 2) :
    Calls Try.prog 16 #[ap b, vagg v, .int .i64 i, xagg x, .int .u32 0] w fun e w' => e = .returned (.tuple #[vagg ⟨0, 0, 0⟩, .int .i64 5]) ∧ Below w.heap.size w w' := by
  have hn := hv.n
  have hle := hv.le
  have HF := Lib.hid (show ∀ q, F q → q < w.heap.size from fun q hq => h.lt hq)
  have HV := Lib.hid hv
  obtain ⟨y, hy⟩ : ∃ y, l[i]? = some y := ⟨_, List.getElem?_eq_getElem hi⟩
  have HY := Lib.hid hy
  have hi2 : i < 1024 := by omega
  obtain ⟨w6, hw6⟩ : ∃ w6, w6 = (((((w.alloc (.cells #[ap b] 25)).alloc (.cells #[.int .i64 (v.n : Int), .int .i64 (v.root : Int), .int .i64 (v.tail : Int)] 30)).alloc (.cells #[.int .i64 (i : Int)] 3)).alloc (.cells #[.int .u8 x.1, .int .i64 x.2.1, .string x.2.2] 38)).alloc (.cells #[.int .u32 0] 32)).alloc (.cells #[.int .i64 0, .int .i64 0, .int .i64 0] 30) := ⟨_, rfl⟩
  have hb6 : Below w.heap.size w w6 := by
    rw [hw6]
    exact ((((((Below.refl _ w).alloc (Nat.le_refl _) _).alloc (by simp) _).alloc (by simp; omega) _).alloc (by simp; omega) _).alloc (by simp; omega) _).alloc (by simp; omega) _
  have hSB : SB w6 w.heap.size (w.heap.size + 1) (w.heap.size + 1 + 1) (w.heap.size + 1 + 1 + 1) (w.heap.size + 1 + 1 + 1 + 1) (w.heap.size + 1 + 1 + 1 + 1 + 1) b v i x 0 := by
    rw [hw6]
    refine ⟨?_, ?_, ?_, ?_, ?_, ?_⟩
    · rw [World.cell?_alloc_lt _ _ _ (by simp; omega), World.cell?_alloc_lt _ _ _ (by simp; omega), World.cell?_alloc_lt _ _ _ (by simp; omega), World.cell?_alloc_lt _ _ _ (by simp; omega), World.cell?_alloc_lt _ _ _ (by simp)]
      exact cell1_new _ _ _ _ rfl
    · have := ((((C3.new (w.alloc (.cells #[ap b] 25)) 30 (.int .i64 (v.n : Int)) (.int .i64 (v.root : Int)) (.int .i64 (v.tail : Int))).alloc (.cells #[.int .i64 (i : Int)] 3)).alloc (.cells #[.int .u8 x.1, .int .i64 x.2.1, .string x.2.2] 38)).alloc (.cells #[.int .u32 0] 32)).alloc (.cells #[.int .i64 0, .int .i64 0, .int .i64 0] 30)
      simpa using this
    · rw [World.cell?_alloc_lt _ _ _ (by simp), World.cell?_alloc_lt _ _ _ (by simp), World.cell?_alloc_lt _ _ _ (by simp)]
      exact cell1_new _ _ _ _ (by simp)
    · have := ((C3.new (((w.alloc (.cells #[ap b] 25)).alloc (.cells #[.int .i64 (v.n : Int), .int .i64 (v.root : Int), .int .i64 (v.tail : Int)] 30)).alloc (.cells #[.int .i64 (i : Int)] 3)) 38 (.int .u8 x.1) (.int .i64 x.2.1) (.string x.2.2)).alloc (.cells #[.int .u32 0] 32)).alloc (.cells #[.int .i64 0, .int .i64 0, .int .i64 0] 30)
      simpa using this
    · rw [World.cell?_alloc_lt _ _ _ (by simp)]
      exact cell1_new _ _ _ _ (by simp)
    · have := C3.new (((((w.alloc (.cells #[ap b] 25)).alloc (.cells #[.int .i64 (v.n : Int), .int .i64 (v.root : Int), .int .i64 (v.tail : Int)] 30)).alloc (.cells #[.int .i64 (i : Int)] 3)).alloc (.cells #[.int .u8 x.1, .int .i64 x.2.1, .string x.2.2] 38)).alloc (.cells #[.int .u32 0] 32)) 30 (.int .i64 0) (.int .i64 0) (.int .i64 0)
      simpa using this
  have HA6 := Lib.hid (h.below hb6)
  have HB6 := Lib.hid hb6
  have HSB := Lib.hid hSB
  have HN := Lib.hid (show v.n = l.length ∧ l.length ≤ 1024 ∧ i < l.length from ⟨hn, hle, hi⟩)
  clear h hv hy hb6 hSB hn
  go_enter Try.func16, Try.ntmps16
  go_wp2_with fail
  rw [← hw6]
  clear hw6
  obtain ⟨z10, h10⟩ : ∃ z, z = w.heap.size + 1 + 1 + 1 + 1 + 1 := ⟨_, rfl⟩
  rw [← h10] at HSB ⊢
  obtain ⟨z9, h9⟩ : ∃ z, z = w.heap.size + 1 + 1 + 1 + 1 := ⟨_, rfl⟩
  rw [← h9] at HSB ⊢
  obtain ⟨z8, h8⟩ : ∃ z, z = w.heap.size + 1 + 1 + 1 := ⟨_, rfl⟩
  rw [← h8] at HSB ⊢
  obtain ⟨z7, h7⟩ : ∃ z, z = w.heap.size + 1 + 1 := ⟨_, rfl⟩
  rw [← h7] at HSB ⊢
  obtain ⟨z6, h6⟩ : ∃ z, z = w.heap.size + 1 := ⟨_, rfl⟩
  rw [← h6] at HSB ⊢
  obtain ⟨z5, h5⟩ : ∃ z, z = w.heap.size := ⟨_, rfl⟩
  rw [← h5] at HSB ⊢
  have HZ := Lib.hid (show (∀ q, IsZ z5 z6 z7 z8 z9 z10 q → w.heap.size ≤ q) ∧ z6 ≠ z10 from ⟨fun q hq => by rcases hq with e | e | e | e | e | e <;> omega, by omega⟩)
  have NZ := Lib.hid (show ∀ q, IsZ z5 z6 z7 z8 z9 z10 q → ¬ F q from fun q hq hf => by have := HZ.out.1 q hq; have := HF.out q hf; omega)
  clear h5 h6 h7 h8 h9 h10
  refine (vGet v l i y w6 HA6.out HV.out HY.out).mono ?_
  rintro e w7 ⟨rfl, hb7⟩
  have HS7 := Lib.hid (HSB.out.below hb7)
  have HB7 := Lib.hid (HB6.out.trans (hb7.mono HB6.out.size))
  have HA7 := Lib.hid (HA6.out.below hb7)
  clear hb7 HSB HB6 HA6
  go_wp2_with fail
  have hbX : Below w7.heap.size w7 ((w7.alloc (.cells #[.int .u8 y.1, .int .i64 y.2.1, .string y.2.2] 38)).drew) := ((Below.refl _ w7).alloc (Nat.le_refl _) _).drew
  have HSX := Lib.hid (HS7.out.below hbX)
  have HBX := Lib.hid (HB7.out.trans (hbX.mono HB7.out.size))
  have HAX := Lib.hid (HA7.out.below hbX)
  clear hbX HS7 HB7 HA7
  have r5 : ∀ W', SB W' z5 z6 z7 z8 z9 z10 b v i x 0 → W'.cell? ⟨z5, 0, none⟩ = some (ap b) := fun W' h => h.c5
  have r60 : ∀ W', SB W' z5 z6 z7 z8 z9 z10 b v i x 0 → W'.cell? ⟨z6, 0, none⟩ = some (.int .i64 (v.n : Int)) := fun W' h => h.c6.c0
  have r61 : ∀ W', SB W' z5 z6 z7 z8 z9 z10 b v i x 0 → W'.cell? ⟨z6, 1, none⟩ = some (.int .i64 (v.root : Int)) := fun W' h => h.c6.c1
  have r62 : ∀ W', SB W' z5 z6 z7 z8 z9 z10 b v i x 0 → W'.cell? ⟨z6, 2, none⟩ = some (.int .i64 (v.tail : Int)) := fun W' h => h.c6.c2
  have r7 : ∀ W', SB W' z5 z6 z7 z8 z9 z10 b v i x 0 → W'.cell? ⟨z7, 0, none⟩ = some (.int .i64 (i : Int)) := fun W' h => h.c7
  have r9 : ∀ W', SB W' z5 z6 z7 z8 z9 z10 b v i x 0 → W'.cell? ⟨z9, 0, none⟩ = some (.int .u32 0) := fun W' h => h.c9
  refine wp_region_noPanic ?_
  go_region_held (fun W' => SB W' z5 z6 z7 z8 z9 z10 b v i x 0)
    (first | with_reducible assumption | with_reducible exact HSX.out | with_reducible exact HS8.out | (rename SB _ _ _ _ _ _ _ _ _ _ _ _ => hH; with_reducible exact hH.below ((Below.refl _ _).alloc (Nat.le_refl _) _)) | with_reducible exact HS8.out.below ((Below.refl _ _).alloc (Nat.le_refl _) _))
    ((go_at_call 47; refine (vleaf v l i _ HAX.out HV.out hi).mono ?_; rintro e w8 ⟨xl, rfl, hlf, hb8⟩; have HS8 := Lib.hid (HSX.out.below hb8); have HB8 := Lib.hid (HBX.out.trans (hb8.mono HBX.out.size)); have HA8 := Lib.hid (HAX.out.below hb8); clear hlf hb8))
  refine NoPanic.normal ?_
  have hbY : Below w8.heap.size w8 (w8.alloc (.cells #[.int .i64 (v.root : Int), .int .i64 (xl : Int)] 3)) := (Below.refl _ w8).alloc (Nat.le_refl _) _
  have hpath : Rd (w8.alloc (.cells #[.int .i64 (v.root : Int), .int .i64 (xl : Int)] 3)) (.slice (some ⟨w8.heap.size, 0, none⟩) 2 2) 2 (nums (ns [v.root, xl])) := by
    refine .inr ⟨_, 0, 2, rfl, Nat.le_refl _, fun j u hu => ?_⟩
    have h := cell_of_row _ _ (0 + j) _ 3 (0, 0) (heap_alloc_new w8 (.cells #[.int .i64 (v.root : Int), .int .i64 (xl : Int)] 3))
    rw [h]
    match j, hu with
    | 0, hu => simpa [nums, ns] using hu
    | 1, hu => simpa [nums, ns] using hu
    | j + 2, hu => simp [nums, ns] at hu
  have HPA := Lib.hid hpath
  have HSY := Lib.hid (HS8.out.below hbY)
  have HBY := Lib.hid (HB8.out.trans (hbY.mono HB8.out.size))
  have HAY := Lib.hid (HA8.out.below hbY)
  generalize w8.alloc (.cells #[.int .i64 (v.root : Int), .int .i64 (xl : Int)] 3) = w9 at HPA HSY HBY HAY ⊢
  obtain ⟨zp, hzp⟩ : ∃ z, z = w8.heap.size := ⟨_, rfl⟩
  rw [← hzp] at HPA ⊢
  clear hzp hpath hbY HSX HBX HAX HS8 HB8 HA8
  obtain ⟨a5, a60, a61, a62, a7, a9⟩ := HSY.out.opened
  have hit : decide (i / 32 = (v.n - 1) / 32) = false := by rw [HN.out.1]; simpa using hq
  have hit0 := vinTail v i w9 (by have := HN.out; omega) (by have := HN.out; omega) hi2
  rw [hit] at hit0
  have HIT := Lib.hid hit0
  clear hit hit0
  go_wp2_with fail
  refine HIT.out.mono ?_
  rintro e w10 ⟨rfl, hb10⟩
  have HS10 := Lib.hid (HSY.out.below hb10)
  have HB10 := Lib.hid (HBY.out.trans (hb10.mono HBY.out.size))
  have HA10 := Lib.hid (HAY.out.below hb10)
  have HP10 := Lib.hid (HPA.out.below hb10)
  clear hb10 HSY HBY HAY HPA HIT a5 a60 a61 a62 a7 a9
  go_wp2_with fail
  refine wp_region_noPanic ?_
  go_region_held (fun W' => SB W' z5 z6 z7 z8 z9 z10 b v i x 0)
    (first | with_reducible assumption | with_reducible exact HS10.out.below (Below.refl _ _).drew | with_reducible exact HS10.out | with_reducible exact HS11.out | with_reducible exact HS12.out)
    (first
      | (go_at_call 42; refine (vfresh 0 [v.root, xl] _ _ (HA10.out.drew) (HP10.out.drew) (by show 2 ≤ 4194304; decide)).mono ?_; rintro e w11 ⟨rfl, hb11⟩; have HS11 := Lib.hid ((HS10.out.below (Below.refl _ _).drew).below hb11); have HB11 := Lib.hid ((HB10.out.trans ((Below.refl _ w10).drew.mono HB10.out.size)).trans (hb11.mono (HB10.out.trans ((Below.refl _ w10).drew.mono HB10.out.size)).size)); have HA11 := Lib.hid (HA10.out.drew.below hb11); clear hb11)
      | (go_at_call 43; refine (vbegin_no v 0 2 _ HA11.out hroom).mono ?_; rintro e w12 ⟨rfl, hb12⟩; have HS12 := Lib.hid (HS11.out.below hb12); have HB12 := Lib.hid (HB11.out.trans (hb12.mono HB11.out.size)); clear hb12))
  refine NoPanic.normal ?_
  clear r5 r60 r61 r62 r7 r9
  have q10 := HS12.out.c10
  obtain ⟨d0, d1, d2, g0, g1, g2⟩ := q10.all
  clear q10
  go_wp2_with fail
  refine bodyPost_ret (v := .tuple #[vagg ⟨0, 0, 0⟩, .int .i64 5]) (by simp [results, Try.results16, go_sem, vagg, d0, d1, d2]) rfl ⟨rfl, ?_⟩
  have hz := HZ.out.1 z10 (.inr (.inr (.inr (.inr (.inr rfl)))))
  exact ((HB12.out.setCell (p := ⟨z10, 0, none⟩) hz _).setCell (p := ⟨z10, 1, none⟩) hz _).setCell (p := ⟨z10, 2, none⟩) hz _
set_option maxRecDepth 100000 in
/-- At no place. -/
theorem vSet_range (v : Vc) (i : Nat) (x : Int × Int × ByteArray) (w : World) (hi : v.n ≤ i) :
    Calls Try.prog 16 #[ap b, vagg v, .int .i64 i, xagg x, .int .u32 0] w fun e w' => e = .returned (.tuple #[vagg ⟨0, 0, 0⟩, .int .i64 3]) ∧ Below w.heap.size w w' := by
  have hb6 : Below w.heap.size w ((((((w.alloc (.cells #[ap b] 25)).alloc (.cells #[.int .i64 (v.n : Int), .int .i64 (v.root : Int), .int .i64 (v.tail : Int)] 30)).alloc (.cells #[.int .i64 (i : Int)] 3)).alloc (.cells #[.int .u8 x.1, .int .i64 x.2.1, .string x.2.2] 38)).alloc (.cells #[.int .u32 0] 32)).alloc (.cells #[.int .i64 0, .int .i64 0, .int .i64 0] 30)) :=
    ((((((Below.refl _ w).alloc (Nat.le_refl _) _).alloc (by simp) _).alloc (by simp; omega) _).alloc (by simp; omega) _).alloc (by simp; omega) _).alloc (by simp; omega) _
  have q10 := C3.new (((((w.alloc (.cells #[ap b] 25)).alloc (.cells #[.int .i64 (v.n : Int), .int .i64 (v.root : Int), .int .i64 (v.tail : Int)] 30)).alloc (.cells #[.int .i64 (i : Int)] 3)).alloc (.cells #[.int .u8 x.1, .int .i64 x.2.1, .string x.2.2] 38)).alloc (.cells #[.int .u32 0] 32)) 30 (.int .i64 0) (.int .i64 0) (.int .i64 0)
  rw [show (((((w.alloc (.cells #[ap b] 25)).alloc (.cells #[.int .i64 (v.n : Int), .int .i64 (v.root : Int), .int .i64 (v.tail : Int)] 30)).alloc (.cells #[.int .i64 (i : Int)] 3)).alloc (.cells #[.int .u8 x.1, .int .i64 x.2.1, .string x.2.2] 38)).alloc (.cells #[.int .u32 0] 32)).heap.size = w.heap.size + 1 + 1 + 1 + 1 + 1 by simp] at q10
  have HB := Lib.hid hb6
  have Q := Lib.hid q10
  clear hb6 q10
  go_enter Try.func16, Try.ntmps16
  go_wp2_with fail
  refine (vGet_no v i _ (.inr (by omega))).mono ?_
  rintro e w7 ⟨rfl, hb7⟩
  have hB := HB.out.trans (hb7.mono HB.out.size)
  have q := Q.out.below hb7
  obtain ⟨d0, d1, d2, f0, f1, f2⟩ := q.all
  have hl10 := q.lt
  have HB7 := Lib.hid hB
  obtain ⟨z10, hz⟩ : ∃ z, z = w.heap.size + 1 + 1 + 1 + 1 + 1 := ⟨_, rfl⟩
  rw [← hz] at d0 d1 d2 f0 f1 f2 hl10 ⊢
  have HZ := Lib.hid (show w.heap.size ≤ z10 by omega)
  clear hb7 q hB hz HB Q
  go_wp2_with fail
  refine bodyPost_ret (v := .tuple #[vagg ⟨0, 0, 0⟩, .int .i64 3]) (by simp [results, Try.results16, go_sem, vagg, d0, d1, d2, hl10]) rfl ⟨rfl, ?_⟩
  have hb := ((HB7.out.setCell (p := ⟨z10, 0, none⟩) HZ.out (.int .i64 0)).setCell (p := ⟨z10, 1, none⟩) HZ.out (.int .i64 0)).setCell (p := ⟨z10, 2, none⟩) HZ.out (.int .i64 0)
  exact hb.alloc hb.size _
end

end Go.Proofs.Ytgkhbnkbhcginaa
