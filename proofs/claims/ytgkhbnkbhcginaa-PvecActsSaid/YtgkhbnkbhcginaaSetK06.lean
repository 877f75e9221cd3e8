/- Package pvec: Set in a leaf of the trunk: the walk. -/
import Derived.Test.YtgkhbnkbhcginaaSetW06
namespace Go.Proofs.Ytgkhbnkbhcginaa
open Go.RowKit

section
variable {b most : Nat} {M : Cells} {F : Nat → Prop}
set_option maxRecDepth 100000 in
set_option maxHeartbeats 1600000 in
/-- In a leaf of the trunk. -/
theorem vSetW_kid (v : Vc) (l : Vs) (i kid : Nat) (x : Int × Int × ByteArray) (ow : Int) (R : Nat → Cells → Prop) (w : World) (h : Ar w b most M F) (hv : VecIs M v l) (hi : i < l.length) (hq : ¬ i / 32 = (l.length - 1) / 32) (hkid : ∀ c r, M v.root = some (c, r) → c.kids[i / 32]? = some kid) (hroom : live (most + 1) M + freshN M ow [v.root, kid] ≤ most) (hr : ∀ j, rf (M j) ≤ 4611686018420000000)
    (hren : ∀ (W : World) (F1 : Nat → Prop) (z5 z7 z8 z9 z15 : Nat), Rn w W b most (begun M v ow) F F1 → W.cell? ⟨z5, 0, none⟩ = some (ap b) → W.cell? ⟨z7, 0, none⟩ = some (.int .i64 (i : Int)) → C3 W z8 38 (.int .u8 x.1) (.int .i64 x.2.1) (.string x.2.2) → W.cell? ⟨z9, 0, none⟩ = some (.int .u32 ow) →
      W.cell? ⟨z15, 0, none⟩ = some (.func (.func 49) #[] #[.pointer (some ⟨z8, 0, none⟩), .pointer (some ⟨z7, 0, none⟩)]) → (∀ z, z = z5 ∨ z = z7 ∨ z = z8 ∨ z = z9 ∨ z = z15 → ¬ F1 z) →
      Calls Try.prog 44 #[ap b, .int .i64 v.root, .int .u32 ow, .func (.func 50) #[] #[.pointer (some ⟨z5, 0, none⟩), .pointer (some ⟨z7, 0, none⟩), .pointer (some ⟨z9, 0, none⟩), .pointer (some ⟨z15, 0, none⟩)]] W fun e W' => ∃ n M', e = .returned (.int .i64 (n : Nat)) ∧ R n M' ∧ Stp W W' b most M' F1) :
    Calls Try.prog 16 #[ap b, vagg v, .int .i64 i, xagg x, .int .u32 ow] w fun e w' => ∃ n M', e = .returned (.tuple #[vagg ⟨v.n, n, v.tail⟩, .int .i64 0]) ∧ R n M' ∧ Stp w w' b most M' F := by
  have hn := hv.n
  have hle := hv.le
  have HF := Lib.hid (show ∀ q, F q → q < w.heap.size from fun q hq => h.lt hq)
  have HV := Lib.hid hv
  have HR := Lib.hid hr
  have HREN := Lib.hid hren
  obtain ⟨y, hy⟩ : ∃ y, l[i]? = some y := ⟨_, List.getElem?_eq_getElem hi⟩
  have HY := Lib.hid hy
  have hi2 : i < 1024 := by omega
  obtain ⟨w6, hw6⟩ : ∃ w6, w6 = (((((w.alloc (.cells #[ap b] 25)).alloc (.cells #[.int .i64 (v.n : Int), .int .i64 (v.root : Int), .int .i64 (v.tail : Int)] 30)).alloc (.cells #[.int .i64 (i : Int)] 3)).alloc (.cells #[.int .u8 x.1, .int .i64 x.2.1, .string x.2.2] 38)).alloc (.cells #[.int .u32 ow] 32)).alloc (.cells #[.int .i64 0, .int .i64 0, .int .i64 0] 30) := ⟨_, rfl⟩
  have hb6 : Below w.heap.size w w6 := by
    rw [hw6]
    exact ((((((Below.refl _ w).alloc (Nat.le_refl _) _).alloc (by simp) _).alloc (by simp; omega) _).alloc (by simp; omega) _).alloc (by simp; omega) _).alloc (by simp; omega) _
  have hSB : SB w6 w.heap.size (w.heap.size + 1) (w.heap.size + 1 + 1) (w.heap.size + 1 + 1 + 1) (w.heap.size + 1 + 1 + 1 + 1) (w.heap.size + 1 + 1 + 1 + 1 + 1) b v i x ow := by
    rw [hw6]
    refine ⟨?_, ?_, ?_, ?_, ?_, ?_⟩
    · rw [World.cell?_alloc_lt _ _ _ (by simp; omega), World.cell?_alloc_lt _ _ _ (by simp; omega), World.cell?_alloc_lt _ _ _ (by simp; omega), World.cell?_alloc_lt _ _ _ (by simp; omega), World.cell?_alloc_lt _ _ _ (by simp)]
      exact cell1_new _ _ _ _ rfl
    · have := ((((C3.new (w.alloc (.cells #[ap b] 25)) 30 (.int .i64 (v.n : Int)) (.int .i64 (v.root : Int)) (.int .i64 (v.tail : Int))).alloc (.cells #[.int .i64 (i : Int)] 3)).alloc (.cells #[.int .u8 x.1, .int .i64 x.2.1, .string x.2.2] 38)).alloc (.cells #[.int .u32 ow] 32)).alloc (.cells #[.int .i64 0, .int .i64 0, .int .i64 0] 30)
      simpa using this
    · rw [World.cell?_alloc_lt _ _ _ (by simp), World.cell?_alloc_lt _ _ _ (by simp), World.cell?_alloc_lt _ _ _ (by simp)]
      exact cell1_new _ _ _ _ (by simp)
    · have := ((C3.new (((w.alloc (.cells #[ap b] 25)).alloc (.cells #[.int .i64 (v.n : Int), .int .i64 (v.root : Int), .int .i64 (v.tail : Int)] 30)).alloc (.cells #[.int .i64 (i : Int)] 3)) 38 (.int .u8 x.1) (.int .i64 x.2.1) (.string x.2.2)).alloc (.cells #[.int .u32 ow] 32)).alloc (.cells #[.int .i64 0, .int .i64 0, .int .i64 0] 30)
      simpa using this
    · rw [World.cell?_alloc_lt _ _ _ (by simp)]
      exact cell1_new _ _ _ _ (by simp)
    · have := C3.new (((((w.alloc (.cells #[ap b] 25)).alloc (.cells #[.int .i64 (v.n : Int), .int .i64 (v.root : Int), .int .i64 (v.tail : Int)] 30)).alloc (.cells #[.int .i64 (i : Int)] 3)).alloc (.cells #[.int .u8 x.1, .int .i64 x.2.1, .string x.2.2] 38)).alloc (.cells #[.int .u32 ow] 32)) 30 (.int .i64 0) (.int .i64 0) (.int .i64 0)
      simpa using this
  have HA6 := Lib.hid (h.below hb6)
  have HB6 := Lib.hid hb6
  have HSB := Lib.hid hSB
  have HN := Lib.hid (show v.n = l.length ∧ l.length ≤ 1024 ∧ i < l.length from ⟨hn, hle, hi⟩)
  clear h hv hr hren hy hb6 hSB hn
  go_enter Try.func16, Try.ntmps16
  go_wp2_with fail
  rw [← hw6]
  clear hw6
  obtain ⟨z10, h10⟩ : ∃ z, z = w.heap.size + 1 + 1 + 1 + 1 + 1 := ⟨_, rfl⟩
  rw [← h10] at HSB ⊢
  obtain ⟨z9, h9⟩ : ∃ z, z = w.heap.size + 1 + 1 + 1 + 1 := ⟨_, rfl⟩
  rw [← h9] at HSB ⊢
  obtain ⟨z8, h8⟩ : ∃ z, z = w.heap.size + 1 + 1 + 1 := ⟨_, rfl⟩
  rw [← h8] at HSB ⊢
  obtain ⟨z7, h7⟩ : ∃ z, z = w.heap.size + 1 + 1 := ⟨_, rfl⟩
  rw [← h7] at HSB ⊢
  obtain ⟨z6, h6⟩ : ∃ z, z = w.heap.size + 1 := ⟨_, rfl⟩
  rw [← h6] at HSB ⊢
  obtain ⟨z5, h5⟩ : ∃ z, z = w.heap.size := ⟨_, rfl⟩
  rw [← h5] at HSB ⊢
  have HZ := Lib.hid (show (∀ q, IsZ z5 z6 z7 z8 z9 z10 q → w.heap.size ≤ q) ∧ z6 ≠ z10 from ⟨fun q hq => by rcases hq with e | e | e | e | e | e <;> omega, by omega⟩)
  have NZ := Lib.hid (show ∀ q, IsZ z5 z6 z7 z8 z9 z10 q → ¬ F q from fun q hq hf => by have := HZ.out.1 q hq; have := HF.out q hf; omega)
  clear h5 h6 h7 h8 h9 h10
  refine (vGet v l i y w6 HA6.out HV.out HY.out).mono ?_
  rintro e w7 ⟨rfl, hb7⟩
  have HS7 := Lib.hid (HSB.out.below hb7)
  have HB7 := Lib.hid (HB6.out.trans (hb7.mono HB6.out.size))
  have HA7 := Lib.hid (HA6.out.below hb7)
  clear hb7 HSB HB6 HA6
  go_wp2_with fail
  have hbX : Below w7.heap.size w7 ((w7.alloc (.cells #[.int .u8 y.1, .int .i64 y.2.1, .string y.2.2] 38)).drew) := ((Below.refl _ w7).alloc (Nat.le_refl _) _).drew
  have HSX := Lib.hid (HS7.out.below hbX)
  have HBX := Lib.hid (HB7.out.trans (hbX.mono HB7.out.size))
  have HAX := Lib.hid (HA7.out.below hbX)
  clear hbX HS7 HB7 HA7
  have r5 : ∀ W', SB W' z5 z6 z7 z8 z9 z10 b v i x ow → W'.cell? ⟨z5, 0, none⟩ = some (ap b) := fun W' h => h.c5
  have r60 : ∀ W', SB W' z5 z6 z7 z8 z9 z10 b v i x ow → W'.cell? ⟨z6, 0, none⟩ = some (.int .i64 (v.n : Int)) := fun W' h => h.c6.c0
  have r61 : ∀ W', SB W' z5 z6 z7 z8 z9 z10 b v i x ow → W'.cell? ⟨z6, 1, none⟩ = some (.int .i64 (v.root : Int)) := fun W' h => h.c6.c1
  have r62 : ∀ W', SB W' z5 z6 z7 z8 z9 z10 b v i x ow → W'.cell? ⟨z6, 2, none⟩ = some (.int .i64 (v.tail : Int)) := fun W' h => h.c6.c2
  have r7 : ∀ W', SB W' z5 z6 z7 z8 z9 z10 b v i x ow → W'.cell? ⟨z7, 0, none⟩ = some (.int .i64 (i : Int)) := fun W' h => h.c7
  have r9 : ∀ W', SB W' z5 z6 z7 z8 z9 z10 b v i x ow → W'.cell? ⟨z9, 0, none⟩ = some (.int .u32 ow) := fun W' h => h.c9
  refine wp_region_noPanic ?_
  go_region_held (fun W' => SB W' z5 z6 z7 z8 z9 z10 b v i x ow)
    (first | with_reducible assumption | with_reducible exact HSX.out | with_reducible exact HS8.out | (rename SB _ _ _ _ _ _ _ _ _ _ _ _ => hH; with_reducible exact hH.below ((Below.refl _ _).alloc (Nat.le_refl _) _)) | with_reducible exact HS8.out.below ((Below.refl _ _).alloc (Nat.le_refl _) _))
    ((go_at_call 47; refine (vleaf v l i _ HAX.out HV.out hi).mono ?_; rintro e w8 ⟨xl, rfl, hlf, hb8⟩; have HXL := Lib.hid (show xl = kid from by obtain ⟨c, r, e1, e2⟩ := hlf.trunk hq; have := hkid c r e1; rw [e2] at this; exact Option.some.inj this); have HS8 := Lib.hid (HSX.out.below hb8); have HB8 := Lib.hid (HBX.out.trans (hb8.mono HBX.out.size)); have HA8 := Lib.hid (HAX.out.below hb8); clear hlf hb8))
  refine NoPanic.normal ?_
  obtain rfl : xl = kid := HXL.out
  have hbY : Below w8.heap.size w8 (w8.alloc (.cells #[.int .i64 (v.root : Int), .int .i64 (xl : Int)] 3)) := (Below.refl _ w8).alloc (Nat.le_refl _) _
  have hpath : Rd (w8.alloc (.cells #[.int .i64 (v.root : Int), .int .i64 (xl : Int)] 3)) (.slice (some ⟨w8.heap.size, 0, none⟩) 2 2) 2 (nums (ns [v.root, xl])) := Rd.two w8 _ _ _
  have HPA := Lib.hid hpath
  have HSY := Lib.hid (HS8.out.below hbY)
  have HBY := Lib.hid (HB8.out.trans (hbY.mono HB8.out.size))
  have HAY := Lib.hid (HA8.out.below hbY)
  generalize w8.alloc (.cells #[.int .i64 (v.root : Int), .int .i64 (xl : Int)] 3) = w9 at HPA HSY HBY HAY ⊢
  obtain ⟨zp, hzp⟩ : ∃ z, z = w8.heap.size := ⟨_, rfl⟩
  rw [← hzp] at HPA ⊢
  clear hzp hpath hbY HSX HBX HAX HXL HS8 HB8 HA8
  obtain ⟨a5, a60, a61, a62, a7, a9⟩ := HSY.out.opened
  have hit : decide (i / 32 = (v.n - 1) / 32) = false := by rw [HN.out.1]; simpa using hq
  have hit0 := vinTail v i w9 (by have := HN.out; omega) (by have := HN.out; omega) hi2
  rw [hit] at hit0
  have HIT := Lib.hid hit0
  clear hit hit0
  go_wp2_with fail
  refine HIT.out.mono ?_
  rintro e w10 ⟨rfl, hb10⟩
  have HS10 := Lib.hid (HSY.out.below hb10)
  have HB10 := Lib.hid (HBY.out.trans (hb10.mono HBY.out.size))
  have HA10 := Lib.hid (HAY.out.below hb10)
  have HP10 := Lib.hid (HPA.out.below hb10)
  clear hb10 HSY HBY HAY HPA HIT a5 a60 a61 a62 a7 a9
  go_wp2_with fail
  refine wp_region_noPanic ?_
  go_region_held (fun W' => SB W' z5 z6 z7 z8 z9 z10 b v i x ow)
    (first | with_reducible assumption | with_reducible exact HS10.out.below (Below.refl _ _).drew | with_reducible exact HS10.out | with_reducible exact HS11.out | with_reducible exact HS12.out)
    (first
      | (go_at_call 42; refine (vfresh ow [v.root, xl] _ _ (HA10.out.drew) (HP10.out.drew) (by show 2 ≤ 4194304; decide)).mono ?_; rintro e w11 ⟨rfl, hb11⟩; have HS11 := Lib.hid ((HS10.out.below (Below.refl _ _).drew).below hb11); have HB11 := Lib.hid ((HB10.out.trans ((Below.refl _ w10).drew.mono HB10.out.size)).trans (hb11.mono (HB10.out.trans ((Below.refl _ w10).drew.mono HB10.out.size)).size)); have HA11 := Lib.hid (HA10.out.drew.below hb11); clear hb11)
      | (go_at_call 43; refine (vbegin_ok v ow (freshN M ow [v.root, xl]) _ HA11.out hroom (fun j => Nat.le_trans (HR.out j) (by decide))).mono ?_; rintro e w12 ⟨rfl, hs12⟩; have HS12 := Lib.hid (HS11.out.kp hs12.kp NZ.out); have HT12 := Lib.hid hs12; clear hs12))
  refine NoPanic.normal ?_
  clear r5 r60 r61 r62 r7 r9 HS10 HA10 HP10
  have HR12 := Lib.hid ((Rn.mk HA11.out (Kp.of_below HB11.out F) (fun _ => .inl) : Rn w w11 b most M F F).stp HT12.out)
  have hbF : Below w12.heap.size w12 (w12.alloc (.cells #[.func (.func 49) #[] #[.pointer (some ⟨z8, 0, none⟩), .pointer (some ⟨z7, 0, none⟩)]] 92)) := (Below.refl _ w12).alloc (Nat.le_refl _) _
  have NB := Lib.hid (show ∀ q, IsZ z5 z6 z7 z8 z9 z10 q → ¬ Fn F w11 w12 q from fun q hq hf => hf.elim (NZ.out q hq) (fun hf => by have := HS11.out.lt q hq; omega))
  have HS13 := Lib.hid (HS12.out.below hbF)
  have HR13 := Lib.hid (HR12.out.mine (Kp.of_below hbF (fun _ => False)) (fun _ h => h.elim))
  have hfc := cell1_new w12 (.func (.func 49) #[] #[.pointer (some ⟨z8, 0, none⟩), .pointer (some ⟨z7, 0, none⟩)]) 92 w12.heap.size rfl
  obtain ⟨a5, a60, a61, a62, a7, a9⟩ := HS12.out.opened
  have l6 := HS12.out.lt z6 (.inr (.inl rfl))
  have l7 := HS12.out.lt z7 (.inr (.inr (.inl rfl)))
  have HLT := Lib.hid (HS12.out.lt)
  clear HB10 HS11 HB11 HA11 HR12 hbF
  go_wp2_with fail
  generalize w12.alloc (.cells #[.func (.func 49) #[] #[.pointer (some ⟨z8, 0, none⟩), .pointer (some ⟨z7, 0, none⟩)]] 92) = w13 at HS13 HR13 hfc ⊢
  obtain ⟨z15, hz15⟩ : ∃ z, z = w12.heap.size := ⟨_, rfl⟩
  rw [← hz15] at hfc ⊢
  have NZ15 := Lib.hid (show ¬ Fn F w11 w12 z15 ∧ z15 < w13.heap.size from ⟨fun hf => by rw [hz15] at hf; exact absurd (HT12.out.ar.lt hf) (Nat.lt_irrefl _), World.block_lt_of_cell? w13 _ hfc⟩)
  have HFC := Lib.hid hfc
  have hit : decide (i / 32 = (v.n - 1) / 32) = false := by rw [HN.out.1]; simpa using hq
  have hit0 := vinTail v i w13 (by have := HN.out; omega) (by have := HN.out; omega) hi2
  rw [hit] at hit0
  have HIT := Lib.hid hit0
  clear hit hit0 hz15 hfc a5 a60 a61 a62 a7 a9 l6 l7 HS12
  refine HIT.out.mono ?_
  rintro e w14 ⟨rfl, hb14⟩
  have HS14 := Lib.hid (HS13.out.below hb14)
  have HR14 := Lib.hid (HR13.out.mine (Kp.of_below hb14 (fun _ => False)) (fun _ h => h.elim))
  have hfc : w14.cell? ⟨z15, 0, none⟩ = some (.func (.func 49) #[] #[.pointer (some ⟨z8, 0, none⟩), .pointer (some ⟨z7, 0, none⟩)]) := (hb14.cell (p := ⟨z15, 0, none⟩) NZ15.out.2).trans HFC.out
  clear hb14 HS13 HR13 HIT HFC
  obtain ⟨a5, a60, a61, a62, a7, a9⟩ := HS14.out.opened
  have HRE := Lib.hid (HREN.out w14 _ z5 z7 z8 z9 z15 HR14.out a5 a7 HS14.out.c8 a9 hfc (fun z hz => by
    rcases hz with rfl | rfl | rfl | rfl | rfl
    · exact NB.out _ (.inl rfl)
    · exact NB.out _ (.inr (.inr (.inl rfl)))
    · exact NB.out _ (.inr (.inr (.inr (.inl rfl))))
    · exact NB.out _ (.inr (.inr (.inr (.inr (.inl rfl)))))
    · exact NZ15.out.1))
  go_wp2_with fail
  refine HRE.out.mono ?_
  rintro e w15 ⟨n, M', rfl, hrn, hs15⟩
  have HS15 := Lib.hid (HS14.out.kp hs15.kp NB.out)
  have HR15 := Lib.hid (HR14.out.stp hs15)
  have NB15 := Lib.hid (show ∀ q, IsZ z5 z6 z7 z8 z9 z10 q → ¬ Fn (Fn F w11 w12) w14 w15 q from fun q hq hf => hf.elim (NB.out q hq) (fun hf => by have := HS14.out.lt q hq; omega))
  have HD := Lib.hid hrn
  clear hrn hs15 HS14 HR14 HRE HREN hfc a5 a60 a61 a62 a7 a9
  have q6 := HS15.out.c6
  have q10 := HS15.out.c10
  have nvr : ¬ z6 = z10 := HZ.out.2
  have nrv : ¬ z10 = z6 := fun e => HZ.out.2 e.symm
  obtain ⟨c0, c1, c2, f0, f1, f2⟩ := q6.all
  obtain ⟨d0, d1, d2, g0, g1, g2⟩ := q10.all
  clear q6 q10
  go_wp2_with fail
  refine bodyPost_ret (v := .tuple #[vagg ⟨v.n, n, v.tail⟩, .int .i64 0]) (by simp [results, Try.results16, go_sem, vagg, d0, d1, d2]) rfl ⟨n, M', rfl, HD.out, (HR15.out.mine (G := fun g => g = z6 ∨ g = z10) ?_ (fun g e => ?_)).fin HF.out⟩
  · exact ((((Kp.refl (fun g => g = z6 ∨ g = z10) w15).setCell (.inl (.inl rfl)) _).setCell (.inl (.inr rfl)) _).setCell (.inl (.inr rfl)) _).setCell (.inl (.inr rfl)) _
  · have hz : IsZ z5 z6 z7 z8 z9 z10 g := e.elim (fun e => .inr (.inl e)) (fun e => .inr (.inr (.inr (.inr (.inr e)))))
    exact ⟨HZ.out.1 g hz, NB15.out g hz⟩
end

end Go.Proofs.Ytgkhbnkbhcginaa
