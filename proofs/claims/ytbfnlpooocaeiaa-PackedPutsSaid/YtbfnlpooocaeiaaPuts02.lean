/- What putsAll, the inner function of the law PackedPuts, returns: true, whatever it is given. -/
import Derived.Test.YtbfnlpooocaeiaaLaw02
import Derived.Test.YtbfnlpooocaeiaaTrip02
import Derived.Deep.RegionHeld3
import Derived.Deep.QuietTactic
namespace Go.Proofs.Ytbfnlpooocaeiaa.packedPuts
open Go.RowKit

/-- A number and its size, as the law has them. -/
abbrev nn (n : Nat) (size : Int) : Value := .agg #[.int .u64 n, .int .i64 size]

set_option maxHeartbeats 1000000 in
theorem short_a (A : Option Addr) (m c : Nat) (n : Nat) (size : Int) (s : ByteArray) (k n' : Int) (t : ByteArray) (w : World) (ha : 300 < m) (ham : m ≤ 9223372036854775807) :
    Calls Try.prog 5 #[.slice A m c, nn n size, .string s, vv k n' t] w fun e w' => e = .returned (.bool true) ∧ Below w.heap.size w w' := by
  go_enter Try.func5, Try.ntmps5
  go_wp2_with fail
  go_quiet (fail)
  go_wp2_with fail
  refine (lives2 _).mono ?_
  rintro e w1 ⟨rfl, g1⟩
  go_wp2_with fail
  refine (lives2 _).mono ?_
  rintro e w2 ⟨rfl, g2⟩
  go_wp2_with fail
  go_ret
  exact ⟨rfl, below_trans (below_drawn (((Below.refl _ _).alloc (Nat.le_refl _) _).alloc (by simp) _) _) (below_trans g1 g2)⟩
set_option maxHeartbeats 1000000 in
theorem short_s (A : Option Addr) (m c : Nat) (n : Nat) (size : Int) (s : ByteArray) (k n' : Int) (t : ByteArray) (w : World) (ha : m ≤ 300) (hs : 9000 < s.size) (hsm : s.size ≤ 9223372036854775807) :
    Calls Try.prog 5 #[.slice A m c, nn n size, .string s, vv k n' t] w fun e w' => e = .returned (.bool true) ∧ Below w.heap.size w w' := by
  go_enter Try.func5, Try.ntmps5
  go_wp2_with fail
  go_quiet (fail)
  go_wp2_with fail
  refine (lives2 _).mono ?_
  rintro e w1 ⟨rfl, g1⟩
  go_wp2_with fail
  refine (lives2 _).mono ?_
  rintro e w2 ⟨rfl, g2⟩
  go_wp2_with fail
  go_ret
  exact ⟨rfl, below_trans (below_drawn (((Below.refl _ _).alloc (Nat.le_refl _) _).alloc (by simp) _) _) (below_trans g1 g2)⟩

/-- The law's variable v, in a world that has grown. -/
theorem boxv {w w1 : World} {X : Obj} {a0 a1 a2 : Value} {t : TypeId} {q : Nat} (h : Below (((w.alloc X).alloc (.cells #[a0, a1, a2] t)).drewN q).heap.size (((w.alloc X).alloc (.cells #[a0, a1, a2] t)).drewN q) w1) :
    w1.cell? ⟨w.heap.size + 1, 0, none⟩ = some a0 ∧ w1.cell? ⟨w.heap.size + 1, 1, none⟩ = some a1 ∧ w1.cell? ⟨w.heap.size + 1, 2, none⟩ = some a2 := by
  refine ⟨?_, ?_, ?_⟩ <;> (rw [h.cell (p := ⟨w.heap.size + 1, _, none⟩) (by simp)]; simp [go_sem])
theorem below_boxes {w w1 : World} {X V : Obj} {q : Nat} (h : Below (((w.alloc X).alloc V).drewN q).heap.size (((w.alloc X).alloc V).drewN q) w1) : Below w.heap.size w w1 :=
  below_trans (below_drawn (((Below.refl _ _).alloc (Nat.le_refl _) _).alloc (by simp) _) _) h

set_option maxHeartbeats 1000000 in
theorem short_r (A : Option Addr) (m c : Nat) (n : Nat) (size : Int) (s : ByteArray) (k n' : Int) (t : ByteArray) (w : World) (ha : m ≤ 300) (hs : s.size ≤ 9000) (hr : rightB k n' t = false) :
    Calls Try.prog 5 #[.slice A m c, nn n size, .string s, vv k n' t] w fun e w' => e = .returned (.bool true) ∧ Below w.heap.size w w' := by
  go_enter Try.func5, Try.ntmps5
  go_wp2_with fail
  go_quiet (fail)
  go_wp2_with fail
  refine (lives2 _).mono ?_
  rintro e w1 ⟨rfl, g1⟩
  obtain ⟨b0, b1, b2⟩ := boxv g1
  go_wp2_with fail
  refine (of2 _ _ _ _).mono ?_
  rintro e w2 ⟨rfl, g2⟩
  clear b0 b1 b2
  go_wp2_with fail
  refine (ref_right _ _ _ _).mono ?_
  rintro e w3 ⟨rfl, g3⟩
  go_wp2_with fail
  refine (lives2 _).mono ?_
  rintro e w4 ⟨rfl, g4⟩
  go_wp2_with fail
  go_ret
  exact ⟨rfl, below_trans (below_boxes g1) (below_trans g2.below (below_trans g3.below g4))⟩

theorem shl_wrap {k : Nat} (h : k < 8) : IntKind.u64.wrap (2 ^ (8 * k)) = ((256 ^ k : Nat) : Int) := by
  have hp : (2 : Int) ^ (8 * k) = ((256 ^ k : Nat) : Int) := by
    rw [show (256 : Nat) = 2 ^ 8 from rfl, ← Nat.pow_mul]
    simp
  have hle : (256 : Nat) ^ k ≤ 256 ^ 7 := Nat.pow_le_pow_right (by omega) (by omega)
  have h7 : (256 : Nat) ^ 7 = 72057594037927936 := by decide
  rw [hp, IntKind.wrap_u64]
  generalize (256 : Nat) ^ k = P at *
  omega
theorem valB_length (k n : Int) (s : ByteArray) : (valB k n s).length ≤ 11 + s.size := by
  unfold valB
  simp only [List.length_append, Lib.leBytes_length]
  split
  · rw [Lib.leBytes_length]; omega
  · split
    · rw [Lib.leBytes_length]; omega
    · split
      · rw [txtB_length]; omega
      · simp; omega
theorem str_append (l m : List UInt8) : (⟨(l ++ m).toArray⟩ : ByteArray) = ⟨l.toArray⟩ ++ ⟨m.toArray⟩ := by
  apply bytes_ext
  simp [ByteArray.toList_eq]

set_option maxRecDepth 100000 in
set_option maxHeartbeats 8000000 in
theorem main (v0 : Value) (ahead : List UInt8) (n : Nat) (size : Int) (s : ByteArray) (k n' : Int) (t : ByteArray) (w : World) (hv : Bs w v0 ahead) (ha : ahead.length ≤ 300) (hn : n < 18446744073709551616) (hs : s.size ≤ 9000) (hk0 : 0 ≤ k) (hk1 : k < 256) (hr : rightB k n' t = true) (ht : t.size ≤ 4096) (hn0 : -9223372036854775808 ≤ n') (hn1 : n' ≤ 9223372036854775807) :
    Calls Try.prog 5 #[v0, nn n size, .string s, vv k n' t] w fun e w' => e = .returned (.bool true) ∧ Below w.heap.size w w' := by
  obtain ⟨i0, hi, hz0, hz1, hz2⟩ := info_parts u8_info
  obtain ⟨A, c, rfl, hc⟩ := hv.form
  have hmk : ∀ W : World, (Instr.makeSlice 30 (.int .i64 0) (.int .i64 ((ahead.length : Int) + 50))).run Try.prog W = .ok (.slice (some ⟨W.heap.size, 0, none⟩) 0 (ahead.length + 50)) (W.alloc (.cells (madeCells #[.int .u8 0] (ahead.length + 50)) 5)) := fun W => by
    have := run_make (P := Try.prog) W 30 5 i0 (.int .u8 0) Try.underlying30 hi hz0 .i64 .i64 0 ((ahead.length : Int) + 50) (by omega) (by omega) (by rw [hz2]; omega) (by omega)
    rw [this, hz1]
    have e : ((ahead.length : Int) + 50).toNat = ahead.length + 50 := by omega
    simp [e, Value.cells]
  have HR := Lib.hid hr
  clear hr
  go_enter Try.func5, Try.ntmps5
  go_wp2_with fail
  go_quiet (fail)
  go_wp2_with fail
  refine (lives2 _).mono ?_
  rintro e w1 ⟨rfl, g1⟩
  obtain ⟨b0, b1, b2⟩ := boxv g1
  go_wp2_with fail
  refine (of2 _ _ _ _).mono ?_
  rintro e w2 ⟨rfl, g2⟩
  clear b0 b1 b2
  go_wp2_with fail
  refine (ref_right _ _ _ _).mono ?_
  rintro e w3 ⟨rfl, g3⟩
  rw [HR.out]
  have G3 : Below (((w.alloc (.cells #[.int .u64 n, .int .i64 size] 24)).alloc (.cells #[.int .u8 k, .int .i64 n', .string t] 28)).drewN nq).heap.size (((w.alloc (.cells #[.int .u64 n, .int .i64 size] 24)).alloc (.cells #[.int .u8 k, .int .i64 n', .string t] 28)).drewN nq) w3 := below_trans g1 (below_trans g2.below g3.below)
  clear g1 g2 g3
  have hv3 := hv.below (below_boxes G3)
  have hown0 : Own (w3.alloc (.cells (madeCells #[.int .u8 0] (ahead.length + 50)) 5)) w3.heap.size (.slice (some ⟨w3.heap.size, 0, none⟩) 0 (ahead.length + 50)) [] :=
    World.ownsRow_made w3 _ _ (Nat.le_refl _) (by unfold maxLen; omega) (by simp [size_madeCells])
  go_upto_region 5 with (at_builtin; refine wpList_append_bs rfl (.tmp 46) (.tmp 47) 30 rfl w3.heap.size i0 Try.underlying30 hi hz0 hz1 hz2 _ _ rfl hown0 _ _ rfl (hv3.alloc _) ?d1 ?d2 ?_)
  case d1 => simp; omega
  case d2 => simp
  intro v1 w4 hown1 hg1
  have hb4 : Below w3.heap.size w3 w4 := below_own ((Below.refl _ _).alloc (Nat.le_refl _) _) hown0 hg1
  have ho1 : Bs w4 v1 ahead := by simpa using hown1.bs
  have G4 := below_trans G3 hb4
  have hv4 := hv3.below hb4
  clear hown0 hg1 hown1 hmk hv3 hb4 G3
  go_upto_region 5 with fail
  go_cut [12] (fun s12 wc => s12 = .int .i64 (szd size) ∧ wc = w4)
  case first =>
    by_cases h0 : size < 0
    · go_wp2_with fail
      go_meet
      exact ⟨congrArg (Value.int .i64) (show (0 : Int) = (szd size : Int) by unfold szd; omega), rfl⟩
    · by_cases h8 : size ≤ 8
      · go_wp2_with fail
        go_meet
        exact ⟨congrArg (Value.int .i64) (show size = (szd size : Int) by unfold szd; omega), rfl⟩
      · go_wp2_with fail
        go_meet
        exact ⟨congrArg (Value.int .i64) (show (8 : Int) = (szd size : Int) by unfold szd; omega), rfl⟩
  case rest =>
    obtain ⟨rfl, rfl⟩ := hcut
    have hsz := szd_le size
    go_wp2_with fail
    refine (put v1 ahead n size _ ho1 hn (by omega)).mono ?_
    rintro e wa ⟨va, rfl, howna, hba⟩
    go_wp2_with fail
    refine (ptext v1 ahead s _ (ho1.below hba) (by omega)).mono ?_
    rintro e wb ⟨vb, rfl, hownb, hbb⟩
    have hbab := below_trans hba hbb
    obtain ⟨b0, b1, b2⟩ := boxv (below_trans G4 hbab)
    go_wp2_with fail
    refine (pvalue v1 ahead k n' t _ (ho1.below hbab) hk0 hk1 (by omega)).mono ?_
    rintro e wx ⟨vc, rfl, hownc, hbc⟩
    have hbx := below_trans hbab hbc
    have G9 := below_trans G4 hbx
    have hv9 := hv4.below hbx
    have ha9 := (howna.bs.below (below_trans hbb hbc))
    have hb9 := hownb.bs.below hbc
    have hc9 := hownc.bs
    clear b0 b1 b2 howna hownb hownc hbab hbx hba hbb hbc hv4 ho1 G4
    obtain ⟨SA, hSA⟩ : ∃ SA : ByteArray, SA = ⟨ahead.toArray⟩ := ⟨_, rfl⟩
    obtain ⟨SN, hSN⟩ : ∃ SN : ByteArray, SN = ⟨(Lib.leBytes (szd size) n).toArray⟩ := ⟨_, rfl⟩
    obtain ⟨ST, hST⟩ : ∃ ST : ByteArray, ST = ⟨(txtB s).toArray⟩ := ⟨_, rfl⟩
    obtain ⟨SV, hSV⟩ : ∃ SV : ByteArray, SV = ⟨(valB k n' t).toArray⟩ := ⟨_, rfl⟩
    have hS : ∀ W, Below wx.heap.size wx W → (Below wx.heap.size wx W ∧ (convert 30 9 va).run Try.prog W = .ok (.string (SA ++ SN)) W ∧ (convert 30 9 vb).run Try.prog W = .ok (.string (SA ++ ST)) W ∧ (convert 30 9 vc).run Try.prog W = .ok (.string (SA ++ SV)) W ∧ (convert 30 9 (.slice A ahead.length c)).run Try.prog W = .ok (.string SA) W ∧
        W.cell? ⟨w.heap.size + 1, 0, none⟩ = some (.int .u8 k) ∧ W.cell? ⟨w.heap.size + 1, 1, none⟩ = some (.int .i64 n') ∧ W.cell? ⟨w.heap.size + 1, 2, none⟩ = some (.string t)) := fun W hW => by
      have cv := fun (v : Value) (l : List UInt8) (h : Bs wx v l) => run_str (P := Try.prog) (src := 30) (dst := 9) Try.underlying30 Try.underlying5 Try.underlying9 (h.below hW)
      obtain ⟨b0, b1, b2⟩ := boxv (below_trans G9 hW)
      refine ⟨hW, ?_, ?_, ?_, ?_, b0, b1, b2⟩
      · rw [cv _ _ ha9, str_append, hSA, hSN]
      · rw [cv _ _ hb9, str_append, hSA, hST]
      · rw [cv _ _ hc9, str_append, hSA, hSV]
      · rw [cv _ _ hv9, hSA]
    have HS := Lib.hid hS
    have zN : SA.size + SN.size ≤ 9223372036854775807 := by rw [hSA, hSN]; simp [ByteArray.size, Lib.leBytes_length]; omega
    have zT : SA.size + ST.size ≤ 9223372036854775807 := by rw [hSA, hST]; have := txtB_length s; simp only [ByteArray.size, List.size_toArray]; omega
    have zV : SA.size + SV.size ≤ 9223372036854775807 := by rw [hSA, hSV]; have := valB_length k n' t; simp only [ByteArray.size, List.size_toArray] at *; omega
    have eN : ∀ W, (Op.stringOp .add SA SN).run Try.prog W = .ok (.string (SA ++ SN)) W := fun _ => run_string_add_sum _ _ _ zN
    have eT : ∀ W, (Op.stringOp .add SA ST).run Try.prog W = .ok (.string (SA ++ ST)) W := fun _ => run_string_add_sum _ _ _ zT
    have eV : ∀ W, (Op.stringOp .add SA SV).run Try.prog W = .ok (.string (SA ++ SV)) W := fun _ => run_string_add_sum _ _ _ zV
    have HSN := Lib.hid hSN
    have HST := Lib.hid hST
    have HSV := Lib.hid hSV
    clear hS hSA hSN hST hSV ha9 hb9 hc9
    go_upto_region 9 with fail
    go_cut [94] (fun s94 wc => s94 = .bool false ∧ Below wx.heap.size wx wc)
    case first =>
      refine wp_region_noPanic ?_
      go_region_held (fun W => Below wx.heap.size wx W ∧ (convert 30 9 va).run Try.prog W = .ok (.string (SA ++ SN)) W ∧ (convert 30 9 vb).run Try.prog W = .ok (.string (SA ++ ST)) W ∧ (convert 30 9 vc).run Try.prog W = .ok (.string (SA ++ SV)) W ∧ (convert 30 9 (.slice A ahead.length c)).run Try.prog W = .ok (.string SA) W ∧
        W.cell? ⟨w.heap.size + 1, 0, none⟩ = some (.int .u8 k) ∧ W.cell? ⟨w.heap.size + 1, 1, none⟩ = some (.int .i64 n') ∧ W.cell? ⟨w.heap.size + 1, 2, none⟩ = some (.string t))
        (first | assumption | exact HS.out _ ((Below.refl _ _).drew) | (rename Below wx.heap.size wx _ ∧ _ => hH; exact HS.out _ (below_trans hH.1 hby)))
        (first
          | (go_at_call 18; refine (ref_number n (szd size) _ hn hsz).mono ?_; rintro e wy ⟨vy, rfl, howny, hby⟩; have hcy := run_str (P := Try.prog) (src := 30) (dst := 9) Try.underlying30 Try.underlying5 Try.underlying9 howny.bs; rw [← HSN.out] at hcy)
          | (go_at_call 19; refine (ref_text s _ (by omega)).mono ?_; rintro e wy ⟨vy, rfl, howny, hby⟩; have hcy := run_str (P := Try.prog) (src := 30) (dst := 9) Try.underlying30 Try.underlying5 Try.underlying9 howny.bs; rw [← HST.out] at hcy)
          | (go_at_call 14; refine (of2 _ _ _ _).mono ?_; rintro e wy ⟨rfl, gy⟩; have hby := gy.below)
          | (go_at_call 20; refine (ref_value k n' t _ hk0 hk1 (by omega)).mono ?_; rintro e wy ⟨vy, rfl, howny, hby⟩; have hcy := run_str (P := Try.prog) (src := 30) (dst := 9) Try.underlying30 Try.underlying5 Try.underlying9 howny.bs; rw [← HSV.out] at hcy))
      refine NoPanic.normal ?_
      rename Below wx.heap.size wx _ ∧ _ => hH
      go_wp2_with fail
      go_meet
      exact ⟨rfl, hH.1⟩
    case rest =>
      obtain ⟨rfl, hb9⟩ := hcut
      obtain ⟨wm, hwm⟩ : ∃ wm, wm = wc := ⟨_, rfl⟩
      subst hwm
      clear HS HSN HST HSV eN eT eV zN zT zV
      have G10 := below_trans G9 hb9
      have hS : ∀ W, Below wm.heap.size wm W → (Below wm.heap.size wm W ∧ W.cell? ⟨w.heap.size + 1, 0, none⟩ = some (.int .u8 k) ∧ W.cell? ⟨w.heap.size + 1, 1, none⟩ = some (.int .i64 n') ∧ W.cell? ⟨w.heap.size + 1, 2, none⟩ = some (.string t)) := fun W hW => ⟨hW, boxv (below_trans G10 hW)⟩
      have HS := Lib.hid hS
      clear hS
      go_upto_region 11 with fail
      go_cut [16] (fun s16 wd => ∃ b, s16 = rp b ∧ Rd wd b b (Lib.leBytes (szd size) n ++ (txtB s ++ valB k n' t)) 0 ∧ Below wm.heap.size wm wd ∧ wm.heap.size ≤ b)
      case first =>
        refine wp_region_noPanic ?_
        go_region_held (fun W => Below wm.heap.size wm W ∧ W.cell? ⟨w.heap.size + 1, 0, none⟩ = some (.int .u8 k) ∧ W.cell? ⟨w.heap.size + 1, 1, none⟩ = some (.int .i64 n') ∧ W.cell? ⟨w.heap.size + 1, 2, none⟩ = some (.string t))
          (first | assumption | exact HS.out _ ((Below.refl _ _).drew) | (rename Below wm.heap.size wm _ ∧ _ => hH; exact HS.out _ (below_trans hH.1 hby)))
          (first
            | (go_at_call 15; refine (put (.slice none 0 0) [] n (szd size) _ (Bs.nil _) hn (by simp)).mono ?_; rintro e wy ⟨vy, rfl, howny, hby⟩; rw [szd_of hsz, List.nil_append] at howny; have hq1 : wm.heap.size ≤ wy.heap.size := hby.size)
            | (go_at_call 16; refine (ptext vy _ s _ howny.bs (by rw [Lib.leBytes_length]; omega)).mono ?_; rintro e wz ⟨vz, rfl, hownz, hby⟩; have hq2 := hby.size)
            | (go_at_call 17; refine (pvalue vz _ k n' t _ hownz.bs hk0 hk1 (by rw [List.length_append, Lib.leBytes_length, txtB_length]; omega)).mono ?_; rintro e wu ⟨vu, rfl, hownu, hby⟩; have hq3 := hby.size)
            | (go_at_call 21; refine (ropen vu _ _ hownu.bs (by have := valB_length k n' t; rw [List.length_append, List.length_append, Lib.leBytes_length, txtB_length]; omega)).mono ?_; rintro e wo ⟨b, rfl, hrd, hby, hbb⟩))
        refine NoPanic.normal ?_
        rename Below wm.heap.size wm _ ∧ _ => hH
        go_wp2_with fail
        go_meet
        exact ⟨b, rfl, by rw [← List.append_assoc]; exact hrd, hH.1, by omega⟩
      case rest =>
        obtain ⟨b, rfl, hrd, hbd, hbb⟩ := hcut
        clear HS
        have G11 := below_trans G10 hbd
        have hw2 : w.heap.size + 2 ≤ wm.heap.size := by have := G10.size; simpa using this
        clear G9 G10 hb9 hv9
        have hnum := rnumber b _ 0 (szd size) wc hrd
        obtain ⟨a1, a2, a3⟩ := tk_app (x := Lib.leBytes (szd size) n) (m := txtB s ++ valB k n' t) (Lib.leBytes_length _ _)
        rw [szd_of hsz, a1, a2, a3, leNat_leBytes_mod] at hnum
        obtain ⟨M, hM⟩ : ∃ M, M = n % 256 ^ szd size := ⟨_, rfl⟩
        rw [← hM] at hnum
        have HM := Lib.hid hM
        clear hM
        have htxt := fun W hW => rtext b (B := b) (txtB s ++ valB k n' t) 0 9000 W hW
        rw [txR_app (by omega) (by omega), show (⟨(s.data.toList, valB k n' t, (0 : Int)).1.toArray⟩ : ByteArray) = s by simp] at htxt
        have hval := fun W hW hB => rvalue b (B := b) (valB k n' t) 0 W hW hB
        obtain ⟨r1, r2, r3, r4, r5⟩ := val_read k n' t hn0 hn1 HR.out
        rw [r1, r2, r3, r4, r5, show vlV k n' t 0 = vv k n' t by simp [vlV, HR.out], show vlE k n' t 0 = 0 by simp [vlE, HR.out]] at hval
        have HN := Lib.hid hnum
        have HT := Lib.hid htxt
        have HV := Lib.hid hval
        clear hnum htxt hval a1 a2 a3 r1 r2 r3 r4 r5
        obtain ⟨b0, b1, b2⟩ := boxv G11
        have hbw : b < wc.heap.size := hrd.lt
        go_wp2_with fail
        refine HN.out.mono ?_
        rintro e wp ⟨rfl, hrp, hgp⟩
        go_wp2_with fail
        refine (HT.out _ hrp).mono ?_
        rintro e wq ⟨rfl, hrq, hgq⟩
        go_wp2_with fail
        refine (HV.out _ hrq (by have := hgp.size; have := hgq.size; omega)).mono ?_
        rintro e wv ⟨rfl, hrv, hgv⟩
        have hg3 := World.grownBy.trans hgp (World.grownBy.trans hgq hgv)
        have hne : w.heap.size + 1 ≠ b := by omega
        have d0 := hg3.cell b0 (by simpa using hne)
        have d1 := hg3.cell b1 (by simpa using hne)
        have d2 := hg3.cell b2 (by simpa using hne)
        clear b0 b1 b2
        have hltv : w.heap.size + 1 < wv.heap.size := by have := hg3.size; omega
        have e0 := (World.cell?_alloc_lt wv (.cells #[.int .u8 k, .int .i64 n', .string t] 28) ⟨w.heap.size + 1, 0, none⟩ hltv).trans d0
        have e1 := (World.cell?_alloc_lt wv (.cells #[.int .u8 k, .int .i64 n', .string t] 28) ⟨w.heap.size + 1, 1, none⟩ hltv).trans d1
        have e2 := (World.cell?_alloc_lt wv (.cells #[.int .u8 k, .int .i64 n', .string t] 28) ⟨w.heap.size + 1, 2, none⟩ hltv).trans d2
        have hba : Below wv.heap.size wv (wv.alloc (.cells #[.int .u8 k, .int .i64 n', .string t] 28)) := (Below.refl _ _).alloc (Nat.le_refl _) _
        have hra := hrv.below hba
        have hEnd : Below w.heap.size w (wv.alloc (.cells #[.int .u8 k, .int .i64 n', .string t] 28)) :=
          ((below_boxes G11).grown hg3 (below_boxes G11).size (fun j e => by injection e with e; omega)).trans (hba.mono (by omega))
        clear d0 d1 d2
        by_cases hK : szd size < 8
        · have hpw := shl_wrap hK
          obtain ⟨P, hP⟩ : ∃ P, P = 256 ^ szd size := ⟨_, rfl⟩
          have hpos : 0 < P := by rw [hP]; exact Nat.pow_pos (by omega)
          have hMP : (M : Int) = (n : Int) % (P : Int) := by rw [HM.out, hP]; omega
          rw [← hP] at hpw
          have HP := Lib.hid hP
          clear hP
          have hpos' : ¬ (P : Int) = 0 := by omega
          go_wp2_with fail
          refine (rend b [] 0 _ hra).mono ?_
          rintro e wz ⟨rfl, rfl⟩
          go_wp2_with fail
          refine (rleft b [] 0 _ hra).mono ?_
          rintro e wz ⟨rfl, rfl⟩
          go_wp2_with fail
          go_ret
          exact ⟨rfl, hEnd⟩
        · have hK8 : szd size = 8 := by omega
          have h8 : (256 : Nat) ^ 8 = 18446744073709551616 := by decide
          have hMn : M = n := by rw [HM.out, hK8, h8]; exact Nat.mod_eq_of_lt hn
          subst hMn
          go_wp2_with fail
          refine (rend b [] 0 _ hra).mono ?_
          rintro e wz ⟨rfl, rfl⟩
          go_wp2_with fail
          refine (rleft b [] 0 _ hra).mono ?_
          rintro e wz ⟨rfl, rfl⟩
          go_wp2_with fail
          go_ret
          exact ⟨rfl, hEnd⟩

end Go.Proofs.Ytbfnlpooocaeiaa.packedPuts
