/- Package renew: Begin: is there room; and whose are the references. -/
import Derived.Test.YtgkhbnkbhcginaaRenew06
namespace Go.Proofs.Ytgkhbnkbhcginaa
open Go.RowKit

section
variable {b most : Nat} {M : Cells} {F : Nat → Prop}
set_option maxRecDepth 100000 in
/-- Begin, where there is no room. -/
theorem vBegin_no (ow : Int) (need : Nat) (v : Value) (w : World) (h : Ar w b most M F) (hn : most < live (most + 1) M + need) : Calls Try.prog 68 #[ap b, .int .u32 ow, .int .i64 (need : Int), v] w fun e w' => e = .returned (.bool false) ∧ Below w.heap.size w w' := by
  have HA := Lib.hid h
  have hlt : (most : Int) - (live (most + 1) M : Nat) < (need : Int) := by omega
  clear h
  go_enter Try.func68, Try.ntmps68
  go_wp2_with fail
  refine (aroom b most M F _ HA.out).mono ?_
  rintro e w2 ⟨rfl, k, rfl⟩
  have HE := Lib.hid (below_drewN w k)
  go_wp2_with fail
  go_ret
  exact ⟨rfl, HE.out⟩
set_option maxRecDepth 100000 in
/-- Begin with an owner. -/
theorem vBegin_own (ow : Int) (need : Nat) (v : Value) (w : World) (h : Ar w b most M F) (hn : live (most + 1) M + need ≤ most) (h0 : ¬ ow = 0) : Calls Try.prog 68 #[ap b, .int .u32 ow, .int .i64 (need : Int), v] w fun e w' => e = .returned (.bool true) ∧ Below w.heap.size w w' := by
  have HA := Lib.hid h
  have hlt : ¬ (most : Int) - (live (most + 1) M : Nat) < (need : Int) := by omega
  clear h
  go_enter Try.func68, Try.ntmps68
  go_wp2_with fail
  refine (aroom b most M F _ HA.out).mono ?_
  rintro e w2 ⟨rfl, k, rfl⟩
  have HE := Lib.hid (below_drewN w k)
  go_wp2_with fail
  go_ret
  exact ⟨rfl, HE.out⟩
set_option maxRecDepth 100000 in
set_option maxHeartbeats 800000 in
/-- Begin without an owner: these are kept. -/
theorem vBegin_keep (need : Nat) (ks : List Nat) (v : Value) (w : World) (h : Ar w b most M F) (hn : live (most + 1) M + need ≤ most) (hv : Rd w v ks.length (nums (ns ks))) (hO : ∀ x, v.ownBlock = some x → ¬ F x ∧ x < w.heap.size) (hl : ks.length ≤ 4194304) (hr : ∀ j, rf (M j) + ks.length ≤ 4611686018427387902) :
    Calls Try.prog 68 #[ap b, .int .u32 0, .int .i64 (need : Int), v] w fun e w' => e = .returned (.bool true) ∧ Stp w w' b most (keepAll M ks) F := by
  obtain ⟨A, c, rfl, hc⟩ := hv.form
  have HA := Lib.hid h
  have HV := Lib.hid hv
  have HR := Lib.hid hr
  have HO := Lib.hid hO
  have HF := Lib.hid (show ∀ x, F x → x < w.heap.size from fun x hx => h.lt hx)
  have hlt : ¬ (most : Int) - (live (most + 1) M : Nat) < (need : Int) := by omega
  clear h hv hr hO
  go_enter Try.func68, Try.ntmps68
  go_wp2_with fail
  refine (aroom b most M F _ HA.out).mono ?_
  rintro e w2 ⟨rfl, k, rfl⟩
  have HE := Lib.hid (below_drewN w k)
  have HS0 := Lib.hid (Stp.below HA.out (below_drewN w k))
  go_wp2_with fail
  go_loopg [19] ks.length (fun c' i wr => ∃ j : Nat, j + c' = ks.length ∧ i = .int .i64 j ∧ Stp w wr b most (keepAll M (ks.take j)) F)
  case atStart => exact ⟨0, by omega, rfl, HS0.out⟩
  case round =>
    obtain ⟨j, hj, rfl, hs⟩ := hrel
    by_cases h1 : j < ks.length
    · obtain ⟨x, hx⟩ : ∃ x, ks[j]? = some x := ⟨_, List.getElem?_eq_getElem h1⟩
      obtain ⟨g, o, c', e, _, hcell⟩ := (hs.kp.rd HV.out (fun x hx => (HO.out x hx).1)).at (j := j) (u := .int .i64 (x : Int)) (by rw [nums_at]; unfold ns; rw [List.getElem?_map, hx]; rfl)
      injection e with e1 e2 e3
      subst e1 e3
      have HX := Lib.hid hx
      have HS := Lib.hid hs
      clear hx hs
      have hrx : rf (keepAll M (ks.take j) x) ≤ 4611686018427387904 := by
        have h1 := keepAll_rf (j := x) (l := ks.take j) (M := M)
        have h2 := HR.out x
        rw [List.length_take] at h1
        omega
      go_wp2_with (go_at_call 54; refine (vkeep1 x _ HS.out.ar hrx).mono ?_; rintro e w3 ⟨⟨zz, rfl⟩, hs3⟩; have HS3 := Lib.hid hs3; clear hs3)
      go_roundg (ks.length - (j + 1))
      case measure => omega
      case rel =>
        refine ⟨j + 1, by omega, by go_num, ?_⟩
        rw [List.take_add_one, HX.out, Option.toList_some, keepAll_snoc]
        exact HS.out.trans HS3.out
    · obtain rfl : j = ks.length := by omega
      have HS := Lib.hid (show Stp w wr b most (keepAll M ks) F by rw [List.take_length] at hs; exact hs)
      clear hs
      go_wp2_with fail
      go_ret
      exact ⟨rfl, HS.out⟩
end
end Go.Proofs.Ytgkhbnkbhcginaa
