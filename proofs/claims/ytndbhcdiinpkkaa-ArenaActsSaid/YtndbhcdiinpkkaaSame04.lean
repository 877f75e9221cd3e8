/- Layer 4's law: has the arena what the document says (same). -/
import Derived.Test.YtndbhcdiinpkkaaKeepAct04
import Derived.Test.YtndbhcdiinpkkaaMap04
import Derived.Laws.StructEq
import Derived.RegionTactic
import Derived.Test.YtndbhcdiinpkkaaLex
import Derived.Test.YtndbhcdiinpkkaaLex
import Derived.Test.YtndbhcdiinpkkaaLex
import Derived.Test.YtndbhcdiinpkkaaLex
import Derived.Test.YtndbhcdiinpkkaaLex
import Derived.Test.YtndbhcdiinpkkaaLex
import Derived.Test.YtndbhcdiinpkkaaLex
import Derived.Test.YtndbhcdiinpkkaaLex
import Derived.Test.YtndbhcdiinpkkaaLex
namespace Go.Proofs.Ytndbhcdiinpkkaa
open Go.RowKit

section
variable {w0 w w' : World} {wb b rb nd most L : Nat} {vC vn vm : Value} {D D' : Nat → Dc} {K : Nat → Value} {Nm mine own : Nat → Nat} {M : Cells} {F : Nat → Prop} {B : Nat}
/-- The numbers of the names below j that are held. -/
def Below4 (D : Nat → Dc) (Nm : Nat → Nat) (j : Nat) (n : Int) : Prop := ∃ k, k < j ∧ 1 ≤ (D k).refs ∧ n = (Nm k : Int)
/-- What stands in the midst of same. -/
structure Same (w0 wr : World) (wb b rb nd most mb j : Nat) (vC vn vm : Value) (D : Nat → Dc) (K : Nat → Value) (Nm mine : Nat → Nat) (M : Cells) (F : Nat → Prop) : Prop where
  law : Law w0 wr wb b rb nd most vC vn vm D K Nm mine M F
  map : Tk wr mb (Below4 D Nm j)
theorem Same.below {wr wr' : World} {mb j : Nat} (h : Same w0 wr wb b rb nd most mb j vC vn vm D K Nm mine M F) (hb : Below wr.heap.size wr wr') : Same w0 wr' wb b rb nd most mb j vC vn vm D K Nm mine M F := ⟨h.law.below hb, h.map.below hb⟩
theorem Same.alloc {wr : World} {mb j : Nat} (h : Same w0 wr wb b rb nd most mb j vC vn vm D K Nm mine M F) (o : Obj) : Same w0 (wr.alloc o) wb b rb nd most mb j vC vn vm D K Nm mine M F := h.below ((Below.refl _ _).alloc (Nat.le_refl _) o)
theorem Same.elsewhere {wr wr' : World} {mb j : Nat} {G : Nat → Prop} (h : Same w0 wr wb b rb nd most mb j vC vn vm D K Nm mine M F) (hk : Kp G wr wr') (hG : ∀ g, G g → w0.heap.size ≤ g ∧ ¬ F g ∧ ¬ Lw wb rb nd vC vn vm K g) (hm : ¬ G mb) : Same w0 wr' wb b rb nd most mb j vC vn vm D K Nm mine M F := ⟨h.law.elsewhere hk hG, h.map.kp hk hm⟩
theorem below4_not (hI : Inv nd most L D Nm mine own M) {j : Nat} (hj : j < nd) (hr : 1 ≤ (D j).refs) : ¬ Below4 D Nm j (Nm j : Int) := by
  rintro ⟨k, k1, k2, k3⟩
  have := hI.rel.r2 k j (by omega) hj k2 hr (by omega)
  omega

theorem lnumberG (n : Int) (w : World) : Calls Try.prog 35 #[.int .i64 n] w fun e w' => e = .returned (.agg #[.int .u8 2, .int .i64 n, .string ⟨#[]⟩]) ∧ Gw w w' := by
  go_enter Try.func35, Try.ntmps35
  go_wp2_with fail
  exact bodyPost_ret (v := .agg #[.int .u8 2, .int .i64 n, .string ⟨#[]⟩]) (by simp [results, Try.results35, go_sem]) rfl ⟨rfl, (Gw.refl w).alloc _ _⟩
theorem Gr.of {w : World} {b o : Nat} {v : Value} (hc : w.cell? ⟨b, o, none⟩ = some v) (g : Gr w) : g.at'.cell? ⟨b, o, none⟩ = some v := Gr.cell hc (World.block_lt_of_cell? w _ hc) g

def Samed (w0 : World) (wb b rb nd most : Nat) (vC vn vm : Value) (D : Nat → Dc) (K : Nat → Value) (Nm mine : Nat → Nat) (M : Cells) (F : Nat → Prop) (e : Ending) (w' : World) : Prop :=
  e = .returned (.bool true) ∧ Law w0 w' wb b rb nd most vC vn vm D K Nm mine M F
set_option maxRecDepth 100000 in
set_option maxHeartbeats 4000000 in
theorem lsame (hL : L ≤ 500) (h : Law w0 w wb b rb nd most vC vn vm D K Nm mine M F) (hI : Inv nd most L D Nm mine own M) (hm2 : most ≤ 1000) :
    Calls Try.prog 12 #[wp' wb] w (Samed w0 wb b rb nd most vC vn vm D K Nm mine M F) := by
  have n1 := h.mem.doc.n1
  have n2 := h.mem.doc.n2
  have c0 := h.mem.wd.c0
  have c1 := h.mem.wd.c1
  have r1 := h.mem.doc.rd.c1
  have hdl := dlive_le nd D
  have HL := Lib.hid h
  have HI := Lib.hid hI
  have hlim : ∀ j, (D j).refs ≤ 1000 := fun j => by have := hI.lim j; omega
  have A1 : ∀ k, Calls Try.prog 14 #[ap b] (w.drewN k) (fun e w' => e = .returned (.int .i64 (dlive nd D : Nat)) ∧ w.drewN k = w') := fun k => hI.live ▸ alive b most M F _ (h.ar.drewN k)
  have A2 : ∀ k, Calls Try.prog 44 #[rp rb] (w.drewN k) (fun e w' => e = .returned (.int .i64 (dlive nd D : Nat)) ∧ w.drewN k = w') := fun k => ref_live _ (h.mem.doc.below (below_drewN _ _)) hlim
  have A3 : ∀ k, Calls Try.prog 15 #[ap b] (w.drewN k) (fun e w' => e = .returned (.int .i64 ((most : Int) - (dlive nd D : Nat))) ∧ ∃ j, w' = (w.drewN k).drewN j) := fun k => hI.live ▸ aroom b most M F _ (h.ar.drewN k)
  have HA1 := Lib.hid A1
  have HA2 := Lib.hid A2
  have HA3 := Lib.hid A3
  have hd : decide (dlive nd D = dlive nd D) = true := by simp
  clear h hI A1 A2 A3 hlim
  go_enter Try.func12, Try.ntmps12
  go_wp2_with fail
  go_quiet (first | (go_at_call 14; exact quiet_same (HA1.out _)) | (go_at_call 44; exact quiet_same (HA2.out _)) | (go_at_call 15; exact Calls.quiet_of (HA3.out _)))
  have HL1 := Lib.hid (HL.out.below (below_drewN w nq))
  have hsz : w.heap.size ≤ (w.drewN nq).heap.size := Nat.le_refl _
  generalize w.drewN nq = w1 at HL1 hsz ⊢
  clear c0 c1 r1 HA1 HA2 HA3 hd
  have hmk := run_makeMap (P := Try.prog) 100 w1
  obtain ⟨gn, cn, hvn, _⟩ := HL1.out.mem.nameAt (j := 0) (by omega)
  obtain ⟨gC, cC, hvC, _⟩ := HL1.out.mem.doc.at (i := 0) (by omega)
  have c1 := (HL1.out.alloc (.map #[] 0)).mem.wd.c1
  have r0 := (HL1.out.alloc (.map #[] 0)).mem.doc.rd.c0
  rw [hvC] at r0
  have HS := Lib.hid (show Same w0 (w1.alloc (.map #[] 0)) wb b rb nd most w1.heap.size 0 vC vn vm D K Nm mine M F from ⟨HL1.out.alloc _, (Tk.made w1 _)⟩)
  have HMB := Lib.hid (show (w0.heap.size ≤ w1.heap.size ∧ ¬ F w1.heap.size ∧ ¬ Lw wb rb nd vC vn vm K w1.heap.size) from ⟨HL1.out.bel.size, fun hf => by have := HL1.out.ar.lt hf; omega, fun hf => by have := (HL1.out.mem.lt hf).2; omega⟩)
  generalize hmb : w1.heap.size = mb at HS HMB hmk ⊢
  generalize hw2 : w1.alloc (.map #[] 0) = w2 at HS hmk c1 r0 ⊢
  have hmb2 : mb < w2.heap.size := HS.out.map.lt
  clear hw2 hmb HL1 hsz
  go_wp2_with fail
  go_loopg [50] nd (fun c i' wr => ∃ j : Nat, j + c = nd ∧ i' = .int .i64 j ∧ Same w0 wr wb b rb nd most mb j vC vn vm D K Nm mine M F)
  case atStart => exact ⟨0, by omega, rfl, HS.out⟩
  case round =>
    obtain ⟨j, hj, rfl, hM⟩ := hrel
    by_cases h1 : j < nd
    · obtain ⟨g', c', e, uk, ur, uo, uw, _⟩ := hM.law.mem.doc.at h1
      rw [hvC] at e
      simp only [Value.slice.injEq, Option.some.injEq, Addr.mk.injEq, and_true, true_and] at e
      obtain ⟨rfl, rfl⟩ := e

      by_cases hr : 1 ≤ (D j).refs
      · have hj1 : 1 ≤ j := by
          have := HI.out.rel.z1
          rcases Nat.eq_zero_or_pos j with e | e
          · subst e; omega
          · exact e
        obtain ⟨gK, cK, hK, _, e0, _⟩ := own_at (hM.law.mem.doc.kr j hj1 h1) (j := 0) (u := .int .i64 ((D j).x : Int)) rfl
        obtain ⟨gK', cK', hK', _, e1, _⟩ := own_at (hM.law.mem.doc.kr j hj1 h1) (j := 1) (u := .int .i64 ((D j).y : Int)) rfl
        rw [hK] at hK' uk
        simp only [Value.slice.injEq, Option.some.injEq, Addr.mk.injEq, and_true, true_and] at hK'
        obtain ⟨rfl, rfl⟩ := hK'
        have hr4 := HI.out.rel.r4 j h1 hr
        obtain ⟨gn', cn', e, nj⟩ := hM.law.mem.nameAt h1
        rw [hvn] at e
        simp only [Value.slice.injEq, Option.some.injEq, Addr.mk.injEq, and_true, true_and] at e
        obtain ⟨rfl, rfl⟩ := e
        have m0 := hM.law.mem.wd.c0
        have m2 := hM.law.mem.wd.c2
        rw [hvn] at m2
        have hwl := hM.law.mem.wd.lt
        have hgl : gn < wr.heap.size := World.block_lt_of_cell? wr _ nj
        have hrl := HI.out.lim j
        have hr0 : ¬ ((D j).refs : Int) = 0 := by omega
        have y3 : (0 : Int) ≤ (j : Int) := by omega
        have y4 : (j : Int) < (nd : Int) := by omega
        have HM := Lib.hid (hM.alloc (.cells #[.slice (some ⟨gK, 0, none⟩) 2 cK, .int .i64 ((D j).refs : Int), .int .u32 (D j).owner, .int .u32 (D j).word] 96))
        have HX := Lib.hid (C4.new wr 96 (.slice (some ⟨gK, 0, none⟩) 2 cK) (.int .i64 ((D j).refs : Int)) (.int .u32 (D j).owner) (.int .u32 (D j).word))
        have HR1 := Lib.hid (HI.out.rel.r1 j h1 hr)
        have hxl : wr.heap.size < (wr.alloc (.cells #[.slice (some ⟨gK, 0, none⟩) 2 cK, .int .i64 ((D j).refs : Int), .int .u32 (D j).owner, .int .u32 (D j).word] 96)).heap.size := HX.out.lt
        have hn1 := ((hM.alloc (.cells #[.slice (some ⟨gK, 0, none⟩) 2 cK, .int .i64 ((D j).refs : Int), .int .u32 (D j).owner, .int .u32 (D j).word] 96)).law.mem.nameAt h1)
        go_wp2_with fail
        refine (get (Nm j) (cellOf nx Nm (D j)) (D j).refs b most M F _ HM.out.law.ar HR1.out).mono ?_
        rintro e wg ⟨v, kv, rfl, hv, hkv, hbg⟩
        have HT := Lib.hid (HM.out.below hbg)
        have HX2 := Lib.hid (HX.out.below hbg)
        have hnot := below4_not HI.out h1 hr
        obtain ⟨gv, mv, ev, _, v0, _⟩ := own_at hv (j := 0) (u := .int .u8 2) rfl
        obtain ⟨gx, mx, ex, _, x0, _⟩ := own_at hkv (j := 0) (u := .int .i64 (Nm (D j).x : Int)) rfl
        subst ev ex
        have HV := Lib.hid (show wg.ownsRow _ 63 3 (.slice (some ⟨gv, 0, none⟩) 1 mv) 1 [.int .u8 2, .int .i64 (D j).word, .string ⟨#[]⟩] from hv)
        have HKV := Lib.hid (show wg.ownsRow _ 3 1 (.slice (some ⟨gx, 0, none⟩) 2 mx) 2 [.int .i64 (Nm (D j).x : Int), .int .i64 (Nm (D j).y : Int)] from hkv)
        have q1 : (cellOf nx Nm (D j)).owner = (D j).owner := rfl
        have q2 : (cellOf nx Nm (D j)).a = (D j).word := rfl
        have q3 : (cellOf nx Nm (D j)).b = nx (D j).word := rfl
        have q4 : (cellOf nx Nm (D j)).vals.length = 1 := rfl
        have q5 : (cellOf nx Nm (D j)).kids.length = 2 := rfl
        rw [q1, q2, q3, q4, q5]
        have HT4 := Lib.hid (HT.out.alloc (.cells #[.int .u32 (D j).owner, .int .u32 (D j).word, .int .u32 (nx (D j).word), .slice (some ⟨gv, 0, none⟩) 1 mv, .slice (some ⟨gx, 0, none⟩) 2 mx] 47))
        have HC4 := Lib.hid (C5.new wg 47 (.int .u32 (D j).owner) (.int .u32 (D j).word) (.int .u32 (nx (D j).word)) (.slice (some ⟨gv, 0, none⟩) 1 mv) (.slice (some ⟨gx, 0, none⟩) 2 mx))
        have HX4 := Lib.hid (HX2.out.alloc (.cells #[.int .u32 (D j).owner, .int .u32 (D j).word, .int .u32 (nx (D j).word), .slice (some ⟨gv, 0, none⟩) 1 mv, .slice (some ⟨gx, 0, none⟩) 2 mx] 47))
        have HV4 := Lib.hid (HV.out.alloc (.cells #[.int .u32 (D j).owner, .int .u32 (D j).word, .int .u32 (nx (D j).word), .slice (some ⟨gv, 0, none⟩) 1 mv, .slice (some ⟨gx, 0, none⟩) 2 mx] 47))
        have HK4 := Lib.hid (HKV.out.alloc (.cells #[.int .u32 (D j).owner, .int .u32 (D j).word, .int .u32 (nx (D j).word), .slice (some ⟨gv, 0, none⟩) 1 mv, .slice (some ⟨gx, 0, none⟩) 2 mx] 47))
        have hzg : wr.heap.size ≠ wg.heap.size := by have := HX2.out.lt; omega
        have hb0 := (HM.out.law.bel.size)
        have hwz := HM.out.law.bel.size
        have hzF := Lib.hid (show ∀ g, (wr.alloc (.cells #[.slice (some ⟨gK, 0, none⟩) 2 cK, .int .i64 ((D j).refs : Int), .int .u32 (D j).owner, .int .u32 (D j).word] 96)).heap.size ≤ g → w0.heap.size ≤ g ∧ ¬ F g ∧ ¬ Lw wb rb nd vC vn vm K g ∧ g ≠ mb from fun g hg => ⟨Nat.le_trans HM.out.law.bel.size hg, fun hf => by have := HM.out.law.ar.lt hf; omega, fun hf => by have := (HM.out.law.mem.lt hf).2; omega, fun e => by have := HM.out.map.lt; omega⟩)
        have nzc := hzF.out wg.heap.size hbg.size
        have nzv := hzF.out gv (HV.out.lt _ rfl).1
        have nzx := hzF.out gx (HKV.out.lt _ rfl).1
        clear hv hkv q1 q2 q3 q4 q5 v0 x0 uk ur uo uw e0 e1 nj m0 m2
        go_wp2_with fail
        generalize hzc : wg.heap.size = zc at HC4 hzg nzc ⊢
        generalize hzx : wr.heap.size = zx at HX4 hzg ⊢
        generalize hw4 : wg.alloc (.cells #[.int .u32 (D j).owner, .int .u32 (D j).word, .int .u32 (nx (D j).word), .slice (some ⟨gv, 0, none⟩) 1 mv, .slice (some ⟨gx, 0, none⟩) 2 mx] 47) = w4 at HT4 HC4 HX4 HV4 HK4 ⊢
        clear hzc hzx hw4 HM HX HT HX2 HV HKV hxl hwl hgl hb0 hwz
        obtain ⟨gn2, cn2, e, nj⟩ := HT4.out.law.mem.nameAt hr4.1
        rw [hvn] at e
        simp only [Value.slice.injEq, Option.some.injEq, Addr.mk.injEq, and_true, true_and] at e
        obtain ⟨rfl, rfl⟩ := e
        obtain ⟨gn2, cn2, e, nk⟩ := HT4.out.law.mem.nameAt hr4.2.1
        rw [hvn] at e
        simp only [Value.slice.injEq, Option.some.injEq, Addr.mk.injEq, and_true, true_and] at e
        obtain ⟨rfl, rfl⟩ := e
        have kr := HT4.out.law.mem.doc.kr j hj1 h1
        rw [hK] at kr
        obtain ⟨gK', cK', e, _, uk0, _⟩ := own_at kr (j := 0) (u := .int .i64 ((D j).x : Int)) rfl
        simp only [Value.slice.injEq, Option.some.injEq, Addr.mk.injEq, and_true, true_and] at e
        obtain ⟨rfl, rfl⟩ := e
        obtain ⟨gK', cK', e, _, uk1, _⟩ := own_at kr (j := 1) (u := .int .i64 ((D j).y : Int)) rfl
        simp only [Value.slice.injEq, Option.some.injEq, Addr.mk.injEq, and_true, true_and] at e
        obtain ⟨rfl, rfl⟩ := e
        have vr : ∀ (q : Nat) (u : Value), ([.int .u8 2, .int .i64 (D j).word, .string ⟨#[]⟩] : List Value)[q]? = some u → w4.cell? ⟨gv, q, none⟩ = some u := fun q u hu => by
          have := HV4.out.cells (g := gv) rfl q u hu
          rwa [add_none, Nat.zero_add] at this
        have xr : ∀ (q : Nat) (u : Value), ([.int .i64 (Nm (D j).x : Int), .int .i64 (Nm (D j).y : Int)] : List Value)[q]? = some u → w4.cell? ⟨gx, q, none⟩ = some u := fun q u hu => by
          have := HK4.out.cells (g := gx) rfl q u hu
          rwa [add_none, Nat.zero_add] at this
        have bw := HI.out.wd j
        have y9 : IntKind.i64.wrap (D j).word = (D j).word := IntWalk.i64_in _ (by omega)
        have x1 : (0 : Int) ≤ ((D j).x : Int) := by omega
        have x2 : ((D j).x : Int) < (nd : Int) := by omega
        have x3 : (0 : Int) ≤ ((D j).y : Int) := by omega
        have x4 : ((D j).y : Int) < (nd : Int) := by omega
        have HRF := Lib.hid (show ∀ g : Gr w4, Calls Try.prog 18 #[ap b, .int .i64 (Nm j : Int)] g.at' fun e w' => e = .returned (.int .i64 ((D j).refs : Int)) ∧ Gw g.at' w' from fun g => by
          have hrf : rfi M (Nm j : Int) = (D j).refs := by
            unfold rfi
            rw [if_pos (by have := (HI.out.pos h1 hr).1; omega), Int.toNat_natCast, HI.out.rel.rf h1 hr]
          have := arefs (Nm j : Int) b most M F g.at' (HT4.out.law.ar.below g.grown.below)
          rw [hrf] at this
          exact this.mono fun e w' ⟨a1, a2⟩ => ⟨a1, a2 ▸ Gw.refl _⟩)
        have hlook : ∀ g : Gr w4, (Instr.lookup 100 (.map (some mb)) (.int .i64 (Nm j : Int)) false).run Try.prog g.at' = .ok (.bool false) g.at' := fun g => (HT4.out.map.below g.grown.below).look hnot
        have p0 := Gr.of (HT4.out.law.mem.wd.c0)
        have p2 := Gr.of (hvn ▸ HT4.out.law.mem.wd.c2)
        have px0 := Gr.of (HX4.out.c0)
        have px1 := Gr.of (HX4.out.c1)
        have px2 := Gr.of (HX4.out.c2)
        have px3 := Gr.of (HX4.out.c3)
        have pc0 := Gr.of (HC4.out.c0)
        have pc1 := Gr.of (HC4.out.c1)
        have pc2 := Gr.of (HC4.out.c2)
        have pc3 := Gr.of (HC4.out.c3)
        have pc4 := Gr.of (HC4.out.c4)
        have pv0 := Gr.of (vr 0 _ rfl)
        have pv1 := Gr.of (vr 1 _ rfl)
        have pv2 := Gr.of (vr 2 _ rfl)
        have pk0 := Gr.of (xr 0 _ rfl)
        have pk1 := Gr.of (xr 1 _ rfl)
        have pK0 := Gr.of (uk0)
        have pK1 := Gr.of (uk1)
        have pn0 := Gr.of (nj)
        have pn1 := Gr.of (nk)
        clear nj nk kr uk0 uk1 vr xr
        have hnx1 : bits .xor .u32 IntKind.u32.max (D j).word = nx (D j).word := rfl
        have hnx2 : bits .xor .u32 4294967295 (D j).word = nx (D j).word := rfl
        have hnx3 : bits .xor .u32 (if IntKind.u32.signed = true then -1 else IntKind.u32.max) (D j).word = nx (D j).word := rfl
        simp only [List.append]
        refine region_grown (by kernel_rfl) (lexB_of (by kernel_rfl) (by kernel_rfl)) ?_
        repeat (go_big_quiet_step (first | (go_at_call 18; exact Gr.calls _ (HRF.out _)) | (go_at_call 35; exact Gr.calls _ (lnumberG _ _))))
        refine wpQuiet_nil ?_
        rintro _ ⟨g, rfl⟩
        clear p0 p2 px0 px1 px2 px3 pc0 pc1 pc2 pc3 pc4 pv0 pv1 pv2 pk0 pk1 pK0 pK1 pn0 pn1 hlook HRF hnx1 hnx2 hnx3 y9 bw
        have HT5 := Lib.hid (HT4.out.below g.grown.below)
        have HC5 := Lib.hid (HC4.out.below g.grown.below)
        have HV5 := Lib.hid ((Kp.of_below g.grown.below (fun _ => False)).own HV4.out (fun _ _ => id))
        have HK5 := Lib.hid ((Kp.of_below g.grown.below (fun _ => False)).own HK4.out (fun _ _ => id))
        generalize hw5 : g.at' = w5 at HT5 HC5 HV5 HK5 ⊢
        clear hw5 g
        obtain ⟨w6, hput, hT6, hg6⟩ := HT5.out.map.put hnot (.bool true)
        have kg := Kp.of_grown (F := fun g => g = mb) hg6 (fun k e => .inl (by injection e with e; exact e.symm))
        have HT6 := Lib.hid (show Same w0 w6 wb b rb nd most mb (j + 1) vC vn vm D K Nm mine M F from ⟨HT5.out.law.elsewhere kg (fun g e => e ▸ HMB.out), hT6.mono (fun n hn => by
          rcases hn with ⟨k, a1, a2, a3⟩ | rfl
          · exact ⟨k, by omega, a2, a3⟩
          · exact ⟨j, by omega, hr, rfl⟩)⟩)
        have HC6 := Lib.hid (HC5.out.kp kg nzc.2.2.2)
        have HV6 := Lib.hid (kg.own HV5.out (fun k e => by cases e; exact nzv.2.2.2))
        have HK6 := Lib.hid (kg.own HK5.out (fun k e => by cases e; exact nzx.2.2.2))
        clear hT6 hg6 kg HT4 HC4 HV4 HK4 HT5 HC5 HV5 HK5 HX4
        obtain ⟨curv, hcv⟩ := own_type HV6.out gv rfl
        have ne1 : ¬ gx = gv := own_ne HK6.out hcv (by decide) gx rfl
        have ne2 : ¬ gv = gx := Ne.symm ne1
        have ne3 : ¬ gx = zc := own_ne HK6.out HC6.out (by decide) gx rfl
        have ne4 : ¬ zc = gx := Ne.symm ne3
        have ne5 : ¬ gv = zc := own_ne HV6.out HC6.out (by decide) gv rfl
        have ne6 : ¬ zc = gv := Ne.symm ne5
        have kpe : Kp (fun g => g = gx ∨ g = gv) w6 ((((w6.setCell ⟨gx, 0, none⟩ (.int .i64 (-1))).setCell ⟨gv, 0, none⟩ (.int .u8 0)).setCell ⟨gv, 1, none⟩ (.int .i64 0)).setCell ⟨gv, 2, none⟩ (.string ⟨#[]⟩)) := ((((Kp.refl (fun g => g = gx ∨ g = gv) w6).setCell (.inl (.inl rfl)) (.int .i64 (-1))).setCell (.inl (.inr rfl)) (.int .u8 0)).setCell (.inl (.inr rfl)) (.int .i64 0)).setCell (.inl (.inr rfl)) (.string ⟨#[]⟩)
        have HE1 := Lib.hid ((HT6.out.elsewhere kpe (fun g e => e.elim (fun e => by rw [e]; exact ⟨nzx.1, nzx.2.1, nzx.2.2.1⟩) (fun e => by rw [e]; exact ⟨nzv.1, nzv.2.1, nzv.2.2.1⟩)) (fun e => e.elim (fun e => nzx.2.2.2 e.symm) (fun e => nzv.2.2.2 e.symm))).below (wr' := ((((w6.setCell ⟨gx, 0, none⟩ (.int .i64 (-1))).setCell ⟨gv, 0, none⟩ (.int .u8 0)).setCell ⟨gv, 1, none⟩ (.int .i64 0)).setCell ⟨gv, 2, none⟩ (.string ⟨#[]⟩)).drew) (Below.refl _ _).drew)
        have c3 := HC6.out.c3
        have c4 := HC6.out.c4
        have vr : ∀ (q : Nat) (u : Value), ([.int .u8 2, .int .i64 (D j).word, .string ⟨#[]⟩] : List Value)[q]? = some u → w6.cell? ⟨gv, q, none⟩ = some u := fun q u hu => by
          have := HV6.out.cells (g := gv) rfl q u hu
          rwa [add_none, Nat.zero_add] at this
        have v0 := vr 0 _ rfl
        have v1 := vr 1 _ rfl
        have v2 := vr 2 _ rfl
        have fv0 : w6.frozen? ⟨gv, 0, none⟩ = false := HV6.out.frozenAt 0
        have fv1 : w6.frozen? ⟨gv, 1, none⟩ = false := HV6.out.frozenAt 1
        have fv2 : w6.frozen? ⟨gv, 2, none⟩ = false := HV6.out.frozenAt 2
        have k0 : w6.cell? ⟨gx, 0, none⟩ = some (.int .i64 (Nm (D j).x : Int)) := by
          have := HK6.out.cells (g := gx) rfl 0 _ rfl
          rwa [add_none, Nat.zero_add] at this
        have fk0 : w6.frozen? ⟨gx, 0, none⟩ = false := HK6.out.frozenAt 0
        clear vr kpe hcv HT6 HC6 HV6 HK6 nzc nzv nzx
        go_wp2_with fail
        clear hput
        go_region
        all_goals
          clear c3 c4 v0 v1 v2 fv0 fv1 fv2 k0 fk0
          go_wp2_with fail
          go_roundg (gk - 1)
          case measure => omega
          case rel => exact ⟨j + 1, by omega, by go_num, HE1.out⟩
      · have hr0 : (D j).refs = 0 := by omega
        rw [hr0] at ur
        obtain ⟨AK, nK, cK, hK⟩ := hM.law.mem.doc.form h1
        rw [hK] at uk
        have HN := Lib.hid (show Same w0 (wr.alloc (.cells #[.slice AK nK cK, .int .i64 ((0 : Nat) : Int), .int .u32 (D j).owner, .int .u32 (D j).word] 96)) wb b rb nd most mb (j + 1) vC vn vm D K Nm mine M F from ⟨(hM.alloc _).law, (hM.alloc _).map.mono (fun n ⟨k, a1, a2, a3⟩ => ⟨k, by omega, a2, a3⟩)⟩)
        have y3 : (0 : Int) ≤ (j : Int) := by omega
        have y4 : (j : Int) < (nd : Int) := by omega
        go_wp2_with fail
        go_roundg (gk - 1)
        case measure => omega
        case rel => exact ⟨j + 1, by omega, by go_num, HN.out⟩
    · obtain rfl : j = nd := by omega
      have HE := Lib.hid hM.law
      go_wp2_with fail
      go_ret
      exact ⟨rfl, HE.out⟩
end

end Go.Proofs.Ytndbhcdiinpkkaa
