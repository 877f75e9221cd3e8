/- Several texts in one. -/
import Derived.Test.YtdddhmipifkepaaGreatMq02
import Derived.Laws.BitsAllLaws
import Derived.Lib.BitFns
import Derived.Test.YtdddhmipifkepaaGreatProg
import Derived.Test.YtdddhmipifkepaaGreatMq01
import Derived.Laws.ShiftsVarLaws
import Derived.Lib.Hide
import Derived.LoopTactic
import Derived.BigQuiet
import Derived.Deep.LoopGhost
import Derived.Deep.Cut
namespace Go.Proofs.YtdddhmipifkepaaGreat

abbrev Ky := Int × Int × ByteArray
abbrev Pr := Ky × Ky
def dg (g i : Nat) : Nat := g / 32 ^ i % 32
theorem dg_lt (g i : Nat) : dg g i < 32 := Nat.mod_lt _ (by decide)
def vc (a b : Ky) : Int := vcmp a.1 a.2.1 a.2.2 b.1 b.2.1 b.2.2
theorem vc_eq {a b : Ky} : vc a b = 0 ↔ a = b := by
  obtain ⟨a1, a2, a3⟩ := a
  obtain ⟨b1, b2, b3⟩ := b
  unfold vc
  rw [vcmp_zero]
  constructor
  · rintro ⟨h1, h2, h3⟩
    simp only at h1 h2 h3
    rw [h1, h2, bytes_ext h3]
  · intro h
    simp only [Prod.mk.injEq] at h
    exact ⟨h.1, h.2.1, by rw [h.2.2]⟩
theorem vc_swap (a b : Ky) : vc b a = - vc a b := vcmp_swap _ _ _ _ _ _
theorem vc_range (a b : Ky) : -1 ≤ vc a b ∧ vc a b ≤ 1 := vcmp_range _ _ _ _ _ _
theorem vc_trans {a b c : Ky} (h1 : vc a b = -1) (h2 : vc b c = -1) : vc a c = -1 := by
  obtain ⟨h3, h4⟩ := vcmp_trans a.1 a.2.1 a.2.2 b.1 b.2.1 b.2.2 c.1 c.2.1 c.2.2 (by show vc a b ≤ 0; omega) (by show vc b c ≤ 0; omega)
  have h5 := vc_range a c
  have h6 : vc a c ≤ 0 := h3
  have h7 : vc a c = 0 → vc a b = 0 ∧ vc b c = 0 := h4
  by_cases e : vc a c = 0
  · have := h7 e; omega
  · omega

def ptF (g h : Nat) : Nat → Nat → Nat
  | 0, l => l
  | f + 1, l => if dg g l = dg h l then ptF g h f (l + 1) else l
theorem ptF_spec (g h : Nat) : ∀ f l, l ≤ ptF g h f l ∧ ptF g h f l ≤ l + f ∧ (∀ j, l ≤ j → j < ptF g h f l → dg g j = dg h j) ∧ (ptF g h f l < l + f → dg g (ptF g h f l) ≠ dg h (ptF g h f l))
  | 0, l => ⟨Nat.le_refl _, Nat.le_refl _, fun j h1 h2 => absurd h2 (Nat.not_lt.2 h1), fun h1 => absurd h1 (Nat.lt_irrefl _)⟩
  | f + 1, l => by
    unfold ptF
    by_cases e : dg g l = dg h l
    · rw [if_pos e]
      obtain ⟨h1, h2, h3, h4⟩ := ptF_spec g h f (l + 1)
      refine ⟨by omega, by omega, fun j j1 j2 => ?_, fun h5 => h4 (by omega)⟩
      by_cases ej : j = l
      · rw [ej]; exact e
      · exact h3 j (by omega) j2
    · rw [if_neg e]
      exact ⟨Nat.le_refl _, by omega, fun j j1 j2 => by omega, fun _ => e⟩
def pt (g h : Nat) : Nat := ptF g h 13 0
theorem pt_le (g h : Nat) : pt g h ≤ 13 := by have := (ptF_spec g h 13 0).2.1; unfold pt; omega
theorem pt_eq {g h j : Nat} (hj : j < pt g h) : dg g j = dg h j := (ptF_spec g h 13 0).2.2.1 j (Nat.zero_le _) hj
theorem pt_ne {g h : Nat} (hp : pt g h < 13) : dg g (pt g h) ≠ dg h (pt g h) := (ptF_spec g h 13 0).2.2.2 (by unfold pt at hp; omega)
theorem pt_uniq {g h p : Nat} (hp : p ≤ 13) (he : ∀ j, j < p → dg g j = dg h j) (hn : p < 13 → dg g p ≠ dg h p) : pt g h = p := by
  rcases Nat.lt_trichotomy (pt g h) p with e | e | e
  · exact absurd (he _ e) (pt_ne (by omega))
  · exact e
  · exact absurd (pt_eq e) (hn (by have := pt_le g h; omega))
theorem pt_swap (g h : Nat) : pt h g = pt g h := pt_uniq (pt_le g h) (fun _ hj => (pt_eq hj).symm) (fun hp => (pt_ne hp).symm)
theorem pt_self (g : Nat) : pt g g = 13 := pt_uniq (Nat.le_refl _) (fun _ _ => rfl) (fun h => absurd h (Nat.lt_irrefl _))
section
variable (hs : Ky → Nat)
def kltB (a b : Ky) : Bool := if pt (hs a) (hs b) < 13 then decide (dg (hs a) (pt (hs a) (hs b)) < dg (hs b) (pt (hs a) (hs b))) else decide (vc a b = -1)
abbrev klt (a b : Ky) : Prop := kltB hs a b = true
variable {hs}
theorem klt_dg {a b : Ky} (hp : pt (hs a) (hs b) < 13) : klt hs a b ↔ dg (hs a) (pt (hs a) (hs b)) < dg (hs b) (pt (hs a) (hs b)) := by
  unfold klt kltB
  rw [if_pos hp, decide_eq_true_eq]
theorem klt_vc {a b : Ky} (hp : pt (hs a) (hs b) = 13) : klt hs a b ↔ vc a b = -1 := by
  unfold klt kltB
  rw [if_neg (by omega), decide_eq_true_eq]
theorem klt_irrefl (a : Ky) : ¬ klt hs a a := by
  rw [klt_vc (pt_self _), vc_eq.2 rfl]
  decide
theorem klt_total {a b : Ky} (h : a ≠ b) : klt hs a b ∨ klt hs b a := by
  by_cases hp : pt (hs a) (hs b) < 13
  · rw [klt_dg hp, klt_dg (by rw [pt_swap]; exact hp), pt_swap (hs a) (hs b)]
    have := pt_ne hp
    omega
  · have hp' : pt (hs a) (hs b) = 13 := by have := pt_le (hs a) (hs b); omega
    rw [klt_vc hp', klt_vc (by rw [pt_swap]; exact hp'), vc_swap a b]
    have h1 := vc_range a b
    have h2 : vc a b ≠ 0 := fun e => h (vc_eq.1 e)
    omega
theorem klt_trans {a b c : Ky} (h1 : klt hs a b) (h2 : klt hs b c) : klt hs a c := by
  rcases Nat.lt_trichotomy (pt (hs a) (hs b)) (pt (hs b) (hs c)) with e | e | e
  · have hp : pt (hs a) (hs c) = pt (hs a) (hs b) := by
      have h13 : pt (hs a) (hs b) < 13 := by have := pt_le (hs b) (hs c); omega
      refine pt_uniq (by omega) (fun j hj => (pt_eq hj).trans (pt_eq (by omega))) (fun _ => ?_)
      rw [← pt_eq e]
      exact pt_ne h13
    have h13 : pt (hs a) (hs b) < 13 := by have := pt_le (hs b) (hs c); omega
    rw [klt_dg h13] at h1
    rw [klt_dg (by rw [hp]; exact h13), hp, ← pt_eq e]
    exact h1
  · by_cases h13 : pt (hs a) (hs b) < 13
    · have h13' : pt (hs b) (hs c) < 13 := by omega
      rw [klt_dg h13] at h1
      rw [klt_dg h13', ← e] at h2
      have hp : pt (hs a) (hs c) = pt (hs a) (hs b) := pt_uniq (by omega) (fun j hj => (pt_eq hj).trans (pt_eq (by omega))) (fun _ => by omega)
      rw [klt_dg (by rw [hp]; exact h13), hp]
      omega
    · have hp1 : pt (hs a) (hs b) = 13 := by have := pt_le (hs a) (hs b); omega
      have hp2 : pt (hs b) (hs c) = 13 := by omega
      have hp : pt (hs a) (hs c) = 13 := pt_uniq (Nat.le_refl _) (fun j hj => (pt_eq (show j < pt (hs a) (hs b) by omega)).trans (pt_eq (by omega))) (fun h => by omega)
      rw [klt_vc hp1] at h1
      rw [klt_vc hp2] at h2
      rw [klt_vc hp]
      exact vc_trans h1 h2
  · have h13 : pt (hs b) (hs c) < 13 := by have := pt_le (hs a) (hs b); omega
    have hp : pt (hs a) (hs c) = pt (hs b) (hs c) := by
      refine pt_uniq (by omega) (fun j hj => (pt_eq (show j < pt (hs a) (hs b) by omega)).trans (pt_eq hj)) (fun _ => ?_)
      rw [pt_eq e]
      exact pt_ne h13
    rw [klt_dg h13] at h2
    rw [klt_dg (by rw [hp]; exact h13), hp, pt_eq e]
    exact h2
theorem klt_asymm {a b : Ky} (h1 : klt hs a b) : ¬ klt hs b a := fun h2 => klt_irrefl a (klt_trans h1 h2)

abbrev Srt (hs : Ky → Nat) (l : List Pr) : Prop := l.Pairwise (fun p q => klt hs p.1 q.1)
theorem Srt.key_inj {l : List Pr} (h : Srt hs l) {p q : Pr} (hp : p ∈ l) (hq : q ∈ l) (e : p.1 = q.1) : p = q := by
  induction l with
  | nil => cases hp
  | cons x l ih =>
    obtain ⟨h1, h2⟩ := List.pairwise_cons.1 h
    rcases List.mem_cons.1 hp with rfl | hp'
    · rcases List.mem_cons.1 hq with rfl | hq'
      · rfl
      · exact absurd (e ▸ h1 q hq') (klt_irrefl _)
    · rcases List.mem_cons.1 hq with rfl | hq'
      · exact absurd (e ▸ h1 p hp') (klt_irrefl _)
      · exact ih h2 hp' hq'
theorem Srt.ext : ∀ {l m : List Pr}, Srt hs l → Srt hs m → (∀ q, q ∈ l ↔ q ∈ m) → l = m
  | [], [], _, _, _ => rfl
  | [], y :: m, _, _, h => absurd ((h y).2 (by simp)) (by simp)
  | x :: l, [], _, _, h => absurd ((h x).1 (by simp)) (by simp)
  | x :: l, y :: m, hl, hm, h => by
    obtain ⟨l1, l2⟩ := List.pairwise_cons.1 hl
    obtain ⟨m1, m2⟩ := List.pairwise_cons.1 hm
    have exy : x = y := by
      rcases List.mem_cons.1 ((h x).1 (by simp)) with e | e
      · exact e
      · rcases List.mem_cons.1 ((h y).2 (by simp)) with e' | e'
        · exact e'.symm
        · exact absurd (m1 x e) (klt_asymm (l1 y e'))
    subst exy
    have hx : ∀ q, q ∈ l → q ≠ x := fun q hq e => klt_irrefl x.1 (by have := l1 q hq; rwa [e] at this)
    have hx' : ∀ q, q ∈ m → q ≠ x := fun q hq e => klt_irrefl x.1 (by have := m1 q hq; rwa [e] at this)
    rw [Srt.ext l2 m2 fun q => ⟨fun hq => (List.mem_cons.1 ((h q).1 (by simp [hq]))).resolve_left (hx q hq), fun hq => (List.mem_cons.1 ((h q).2 (by simp [hq]))).resolve_left (hx' q hq)⟩]

def putD (hs : Ky → Nat) (p : Pr) : Bool → List Pr → List Pr
  | done, [] => if done then [] else [p]
  | done, q :: l => if q.1 = p.1 then p :: putD hs p true l else if done = false ∧ klt hs p.1 q.1 then p :: q :: putD hs p true l else q :: putD hs p done l
def putL (hs : Ky → Nat) (p : Pr) (l : List Pr) : List Pr := putD hs p false l
def takeL (k : Ky) (l : List Pr) : List Pr := l.filter (fun q => decide (q.1 ≠ k))
def lookL (k : Ky) (l : List Pr) : Option Ky := (l.find? (fun q => decide (q.1 = k))).map Prod.snd
theorem putD_true {p : Pr} : ∀ {l : List Pr}, (∀ q ∈ l, klt hs p.1 q.1) → putD hs p true l = l
  | [], _ => rfl
  | q :: l, h => by
    have h1 : q.1 ≠ p.1 := fun e => klt_irrefl p.1 (by have := h q (by simp); rwa [e] at this)
    unfold putD
    rw [if_neg h1, if_neg (by simp), putD_true fun x hx => h x (by simp [hx])]
theorem putL_spec {p : Pr} : ∀ {l : List Pr}, Srt hs l → Srt hs (putL hs p l) ∧ ∀ q, q ∈ putL hs p l ↔ q = p ∨ (q ∈ l ∧ q.1 ≠ p.1)
  | [], _ => ⟨by unfold putL putD; simp, fun q => by unfold putL putD; simp⟩
  | x :: l, h => by
    obtain ⟨h1, h2⟩ := List.pairwise_cons.1 h
    obtain ⟨i1, i2⟩ := putL_spec (p := p) h2
    unfold putL putD
    by_cases e : x.1 = p.1
    · rw [if_pos e, putD_true fun q hq => by rw [← e]; exact h1 q hq]
      refine ⟨List.pairwise_cons.2 ⟨fun q hq => by rw [← e]; exact h1 q hq, h2⟩, fun q => ?_⟩
      constructor
      · intro hq
        rcases List.mem_cons.1 hq with rfl | hq
        · exact .inl rfl
        · exact .inr ⟨by simp [hq], fun e' => klt_irrefl p.1 (by have := h1 q hq; rw [e, e'] at this; exact this)⟩
      · rintro (rfl | ⟨hq, hne⟩)
        · simp
        · rcases List.mem_cons.1 hq with rfl | hq
          · exact absurd e hne
          · simp [hq]
    · rw [if_neg e]
      by_cases hk : klt hs p.1 x.1
      · rw [if_pos ⟨rfl, hk⟩, putD_true fun q hq => klt_trans hk (h1 q hq)]
        refine ⟨List.pairwise_cons.2 ⟨fun q hq => ?_, h⟩, fun q => ?_⟩
        · rcases List.mem_cons.1 hq with rfl | hq
          · exact hk
          · exact klt_trans hk (h1 q hq)
        · constructor
          · intro hq
            rcases List.mem_cons.1 hq with rfl | hq
            · exact .inl rfl
            · refine .inr ⟨hq, fun e' => ?_⟩
              rcases List.mem_cons.1 hq with rfl | hq
              · exact e e'
              · exact klt_irrefl p.1 (by have := klt_trans hk (h1 q hq); rwa [e'] at this)
          · rintro (rfl | ⟨hq, _⟩)
            · simp
            · simp [List.mem_cons.1 hq]
      · rw [if_neg (fun h => hk h.2)]
        have hxp : klt hs x.1 p.1 := (klt_total e).resolve_right hk
        refine ⟨List.pairwise_cons.2 ⟨fun q hq => ?_, i1⟩, fun q => ?_⟩
        · rcases (i2 q).1 hq with rfl | ⟨hq, _⟩
          · exact hxp
          · exact h1 q hq
        · constructor
          · intro hq
            rcases List.mem_cons.1 hq with rfl | hq
            · exact .inr ⟨by simp, e⟩
            · rcases (i2 q).1 hq with rfl | ⟨hq, hne⟩
              · exact .inl rfl
              · exact .inr ⟨by simp [hq], hne⟩
          · rintro (rfl | ⟨hq, hne⟩)
            · exact List.mem_cons_of_mem _ ((i2 q).2 (.inl rfl))
            · rcases List.mem_cons.1 hq with rfl | hq
              · simp
              · exact List.mem_cons_of_mem _ ((i2 q).2 (.inr ⟨hq, hne⟩))
theorem takeL_spec {k : Ky} {l : List Pr} (h : Srt hs l) : Srt hs (takeL k l) ∧ ∀ q, q ∈ takeL k l ↔ q ∈ l ∧ q.1 ≠ k :=
  ⟨h.filter _, fun q => by unfold takeL; rw [List.mem_filter]; simp⟩
theorem putL_uniq {p : Pr} {l m : List Pr} (hl : Srt hs l) (hm : Srt hs m) (h : ∀ q, q ∈ m ↔ q = p ∨ (q ∈ l ∧ q.1 ≠ p.1)) : m = putL hs p l :=
  hm.ext (putL_spec hl).1 fun q => (h q).trans ((putL_spec hl).2 q).symm
theorem takeL_uniq {k : Ky} {l m : List Pr} (hl : Srt hs l) (hm : Srt hs m) (h : ∀ q, q ∈ m ↔ q ∈ l ∧ q.1 ≠ k) : m = takeL k l :=
  hm.ext (takeL_spec hl).1 fun q => (h q).trans ((takeL_spec hl).2 q).symm
def hasB (k : Ky) (l : List Pr) : Bool := l.any (fun q => decide (q.1 = k))
theorem hasB_iff {k : Ky} {l : List Pr} : hasB k l = true ↔ ∃ q ∈ l, q.1 = k := by
  unfold hasB
  rw [List.any_eq_true]
  simp
theorem putL_length {p : Pr} : ∀ {l : List Pr}, Srt hs l → (putL hs p l).length = if hasB p.1 l = true then l.length else l.length + 1
  | [], _ => rfl
  | x :: l, h => by
    obtain ⟨h1, h2⟩ := List.pairwise_cons.1 h
    have ih := putL_length (p := p) h2
    unfold putL at ih ⊢
    unfold putD
    by_cases e : x.1 = p.1
    · rw [if_pos e, putD_true fun q hq => by rw [← e]; exact h1 q hq, if_pos (hasB_iff.2 ⟨x, by simp, e⟩)]
      rfl
    · rw [if_neg e]
      by_cases hk : klt hs p.1 x.1
      · rw [if_pos ⟨rfl, hk⟩, putD_true fun q hq => klt_trans hk (h1 q hq)]
        have hno : ¬ hasB p.1 (x :: l) = true := fun hm => by
          obtain ⟨q, hq, eq⟩ := hasB_iff.1 hm
          rcases List.mem_cons.1 hq with rfl | hq
          · exact e eq
          · exact klt_irrefl p.1 (by have := klt_trans hk (h1 q hq); rwa [eq] at this)
        rw [if_neg hno]
        rfl
      · rw [if_neg (fun h => hk h.2)]
        have hb : hasB p.1 (x :: l) = hasB p.1 l := by
          unfold hasB
          rw [List.any_cons, decide_eq_false e, Bool.false_or]
        rw [hb, List.length_cons, ih, List.length_cons]
        split <;> rfl
theorem lookL_some {k v : Ky} {l : List Pr} (h : Srt hs l) : lookL k l = some v ↔ (k, v) ∈ l := by
  unfold lookL
  constructor
  · intro e
    obtain ⟨q, hq, rfl⟩ := Option.map_eq_some_iff.1 e
    have h1 := List.find?_some hq
    have h2 := List.mem_of_find?_eq_some hq
    rw [decide_eq_true_eq] at h1
    rw [← h1]
    exact h2
  · intro hm
    cases e : l.find? (fun q => decide (q.1 = k)) with
    | none =>
      have := List.find?_eq_none.1 e (k, v) hm
      simp at this
    | some q =>
      have h1 := List.find?_some e
      have h2 := List.mem_of_find?_eq_some e
      rw [decide_eq_true_eq] at h1
      rw [h.key_inj h2 hm h1]
      rfl
theorem lookL_none {k : Ky} {l : List Pr} : lookL k l = none ↔ ∀ q ∈ l, q.1 ≠ k := by
  unfold lookL
  rw [Option.map_eq_none_iff, List.find?_eq_none]
  simp
end

end Go.Proofs.YtdddhmipifkepaaGreat

namespace Go.Proofs.YtdddhmipifkepaaGreat

def cnt (n : Nat) : Nat → Nat
  | 0 => 0
  | i + 1 => cnt n i + (n.testBit i).toNat

theorem cnt_le (n : Nat) : ∀ i, cnt n i ≤ i
  | 0 => Nat.le_refl _
  | i + 1 => by have := cnt_le n i; have := Bool.toNat_le (n.testBit i); unfold cnt; omega
theorem cnt_congr {m n : Nat} : ∀ i, (∀ k, k < i → m.testBit k = n.testBit k) → cnt m i = cnt n i
  | 0, _ => rfl
  | i + 1, h => by unfold cnt; rw [cnt_congr i fun k hk => h k (by omega), h i (by omega)]
theorem cnt_add (n a : Nat) : ∀ b, cnt n (a + b) = cnt n a + cnt (n / 2 ^ a) b
  | 0 => by simp [cnt]
  | b + 1 => by
    have : (n / 2 ^ a).testBit b = n.testBit (a + b) := by rw [Nat.testBit_div_two_pow, Nat.add_comm]
    rw [← Nat.add_assoc, show cnt n (a + b + 1) = cnt n (a + b) + (n.testBit (a + b)).toNat from rfl, show cnt (n / 2 ^ a) (b + 1) = cnt (n / 2 ^ a) b + ((n / 2 ^ a).testBit b).toNat from rfl, cnt_add n a b, this]
    omega
theorem cnt_zero : ∀ i, cnt 0 i = 0
  | 0 => rfl
  | i + 1 => by unfold cnt; rw [cnt_zero i]; simp
theorem cnt_small {n a : Nat} (h : n < 2 ^ a) (b : Nat) : cnt n (a + b) = cnt n a := by
  rw [cnt_add, Nat.div_eq_of_lt h, cnt_zero]; rfl
theorem cnt_mod (n a : Nat) : cnt (n % 2 ^ a) a = cnt n a :=
  cnt_congr a fun k hk => by rw [Nat.testBit_mod_two_pow]; simp [hk]
theorem pop_cnt : ∀ f n, Lib.popAux f n = cnt n f
  | 0, _ => rfl
  | f + 1, n => by
    rw [Lib.popAux, pop_cnt f, Nat.add_comm f 1, cnt_add n 1 f]
    have : cnt n 1 = n % 2 := by
      unfold cnt cnt
      rw [Nat.testBit_zero]
      have : n % 2 = 0 ∨ n % 2 = 1 := by omega
      rcases this with h | h <;> simp [h]
    rw [this]
theorem pop8_cnt (x : Nat) (h : x < 256) : Lib.pop8 (x : Int) = (cnt x 8 : Nat) := by
  have e := Lib.pop8_eq ⟨x, h⟩
  simp only at e
  rw [e, Lib.onesCount, pop_cnt, show (64 : Nat) = 8 + 56 from rfl, cnt_small (a := 8) (by omega)]
theorem cnt_32 (n : Nat) : cnt n 32 = cnt (n / 16777216) 8 + cnt (n / 65536 % 256) 8 + cnt (n / 256 % 256) 8 + cnt (n % 256) 8 := by
  have h1 : cnt (n % 256) 8 = cnt n 8 := cnt_mod n 8
  have h2 : cnt (n / 256 % 256) 8 = cnt (n / 256) 8 := cnt_mod _ 8
  have h3 : cnt (n / 65536 % 256) 8 = cnt (n / 65536) 8 := cnt_mod _ 8
  rw [h1, h2, h3, show (32 : Nat) = 8 + (8 + (8 + 8)) from rfl, cnt_add n 8, cnt_add _ 8, cnt_add _ 8, Nat.div_div_eq_div_mul, Nat.div_div_eq_div_mul]
  show cnt n 8 + (cnt (n / 256) 8 + (cnt (n / 65536) 8 + cnt (n / 16777216) 8)) = _
  omega

theorem and_255 (x : Nat) (h : x < 4294967296) : bits .and .u32 (x : Int) 255 = ((x % 256 : Nat) : Int) := by
  have := u32_and_nat x 255 h (by decide)
  rw [nat_mask8] at this
  exact this
theorem and_1 (x : Nat) (h : x < 4294967296) : bits .and .u32 (x : Int) 1 = ((x % 2 : Nat) : Int) := by
  have := u32_and_nat x 1 h (by decide)
  rw [nat_mask1] at this
  exact this
theorem and_low (n i : Nat) (h : n < 4294967296) (hi : i < 32) : bits .and .u32 (n : Int) ((2 ^ i - 1 : Nat) : Int) = ((n % 2 ^ i : Nat) : Int) := by
  have hp : 2 ^ i ≤ 2 ^ 31 := Nat.pow_le_pow_right (by decide) (by omega)
  rw [u32_and_nat n _ h (by omega), Nat.and_two_pow_sub_one_eq_mod]
theorem cnt_low (n i : Nat) (hi : i ≤ 32) : cnt (n % 2 ^ i) 32 = cnt n i := by
  obtain ⟨j, hj⟩ : ∃ j, 32 = i + j := ⟨32 - i, by omega⟩
  rw [hj, cnt_small (Nat.mod_lt _ (Nat.two_pow_pos i)), cnt_mod]

def ofN : List Int → Nat
  | [] => 0
  | x :: l => (if 0 ≤ x ∧ x < 32 then 2 ^ x.toNat else 0) ||| ofN l
theorem pow_32 {k : Nat} (h : k < 32) : 2 ^ k < 4294967296 := Nat.pow_lt_pow_right (m := k) (n := 32) (by decide) h
theorem ofN_lt : ∀ l, ofN l < 4294967296
  | [] => by decide
  | x :: l => by
    unfold ofN
    refine Nat.or_lt_two_pow (n := 32) ?_ (ofN_lt l)
    split
    · exact pow_32 (by omega)
    · decide
theorem ofN_snoc : ∀ l x, ofN (l ++ [x]) = ofN l ||| (if 0 ≤ x ∧ x < 32 then 2 ^ x.toNat else 0)
  | [], x => by simp [ofN]
  | y :: l, x => by rw [List.cons_append]; unfold ofN; rw [ofN_snoc l x, Nat.or_assoc]
end Go.Proofs.YtdddhmipifkepaaGreat

namespace Go.Proofs.YtdddhmipifkepaaGreat
set_option maxRecDepth 100000
open Go.RowKit

def digB (i : Int) : Bool := decide (0 ≤ i) && decide (i < 32)

theorem is_digit (i : Int) (w : World) : Calls Tryz.prog 256 #[.int .i64 i] w fun e w' => e = .returned (.bool (digB i)) ∧ w = w' := by
  go_enter Tryz.func256, Tryz.ntmps256
  by_cases h : 0 ≤ i
  · go_wp2_with fail
    go_ret
    exact ⟨ret_bool (by simp [digB, h]), rfl⟩
  · go_wp2_with fail
    go_ret
    exact ⟨ret_bool (by simp [digB]; omega), rfl⟩

theorem has_bit (n k : Nat) (hn : n < 4294967296) : (bits .and .u32 ((n : Int) / 2 ^ k) 1 == 1) = n.testBit k := by
  have e : (n : Int) / 2 ^ k = ((n / 2 ^ k : Nat) : Int) := by simp
  rw [e, and_1 _ (Nat.lt_of_le_of_lt (Nat.div_le_self _ _) hn), Nat.testBit_eq_decide_div_mod_eq, Bool.eq_iff_iff]
  simp only [beq_iff_eq, decide_eq_true_eq]
  omega

theorem has (n : Nat) (hn : n < 4294967296) (k : Nat) (hk : k < 32) (w : World) : Calls Tryz.prog 219 #[.int .u32 n, .int .i64 k] w fun e w' => e = .returned (.bool (n.testBit k)) ∧ w = w' := by
  go_enter Tryz.func219, Tryz.ntmps219
  go_wp2_with fail
  refine (is_digit k _).mono ?_
  rintro e w' ⟨rfl, rfl⟩
  rw [show digB k = true by simp [digB]; omega]
  go_wp2_with fail
  go_ret
  exact ⟨ret_bool (has_bit n k hn), rfl⟩

theorem pop_fold : (⟨(([0, 1, 1, 2, 1, 2, 2, 3, 1, 2, 2, 3, 2, 3, 3, 4, 1, 2, 2, 3, 2, 3, 3, 4, 2, 3, 3, 4, 3, 4, 4, 5, 1, 2, 2, 3, 2, 3, 3, 4, 2, 3, 3, 4, 3, 4, 4, 5, 2, 3, 3, 4, 3, 4, 4, 5, 3, 4, 4, 5, 4, 5, 5, 6].append [1, 2, 2, 3, 2, 3, 3, 4, 2, 3, 3, 4, 3, 4, 4, 5, 2, 3, 3, 4, 3, 4, 4, 5, 3, 4, 4, 5, 4, 5, 5, 6, 2, 3, 3, 4, 3, 4, 4, 5, 3, 4, 4, 5, 4, 5, 5, 6, 3, 4, 4, 5, 4, 5, 5, 6, 4, 5, 5, 6, 5, 6, 6, 7]).append ([1, 2, 2, 3, 2, 3, 3, 4, 2, 3, 3, 4, 3, 4, 4, 5, 2, 3, 3, 4, 3, 4, 4, 5, 3, 4, 4, 5, 4, 5, 5, 6, 2, 3, 3, 4, 3, 4, 4, 5, 3, 4, 4, 5, 4, 5, 5, 6, 3, 4, 4, 5, 4, 5, 5, 6, 4, 5, 5, 6, 5, 6, 6, 7].append [2, 3, 3, 4, 3, 4, 4, 5, 3, 4, 4, 5, 4, 5, 5, 6, 3, 4, 4, 5, 4, 5, 5, 6, 4, 5, 5, 6, 5, 6, 6, 7, 3, 4, 4, 5, 4, 5, 5, 6, 4, 5, 5, 6, 5, 6, 6, 7, 4, 5, 5, 6, 5, 6, 6, 7, 5, 6, 6, 7, 6, 7, 7, 8])).toArray⟩ : ByteArray) = Lib.pop8tab := by kernel_rfl

theorem ones (n : Nat) (hn : n < 4294967296) (w : World) : Calls Tryz.prog 279 #[.int .u32 n] w fun e w' => e = .returned (.int .i64 (cnt n 32)) ∧ Gw w w' := by
  go_enter Tryz.func279, Tryz.ntmps279
  simp only [pop_fold]
  obtain ⟨a, ha⟩ : ∃ a, a = n / 16777216 := ⟨_, rfl⟩
  obtain ⟨b, hb⟩ : ∃ b, b = n / 65536 % 256 := ⟨_, rfl⟩
  obtain ⟨c, hc⟩ : ∃ c, c = n / 256 % 256 := ⟨_, rfl⟩
  obtain ⟨d, hd⟩ : ∃ d, d = n % 256 := ⟨_, rfl⟩
  have h0 : (n : Int) / 16777216 = (a : Int) := by omega
  have h1 : bits .and .u32 ((n : Int) / 65536) 255 = (b : Int) := by rw [hb]; exact and_255 (n / 65536) (by omega)
  have h2 : bits .and .u32 ((n : Int) / 256) 255 = (c : Int) := by rw [hc]; exact and_255 (n / 256) (by omega)
  have h3 : bits .and .u32 (n : Int) 255 = (d : Int) := by rw [hd]; exact and_255 n hn
  have e0 : (0 : Int) ≤ (a : Int) ∧ (a : Int) ≤ 255 := by omega
  have e1 : (0 : Int) ≤ (b : Int) ∧ (b : Int) ≤ 255 := by omega
  have e2 : (0 : Int) ≤ (c : Int) ∧ (c : Int) ≤ 255 := by omega
  have e3 : (0 : Int) ≤ (d : Int) ∧ (d : Int) ≤ 255 := by omega
  have p0 := pop8_cnt a (by omega)
  have p1 := pop8_cnt b (by omega)
  have p2 := pop8_cnt c (by omega)
  have p3 := pop8_cnt d (by omega)
  have HS := Lib.hid (show cnt n 32 = cnt a 8 + cnt b 8 + cnt c 8 + cnt d 8 by rw [ha, hb, hc, hd]; exact cnt_32 n)
  clear ha hb hc hd
  go_wp2_with fail
  go_quiet (fail)
  go_wp2_with fail
  go_ret
  have := HS.out
  have := cnt_le n 32
  exact ⟨ret_int (by omega), (Gw.refl w).drewN _⟩

theorem len (n : Nat) (hn : n < 4294967296) (w : World) : Calls Tryz.prog 255 #[.int .u32 n] w fun e w' => e = .returned (.int .i64 (cnt n 32)) ∧ Gw w w' := by
  go_enter Tryz.func255, Tryz.ntmps255
  go_wp2_with fail
  refine (ones n hn _).mono ?_
  rintro e w' ⟨rfl, g⟩
  go_wp2_with fail
  go_ret
  exact ⟨rfl, g⟩

theorem low_run (n k : Nat) (hn : n < 4294967296) (hk : k < 32) : bits .and .u32 (n : Int) ((2 ^ k - 1) % 4294967296) = ((n % 2 ^ k : Nat) : Int) := by
  rw [← and_low n k hn hk]
  have hp := pow_32 hk
  have h0 := Nat.two_pow_pos k
  have e : (2 : Int) ^ k = ((2 ^ k : Nat) : Int) := by simp
  congr 1
  rw [e]
  omega

def placeN (n : Nat) (i : Int) : Nat := cnt n (min i.toNat 32)

theorem place (n : Nat) (hn : n < 4294967296) (i : Int) (w : World) : Calls Tryz.prog 220 #[.int .u32 n, .int .i64 i] w fun e w' => e = .returned (.int .i64 (placeN n i)) ∧ Gw w w' := by
  go_enter Tryz.func220, Tryz.ntmps220
  by_cases h0 : i < 0
  · go_wp2_with fail
    go_ret
    exact ⟨ret_int (by unfold placeN; rw [show i.toNat = 0 by omega]; rfl), Gw.refl _⟩
  by_cases h1 : 32 ≤ i
  · go_wp2_with fail
    refine (len n hn _).mono ?_
    rintro e w' ⟨rfl, g⟩
    go_wp2_with fail
    go_ret
    exact ⟨ret_int (by unfold placeN; rw [show min i.toNat 32 = 32 by omega]), g⟩
  · obtain ⟨k, rfl⟩ := Int.eq_ofNat_of_zero_le (show 0 ≤ i by omega)
    go_wp2_with fail
    rw [low_run n k hn (by omega)]
    refine (len (n % 2 ^ k) (Nat.lt_of_le_of_lt (Nat.mod_le _ _) hn) _).mono ?_
    rintro e w' ⟨rfl, g⟩
    rw [cnt_low n k (by omega)]
    go_wp2_with fail
    go_ret
    exact ⟨ret_int (by unfold placeN; rw [show min (k : Int).toNat 32 = k by omega]), g⟩

def Ints (w : World) (A : Option Addr) (l : List Int) : Prop :=
  l = [] ∨ ∃ b o, A = some ⟨b, o, none⟩ ∧ b < w.heap.size ∧ ∀ (i : Nat) (x : Int), l[i]? = some x → w.cell? ⟨b, o + i, none⟩ = some (.int .i64 x)
theorem Ints.at {w : World} {A : Option Addr} {l : List Int} (h : Ints w A l) {i : Nat} {x : Int} (hi : l[i]? = some x) : ∃ b o, A = some ⟨b, o, none⟩ ∧ w.cell? ⟨b, o + i, none⟩ = some (.int .i64 x) := by
  rcases h with h | ⟨b, o, hA, _, hc⟩
  · subst h; simp at hi
  · exact ⟨b, o, hA, hc i x hi⟩
theorem Ints.below {w w' : World} {A : Option Addr} {l : List Int} (h : Ints w A l) (g : Below w.heap.size w w') : Ints w' A l := by
  rcases h with h | ⟨b, o, hA, hb, hc⟩
  · exact .inl h
  · exact .inr ⟨b, o, hA, Nat.lt_of_lt_of_le hb g.size, fun i x hx => (g.cell (p := ⟨b, _, none⟩) hb).trans (hc i x hx)⟩

theorem or_run (l : List Int) (x : Int) (h0 : 0 ≤ x) (h1 : x < 32) : bits .or .u32 (ofN l : Int) (2 ^ x.toNat % 4294967296) = (ofN (l ++ [x]) : Int) := by
  have hp := pow_32 (k := x.toNat) (by omega)
  have e : (2 : Int) ^ x.toNat = ((2 ^ x.toNat : Nat) : Int) := by simp
  have e2 : (2 : Int) ^ x.toNat % 4294967296 = ((2 ^ x.toNat : Nat) : Int) := by rw [e]; exact Int.emod_eq_of_lt (Int.natCast_nonneg _) (Int.ofNat_lt.2 hp)
  rw [e2, u32_or_nat _ _ (ofN_lt l) hp, ofN_snoc, if_pos ⟨h0, h1⟩]
theorem take_snoc {l : List Int} {j : Nat} {x : Int} (h : l[j]? = some x) : l.take (j + 1) = l.take j ++ [x] := by rw [List.take_add_one, h]; rfl

theorem of_run (A : Option Addr) (l : List Int) (c : Nat) (w : World) (hl : Ints w A l) (hn : l.length ≤ 4611686018427387904) :
    Calls Tryz.prog 264 #[.slice A l.length c] w fun e w' => e = .returned (.int .u32 (ofN l)) ∧ w = w' := by
  go_enter Tryz.func264, Tryz.ntmps264
  go_wp2_with fail
  go_loopw [3, 8] (fun s i wr => ∃ j : Nat, j ≤ l.length ∧ i = .int .i64 j ∧ s = .int .u32 (ofN (l.take j)) ∧ w = wr) (fun _ i _ => l.length - (intOf i).toNat)
  case atStart => exact ⟨0, Nat.zero_le _, rfl, rfl, rfl⟩
  case round =>
    obtain ⟨j, hj, rfl, rfl, rfl⟩ := hrel
    by_cases h1 : j < l.length
    · obtain ⟨x, hx⟩ : ∃ x, l[j]? = some x := ⟨_, List.getElem?_eq_getElem h1⟩
      obtain ⟨b, o, rfl, hc⟩ := hl.at hx
      have HX := Lib.hid hx
      clear hx
      obtain ⟨s, hs⟩ : ∃ s, s = ofN (l.take j) := ⟨_, rfl⟩
      rw [← hs]
      have HS := Lib.hid hs
      clear hs
      go_wp2_with fail
      refine (is_digit x _).mono ?_
      rintro e w' ⟨rfl, rfl⟩
      cases hd : digB x
      · go_wp2_with fail
        go_roundw
        case rel => exact ⟨j + 1, by omega, by go_num, by rw [take_snoc HX.out, ofN_snoc, HS.out, if_neg (by simp [digB] at hd; omega), Nat.or_zero], trivial⟩
        case measure => simp [intOf]; omega
      · have hd0 : 0 ≤ x ∧ x < 32 := by simpa [digB] using hd
        obtain ⟨k, rfl⟩ := Int.eq_ofNat_of_zero_le hd0.1
        go_wp2_with fail
        go_roundw
        case rel => exact ⟨j + 1, by omega, by go_num, by rw [take_snoc HX.out, HS.out, ← or_run _ _ hd0.1 hd0.2]; simp, trivial⟩
        case measure => simp [intOf]; omega
    · obtain rfl : j = l.length := by omega
      rw [List.take_length]
      go_wp2_with fail
      go_ret
      exact ⟨rfl, rfl⟩

theorem with_run (n : Nat) (hn : n < 4294967296) (A : Option Addr) (l : List Int) (c : Nat) (w : World) (hl : Ints w A l) (hlen : l.length ≤ 4611686018427387904) :
    Calls Tryz.prog 230 #[.int .u32 n, .slice A l.length c] w fun e w' => e = .returned (.int .u32 (n ||| ofN l : Nat)) ∧ w = w' := by
  go_enter Tryz.func230, Tryz.ntmps230
  go_wp2_with fail
  refine (of_run A l c _ hl hlen).mono ?_
  rintro e w' ⟨rfl, rfl⟩
  go_wp2_with fail
  go_ret
  exact ⟨ret_int (u32_or_nat n _ hn (ofN_lt l)), rfl⟩

theorem at_run (n : Nat) (k : Nat) (hk : k < 13) (w : World) : Calls Tryz.prog 218 #[.int .u64 n, .int .i64 k] w fun e w' => e = .returned (.int .i64 (n / 32 ^ k % 32 : Nat)) ∧ w = w' := by
  go_enter Tryz.func218, Tryz.ntmps218
  go_wp2_with fail
  go_ret
  have e1 : (n : Int) / 2 ^ (5 * k) = ((n / 32 ^ k : Nat) : Int) := by rw [show (32 : Nat) ^ k = 2 ^ (5 * k) by rw [Nat.pow_mul]]; simp
  obtain ⟨q, hq⟩ : ∃ q, q = n / 32 ^ k := ⟨_, rfl⟩
  exact ⟨ret_int (by rw [e1, ← hq, Int.tmod_eq_emod_of_nonneg (by omega)]; unfold wrap64; omega), rfl⟩


end Go.Proofs.YtdddhmipifkepaaGreat

namespace Go.Proofs.YtdddhmipifkepaaGreat
set_option maxRecDepth 100000
open Go.RowKit

theorem dg_run (g j : Nat) (hj : j < 13) (w : World) : Calls Tryz.prog 218 #[.int .u64 g, .int .i64 j] w fun e w' => e = .returned (.int .i64 (dg g j : Nat)) ∧ w = w' := at_run g j hj w

set_option maxHeartbeats 800000 in
theorem vparting (g h : Nat) (w : World) : Calls Tryz.prog 160 #[.int .u64 g, .int .u64 h] w fun e w' => e = .returned (.int .i64 (pt g h : Nat)) ∧ w = w' := by
  go_enter Tryz.func160, Tryz.ntmps160
  go_wp2_with fail
  go_loopw [5] (fun lev wr => ∃ j : Nat, lev = .int .i64 j ∧ j ≤ 13 ∧ (∀ i, i < j → dg g i = dg h i) ∧ w = wr) (fun lev _ => 13 - (intOf lev).toNat)
  case atStart => exact ⟨0, rfl, by omega, fun i hi => by omega, rfl⟩
  case round =>
    obtain ⟨j, rfl, hj, hall, rfl⟩ := hrel
    have HA := Lib.hid hall
    clear hall
    by_cases h13 : j < 13
    · have h13' : (j : Int) < 13 := by omega
      have HG := Lib.hid (dg_run g j h13)
      have HH := Lib.hid (dg_run h j h13)
      by_cases e : dg g j = dg h j
      · go_wp2_with (go_at_call 218; (first | (with_reducible_and_instances refine (HG.out _).mono ?_) | (with_reducible_and_instances refine (HH.out _).mono ?_)); rintro x w' ⟨rfl, rfl⟩)
        go_roundw
        case rel => exact ⟨j + 1, by go_num, by omega, fun i hi => by
          by_cases ei : i = j
          · rw [ei]; exact e
          · exact HA.out i (by omega), trivial⟩
        case measure => simp [intOf]; omega
      · have e' : ((dg g j : Int) == (dg h j : Int)) = false := by
          rw [beq_eq_false_iff_ne]; omega
        have hp : pt g h = j := pt_uniq hj HA.out (fun _ => e)
        have HP := Lib.hid hp
        clear hp
        go_wp2_with (go_at_call 218; (first | (with_reducible_and_instances refine (HG.out _).mono ?_) | (with_reducible_and_instances refine (HH.out _).mono ?_)); rintro x w' ⟨rfl, rfl⟩)
        go_ret
        exact ⟨by rw [HP.out]; rfl, rfl⟩
    · obtain rfl : j = 13 := by omega
      have HP := Lib.hid (show pt g h = 13 from pt_uniq (Nat.le_refl _) HA.out (fun h => absurd h (Nat.lt_irrefl _)))
      go_wp2_with fail
      go_ret
      exact ⟨by rw [HP.out]; rfl, rfl⟩

def Asks (w : World) (f : FuncId) (caps : Array Value) (n : Nat) (R : Nat → Value) : Prop :=
  (∀ (args : Array Value) (W : World), (callFunc f args).run Tryz.prog W = .ok (.enter f args) W) ∧ ∀ j, j < n → ∀ W, Below w.heap.size w W → Calls Tryz.prog f (#[.int .i64 (j : Nat)] ++ caps) W fun e W' => e = .returned (R j) ∧ Below W.heap.size W W'

theorem half (i j : Nat) : ((i : Int) + j) / 2 = (((i + j) / 2 : Nat) : Int) := by omega

theorem vSearch (f : FuncId) (caps : Array Value) (n t : Nat) (R : Nat → Bool) (w : World) (ha : Asks w f caps n (fun j => .bool (R j))) (hn : n ≤ 4611686018427387904) (ht : t ≤ n) (h0 : ∀ j, j < t → R j = false) (h1 : ∀ j, t ≤ j → j < n → R j = true) :
    Calls Tryz.prog 184 #[.int .i64 (n : Nat), .func (.func f) #[] caps] w fun e w' => e = .returned (.int .i64 (t : Nat)) ∧ Below w.heap.size w w' := by
  have HA := Lib.hid ha.2
  have hfe := ha.1
  clear ha
  go_enter Tryz.func184, Tryz.ntmps184
  go_wp2_with fail
  go_loopw [5, 6] (fun i j wr => ∃ a b : Nat, i = .int .i64 (a : Nat) ∧ j = .int .i64 (b : Nat) ∧ a ≤ t ∧ t ≤ b ∧ b ≤ n ∧ Below w.heap.size w wr) (fun i j _ => (intOf j).toNat - (intOf i).toNat)
  case atStart => exact ⟨0, n, rfl, rfl, Nat.zero_le _, ht, Nat.le_refl _, Below.refl _ _⟩
  case round =>
    obtain ⟨a, b, rfl, rfl, ha, hb, hbn, hw⟩ := hrel
    have HW := Lib.hid hw
    clear hw
    by_cases hab : a < b
    · have hab' : (a : Int) < (b : Int) := by omega
      have hh := half a b
      obtain ⟨m, hm⟩ : ∃ m, m = (a + b) / 2 := ⟨_, rfl⟩
      rw [← hm] at hh
      have hm1 : a ≤ m ∧ m < b := by omega
      clear hm
      have HC := Lib.hid (HA.out m (by omega) _ HW.out)
      go_upto_region 4 with fail
      clear hh
      cases e : R m with
      | true =>
        rw [e] at HC
        go_wp2_with (refine HC.out.mono ?_; rintro x w' ⟨rfl, hb'⟩; have HB := Lib.hid (HW.out.trans (hb'.mono HW.out.size)); clear hb')
        go_roundw
        case rel => exact ⟨a, m, rfl, rfl, ha, Nat.le_of_not_lt fun h => (by rw [h0 m h] at e; cases e), by omega, HB.out⟩
        case measure => simp [intOf]; omega
      | false =>
        rw [e] at HC
        go_wp2_with (refine HC.out.mono ?_; rintro x w' ⟨rfl, hb'⟩; have HB := Lib.hid (HW.out.trans (hb'.mono HW.out.size)); clear hb')
        go_roundw
        case rel => exact ⟨m + 1, b, by go_num, rfl, Nat.lt_of_not_le fun h => (by rw [h1 m h (by omega)] at e; cases e), hb, hbn, HB.out⟩
        case measure => simp [intOf]; omega
    · obtain rfl : a = t := by omega
      have hab' : ¬ (a : Int) < (b : Int) := by omega
      go_wp2_with fail
      go_ret
      exact ⟨rfl, HW.out⟩

theorem vFind (f : FuncId) (caps : Array Value) (n t : Nat) (C : Nat → Int) (w : World) (ha : Asks w f caps n (fun j => .int .i64 (C j))) (hn : n ≤ 4611686018427387904) (ht : t ≤ n) (h0 : ∀ j, j < t → 0 < C j) (h1 : ∀ j, t ≤ j → j < n → C j ≤ 0) :
    Calls Tryz.prog 221 #[.int .i64 (n : Nat), .func (.func f) #[] caps] w fun e w' => e = .returned (.tuple #[.int .i64 (t : Nat), .bool (decide (t < n ∧ C t = 0))]) ∧ Below w.heap.size w w' := by
  have HA := Lib.hid ha.2
  have hfe := ha.1
  clear ha
  go_enter Tryz.func221, Tryz.ntmps221
  go_wp2_with fail
  go_loopw [4, 6] (fun i j wr => ∃ a b : Nat, i = .int .i64 (a : Nat) ∧ j = .int .i64 (b : Nat) ∧ a ≤ t ∧ t ≤ b ∧ b ≤ n ∧ Below w.heap.size w wr) (fun i j _ => (intOf j).toNat - (intOf i).toNat)
  case atStart => exact ⟨0, n, rfl, rfl, Nat.zero_le _, ht, Nat.le_refl _, Below.refl _ _⟩
  case round =>
    obtain ⟨a, b, rfl, rfl, ha, hb, hbn, hw⟩ := hrel
    have HW := Lib.hid hw
    clear hw
    by_cases hab : a < b
    · have hab' : (a : Int) < (b : Int) := by omega
      have hh := half a b
      obtain ⟨m, hm⟩ : ∃ m, m = (a + b) / 2 := ⟨_, rfl⟩
      rw [← hm] at hh
      have hm1 : a ≤ m ∧ m < b := by omega
      clear hm
      have HC := Lib.hid (HA.out m (by omega) _ HW.out)
      go_upto_region 4 with fail
      clear hh
      by_cases e : 0 < C m
      · go_wp2_with (refine HC.out.mono ?_; rintro x w' ⟨rfl, hb'⟩; have HB := Lib.hid (HW.out.trans (hb'.mono HW.out.size)); clear hb')
        go_roundw
        case rel => exact ⟨m + 1, b, by go_num, rfl, Nat.lt_of_not_le fun h => (by have := h1 m h (by omega); omega), hb, hbn, HB.out⟩
        case measure => simp [intOf]; omega
      · go_wp2_with (refine HC.out.mono ?_; rintro x w' ⟨rfl, hb'⟩; have HB := Lib.hid (HW.out.trans (hb'.mono HW.out.size)); clear hb')
        go_roundw
        case rel => exact ⟨a, m, rfl, rfl, ha, Nat.le_of_not_lt fun h => (by have := h0 m h; omega), by omega, HB.out⟩
        case measure => simp [intOf]; omega
    · obtain rfl : a = t := by omega
      have hab' : ¬ (a : Int) < (b : Int) := by omega
      have ht2 := ht
      by_cases htn : a < n
      · have htn' : (a : Int) < (n : Int) := by omega
        have HC := Lib.hid (HA.out a htn _ HW.out)
        have hq : decide (a < n ∧ C a = 0) = (C a == 0) := by
          rw [Bool.eq_iff_iff, decide_eq_true_eq, beq_iff_eq]
          exact ⟨fun h => h.2, fun h => ⟨htn, h⟩⟩
        have HQ := Lib.hid hq
        clear hq
        go_wp2_with (refine HC.out.mono ?_; rintro x w' ⟨rfl, hb'⟩; have HB := Lib.hid (HW.out.trans (hb'.mono HW.out.size)); clear hb')
        exact bodyPost_ret (v := .tuple #[.int .i64 (a : Nat), .bool (C a == 0)]) (by simp [results, Tryz.results221, go_sem]) rfl ⟨by rw [HQ.out], HB.out⟩
      · have htn' : ¬ (a : Int) < (n : Int) := by omega
        have hq : decide (a < n ∧ C a = 0) = false := decide_eq_false (fun h => htn h.1)
        have HQ := Lib.hid hq
        clear hq
        go_wp2_with fail
        exact bodyPost_ret (v := .tuple #[.int .i64 (a : Nat), .bool false]) (by simp [results, Tryz.results221, go_sem]) rfl ⟨by first | rfl | rw [HQ.out], HW.out⟩

end Go.Proofs.YtdddhmipifkepaaGreat
