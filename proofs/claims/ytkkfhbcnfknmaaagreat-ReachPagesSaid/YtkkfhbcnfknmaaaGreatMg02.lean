/- Several texts in one. -/
import Derived.Test.YtkkfhbcnfknmaaaGreatMg01
import Derived.Laws.BitsAllLaws
import Derived.Lib.BitFns
import Derived.Test.YtkkfhbcnfknmaaaGreatProg
import Derived.Laws.ShiftsVarLaws
import Derived.Lib.Hide
import Derived.LoopTactic
import Derived.BigQuiet
import Derived.Deep.LoopGhost
import Derived.Deep.Cut
namespace Go.Proofs.YtkkfhbcnfknmaaaGreat

abbrev Ky := Int × Int × ByteArray
abbrev Pr := Ky × Ky
def dg (g i : Nat) : Nat := g / 32 ^ i % 32
theorem dg_lt (g i : Nat) : dg g i < 32 := Nat.mod_lt _ (by decide)
def vc (a b : Ky) : Int := vcmp a.1 a.2.1 a.2.2 b.1 b.2.1 b.2.2
theorem vc_eq {a b : Ky} : vc a b = 0 ↔ a = b := by
  obtain ⟨a1, a2, a3⟩ := a
  obtain ⟨b1, b2, b3⟩ := b
  unfold vc
  rw [vcmp_zero]
  constructor
  · rintro ⟨h1, h2, h3⟩
    simp only at h1 h2 h3
    rw [h1, h2, bytes_ext h3]
  · intro h
    simp only [Prod.mk.injEq] at h
    exact ⟨h.1, h.2.1, by rw [h.2.2]⟩
theorem vc_swap (a b : Ky) : vc b a = - vc a b := vcmp_swap _ _ _ _ _ _
theorem vc_range (a b : Ky) : -1 ≤ vc a b ∧ vc a b ≤ 1 := vcmp_range _ _ _ _ _ _
theorem vc_trans {a b c : Ky} (h1 : vc a b = -1) (h2 : vc b c = -1) : vc a c = -1 := by
  obtain ⟨h3, h4⟩ := vcmp_trans a.1 a.2.1 a.2.2 b.1 b.2.1 b.2.2 c.1 c.2.1 c.2.2 (by show vc a b ≤ 0; omega) (by show vc b c ≤ 0; omega)
  have h5 := vc_range a c
  have h6 : vc a c ≤ 0 := h3
  have h7 : vc a c = 0 → vc a b = 0 ∧ vc b c = 0 := h4
  by_cases e : vc a c = 0
  · have := h7 e; omega
  · omega

def ptF (g h : Nat) : Nat → Nat → Nat
  | 0, l => l
  | f + 1, l => if dg g l = dg h l then ptF g h f (l + 1) else l
theorem ptF_spec (g h : Nat) : ∀ f l, l ≤ ptF g h f l ∧ ptF g h f l ≤ l + f ∧ (∀ j, l ≤ j → j < ptF g h f l → dg g j = dg h j) ∧ (ptF g h f l < l + f → dg g (ptF g h f l) ≠ dg h (ptF g h f l))
  | 0, l => ⟨Nat.le_refl _, Nat.le_refl _, fun j h1 h2 => absurd h2 (Nat.not_lt.2 h1), fun h1 => absurd h1 (Nat.lt_irrefl _)⟩
  | f + 1, l => by
    unfold ptF
    by_cases e : dg g l = dg h l
    · rw [if_pos e]
      obtain ⟨h1, h2, h3, h4⟩ := ptF_spec g h f (l + 1)
      refine ⟨by omega, by omega, fun j j1 j2 => ?_, fun h5 => h4 (by omega)⟩
      by_cases ej : j = l
      · rw [ej]; exact e
      · exact h3 j (by omega) j2
    · rw [if_neg e]
      exact ⟨Nat.le_refl _, by omega, fun j j1 j2 => by omega, fun _ => e⟩
def pt (g h : Nat) : Nat := ptF g h 13 0
theorem pt_le (g h : Nat) : pt g h ≤ 13 := by have := (ptF_spec g h 13 0).2.1; unfold pt; omega
theorem pt_eq {g h j : Nat} (hj : j < pt g h) : dg g j = dg h j := (ptF_spec g h 13 0).2.2.1 j (Nat.zero_le _) hj
theorem pt_ne {g h : Nat} (hp : pt g h < 13) : dg g (pt g h) ≠ dg h (pt g h) := (ptF_spec g h 13 0).2.2.2 (by unfold pt at hp; omega)
theorem pt_uniq {g h p : Nat} (hp : p ≤ 13) (he : ∀ j, j < p → dg g j = dg h j) (hn : p < 13 → dg g p ≠ dg h p) : pt g h = p := by
  rcases Nat.lt_trichotomy (pt g h) p with e | e | e
  · exact absurd (he _ e) (pt_ne (by omega))
  · exact e
  · exact absurd (pt_eq e) (hn (by have := pt_le g h; omega))
theorem pt_swap (g h : Nat) : pt h g = pt g h := pt_uniq (pt_le g h) (fun _ hj => (pt_eq hj).symm) (fun hp => (pt_ne hp).symm)
theorem pt_self (g : Nat) : pt g g = 13 := pt_uniq (Nat.le_refl _) (fun _ _ => rfl) (fun h => absurd h (Nat.lt_irrefl _))
section
variable (hs : Ky → Nat)
def kltB (a b : Ky) : Bool := if pt (hs a) (hs b) < 13 then decide (dg (hs a) (pt (hs a) (hs b)) < dg (hs b) (pt (hs a) (hs b))) else decide (vc a b = -1)
abbrev klt (a b : Ky) : Prop := kltB hs a b = true
variable {hs}
theorem klt_dg {a b : Ky} (hp : pt (hs a) (hs b) < 13) : klt hs a b ↔ dg (hs a) (pt (hs a) (hs b)) < dg (hs b) (pt (hs a) (hs b)) := by
  unfold klt kltB
  rw [if_pos hp, decide_eq_true_eq]
theorem klt_vc {a b : Ky} (hp : pt (hs a) (hs b) = 13) : klt hs a b ↔ vc a b = -1 := by
  unfold klt kltB
  rw [if_neg (by omega), decide_eq_true_eq]
theorem klt_irrefl (a : Ky) : ¬ klt hs a a := by
  rw [klt_vc (pt_self _), vc_eq.2 rfl]
  decide
theorem klt_total {a b : Ky} (h : a ≠ b) : klt hs a b ∨ klt hs b a := by
  by_cases hp : pt (hs a) (hs b) < 13
  · rw [klt_dg hp, klt_dg (by rw [pt_swap]; exact hp), pt_swap (hs a) (hs b)]
    have := pt_ne hp
    omega
  · have hp' : pt (hs a) (hs b) = 13 := by have := pt_le (hs a) (hs b); omega
    rw [klt_vc hp', klt_vc (by rw [pt_swap]; exact hp'), vc_swap a b]
    have h1 := vc_range a b
    have h2 : vc a b ≠ 0 := fun e => h (vc_eq.1 e)
    omega
theorem klt_trans {a b c : Ky} (h1 : klt hs a b) (h2 : klt hs b c) : klt hs a c := by
  rcases Nat.lt_trichotomy (pt (hs a) (hs b)) (pt (hs b) (hs c)) with e | e | e
  · have hp : pt (hs a) (hs c) = pt (hs a) (hs b) := by
      have h13 : pt (hs a) (hs b) < 13 := by have := pt_le (hs b) (hs c); omega
      refine pt_uniq (by omega) (fun j hj => (pt_eq hj).trans (pt_eq (by omega))) (fun _ => ?_)
      rw [← pt_eq e]
      exact pt_ne h13
    have h13 : pt (hs a) (hs b) < 13 := by have := pt_le (hs b) (hs c); omega
    rw [klt_dg h13] at h1
    rw [klt_dg (by rw [hp]; exact h13), hp, ← pt_eq e]
    exact h1
  · by_cases h13 : pt (hs a) (hs b) < 13
    · have h13' : pt (hs b) (hs c) < 13 := by omega
      rw [klt_dg h13] at h1
      rw [klt_dg h13', ← e] at h2
      have hp : pt (hs a) (hs c) = pt (hs a) (hs b) := pt_uniq (by omega) (fun j hj => (pt_eq hj).trans (pt_eq (by omega))) (fun _ => by omega)
      rw [klt_dg (by rw [hp]; exact h13), hp]
      omega
    · have hp1 : pt (hs a) (hs b) = 13 := by have := pt_le (hs a) (hs b); omega
      have hp2 : pt (hs b) (hs c) = 13 := by omega
      have hp : pt (hs a) (hs c) = 13 := pt_uniq (Nat.le_refl _) (fun j hj => (pt_eq (show j < pt (hs a) (hs b) by omega)).trans (pt_eq (by omega))) (fun h => by omega)
      rw [klt_vc hp1] at h1
      rw [klt_vc hp2] at h2
      rw [klt_vc hp]
      exact vc_trans h1 h2
  · have h13 : pt (hs b) (hs c) < 13 := by have := pt_le (hs a) (hs b); omega
    have hp : pt (hs a) (hs c) = pt (hs b) (hs c) := by
      refine pt_uniq (by omega) (fun j hj => (pt_eq (show j < pt (hs a) (hs b) by omega)).trans (pt_eq hj)) (fun _ => ?_)
      rw [pt_eq e]
      exact pt_ne h13
    rw [klt_dg h13] at h2
    rw [klt_dg (by rw [hp]; exact h13), hp, pt_eq e]
    exact h2
theorem klt_asymm {a b : Ky} (h1 : klt hs a b) : ¬ klt hs b a := fun h2 => klt_irrefl a (klt_trans h1 h2)

abbrev Srt (hs : Ky → Nat) (l : List Pr) : Prop := l.Pairwise (fun p q => klt hs p.1 q.1)
theorem Srt.key_inj {l : List Pr} (h : Srt hs l) {p q : Pr} (hp : p ∈ l) (hq : q ∈ l) (e : p.1 = q.1) : p = q := by
  induction l with
  | nil => cases hp
  | cons x l ih =>
    obtain ⟨h1, h2⟩ := List.pairwise_cons.1 h
    rcases List.mem_cons.1 hp with rfl | hp'
    · rcases List.mem_cons.1 hq with rfl | hq'
      · rfl
      · exact absurd (e ▸ h1 q hq') (klt_irrefl _)
    · rcases List.mem_cons.1 hq with rfl | hq'
      · exact absurd (e ▸ h1 p hp') (klt_irrefl _)
      · exact ih h2 hp' hq'
theorem Srt.ext : ∀ {l m : List Pr}, Srt hs l → Srt hs m → (∀ q, q ∈ l ↔ q ∈ m) → l = m
  | [], [], _, _, _ => rfl
  | [], y :: m, _, _, h => absurd ((h y).2 (by simp)) (by simp)
  | x :: l, [], _, _, h => absurd ((h x).1 (by simp)) (by simp)
  | x :: l, y :: m, hl, hm, h => by
    obtain ⟨l1, l2⟩ := List.pairwise_cons.1 hl
    obtain ⟨m1, m2⟩ := List.pairwise_cons.1 hm
    have exy : x = y := by
      rcases List.mem_cons.1 ((h x).1 (by simp)) with e | e
      · exact e
      · rcases List.mem_cons.1 ((h y).2 (by simp)) with e' | e'
        · exact e'.symm
        · exact absurd (m1 x e) (klt_asymm (l1 y e'))
    subst exy
    have hx : ∀ q, q ∈ l → q ≠ x := fun q hq e => klt_irrefl x.1 (by have := l1 q hq; rwa [e] at this)
    have hx' : ∀ q, q ∈ m → q ≠ x := fun q hq e => klt_irrefl x.1 (by have := m1 q hq; rwa [e] at this)
    rw [Srt.ext l2 m2 fun q => ⟨fun hq => (List.mem_cons.1 ((h q).1 (by simp [hq]))).resolve_left (hx q hq), fun hq => (List.mem_cons.1 ((h q).2 (by simp [hq]))).resolve_left (hx' q hq)⟩]

def putD (hs : Ky → Nat) (p : Pr) : Bool → List Pr → List Pr
  | done, [] => if done then [] else [p]
  | done, q :: l => if q.1 = p.1 then p :: putD hs p true l else if done = false ∧ klt hs p.1 q.1 then p :: q :: putD hs p true l else q :: putD hs p done l
def putL (hs : Ky → Nat) (p : Pr) (l : List Pr) : List Pr := putD hs p false l
def lookL (k : Ky) (l : List Pr) : Option Ky := (l.find? (fun q => decide (q.1 = k))).map Prod.snd
theorem putD_true {p : Pr} : ∀ {l : List Pr}, (∀ q ∈ l, klt hs p.1 q.1) → putD hs p true l = l
  | [], _ => rfl
  | q :: l, h => by
    have h1 : q.1 ≠ p.1 := fun e => klt_irrefl p.1 (by have := h q (by simp); rwa [e] at this)
    unfold putD
    rw [if_neg h1, if_neg (by simp), putD_true fun x hx => h x (by simp [hx])]
theorem putL_spec {p : Pr} : ∀ {l : List Pr}, Srt hs l → Srt hs (putL hs p l) ∧ ∀ q, q ∈ putL hs p l ↔ q = p ∨ (q ∈ l ∧ q.1 ≠ p.1)
  | [], _ => ⟨by unfold putL putD; simp, fun q => by unfold putL putD; simp⟩
  | x :: l, h => by
    obtain ⟨h1, h2⟩ := List.pairwise_cons.1 h
    obtain ⟨i1, i2⟩ := putL_spec (p := p) h2
    unfold putL putD
    by_cases e : x.1 = p.1
    · rw [if_pos e, putD_true fun q hq => by rw [← e]; exact h1 q hq]
      refine ⟨List.pairwise_cons.2 ⟨fun q hq => by rw [← e]; exact h1 q hq, h2⟩, fun q => ?_⟩
      constructor
      · intro hq
        rcases List.mem_cons.1 hq with rfl | hq
        · exact .inl rfl
        · exact .inr ⟨by simp [hq], fun e' => klt_irrefl p.1 (by have := h1 q hq; rw [e, e'] at this; exact this)⟩
      · rintro (rfl | ⟨hq, hne⟩)
        · simp
        · rcases List.mem_cons.1 hq with rfl | hq
          · exact absurd e hne
          · simp [hq]
    · rw [if_neg e]
      by_cases hk : klt hs p.1 x.1
      · rw [if_pos ⟨rfl, hk⟩, putD_true fun q hq => klt_trans hk (h1 q hq)]
        refine ⟨List.pairwise_cons.2 ⟨fun q hq => ?_, h⟩, fun q => ?_⟩
        · rcases List.mem_cons.1 hq with rfl | hq
          · exact hk
          · exact klt_trans hk (h1 q hq)
        · constructor
          · intro hq
            rcases List.mem_cons.1 hq with rfl | hq
            · exact .inl rfl
            · refine .inr ⟨hq, fun e' => ?_⟩
              rcases List.mem_cons.1 hq with rfl | hq
              · exact e e'
              · exact klt_irrefl p.1 (by have := klt_trans hk (h1 q hq); rwa [e'] at this)
          · rintro (rfl | ⟨hq, _⟩)
            · simp
            · simp [List.mem_cons.1 hq]
      · rw [if_neg (fun h => hk h.2)]
        have hxp : klt hs x.1 p.1 := (klt_total e).resolve_right hk
        refine ⟨List.pairwise_cons.2 ⟨fun q hq => ?_, i1⟩, fun q => ?_⟩
        · rcases (i2 q).1 hq with rfl | ⟨hq, _⟩
          · exact hxp
          · exact h1 q hq
        · constructor
          · intro hq
            rcases List.mem_cons.1 hq with rfl | hq
            · exact .inr ⟨by simp, e⟩
            · rcases (i2 q).1 hq with rfl | ⟨hq, hne⟩
              · exact .inl rfl
              · exact .inr ⟨by simp [hq], hne⟩
          · rintro (rfl | ⟨hq, hne⟩)
            · exact List.mem_cons_of_mem _ ((i2 q).2 (.inl rfl))
            · rcases List.mem_cons.1 hq with rfl | hq
              · simp
              · exact List.mem_cons_of_mem _ ((i2 q).2 (.inr ⟨hq, hne⟩))
theorem putL_uniq {p : Pr} {l m : List Pr} (hl : Srt hs l) (hm : Srt hs m) (h : ∀ q, q ∈ m ↔ q = p ∨ (q ∈ l ∧ q.1 ≠ p.1)) : m = putL hs p l :=
  hm.ext (putL_spec hl).1 fun q => (h q).trans ((putL_spec hl).2 q).symm
def hasB (k : Ky) (l : List Pr) : Bool := l.any (fun q => decide (q.1 = k))
theorem hasB_iff {k : Ky} {l : List Pr} : hasB k l = true ↔ ∃ q ∈ l, q.1 = k := by
  unfold hasB
  rw [List.any_eq_true]
  simp
theorem putL_length {p : Pr} : ∀ {l : List Pr}, Srt hs l → (putL hs p l).length = if hasB p.1 l = true then l.length else l.length + 1
  | [], _ => rfl
  | x :: l, h => by
    obtain ⟨h1, h2⟩ := List.pairwise_cons.1 h
    have ih := putL_length (p := p) h2
    unfold putL at ih ⊢
    unfold putD
    by_cases e : x.1 = p.1
    · rw [if_pos e, putD_true fun q hq => by rw [← e]; exact h1 q hq, if_pos (hasB_iff.2 ⟨x, by simp, e⟩)]
      rfl
    · rw [if_neg e]
      by_cases hk : klt hs p.1 x.1
      · rw [if_pos ⟨rfl, hk⟩, putD_true fun q hq => klt_trans hk (h1 q hq)]
        have hno : ¬ hasB p.1 (x :: l) = true := fun hm => by
          obtain ⟨q, hq, eq⟩ := hasB_iff.1 hm
          rcases List.mem_cons.1 hq with rfl | hq
          · exact e eq
          · exact klt_irrefl p.1 (by have := klt_trans hk (h1 q hq); rwa [eq] at this)
        rw [if_neg hno]
        rfl
      · rw [if_neg (fun h => hk h.2)]
        have hb : hasB p.1 (x :: l) = hasB p.1 l := by
          unfold hasB
          rw [List.any_cons, decide_eq_false e, Bool.false_or]
        rw [hb, List.length_cons, ih, List.length_cons]
        split <;> rfl
theorem lookL_some {k v : Ky} {l : List Pr} (h : Srt hs l) : lookL k l = some v ↔ (k, v) ∈ l := by
  unfold lookL
  constructor
  · intro e
    obtain ⟨q, hq, rfl⟩ := Option.map_eq_some_iff.1 e
    have h1 := List.find?_some hq
    have h2 := List.mem_of_find?_eq_some hq
    rw [decide_eq_true_eq] at h1
    rw [← h1]
    exact h2
  · intro hm
    cases e : l.find? (fun q => decide (q.1 = k)) with
    | none =>
      have := List.find?_eq_none.1 e (k, v) hm
      simp at this
    | some q =>
      have h1 := List.find?_some e
      have h2 := List.mem_of_find?_eq_some e
      rw [decide_eq_true_eq] at h1
      rw [h.key_inj h2 hm h1]
      rfl
theorem lookL_none {k : Ky} {l : List Pr} : lookL k l = none ↔ ∀ q ∈ l, q.1 ≠ k := by
  unfold lookL
  rw [Option.map_eq_none_iff, List.find?_eq_none]
  simp
end

end Go.Proofs.YtkkfhbcnfknmaaaGreat

namespace Go.Proofs.YtkkfhbcnfknmaaaGreat

def cnt (n : Nat) : Nat → Nat
  | 0 => 0
  | i + 1 => cnt n i + (n.testBit i).toNat

theorem cnt_le (n : Nat) : ∀ i, cnt n i ≤ i
  | 0 => Nat.le_refl _
  | i + 1 => by have := cnt_le n i; have := Bool.toNat_le (n.testBit i); unfold cnt; omega
theorem cnt_congr {m n : Nat} : ∀ i, (∀ k, k < i → m.testBit k = n.testBit k) → cnt m i = cnt n i
  | 0, _ => rfl
  | i + 1, h => by unfold cnt; rw [cnt_congr i fun k hk => h k (by omega), h i (by omega)]
theorem cnt_add (n a : Nat) : ∀ b, cnt n (a + b) = cnt n a + cnt (n / 2 ^ a) b
  | 0 => by simp [cnt]
  | b + 1 => by
    have : (n / 2 ^ a).testBit b = n.testBit (a + b) := by rw [Nat.testBit_div_two_pow, Nat.add_comm]
    rw [← Nat.add_assoc, show cnt n (a + b + 1) = cnt n (a + b) + (n.testBit (a + b)).toNat from rfl, show cnt (n / 2 ^ a) (b + 1) = cnt (n / 2 ^ a) b + ((n / 2 ^ a).testBit b).toNat from rfl, cnt_add n a b, this]
    omega
theorem cnt_zero : ∀ i, cnt 0 i = 0
  | 0 => rfl
  | i + 1 => by unfold cnt; rw [cnt_zero i]; simp
theorem cnt_small {n a : Nat} (h : n < 2 ^ a) (b : Nat) : cnt n (a + b) = cnt n a := by
  rw [cnt_add, Nat.div_eq_of_lt h, cnt_zero]; rfl
theorem cnt_mod (n a : Nat) : cnt (n % 2 ^ a) a = cnt n a :=
  cnt_congr a fun k hk => by rw [Nat.testBit_mod_two_pow]; simp [hk]
theorem pop_cnt : ∀ f n, Lib.popAux f n = cnt n f
  | 0, _ => rfl
  | f + 1, n => by
    rw [Lib.popAux, pop_cnt f, Nat.add_comm f 1, cnt_add n 1 f]
    have : cnt n 1 = n % 2 := by
      unfold cnt cnt
      rw [Nat.testBit_zero]
      have : n % 2 = 0 ∨ n % 2 = 1 := by omega
      rcases this with h | h <;> simp [h]
    rw [this]
theorem pop8_cnt (x : Nat) (h : x < 256) : Lib.pop8 (x : Int) = (cnt x 8 : Nat) := by
  have e := Lib.pop8_eq ⟨x, h⟩
  simp only at e
  rw [e, Lib.onesCount, pop_cnt, show (64 : Nat) = 8 + 56 from rfl, cnt_small (a := 8) (by omega)]
theorem cnt_32 (n : Nat) : cnt n 32 = cnt (n / 16777216) 8 + cnt (n / 65536 % 256) 8 + cnt (n / 256 % 256) 8 + cnt (n % 256) 8 := by
  have h1 : cnt (n % 256) 8 = cnt n 8 := cnt_mod n 8
  have h2 : cnt (n / 256 % 256) 8 = cnt (n / 256) 8 := cnt_mod _ 8
  have h3 : cnt (n / 65536 % 256) 8 = cnt (n / 65536) 8 := cnt_mod _ 8
  rw [h1, h2, h3, show (32 : Nat) = 8 + (8 + (8 + 8)) from rfl, cnt_add n 8, cnt_add _ 8, cnt_add _ 8, Nat.div_div_eq_div_mul, Nat.div_div_eq_div_mul]
  show cnt n 8 + (cnt (n / 256) 8 + (cnt (n / 65536) 8 + cnt (n / 16777216) 8)) = _
  omega

theorem and_255 (x : Nat) (h : x < 4294967296) : bits .and .u32 (x : Int) 255 = ((x % 256 : Nat) : Int) := by
  have := u32_and_nat x 255 h (by decide)
  rw [nat_mask8] at this
  exact this
theorem and_1 (x : Nat) (h : x < 4294967296) : bits .and .u32 (x : Int) 1 = ((x % 2 : Nat) : Int) := by
  have := u32_and_nat x 1 h (by decide)
  rw [nat_mask1] at this
  exact this
theorem and_low (n i : Nat) (h : n < 4294967296) (hi : i < 32) : bits .and .u32 (n : Int) ((2 ^ i - 1 : Nat) : Int) = ((n % 2 ^ i : Nat) : Int) := by
  have hp : 2 ^ i ≤ 2 ^ 31 := Nat.pow_le_pow_right (by decide) (by omega)
  rw [u32_and_nat n _ h (by omega), Nat.and_two_pow_sub_one_eq_mod]
theorem cnt_low (n i : Nat) (hi : i ≤ 32) : cnt (n % 2 ^ i) 32 = cnt n i := by
  obtain ⟨j, hj⟩ : ∃ j, 32 = i + j := ⟨32 - i, by omega⟩
  rw [hj, cnt_small (Nat.mod_lt _ (Nat.two_pow_pos i)), cnt_mod]

theorem pow_32 {k : Nat} (h : k < 32) : 2 ^ k < 4294967296 := Nat.pow_lt_pow_right (m := k) (n := 32) (by decide) h
end Go.Proofs.YtkkfhbcnfknmaaaGreat

namespace Go.Proofs.YtkkfhbcnfknmaaaGreat
set_option maxRecDepth 100000
open Go.RowKit

def digB (i : Int) : Bool := decide (0 ≤ i) && decide (i < 32)

theorem is_digit (i : Int) (w : World) : Calls Tryz.prog 188 #[.int .i64 i] w fun e w' => e = .returned (.bool (digB i)) ∧ w = w' := by
  go_enter Tryz.func188, Tryz.ntmps188
  by_cases h : 0 ≤ i
  · go_wp2_with fail
    go_ret
    exact ⟨ret_bool (by simp [digB, h]), rfl⟩
  · go_wp2_with fail
    go_ret
    exact ⟨ret_bool (by simp [digB]; omega), rfl⟩

theorem has_bit (n k : Nat) (hn : n < 4294967296) : (bits .and .u32 ((n : Int) / 2 ^ k) 1 == 1) = n.testBit k := by
  have e : (n : Int) / 2 ^ k = ((n / 2 ^ k : Nat) : Int) := by simp
  rw [e, and_1 _ (Nat.lt_of_le_of_lt (Nat.div_le_self _ _) hn), Nat.testBit_eq_decide_div_mod_eq, Bool.eq_iff_iff]
  simp only [beq_iff_eq, decide_eq_true_eq]
  omega

theorem has (n : Nat) (hn : n < 4294967296) (k : Nat) (hk : k < 32) (w : World) : Calls Tryz.prog 159 #[.int .u32 n, .int .i64 k] w fun e w' => e = .returned (.bool (n.testBit k)) ∧ w = w' := by
  go_enter Tryz.func159, Tryz.ntmps159
  go_wp2_with fail
  refine (is_digit k _).mono ?_
  rintro e w' ⟨rfl, rfl⟩
  rw [show digB k = true by simp [digB]; omega]
  go_wp2_with fail
  go_ret
  exact ⟨ret_bool (has_bit n k hn), rfl⟩

theorem pop_fold : (⟨(([0, 1, 1, 2, 1, 2, 2, 3, 1, 2, 2, 3, 2, 3, 3, 4, 1, 2, 2, 3, 2, 3, 3, 4, 2, 3, 3, 4, 3, 4, 4, 5, 1, 2, 2, 3, 2, 3, 3, 4, 2, 3, 3, 4, 3, 4, 4, 5, 2, 3, 3, 4, 3, 4, 4, 5, 3, 4, 4, 5, 4, 5, 5, 6].append [1, 2, 2, 3, 2, 3, 3, 4, 2, 3, 3, 4, 3, 4, 4, 5, 2, 3, 3, 4, 3, 4, 4, 5, 3, 4, 4, 5, 4, 5, 5, 6, 2, 3, 3, 4, 3, 4, 4, 5, 3, 4, 4, 5, 4, 5, 5, 6, 3, 4, 4, 5, 4, 5, 5, 6, 4, 5, 5, 6, 5, 6, 6, 7]).append ([1, 2, 2, 3, 2, 3, 3, 4, 2, 3, 3, 4, 3, 4, 4, 5, 2, 3, 3, 4, 3, 4, 4, 5, 3, 4, 4, 5, 4, 5, 5, 6, 2, 3, 3, 4, 3, 4, 4, 5, 3, 4, 4, 5, 4, 5, 5, 6, 3, 4, 4, 5, 4, 5, 5, 6, 4, 5, 5, 6, 5, 6, 6, 7].append [2, 3, 3, 4, 3, 4, 4, 5, 3, 4, 4, 5, 4, 5, 5, 6, 3, 4, 4, 5, 4, 5, 5, 6, 4, 5, 5, 6, 5, 6, 6, 7, 3, 4, 4, 5, 4, 5, 5, 6, 4, 5, 5, 6, 5, 6, 6, 7, 4, 5, 5, 6, 5, 6, 6, 7, 5, 6, 6, 7, 6, 7, 7, 8])).toArray⟩ : ByteArray) = Lib.pop8tab := by kernel_rfl

theorem ones (n : Nat) (hn : n < 4294967296) (w : World) : Calls Tryz.prog 203 #[.int .u32 n] w fun e w' => e = .returned (.int .i64 (cnt n 32)) ∧ Gw w w' := by
  go_enter Tryz.func203, Tryz.ntmps203
  simp only [pop_fold]
  obtain ⟨a, ha⟩ : ∃ a, a = n / 16777216 := ⟨_, rfl⟩
  obtain ⟨b, hb⟩ : ∃ b, b = n / 65536 % 256 := ⟨_, rfl⟩
  obtain ⟨c, hc⟩ : ∃ c, c = n / 256 % 256 := ⟨_, rfl⟩
  obtain ⟨d, hd⟩ : ∃ d, d = n % 256 := ⟨_, rfl⟩
  have h0 : (n : Int) / 16777216 = (a : Int) := by omega
  have h1 : bits .and .u32 ((n : Int) / 65536) 255 = (b : Int) := by rw [hb]; exact and_255 (n / 65536) (by omega)
  have h2 : bits .and .u32 ((n : Int) / 256) 255 = (c : Int) := by rw [hc]; exact and_255 (n / 256) (by omega)
  have h3 : bits .and .u32 (n : Int) 255 = (d : Int) := by rw [hd]; exact and_255 n hn
  have e0 : (0 : Int) ≤ (a : Int) ∧ (a : Int) ≤ 255 := by omega
  have e1 : (0 : Int) ≤ (b : Int) ∧ (b : Int) ≤ 255 := by omega
  have e2 : (0 : Int) ≤ (c : Int) ∧ (c : Int) ≤ 255 := by omega
  have e3 : (0 : Int) ≤ (d : Int) ∧ (d : Int) ≤ 255 := by omega
  have p0 := pop8_cnt a (by omega)
  have p1 := pop8_cnt b (by omega)
  have p2 := pop8_cnt c (by omega)
  have p3 := pop8_cnt d (by omega)
  have HS := Lib.hid (show cnt n 32 = cnt a 8 + cnt b 8 + cnt c 8 + cnt d 8 by rw [ha, hb, hc, hd]; exact cnt_32 n)
  clear ha hb hc hd
  go_wp2_with fail
  go_quiet (fail)
  go_wp2_with fail
  go_ret
  have := HS.out
  have := cnt_le n 32
  exact ⟨ret_int (by omega), (Gw.refl w).drewN _⟩

theorem len (n : Nat) (hn : n < 4294967296) (w : World) : Calls Tryz.prog 187 #[.int .u32 n] w fun e w' => e = .returned (.int .i64 (cnt n 32)) ∧ Gw w w' := by
  go_enter Tryz.func187, Tryz.ntmps187
  go_wp2_with fail
  refine (ones n hn _).mono ?_
  rintro e w' ⟨rfl, g⟩
  go_wp2_with fail
  go_ret
  exact ⟨rfl, g⟩

theorem low_run (n k : Nat) (hn : n < 4294967296) (hk : k < 32) : bits .and .u32 (n : Int) ((2 ^ k - 1) % 4294967296) = ((n % 2 ^ k : Nat) : Int) := by
  rw [← and_low n k hn hk]
  have hp := pow_32 hk
  have h0 := Nat.two_pow_pos k
  have e : (2 : Int) ^ k = ((2 ^ k : Nat) : Int) := by simp
  congr 1
  rw [e]
  omega

def placeN (n : Nat) (i : Int) : Nat := cnt n (min i.toNat 32)

theorem place (n : Nat) (hn : n < 4294967296) (i : Int) (w : World) : Calls Tryz.prog 160 #[.int .u32 n, .int .i64 i] w fun e w' => e = .returned (.int .i64 (placeN n i)) ∧ Gw w w' := by
  go_enter Tryz.func160, Tryz.ntmps160
  by_cases h0 : i < 0
  · go_wp2_with fail
    go_ret
    exact ⟨ret_int (by unfold placeN; rw [show i.toNat = 0 by omega]; rfl), Gw.refl _⟩
  by_cases h1 : 32 ≤ i
  · go_wp2_with fail
    refine (len n hn _).mono ?_
    rintro e w' ⟨rfl, g⟩
    go_wp2_with fail
    go_ret
    exact ⟨ret_int (by unfold placeN; rw [show min i.toNat 32 = 32 by omega]), g⟩
  · obtain ⟨k, rfl⟩ := Int.eq_ofNat_of_zero_le (show 0 ≤ i by omega)
    go_wp2_with fail
    rw [low_run n k hn (by omega)]
    refine (len (n % 2 ^ k) (Nat.lt_of_le_of_lt (Nat.mod_le _ _) hn) _).mono ?_
    rintro e w' ⟨rfl, g⟩
    rw [cnt_low n k (by omega)]
    go_wp2_with fail
    go_ret
    exact ⟨ret_int (by unfold placeN; rw [show min (k : Int).toNat 32 = k by omega]), g⟩

def Ints (w : World) (A : Option Addr) (l : List Int) : Prop :=
  l = [] ∨ ∃ b o, A = some ⟨b, o, none⟩ ∧ b < w.heap.size ∧ ∀ (i : Nat) (x : Int), l[i]? = some x → w.cell? ⟨b, o + i, none⟩ = some (.int .i64 x)
theorem Ints.at {w : World} {A : Option Addr} {l : List Int} (h : Ints w A l) {i : Nat} {x : Int} (hi : l[i]? = some x) : ∃ b o, A = some ⟨b, o, none⟩ ∧ w.cell? ⟨b, o + i, none⟩ = some (.int .i64 x) := by
  rcases h with h | ⟨b, o, hA, _, hc⟩
  · subst h; simp at hi
  · exact ⟨b, o, hA, hc i x hi⟩
theorem Ints.below {w w' : World} {A : Option Addr} {l : List Int} (h : Ints w A l) (g : Below w.heap.size w w') : Ints w' A l := by
  rcases h with h | ⟨b, o, hA, hb, hc⟩
  · exact .inl h
  · exact .inr ⟨b, o, hA, Nat.lt_of_lt_of_le hb g.size, fun i x hx => (g.cell (p := ⟨b, _, none⟩) hb).trans (hc i x hx)⟩

end Go.Proofs.YtkkfhbcnfknmaaaGreat

namespace Go.Proofs.YtkkfhbcnfknmaaaGreat
set_option maxRecDepth 100000
open Go.RowKit

theorem half (i j : Nat) : ((i : Int) + j) / 2 = (((i + j) / 2 : Nat) : Int) := by omega

end Go.Proofs.YtkkfhbcnfknmaaaGreat

namespace Go.Proofs.YtkkfhbcnfknmaaaGreat
open Go.RowKit

def C2 (w : World) (b : Nat) (t : TypeId) (x0 x1 : Value) : Prop := w.heap[b]? = some (.cells #[x0, x1] t (0, 0))
section
variable {w w' : World} {b : Nat} {t : TypeId} {x0 x1 : Value}
theorem C2.c0 (h : C2 w b t x0 x1) : w.cell? ⟨b, 0, none⟩ = some x0 := by simpa using cell_of_row w b 0 _ _ (0, 0) h
theorem C2.c1 (h : C2 w b t x0 x1) : w.cell? ⟨b, 1, none⟩ = some x1 := by simpa using cell_of_row w b 1 _ _ (0, 0) h
theorem C2.fz (h : C2 w b t x0 x1) (i : Nat) : w.frozen? ⟨b, i, none⟩ = false := frozen_of_row w b i _ _ h
theorem C2.all (h : C2 w b t x0 x1) : w.cell? ⟨b, 0, none⟩ = some x0 ∧ w.cell? ⟨b, 1, none⟩ = some x1 ∧ w.frozen? ⟨b, 0, none⟩ = false ∧ w.frozen? ⟨b, 1, none⟩ = false :=
  ⟨h.c0, h.c1, h.fz 0, h.fz 1⟩
theorem C2.set0 (h : C2 w b t x0 x1) (y : Value) : C2 (w.setCell ⟨b, 0, none⟩ y) b t y x1 := by
  have := heap_setCell_same w b 0 _ _ y h
  simpa [C2] using this
theorem C2.set1 (h : C2 w b t x0 x1) (y : Value) : C2 (w.setCell ⟨b, 1, none⟩ y) b t x0 y := by
  have := heap_setCell_same w b 1 _ _ y h
  simpa [C2] using this
theorem C2.other (h : C2 w b t x0 x1) {g o : Nat} (hg : b ≠ g) (y : Value) : C2 (w.setCell ⟨g, o, none⟩ y) b t x0 x1 := (Below.heap_setCell w ⟨g, o, none⟩ y b hg).trans h
theorem C2.lt (h : C2 w b t x0 x1) : b < w.heap.size := (Array.getElem?_eq_some_iff.1 h).1
theorem C2.kp {F : Nat → Prop} (h : C2 w b t x0 x1) (hk : Kp F w w') (hF : ¬ F b) : C2 w' b t x0 x1 := hk.at h hF
theorem C2.below (h : C2 w b t x0 x1) (hb : Below w.heap.size w w') : C2 w' b t x0 x1 := (hb.block b h.lt).trans h
theorem C2.grown {row : Option Nat} (h : C2 w b t x0 x1) (hg : w.grownBy w' row) (hb : some b ≠ row) : C2 w' b t x0 x1 := (hg.block b h.lt hb).trans h
theorem C2.new (w : World) (t : TypeId) (x0 x1 : Value) : C2 (w.alloc (.cells #[x0, x1] t)) w.heap.size t x0 x1 := heap_alloc_new w _
theorem C2.alloc (h : C2 w b t x0 x1) (o : Obj) : C2 (w.alloc o) b t x0 x1 := (Below.heap_alloc w o b h.lt).trans h
theorem C2.drew (h : C2 w b t x0 x1) : C2 w.drew b t x0 x1 := h
end

def C4 (w : World) (b : Nat) (t : TypeId) (x0 x1 x2 x3 : Value) : Prop := w.heap[b]? = some (.cells #[x0, x1, x2, x3] t (0, 0))
section
variable {w w' : World} {b : Nat} {t : TypeId} {x0 x1 x2 x3 : Value}
theorem C4.c0 (h : C4 w b t x0 x1 x2 x3) : w.cell? ⟨b, 0, none⟩ = some x0 := by simpa using cell_of_row w b 0 _ _ (0, 0) h
theorem C4.c1 (h : C4 w b t x0 x1 x2 x3) : w.cell? ⟨b, 1, none⟩ = some x1 := by simpa using cell_of_row w b 1 _ _ (0, 0) h
theorem C4.c2 (h : C4 w b t x0 x1 x2 x3) : w.cell? ⟨b, 2, none⟩ = some x2 := by simpa using cell_of_row w b 2 _ _ (0, 0) h
theorem C4.c3 (h : C4 w b t x0 x1 x2 x3) : w.cell? ⟨b, 3, none⟩ = some x3 := by simpa using cell_of_row w b 3 _ _ (0, 0) h
theorem C4.fz (h : C4 w b t x0 x1 x2 x3) (i : Nat) : w.frozen? ⟨b, i, none⟩ = false := frozen_of_row w b i _ _ h
theorem C4.all (h : C4 w b t x0 x1 x2 x3) : w.cell? ⟨b, 0, none⟩ = some x0 ∧ w.cell? ⟨b, 1, none⟩ = some x1 ∧ w.cell? ⟨b, 2, none⟩ = some x2 ∧ w.cell? ⟨b, 3, none⟩ = some x3 ∧ w.frozen? ⟨b, 0, none⟩ = false ∧ w.frozen? ⟨b, 1, none⟩ = false ∧ w.frozen? ⟨b, 2, none⟩ = false ∧ w.frozen? ⟨b, 3, none⟩ = false :=
  ⟨h.c0, h.c1, h.c2, h.c3, h.fz 0, h.fz 1, h.fz 2, h.fz 3⟩
theorem C4.set0 (h : C4 w b t x0 x1 x2 x3) (y : Value) : C4 (w.setCell ⟨b, 0, none⟩ y) b t y x1 x2 x3 := by
  have := heap_setCell_same w b 0 _ _ y h
  simpa [C4] using this
theorem C4.set1 (h : C4 w b t x0 x1 x2 x3) (y : Value) : C4 (w.setCell ⟨b, 1, none⟩ y) b t x0 y x2 x3 := by
  have := heap_setCell_same w b 1 _ _ y h
  simpa [C4] using this
theorem C4.set2 (h : C4 w b t x0 x1 x2 x3) (y : Value) : C4 (w.setCell ⟨b, 2, none⟩ y) b t x0 x1 y x3 := by
  have := heap_setCell_same w b 2 _ _ y h
  simpa [C4] using this
theorem C4.set3 (h : C4 w b t x0 x1 x2 x3) (y : Value) : C4 (w.setCell ⟨b, 3, none⟩ y) b t x0 x1 x2 y := by
  have := heap_setCell_same w b 3 _ _ y h
  simpa [C4] using this
theorem C4.other (h : C4 w b t x0 x1 x2 x3) {g o : Nat} (hg : b ≠ g) (y : Value) : C4 (w.setCell ⟨g, o, none⟩ y) b t x0 x1 x2 x3 := (Below.heap_setCell w ⟨g, o, none⟩ y b hg).trans h
theorem C4.lt (h : C4 w b t x0 x1 x2 x3) : b < w.heap.size := (Array.getElem?_eq_some_iff.1 h).1
theorem C4.kp {F : Nat → Prop} (h : C4 w b t x0 x1 x2 x3) (hk : Kp F w w') (hF : ¬ F b) : C4 w' b t x0 x1 x2 x3 := hk.at h hF
theorem C4.below (h : C4 w b t x0 x1 x2 x3) (hb : Below w.heap.size w w') : C4 w' b t x0 x1 x2 x3 := (hb.block b h.lt).trans h
theorem C4.grown {row : Option Nat} (h : C4 w b t x0 x1 x2 x3) (hg : w.grownBy w' row) (hb : some b ≠ row) : C4 w' b t x0 x1 x2 x3 := (hg.block b h.lt hb).trans h
theorem C4.new (w : World) (t : TypeId) (x0 x1 x2 x3 : Value) : C4 (w.alloc (.cells #[x0, x1, x2, x3] t)) w.heap.size t x0 x1 x2 x3 := heap_alloc_new w _
theorem C4.alloc (h : C4 w b t x0 x1 x2 x3) (o : Obj) : C4 (w.alloc o) b t x0 x1 x2 x3 := (Below.heap_alloc w o b h.lt).trans h
theorem C4.drew (h : C4 w b t x0 x1 x2 x3) : C4 w.drew b t x0 x1 x2 x3 := h
end

def C5 (w : World) (b : Nat) (t : TypeId) (x0 x1 x2 x3 x4 : Value) : Prop := w.heap[b]? = some (.cells #[x0, x1, x2, x3, x4] t (0, 0))
section
variable {w w' : World} {b : Nat} {t : TypeId} {x0 x1 x2 x3 x4 : Value}
theorem C5.c0 (h : C5 w b t x0 x1 x2 x3 x4) : w.cell? ⟨b, 0, none⟩ = some x0 := by simpa using cell_of_row w b 0 _ _ (0, 0) h
theorem C5.c1 (h : C5 w b t x0 x1 x2 x3 x4) : w.cell? ⟨b, 1, none⟩ = some x1 := by simpa using cell_of_row w b 1 _ _ (0, 0) h
theorem C5.c2 (h : C5 w b t x0 x1 x2 x3 x4) : w.cell? ⟨b, 2, none⟩ = some x2 := by simpa using cell_of_row w b 2 _ _ (0, 0) h
theorem C5.c3 (h : C5 w b t x0 x1 x2 x3 x4) : w.cell? ⟨b, 3, none⟩ = some x3 := by simpa using cell_of_row w b 3 _ _ (0, 0) h
theorem C5.c4 (h : C5 w b t x0 x1 x2 x3 x4) : w.cell? ⟨b, 4, none⟩ = some x4 := by simpa using cell_of_row w b 4 _ _ (0, 0) h
theorem C5.fz (h : C5 w b t x0 x1 x2 x3 x4) (i : Nat) : w.frozen? ⟨b, i, none⟩ = false := frozen_of_row w b i _ _ h
theorem C5.all (h : C5 w b t x0 x1 x2 x3 x4) : w.cell? ⟨b, 0, none⟩ = some x0 ∧ w.cell? ⟨b, 1, none⟩ = some x1 ∧ w.cell? ⟨b, 2, none⟩ = some x2 ∧ w.cell? ⟨b, 3, none⟩ = some x3 ∧ w.cell? ⟨b, 4, none⟩ = some x4 ∧ w.frozen? ⟨b, 0, none⟩ = false ∧ w.frozen? ⟨b, 1, none⟩ = false ∧ w.frozen? ⟨b, 2, none⟩ = false ∧ w.frozen? ⟨b, 3, none⟩ = false ∧ w.frozen? ⟨b, 4, none⟩ = false :=
  ⟨h.c0, h.c1, h.c2, h.c3, h.c4, h.fz 0, h.fz 1, h.fz 2, h.fz 3, h.fz 4⟩
theorem C5.set0 (h : C5 w b t x0 x1 x2 x3 x4) (y : Value) : C5 (w.setCell ⟨b, 0, none⟩ y) b t y x1 x2 x3 x4 := by
  have := heap_setCell_same w b 0 _ _ y h
  simpa [C5] using this
theorem C5.set1 (h : C5 w b t x0 x1 x2 x3 x4) (y : Value) : C5 (w.setCell ⟨b, 1, none⟩ y) b t x0 y x2 x3 x4 := by
  have := heap_setCell_same w b 1 _ _ y h
  simpa [C5] using this
theorem C5.set2 (h : C5 w b t x0 x1 x2 x3 x4) (y : Value) : C5 (w.setCell ⟨b, 2, none⟩ y) b t x0 x1 y x3 x4 := by
  have := heap_setCell_same w b 2 _ _ y h
  simpa [C5] using this
theorem C5.set3 (h : C5 w b t x0 x1 x2 x3 x4) (y : Value) : C5 (w.setCell ⟨b, 3, none⟩ y) b t x0 x1 x2 y x4 := by
  have := heap_setCell_same w b 3 _ _ y h
  simpa [C5] using this
theorem C5.set4 (h : C5 w b t x0 x1 x2 x3 x4) (y : Value) : C5 (w.setCell ⟨b, 4, none⟩ y) b t x0 x1 x2 x3 y := by
  have := heap_setCell_same w b 4 _ _ y h
  simpa [C5] using this
theorem C5.other (h : C5 w b t x0 x1 x2 x3 x4) {g o : Nat} (hg : b ≠ g) (y : Value) : C5 (w.setCell ⟨g, o, none⟩ y) b t x0 x1 x2 x3 x4 := (Below.heap_setCell w ⟨g, o, none⟩ y b hg).trans h
theorem C5.lt (h : C5 w b t x0 x1 x2 x3 x4) : b < w.heap.size := (Array.getElem?_eq_some_iff.1 h).1
theorem C5.kp {F : Nat → Prop} (h : C5 w b t x0 x1 x2 x3 x4) (hk : Kp F w w') (hF : ¬ F b) : C5 w' b t x0 x1 x2 x3 x4 := hk.at h hF
theorem C5.below (h : C5 w b t x0 x1 x2 x3 x4) (hb : Below w.heap.size w w') : C5 w' b t x0 x1 x2 x3 x4 := (hb.block b h.lt).trans h
theorem C5.grown {row : Option Nat} (h : C5 w b t x0 x1 x2 x3 x4) (hg : w.grownBy w' row) (hb : some b ≠ row) : C5 w' b t x0 x1 x2 x3 x4 := (hg.block b h.lt hb).trans h
theorem C5.new (w : World) (t : TypeId) (x0 x1 x2 x3 x4 : Value) : C5 (w.alloc (.cells #[x0, x1, x2, x3, x4] t)) w.heap.size t x0 x1 x2 x3 x4 := heap_alloc_new w _
theorem C5.alloc (h : C5 w b t x0 x1 x2 x3 x4) (o : Obj) : C5 (w.alloc o) b t x0 x1 x2 x3 x4 := (Below.heap_alloc w o b h.lt).trans h
theorem C5.drew (h : C5 w b t x0 x1 x2 x3 x4) : C5 w.drew b t x0 x1 x2 x3 x4 := h
end

def C6 (w : World) (b : Nat) (t : TypeId) (x0 x1 x2 x3 x4 x5 : Value) : Prop := w.heap[b]? = some (.cells #[x0, x1, x2, x3, x4, x5] t (0, 0))
section
variable {w w' : World} {b : Nat} {t : TypeId} {x0 x1 x2 x3 x4 x5 : Value}
theorem C6.c0 (h : C6 w b t x0 x1 x2 x3 x4 x5) : w.cell? ⟨b, 0, none⟩ = some x0 := by simpa using cell_of_row w b 0 _ _ (0, 0) h
theorem C6.c1 (h : C6 w b t x0 x1 x2 x3 x4 x5) : w.cell? ⟨b, 1, none⟩ = some x1 := by simpa using cell_of_row w b 1 _ _ (0, 0) h
theorem C6.c2 (h : C6 w b t x0 x1 x2 x3 x4 x5) : w.cell? ⟨b, 2, none⟩ = some x2 := by simpa using cell_of_row w b 2 _ _ (0, 0) h
theorem C6.c3 (h : C6 w b t x0 x1 x2 x3 x4 x5) : w.cell? ⟨b, 3, none⟩ = some x3 := by simpa using cell_of_row w b 3 _ _ (0, 0) h
theorem C6.c4 (h : C6 w b t x0 x1 x2 x3 x4 x5) : w.cell? ⟨b, 4, none⟩ = some x4 := by simpa using cell_of_row w b 4 _ _ (0, 0) h
theorem C6.c5 (h : C6 w b t x0 x1 x2 x3 x4 x5) : w.cell? ⟨b, 5, none⟩ = some x5 := by simpa using cell_of_row w b 5 _ _ (0, 0) h
theorem C6.fz (h : C6 w b t x0 x1 x2 x3 x4 x5) (i : Nat) : w.frozen? ⟨b, i, none⟩ = false := frozen_of_row w b i _ _ h
theorem C6.all (h : C6 w b t x0 x1 x2 x3 x4 x5) : w.cell? ⟨b, 0, none⟩ = some x0 ∧ w.cell? ⟨b, 1, none⟩ = some x1 ∧ w.cell? ⟨b, 2, none⟩ = some x2 ∧ w.cell? ⟨b, 3, none⟩ = some x3 ∧ w.cell? ⟨b, 4, none⟩ = some x4 ∧ w.cell? ⟨b, 5, none⟩ = some x5 ∧ w.frozen? ⟨b, 0, none⟩ = false ∧ w.frozen? ⟨b, 1, none⟩ = false ∧ w.frozen? ⟨b, 2, none⟩ = false ∧ w.frozen? ⟨b, 3, none⟩ = false ∧ w.frozen? ⟨b, 4, none⟩ = false ∧ w.frozen? ⟨b, 5, none⟩ = false :=
  ⟨h.c0, h.c1, h.c2, h.c3, h.c4, h.c5, h.fz 0, h.fz 1, h.fz 2, h.fz 3, h.fz 4, h.fz 5⟩
theorem C6.set0 (h : C6 w b t x0 x1 x2 x3 x4 x5) (y : Value) : C6 (w.setCell ⟨b, 0, none⟩ y) b t y x1 x2 x3 x4 x5 := by
  have := heap_setCell_same w b 0 _ _ y h
  simpa [C6] using this
theorem C6.set1 (h : C6 w b t x0 x1 x2 x3 x4 x5) (y : Value) : C6 (w.setCell ⟨b, 1, none⟩ y) b t x0 y x2 x3 x4 x5 := by
  have := heap_setCell_same w b 1 _ _ y h
  simpa [C6] using this
theorem C6.set2 (h : C6 w b t x0 x1 x2 x3 x4 x5) (y : Value) : C6 (w.setCell ⟨b, 2, none⟩ y) b t x0 x1 y x3 x4 x5 := by
  have := heap_setCell_same w b 2 _ _ y h
  simpa [C6] using this
theorem C6.set3 (h : C6 w b t x0 x1 x2 x3 x4 x5) (y : Value) : C6 (w.setCell ⟨b, 3, none⟩ y) b t x0 x1 x2 y x4 x5 := by
  have := heap_setCell_same w b 3 _ _ y h
  simpa [C6] using this
theorem C6.set4 (h : C6 w b t x0 x1 x2 x3 x4 x5) (y : Value) : C6 (w.setCell ⟨b, 4, none⟩ y) b t x0 x1 x2 x3 y x5 := by
  have := heap_setCell_same w b 4 _ _ y h
  simpa [C6] using this
theorem C6.set5 (h : C6 w b t x0 x1 x2 x3 x4 x5) (y : Value) : C6 (w.setCell ⟨b, 5, none⟩ y) b t x0 x1 x2 x3 x4 y := by
  have := heap_setCell_same w b 5 _ _ y h
  simpa [C6] using this
theorem C6.other (h : C6 w b t x0 x1 x2 x3 x4 x5) {g o : Nat} (hg : b ≠ g) (y : Value) : C6 (w.setCell ⟨g, o, none⟩ y) b t x0 x1 x2 x3 x4 x5 := (Below.heap_setCell w ⟨g, o, none⟩ y b hg).trans h
theorem C6.lt (h : C6 w b t x0 x1 x2 x3 x4 x5) : b < w.heap.size := (Array.getElem?_eq_some_iff.1 h).1
theorem C6.kp {F : Nat → Prop} (h : C6 w b t x0 x1 x2 x3 x4 x5) (hk : Kp F w w') (hF : ¬ F b) : C6 w' b t x0 x1 x2 x3 x4 x5 := hk.at h hF
theorem C6.below (h : C6 w b t x0 x1 x2 x3 x4 x5) (hb : Below w.heap.size w w') : C6 w' b t x0 x1 x2 x3 x4 x5 := (hb.block b h.lt).trans h
theorem C6.grown {row : Option Nat} (h : C6 w b t x0 x1 x2 x3 x4 x5) (hg : w.grownBy w' row) (hb : some b ≠ row) : C6 w' b t x0 x1 x2 x3 x4 x5 := (hg.block b h.lt hb).trans h
theorem C6.new (w : World) (t : TypeId) (x0 x1 x2 x3 x4 x5 : Value) : C6 (w.alloc (.cells #[x0, x1, x2, x3, x4, x5] t)) w.heap.size t x0 x1 x2 x3 x4 x5 := heap_alloc_new w _
theorem C6.alloc (h : C6 w b t x0 x1 x2 x3 x4 x5) (o : Obj) : C6 (w.alloc o) b t x0 x1 x2 x3 x4 x5 := (Below.heap_alloc w o b h.lt).trans h
theorem C6.drew (h : C6 w b t x0 x1 x2 x3 x4 x5) : C6 w.drew b t x0 x1 x2 x3 x4 x5 := h
end

end Go.Proofs.YtkkfhbcnfknmaaaGreat
