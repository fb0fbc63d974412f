import PyProof.Rows.All
import Wide.All
import OpenK.AllK
import Wide.FinOn
import HandS.ForMost
import HandS.IsInst
import HandS.Zip
import HandS.TupAny
import HandS.Wide
import HandS.More
import HandS.Walk
import HandS.RaiseMore
import HandS.Flow
import HandS.Conv
import HandS.MakeKwOnly
import PySem.Challenge.RW_overlapcode_k07_least_sums_by_plain_addi
set_option Elab.async false
set_option linter.all false
set_option maxRecDepth 100000
set_option maxHeartbeats 4000000
/-! Sums of lengths: the mathematics -/
namespace Ov
/-- a sum of the lengths -/
inductive Sum (ls : List Nat) : Nat → Prop
  | zero : Sum ls 0
  | add {l s : Nat} : l ∈ ls → Sum ls s → Sum ls (s + l)

theorem Sum.mono {ls ks : List Nat} (h : ∀ l ∈ ls, l ∈ ks) {s : Nat} (a : Sum ls s) : Sum ks s := by
  induction a with
  | zero => exact .zero
  | add hl _ ih => exact .add (h _ hl) ih

theorem Sum.plus {ls : List Nat} {s t : Nat} (a : Sum ls s) (b : Sum ls t) : Sum ls (s + t) := by
  induction b with
  | zero => exact a
  | add hl _ ih => rw [← Nat.add_assoc]; exact .add hl ih

theorem Sum.times {ls : List Nat} {l : Nat} (h : l ∈ ls) : ∀ (j : Nat), Sum ls (j * l)
  | 0 => by rw [Nat.zero_mul]; exact .zero
  | j + 1 => by rw [Nat.succ_mul]; exact .add h (Sum.times h j)

theorem Sum.step {ls : List Nat} {w : Nat} : Sum ls w ↔ w = 0 ∨ ∃ l ∈ ls, l ≤ w ∧ Sum ls (w - l) := by
  constructor
  · intro a
    cases a with
    | zero => exact .inl rfl
    | @add l s hl hs => exact .inr ⟨l, hl, Nat.le_add_left _ _, by rw [Nat.add_sub_cancel]; exact hs⟩
  · rintro (rfl | ⟨l, hl, hw, hs⟩)
    · exact .zero
    · have := Sum.add hl hs
      rwa [Nat.sub_add_cancel hw] at this

/-- one more length: a sum of the others and so many of it -/
theorem Sum.snoc {ls : List Nat} {L s : Nat} : Sum (ls ++ [L]) s ↔ ∃ j t, Sum ls t ∧ s = t + j * L := by
  constructor
  · intro a
    induction a with
    | zero => exact ⟨0, 0, .zero, by simp⟩
    | @add l s hl _ ih =>
      obtain ⟨j, t, ht, rfl⟩ := ih
      rcases List.mem_append.mp hl with h | h
      · exact ⟨j, t + l, .add h ht, by omega⟩
      · have : l = L := by simpa using h
        subst this
        exact ⟨j + 1, t, ht, by rw [Nat.succ_mul]; omega⟩
  · rintro ⟨j, t, ht, rfl⟩
    exact (ht.mono fun l h => List.mem_append_left _ h).plus (Sum.times (List.mem_append_right _ (List.mem_singleton.mpr rfl)) j)

theorem Sum.single {m s : Nat} : Sum [m] s ↔ ∃ j, s = j * m := by
  have := @Sum.snoc [] m s
  rw [List.nil_append] at this
  rw [this]
  constructor
  · rintro ⟨j, t, ht, rfl⟩
    have : t = 0 := by
      cases ht with
      | zero => rfl
      | add h _ => cases h
    exact ⟨j, by omega⟩
  · rintro ⟨j, rfl⟩
    exact ⟨j, 0, .zero, by omega⟩

/-! ### least sums by remainder -/
/-- a is at most b, where none is above all -/
def leO (a b : Option Nat) : Prop := ∀ y, b = some y → ∃ x, a = some x ∧ x ≤ y
theorem leO.rfl {a : Option Nat} : leO a a := fun y h => ⟨y, h, Nat.le_refl _⟩
theorem leO.trans {a b c : Option Nat} (h : leO a b) (k : leO b c) : leO a c := fun z hz => by
  obtain ⟨y, hy, hyz⟩ := k z hz
  obtain ⟨x, hx, hxy⟩ := h y hy
  exact ⟨x, hx, Nat.le_trans hxy hyz⟩
def leL (a b : List (Option Nat)) : Prop := a.length = b.length ∧ ∀ r, leO (a.getD r none) (b.getD r none)
theorem leL.rfl {a : List (Option Nat)} : leL a a := ⟨_root_.rfl, fun _ => leO.rfl⟩
theorem leL.trans {a b c : List (Option Nat)} (h : leL a b) (k : leL b c) : leL a c := ⟨h.1.trans k.1, fun r => (h.2 r).trans (k.2 r)⟩

/-- one step of the walk: what is reached at r, and the length, at the remainder that follows -/
def relax (L r f : Nat) (a : List (Option Nat)) : List (Option Nat) :=
  match a.getD r none with
  | none => a
  | some x => match a.getD f none with
    | none => a.set f (some (x + L))
    | some y => if x + L < y then a.set f (some (x + L)) else a

theorem getD_set {α : Type} (a : List α) (f r : Nat) (v d : α) : (a.set f v).getD r d = if f = r ∧ r < a.length then v else a.getD r d := by
  simp only [List.getD_eq_getElem?_getD, List.getElem?_set]
  by_cases h : f = r
  · subst h
    by_cases h2 : f < a.length
    · simp [h2]
    · simp [h2, List.getElem?_eq_none (Nat.le_of_not_lt h2)]
  · simp [h]

theorem relax_len (L r f : Nat) (a : List (Option Nat)) : (relax L r f a).length = a.length := by
  unfold relax
  split
  · rfl
  · split
    · simp
    · split <;> simp

theorem relax_le (L r f : Nat) (a : List (Option Nat)) : leL (relax L r f a) a := by
  refine ⟨relax_len .., fun q => ?_⟩
  unfold relax
  split
  · exact leO.rfl
  · rename_i x _
    split
    · rename_i hf
      rw [getD_set]
      by_cases c : f = q ∧ q < a.length
      · rw [if_pos c, ← c.1, hf]
        intro y h; cases h
      · rw [if_neg c]; exact leO.rfl
    · rename_i y hf
      split
      · rename_i hlt
        rw [getD_set]
        by_cases c : f = q ∧ q < a.length
        · rw [if_pos c, ← c.1, hf]
          intro z h
          cases h
          exact ⟨_, rfl, Nat.le_of_lt hlt⟩
        · rw [if_neg c]; exact leO.rfl
      · exact leO.rfl

theorem relax_at (L r f : Nat) (a : List (Option Nat)) (hf : f < a.length) : leO ((relax L r f a).getD f none) ((a.getD r none).map (· + L)) := by
  unfold relax
  split
  · rename_i h
    rw [h]
    intro y h; cases h
  · rename_i x h
    rw [h]
    split
    · rw [getD_set, if_pos ⟨rfl, hf⟩]
      exact leO.rfl
    · rename_i y hy
      split
      · rw [getD_set, if_pos ⟨rfl, hf⟩]
        exact leO.rfl
      · rename_i hn
        rw [hy]
        intro z hz
        have : x + L = z := Option.some.inj hz
        exact ⟨y, rfl, by omega⟩

/-- every entry is of S and has its remainder -/
def Sound (S : Nat → Prop) (m : Nat) (a : List (Option Nat)) : Prop := ∀ r x, a.getD r none = some x → S x ∧ x % m = r

theorem relax_sound {S : Nat → Prop} {m L r : Nat} {a : List (Option Nat)} (hS : ∀ x, S x → S (x + L)) (h : Sound S m a) : Sound S m (relax L r ((r + L) % m) a) := by
  have key : ∀ x, a.getD r none = some x → S (x + L) ∧ (x + L) % m = (r + L) % m := fun x hx => by
    obtain ⟨h1, h2⟩ := h r x hx
    refine ⟨hS x h1, ?_⟩
    rw [← h2, Nat.add_mod (x % m), Nat.mod_mod, ← Nat.add_mod]
  intro q z hz
  unfold relax at hz
  split at hz
  · exact h q z hz
  · rename_i x hx
    obtain ⟨k1, k2⟩ := key x hx
    split at hz
    · rw [getD_set] at hz
      by_cases c : (r + L) % m = q ∧ q < a.length
      · rw [if_pos c] at hz
        cases hz
        exact ⟨k1, k2.trans c.1⟩
      · rw [if_neg c] at hz; exact h q z hz
    · split at hz
      · rw [getD_set] at hz
        by_cases c : (r + L) % m = q ∧ q < a.length
        · rw [if_pos c] at hz
          cases hz
          exact ⟨k1, k2.trans c.1⟩
        · rw [if_neg c] at hz; exact h q z hz
      · exact h q z hz

/-- so many steps from r on: the list, and where the walk stands -/
def steps (L m : Nat) : Nat → Nat → List (Option Nat) → List (Option Nat) × Nat
  | 0, r, a => (a, r)
  | t + 1, r, a => let q := steps L m t r a; (relax L q.2 ((q.2 + L) % m) q.1, (q.2 + L) % m)

theorem steps_at (L m : Nat) (r : Nat) (a : List (Option Nat)) (hr : r < m) : ∀ t, (steps L m t r a).2 = (r + t * L) % m
  | 0 => by simp [steps, Nat.mod_eq_of_lt hr]
  | t + 1 => by
    show ((steps L m t r a).2 + L) % m = _
    rw [steps_at L m r a hr t, Nat.add_mod ((r + t * L) % m), Nat.mod_mod, ← Nat.add_mod, Nat.succ_mul, Nat.add_assoc]

theorem steps_le (L m : Nat) (r : Nat) (a : List (Option Nat)) : ∀ t, leL (steps L m t r a).1 a
  | 0 => leL.rfl
  | t + 1 => (relax_le ..).trans (steps_le L m r a t)

theorem steps_le' (L m : Nat) (r : Nat) (a : List (Option Nat)) (t : Nat) : ∀ d, leL (steps L m (t + d) r a).1 (steps L m t r a).1
  | 0 => leL.rfl
  | d + 1 => (relax_le ..).trans (steps_le' L m r a t d)

theorem steps_sound {S : Nat → Prop} {m L : Nat} {r : Nat} {a : List (Option Nat)} (hS : ∀ x, S x → S (x + L)) (h : Sound S m a) : ∀ t, Sound S m (steps L m t r a).1
  | 0 => h
  | t + 1 => relax_sound hS (steps_sound hS h t)

/-- what stands at the p-th place goes j steps on -/
theorem steps_far {L m : Nat} {r : Nat} {a : List (Option Nat)} (hm : 0 < m) (hl : a.length = m) (hr : r < m) (p : Nat) {y : Nat} (hy : a.getD ((r + p * L) % m) none = some y) :
    ∀ j, ∃ x, ((steps L m (p + j) r a).1).getD ((r + (p + j) * L) % m) none = some x ∧ x ≤ y + j * L
  | 0 => by
    obtain ⟨x, hx, hxy⟩ := (steps_le L m r a p).2 _ y hy
    exact ⟨x, hx, by omega⟩
  | j + 1 => by
    obtain ⟨x, hx, hxy⟩ := steps_far hm hl hr p hy j
    have hp := steps_at L m r a hr (p + j)
    have hlen : (steps L m (p + j) r a).1.length = m := (steps_le L m r a (p + j)).1.trans hl
    have e : (r + (p + (j + 1)) * L) % m = ((steps L m (p + j) r a).2 + L) % m := by
      rw [hp, Nat.add_mod ((r + (p + j) * L) % m), Nat.mod_mod, ← Nat.add_mod, ← Nat.add_assoc p j 1, Nat.succ_mul, Nat.add_assoc]
    rw [e]
    show ∃ x', (relax L (steps L m (p + j) r a).2 (((steps L m (p + j) r a).2 + L) % m) (steps L m (p + j) r a).1).getD _ none = some x' ∧ _
    have := relax_at L (steps L m (p + j) r a).2 (((steps L m (p + j) r a).2 + L) % m) (steps L m (p + j) r a).1 (by rw [hlen]; exact Nat.mod_lt _ hm)
    obtain ⟨x', hx', h2⟩ := this (x + L) (by rw [hp, hx]; rfl)
    exact ⟨x', hx', by rw [Nat.succ_mul]; omega⟩

/-! ### Bezout -/
theorem bezout (a b : Nat) : ∃ x y : Int, x * a + y * b = (Nat.gcd a b : Int) := by
  induction a, b using Nat.gcd.induction with
  | H0 n => exact ⟨0, 1, by simp⟩
  | H1 m n hm ih =>
    obtain ⟨x, y, h⟩ := ih
    refine ⟨y - x * ((n / m : Nat) : Int), x, ?_⟩
    rw [Nat.gcd_rec m n, ← h]
    have e : (n : Int) = (m : Int) * ((n / m : Nat) : Int) + ((n % m : Nat) : Int) := by
      have := Nat.div_add_mod n m
      exact_mod_cast this.symm
    conv => lhs; rw [e]
    rw [Int.sub_mul, Int.mul_add, Int.mul_assoc x, Int.mul_comm (m : Int) ((n / m : Nat) : Int)]
    omega

theorem bezout_mod (m L : Nat) (hm : 0 < m) : ∃ u : Nat, (u * L) % m = Nat.gcd m L % m := by
  obtain ⟨x, y, h⟩ := bezout m L
  refine ⟨(y % m).toNat, ?_⟩
  have hm' : (m : Int) ≠ 0 := by omega
  have hy : 0 ≤ y % (m : Int) := Int.emod_nonneg _ hm'
  have e : ((((y % (m : Int)).toNat * L : Nat) : Int)) % (m : Int) = ((Nat.gcd m L : Nat) : Int) % (m : Int) := by
    rw [Int.natCast_mul, Int.toNat_of_nonneg hy, ← h, Int.mul_emod, Int.emod_emod_of_dvd _ (Int.dvd_refl _), ← Int.mul_emod, Int.add_comm, Int.add_mul_emod_self_right]
  exact_mod_cast e

/-- from the class of r the walk comes by r -/
theorem comes_by (m L r : Nat) (hm : 0 < m) (hr : r < m) : ∃ p, p < m / Nat.gcd m L ∧ (r % Nat.gcd m L + p * L) % m = r := by
  obtain ⟨u, hu⟩ := bezout_mod m L hm
  have hg : 0 < Nat.gcd m L := Nat.gcd_pos_of_pos_left _ hm
  obtain ⟨c, hc⟩ := Nat.gcd_dvd_left m L
  obtain ⟨k, hk⟩ := Nat.gcd_dvd_right m L
  generalize hgg : Nat.gcd m L = g at *
  have hcd : m / g = c := by rw [hc]; exact Nat.mul_div_cancel_left _ hg
  have hcpos : 0 < c := by
    rcases Nat.eq_zero_or_pos c with h | h
    · rw [h] at hc; omega
    · exact h
  refine ⟨(u * (r / g)) % c, by rw [hcd]; exact Nat.mod_lt _ hcpos, ?_⟩
  -- ((u (r/g)) % c) L ≡ u (r/g) L
  have e1 : ((u * (r / g)) % c * L) % m = (u * (r / g) * L) % m := by
    have d := Nat.div_add_mod (u * (r / g)) c
    have : u * (r / g) * L = (u * (r / g)) % c * L + m * ((u * (r / g)) / c * k) := by
      calc u * (r / g) * L = (c * (u * (r / g) / c) + u * (r / g) % c) * L := by rw [d]
        _ = (u * (r / g)) % c * L + c * (u * (r / g) / c) * L := by rw [Nat.add_mul, Nat.add_comm]
        _ = (u * (r / g)) % c * L + m * ((u * (r / g)) / c * k) := by
          congr 1
          conv => lhs; rw [hk]
          conv => rhs; rw [hc]
          simp only [Nat.mul_comm, Nat.mul_left_comm]
    rw [this, Nat.add_mul_mod_self_left]
  have e2 : (u * (r / g) * L) % m = (g * (r / g)) % m := by
    rw [Nat.mul_right_comm, Nat.mul_mod, hu, ← Nat.mul_mod]
  rw [Nat.add_mod, e1, e2, ← Nat.add_mod, Nat.mod_add_div, Nat.mod_eq_of_lt hr]
end Ov
namespace Ov
/-- the walks from the first k places, one behind another -/
def walks (L m T : Nat) : Nat → List (Option Nat) → List (Option Nat)
  | 0, a => a
  | k + 1, a => (steps L m T k (walks L m T k a)).1
def withLen (L : Nat) (a : List (Option Nat)) : List (Option Nat) :=
  walks L a.length (2 * (a.length / Nat.gcd a.length L)) (Nat.gcd a.length L) a

theorem walks_le (L m T : Nat) (a : List (Option Nat)) : ∀ k, leL (walks L m T k a) a
  | 0 => leL.rfl
  | k + 1 => (steps_le ..).trans (walks_le L m T a k)
theorem walks_le' (L m T : Nat) (a : List (Option Nat)) (k : Nat) : ∀ d, leL (walks L m T (k + d) a) (walks L m T k a)
  | 0 => leL.rfl
  | d + 1 => (steps_le ..).trans (walks_le' L m T a k d)
theorem walks_sound {S : Nat → Prop} {m L T : Nat} {a : List (Option Nat)} (hS : ∀ x, S x → S (x + L)) (h : Sound S m a) : ∀ k, Sound S m (walks L m T k a)
  | 0 => h
  | k + 1 => steps_sound hS (walks_sound hS h k) T

theorem withLen_len (L : Nat) (a : List (Option Nat)) : (withLen L a).length = a.length := (walks_le ..).1

/-- what stands at r goes j steps on, j less than a whole round -/
theorem withLen_far {L : Nat} {a : List (Option Nat)} (hm : 0 < a.length) {r y j : Nat} (hr : r < a.length) (hy : a.getD r none = some y) (hj : j < a.length / Nat.gcd a.length L) :
    ∃ x, (withLen L a).getD ((r + j * L) % a.length) none = some x ∧ x ≤ y + j * L := by
  obtain ⟨p, hp, e⟩ := comes_by a.length L r hm hr
  have hg : 0 < Nat.gcd a.length L := Nat.gcd_pos_of_pos_left _ hm
  unfold withLen
  generalize hT : 2 * (a.length / Nat.gcd a.length L) = T
  have hk : r % Nat.gcd a.length L < Nat.gcd a.length L := Nat.mod_lt _ hg
  generalize hk0 : r % Nat.gcd a.length L = k at *
  obtain ⟨d, hd⟩ : ∃ d, Nat.gcd a.length L = (k + 1) + d := ⟨Nat.gcd a.length L - (k + 1), by omega⟩
  have hkm : k < a.length := Nat.lt_of_lt_of_le hk (Nat.le_of_dvd hm (Nat.gcd_dvd_left _ _))
  have hb : (walks L a.length T k a).length = a.length := (walks_le ..).1
  obtain ⟨y', hy', hle⟩ := (walks_le L a.length T a k).2 r y hy
  obtain ⟨x, hx, hxy⟩ := steps_far (L := L) (m := a.length) (r := k) (a := walks L a.length T k a) hm hb hkm p (y := y') (by rw [e]; exact hy') j
  have ej : (k + (p + j) * L) % a.length = (r + j * L) % a.length := by
    rw [Nat.add_mul, ← Nat.add_assoc, Nat.add_mod, e]
    conv => rhs; rw [Nat.add_mod, Nat.mod_eq_of_lt hr]
  rw [ej] at hx
  have l1 := steps_le' L a.length k (walks L a.length T k a) (p + j) (T - (p + j))
  rw [show p + j + (T - (p + j)) = T by omega] at l1
  have l2 := walks_le' L a.length T a (k + 1) d
  rw [← hd] at l2
  obtain ⟨x2, h2, h2'⟩ := (l2.trans l1).2 _ x hx
  exact ⟨x2, h2, by omega⟩

/-- a list tells the least members of S by their remainders -/
structure Rep (S : Nat → Prop) (a : List (Option Nat)) : Prop where
  pos : 0 < a.length
  sound : Sound S a.length a
  least : ∀ s, S s → ∃ x, a.getD (s % a.length) none = some x ∧ x ≤ s

theorem Rep.one {m : Nat} (hm : 0 < m) : Rep (Sum [m]) (some 0 :: List.replicate (m - 1) none) := by
  have hl : (some 0 :: List.replicate (m - 1) (none : Option Nat)).length = m := by simp; omega
  refine ⟨by simp, fun r x h => ?_, fun s hs => ?_⟩
  · rw [hl]
    cases r with
    | zero =>
      have : some 0 = some x := h
      cases this
      exact ⟨.zero, Nat.zero_mod _⟩
    | succ r =>
      exfalso
      rw [List.getD_eq_getElem?_getD, List.getElem?_cons_succ, List.getElem?_replicate] at h
      split at h <;> simp at h
  · obtain ⟨j, rfl⟩ := Sum.single.mp hs
    rw [hl, Nat.mul_mod_left]
    exact ⟨0, rfl, Nat.zero_le _⟩

theorem Rep.more {ls : List Nat} {L m : Nat} {a : List (Option Nat)} (h : Rep (Sum ls) a) (hm : a.length = m) (hin : m ∈ ls) : Rep (Sum (ls ++ [L])) (withLen L a) := by
  have hl := withLen_len L a
  have hp := h.pos
  refine ⟨by rw [hl]; exact hp, ?_, fun s hs => ?_⟩
  · rw [hl]
    refine walks_sound (fun x hx => .add (List.mem_append_right _ (List.mem_singleton.mpr rfl)) hx) (fun r x e => ?_) _
    obtain ⟨h1, h2⟩ := h.sound r x e
    exact ⟨h1.mono fun l hl => List.mem_append_left _ hl, h2⟩
  · rw [hl]
    obtain ⟨j, t, ht, rfl⟩ := Sum.snoc.mp hs
    -- less than a whole round of L's
    have hg : 0 < Nat.gcd a.length L := Nat.gcd_pos_of_pos_left _ hp
    obtain ⟨c, hc⟩ := Nat.gcd_dvd_left a.length L
    obtain ⟨k, hk⟩ := Nat.gcd_dvd_right a.length L
    have hcd : a.length / Nat.gcd a.length L = c := by
      generalize Nat.gcd a.length L = g at *
      rw [hc]
      exact Nat.mul_div_cancel_left _ hg
    have hcpos : 0 < c := by
      rcases Nat.eq_zero_or_pos c with h | h
      · rw [h] at hc; omega
      · exact h
    have ecL : c * L = k * a.length := by
      generalize Nat.gcd a.length L = g at *
      rw [hk, hc]
      simp only [Nat.mul_comm, Nat.mul_left_comm]
    have e : t + j * L = (t + (j / c * k) * a.length) + (j % c) * L := by
      have d := Nat.div_add_mod j c
      calc t + j * L = t + (c * (j / c) + j % c) * L := by rw [d]
        _ = t + (j / c * (c * L) + j % c * L) := by
          rw [Nat.add_mul]; congr 2; rw [Nat.mul_comm c, Nat.mul_assoc]
        _ = _ := by rw [ecL]; rw [Nat.mul_assoc]; omega
    have ht' : Sum ls (t + (j / c * k) * a.length) := ht.plus (by rw [hm]; exact Sum.times hin _)
    obtain ⟨y, hy, hyt⟩ := h.least _ ht'
    obtain ⟨x, hx, hxy⟩ := withLen_far (L := L) hp (Nat.mod_lt _ hp) hy (j := j % c) (by rw [hcd]; exact Nat.mod_lt _ hcpos)
    refine ⟨x, ?_, by rw [e]; omega⟩
    rw [e]
    rw [Nat.add_mod, Nat.mod_mod, ← Nat.add_mod] at hx
    exact hx

/-- the least sums of lengths -/
def leasts : List Nat → List (Option Nat)
  | [] => []
  | m :: ls => ls.foldl (fun a L => withLen L a) (some 0 :: List.replicate (m - 1) none)

theorem fold_rep : ∀ (ls pre : List Nat) (a : List (Option Nat)) (m : Nat), Rep (Sum pre) a → a.length = m → m ∈ pre → Rep (Sum (pre ++ ls)) (ls.foldl (fun a L => withLen L a) a) ∧ (ls.foldl (fun a L => withLen L a) a).length = m
  | [], pre, a, m, h, hm, _ => by simpa using ⟨h, hm⟩
  | L :: ls, pre, a, m, h, hm, hin => by
    have := fold_rep ls (pre ++ [L]) (withLen L a) m (h.more hm hin) ((withLen_len L a).trans hm) (List.mem_append_left _ hin)
    rw [List.append_assoc] at this
    exact this

theorem leasts_rep {m : Nat} (hm : 0 < m) (ls : List Nat) : Rep (Sum (m :: ls)) (leasts (m :: ls)) ∧ (leasts (m :: ls)).length = m :=
  fold_rep ls [m] _ m (Rep.one hm) (by simp; omega) (List.mem_singleton.mpr rfl)

/-- whether a total is a sum, by the least sums -/
def reached (a : List (Option Nat)) (t : Nat) : Bool :=
  if a.length = 0 then t == 0 else match a.getD (t % a.length) none with
    | none => false
    | some x => decide (x ≤ t)

theorem Rep.iff {S : Nat → Prop} {a : List (Option Nat)} (h : Rep S a) (hc : ∀ x, S x → S (x + a.length)) (t : Nat) : reached a t = true ↔ S t := by
  unfold reached
  rw [if_neg (by have := h.pos; omega)]
  have many : ∀ (k x : Nat), S x → S (x + k * a.length) := by
    intro k
    induction k with
    | zero => intro x hx; simpa using hx
    | succ k ih => intro x hx; rw [Nat.succ_mul, ← Nat.add_assoc]; exact hc _ (ih x hx)
  constructor
  · intro e
    split at e
    · cases e
    · rename_i x hx
      obtain ⟨h1, h2⟩ := h.sound _ x hx
      have hle : x ≤ t := of_decide_eq_true e
      have : t = x + (t / a.length - x / a.length) * a.length := by
        have d1 := Nat.div_add_mod t a.length
        have d2 := Nat.div_add_mod x a.length
        rw [h2] at d2
        have hd : x / a.length ≤ t / a.length := Nat.div_le_div_right hle
        rw [Nat.sub_mul, Nat.mul_comm (t / a.length), Nat.mul_comm (x / a.length)]
        have : a.length * (x / a.length) ≤ a.length * (t / a.length) := Nat.mul_le_mul_left _ hd
        omega
      rw [this]
      exact many _ _ h1
  · intro hs
    obtain ⟨x, hx, hxt⟩ := h.least t hs
    rw [hx]
    exact decide_eq_true hxt

theorem isSum_iff (ls : List Nat) (hpos : ∀ l ∈ ls, 0 < l) (t : Nat) : reached (leasts ls) t = true ↔ Sum ls t := by
  cases ls with
  | nil =>
    show (t == 0) = true ↔ _
    constructor
    · intro h
      have : t = 0 := by simpa using h
      rw [this]; exact .zero
    · intro h
      cases h with
      | zero => rfl
      | add h _ => cases h
  | cons m ls =>
    have hm : 0 < m := hpos m List.mem_cons_self
    obtain ⟨h, hl⟩ := leasts_rep hm ls
    exact h.iff (fun x hx => by rw [hl]; exact .add List.mem_cons_self hx) t
end Ov
/-! Least sums: how great they are, and how they are found one by one; the greatest common divisor -/
namespace Ov
theorem countP_le {α : Type} {p q : α → Bool} : ∀ {l : List α}, (∀ x ∈ l, p x = true → q x = true) → l.countP p ≤ l.countP q
  | [], _ => Nat.le_refl _
  | x :: l, h => by
    have ih := countP_le (l := l) fun y hy => h y (List.mem_cons_of_mem _ hy)
    have hx := h x List.mem_cons_self
    rw [List.countP_cons, List.countP_cons]
    cases hp : p x
    · simp only [Bool.false_eq_true, if_false]
      omega
    · rw [hx hp]; omega
theorem countP_lt {α : Type} {p q : α → Bool} : ∀ {l : List α} (x : α), x ∈ l → p x = false → q x = true → (∀ x ∈ l, p x = true → q x = true) → l.countP p < l.countP q
  | [], _, hx, _, _, _ => by cases hx
  | y :: l, x, hx, h1, h2, h => by
    rw [List.countP_cons, List.countP_cons]
    have hy := h y List.mem_cons_self
    rcases List.mem_cons.mp hx with e | hx
    · subst e
      have ih := countP_le (l := l) fun y hy => h y (List.mem_cons_of_mem _ hy)
      rw [h1, h2]
      simp only [Bool.false_eq_true, if_false, if_true]
      omega
    · have ih := countP_lt x hx h1 h2 fun y hy => h y (List.mem_cons_of_mem _ hy)
      cases hp : p y
      · simp only [Bool.false_eq_true, if_false]
        omega
      · rw [hy hp]; omega
/-- an entry below x -/
def below (x : Nat) : Option Nat → Bool
  | some y => decide (y < x)
  | none => false
theorem mem_of_getD {a : List (Option Nat)} {r x : Nat} (h : a.getD r none = some x) : some x ∈ a := by
  rw [List.getD_eq_getElem?_getD] at h
  cases e : a[r]? with
  | none => rw [e] at h; cases h
  | some o =>
    rw [e] at h
    have : o = some x := h
    rw [← this]
    exact List.mem_of_getElem? e
theorem rank_bound {ls : List Nat} {a : List (Option Nat)} (h : Rep (Sum ls) a) {M : Nat} (hM : ∀ l ∈ ls, 0 < l ∧ l ≤ M) : ∀ (x r : Nat), a.getD r none = some x → x ≤ a.countP (below x) * M := by
  intro x
  induction x using Nat.strongRecOn with
  | ind x ih =>
    intro r hr
    rcases Nat.eq_zero_or_pos x with h0 | h0
    · omega
    obtain ⟨sx, rx⟩ := h.sound r x hr
    rcases Sum.step.mp sx with h1 | ⟨l, hl, hlx, sy⟩
    · omega
    obtain ⟨l0, lM⟩ := hM l hl
    obtain ⟨z, hz, hzy⟩ := h.least _ sy
    obtain ⟨sz, rz⟩ := h.sound _ z hz
    have ezy : z = x - l := by
      rcases Nat.lt_or_ge z (x - l) with c | c
      · exfalso
        obtain ⟨x', hx', hle⟩ := h.least (z + l) (.add hl sz)
        have em : (z + l) % a.length = r := by
          rw [Nat.add_mod, rz, ← Nat.add_mod, Nat.sub_add_cancel hlx, rx]
        rw [em, hr] at hx'
        have : x = x' := Option.some.inj hx'
        omega
      · omega
    subst ezy
    have hy := ih (x - l) (by omega) _ hz
    have hlt : a.countP (below (x - l)) < a.countP (below x) := by
      refine countP_lt (some (x - l)) (mem_of_getD hz) ?_ ?_ ?_
      · exact decide_eq_false (Nat.lt_irrefl _)
      · exact decide_eq_true (by omega)
      · intro o _ ho
        cases o with
        | none => cases ho
        | some y =>
          have := of_decide_eq_true ho
          exact decide_eq_true (by omega)
    have := Nat.mul_le_mul_right M (Nat.succ_le_of_lt hlt)
    rw [Nat.succ_mul] at this
    omega
theorem least_le {ls : List Nat} {a : List (Option Nat)} (h : Rep (Sum ls) a) {M : Nat} (hM : ∀ l ∈ ls, 0 < l ∧ l ≤ M) {x r : Nat} (hr : a.getD r none = some x) : x ≤ (a.length - 1) * M := by
  have h1 := rank_bound h hM x r hr
  have h2 : a.countP (below x) < a.length := by
    have : a.countP (below x) < a.countP (fun _ => true) := countP_lt (some x) (mem_of_getD hr) (decide_eq_false (Nat.lt_irrefl _)) rfl fun _ _ _ => rfl
    rwa [List.countP_true] at this
  exact Nat.le_trans h1 (Nat.mul_le_mul_right M (by omega))
/-! ### found one by one -/
def cutO (i : Nat) : Option Nat → Option Nat
  | some x => if x < i then some x else none
  | none => none
theorem cutO_lt {i x : Nat} (h : x < i) : cutO i (some x) = some x := if_pos h
theorem cutO_ge {i x : Nat} (h : ¬ x < i) : cutO i (some x) = none := if_neg h
def seen (i : Nat) (a : List (Option Nat)) : List (Option Nat) := a.map (cutO i)
theorem seen_len (i : Nat) (a : List (Option Nat)) : (seen i a).length = a.length := List.length_map ..
theorem seen_zero (a : List (Option Nat)) : seen 0 a = List.replicate a.length none := by
  unfold seen
  rw [List.eq_replicate_iff]
  refine ⟨List.length_map .., fun o ho => ?_⟩
  obtain ⟨x, _, rfl⟩ := List.mem_map.mp ho
  cases x with
  | none => rfl
  | some x => exact cutO_ge (Nat.not_lt_zero _)
theorem seen_at (i : Nat) (a : List (Option Nat)) (r : Nat) : (seen i a).getD r none = cutO i (a.getD r none) := by
  unfold seen
  rw [List.getD_eq_getElem?_getD, List.getD_eq_getElem?_getD, List.getElem?_map]
  cases a[r]? <;> rfl
theorem ext_getD {a b : List (Option Nat)} (hl : a.length = b.length) (h : ∀ r, r < a.length → a.getD r none = b.getD r none) : a = b := by
  refine List.ext_getElem hl fun i h1 h2 => ?_
  have := h i h1
  rw [List.getD_eq_getElem?_getD, List.getD_eq_getElem?_getD, List.getElem?_eq_getElem h1, List.getElem?_eq_getElem h2] at this
  exact this
theorem seen_set {S : Nat → Prop} {a : List (Option Nat)} (h : Rep S a) {i : Nat} (hs : S i) (hn : (seen i a).getD (i % a.length) none = none) : (seen i a).set (i % a.length) (some i) = seen (i + 1) a := by
  obtain ⟨x, hx, hxi⟩ := h.least i hs
  rw [seen_at, hx] at hn
  have ex : x = i := by
    by_cases c : x < i
    · rw [cutO_lt c] at hn; cases hn
    · omega
  subst ex
  refine ext_getD (by rw [List.length_set, seen_len, seen_len]) fun r hr => ?_
  rw [List.length_set, seen_len] at hr
  rw [getD_set, seen_at, seen_at, seen_len]
  by_cases c : x % a.length = r
  · subst c
    rw [if_pos ⟨rfl, hr⟩, hx]
    exact (cutO_lt (Nat.lt_succ_self _)).symm
  · rw [if_neg fun z => c z.1]
    cases e : a.getD r none with
    | none => rfl
    | some y =>
      have hy := (h.sound r y e).2
      have : y ≠ x := fun z => c (by rw [← z]; exact hy)
      by_cases d : y < x
      · rw [cutO_lt d, cutO_lt (show y < x + 1 by omega)]
      · rw [cutO_ge d, cutO_ge (show ¬ y < x + 1 by omega)]
theorem seen_keep {S : Nat → Prop} {a : List (Option Nat)} (h : Rep S a) {i : Nat} (hn : S i → (seen i a).getD (i % a.length) none ≠ none) : seen i a = seen (i + 1) a := by
  refine ext_getD (by rw [seen_len, seen_len]) fun r hr => ?_
  rw [seen_at, seen_at]
  cases e : a.getD r none with
  | none => rfl
  | some y =>
    obtain ⟨sy, ry⟩ := h.sound r y e
    have : y ≠ i := fun z => by
      subst z
      refine hn sy ?_
      rw [seen_at, ry, e]
      exact cutO_ge (Nat.lt_irrefl _)
    by_cases d : y < i
    · rw [cutO_lt d, cutO_lt (show y < i + 1 by omega)]
    · rw [cutO_ge d, cutO_ge (show ¬ y < i + 1 by omega)]
theorem seen_all {a : List (Option Nat)} {M : Nat} (h : ∀ r x, a.getD r none = some x → x ≤ M) : seen (M + 1) a = a := by
  refine ext_getD (seen_len ..) fun r hr => ?_
  rw [seen_at]
  cases e : a.getD r none with
  | none => rfl
  | some y => exact cutO_lt (Nat.lt_succ_of_le (h r y e))
/-! ### the greatest common divisor -/
def gcdAll (ls : List Nat) : Nat := ls.foldl Nat.gcd 0
theorem foldl_gcd_dvd : ∀ (ls : List Nat) (g : Nat), ls.foldl Nat.gcd g ∣ g ∧ ∀ l ∈ ls, ls.foldl Nat.gcd g ∣ l
  | [], g => ⟨Nat.dvd_refl _, (fun _ h => nomatch h)⟩
  | l :: ls, g => by
    obtain ⟨h1, h2⟩ := foldl_gcd_dvd ls (Nat.gcd g l)
    refine ⟨Nat.dvd_trans h1 (Nat.gcd_dvd_left g l), fun x hx => ?_⟩
    rcases List.mem_cons.mp hx with rfl | hx
    · exact Nat.dvd_trans h1 (Nat.gcd_dvd_right _ _)
    · exact h2 x hx
theorem dvd_foldl_gcd {d : Nat} : ∀ (ls : List Nat) (g : Nat), d ∣ g → (∀ l ∈ ls, d ∣ l) → d ∣ ls.foldl Nat.gcd g
  | [], g, h, _ => h
  | l :: ls, g, h, k => dvd_foldl_gcd ls (Nat.gcd g l) (Nat.dvd_gcd h (k l List.mem_cons_self)) fun x hx => k x (List.mem_cons_of_mem _ hx)
theorem gcdAll_dvd {ls : List Nat} {l : Nat} (h : l ∈ ls) : gcdAll ls ∣ l := (foldl_gcd_dvd ls 0).2 l h
theorem dvd_gcdAll {ls : List Nat} {d : Nat} (h : ∀ l ∈ ls, d ∣ l) : d ∣ gcdAll ls := dvd_foldl_gcd ls 0 (Nat.dvd_zero d) h
/-- those below n that pass, where the greatest that passes is g -/
theorem filter_top {p : Nat → Bool} {g : Nat} (hg : p g = true) (hno : ∀ i, g < i → p i = false) : ∀ n, g < n → (List.range n).filter p = (List.range g).filter p ++ [g]
  | 0, h => by omega
  | n + 1, h => by
    rw [List.range_succ, List.filter_append]
    by_cases e : g = n
    · subst e
      rw [List.filter_cons, hg]
      rfl
    · rw [filter_top hg hno n (by omega), List.filter_cons, hno n (by omega)]
      simp
end Ov
namespace Ov
open PySem PySem.Spec PyProof.Rows L2
/-! ### heaps -/
theorem same_upd {H : Hp} {p : Addr} {o : HO} (h : H p = none) : Same H (upd H p o) := fun b x e => by
  rw [upd_ne (ne_of_none e h)]
  exact e
theorem _root_.L2.Same.tup {K : PySem.W.Frag} {H H' : Hp} {a : Addr} {xs : List V} (e : Same H H') (h : SqT K H a xs) : SqT K H' a xs := by
  rcases h with (h | ⟨o, h⟩) | h
  · exact .inl (.inl (e _ _ h))
  · exact .inl (.inr ⟨o, e _ _ h⟩)
  · exact .inr h
/-- a new list in the making at D: all that stood before stands, D is new and holds acc -/
structure Mk (H H' : Hp) (D : Addr) (acc : List V) : Prop where
  same : Same H H'
  new : H D = none
  at_ : H' D = some (.lst acc)
theorem Mk.start {H : Hp} {D : Addr} (h : H D = none) : Mk H (upd H D (.lst [])) D [] := ⟨same_upd h, h, upd_same⟩
theorem Mk.put {H H' H4 : Hp} {D : Addr} {acc acc' : List V} (m : Mk H H' D acc) (s : Same H' H4) : Mk H (upd H4 D (.lst acc')) D acc' :=
  ⟨fun b o e => by rw [upd_ne (ne_of_none e m.new)]; exact s _ _ (m.same _ _ e), m.new, upd_same⟩
/-- two tuples walked abreast -/
theorem walk_zipT {K : PySem.W.Frag} {a b : Addr} {xs ys : List V} {n : Nat} (hn : n = min xs.length ys.length) : Walk (RZ.ItzT K a b) n (fun H => SqT K H a xs ∧ SqT K H b ys) (YPair (fun i => xs[i]?) (fun i => ys[i]?)) := by
  subst hn
  refine ⟨fun i _ hi q => ?_, fun _ q => ⟨xs, ys, q.1, q.2, by omega⟩, fun i H v H' _ q y => ?_⟩
  · have h1 : i < xs.length := by omega
    have h2 : i < ys.length := by omega
    exact ⟨xs, ys, xs[i], ys[i], q.1, q.2, by simp [h1], by simp [h2]⟩
  · obtain ⟨T, x, z, h1, h2, h3, h4, h5⟩ := y
    exact ⟨T, x, z, h1, h2, h3, h4 xs q.1, h5 ys q.2⟩
theorem cut1 (xs : List V) : cutV xs (some 1) none = xs.drop 1 := by
  unfold cutV
  rw [show HT.sIx xs.length 0 (some 1) = min 1 xs.length from HT.sIx_nat xs.length 0 1, HT.sIx_none]
  cases xs with
  | nil => rfl
  | cons x r =>
    rw [show min 1 (x :: r).length = 1 by
      rw [List.length_cons]
      omega]
    show (List.take ((x :: r).length - 1) r) = r
    rw [List.length_cons, Nat.add_sub_cancel]
    exact List.take_length
theorem cut1_whole {xs : List V} (h : HT.sIx xs.length 0 (some 1) = 0 ∧ HT.sIx xs.length xs.length none = xs.length) : xs = [] := by
  have h1 := h.1
  rw [show HT.sIx xs.length 0 (some 1) = min 1 xs.length from HT.sIx_nat xs.length 0 1] at h1
  cases xs with
  | nil => rfl
  | cons x r => rw [List.length_cons] at h1; omega
/-! ### targets: two names -/
theorem pg_two {X : Cx} {x y : Str} {p1 p2 pos : Pos} {kk i j : Nat} (hc : X.calm = true) (hN : X.N.Nodup) (hi : X.N[i]? = some x) (hx : Loc X.env.scope x) (hfx : X.fn x = true ∨ X.env.scope.names.lookup x = some .local) (hj : X.N[j]? = some y) (hy : Loc X.env.scope y) (hfy : X.fn y = true ∨ X.env.scope.names.lookup y = some .local) :
    PG X (.Tuple [.Name x p1, .Name y p2] kk pos) (gTup X.K 2 (gCons (gName i) (gCons (gName j) gNil))) :=
  pg_tup hc (pgs_cons (pg_name hN hi hx hfx) (pgs_cons (pg_name hN hj hy hfy) pgs_nil))
/-! ### repr of a bool, a call by keywords alone -/
section
variable {X : Cx}
def boolText (b : Bool) : Str := if b then "True" else "False"
theorem call_repr_bool : CallR X (.builtin "repr") (fun xs H Q => ∃ b, xs = [.bl b] ∧ Q (.str (boolText b)) H) := by
  intro pins s σ H xs us Q I r h
  obtain ⟨b, rfl, q⟩ := h
  obtain ⟨u, rfl, rx⟩ := vals1 r
  cases (show u = Value.bool b from rx)
  exact PySem.P.repr_of_bool ⟨.str _, H, I.tok _, ⟨_, rfl⟩, q⟩
theorem boolText_inj {a b : Bool} : boolText a = boolText b ↔ a = b := by
  cases a <;> cases b <;> decide
variable {k : Nat} {f : Addr} {fd : FuncData} {ps ks : List Str} {sp : Sp} {CX : CXT} {E : XK} {x : Str} {p pos : Pos} {kws : List PySem.Keyword} {tk : TA} {g : List Value → List Value → List Value} {gV : List V → List V → List V}
theorem pe_callK0 (F : FnOk X.prog X.w X.K X.mg X.base CX k f fd ps sp) (hr : Room k X.A) (hg : Gl X x) (hm : X.mg x = some (.ref f)) (hk : PySem.W.keepIn X.K (.ref f) = true) (hb : KBinds X.K fd ps ks g gV) (hx : Passes CX X E)
    (hkw : PK X kws tk) (hall : (backToKw pos (keywordEach kws X.env)).all (·.1.isSome) = true := by rfl) (hks : (backToKw pos (keywordEach kws X.env)).filterMap (·.1) = ks := by rfl)
    (hdb : (x == ("__debug__" : Str)) = false := by decide)
    (hpl : ((backTo pos (starEach [] X.env)).any (·.1) || (backToKw pos (keywordEach kws X.env)).any (·.1.isNone)) = false := by rfl) :
    PE X (.Call (.Name x p) [] kws pos) (tCallK sp gV E tNil tk) := by
  refine ⟨fun pins s σ H Q I h => ?_⟩
  refine wpAny_Call_Name_kw (ld_glob I hg hm ?_ hdb)
  refine PySem.W.callWith_KW0 (h₀ := X.base) I.ok.mod.kin hk hall ?_ hpl
  refine thn (hkw.run pos pins s σ H _ I h) fun ws s2 ⟨zs, H2, I2, rz, q2⟩ => ⟨I2.kIn, ?_⟩
  rw [hks]
  exact run_fnk F hr hb hx I2 .nil rz q2
end
/-- two values by keywords, in the other order -/
def swap2 {α : Type} : List α → List α → List α
  | [], [a, b] => [b, a]
  | _, _ => []
theorem swap2_len {α : Type} {us ws : List α} (h : (swap2 us ws).length = 2) : ∃ a b, us = [] ∧ ws = [a, b] := by
  match us, ws, h with
  | [], [a, b], _ => exact ⟨a, b, rfl, rfl⟩
  | [], [], h => cases h
  | [], [_], h => cases h
  | [], _ :: _ :: _ :: _, h => cases h
  | _ :: _, _, h => cases h
theorem swap2_rel {vs : List V} {us : List Value} {zs : List V} {ws : List Value} (r : Vals vs us) (rz : Vals zs ws) : Vals (swap2 vs zs) (swap2 us ws) := by
  cases r with
  | nil =>
    cases rz with
    | nil => exact .nil
    | cons r1 rz =>
      cases rz with
      | nil => exact .nil
      | cons r2 rz =>
        cases rz with
        | nil => exact .cons r2 (.cons r1 .nil)
        | cons r3 rz => exact .nil
  | cons r1 r => exact .nil
/-- the built-in names that the text leaves alone -/
structure Bi (mg : Str → Option Value) : Prop where
  isi : mg "isinstance" = none
  int : mg "int" = none
  bool : mg "bool" = none
  tuple : mg "tuple" = none
  list : mg "list" = none
  all : mg "all" = none
  any : mg "any" = none
  zip : mg "zip" = none
  len : mg "len" = none
  range : mg "range" = none
  abs : mg "abs" = none
  sorted : mg "sorted" = none
  min : mg "min" = none
  repr : mg "repr" = none
  max : mg "max" = none
  sum : mg "sum" = none
  enumerate : mg "enumerate" = none
  str : mg "str" = none
  set : mg "set" = none
  dict : mg "dict" = none
  vErr : mg "ValueError" = none
end Ov
namespace Ov
open PySem PySem.Spec PyProof.Rows L2
/-! ### defs that are called where no repr is under way: what they show of lists and tuples is then known -/
/-- the promise of a def, for calls under no guard -/
structure FnG (P : Program) (w : World) (K : PySem.W.Frag) (mg : Str → Option Value) (base : Heap) (k : Nat) (f : Addr) (fd : FuncData) (ps : List Str) (sp : Sp) : Prop where
  len : ∀ vs H Q E, sp vs H Q E → vs.length = ps.length
  run : ∀ (A : Around) (outer : List Env) (s : Shared) (H : Hp) (args : Args) (us : List Value) (vs : List V) (Q : VK) (E : XK),
    A.guards = some [] → Room k A → Env0 P w K mg base A outer s H → BindsTo s fd args (ps.zip us) → Vals vs us → sp vs H Q E →
    codeAny (model P w) A (.call (.ref f) args) (CR CX0 outer P w H s Q E) s
section
variable {P : Program} {w : World} {K : PySem.W.Frag} {mg : Str → Option Value} {base : Heap}
theorem okG {x qual : Str} {st : Stmt} {f : Addr} {fd : FuncData} {N ps : List Str} {k : Nat} {sp : Sp} (F : Fun K x qual st f fd) (S : FnScope N ps (defScope st)) (len : ∀ vs H Q E, sp vs H Q E → vs.length = ps.length)
    (body : ∀ (cdv : Value) (A : Around) (outer : List Env) (s : Shared) (H : Hp) (vs : List V) (Q : VK) (E : XK), A.guards = some [] → Room k (A.deeper (envOfC qual (defScope st) s.heap.objs.size f cdv)) → sp vs H Q E →
      ∃ t, PSs (cxOf CX0 P w K mg base N qual (defScope st) f cdv A outer s H E).nox (defBody st) t ∧ t { nx := fun _ H' => Q .non H', rt := Q } (start N vs) H) :
    FnG P w K mg base (k + 1) f fd ps sp := by
  obtain ⟨oc, od, kV, doc, pm, an, cdv, ct, osl, rfl, lk, hcd⟩ := F.ex
  constructor
  · exact len
  intro A outer s H args us vs Q E gd room env bnd rel pr
  obtain ⟨t, walk, reads⟩ := body cdv A outer s H vs Q E gd (room.deeper _) pr
  have down : ∀ b o, base.get? b = some o → s.heap.get? b = some o := fun b o e => (env.bs b o e).1
  have kin := env.mod.kin.keeps down
  have kinds : ∀ y ∈ ps.zip us, (defScope st).names.lookup y.1 = some .local ∨ ((defScope st).names.lookup y.1 = some .cell ∧ ((cellsFrom (s.heap.objs.size + 1) (defScope st).names []).lookup y.1).isSome = true) := by
    rintro ⟨y, v⟩ hy
    have hm := (List.of_mem_zip hy).1
    exact (S.par y hm).imp id fun q => ⟨q, PySem.W.cellsFrom_some _ _ _ (.inl q)⟩
  refine codeAny_call_function room.depth (kin _ _ lk) rfl S.co S.gen rfl (PySem.W.codeRec_of kin hcd) (bnd _ _ _ _ (wpAny_newFunctionEnv_cells S.kind kinds ?_))
  rintro env' rfl s1 ic
  refine ⟨(env.mod.nolimit.keeps down).keeps ic.toInCall.keep, codeAny_func (wpAny_mono (walk.nox.run [] s1 (start N vs) H _ (inv_start S room.hd env (len _ _ _ _ pr) rel ic) reads) ?_ fun _ _ h => h)⟩
  intro fl s' h
  cases fl with
  | brk => obtain ⟨_, _, _, q⟩ := h; exact q.elim
  | cont => obtain ⟨_, _, _, q⟩ := h; exact q.elim
  | next => obtain ⟨_, H', J, q⟩ := h; exact ⟨.non, H', J.os, J.bare, J.base, J.hok, rfl, q⟩
  | ret u => obtain ⟨v, _, H', J, rv, q⟩ := h; exact ⟨v, H', J.os, J.bare, J.base, J.hok, rv, q⟩
/-- a def that keeps its promise anywhere keeps it there -/
theorem FnG.of {k : Nat} {f : Addr} {fd : FuncData} {ps : List Str} {sp : Sp} (F : FnOk P w K mg base CX0 k f fd ps sp) : FnG P w K mg base k f fd ps sp :=
  ⟨F.len, fun A outer s H args us vs Q E _ => F.run A outer s H args us vs Q E⟩
end
section
variable {X : Cx} {k : Nat} {f : Addr} {fd : FuncData} {ps : List Str} {sp : Sp} {x : Str} {p pos : Pos} {e : Expr} {es : List Expr} {t : TA} {ds : List Value} {dvs : List V}
/-- such a def called by its name -/
theorem pe_callG (F : FnG X.prog X.w X.K X.mg X.base k f fd ps sp) (gd : X.A.guards = some []) (room : Room k X.A) (hg : Gl X x) (hm : X.mg x = some (.ref f)) (hk : PySem.W.keepIn X.K (.ref f) = true) (bi : Binds X.K fd ps [])
    (ha : PA X (e :: es) t) (hdb : (x == ("__debug__" : Str)) = false := by decide) (he : starEach (e :: es) X.env = (false, eval e X.env) :: starEach es X.env := by rfl) (hpl : (backTo pos (starEach es X.env)).any (·.1) = false := by rfl) :
    PE X (.Call (.Name x p) (e :: es) [] pos) (tCall sp [] E0 t) := by
  constructor
  intro pins s σ H Q I h
  refine wpAny_Call_Name_kw (ld_glob I hg hm (PySem.W.callWith_K (h₀ := X.base) I.ok.mod.kin hk (thn (ha.run pos pins s σ H _ I h) ?_) he hpl) hdb)
  rintro us s1 ⟨vs, H1, I1, r, q⟩
  have pr : sp vs H1 Q E0 := by
    have z : sp (vs ++ []) H1 Q E0 := q
    rwa [List.append_nil] at z
  have hl : us.length = ps.length := by rw [← r.length]; exact F.len _ _ _ _ pr
  have bt := bi s1 us I1.kIn (by simpa using hl)
  rw [List.append_nil] at bt
  refine ⟨I1.kIn, wpAny_call (codeAny_mono (F.run X.A X.stack s1 H1 ⟨us, []⟩ us vs Q E0 gd room I1.env0 bt r pr) ?_)⟩
  intro rs s' hq
  match rs, hq with
  | .error e, hq => exact (show False from hq).elim
  | .ok (.ret u), hq => exact I1.after hq
  | .ok .next, hq => exact (show False from hq).elim
  | .ok .brk, hq => exact (show False from hq).elim
  | .ok .cont, hq => exact (show False from hq).elim
/-- what is shown of lists and tuples of any depth -/
theorem call_repr_data (gd : X.A.guards = some []) (room : Room k X.A) : CallR X (.builtin "repr") (fun xs H Q => ∃ a d, xs = [.ref a] ∧ Dp X.K H (.ref a) d ∧ d.showable = true ∧ d.hasDict = false ∧ d.depth ≤ 60 ∧ d.shown.length ≤ sizeLine ∧ Q (.str d.shown) H) := by
  intro pins s σ H xs us Q I r h
  obtain ⟨a, d, rfl, hd, sh, nod, dep, sz, q⟩ := h
  obtain ⟨u, rfl, rx⟩ := vals1 r
  cases (show u = Value.ref a from rx)
  obtain ⟨as, rd⟩ := Dp.reads I d _ _ hd rx
  have un := room.un
  refine repr_of_reads' (h₀ := s.heap) rd sh (fun z => by rw [nod] at z; cases z) gd (by omega) (fun _ _ e => e) ?_ sz
  intro h' u tk kp
  exact ⟨.str d.shown, H, I.kept (t' := tk) kp, ⟨u, rfl⟩, q⟩
end
end Ov
namespace Ov
open PySem PySem.Spec PyProof.Rows L2
/-- the law's call, from its promise under no guard -/
theorem callG {P : Program} {w : World} {K : PySem.W.Frag} {mg mb : Str → Option Value} {k : Nat} {fa a : Addr} {fd : FuncData} {x : Str} {sp : Sp} {s : Shared} {vs : List Value} {ns : List Int}
    (KX : K.In s.heap) (hns : s.heap.Ns mainGlobals mg) (hb : s.heap.Ns builtinsNs mb) (hbb : ∀ x : Str, x ≠ "__name__" → mb x = bootBuiltins x) (hlim : s.heap.NoLimit) (hg : s.gens = #[])
    (ha : s.heap.get? a = some { cls := .type "list", data := .seq vs.toArray }) (hi : IntsAre vs ns) (hl : ns.length ≤ sizeLine) (room : Room k callerA)
    (F : ∀ base : Heap, K.In base → base.Ns mainGlobals mg → FnG P w K mg base k fa fd [x] sp) (bind : ∀ (s : Shared) (u : Value), BindsTo s fd ⟨[u], []⟩ [(x, u)])
    (pr : ∀ H : Hp, SqL K H a (ns.map V.int) → sp [.ref a] H (fun v _ => v = .bl true) fun _ _ _ => False) :
    codeAny (model P w) callerA (.call (.ref fa) ⟨[.ref a], []⟩) (fun r s' => r = .ok (.ret (.bool true)) ∧ OldK s.heap s'.heap ∧ s'.os = s.os ∧ AllBare s'.gens) s := by
  have rv : Vals (ns.map V.int) vs := vals_ints hi
  -- what is tracked: the script, unless it is the module's own
  obtain ⟨H, seq, hok, only, sep, froz⟩ : ∃ H : Hp, SqL K H a (ns.map V.int) ∧ HOk P w H s.heap ∧ (∀ b, H b ≠ none → b = a) ∧ (H a ≠ none → K.lookup a = none) ∧ (∀ b u, H b = some u → ∃ o xs, u = .frz o (.lst xs)) := by
    cases hk : K.lookup a with
    | some o =>
      have e : o = { cls := .type "list", data := .seq vs.toArray } := Option.some.inj ((KX a o hk).symm.trans ha)
      subst e
      exact ⟨fun _ => none, .inr ⟨_, vs.toArray, _, hk, rfl, rfl, rfl, by rw [List.size_toArray, hi.length]; exact hl, by simpa using rv⟩, (fun _ _ z => nomatch z), (fun _ z => absurd rfl z), (fun z => absurd rfl z), (fun _ _ z => nomatch z)⟩
    | none =>
      refine ⟨fun b => if b = a then some (.frz { cls := .type "list", data := .seq vs.toArray } (.lst (ns.map V.int))) else none, .inl (.inr ⟨_, if_pos rfl⟩), ?_, ?_, fun _ => rfl, ?_⟩
      · intro b u z
        by_cases e : b = a
        · subst e
          have z' : HO.frz { cls := .type "list", data := .seq vs.toArray } (.lst (ns.map V.int)) = u := Option.some.inj ((if_pos rfl).symm.trans z)
          subst z'
          exact ⟨ha, by rw [List.length_map]; exact hl, vs, _, rv, ha⟩
        · exact absurd ((if_neg e).symm.trans z) (fun y => nomatch y)
      · intro b z
        by_cases e : b = a
        · exact e
        · exact absurd (if_neg e) z
      · intro b u z
        by_cases e : b = a
        · exact ⟨_, _, (Option.some.inj ((if_pos e).symm.trans z)).symm⟩
        · exact absurd ((if_neg e).symm.trans z) (fun y => nomatch y)
  -- the base: all the rest
  have rest : ∀ {b : Addr} {o : Obj}, s.heap.get? b = some o → H b = none → (hidT s.heap H).get? b = some o := fun e n => hidT_get e n
  have gone : ∀ {b : Addr}, b ≠ a → H b = none := fun {b} n => by
    cases z : H b with
    | none => rfl
    | some u => exact absurd (only b (by rw [z]; exact fun y => nomatch y)) n
  have spaces : ∀ {b : Addr} {m : Str → Option Value}, s.heap.Ns b m → (hidT s.heap H).Ns b m := by
    rintro b m ⟨o, es, ep, e, d, r⟩
    refine ⟨o, es, ep, rest e (gone ?_), d, r⟩
    rintro rfl
    have eo : o = { cls := .type "list", data := .seq vs.toArray } := Option.some.inj (e.symm.trans ha)
    rw [eo] at d
    cases (show Data.seq vs.toArray _ = Data.dict es ep from d)
  have kin : K.In (hidT s.heap H) := fun b o e => rest (KX b o e) (by
    cases z : H b with
    | none => rfl
    | some u =>
      have eb := only b (by rw [z]; exact fun y => nomatch y)
      subst eb
      rw [sep (by rw [z]; exact fun y => nomatch y)] at e
      cases e)
  obtain ⟨mc, lim1, lim2⟩ := hlim
  have env : Env0 P w K mg (hidT s.heap H) callerA [] s H :=
    ⟨rfl, ⟨kin, spaces hns, ⟨mb, spaces hb, hbb⟩, ⟨mc, spaces lim1, lim2⟩⟩, fun b o e => of_hidT e, Nat.le_of_eq (hidT_size _ _), trivial, fun b hb => absurd (show b ∈ ([] : List Addr) from hb) (by simp), hok, .of_eq hg⟩
  refine codeAny_mono ((F _ kin (spaces hns)).run callerA [] s H ⟨[.ref a], []⟩ [.ref a] [.ref a] _ _ rfl room env (bind s (.ref a)) (.cons rfl .nil) (pr H seq)) ?_
  intro r s' h
  match r, h with
  | .error e, h => exact (show False from h).elim
  | .ok .next, h => exact (show False from h).elim
  | .ok .brk, h => exact (show False from h).elim
  | .ok .cont, h => exact (show False from h).elim
  | .ok (.ret u), ⟨v, H', os, bare, un, hok', rel, q⟩ =>
    have ev : v = .bl true := q
    subst ev
    obtain rfl : u = Value.bool true := rel
    refine ⟨rfl, OldK.of_keep fun b o e => ?_, os, bare⟩
    cases z : H b with
    | none => exact un.keep b o e z (fun y => absurd (show b ∈ ([] : List Addr) from y) (by simp)) (by simp)
    | some u =>
      obtain ⟨ob, xs, rfl⟩ := froz b u z
      have h1 := (hok b _ z).1
      have h2 := (hok' b _ (un.frzs b ob _ z)).1
      have eo : o = ob := Option.some.inj (e.symm.trans h1)
      rw [eo]
      exact h2
theorem walkG {l : PySem.W.OpenLaw} {n k : Nat} {q : Program} {loose : List Str} {XP : (Str → Option Value) → Heap → Prop} {YP : World → Heap → Prop} {d : DefRec} {K : Params → PySem.W.Frag} {sp : PySem.W.Frag → Sp} {x : Str}
    (hn : l.most = some n) (hn2 : n ≤ sizeLine) (hdf : d.params.defaults = []) (room : Room k callerA) (hY : ∀ (w : World) (h : Heap), YP w h → (K w.params).In h)
    (F : ∀ (w : World) (mg : Str → Option Value) (fa : Addr) (h : Heap), (K w.params).In h → h.Ns mainGlobals mg → mg d.name = some (.ref fa) →
      ∃ fd : FuncData, (∀ (s : Shared) (u : Value), BindsTo s fd ⟨[u], []⟩ [(x, u)]) ∧ ∀ base : Heap, (K w.params).In base → base.Ns mainGlobals mg → FnG l.prog w (K w.params) mg base k fa fd [x] (sp (K w.params)))
    (pr : ∀ (K : PySem.W.Frag) (H : Hp) (a : Addr) (ns : List Int), ns.length ≤ n → SqL K H a (ns.map V.int) → sp K [.ref a] H (fun v _ => v = .bl true) fun _ _ _ => False) :
    PySem.W.WalkO q loose XP YP l.row.toRowW d [] (fun f vs => PySem.call f vs) := by
  refine Att.attach_call hn hdf ?_
  intro w s₀ s₁ mg mb fa o pm cd doc a vs ns G Y ho hd hcd hmg hobj hints hlen hg
  have kin := hY w _ Y
  obtain ⟨fd, bind, okF⟩ := F w mg fa _ kin G.T.g hmg
  exact callG kin G.T.g G.T.b G.T.builtins G.T.nolimit hg hobj hints (Nat.le_trans hlen hn2) room okF bind fun H seq => pr (K w.params) H a ns hlen seq
end Ov
namespace Ov
open PySem PySem.Spec PyProof.Rows L2
/-! ### how long a shown value may be -/
mutual
def nodes : PyData → Nat
  | .str x => 1 + (reprText x).length
  | .list xs => 1 + nodesAll xs
  | .tuple xs => 1 + nodesAll xs
  | .none => 1
  | .bool _ => 1
  | .int _ => 1
  | .dict kvs => 1 + (dictText (PyData.shownKv kvs)).length
def nodesAll : List PyData → Nat
  | [] => 0
  | x :: xs => nodes x + nodesAll xs
end
theorem strLen0 : (Str.ofString "None").length = 4 := by decide +kernel
theorem listText_le (ts : List Str) : (listText ts).length ≤ piled ts + 2 := by
  rw [listText_eq_join, strLen_append, strLen_append]
  have a : (Str.ofString "[").length = 1 := by decide +kernel
  have b : (Str.ofString "]").length = 1 := by decide +kernel
  cases ts with
  | nil =>
    have : (Str.join (Str.ofString ", ") []).length = 0 := by decide +kernel
    rw [a, b, this]; omega
  | cons t ts =>
    have := join_length_add (t :: ts) (List.cons_ne_nil _ _)
    rw [a, b]; omega
theorem tupleText_le (ts : List Str) : (tupleText ts).length ≤ piled ts + 3 := by
  unfold tupleText
  rw [strLen_append, strLen_append]
  have a : (Str.ofString "(").length = 1 := by decide +kernel
  have b : (Str.ofString (if (ts.length == 1) = true then ",)" else ")" : String)).length ≤ 2 := by
    by_cases h : (ts.length == 1) = true
    · rw [if_pos h]; decide +kernel
    · rw [if_neg h]; decide +kernel
  cases ts with
  | nil =>
    have : (Str.join (Str.ofString ", ") []).length = 0 := by decide +kernel
    rw [a, this]
    exact Nat.le_trans (Nat.add_le_add_left b _) (by omega)
  | cons t ts =>
    have := join_length_add (t :: ts) (List.cons_ne_nil _ _)
    rw [a]
    omega
mutual
theorem shown_le : ∀ d : PyData, d.showable = true → d.shown.length + 10 ≤ 2000 * nodes d
  | .none, _ => by
    simp only [PyData.shown, nodes]
    rw [strLen0]; decide
  | .bool b, _ => by
    simp only [PyData.shown, nodes]
    cases b <;> decide +kernel
  | .int i, h => by
    simp only [PyData.shown, nodes]
    have := int_text_len_1921 (i := i) (by simpa [PyData.showable] using h)
    omega
  | .str x, _ => by
    simp only [PyData.shown, nodes]
    omega
  | .list xs, h => by
    simp only [PyData.shown, nodes]
    have := shownAll_le xs (by simpa [PyData.showable] using h)
    have := listText_le (PyData.shownAll xs)
    omega
  | .tuple xs, h => by
    simp only [PyData.shown, nodes]
    have := shownAll_le xs (by simpa [PyData.showable] using h)
    have := tupleText_le (PyData.shownAll xs)
    omega
  | .dict kvs, _ => by
    simp only [PyData.shown, nodes]
    omega
theorem shownAll_le : ∀ xs : List PyData, PyData.showableAll xs = true → piled (PyData.shownAll xs) ≤ 2000 * nodesAll xs
  | [], _ => by
    simp only [PyData.shownAll, nodesAll]
    decide +kernel
  | x :: xs, h => by
    have h' : x.showable = true ∧ PyData.showableAll xs = true := by simpa [PyData.showableAll] using h
    have h1 := shown_le x h'.1
    have h2 := shownAll_le xs h'.2
    simp only [PyData.shownAll, nodesAll]
    rw [piled_cons]
    omega
end
theorem fits_shown {d : PyData} (h : d.showable = true) (n : nodes d ≤ 8000) : d.shown.length ≤ sizeLine := by
  have := shown_le d h
  rw [sizeLine_eq]
  omega
/-! ### ints and least sums as data -/
theorem dp_ints {K : PySem.W.Frag} {H : Hp} : ∀ ns : List Int, DpAll K H (ns.map V.int) (ns.map PyData.int)
  | [] => .nil
  | n :: ns => .cons (.int n) (dp_ints ns)
/-- a plain value: None, a bool, an int that is not too great to be shown -/
inductive Sc : PyData → Prop
  | non : Sc .none
  | bl (b : Bool) : Sc (.bool b)
  | int (i : Int) (h : i.natAbs.log2 < 1920) : Sc (.int i)
theorem Sc.small {i : Int} (h : i.natAbs < 2 ^ 1000) : Sc (.int i) := by
  refine .int i ?_
  by_cases e : i.natAbs = 0
  · rw [e]; decide
  · exact Nat.lt_of_lt_of_le ((Nat.log2_lt e).mpr h) (by decide)
structure Flat (ds : List PyData) : Prop where
  lay : PyData.canLayAll0 ds = true
  dep : PyData.depthAll ds = 0
  sh : PyData.showableAll ds = true
  nod : PyData.hasDictAll ds = false
  nds : nodesAll ds = ds.length
theorem flat_of : ∀ {ds : List PyData}, (∀ d ∈ ds, Sc d) → Flat ds
  | [], _ => ⟨by simp [PyData.canLayAll0], by simp [PyData.depthAll], by simp [PyData.showableAll], by simp [PyData.hasDictAll], by simp [nodesAll]⟩
  | d :: ds, h => by
    obtain ⟨h1, h2, h3, h4, h5⟩ := flat_of (ds := ds) fun x hx => h x (List.mem_cons_of_mem _ hx)
    have hd := h d List.mem_cons_self
    refine ⟨?_, ?_, ?_, ?_, ?_⟩
    · cases hd <;> simp [PyData.canLayAll0, PyData.canLay0, h1]
    · cases hd <;> simp [PyData.depthAll, PyData.depth, h2]
    · cases hd <;> simp_all [PyData.showableAll, PyData.showable]
    · cases hd <;> simp [PyData.hasDictAll, PyData.hasDict, h4]
    · cases hd <;> simp [nodesAll, nodes, h5] <;> omega
theorem shaped_tup {ds : List PyData} (f : Flat ds) : SeqAt.shaped (.tuple ds) = true := by
  unfold SeqAt.shaped
  simp [PyData.canLay0, PyData.depth, f.lay, f.dep]
theorem shaped_lst {ds : List PyData} (f : Flat ds) : SeqAt.shaped (.list ds) = true := by
  unfold SeqAt.shaped
  simp [PyData.canLay0, PyData.depth, f.lay, f.dep]
theorem flat_ints {ns : List Int} (h : ∀ n ∈ ns, n.natAbs < 2 ^ 1000) : Flat (ns.map PyData.int) := flat_of fun d hd => by
  obtain ⟨n, hn, rfl⟩ := List.mem_map.mp hd
  exact .small (h n hn)
theorem eqv_nil : ∀ ds : List PyData, PyData.eqv (.tuple ds) (.tuple []) = ds.isEmpty
  | [] => by simp [PyData.eqv, PyData.eqvAll]
  | d :: ds => by simp [PyData.eqv, PyData.eqvAll]
end Ov
namespace Ov
open PySem PySem.Spec PyProof.Rows L2
def top (i : Nat) : Stmt := PySem.Challenge.pw_overlapcode_k07_least_sums_by_plain_addi.main.body.getD i (.Pass ⟨0, 0, 0, 0⟩)
abbrev sIsInt : Stmt := top 1
abbrev sBetween : Stmt := top 2
abbrev sAscending : Stmt := top 3
abbrev cOverlapError : Stmt := top 5
abbrev cInvalidLengths : Stmt := top 6
abbrev sCommon : Stmt := top 10
abbrev sLeast : Stmt := top 11
abbrev sCheck : Stmt := top 12
abbrev sAre : Stmt := top 13
abbrev sGcd : Stmt := top 14
abbrev sWith : Stmt := top 15
abbrev sBox : Stmt := top 17
abbrev sTake : Stmt := top 18
abbrev sOf : Stmt := top 19
abbrev sDrawn : Stmt := top 20
abbrev sLLeast : Stmt := top 21
abbrev sLDivisor : Stmt := top 22
abbrev sLaw : Stmt := top 23
end Ov
namespace Ov
open PySem PySem.Spec PyProof.Rows L2
section
variable {P : Program} {w : World} {K : PySem.W.Frag} {mg : Str → Option Value} {base : Heap}
/-- where a def stands, and that its name tells it -/
structure Def (K : PySem.W.Frag) (mg : Str → Option Value) (x : Str) (st : Stmt) (f : Addr) (fd : FuncData) (ps : List Str) : Prop where
  fn : Fun K x x st f fd
  gl : mg x = some (.ref f)
  bi : Binds K fd ps []
/-! ### is_integer, is_integer_between -/
def spIsInt : Sp := fun vs H Q _ => ∃ (v : Int), vs = [.int v] ∧ Q (.bl true) H
theorem scIsInt : FnScope ["value"] ["value"] (defScope sIsInt) := ⟨rfl, rfl, rfl, by decide +kernel, rfl, by decide +kernel, by decide +kernel⟩
theorem ok_isInt {f : Addr} {fd : FuncData} {k : Nat} (F : Fun K "is_integer" "is_integer" sIsInt f fd) (T : Bi mg) : FnOk P w K mg base CX0 (k + 1) f fd ["value"] spIsInt := by
  refine F.ok scIsInt (fun vs H Q E h => ?_) (fun cdv A outer s H vs Q E hr h => ?_)
  · obtain ⟨v, rfl, _⟩ := h
    rfl
  · obtain ⟨v, rfl, q⟩ := h
    refine ⟨_, pss_one (ps_ret (pe_and (pe_callB call_isi (by rfl) T.isi (by decide +kernel) (pa_cons (pv 0) (pa_cons (pe_bltn (v := .ty "int") (u := .type "int") (by rfl) T.int (by decide +kernel) rfl) pa_nil)))
      (pe_one (pe_not (pe_callB call_isi (by rfl) T.isi (by decide +kernel) (pa_cons (pv 0) (pa_cons (pe_bltn (v := .ty "bool") (u := .type "bool") (by rfl) T.bool (by decide +kernel) rfl) pa_nil))))))), ?_⟩
    refine ⟨_, rfl, _, _, _, _, _, rfl, .ty _, .base (.int _), kit_ty (by decide +kernel : kitB "int" "int" = some true), _, rfl, iteT ?_⟩
    exact ⟨_, rfl, _, _, _, _, _, rfl, .ty _, .base (.int _), kit_ty (by decide +kernel : kitB "int" "bool" = some false), _, rfl, q⟩
def spBetween : Sp := fun vs H Q _ => ∃ (v lo hi : Int), vs = [.int v, .int lo, .int hi] ∧ lo ≤ v ∧ v ≤ hi ∧ Q (.bl true) H
theorem scBetween : FnScope ["value", "least", "most"] ["value", "least", "most"] (defScope sBetween) := ⟨rfl, rfl, rfl, by decide +kernel, rfl, by decide +kernel, by decide +kernel⟩
theorem ok_between {f fI : Addr} {fd fdI : FuncData} {k : Nat} (F : Fun K "is_integer_between" "is_integer_between" sBetween f fd) (T : Bi mg) (I : Def K mg "is_integer" sIsInt fI fdI ["value"]) : FnOk P w K mg base CX0 (k + 2) f fd ["value", "least", "most"] spBetween := by
  have GI : FnOk P w K mg base CX0 (k + 1) fI fdI ["value"] spIsInt := ok_isInt I.fn T
  refine F.ok scBetween (fun vs H Q E h => ?_) (fun cdv A outer s H vs Q E hr h => ?_)
  · obtain ⟨v, lo, hi, rfl, _⟩ := h
    rfl
  · obtain ⟨v, lo, hi, rfl, h1, h2, q⟩ := h
    refine ⟨_, pss_one (ps_ret (pe_and (pe_call GI hr (by rfl) I.gl I.fn.kp I.bi .nil pass0 (pa_cons (pv 0) pa_nil))
        (pe_one (pe_chain op_le op_le (pv 1) (pv 0) (pv 2))))), ?_⟩
    refine ⟨_, rfl, v, rfl, _, rfl, iteT ?_⟩
    refine ⟨_, rfl, _, rfl, _, _, rfl, rfl, _, rfl, ?_⟩
    rw [decide_eq_true h1]
    refine iteT ⟨_, rfl, _, _, rfl, rfl, ?_⟩
    show Q (.bl (decide (v ≤ hi))) H
    rw [decide_eq_true h2]
    exact q
/-! ### is_ascending -/
def spAscending (K : PySem.W.Frag) : Sp := fun vs H Q _ => ∃ (a : Addr) (ns : List Int), vs = [.ref a] ∧ SqT K H a (ns.map V.int) ∧ ns.length ≤ 1000 ∧ ns.Pairwise (· < ·) ∧ ∀ H', Same H H' → Q (.bl true) H'
theorem scAscending : FnScope ["numbers", "low", "high"] ["numbers"] (defScope sAscending) := ⟨rfl, rfl, rfl, by decide +kernel, rfl, by decide +kernel, by decide +kernel⟩
theorem all_true (n : Nat) : (List.replicate n true).all id = true := by
  rw [List.all_eq_true]
  intro x hx
  exact (List.mem_replicate.mp hx).2
theorem ok_ascending {f : Addr} {fd : FuncData} {k : Nat} (F : Fun K "is_ascending" "is_ascending" sAscending f fd) (T : Bi mg) : FnOk P w K mg base CX0 (k + 1) f fd ["numbers"] (spAscending K) := by
  refine F.ok scAscending (fun vs H Q E h => ?_) (fun cdv A outer s H vs Q E hr h => ?_)
  · obtain ⟨a, ns, rfl, _⟩ := h
    rfl
  · obtain ⟨a, ns, rfl, hS, hlen, hasc, q⟩ := h
    refine ⟨_, pss_one (ps_ret (pe_callB (cr_all rfl) (by rfl) T.all (by decide +kernel) (pa_cons
      (pe_lc (own := [("low", 1), ("high", 2)]) (g := gTup K 2 (gCons (gName 1) (gCons (gName 2) gNil))) (tt := tYes) (by rfl) scAscending.nd (RZ.pi_zipA (by rfl) T.zip (pa_cons (pv 0) (pa_cons (pe_slice sl_tupA (pv 0) (po_some pe_int) po_none) pa_nil)))
        (blkOk_by (own := [("low", 1), ("high", 2)]) (N := ["numbers", "low", "high"]) (sc := defScope sAscending) (by decide +kernel))
        (fun _ _ _ _ _ => pg_tup rfl (pgs_cons (pg_name (i := 1) scAscending.nd rfl (Or.inl rfl)) (pgs_cons (pg_name (i := 2) scAscending.nd rfl (Or.inl rfl)) pgs_nil)))
        (fun _ _ _ _ _ => pts_nil) (fun _ _ _ _ _ => pe_cmpR op_lt (pv 1) (pv 2) (nomark _))) pa_nil))), ?_⟩
    -- zip(numbers, numbers[1:])
    refine ⟨_, rfl, _, rfl, 1, rfl, a, ns.map V.int, rfl, hS, fun hw => ?_, fun hw c nc => ?_⟩
    · have e0 : ns = [] := List.map_eq_nil_iff.mp (cut1_whole hw)
      subst e0
      refine ⟨a, a, [], [], rfl, .inr ⟨hS, hS, fun D nD => lc_it (walk_zipT (xs := []) (ys := []) rfl) (fun i H2 => i = 0 ∧ Mk H H2 D []) ⟨rfl, .start nD⟩ (fun i H2 _ p => ⟨p.2.same.tup hS, p.2.same.tup hS⟩) (fun i x H2 H3 hi => absurd hi (by show ¬ i < 0; omega)) (fun H2 p => ?_)⟩⟩
      exact ⟨D, [], rfl, .inl (.inl p.2.at_), q H2 p.2.same⟩
    · have s1 : Same H (upd H c (.tup (cutV (ns.map V.int) (some 1) none))) := same_upd nc
      have hc : SqT K (upd H c (.tup (cutV (ns.map V.int) (some 1) none))) c ((ns.drop 1).map V.int) := .inl (.inl (by rw [upd_same, cut1, List.map_drop]))
      refine ⟨a, c, ns.map V.int, (ns.drop 1).map V.int, rfl, .inr ⟨s1.tup hS, hc, fun D nD => lc_it (walk_zipT (xs := ns.map V.int) (ys := (ns.drop 1).map V.int) rfl)
        (fun i H2 => Mk (upd H c (.tup (cutV (ns.map V.int) (some 1) none))) H2 D ((List.replicate i true).map V.bl)) (.start nD) (fun i H2 _ p => ⟨p.same.tup (s1.tup hS), p.same.tup hc⟩) (fun i x H2 H3 hi p y => ?_) (fun H2 p => ?_)⟩⟩
      · obtain ⟨t, x1, x2, rfl, nt, rfl, f1, f2⟩ := y
        have hi' : i < min ns.length (ns.length - 1) := by simpa using hi
        have h1 : i < ns.length := by omega
        have h2 : i + 1 < ns.length := by omega
        have e1 : x1 = .int ns[i] := by
          have : (ns.map V.int)[i]? = some x1 := f1
          rw [List.getElem?_map, List.getElem?_eq_getElem h1] at this
          exact (Option.some.inj this).symm
        have e2 : x2 = .int ns[i + 1] := by
          have : ((ns.drop 1).map V.int)[i]? = some x2 := f2
          rw [List.getElem?_map, List.getElem?_drop, Nat.add_comm 1 i, List.getElem?_eq_getElem h2] at this
          exact (Option.some.inj this).symm
        have hlt : ns[i] < ns[i + 1] := List.pairwise_iff_getElem.mp hasc i (i + 1) h1 h2 (by omega)
        refine ⟨t, [x1, x2], rfl, .inl (.inl upd_same), rfl, x1, [x2], rfl, x2, [], rfl, rfl, rfl, x1, rfl, x2, rfl, _, _, e1, e2, _, (by rw [upd_ne (ne_of_none p.at_ nt)]; exact p.at_), (by rw [List.length_map, List.length_replicate]; exact small1000 (by omega)), ?_⟩
        show Mk _ (upd _ D (.lst (_ ++ [V.bl (decide (ns[i] < ns[i + 1]))]))) D _
        rw [decide_eq_true hlt, List.replicate_succ', List.map_append]
        exact p.put (same_upd nt)
      · refine ⟨D, _, rfl, .inl (.inl p.at_), ?_⟩
        rw [all_true]
        exact q H2 (s1.trans p.same)
end
end Ov
namespace Ov
open PySem PySem.Spec PyProof.Rows L2
section
variable {P : Program} {w : World} {K : PySem.W.Frag} {mg : Str → Option Value} {base : Heap}
/-- lengths that are valid -/
structure Lens (ns : List Int) : Prop where
  few : ns.length ≤ 50
  low : ∀ n ∈ ns, 1 ≤ n ∧ n ≤ 1000
  asc : ns.Pairwise (· < ·)
/-! ### are_lengths -/
def spAre : Sp := fun vs H Q _ => ∃ (a : Addr) (ns : List Int), vs = [.ref a] ∧ H a = some (.tup (ns.map V.int)) ∧ Lens ns ∧ ∀ H', Same H H' → Q (.bl true) H'
theorem scAre : FnScope ["value", "item"] ["value"] (defScope sAre) := ⟨rfl, rfl, rfl, by decide +kernel, rfl, by decide +kernel, by decide +kernel⟩
theorem ok_are {f fB fA : Addr} {fd fdB fdA : FuncData} {k : Nat} (F : Fun K "are_lengths" "are_lengths" sAre f fd) (T : Bi mg)
    (B : Def K mg "is_integer_between" sBetween fB fdB ["value", "least", "most"]) (GB : FnOk P w K mg base CX0 (k + 1) fB fdB ["value", "least", "most"] spBetween) (A : Def K mg "is_ascending" sAscending fA fdA ["numbers"]) (m1 : ∃ t, mg "MOST_LENGTHS" = some (.int 50 t)) (m2 : ∃ t, mg "GREATEST_LENGTH" = some (.int 1000 t)) :
    FnOk P w K mg base CX0 (k + 2) f fd ["value"] spAre := by
  have GA : FnOk P w K mg base CX0 (k + 1) fA fdA ["numbers"] (spAscending K) := ok_ascending A.fn T
  obtain ⟨t1, m1⟩ := m1
  obtain ⟨t2, m2⟩ := m2
  refine F.ok scAre (fun vs H Q E h => ?_) (fun cdv A' outer s H vs Q E hr h => ?_)
  · obtain ⟨a, ns, rfl, _⟩ := h
    rfl
  · obtain ⟨a, ns, rfl, hS, L, q⟩ := h
    refine ⟨_, pss_cons (ps_if (PW.pt (pw_or (pt_not (pt_val (pe_callB call_isi (by rfl) T.isi (by decide +kernel) (pa_cons (pv 0) (pa_cons (pe_bltn (v := .ty "tuple") (u := .type "tuple") (by rfl) T.tuple (by decide +kernel) rfl) pa_nil)))))
        (pw_or1 (pt_cmpR op_gt (pe_callB call_len_seq (by rfl) T.len PySem.boot_len (pa_cons (pv 0) pa_nil)) (pe_glob (v := .int 50) (by rfl) m1 ⟨_, rfl⟩) (nomark _))))) (pss_one (ps_ret pe_bl)) pss_nil)
      (pss_one (ps_ret (pe_and (pe_callB (cr_all rfl) (by rfl) T.all (by decide +kernel) (pa_cons
        (pe_lc (own := [("item", 1)]) (g := gName 1) (tt := tYes) (by rfl) scAre.nd (pi_tup (pv 0))
          (blkOk_by (own := [("item", 1)]) (N := ["value", "item"]) (sc := defScope sAre) (by decide +kernel))
          (fun _ _ _ _ _ => pg_name (i := 1) scAre.nd rfl (Or.inl rfl))
          (fun _ _ _ _ _ => pts_nil) (fun _ _ _ _ _ => pe_call GB hr (by rfl) B.gl B.fn.kp B.bi .nil pass0 (pa_cons (pv 1) (pa_cons pe_int (pa_cons (pe_glob (v := .int 1000) (by rfl) m2 ⟨_, rfl⟩) pa_nil))))) pa_nil))
        (pe_one (pe_call GA hr (by rfl) A.gl A.fn.kp A.bi .nil pass0 (pa_cons (pv 0) pa_nil)))))), ?_⟩
    refine ⟨_, rfl, _, _, _, _, _, rfl, .ty _, .base (.tup hS), kit_ty (by decide +kernel : kitB "tuple" "tuple" = some true), _, rfl, ?_⟩
    refine iteF ⟨_, rfl, a, _, rfl, .inr (SqT.of hS), _, _, rfl, rfl, _, rfl, ?_⟩
    rw [List.length_map, decide_eq_false (by have := L.few; omega)]
    refine iteF ?_
    refine ⟨_, rfl, a, rfl, ⟨_, SqT.of hS⟩, fun D nD => lc_tup (K := K) (a := a) (xs := ns.map V.int) (fun i H2 => Mk H H2 D ((List.replicate i true).map V.bl)) (.start nD) (fun i H2 _ p => p.same.tup (SqT.of hS)) ?_ ?_⟩
    · intro i x H2 hx p
      have hi : i < ns.length := by
        have := (List.getElem?_eq_some_iff.mp hx).1
        rwa [List.length_map] at this
      have ex : x = .int ns[i] := by
        rw [List.getElem?_map, List.getElem?_eq_getElem hi] at hx
        exact (Option.some.inj hx).symm
      have hb := L.low _ (List.getElem_mem hi)
      refine ⟨rfl, x, rfl, ns[i], 1, 1000, ?_, hb.1, hb.2, _, p.at_, (by rw [List.length_map, List.length_replicate]; exact small1000 (by have := L.few; omega)), ?_⟩
      · rw [ex]; rfl
      · rw [List.replicate_succ', List.map_append]
        exact p.put (Same.refl _)
    · intro H2 p
      refine ⟨D, _, rfl, SqL.of p.at_, _, rfl, ?_⟩
      rw [all_true]
      refine iteT ⟨_, rfl, a, ns, rfl, p.same.tup (SqT.of hS), by have := L.few; omega, L.asc, fun H3 s3 => q H3 (p.same.trans s3)⟩
end
end Ov
namespace Ov
open PySem PySem.Spec PyProof.Rows L2
section
variable {P : Program} {w : World} {K : PySem.W.Frag} {mg : Str → Option Value} {base : Heap}
/-! ### check_lengths -/
def spCheck : Sp := fun vs H Q _ => ∃ (a : Addr) (ns : List Int), vs = [.ref a] ∧ H a = some (.tup (ns.map V.int)) ∧ Lens ns ∧ ∀ H', Same H H' → Q .non H'
theorem scCheck : FnScope ["lengths"] ["lengths"] (defScope sCheck) := ⟨rfl, rfl, rfl, by decide +kernel, rfl, by decide +kernel, by decide +kernel⟩
theorem ok_check {f fA : Addr} {fd fdA : FuncData} {k : Nat} (F : Fun K "check_lengths" "check_lengths" sCheck f fd) (A : Def K mg "are_lengths" sAre fA fdA ["value"]) (GA : FnOk P w K mg base CX0 k fA fdA ["value"] spAre) :
    FnOk P w K mg base CX0 (k + 1) f fd ["lengths"] spCheck := by
  refine F.ok scCheck (fun vs H Q E h => ?_) (fun cdv A' outer s H vs Q E hr h => ?_)
  · obtain ⟨a, ns, rfl, _⟩ := h
    rfl
  · obtain ⟨a, ns, rfl, hS, L, q⟩ := h
    refine ⟨_, pss_one (ps_if (pt_not (pt_val (pe_call GA hr (by rfl) A.gl A.fn.kp A.bi .nil pass0 (pa_cons (pv 0) pa_nil)))) (pss_one ps_never) pss_nil), ?_⟩
    exact ⟨_, rfl, a, ns, rfl, hS, L, fun H' s' => ⟨_, rfl, iteF (q H' s')⟩⟩
/-! ### divisor_of_two -/
def spGcd : Sp := fun vs H Q _ => ∃ (m n : Nat), vs = [.int m, .int n] ∧ Q (.int (Nat.gcd m n)) H
theorem scGcd : FnScope ["first", "second"] ["first", "second"] (defScope sGcd) := ⟨rfl, rfl, rfl, by decide +kernel, rfl, by decide +kernel, by decide +kernel⟩
def secondOf : L2.St → Nat := fun σ => match σ with
  | [_, some (.int n)] => n.toNat
  | _ => 0
theorem ok_gcd {f : Addr} {fd : FuncData} {k : Nat} (F : Fun K "divisor_of_two" "divisor_of_two" sGcd f fd) : FnOk P w K mg base CX0 (k + 1) f fd ["first", "second"] spGcd := by
  refine F.ok scGcd (fun vs H Q E h => ?_) (fun cdv A' outer s H vs Q E hr h => ?_)
  · obtain ⟨m, n, rfl, _⟩ := h
    rfl
  · obtain ⟨m, n, rfl, q⟩ := h
    refine ⟨_, pss_cons (ps_while PassesOwn.never (pt_cmpR op_gt (pv 1) pe_int (nomark _))
      (pss_one (ps_par (i := 0) (j := 1) (by rfl) scGcd.nd rfl rfl (by decide) rfl rfl (pa_cons (pv 1) (pa_cons (pe_op op_mod (pv 0) (pv 1)) pa_nil)) (by rfl))))
      (pss_one (ps_ret (pv 0))), ?_⟩
    refine while_by (fun σ H2 => H2 = H ∧ ∃ (x y : Nat), σ = [some (.int x), some (.int y)] ∧ Nat.gcd x y = Nat.gcd m n) (fun σ _ => secondOf σ) ⟨rfl, m, n, rfl, rfl⟩ ?_ ?_
    · rintro σ H2 ⟨rfl, x, y, rfl, e⟩
      refine ⟨_, rfl, _, _, rfl, rfl, _, rfl, ?_⟩
      by_cases hy : (y : Int) > 0
      · rw [decide_eq_true hy]
        refine iteT ⟨_, rfl, _, rfl, _, rfl, _, _, rfl, rfl, hy, _, _, rfl, ⟨rfl, y, x % y, rfl, ?_⟩, ?_⟩
        · rw [← e, Nat.gcd_comm x y, Nat.gcd_rec y x, Nat.gcd_comm]
        · show ((x : Int) % (y : Int)).toNat < (y : Int).toNat
          have : (x : Int) % (y : Int) = ((x % y : Nat) : Int) := by simp
          rw [this, Int.toNat_natCast, Int.toNat_natCast]
          exact Nat.mod_lt x (show 0 < y by omega)
      · rw [decide_eq_false hy]
        have y0 : y = 0 := by omega
        subst y0
        rw [Nat.gcd_zero_right] at e
        refine iteF ⟨_, rfl, ?_⟩
        rw [e]
        exact q
    · rintro σ H2 Q1 Q2 hQ ⟨v, h1, i, j, h2, h3, b, h4, h5⟩
      exact ⟨v, h1, i, j, h2, h3, b, h4, hQ _ _ h5⟩
end
end Ov
namespace Ov
open PySem PySem.Spec PyProof.Rows L2
/-- a least sum as a value -/
def optV : Option Nat → V
  | none => .non
  | some x => .int x
theorem relax_none {L r f : Nat} {a : List (Option Nat)} (h : a.getD r none = none) : relax L r f a = a := by
  unfold relax; rw [h]
theorem relax_new {L r f x : Nat} {a : List (Option Nat)} (h : a.getD r none = some x) (h2 : a.getD f none = none) : relax L r f a = a.set f (some (x + L)) := by
  unfold relax; simp only [h, h2]
theorem relax_lt {L r f x y : Nat} {a : List (Option Nat)} (h : a.getD r none = some x) (h2 : a.getD f none = some y) (c : x + L < y) : relax L r f a = a.set f (some (x + L)) := by
  unfold relax; simp only [h, h2]; exact if_pos c
theorem relax_ge {L r f x y : Nat} {a : List (Option Nat)} (h : a.getD r none = some x) (h2 : a.getD f none = some y) (c : ¬ x + L < y) : relax L r f a = a := by
  unfold relax; simp only [h, h2]; exact if_neg c
theorem at_opt {a : List (Option Nat)} {r : Nat} {o : Option Nat} (hr : r < a.length) (h : a.getD r none = o) : (a.map optV)[r]? = some (optV o) := by
  rw [List.getElem?_map, List.getElem?_eq_getElem hr]
  rw [List.getD_eq_getElem?_getD, List.getElem?_eq_getElem hr] at h
  show some (optV a[r]) = _
  rw [show a[r] = o from h]
theorem set_opt (a : List (Option Nat)) (f z : Nat) : (a.map optV).set f (.int ((z : Nat) : Int)) = (a.set f (some z)).map optV := by
  rw [List.map_set]; rfl
theorem ixN_at {n j : Nat} (hj : j < n) : ixN n (j : Int) = some j := by
  unfold ixN
  rw [if_pos (by omega), if_pos (by omega)]
  simp
section
variable {P : Program} {w : World} {K : PySem.W.Frag} {mg : Str → Option Value} {base : Heap}
/-! ### with_length -/
def spWith : Sp := fun vs H Q _ => ∃ (l : Addr) (a : List (Option Nat)) (L : Nat), vs = [.ref l, .int L] ∧ H l = some (.lst (a.map optV)) ∧ 0 < a.length ∧ a.length ≤ 1000 ∧ 0 < L ∧ L ≤ 1000 ∧
  ∀ H' p, Same H H' → H p = none → H' p = some (.lst ((withLen L a).map optV)) → Q (.ref p) H'
theorem scWith : FnScope ["least", "length", "lowered", "divisor", "steps", "first", "remainder", "step", "following", "reached"] ["least", "length"] (defScope sWith) := ⟨rfl, rfl, rfl, by decide +kernel, rfl, by decide +kernel, by decide +kernel⟩
theorem ok_with {f fG : Addr} {fd fdG : FuncData} {k : Nat} (F : Fun K "with_length" "with_length" sWith f fd) (T : Bi mg) (G : Def K mg "divisor_of_two" sGcd fG fdG ["first", "second"]) :
    FnOk P w K mg base CX0 (k + 2) f fd ["least", "length"] spWith := by
  have GG : FnOk P w K mg base CX0 (k + 1) fG fdG ["first", "second"] spGcd := ok_gcd G.fn
  refine F.ok scWith (fun vs H Q E h => ?_) (fun cdv A' outer s H vs Q E hr h => ?_)
  · obtain ⟨l, a, L, rfl, _⟩ := h
    rfl
  · obtain ⟨l, a, L, rfl, hl, hm, hm2, hL, hL2, q⟩ := h
    refine ⟨_, pss_cons (ps_set (i := 2) scWith.nd rfl (.inl rfl) (pe_callTy call_list_of (by rfl) T.list (by decide +kernel) (pa_cons (pv 0) pa_nil)))
      (pss_cons (ps_set (i := 3) scWith.nd rfl (.inl rfl) (pe_call GG hr (by rfl) G.gl G.fn.kp G.bi .nil pass0 (pa_cons (pe_callB call_len_seq (by rfl) T.len PySem.boot_len (pa_cons (pv 0) pa_nil)) (pa_cons (pv 1) pa_nil))))
      (pss_cons (ps_set (i := 4) scWith.nd rfl (.inl rfl) (pe_op op_mul pe_int (pe_op op_fdiv (pe_callB call_len_seq (by rfl) T.len PySem.boot_len (pa_cons (pv 0) pa_nil)) (pv 3))))
      (pss_cons (ps_for PassesOwn.never rfl (pi_range1 (by rfl) T.range (pa_cons (pv 3) pa_nil)) (pg_name (i := 5) scWith.nd rfl (.inl rfl))
        (pss_cons (ps_set (i := 6) scWith.nd rfl (.inl rfl) (pv 5))
        (pss_one (ps_for PassesOwn.never rfl (pi_range1 (by rfl) T.range (pa_cons (pv 4) pa_nil)) (pg_name (i := 7) scWith.nd rfl (.inl rfl))
          (pss_cons (ps_set (i := 8) scWith.nd rfl (.inl rfl) (pe_op op_mod (pe_op op_add (pv 6) (pv 1)) (pe_callB call_len_seq (by rfl) T.len PySem.boot_len (pa_cons (pv 0) pa_nil))))
          (pss_cons (ps_if (pt_cmpR op_notN (pe_ix ix_list (pv 2) (pv 6) (fun _ _ => rfl)) pe_non (nomark _))
              (pss_cons (ps_set (i := 9) scWith.nd rfl (.inl rfl) (pe_op op_add (pe_ix ix_list (pv 2) (pv 6) (fun _ _ => rfl)) (pv 1)))
              (pss_one (ps_if (PW.pt (pw_or (pt_cmpR op_isN (pe_ix ix_list (pv 2) (pv 8) (fun _ _ => rfl)) pe_non (nomark _)) (pw_or1 (pt_cmpR op_lt (pv 9) (pe_ix ix_list (pv 2) (pv 8) (fun _ _ => rfl)) (nomark _)))))
                (pss_one (ps_asg (pv 9) (pg_sub (pv 2) (pv 8) set_list))) pss_nil))) pss_nil)
          (pss_one (ps_set (i := 6) scWith.nd rfl (.inl rfl) (pv 8)))))))))
      (pss_one (ps_ret (pv 2)))))), ?_⟩
    -- lowered = list(least)
    refine ⟨_, rfl, l, _, rfl, .inl (SqL.of hl), fun p np => ?_⟩
    have s1 : Same H (upd H p (.lst (a.map optV))) := same_upd np
    -- divisor
    refine ⟨_, rfl, l, _, rfl, .inl (SqL.of (s1 _ _ hl)), _, rfl, a.length, L, (by rw [List.length_map]; rfl), ?_⟩
    have hg : 0 < Nat.gcd a.length L := Nat.gcd_pos_of_pos_left _ hm
    have hg2 : Nat.gcd a.length L ≤ a.length := Nat.le_of_dvd hm (Nat.gcd_dvd_left _ _)
    -- steps
    refine ⟨_, rfl, l, _, rfl, .inl (SqL.of (s1 _ _ hl)), _, rfl, _, _, rfl, rfl, ⟨by omega, by omega⟩, _, _, rfl, rfl, .inl ⟨by decide, by decide⟩, ?_⟩
    have eT : (2 : Int) * (((a.map optV).length : Int) / (Nat.gcd a.length L : Nat)) = ((2 * (a.length / Nat.gcd a.length L) : Nat) : Int) := by
      rw [List.length_map]; simp
    have hT2 : 2 * (a.length / Nat.gcd a.length L) ≤ 2000 := by
      have := Nat.div_le_self a.length (Nat.gcd a.length L)
      omega
    generalize hTe : 2 * (a.length / Nat.gcd a.length L) = T2 at *
    dsimp only
    rw [eT]
    -- for first in range(divisor)
    refine ⟨_, rfl, _, rfl, by omega, by omega, for_range (lo := 0) (fun i σ H2 => ∃ y5 y6 y7 y8 y9, σ = [some (.ref l), some (.int L), some (.ref p), some (.int (Nat.gcd a.length L : Nat)), some (.int (T2 : Nat)), y5, y6, y7, y8, y9] ∧ Same H H2 ∧ H2 p = some (.lst ((walks L a.length T2 i a).map optV)))
      ⟨none, none, none, none, none, rfl, s1, upd_same⟩ ?_ ?_⟩
    · rintro i σ H2 hi ⟨y5, y6, y7, y8, y9, rfl, s2, h2⟩
      have hi' : i < Nat.gcd a.length L := by simpa using hi
      have him : i < a.length := by omega
      -- remainder = first
      refine ⟨_, rfl, ?_⟩
      refine ⟨_, rfl, _, rfl, by omega, by omega, for_range (lo := 0) (fun t σ H3 => ∃ y7 y8 y9, σ = [some (.ref l), some (.int L), some (.ref p), some (.int (Nat.gcd a.length L : Nat)), some (.int (T2 : Nat)), some (.int (0 + (i : Int))), some (.int ((steps L a.length t i (walks L a.length T2 i a)).2 : Nat)), y7, y8, y9] ∧ Same H H3 ∧ H3 p = some (.lst ((steps L a.length t i (walks L a.length T2 i a)).1.map optV)))
        ⟨y7, y8, y9, ?_, s2, h2⟩ ?_ ?_⟩
      · show [some _, some _, some _, some _, some _, some _, some (V.int (0 + (i : Int))), _, _, _] = _
        rw [Int.zero_add]; rfl
      · rintro t σ H3 ht ⟨y7, y8, y9, rfl, s3, h3⟩
        generalize hq : steps L a.length t i (walks L a.length T2 i a) = qq at *
        have hlen : qq.1.length = a.length := by
          rw [← hq]
          exact (steps_le ..).1.trans (walks_le ..).1
        have hr : qq.2 < a.length := by
          rw [← hq, steps_at _ _ _ _ him]
          exact Nat.mod_lt _ hm
        have hl3 := s3 _ _ hl
        -- following
        refine ⟨_, rfl, _, rfl, _, _, rfl, rfl, _, rfl, l, _, rfl, .inl (SqL.of hl3), _, _, rfl, rfl, (by rw [List.length_map]; omega), ?_⟩
        have ef : ((qq.2 : Nat) : Int) + (L : Int) = ((qq.2 + L : Nat) : Int) := by simp
        have ef2 : (((qq.2 : Nat) : Int) + (L : Int)) % (((a.map optV).length : Nat) : Int) = (((qq.2 + L) % a.length : Nat) : Int) := by
          rw [List.length_map]; simp
        dsimp only
        rw [ef2]
        have hf : (qq.2 + L) % a.length < qq.1.length := by rw [hlen]; exact Nat.mod_lt _ hm
        have hst : steps L a.length (t + 1) i (walks L a.length T2 i a) = (relax L qq.2 ((qq.2 + L) % a.length) qq.1, (qq.2 + L) % a.length) := by
          show (relax L (steps L a.length t i (walks L a.length T2 i a)).2 _ _, _) = _
          rw [hq]
        generalize hfe : (qq.2 + L) % a.length = ff at *
        -- if lowered[remainder] is not None
        have hr' : qq.2 < qq.1.length := by rw [hlen]; exact hr
        cases eo : qq.1.getD qq.2 none with
        | none =>
          refine ⟨_, rfl, _, rfl, p, _, _, _, rfl, rfl, SqL.of h3, atI_nat (at_opt hr' eo), rfl, _, rfl, ?_⟩
          refine iteF ⟨_, rfl, ?_⟩
          rw [hst, relax_none eo]
          exact ⟨_, _, _, rfl, s3, h3⟩
        | some x =>
          refine ⟨_, rfl, _, rfl, p, _, _, _, rfl, rfl, SqL.of h3, atI_nat (at_opt hr' eo), rfl, _, rfl, ?_⟩
          refine iteT ⟨_, rfl, _, rfl, p, _, _, _, rfl, rfl, SqL.of h3, atI_nat (at_opt hr' eo), _, rfl, _, _, rfl, rfl, ?_⟩
          have ex : (x : Int) + (L : Int) = ((x + L : Nat) : Int) := by simp
          cases eo2 : qq.1.getD ff none with
          | none =>
            refine ⟨_, rfl, _, rfl, p, _, _, _, rfl, rfl, SqL.of h3, atI_nat (at_opt hf eo2), rfl, _, rfl, ?_⟩
            refine iteT ⟨_, rfl, _, rfl, _, rfl, p, _, _, ff, rfl, rfl, h3, (by rw [List.length_map]; exact ixN_at hf), ?_⟩
            refine ⟨_, rfl, ?_⟩
            rw [hst, relax_new eo eo2]
            refine ⟨_, _, _, rfl, fun b o e => ?_, ?_⟩
            · rw [upd_ne (ne_of_none e np)]
              exact s3 b o e
            · rw [upd_same]
              show some (HO.lst ((qq.1.map optV).set ff (V.int ((x : Int) + (L : Int))))) = _
              rw [ex, set_opt]
          | some y =>
            refine ⟨_, rfl, _, rfl, p, _, _, _, rfl, rfl, SqL.of h3, atI_nat (at_opt hf eo2), rfl, _, rfl, ?_⟩
            refine iteF ⟨_, rfl, _, rfl, _, rfl, p, _, _, _, rfl, rfl, SqL.of h3, atI_nat (at_opt hf eo2), _, _, rfl, rfl, _, rfl, ?_⟩
            by_cases c : x + L < y
            · rw [decide_eq_true (show (x : Int) + (L : Int) < (y : Int) by omega)]
              refine iteT ⟨_, rfl, _, rfl, _, rfl, p, _, _, ff, rfl, rfl, h3, (by rw [List.length_map]; exact ixN_at hf), ?_⟩
              refine ⟨_, rfl, ?_⟩
              rw [hst, relax_lt eo eo2 c]
              refine ⟨_, _, _, rfl, fun b o e => ?_, ?_⟩
              · rw [upd_ne (ne_of_none e np)]
                exact s3 b o e
              · rw [upd_same]
                show some (HO.lst ((qq.1.map optV).set ff (V.int ((x : Int) + (L : Int))))) = _
                rw [ex, set_opt]
            · rw [decide_eq_false (show ¬ (x : Int) + (L : Int) < (y : Int) by omega)]
              refine iteF ⟨_, rfl, ?_⟩
              rw [hst, relax_ge eo eo2 c]
              exact ⟨_, _, _, rfl, s3, h3⟩
      · rintro σ H3 ⟨y7, y8, y9, rfl, s3, h3⟩
        refine ⟨_, _, _, _, _, rfl, s3, ?_⟩
        exact h3
    · rintro σ H2 ⟨y5, y6, y7, y8, y9, rfl, s2, h2⟩
      refine ⟨_, rfl, q H2 p s2 np ?_⟩
      rw [h2]
      unfold withLen
      rw [hTe]
      simp
end
end Ov
namespace Ov
open PySem PySem.Spec PyProof.Rows L2
theorem flat_rep {α : Type} (x : α) : ∀ n : Nat, (List.replicate n [x]).flatten = List.replicate n x
  | 0 => rfl
  | n + 1 => by rw [List.replicate_succ, List.flatten_cons, flat_rep x n, List.replicate_succ]; rfl
theorem fold_len (R : List Nat) : ∀ a : List (Option Nat), (R.foldl (fun a L => withLen L a) a).length = a.length := by
  induction R with
  | nil => intro a; rfl
  | cons L R ih => intro a; rw [List.foldl_cons, ih, withLen_len]
theorem take_more {α : Type} {l : List α} {i : Nat} {x : α} (h : l[i]? = some x) : l.take (i + 1) = l.take i ++ [x] := by
  rw [List.take_add_one, h]; rfl
section
variable {P : Program} {w : World} {K : PySem.W.Frag} {mg : Str → Option Value} {base : Heap}
/-! ### least_sums -/
def spLeast : Sp := fun vs H Q _ => ∃ (a : Addr) (ns : List Int), vs = [.ref a] ∧ H a = some (.tup (ns.map V.int)) ∧ Lens ns ∧
  ∀ H' p, Same H H' → H p = none → H' p = some (.tup ((leasts (ns.map Int.toNat)).map optV)) → Q (.ref p) H'
theorem scLeast : FnScope ["lengths", "least", "length"] ["lengths"] (defScope sLeast) := ⟨rfl, rfl, rfl, by decide +kernel, rfl, by decide +kernel, by decide +kernel⟩
theorem ok_least {f fC fW : Addr} {fd fdC fdW : FuncData} {k : Nat} (F : Fun K "least_sums" "least_sums" sLeast f fd) (T : Bi mg)
    (C : Def K mg "check_lengths" sCheck fC fdC ["lengths"]) (GC : FnOk P w K mg base CX0 k fC fdC ["lengths"] spCheck)
    (W : Def K mg "with_length" sWith fW fdW ["least", "length"]) (GW : FnOk P w K mg base CX0 k fW fdW ["least", "length"] spWith) : FnOk P w K mg base CX0 (k + 1) f fd ["lengths"] spLeast := by
  refine F.ok scLeast (fun vs H Q E h => ?_) (fun cdv A' outer s H vs Q E hr h => ?_)
  · obtain ⟨a, ns, rfl, _⟩ := h
    rfl
  · obtain ⟨a, ns, rfl, hS, L, q⟩ := h
    refine ⟨_, pss_cons (ps_expr (pe_call GC hr (by rfl) C.gl C.fn.kp C.bi .nil pass0 (pa_cons (pv 0) pa_nil)))
      (pss_cons (ps_if (pt_cmpR op_eq (pe_callB call_len_seq (by rfl) T.len PySem.boot_len (pa_cons (pv 0) pa_nil)) pe_int (nomark _)) (pss_one (ps_ret (pe_tup pa_nil))) pss_nil)
      (pss_cons (ps_set (i := 1) scLeast.nd rfl (.inl rfl) (pe_op op_cat (pe_lst (pa_cons pe_int pa_nil)) (pe_op op_rep (pe_lst (pa_cons pe_non pa_nil)) (pe_op op_sub (pe_ix ix_tup (pv 0) pe_int (fun _ _ => rfl)) pe_int))))
      (pss_cons (ps_for PassesOwn.never rfl (pi_tup (pe_slice sl_tupA (pv 0) (po_some pe_int) po_none)) (pg_name (i := 2) scLeast.nd rfl (.inl rfl))
        (pss_one (ps_set (i := 1) scLeast.nd rfl (.inl rfl) (pe_call GW hr (by rfl) W.gl W.fn.kp W.bi .nil pass0 (pa_cons (pv 1) (pa_cons (pv 2) pa_nil))))))
      (pss_one (ps_ret (pe_callTy call_tuple_of (by rfl) T.tuple (by decide +kernel) (pa_cons (pv 1) pa_nil))))))), ?_⟩
    refine ⟨_, rfl, a, ns, rfl, hS, L, fun H1 s1 => ?_⟩
    have h1 := s1 _ _ hS
    refine ⟨_, rfl, a, _, rfl, .inr (SqT.of h1), rfl, _, rfl, ite2 (fun e => ?_) (fun e => ?_)⟩
    · have e0 : ((ns.map V.int).length : Int) = 0 := V.int.inj (of_decide_eq_true e)
      have e1 : ns = [] := by
        cases ns with
        | nil => rfl
        | cons x r => rw [List.length_map, List.length_cons] at e0; omega
      subst e1
      refine ⟨Nat.zero_le _, fun p np => q _ p (s1.trans (same_upd np)) (s1.free np) ?_⟩
      rw [upd_same]; rfl
    · obtain ⟨n0, rest, rfl⟩ : ∃ x r, ns = x :: r := by
        cases ns with
        | nil => exact absurd (decide_eq_true rfl) e
        | cons x r => exact ⟨x, r, rfl⟩
      obtain ⟨hn1, hn2⟩ := L.low n0 List.mem_cons_self
      have hrl : rest.length ≤ 50 := by have := L.few; rw [List.length_cons] at this; omega
      -- [0] + [None] * (lengths[0] - 1)
      refine ⟨by show 1 ≤ sizeLine; decide, fun p1 np1 => ⟨by show 1 ≤ sizeLine; decide, fun p2 np2 => ?_⟩⟩
      have sa : Same H1 (upd H1 p1 (.lst [.int 0])) := same_upd np1
      have sb := same_upd (o := HO.lst [V.non]) np2
      refine ⟨_, rfl, a, _, _, _, rfl, rfl, SqT.of (sb _ _ (sa _ _ h1)), atI_nat (j := 0) rfl, _, _, rfl, rfl, p2, _, _, rfl, rfl, upd_same, by omega, by omega, ?_, fun p3 np3 => ?_⟩
      · have : (n0 - 1).toNat ≤ 1000 := by omega
        show 1 * (n0 - 1).toNat ≤ sizeLine
        exact Nat.le_of_lt (small1000 (by omega))
      have sc := same_upd (o := HO.lst (List.replicate (n0 - 1).toNat [V.non]).flatten) np3
      refine ⟨p1, p3, [.int 0], _, rfl, rfl, ?_, upd_same, ?_, fun p4 np4 => ?_⟩
      · exact sc _ _ (sb _ _ upd_same)
      · rw [flat_rep, List.length_replicate]
        show 1 + (n0 - 1).toNat ≤ sizeLine
        exact Nat.le_of_lt (small1000 (by omega))
      have e4 : (([V.int 0] ++ (List.replicate (n0 - 1).toNat [V.non]).flatten)) = ((some 0 :: List.replicate (n0.toNat - 1) none : List (Option Nat)).map optV) := by
        rw [flat_rep, List.map_cons, List.map_replicate]
        show V.int 0 :: List.replicate (n0 - 1).toNat V.non = V.int ((0 : Nat) : Int) :: List.replicate (n0.toNat - 1) V.non
        rw [show (n0 - 1).toNat = n0.toNat - 1 by omega]
        rfl
      rw [e4] at *
      have sd := same_upd (o := HO.lst ((some 0 :: List.replicate (n0.toNat - 1) none : List (Option Nat)).map optV)) np4
      have s4 : Same H _ := (((s1.trans sa).trans sb).trans sc).trans sd
      have n4 : H p4 = none := (((s1.trans sa).trans sb).trans sc).free np4
      have h44 := @upd_same (upd (upd (upd H1 p1 (HO.lst [V.int 0])) p2 (HO.lst [V.non])) p3 (HO.lst (List.replicate (n0 - 1).toNat [V.non]).flatten)) p4 (HO.lst ((some 0 :: List.replicate (n0.toNat - 1) none : List (Option Nat)).map optV))
      generalize upd (upd (upd (upd H1 p1 (HO.lst [V.int 0])) p2 (HO.lst [V.non])) p3 (HO.lst (List.replicate (n0 - 1).toNat [V.non]).flatten)) p4 (HO.lst ((some 0 :: List.replicate (n0.toNat - 1) none : List (Option Nat)).map optV)) = H4 at *
      -- for length in lengths[1:]
      refine ⟨_, rfl, 1, rfl, a, _, rfl, SqT.of (s4 _ _ hS), fun hw => ?_, fun _ c nc => ?_⟩
      · have := cut1_whole hw
        simp at this
      have se := same_upd (o := HO.tup (cutV ((n0 :: rest).map V.int) (some 1) none)) nc
      have hc : SqT K (upd H4 c (HO.tup (cutV ((n0 :: rest).map V.int) (some 1) none))) c (rest.map V.int) := .inl (.inl (by rw [upd_same, cut1]; rfl))
      generalize hH5 : upd H4 c (HO.tup (cutV ((n0 :: rest).map V.int) (some 1) none)) = H5 at *
      have h54 : H5 p4 = some (.lst ((some 0 :: List.replicate (n0.toNat - 1) none : List (Option Nat)).map optV)) := se _ _ h44
      have s5 : Same H H5 := s4.trans se
      refine ⟨c, rfl, ⟨_, hc⟩, for_tup (K := K) (a := c) (xs := rest.map V.int) (fun i σ H6 => ∃ pl y, σ = [some (.ref a), some (.ref pl), y] ∧ Same H5 H6 ∧ H6 pl = some (.lst ((((rest.map Int.toNat).take i).foldl (fun a L => withLen L a) (some 0 :: List.replicate (n0.toNat - 1) none)).map optV)))
        ⟨p4, none, rfl, Same.refl _, h54⟩ (fun i σ H6 _ ⟨_, _, _, s6, _⟩ => s6.tup hc) ?_ ?_⟩
      · rintro i x σ H6 hx ⟨pl, y, rfl, s6, h6⟩
        have hi : i < rest.length := by
          have := (List.getElem?_eq_some_iff.mp hx).1
          rwa [List.length_map] at this
        have ex : x = .int rest[i] := by
          rw [List.getElem?_map, List.getElem?_eq_getElem hi] at hx
          exact (Option.some.inj hx).symm
        obtain ⟨b1, b2⟩ := L.low rest[i] (List.mem_cons_of_mem _ (List.getElem_mem hi))
        have exn : x = .int ((rest[i].toNat : Nat) : Int) := by rw [ex, Int.toNat_of_nonneg (by omega)]
        have hlen : (((rest.map Int.toNat).take i).foldl (fun a L => withLen L a) (some 0 :: List.replicate (n0.toNat - 1) none)).length = n0.toNat := by
          rw [fold_len, List.length_cons, List.length_replicate]; omega
        refine ⟨_, rfl, _, rfl, pl, _, rest[i].toNat, ?_, h6, by rw [hlen]; omega, by rw [hlen]; omega, by omega, by omega, fun H7 p7 s7 n7 h7 => ?_⟩
        · rw [exn]; rfl
        refine ⟨p7, _, rfl, s6.trans s7, ?_⟩
        have hx2 : (rest.map Int.toNat)[i]? = some rest[i].toNat := by rw [List.getElem?_map, List.getElem?_eq_getElem hi]; rfl
        rw [take_more hx2, List.foldl_append]
        exact h7
      · rintro σ H6 ⟨pl, y, rfl, s6, h6⟩
        refine ⟨_, rfl, pl, _, rfl, .inl ⟨SqL.of h6, fun p np => ?_⟩⟩
        refine q _ p ((s5.trans s6).trans (same_upd np)) ((s5.trans s6).free np) ?_
        rw [upd_same, List.take_of_length_le (by rw [List.length_map, List.length_map]; exact Nat.le_refl _)]
        rfl
end
end Ov
namespace Ov
open PySem PySem.Spec PyProof.Rows L2
section
variable {P : Program} {w : World} {K : PySem.W.Frag} {mg : Str → Option Value} {base : Heap}
/-! ### common_divisor -/
def spCommon : Sp := fun vs H Q _ => ∃ (a : Addr) (ns : List Int), vs = [.ref a] ∧ H a = some (.tup (ns.map V.int)) ∧ Lens ns ∧ ∀ H', Same H H' → Q (.int (gcdAll (ns.map Int.toNat) : Nat)) H'
theorem scCommon : FnScope ["lengths", "divisor", "length"] ["lengths"] (defScope sCommon) := ⟨rfl, rfl, rfl, by decide +kernel, rfl, by decide +kernel, by decide +kernel⟩
theorem ok_common {f fC fG : Addr} {fd fdC fdG : FuncData} {k : Nat} (F : Fun K "common_divisor" "common_divisor" sCommon f fd)
    (C : Def K mg "check_lengths" sCheck fC fdC ["lengths"]) (GC : FnOk P w K mg base CX0 (k + 1) fC fdC ["lengths"] spCheck) (G : Def K mg "divisor_of_two" sGcd fG fdG ["first", "second"]) : FnOk P w K mg base CX0 (k + 2) f fd ["lengths"] spCommon := by
  have GG : FnOk P w K mg base CX0 (k + 1) fG fdG ["first", "second"] spGcd := ok_gcd G.fn
  refine F.ok scCommon (fun vs H Q E h => ?_) (fun cdv A' outer s H vs Q E hr h => ?_)
  · obtain ⟨a, ns, rfl, _⟩ := h
    rfl
  · obtain ⟨a, ns, rfl, hS, L, q⟩ := h
    refine ⟨_, pss_cons (ps_expr (pe_call GC hr (by rfl) C.gl C.fn.kp C.bi .nil pass0 (pa_cons (pv 0) pa_nil)))
      (pss_cons (ps_set (i := 1) scCommon.nd rfl (.inl rfl) pe_int)
      (pss_cons (ps_for PassesOwn.never rfl (pi_tup (pv 0)) (pg_name (i := 2) scCommon.nd rfl (.inl rfl))
        (pss_one (ps_set (i := 1) scCommon.nd rfl (.inl rfl) (pe_call GG hr (by rfl) G.gl G.fn.kp G.bi .nil pass0 (pa_cons (pv 1) (pa_cons (pv 2) pa_nil))))))
      (pss_one (ps_ret (pv 1))))), ?_⟩
    refine ⟨_, rfl, a, ns, rfl, hS, L, fun H1 s1 => ?_⟩
    have h1 := s1 _ _ hS
    refine ⟨_, rfl, a, rfl, ⟨_, SqT.of h1⟩, for_tup (K := K) (a := a) (xs := ns.map V.int) (fun i σ H6 => H6 = H1 ∧ ∃ y, σ = [some (.ref a), some (.int (gcdAll ((ns.map Int.toNat).take i) : Nat)), y])
      ⟨rfl, none, rfl⟩ (fun i σ H6 _ ⟨e, _⟩ => by rw [e]; exact SqT.of h1) ?_ ?_⟩
    · rintro i x σ H6 hx ⟨rfl, y, rfl⟩
      have hi : i < ns.length := by
        have := (List.getElem?_eq_some_iff.mp hx).1
        rwa [List.length_map] at this
      have ex : x = .int ns[i] := by
        rw [List.getElem?_map, List.getElem?_eq_getElem hi] at hx
        exact (Option.some.inj hx).symm
      have hb := L.low _ (List.getElem_mem hi)
      have exn : x = .int ((ns[i].toNat : Nat) : Int) := by rw [ex, Int.toNat_of_nonneg (by omega)]
      refine ⟨_, rfl, _, rfl, gcdAll ((ns.map Int.toNat).take i), ns[i].toNat, ?_, rfl, ?_⟩
      · rw [exn]; rfl
      · have hx2 : (ns.map Int.toNat)[i]? = some ns[i].toNat := by rw [List.getElem?_map, List.getElem?_eq_getElem hi]; rfl
        have e : gcdAll ((ns.map Int.toNat).take (i + 1)) = Nat.gcd (gcdAll ((ns.map Int.toNat).take i)) ns[i].toNat := by
          rw [take_more hx2]
          unfold gcdAll
          rw [List.foldl_append]
          rfl
        rw [e]
        exact ⟨_, rfl⟩
    · rintro σ H6 ⟨rfl, y, rfl⟩
      refine ⟨_, rfl, ?_⟩
      rw [List.length_map, List.take_of_length_le (by rw [List.length_map]; exact Nat.le_refl _)]
      exact q _ s1
end
end Ov
namespace Ov
open PySem PySem.Spec PyProof.Rows L2
/-- a box of numbers: what is left of its own digits, a number, and how many were mixed -/
def BoxAt (H : Hp) (p : Addr) (n : Nat) : Prop := ∃ a b c : Int, H p = some (.lst [.int a, .int b, .int c]) ∧ 0 ≤ a ∧ a < 2 ^ 800 ∧ 0 ≤ b ∧ b < 2 ^ 62 ∧ 0 ≤ c ∧ c ≤ n
theorem BoxAt.mono {H : Hp} {p : Addr} {n m : Nat} (h : BoxAt H p n) (l : n ≤ m) : BoxAt H p m := by
  obtain ⟨a, b, c, e, h1, h2, h3, h4, h5, h6⟩ := h
  exact ⟨a, b, c, e, h1, h2, h3, h4, h5, by omega⟩
theorem BoxAt.same {H H' : Hp} {p : Addr} {n : Nat} (h : BoxAt H p n) (s : Same H H') : BoxAt H' p n := by
  obtain ⟨a, b, c, e, r⟩ := h
  exact ⟨a, b, c, s _ _ e, r⟩
/-- all that stood, but at p, stands -/
def But (p : Addr) (H H' : Hp) : Prop := ∀ b o, H b = some o → b ≠ p → H' b = some o
theorem But.refl (p : Addr) (H : Hp) : But p H H := fun _ _ e _ => e
theorem But.trans {p : Addr} {H H1 H2 : Hp} (a : But p H H1) (b : But p H1 H2) : But p H H2 := fun c o e n => b c o (a c o e n) n
theorem But.of {p : Addr} {H H1 : Hp} (a : Same H H1) : But p H H1 := fun c o e _ => a c o e
theorem But.free {p l : Addr} {H H' : Hp} (e : But p H H') (hp : H p ≠ none) (h : H' l = none) (hp' : H' p ≠ none) : H l = none := by
  cases q : H l with
  | none => rfl
  | some o =>
    by_cases hl : l = p
    · subst hl; exact absurd h hp'
    · rw [e l o q hl] at h; cases h
theorem BoxAt.ne {H : Hp} {p : Addr} {n : Nat} (h : BoxAt H p n) : H p ≠ none := by
  obtain ⟨a, b, c, e, _⟩ := h
  rw [e]; exact fun z => nomatch z
section
variable {P : Program} {w : World} {K : PySem.W.Frag} {mg : Str → Option Value} {base : Heap}
/-! ### _law_box -/
def spBox (K : PySem.W.Frag) : Sp := fun vs H Q _ => ∃ (a : Addr) (ns : List Int) (j : Nat), vs = [.ref a, .int j] ∧ SqL K H a (ns.map V.int) ∧ j ≤ 63 ∧ ∀ H' p, Same H H' → H p = none → BoxAt H' p 0 → Q (.ref p) H'
theorem scBox : FnScope ["_law_script", "_law_k", "_law_cell", "_law_own"] ["_law_script", "_law_k"] (defScope sBox) := ⟨rfl, rfl, rfl, by decide +kernel, rfl, by decide +kernel, by decide +kernel⟩
theorem big_pos : (0 : Int) < 10 ^ (60 : Int).toNat * 10 ^ (60 : Int).toNat * 10 ^ (60 : Int).toNat * 10 ^ (60 : Int).toNat := by decide +kernel
theorem big_lt : (10 : Int) ^ (60 : Int).toNat * 10 ^ (60 : Int).toNat * 10 ^ (60 : Int).toNat * 10 ^ (60 : Int).toNat ≤ 2 ^ 800 := by decide +kernel
/-- what is left of the text behind the cell -/
def tBoxRest : TS := tSeq (tAsg (tOp (rI CMul fun i j => .int (i * j)) (tOp (rI (fun _ j => 0 < j) fun i j => .int (i % j)) (tCB (fun xs H Q => ∃ i, xs = [.int i] ∧ Q (.int (if i < 0 then -i else i)) H) (tCons (tVar 2) tNil))
    (tOp (rI CMulW fun i j => .int (i * j)) (tOp (rI CMulW fun i j => .int (i * j)) (tOp (rI CMulW fun i j => .int (i * j)) (tOp (rI CPow fun i j => .int (i ^ j.toNat)) (tC (.int 10)) (tC (.int 60))) (tOp (rI CPow fun i j => .int (i ^ j.toNat)) (tC (.int 10)) (tC (.int 60)))) (tOp (rI CPow fun i j => .int (i ^ j.toNat)) (tC (.int 10)) (tC (.int 60)))) (tOp (rI CPow fun i j => .int (i ^ j.toNat)) (tC (.int 10)) (tC (.int 60)))))
    (tCB (fun xs H Q => (∃ i, xs = [.int i] ∧ Q (.int i) H) ∨ ∃ k, xs = [.bl k] ∧ Q (.int (if k then 1 else 0)) H) (tCons (tOp (rI0 fun i j => .bl (decide (j ≤ i))) (tCB (fun xs H Q => ∃ i, xs = [.int i] ∧ Q (.int (if i < 0 then -i else i)) H) (tCons (tVar 2) tNil)) (tOp (rI CPow fun i j => .int (i ^ j.toNat)) (tC (.int 10)) (tC (.int 18)))) tNil))) (gName 3))
  (tRet (tLst (tCons (tVar 3) (tCons (tOp (rI (fun _ j => 0 < j) fun i j => .int (i % j)) (tOp (rI CMul fun i j => .int (i * j)) (tOp (rI0 fun i j => .int (i + j)) (tOp (rI0 fun i j => .int (i + j)) (tOp (rI (fun _ j => 0 < j) fun i j => .int (i % j)) (tVar 2) (tC (.int 2305843009213693951))) (tOp (rI CMul fun i j => .int (i * j)) (tOp (rI CMul fun i j => .int (i * j)) (tC (.int 7919)) (tVar 1)) (tVar 1))) (tC (.int 43))) (tC (.int 48271))) (tC (.int 2305843009213693921))) (tCons (tC (.int 0)) tNil)))))
theorem own_ok {x : Int} (h0 : 0 ≤ x) (h1 : x < 2 ^ 800) (c : Bool) : 0 ≤ x * (if c = true then 1 else 0) ∧ x * (if c = true then 1 else 0) < 2 ^ 800 := by
  cases c
  · rw [if_neg (by decide), Int.mul_zero]
    exact ⟨by decide, by decide +kernel⟩
  · rw [if_pos rfl, Int.mul_one]
    exact ⟨h0, h1⟩
theorem bit_ok (c : Bool) : -(2 ^ 64) < (if c = true then (1 : Int) else 0) ∧ (if c = true then (1 : Int) else 0) < 2 ^ 64 := by
  cases c <;> exact ⟨by decide, by decide⟩
theorem box_rest {H : Hp} {D : Ends} {a : Addr} {j : Nat} {cell : Int} {y : Option V} (hj : j ≤ 63) (q : ∀ (H' : Hp) (p : Addr), Same H H' → H p = none → BoxAt H' p 0 → D.rt (V.ref p) H') : tBoxRest D [some (.ref a), some (.int j), some (.int cell), y] H := by
  have h60 : ((10 : Int) ^ (60 : Int).toNat).natAbs < 2 ^ 200 := by decide +kernel
  have h120 : ((10 : Int) ^ (60 : Int).toNat * 10 ^ (60 : Int).toNat).natAbs < 2 ^ 400 := by decide +kernel
  have h180 : ((10 : Int) ^ (60 : Int).toNat * 10 ^ (60 : Int).toNat * 10 ^ (60 : Int).toNat).natAbs < 2 ^ 600 := by decide +kernel
  have hp : CPow 10 60 := ⟨by decide, by decide, by decide⟩
  have hp2 : CPow 10 18 := ⟨by decide, by decide, by decide⟩
  refine ⟨_, rfl, _, rfl, _, _, rfl, rfl, hp, _, _, rfl, rfl, hp, _, _, rfl, rfl, wide_mul h60 h60 (by decide) (by decide) (by decide), _, _, rfl, rfl, hp, _, _, rfl, rfl, wide_mul h120 h60 (by decide) (by decide) (by decide), _, _, rfl, rfl, hp, _, _, rfl, rfl, wide_mul h180 h60 (by decide) (by decide) (by decide), _, _, rfl, rfl, big_pos, ?_⟩
  have hm0 : 0 ≤ (if cell < 0 then -cell else cell) % (10 ^ (60 : Int).toNat * 10 ^ (60 : Int).toNat * 10 ^ (60 : Int).toNat * 10 ^ (60 : Int).toNat) := Int.emod_nonneg _ (Int.ne_of_gt big_pos)
  have hm1 : (if cell < 0 then -cell else cell) % (10 ^ (60 : Int).toNat * 10 ^ (60 : Int).toNat * 10 ^ (60 : Int).toNat * 10 ^ (60 : Int).toNat) < 2 ^ 800 := Int.lt_of_lt_of_le (Int.emod_lt_of_pos _ big_pos) big_lt
  dsimp only
  generalize (if cell < 0 then -cell else cell) % (10 ^ (60 : Int).toNat * 10 ^ (60 : Int).toNat * 10 ^ (60 : Int).toNat * 10 ^ (60 : Int).toNat) = own at *
  refine ⟨_, rfl, _, rfl, _, _, rfl, rfl, hp2, _, _, rfl, rfl, .inr ⟨_, rfl, _, _, rfl, rfl, ?_, ?_⟩⟩
  · exact .inr (bit_ok _)
  dsimp only
  generalize decide ((10 : Int) ^ (18 : Int).toNat ≤ if cell < 0 then -cell else cell) = bb
  obtain ⟨ho0, ho1⟩ := own_ok hm0 hm1 bb
  generalize own * (if bb = true then 1 else 0) = o2 at *
  have hc0 : 0 ≤ cell % 2305843009213693951 := Int.emod_nonneg _ (by decide)
  have hc1 : cell % 2305843009213693951 < 2305843009213693951 := Int.emod_lt_of_pos _ (by decide)
  have hkk : (0 : Int) ≤ 7919 * (j : Int) * (j : Int) := Int.mul_nonneg (Int.mul_nonneg (by decide) (by omega)) (by omega)
  refine ⟨_, rfl, _, rfl, _, _, rfl, rfl, (show (0 : Int) < 2305843009213693951 by decide), _, rfl, _, _, rfl, rfl, .inl ⟨by decide, by decide⟩, _, rfl, _, _, rfl, rfl, .inr ⟨by omega, by omega⟩, _, _, rfl, rfl, _, _, rfl, rfl, _, _, rfl, rfl, .inr ⟨by decide, by decide⟩, _, _, rfl, rfl, (show (0 : Int) < 2305843009213693921 by decide), by show 3 ≤ sizeLine; decide, fun p np => ?_⟩
  exact q _ p (same_upd np) np ⟨_, _, _, upd_same, ho0, ho1, Int.emod_nonneg _ (by decide), Int.lt_of_lt_of_le (Int.emod_lt_of_pos _ (by decide)) (by decide), by decide, by decide⟩
theorem ok_box {f : Addr} {fd : FuncData} {k : Nat} (F : Fun K "_law_box" "_law_box" sBox f fd) (T : Bi mg) : FnOk P w K mg base CX0 (k + 1) f fd ["_law_script", "_law_k"] (spBox K) := by
  refine F.ok scBox (fun vs H Q E h => ?_) (fun cdv A' outer s H vs Q E hr h => ?_)
  · obtain ⟨a, ns, j, rfl, _⟩ := h
    rfl
  · obtain ⟨a, ns, j, rfl, hS, hj, q⟩ := h
    refine ⟨_, pss_cons (ps_set (i := 2) scBox.nd rfl (.inl rfl) (pe_ifExp (pt_cmpR op_lt (pv 1) (pe_callB call_len_seq (by rfl) T.len PySem.boot_len (pa_cons (pv 0) pa_nil)) (nomark _)) (pe_ix ix_list (pv 0) (pv 1) (fun _ _ => rfl)) pe_int))
      (pss_cons (ps_set (i := 3) scBox.nd rfl (.inl rfl) (pe_op op_mul (pe_op op_mod (pe_callB call_abs (by rfl) T.abs (by decide +kernel) (pa_cons (pv 2) pa_nil))
          (pe_op op_mulW (pe_op op_mulW (pe_op op_mulW (pe_op op_pow pe_int pe_int) (pe_op op_pow pe_int pe_int)) (pe_op op_pow pe_int pe_int)) (pe_op op_pow pe_int pe_int)))
        (pe_callTy call_int1 (by rfl) T.int (by decide +kernel) (pa_cons (pe_cmpR op_ge (pe_callB call_abs (by rfl) T.abs (by decide +kernel) (pa_cons (pv 2) pa_nil)) (pe_op op_pow pe_int pe_int) (nomark _)) pa_nil))))
      (pss_one (ps_ret (pe_lst (pa_cons (pv 3) (pa_cons (pe_op op_mod (pe_op op_mul (pe_op op_add (pe_op op_add (pe_op op_mod (pv 2) pe_int) (pe_op op_mul (pe_op op_mul pe_int (pv 1)) (pv 1))) pe_int) pe_int) pe_int) (pa_cons pe_int pa_nil))))))), ?_⟩
    refine ⟨_, rfl, _, rfl, a, _, rfl, .inl hS, _, _, rfl, rfl, _, rfl, ite2 (fun c => ?_) (fun c => ?_)⟩
    · have hj' : j < ns.length := by
        have := of_decide_eq_true c
        rw [List.length_map] at this
        omega
      refine ⟨_, rfl, _, rfl, a, _, _, _, rfl, rfl, hS, atI_nat (v := .int ns[j]) (by rw [List.getElem?_map, List.getElem?_eq_getElem hj']; rfl), ?_⟩
      exact box_rest (D := { nx := fun _ H' => Q .non H', rt := Q }) (y := none) hj q
    · exact box_rest (D := { nx := fun _ H' => Q .non H', rt := Q }) (y := none) hj q
end
end Ov
namespace Ov
open PySem PySem.Spec PyProof.Rows L2
section
variable {P : Program} {w : World} {K : PySem.W.Frag} {mg : Str → Option Value} {base : Heap}
/-! ### _law_take -/
def spTake : Sp := fun vs H Q _ => ∃ (p : Addr) (m : Int) (n : Nat), vs = [.ref p, .int m] ∧ BoxAt H p n ∧ n ≤ 2 ^ 40 ∧ 0 < m ∧ m < 2 ^ 200 ∧ ∀ H' (d : Int), But p H H' → BoxAt H' p (n + 1) → 0 ≤ d → d < m → (∀ b, H b = none → H' b = none) → Q (.int d) H'
theorem scTake : FnScope ["_law_box_here", "_law_many", "_law_digit", "_law_mixed"] ["_law_box_here", "_law_many"] (defScope sTake) := ⟨rfl, rfl, rfl, by decide +kernel, rfl, by decide +kernel, by decide +kernel⟩
theorem ok_take {f : Addr} {fd : FuncData} {k : Nat} (F : Fun K "_law_take" "_law_take" sTake f fd) : FnOk P w K mg base CX0 (k + 1) f fd ["_law_box_here", "_law_many"] spTake := by
  refine F.ok scTake (fun vs H Q E h => ?_) (fun cdv A' outer s H vs Q E hr h => ?_)
  · obtain ⟨p, m, n, rfl, _⟩ := h
    rfl
  · obtain ⟨p, m, n, rfl, ⟨a, b, c, hp, a0, a1, b0, b1, c0, c1⟩, hn, m0, m1, q⟩ := h
    refine ⟨_, pss_cons (ps_if (pt_cmpR op_gt (pe_ix ix_list (pv 0) pe_int (fun _ _ => rfl)) pe_int (nomark _))
        (pss_cons (ps_set (i := 2) scTake.nd rfl (.inl rfl) (pe_op op_mod (pe_ix ix_list (pv 0) pe_int (fun _ _ => rfl)) (pv 1)))
        (pss_cons (ps_asg (pe_op op_fdivW (pe_ix ix_list (pv 0) pe_int (fun _ _ => rfl)) (pv 1)) (pg_sub (pv 0) pe_int set_list))
        (pss_one (ps_ret (pv 2))))) pss_nil)
      (pss_cons (ps_asg (pe_op op_add (pe_ix ix_list (pv 0) pe_int (fun _ _ => rfl)) pe_int) (pg_sub (pv 0) pe_int set_list))
      (pss_cons (ps_set (i := 3) scTake.nd rfl (.inl rfl) (pe_op op_mod (pe_op op_mul (pe_op op_add (pe_op op_add (pe_ix ix_list (pv 0) pe_int (fun _ _ => rfl)) (pe_op op_mul (pe_op op_mul pe_int (pe_ix ix_list (pv 0) pe_int (fun _ _ => rfl))) (pe_ix ix_list (pv 0) pe_int (fun _ _ => rfl)))) pe_int) pe_int) pe_int))
      (pss_cons (ps_set (i := 3) scTake.nd rfl (.inl rfl) (pe_op op_mod (pe_op op_mul (pv 3) (pe_op op_add (pe_op op_mod (pv 3) pe_int) (pe_op op_mul pe_int (pe_ix ix_list (pv 0) pe_int (fun _ _ => rfl))))) pe_int))
      (pss_one (ps_ret (pe_op op_mod (pe_op op_add (pe_op op_fdiv (pv 3) pe_int) (pe_op op_fdiv (pv 3) pe_int)) (pv 1))))))), ?_⟩
    have i0 : ∀ x y z : V, atI [x, y, z] 0 = some x := fun x y z => atI_nat (j := 0) rfl
    have i1 : ∀ x y z : V, atI [x, y, z] 1 = some y := fun x y z => atI_nat (j := 1) rfl
    have i2 : ∀ x y z : V, atI [x, y, z] 2 = some z := fun x y z => atI_nat (j := 2) rfl
    refine ⟨_, rfl, p, _, _, _, rfl, rfl, SqL.of hp, i0 _ _ _, _, _, rfl, rfl, _, rfl, ?_⟩
    by_cases ha : 0 < a
    · rw [decide_eq_true ha]
      refine iteT ?_
      refine ⟨_, rfl, p, _, _, _, rfl, rfl, SqL.of hp, i0 _ _ _, _, rfl, _, _, rfl, rfl, m0, ?_⟩
      refine ⟨_, rfl, p, _, _, _, rfl, rfl, SqL.of hp, i0 _ _ _, _, rfl, _, _, rfl, rfl, wide_div (b := 200) m0 (by omega) (by decide) (by decide), _, rfl, p, _, _, 0, rfl, rfl, hp, rfl, _, rfl, ?_⟩
      refine q _ _ (fun x o e hx => by rw [upd_ne hx]; exact e) ⟨a / m, b, c, upd_same, ?_, ?_, b0, b1, c0, by omega⟩ (Int.emod_nonneg _ (by omega)) (Int.emod_lt_of_pos _ m0) (fun x e => by rw [upd_ne (fun z => by rw [z, hp] at e; cases e)]; exact e)
      · exact Int.ediv_nonneg a0 (by omega)
      · exact Int.lt_of_le_of_lt (Int.ediv_le_self _ a0) a1
    · rw [decide_eq_false ha]
      refine iteF ?_
      refine ⟨_, rfl, p, _, _, _, rfl, rfl, SqL.of hp, i2 _ _ _, _, _, rfl, rfl, _, rfl, p, _, _, 2, rfl, rfl, hp, rfl, ?_⟩
      have hp2 : (upd H p (.lst (([V.int a, V.int b, V.int c] : List V).set 2 (V.int (c + 1))))) p = some (.lst [V.int a, V.int b, V.int (c + 1)]) := upd_same
      have s2 : But p H (upd H p (.lst (([V.int a, V.int b, V.int c] : List V).set 2 (V.int (c + 1))))) := fun x o e hx => by rw [upd_ne hx]; exact e
      have f2 : ∀ x, H x = none → (upd H p (.lst (([V.int a, V.int b, V.int c] : List V).set 2 (V.int (c + 1))))) x = none := fun x e => by rw [upd_ne (fun z => by rw [z, hp] at e; cases e)]; exact e
      generalize upd H p (.lst (([V.int a, V.int b, V.int c] : List V).set 2 (V.int (c + 1)))) = H2 at *
      have hc2 : c + 1 ≤ 2 ^ 40 + 1 := by omega
      refine ⟨_, rfl, p, _, _, _, rfl, rfl, SqL.of hp2, i1 _ _ _, _, rfl, p, _, _, _, rfl, rfl, SqL.of hp2, i2 _ _ _, _, _, rfl, rfl, .inl ⟨by decide, by decide⟩, _, rfl, p, _, _, _, rfl, rfl, SqL.of hp2, i2 _ _ _, _, _, rfl, rfl, .inr ⟨by omega, by omega⟩, _, _, rfl, rfl, _, _, rfl, rfl, _, _, rfl, rfl, .inr ⟨by decide, by decide⟩, _, _, rfl, rfl, (show (0 : Int) < 2305843009213693921 by decide), ?_⟩
      dsimp only
      have x0 : 0 ≤ (b + 65537 * (c + 1) * (c + 1) + 11) * 48271 % 2305843009213693921 := Int.emod_nonneg _ (by decide)
      have x1 : (b + 65537 * (c + 1) * (c + 1) + 11) * 48271 % 2305843009213693921 < 2305843009213693921 := Int.emod_lt_of_pos _ (by decide)
      generalize (b + 65537 * (c + 1) * (c + 1) + 11) * 48271 % 2305843009213693921 = x at *
      refine ⟨_, rfl, _, rfl, _, _, rfl, rfl, (show (0 : Int) < 1000003 by decide), _, rfl, p, _, _, _, rfl, rfl, SqL.of hp2, i2 _ _ _, _, _, rfl, rfl, .inl ⟨by decide, by decide⟩, _, _, rfl, rfl, _, _, rfl, rfl, .inl ⟨by omega, by omega⟩, _, _, rfl, rfl, (show (0 : Int) < 2305843009213693907 by decide), ?_⟩
      dsimp only
      generalize x * (x % 1000003 + 99991 * (c + 1)) % 2305843009213693907 = y at *
      refine ⟨_, rfl, _, _, rfl, rfl, ⟨by decide, by decide⟩, _, rfl, _, _, rfl, rfl, ⟨by decide, by decide⟩, _, _, rfl, rfl, _, rfl, _, _, rfl, rfl, m0, ?_⟩
      exact q _ _ s2 ⟨a, b, c + 1, hp2, a0, a1, b0, b1, by omega, by omega⟩ (Int.emod_nonneg _ (by omega)) (Int.emod_lt_of_pos _ m0) f2
/-! ### _law_of -/
def spOf : Sp := fun vs H Q _ => ∃ (p l : Addr) (n : Nat) (xs : List V), vs = [.ref p, .ref l] ∧ BoxAt H p n ∧ n ≤ 2 ^ 40 ∧ H l = some (.lst xs) ∧ l ≠ p ∧ 0 < xs.length ∧ xs.length ≤ 1000 ∧ ∀ H' (v : V), v ∈ xs → But p H H' → BoxAt H' p (n + 1) → (∀ b, H b = none → H' b = none) → Q v H'
theorem scOf : FnScope ["_law_box_here", "_law_some"] ["_law_box_here", "_law_some"] (defScope sOf) := ⟨rfl, rfl, rfl, by decide +kernel, rfl, by decide +kernel, by decide +kernel⟩
theorem ok_of {f fT : Addr} {fd fdT : FuncData} {k : Nat} (F : Fun K "_law_of" "_law_of" sOf f fd) (T : Bi mg) (Tk : Def K mg "_law_take" sTake fT fdT ["_law_box_here", "_law_many"]) : FnOk P w K mg base CX0 (k + 2) f fd ["_law_box_here", "_law_some"] spOf := by
  have GT : FnOk P w K mg base CX0 (k + 1) fT fdT ["_law_box_here", "_law_many"] spTake := ok_take Tk.fn
  refine F.ok scOf (fun vs H Q E h => ?_) (fun cdv A' outer s H vs Q E hr h => ?_)
  · obtain ⟨p, l, n, xs, rfl, _⟩ := h
    rfl
  · obtain ⟨p, l, n, xs, rfl, B, hn, hl, hlp, h0, h1, q⟩ := h
    refine ⟨_, pss_one (ps_ret (pe_ix ix_list (pv 1) (pe_call GT hr (by rfl) Tk.gl Tk.fn.kp Tk.bi .nil pass0 (pa_cons (pv 0) (pa_cons (pe_callB call_len_seq (by rfl) T.len PySem.boot_len (pa_cons (pv 1) pa_nil)) pa_nil))) (fun _ _ => rfl))), ?_⟩
    refine ⟨_, rfl, _, rfl, _, rfl, l, _, rfl, .inl (SqL.of hl), p, _, n, rfl, B, hn, by omega, by omega, fun H' d bt B' d0 d1 fr => ?_⟩
    obtain ⟨i, rfl⟩ : ∃ i : Nat, d = i := ⟨d.toNat, by omega⟩
    have hi : i < xs.length := by omega
    exact ⟨l, xs, _, xs[i], rfl, rfl, SqL.of (bt _ _ hl hlp), atI_nat (List.getElem?_eq_getElem hi), q H' _ (List.getElem_mem hi) bt B' fr⟩
end
end Ov
namespace Ov
open PySem PySem.Spec PyProof.Rows L2
/-! ### keys of a dict that is filled -/
theorem keys_put {kvs : List (Key × V)} {k : Key} {v : V} (h : (kvs.any fun kv => decide (kv.1 = k)) = true) : (putK kvs k v).map (·.1) = kvs.map (·.1) := by
  unfold putK
  rw [if_pos h, List.map_map]
  refine List.map_congr_left fun x _ => ?_
  show (if x.1 = k then (x.1, v) else x).1 = x.1
  split <;> rfl
/-- keys that are ints from 1 to top, each once -/
structure Keys (top : Int) (kvs : List (Key × V)) (n : Nat) : Prop where
  nd : (kvs.map (·.1)).Nodup
  few : kvs.length ≤ n
  int : ∀ x ∈ kvs.map (·.1), ∃ z : Int, x = Sum.inl z ∧ 1 ≤ z ∧ z ≤ top
theorem Keys.nil (top : Int) : Keys top [] 0 := ⟨List.nodup_nil, Nat.le_refl _, fun _ h => nomatch h⟩
theorem Keys.put {top : Int} {kvs : List (Key × V)} {n : Nat} (h : Keys top kvs n) {z : Int} (h1 : 1 ≤ z) (h2 : z ≤ top) (v : V) : Keys top (putK kvs (Sum.inl z) v) (n + 1) := by
  by_cases a : (kvs.any fun kv => decide (kv.1 = (Sum.inl z : Key))) = true
  · exact ⟨by rw [keys_put a]; exact h.nd, Nat.le_trans (length_putK ..) (Nat.succ_le_succ h.few), by rw [keys_put a]; exact h.int⟩
  · have e : putK kvs (Sum.inl z : Key) v = kvs ++ [(Sum.inl z, v)] := if_neg a
    refine ⟨?_, Nat.le_trans (length_putK ..) (Nat.succ_le_succ h.few), ?_⟩
    · rw [e, List.map_append]
      refine nd_snoc h.nd fun m => a ?_
      obtain ⟨q, hq, eq⟩ := List.mem_map.mp m
      exact List.any_eq_true.mpr ⟨q, hq, decide_eq_true eq⟩
    · rw [e, List.map_append]
      intro x hx
      rcases List.mem_append.mp hx with hx | hx
      · exact h.int x hx
      · exact ⟨z, List.mem_singleton.mp hx, h1, h2⟩
theorem ints_of : ∀ (l : List Key), (∀ x ∈ l, ∃ z : Int, x = Sum.inl z) → ∃ ks : List Int, l = ks.map Sum.inl
  | [], _ => ⟨[], rfl⟩
  | x :: l, h => by
    obtain ⟨z, rfl⟩ := h x List.mem_cons_self
    obtain ⟨ks, rfl⟩ := ints_of l fun y hy => h y (List.mem_cons_of_mem _ hy)
    exact ⟨z :: ks, rfl⟩
theorem lt_of_le_nodup : ∀ {l : List Int}, l.Pairwise (· ≤ ·) → l.Nodup → l.Pairwise (· < ·)
  | [], _, _ => .nil
  | x :: l, h, n => by
    rw [List.pairwise_cons] at h
    rw [List.nodup_cons] at n
    rw [List.pairwise_cons]
    refine ⟨fun y hy => ?_, lt_of_le_nodup h.2 n.2⟩
    have := h.1 y hy
    have : x ≠ y := fun z => n.1 (z ▸ hy)
    omega
/-- the keys, sorted, are lengths -/
theorem Keys.lens {top : Int} {kvs : List (Key × V)} {n : Nat} (h : Keys top kvs n) (ht : top ≤ 1000) (hn : n ≤ 50) : ∃ ks : List Int, kvs.map (·.1) = ks.map Sum.inl ∧ ks.length ≤ n ∧ ∀ ys : List Int, ys.Perm ks → ys.Pairwise (· ≤ ·) → Lens ys ∧ ys.length ≤ n ∧ ∀ y ∈ ys, y ≤ top := by
  obtain ⟨ks, e⟩ := ints_of _ fun x hx => (h.int x hx).imp fun z hz => hz.1
  have hl : ks.length ≤ n := by
    have := congrArg List.length e
    rw [List.length_map, List.length_map] at this
    have := h.few
    omega
  refine ⟨ks, e, hl, fun ys hp hs => ?_⟩
  have hb : ∀ z ∈ ks, 1 ≤ z ∧ z ≤ top := fun z hz => by
    obtain ⟨z', e', h1, h2⟩ := h.int (Sum.inl z) (by rw [e]; exact List.mem_map.mpr ⟨z, hz, rfl⟩)
    cases e'
    exact ⟨h1, h2⟩
  have hnd : ks.Nodup := by
    have := h.nd
    rw [e] at this
    exact (List.pairwise_map.mp this).imp fun h z => h (congrArg Sum.inl z)
  refine ⟨⟨by rw [hp.length_eq]; omega, fun z hz => ?_, lt_of_le_nodup hs (hp.symm.nodup hnd)⟩, by rw [hp.length_eq]; exact hl, fun y hy => (hb y (hp.mem_iff.mp hy)).2⟩
  have := hb z (hp.mem_iff.mp hz)
  exact ⟨this.1, by omega⟩
end Ov
namespace Ov
open PySem PySem.Spec PyProof.Rows L2
/-! ### plain adding -/
/-- is w a sum of these lengths -/
def rr (ns : List Int) (w : Nat) : Bool := reached (leasts (ns.map Int.toNat)) w
theorem rr_iff {ns : List Int} (L : Lens ns) (w : Nat) : rr ns w = true ↔ Sum (ns.map Int.toNat) w :=
  isSum_iff _ (fun l hl => by
    obtain ⟨z, hz, rfl⟩ := List.mem_map.mp hl
    have := L.low z hz
    omega) w
theorem rr_zero {ns : List Int} (L : Lens ns) : rr ns 0 = true := (rr_iff L 0).mpr .zero
/-- one length: it fits, and the rest is a sum -/
def fits (ns : List Int) (w : Int) (z : Int) : Bool := if z ≤ w then rr ns (w - z).toNat else false
theorem rr_any {ns : List Int} (L : Lens ns) {w : Nat} (hw : 0 < w) : ns.any (fits ns (w : Int)) = rr ns w := by
  have e : ns.any (fits ns (w : Int)) = true ↔ rr ns w = true := by
    rw [rr_iff L, Sum.step, List.any_eq_true]
    constructor
    · rintro ⟨z, hz, h⟩
      have hb := L.low z hz
      unfold fits at h
      split at h
      · rename_i hle
        refine .inr ⟨z.toNat, List.mem_map.mpr ⟨z, hz, rfl⟩, by omega, ?_⟩
        have := (rr_iff L _).mp h
        rwa [show ((w : Int) - z).toNat = w - z.toNat by omega] at this
      · cases h
    · rintro (h | ⟨l, hl, hle, hs⟩)
      · omega
      · obtain ⟨z, hz, rfl⟩ := List.mem_map.mp hl
        have hb := L.low z hz
        refine ⟨z, hz, ?_⟩
        unfold fits
        rw [if_pos (by omega), show ((w : Int) - z).toNat = w - z.toNat by omega]
        exact (rr_iff L _).mpr hs
  cases h1 : ns.any (fits ns (w : Int)) <;> cases h2 : rr ns w
  · rfl
  · rw [h1, h2] at e; exact absurd (e.mpr rfl) (by decide)
  · rw [h1, h2] at e; exact absurd (e.mp rfl) (by decide)
  · rfl
/-- the table behind i turns -/
def tab (ns : List Int) (M i : Nat) : List Bool := (List.range (i + 1)).map (rr ns) ++ List.replicate (M - i) false
theorem tab_len (ns : List Int) {M i : Nat} (h : i ≤ M) : (tab ns M i).length = M + 1 := by
  unfold tab
  rw [List.length_append, List.length_map, List.length_range, List.length_replicate]
  omega
theorem tab_low (ns : List Int) (M i : Nat) {j : Nat} (h : j ≤ i) : (tab ns M i)[j]? = some (rr ns j) := by
  unfold tab
  rw [List.getElem?_append_left (by rw [List.length_map, List.length_range]; omega), List.getElem?_map, List.getElem?_range (by omega)]
  rfl
theorem tab_step (ns : List Int) {M i : Nat} (h : i < M) : (tab ns M i).set (i + 1) (rr ns (i + 1)) = tab ns M (i + 1) := by
  unfold tab
  have e : M - i = (M - (i + 1)) + 1 := by omega
  rw [List.set_append_right _ _ (by rw [List.length_map, List.length_range]; omega), List.length_map, List.length_range, Nat.sub_self, e, List.replicate_succ, List.set_cons_zero]
  rw [List.range_succ (n := i + 1), List.map_append, List.append_assoc]
  rfl
end Ov
namespace Ov
open PySem PySem.Spec PyProof.Rows L2
section
variable {P : Program} {w : World} {K : PySem.W.Frag} {mg : Str → Option Value} {base : Heap}
/-! ### _law_drawn -/
def spDrawn : Sp := fun vs H Q _ => ∃ (p : Addr) (n : Nat), vs = [.ref p] ∧ BoxAt H p n ∧ n ≤ 2 ^ 39 ∧ ∀ H' t (ns : List Int), But p H H' → BoxAt H' p (n + 20) → H t = none → H' t = some (.tup (ns.map V.int)) → Lens ns → (∀ y ∈ ns, y ≤ 24) → Q (.ref t) H'
theorem scDrawn : FnScope ["_law_box_here", "_law_factor", "_law_found", "_law_turn"] ["_law_box_here"] (defScope sDrawn) := ⟨rfl, rfl, rfl, by decide +kernel, rfl, by decide +kernel, by decide +kernel⟩
theorem ok_drawn {f fO fT : Addr} {fd fdO fdT : FuncData} {k : Nat} (F : Fun K "_law_drawn" "_law_drawn" sDrawn f fd) (T : Bi mg) (O : Def K mg "_law_of" sOf fO fdO ["_law_box_here", "_law_some"]) (Tk : Def K mg "_law_take" sTake fT fdT ["_law_box_here", "_law_many"]) :
    FnOk P w K mg base CX0 (k + 3) f fd ["_law_box_here"] spDrawn := by
  have GO : FnOk P w K mg base CX0 (k + 2) fO fdO ["_law_box_here", "_law_some"] spOf := ok_of O.fn T Tk
  have GT : FnOk P w K mg base CX0 (k + 2) fT fdT ["_law_box_here", "_law_many"] spTake := ok_take Tk.fn
  refine F.ok scDrawn (fun vs H Q E h => ?_) (fun cdv A' outer s H vs Q E hr h => ?_)
  · obtain ⟨p, n, rfl, _⟩ := h
    rfl
  · obtain ⟨p, n, rfl, B, hn, q⟩ := h
    have hu := hu_of hr
    refine ⟨_, pss_cons (ps_par (i := 1) (j := 2) (by rfl) scDrawn.nd rfl rfl (by decide) rfl rfl (pa_cons (pe_call GO hr (by rfl) O.gl O.fn.kp O.bi .nil pass0 (pa_cons (pv 0) (pa_cons (pe_lst (pa_cons pe_int (pa_cons pe_int (pa_cons pe_int (pa_cons pe_int (pa_cons pe_int pa_nil)))))) pa_nil))) (pa_cons pe_dnewK pa_nil)) (by rfl))
      (pss_cons (ps_for PassesOwn.never rfl (pi_range1 (by rfl) T.range (pa_cons (pe_call GT hr (by rfl) Tk.gl Tk.fn.kp Tk.bi .nil pass0 (pa_cons (pv 0) (pa_cons pe_int pa_nil))) pa_nil)) (pg_name (i := 3) scDrawn.nd rfl (.inl rfl))
        (pss_one (ps_dput hu (pv 2) (pe_op op_mul (pv 1) (pe_op op_add pe_int (pe_call GT hr (by rfl) Tk.gl Tk.fn.kp Tk.bi .nil pass0 (pa_cons (pv 0) (pa_cons (pe_op op_fdiv pe_int (pv 1)) pa_nil))))) pe_bl rfl)))
      (pss_one (ps_ret (pe_callTy call_tuple_of (by rfl) T.tuple (by decide +kernel) (pa_cons (pe_callB (call_sortedDI rfl) (by rfl) T.sorted (by decide +kernel) (pa_cons (pv 2) pa_nil)) pa_nil))))), ?_⟩
    -- the factor
    refine ⟨_, rfl, by show 5 ≤ sizeLine; decide, fun l nl => ?_⟩
    have hlp : l ≠ p := fun z => B.ne (z ▸ nl)
    refine ⟨p, l, n, _, rfl, B.same (same_upd nl), by omega, upd_same, hlp, by decide, by decide, fun H1 v hv b1 B1 f1 => ?_⟩
    have b01 : But p H H1 := (But.of (same_upd nl)).trans b1
    obtain ⟨fa, rfl, hfa⟩ : ∃ fa : Int, v = .int fa ∧ (fa = 1 ∨ fa = 2 ∨ fa = 3 ∨ fa = 4) := by
      simp only [List.mem_cons, List.not_mem_nil, or_false] at hv
      rcases hv with rfl | rfl | rfl | rfl | rfl
      · exact ⟨1, rfl, .inl rfl⟩
      · exact ⟨1, rfl, .inl rfl⟩
      · exact ⟨2, rfl, .inr (.inl rfl)⟩
      · exact ⟨3, rfl, .inr (.inr (.inl rfl))⟩
      · exact ⟨4, rfl, .inr (.inr (.inr rfl))⟩
    intro d nd
    have hdp : d ≠ p := fun z => B1.ne (z ▸ nd)
    have hHd : H d = none := b01.free B.ne nd B1.ne
    refine ⟨_, _, rfl, ?_⟩
    have B2 := B1.same (same_upd (o := HO.dK []) nd)
    have b02 : But p H (upd H1 d (.dK [])) := b01.trans (But.of (same_upd nd))
    -- how many
    refine ⟨_, rfl, p, 7, n + 1, rfl, B2, by omega, by decide, by decide, fun H3 c b3 B3 c0 c1 f3 => ?_⟩
    have h3d : H3 d = some (.dK []) := b3 _ _ upd_same hdp
    have b03 := b02.trans b3
    refine ⟨c, rfl, by omega, by omega, for_range (lo := 0) (fun i σ H4 => ∃ kvs y, σ = [some (.ref p), some (.int fa), some (.ref d), y] ∧ But p H H4 ∧ BoxAt H4 p (n + 2 + i) ∧ H4 d = some (.dK kvs) ∧ Keys 24 kvs i)
      ⟨[], none, rfl, b03, B3, h3d, .nil _⟩ ?_ ?_⟩
    · rintro i σ H4 hi ⟨kvs, y, rfl, b4, B4, h4, k4⟩
      have hi7 : i < 7 := by omega
      have hq : 0 < 24 / fa ∧ 24 / fa ≤ 24 := by rcases hfa with rfl | rfl | rfl | rfl <;> decide
      refine ⟨_, rfl, _, rfl, _, rfl, _, rfl, _, _, rfl, rfl, ⟨by omega, by omega⟩, p, _, n + 2 + i, rfl, B4, by omega, hq.1, by omega, fun H5 e b5 B5 e0 e1 f5 => ?_⟩
      have h5 : H5 d = some (.dK kvs) := b5 _ _ h4 hdp
      have hk : 1 ≤ fa * (1 + e) ∧ fa * (1 + e) ≤ 24 := by rcases hfa with rfl | rfl | rfl | rfl <;> omega
      refine ⟨_, _, rfl, rfl, _, _, rfl, rfl, .inl ⟨by omega, by omega⟩, d, _, rfl, DPut.k (k := Sum.inl (fa * (1 + e))) h5 (small1000 (by have := k4.few; omega)), ?_⟩
      refine ⟨_, _, rfl, fun b o eb hb => ?_, ?_, upd_same, k4.put hk.1 hk.2 _⟩
      · rw [upd_ne (ne_of_none eb hHd)]
        exact b5 _ _ (b4 b o eb hb) hb
      · obtain ⟨x1, x2, x3, e1, r⟩ := B5
        exact ⟨x1, x2, x3, by rw [upd_ne (Ne.symm hdp)]; exact e1, r⟩
    · rintro σ H4 ⟨kvs, y, rfl, b4, B4, h4, k4⟩
      obtain ⟨ks, ek, hks, hys⟩ := k4.lens (by decide) (by omega)
      refine ⟨_, rfl, d, kvs, ks, rfl, .of h4, ek, by omega, fun ys p1 hp hs n1 => ?_⟩
      obtain ⟨L, _, Ltop⟩ := hys ys hp hs
      refine ⟨p1, _, rfl, .inl ⟨SqL.of upd_same, fun t nt => ?_⟩⟩
      have s6 := (same_upd (o := HO.lst (ys.map V.int)) n1).trans (same_upd (o := HO.tup (ys.map V.int)) nt)
      have nt4 : H4 t = none := (same_upd (o := HO.lst (ys.map V.int)) n1).free nt
      exact q _ t ys (b4.trans (But.of s6)) ((B4.same s6).mono (by omega)) (b4.free B.ne nt4 B4.ne) upd_same L Ltop
end
end Ov
namespace Ov
open PySem PySem.Spec PyProof.Rows L2
/-! ### the least sums of lengths, told of lists of ints -/
theorem lens_rep {n0 : Int} {rest : List Int} (L : Lens (n0 :: rest)) : Rep (Sum ((n0 :: rest).map Int.toNat)) (leasts ((n0 :: rest).map Int.toNat)) ∧ (leasts ((n0 :: rest).map Int.toNat)).length = n0.toNat := by
  have := L.low n0 List.mem_cons_self
  exact leasts_rep (by omega) (rest.map Int.toNat)
theorem asc_last {ns : List Int} (h : ns.Pairwise (· < ·)) (hne : ns ≠ []) : ∀ y ∈ ns, y ≤ ns.getLast hne := by
  intro y hy
  obtain ⟨i, hi, rfl⟩ := List.mem_iff_getElem.mp hy
  rw [List.getLast_eq_getElem]
  by_cases e : i = ns.length - 1
  · subst e; exact Int.le_refl _
  · exact Int.le_of_lt (List.pairwise_iff_getElem.mp h i (ns.length - 1) hi (by omega) (by omega))
section
variable {P : Program} {w : World} {K : PySem.W.Frag} {mg : Str → Option Value} {base : Heap}
def spLLeast : Sp := fun vs H Q _ => ∃ (a : Addr) (ns : List Int), vs = [.ref a] ∧ H a = some (.tup (ns.map V.int)) ∧ Lens ns ∧ (∀ y ∈ ns, y ≤ 24) ∧
  ∀ H' p, Same H H' → H p = none → H' p = some (.tup ((leasts (ns.map Int.toNat)).map optV)) → Q (.ref p) H'
theorem scLLeast : FnScope ["_law_some", "_law_most", "_law_sums", "_law_found", "_law_whole", "_law_one"] ["_law_some"] (defScope sLLeast) := ⟨rfl, rfl, rfl, by decide +kernel, rfl, by decide +kernel, by decide +kernel⟩
theorem ok_lleast {f : Addr} {fd : FuncData} {k : Nat} (F : Fun K "_law_least" "_law_least" sLLeast f fd) (T : Bi mg) : FnOk P w K mg base CX0 (k + 1) f fd ["_law_some"] spLLeast := by
  refine F.ok scLLeast (fun vs H Q E h => ?_) (fun cdv A' outer s H vs Q E hr h => ?_)
  · obtain ⟨a, ns, rfl, _⟩ := h
    rfl
  · obtain ⟨a, ns, rfl, hS, L, L24, q⟩ := h
    refine ⟨_, pss_cons (ps_if (pt_cmpR (op_eqD hr.units) (pv 0) (pe_tup pa_nil) (nomark _)) (pss_one (ps_ret (pe_tup pa_nil))) pss_nil)
      (pss_cons (ps_set (i := 1) scLLeast.nd rfl (.inl rfl) (pe_op op_mul (pe_ix ix_tup (pv 0) pe_int (fun _ _ => rfl)) (pe_ix ix_tup (pv 0) (pe_un un_neg pe_int) (fun _ _ => rfl))))
      (pss_cons (ps_asg (pe_tup (pa_cons (pe_op op_cat (pe_lst (pa_cons pe_bl pa_nil)) (pe_op op_rep (pe_lst (pa_cons pe_bl pa_nil)) (pv 1))) (pa_cons (pe_op op_rep (pe_lst (pa_cons pe_non pa_nil)) (pe_ix ix_tup (pv 0) pe_int (fun _ _ => rfl))) pa_nil)))
          (pg_tup rfl (pgs_cons (pg_name (i := 2) scLLeast.nd rfl (.inr rfl)) (pgs_cons (pg_name (i := 3) scLLeast.nd rfl (.inl rfl)) pgs_nil))))
      (pss_cons (ps_for PassesOwn.never rfl (pi_range1 (by rfl) T.range (pa_cons (pe_op op_add (pv 1) pe_int) pa_nil)) (pg_name (i := 4) scLLeast.nd rfl (.inr rfl))
        (pss_cons (ps_if (pt_cmpR op_gt (pv 4) pe_int (nomark _))
          (pss_one (ps_asg (pe_callB (cr_any rfl) (by rfl) T.any (by decide +kernel) (pa_cons
            (pe_lc (own := [("_law_one", 5)]) (g := gName 5) (tt := tYes) (by rfl) scLLeast.nd (pi_tup (pv 0))
              (blkOk_by (own := [("_law_one", 5)]) (N := ["_law_some", "_law_most", "_law_sums", "_law_found", "_law_whole", "_law_one"]) (sc := defScope sLLeast) (by decide +kernel))
              (fun _ _ _ _ _ => pg_name (i := 5) scLLeast.nd rfl (Or.inl rfl)) (fun _ _ _ _ _ => pts_nil)
              (fun _ _ _ _ _ => pe_and (pe_cmpR op_le (pv 5) (pv 4) (nomark _)) (pe_one (pe_ix (r := rIxL K) ix_list (pv 2) (pe_op op_sub (pv 4) (pv 5)) (fun _ _ => rfl))))) pa_nil))
            (pg_sub (pv 2) (pv 4) set_list))) pss_nil)
        (pss_one (ps_if (PW.pt (pw_and (pt_val (pe_ix ix_list (pv 2) (pv 4) (fun _ _ => rfl))) (pw_and1 (pt_cmpR op_isN (pe_ix ix_list (pv 3) (pe_op op_mod (pv 4) (pe_ix ix_tup (pv 0) pe_int (fun _ _ => rfl))) (fun _ _ => rfl)) pe_non (nomark _)))))
          (pss_one (ps_asg (pv 4) (pg_sub (pv 3) (pe_op op_mod (pv 4) (pe_ix ix_tup (pv 0) pe_int (fun _ _ => rfl))) set_list))) pss_nil))))
      (pss_one (ps_ret (pe_callTy call_tuple_of (by rfl) T.tuple (by decide +kernel) (pa_cons (pv 3) pa_nil))))))), ?_⟩
    -- == ()
    have fl : Flat (ns.map PyData.int) := flat_ints fun n hn => by have := L.low n hn; exact Nat.lt_of_lt_of_le (show n.natAbs < 2 ^ 10 by omega) (Nat.pow_le_pow_right (by decide) (by decide))
    refine ⟨_, rfl, Nat.zero_le _, fun p0 np0 => ?_⟩
    have s0 := same_upd (o := HO.tup []) np0
    refine ⟨_, _, .tup (SqT.of (s0 _ _ hS)) (dp_ints ns), .tup (SqT.of upd_same) .nil, shaped_tup fl, shaped_tup (flat_of (fun _ h => nomatch h)), _, rfl, ?_⟩
    rw [eqv_nil]
    cases ns with
    | nil =>
      refine iteT ⟨Nat.zero_le _, fun p np => q _ p (s0.trans (same_upd np)) (s0.free np) ?_⟩
      rw [upd_same]; rfl
    | cons n0 rest =>
      refine iteF ?_
      obtain ⟨hn1, hn2⟩ := L.low n0 List.mem_cons_self
      have hn24 := L24 n0 List.mem_cons_self
      have hz : ((n0 :: rest).map V.int) = ((n0 :: rest).dropLast.map V.int) ++ [.int ((n0 :: rest).getLast (List.cons_ne_nil _ _))] := by
        rw [← List.map_singleton, ← List.map_append, List.dropLast_concat_getLast]
      have gl : atI ((n0 :: rest).map V.int) (-1) = some (.int ((n0 :: rest).getLast (List.cons_ne_nil _ _))) := by
        rw [hz]
        exact atI_last _ _
      have g0 : atI ((n0 :: rest).map V.int) 0 = some (.int n0) := atI_nat (j := 0) rfl
      have hlast := asc_last L.asc (List.cons_ne_nil n0 rest)
      have hl1 := L.low _ (List.getLast_mem (List.cons_ne_nil n0 rest))
      have hl24 := L24 _ (List.getLast_mem (List.cons_ne_nil n0 rest))
      generalize (n0 :: rest).getLast (List.cons_ne_nil n0 rest) = la at *
      generalize hH0 : upd H p0 (HO.tup []) = H0 at *
      have h0 := s0 _ _ hS
      refine ⟨_, rfl, a, _, _, _, rfl, rfl, SqT.of h0, g0, _, rfl, _, rfl, a, _, _, _, rfl, rfl, SqT.of h0, gl, _, _, rfl, rfl, .inl ⟨by omega, by omega⟩, ?_⟩
      dsimp only
      have hM : 0 ≤ n0 * la ∧ n0 * la ≤ 576 := ⟨Int.mul_nonneg (by omega) (by omega), Int.le_trans (Int.mul_le_mul hn24 hl24 (by omega) (by decide)) (by decide)⟩
      obtain ⟨M, hMe⟩ : ∃ M : Nat, n0 * la = M := ⟨(n0 * la).toNat, by omega⟩
      rw [hMe] at hM ⊢
      -- the tables
      refine ⟨by show 1 ≤ sizeLine; decide, fun p1 np1 => ⟨by show 1 ≤ sizeLine; decide, fun p2 np2 => ?_⟩⟩
      have sa : Same H0 (upd H0 p1 (.lst [.bl true])) := same_upd np1
      have sb := same_upd (o := HO.lst [V.bl false]) np2
      refine ⟨_, rfl, p2, _, _, rfl, rfl, upd_same, by omega, by omega, ?_, fun p3 np3 => ?_⟩
      · show 1 * (M : Int).toNat ≤ sizeLine
        exact Nat.le_of_lt (small1000 (by omega))
      have sc := same_upd (o := HO.lst (List.replicate (M : Int).toNat [V.bl false]).flatten) np3
      refine ⟨p1, p3, [.bl true], _, rfl, rfl, sc _ _ (sb _ _ upd_same), upd_same, ?_, fun p4 np4 => ?_⟩
      · rw [flat_rep, List.length_replicate]
        show 1 + (M : Int).toNat ≤ sizeLine
        have : (M : Int).toNat = M := by simp
        rw [this]
        exact Nat.le_trans (show 1 + M ≤ 1001 by omega) (by decide)
      have e4 : (([V.bl true] ++ (List.replicate (M : Int).toNat [V.bl false]).flatten)) = (tab (n0 :: rest) M 0).map V.bl := by
        rw [flat_rep]
        unfold tab
        rw [List.map_append, List.map_replicate, show (M : Int).toNat = M by simp, Nat.sub_zero]
        show _ = [V.bl (rr (n0 :: rest) 0)] ++ _
        rw [rr_zero L]
      rw [e4] at *
      have s4 : Same H0 _ := ((sa.trans sb).trans sc).trans (same_upd (o := HO.lst ((tab (n0 :: rest) M 0).map V.bl)) np4)
      have n4 : H0 p4 = none := ((sa.trans sb).trans sc).free np4
      have h4 := @upd_same (upd (upd (upd H0 p1 (HO.lst [V.bl true])) p2 (HO.lst [V.bl false])) p3 (HO.lst (List.replicate (M : Int).toNat [V.bl false]).flatten)) p4 (HO.lst ((tab (n0 :: rest) M 0).map V.bl))
      generalize upd (upd (upd (upd H0 p1 (HO.lst [V.bl true])) p2 (HO.lst [V.bl false])) p3 (HO.lst (List.replicate (M : Int).toNat [V.bl false]).flatten)) p4 (HO.lst ((tab (n0 :: rest) M 0).map V.bl)) = H4 at *
      refine ⟨by show 1 ≤ sizeLine; decide, fun p5 np5 => ?_⟩
      have sd := same_upd (o := HO.lst [V.non]) np5
      refine ⟨_, rfl, a, _, _, _, rfl, rfl, SqT.of (sd _ _ (s4 _ _ h0)), g0, p5, _, _, rfl, rfl, upd_same, by omega, by omega, ?_, fun p6 np6 => ?_⟩
      · show 1 * n0.toNat ≤ sizeLine
        exact Nat.le_of_lt (small1000 (by omega))
      obtain ⟨hR, hlen⟩ := lens_rep L
      have e6 : (List.replicate n0.toNat [V.non]).flatten = (seen 0 (leasts ((n0 :: rest).map Int.toNat))).map optV := by
        rw [flat_rep, seen_zero, hlen, List.map_replicate]
        rfl
      rw [e6] at *
      have se := same_upd (o := HO.lst ((seen 0 (leasts ((n0 :: rest).map Int.toNat))).map optV)) np6
      refine ⟨by show 2 ≤ sizeLine; decide, fun t nt => ?_⟩
      have sf := same_upd (o := HO.tup [V.ref p4, V.ref p6]) nt
      refine ⟨t, _, rfl, SqT.of upd_same, rfl, _, _, rfl, _, _, rfl, rfl, ?_⟩
      have s7 : Same H0 _ := s4.trans ((sd.trans se).trans sf)
      have n6 : H4 p6 = none := sd.free np6
      have h74 := sf _ _ (se _ _ (sd _ _ h4))
      have h76 := sf _ _ (@upd_same (upd H4 p5 (HO.lst [V.non])) p6 (HO.lst ((seen 0 (leasts ((n0 :: rest).map Int.toNat))).map optV)))
      have n60 : H0 p6 = none := s4.free n6
      have hp46 : p4 ≠ p6 := ne_of_none h4 n6
      generalize upd (upd (upd H4 p5 (HO.lst [V.non])) p6 (HO.lst ((seen 0 (leasts ((n0 :: rest).map Int.toNat))).map optV))) t (HO.tup [V.ref p4, V.ref p6]) = H7 at *
      generalize hA : leasts ((n0 :: rest).map Int.toNat) = AA at *
      clear e4 e6 sa sb sc sd se sf np0 np1 np2 np3 np4 np5 np6 nt h4
      have hbound : ∀ r x, AA.getD r none = some x → x ≤ M := fun r x hx => by
        have hb := least_le hR (M := la.toNat) (fun l hl => by
          obtain ⟨z, hz, rfl⟩ := List.mem_map.mp hl
          have h1 := L.low z hz
          have h2 := hlast z hz
          omega) hx
        rw [hlen] at hb
        have h3 : (n0.toNat - 1) * la.toNat ≤ n0.toNat * la.toNat := Nat.mul_le_mul_right _ (Nat.sub_le _ _)
        have h4 : n0.toNat * la.toNat = M := by
          have : ((n0.toNat * la.toNat : Nat) : Int) = M := by
            rw [Int.natCast_mul, Int.toNat_of_nonneg (by omega), Int.toNat_of_nonneg (by omega)]
            exact hMe
          omega
        omega
      -- for whole in range(most + 1)
      refine ⟨_, rfl, _, _, rfl, rfl, _, rfl, by omega, by omega, for_range (lo := 0) (fun i σ H8 => ∃ y, σ = [some (.ref a), some (.int M), some (.ref p4), some (.ref p6), y, none] ∧ Same H0 H8 ∧ H8 p4 = some (.lst ((tab (n0 :: rest) M (i - 1)).map V.bl)) ∧ H8 p6 = some (.lst ((seen i AA).map optV)))
        ⟨none, rfl, s7, h74, h76⟩ ?_ ?_⟩
      · rintro i σ H8 hi ⟨y, rfl, s8, h84, h86⟩
        have hiM : i ≤ M := by omega
        rw [Int.zero_add]
        have hS8 := s8 _ _ h0
        -- behind the first if: the table is right at i too
        have second : ∀ H9 : Hp, Same H0 H9 → H9 p4 = some (.lst ((tab (n0 :: rest) M i).map V.bl)) → H9 p6 = some (.lst ((seen i AA).map optV)) →
            (tIfS (tAnd (tTest (tOp (rIxL K) (tVar 2) (tVar 4))) (tTest (tOp (fun x y H Q => y = V.non ∧ Q (.bl (decide (x = .non))) H) (tOp (rIxL K) (tVar 3) (tOp (rI (fun _ j => 0 < j) fun i j => .int (i % j)) (tVar 4) (tOp (rIxT K) (tVar 0) (tC (.int 0))))) (tC .non))))
              (tAsg (tVar 4) (gSub (tVar 3) (tOp (rI (fun _ j => 0 < j) fun i j => .int (i % j)) (tVar 4) (tOp (rIxT K) (tVar 0) (tC (.int 0)))) rSetL)) tNext : TS)
              { nx := (fun σ H8 => ∃ y, σ = [some (.ref a), some (.int M), some (.ref p4), some (.ref p6), y, none] ∧ Same H0 H8 ∧ H8 p4 = some (.lst ((tab (n0 :: rest) M (i + 1 - 1)).map V.bl)) ∧ H8 p6 = some (.lst ((seen (i + 1) AA).map optV))), rt := Q } [some (.ref a), some (.int M), some (.ref p4), some (.ref p6), some (.int (i : Int)), none] H9 := by
          intro H9 s9 h94 h96
          have hS9 := s9 _ _ h0
          have em : ((i : Int) % n0) = ((i % n0.toNat : Nat) : Int) := by
            have : n0 = (n0.toNat : Int) := by omega
            rw [this]; simp
          have hmod : i % n0.toNat < AA.length := by rw [hlen]; exact Nat.mod_lt _ (by omega)
          have hmod2 : i % n0.toNat < (seen i AA).length := by rw [seen_len]; exact hmod
          refine ⟨_, rfl, _, rfl, p4, _, _, .bl (rr (n0 :: rest) i), rfl, rfl, SqL.of h94, atI_nat (by rw [List.getElem?_map, tab_low _ _ _ (Nat.le_refl i)]; rfl), _, rfl, ?_⟩
          cases hrr : rr (n0 :: rest) i with
          | false =>
            refine iteF ?_
            refine iteF ⟨_, rfl, s9, h94, ?_⟩
            rw [h96, seen_keep hR (i := i) fun z => absurd ((rr_iff L i).mpr z) (by rw [hrr]; decide)]
          | true =>
            have hSi := (rr_iff L i).mp hrr
            refine iteT ?_
            cases eo : (seen i AA).getD (i % n0.toNat) none with
            | none =>
              refine ⟨_, rfl, _, rfl, _, rfl, a, _, _, _, rfl, rfl, SqT.of hS9, g0, _, _, rfl, rfl, (show 0 < n0 by omega), p6, _, _, .non, rfl, rfl, SqL.of h96, (by rw [em]; exact atI_nat (at_opt hmod2 eo)), rfl, _, rfl, ?_⟩
              refine iteT ⟨_, rfl, _, rfl, _, rfl, _, rfl, a, _, _, _, rfl, rfl, SqT.of hS9, g0, _, _, rfl, rfl, (show 0 < n0 by omega), p6, _, _, i % n0.toNat, rfl, rfl, h96, (by rw [em, List.length_map]; exact ixN_at hmod2), ?_⟩
              refine ⟨_, rfl, fun b o e => ?_, ?_, ?_⟩
              · rw [upd_ne (ne_of_none e n60)]
                exact s9 b o e
              · rw [upd_ne hp46]
                exact h94
              · rw [upd_same, set_opt]
                have := seen_set hR hSi (by rw [hlen]; exact eo)
                rw [hlen] at this
                rw [this]
            | some x =>
              refine ⟨_, rfl, _, rfl, _, rfl, a, _, _, _, rfl, rfl, SqT.of hS9, g0, _, _, rfl, rfl, (show 0 < n0 by omega), p6, _, _, .int x, rfl, rfl, SqL.of h96, (by rw [em]; exact atI_nat (at_opt hmod2 eo)), rfl, _, rfl, ?_⟩
              refine iteF ⟨_, rfl, s9, h94, ?_⟩
              rw [h96, seen_keep hR (i := i) fun _ => by rw [hlen, eo]; exact fun z => nomatch z]
        refine ⟨_, rfl, _, _, rfl, rfl, _, rfl, ?_⟩
        by_cases hi0 : (0 : Int) < (i : Int)
        · rw [decide_eq_true hi0]
          obtain ⟨j, rfl⟩ : ∃ j, i = j + 1 := ⟨i - 1, by omega⟩
          refine iteT ?_
          refine ⟨_, rfl, a, rfl, ⟨_, SqT.of hS8⟩, fun D nD => lc_tup (K := K) (a := a) (xs := (n0 :: rest).map V.int) (fun m H6 => Mk H8 H6 D ((((n0 :: rest).take m).map (fits (n0 :: rest) ((j + 1 : Nat) : Int))).map V.bl)) (.start nD) (fun m H6 _ p => p.same.tup (SqT.of hS8)) ?_ ?_⟩
          · intro m x H6 hx mk
            have hm : m < (n0 :: rest).length := by
              have := (List.getElem?_eq_some_iff.mp hx).1
              rwa [List.length_map] at this
            have ex : x = .int (n0 :: rest)[m] := by
              rw [List.getElem?_map, List.getElem?_eq_getElem hm] at hx
              exact (Option.some.inj hx).symm
            subst ex
            have hb := L.low _ (List.getElem_mem hm)
            have fin : ∀ (b : Bool) (H7 : Hp), H7 = H6 → b = fits (n0 :: rest) ((j + 1 : Nat) : Int) (n0 :: rest)[m] → ∃ acc, H7 D = some (.lst acc) ∧ acc.length < sizeLine ∧ Mk H8 (upd H7 D (.lst (acc ++ [V.bl b]))) D ((((n0 :: rest).take (m + 1)).map (fits (n0 :: rest) ((j + 1 : Nat) : Int))).map V.bl) := by
              rintro b H7 rfl rfl
              refine ⟨_, mk.at_, ?_, ?_⟩
              · rw [List.length_map, List.length_map, List.length_take]
                exact small1000 (by have := L.few; omega)
              · rw [take_more (List.getElem?_eq_getElem hm), List.map_append, List.map_append]
                exact mk.put (Same.refl _)
            refine ⟨rfl, _, rfl, _, rfl, _, _, rfl, rfl, _, rfl, ?_⟩
            by_cases c : (n0 :: rest)[m] ≤ ((j + 1 : Nat) : Int)
            · rw [decide_eq_true c]
              have hidx : ((j + 1 : Nat) : Int) - (n0 :: rest)[m] = ((((j + 1 : Nat) : Int) - (n0 :: rest)[m]).toNat : Nat) := by omega
              refine iteT ⟨_, rfl, _, rfl, _, rfl, _, _, rfl, rfl, p4, _, _, .bl (rr (n0 :: rest) (((j + 1 : Nat) : Int) - (n0 :: rest)[m]).toNat), rfl, rfl, SqL.of (mk.same _ _ h84), ?_, ?_⟩
              · rw [hidx]
                refine atI_nat ?_
                rw [List.getElem?_map, tab_low _ M (j + 1 - 1) (by omega)]
                rfl
              · exact fin _ _ rfl (by unfold fits; rw [if_pos c])
            · rw [decide_eq_false c]
              exact iteF (fin _ _ rfl (by unfold fits; rw [if_neg c]))
          · intro H6 mk
            rw [List.length_map, List.take_length] at mk
            refine ⟨D, _, rfl, SqL.of mk.at_, ?_⟩
            have ea : ((n0 :: rest).map (fits (n0 :: rest) ((j + 1 : Nat) : Int))).any id = rr (n0 :: rest) (j + 1) := by
              rw [List.any_map]
              exact rr_any L (Nat.succ_pos j)
            rw [ea]
            have nDp4 : p4 ≠ D := ne_of_none h84 nD
            refine ⟨_, rfl, _, rfl, p4, _, _, j + 1, rfl, rfl, mk.same _ _ h84, (by rw [List.length_map, tab_len _ (by omega)]; exact ixN_at (by omega)), ?_⟩
            refine second _ (fun b o e => ?_) ?_ ?_
            · rw [upd_ne (ne_of_none e n4)]
              exact mk.same _ _ (s8 b o e)
            · rw [upd_same, ← tab_step _ (show j < M by omega), List.map_set]
              rfl
            · rw [upd_ne (Ne.symm hp46)]
              exact mk.same _ _ h86
        · rw [decide_eq_false hi0]
          have : i = 0 := by omega
          subst this
          exact iteF (second H8 s8 h84 h86)
      · rintro σ H8 ⟨y, rfl, s8, h84, h86⟩
        have eM : ((M : Int) + 1).toNat = M + 1 := by omega
        rw [eM, seen_all hbound] at h86
        refine ⟨_, rfl, p6, _, rfl, .inl ⟨SqL.of h86, fun p np => q _ p ((s0.trans s8).trans (same_upd np)) ((s0.trans s8).free np) ?_⟩⟩
        exact upd_same
end
end Ov
namespace Ov
open PySem PySem.Spec PyProof.Rows L2
section
variable {P : Program} {w : World} {K : PySem.W.Frag} {mg : Str → Option Value} {base : Heap}
/-- one divides all -/
def divs (ns : List Int) (d : Int) : Bool := ns.all fun z => decide (V.int (z % d) = V.int 0)
def spLDivisor : Sp := fun vs H Q _ => ∃ (a : Addr) (ns : List Int), vs = [.ref a] ∧ H a = some (.tup (ns.map V.int)) ∧ Lens ns ∧ (∀ y ∈ ns, y ≤ 24) ∧ ∀ H', Same H H' → Q (.int (gcdAll (ns.map Int.toNat) : Nat)) H'
theorem scLDivisor : FnScope ["_law_some", "_law_found", "_law_one", "_law_length"] ["_law_some"] (defScope sLDivisor) := ⟨rfl, rfl, rfl, by decide +kernel, rfl, by decide +kernel, by decide +kernel⟩
theorem ok_ldivisor {f : Addr} {fd : FuncData} {k : Nat} (F : Fun K "_law_divisor" "_law_divisor" sLDivisor f fd) (T : Bi mg) : FnOk P w K mg base CX0 (k + 1) f fd ["_law_some"] spLDivisor := by
  refine F.ok scLDivisor (fun vs H Q E h => ?_) (fun cdv A' outer s H vs Q E hr h => ?_)
  · obtain ⟨a, ns, rfl, _⟩ := h
    rfl
  · obtain ⟨a, ns, rfl, hS, L, L24, q⟩ := h
    refine ⟨_, pss_cons (ps_setLc (i := 1) (own := [("_law_one", 2)]) (g := gName 2)
        (tt := tB (tCB (rAll K) (tCons (tLc (iTup K (tVar 0)) (gName 3) tYes (tOp rEq (tOp (rI (fun _ j => 0 < j) fun i j => .int (i % j)) (tVar 3) (tVar 2)) (tC (.int 0))) [3]) tNil)))
        (by rfl) scLDivisor.nd rfl rfl (sw_true rfl rfl rfl (by decide +kernel)) (pi_range2 (by rfl) T.range (pa_cons pe_int (pa_cons pe_int pa_nil)))
        (blkOk_by (own := [("_law_one", 2)]) (N := ["_law_some", "_law_found", "_law_one", "_law_length"]) (sc := defScope sLDivisor) (by decide +kernel))
        (fun _ _ _ _ _ => pg_name (i := 2) scLDivisor.nd rfl (Or.inr rfl))
        (fun _ _ _ _ _ => pts_one (pt_val (pe_callB (cr_all rfl) (by rfl) T.all (by decide +kernel) (pa_cons
          (pe_lc (own := [("_law_length", 3)]) (g := gName 3) (tt := tYes) (by rfl) scLDivisor.nd (pi_tup (pv 0)) (blkOk_by (own := [("_law_length", 3)]) (N := ["_law_some", "_law_found", "_law_one", "_law_length"]) (sc := { kind := .function, names := [(".0", .local), ("_law_one", .cell), ("all", .globalImplicit), ("_law_some", .cell)], isGenerator := false, isCoroutine := false }) (by decide +kernel))
            (fun _ _ _ _ _ => pg_name (i := 3) scLDivisor.nd rfl (Or.inl rfl)) (fun _ _ _ _ _ => pts_nil)
            (fun _ _ _ _ _ => pe_cmpR op_eq (pe_op op_mod (pv 3) (pv 2)) pe_int (nomark _))) pa_nil))))
        (fun _ _ _ _ _ => pv 2))
      (pss_one (ps_ret (pe_ifExp (pt_cmpR (op_neD hr.units) (pv 0) (pe_tup pa_nil) (nomark _)) (pe_ix ix_list (pv 1) (pe_un un_neg pe_int) (fun _ _ => rfl)) pe_int))), ?_⟩
    refine ⟨1, 25, rfl, ⟨by decide, by decide, by decide, by decide⟩, fun D nD => lc_range (lo := 1) (n := 24) (fun i H2 => Mk H H2 D (((List.range i).filter fun j : Nat => divs ns (1 + (j : Int))).map fun j : Nat => V.int (1 + (j : Int)))) (.start nD) ?_ ?_⟩
    · intro i H2 hi mk
      have hS2 := mk.same _ _ hS
      refine ⟨rfl, _, rfl, a, rfl, ⟨_, SqT.of hS2⟩, fun D2 nD2 => lc_tup (K := K) (a := a) (xs := ns.map V.int) (fun j H3 => Mk H2 H3 D2 (((ns.take j).map fun z => decide (V.int (z % (1 + (i : Int))) = V.int 0)).map V.bl)) (.start nD2) (fun j H3 _ p => p.same.tup (SqT.of hS2)) ?_ ?_⟩
      · intro j x H3 hx m3
        have hj : j < ns.length := by
          have := (List.getElem?_eq_some_iff.mp hx).1
          rwa [List.length_map] at this
        have ex : x = .int ns[j] := by
          rw [List.getElem?_map, List.getElem?_eq_getElem hj] at hx
          exact (Option.some.inj hx).symm
        subst ex
        refine ⟨rfl, _, rfl, _, rfl, _, _, rfl, rfl, (show (0 : Int) < 1 + (i : Int) by omega), rfl, _, m3.at_, ?_, ?_⟩
        · rw [List.length_map, List.length_map, List.length_take]
          exact small1000 (by have := L.few; omega)
        · rw [take_more (List.getElem?_eq_getElem hj), List.map_append, List.map_append]
          exact m3.put (Same.refl _)
      · intro H3 m3
        rw [List.length_map, List.take_length] at m3
        refine ⟨D2, _, rfl, SqL.of m3.at_, _, rfl, ?_⟩
        have ed : (ns.map fun z => decide (V.int (z % (1 + (i : Int))) = V.int 0)).all id = divs ns (1 + (i : Int)) := by
          rw [List.all_map]; rfl
        rw [ed]
        have hD2D : D ≠ D2 := ne_of_none mk.at_ nD2
        cases hdv : divs ns (1 + (i : Int)) with
        | true =>
          refine iteT ⟨_, rfl, _, m3.same _ _ mk.at_, ?_, ?_⟩
          · rw [List.length_map]
            have h1 := List.length_filter_le (fun j => divs ns (1 + ((j : Nat) : Int))) (List.range i)
            rw [List.length_range] at h1
            exact small1000 (by omega)
          · rw [List.range_succ, List.filter_append, List.map_append, List.filter_cons, hdv]
            exact mk.put m3.same
        | false =>
          refine iteF ?_
          rw [List.range_succ, List.filter_append, List.map_append, List.filter_cons, hdv]
          exact ⟨mk.same.trans m3.same, nD, by rw [m3.same _ _ mk.at_]; simp⟩
    · intro H2 mk
      have hS2 := mk.same _ _ hS
      have fl : Flat (ns.map PyData.int) := flat_ints fun n hn => by have := L.low n hn; exact Nat.lt_of_lt_of_le (show n.natAbs < 2 ^ 10 by omega) (Nat.pow_le_pow_right (by decide) (by decide))
      refine ⟨_, rfl, Nat.zero_le _, fun p0 np0 => ?_⟩
      have s0 := same_upd (o := HO.tup []) np0
      refine ⟨_, _, .tup (SqT.of (s0 _ _ hS2)) (dp_ints ns), .tup (SqT.of upd_same) .nil, shaped_tup fl, shaped_tup (flat_of (fun _ h => nomatch h)), _, rfl, ?_⟩
      rw [eqv_nil]
      cases ns with
      | nil => exact iteF (q _ (mk.same.trans s0))
      | cons n0 rest =>
        refine iteT ?_
        have n0b := L.low n0 List.mem_cons_self
        have n024 := L24 n0 List.mem_cons_self
        generalize hG : gcdAll ((n0 :: rest).map Int.toNat) = G at *
        have hGd : ∀ z ∈ (n0 :: rest), G ∣ z.toNat := fun z hz => by rw [← hG]; exact gcdAll_dvd (List.mem_map.mpr ⟨z, hz, rfl⟩)
        have hG1 : 0 < G := by
          rcases Nat.eq_zero_or_pos G with e | e
          · have := hGd n0 List.mem_cons_self
            rw [e, Nat.zero_dvd] at this
            omega
          · exact e
        have hG24 : G ≤ 24 := Nat.le_trans (Nat.le_of_dvd (by omega) (hGd n0 List.mem_cons_self)) (by omega)
        have hdv : ∀ j : Nat, divs (n0 :: rest) (1 + (j : Int)) = true ↔ (j + 1) ∣ G := by
          intro j
          unfold divs
          rw [List.all_eq_true]
          constructor
          · intro h
            rw [← hG]
            refine dvd_gcdAll fun l hl => ?_
            obtain ⟨z, hz, rfl⟩ := List.mem_map.mp hl
            have h1 := V.int.inj (of_decide_eq_true (h z hz))
            have h2 := L.low z hz
            have h3 : ((j + 1 : Nat) : Int) ∣ (z.toNat : Int) := by
              rw [Int.toNat_of_nonneg (by omega)]
              exact Int.dvd_of_emod_eq_zero (by rw [show ((j + 1 : Nat) : Int) = 1 + (j : Int) by omega]; exact h1)
            exact Int.natCast_dvd_natCast.mp h3
          · intro h z hz
            refine decide_eq_true (congrArg V.int ?_)
            have h2 := L.low z hz
            have h3 := Int.natCast_dvd_natCast.mpr (Nat.dvd_trans h (hGd z hz))
            rw [Int.toNat_of_nonneg (by omega)] at h3
            rw [show (1 : Int) + (j : Int) = ((j + 1 : Nat) : Int) by omega]
            exact Int.emod_eq_zero_of_dvd h3
        have ef := filter_top (p := fun j : Nat => divs (n0 :: rest) (1 + (j : Int))) (g := G - 1) ((hdv (G - 1)).mpr (by rw [Nat.sub_add_cancel hG1]; exact Nat.dvd_refl G)) (fun i hi => by
          cases e : divs (n0 :: rest) (1 + (i : Int)) with
          | false => rfl
          | true => exact absurd (Nat.le_of_dvd hG1 ((hdv i).mp e)) (by omega)) 24 (by omega)
        have hD := s0 _ _ mk.at_
        rw [ef, List.map_append] at hD
        refine ⟨_, rfl, _, rfl, D, _, _, _, rfl, rfl, SqL.of hD, atI_last _ _, ?_⟩
        show Q (V.int ((1 : Int) + ((G - 1 : Nat) : Int))) _
        rw [show (1 : Int) + ((G - 1 : Nat) : Int) = (G : Int) by omega]
        exact q _ (mk.same.trans s0)
end
end Ov
namespace Ov
open PySem PySem.Spec PyProof.Rows L2
/-! ### least sums as data -/
def optD : Option Nat → PyData
  | none => .none
  | some x => .int x
theorem dp_opts {K : PySem.W.Frag} {H : Hp} : ∀ a : List (Option Nat), DpAll K H (a.map optV) (a.map optD)
  | [] => .nil
  | none :: a => .cons .non (dp_opts a)
  | some x :: a => .cons (.int x) (dp_opts a)
theorem leasts_small {ns : List Int} (L : Lens ns) : (leasts (ns.map Int.toNat)).length ≤ 1000 ∧ ∀ o ∈ leasts (ns.map Int.toNat), ∀ x, o = some x → x ≤ 1000000 := by
  cases ns with
  | nil => exact ⟨Nat.zero_le _, fun o h => nomatch h⟩
  | cons n0 rest =>
    obtain ⟨hR, hlen⟩ := lens_rep L
    have hn := L.low n0 List.mem_cons_self
    refine ⟨by omega, fun o ho x e => ?_⟩
    subst e
    obtain ⟨r, hr⟩ := List.mem_iff_getElem?.mp ho
    have hb := least_le hR (M := 1000) (fun l hl => by
      obtain ⟨z, hz, rfl⟩ := List.mem_map.mp hl
      have := L.low z hz
      omega) (r := r) (x := x) (by rw [List.getD_eq_getElem?_getD, hr]; rfl)
    rw [hlen] at hb
    have : (n0.toNat - 1) * 1000 ≤ 1000 * 1000 := Nat.mul_le_mul_right _ (by omega)
    omega
theorem small_nat {x : Nat} (h : x ≤ 1000000) : ((x : Int)).natAbs < 2 ^ 1000 := by
  rw [Int.natAbs_natCast]
  exact Nat.lt_of_lt_of_le (show x < 2 ^ 20 by omega) (Nat.pow_le_pow_right (by decide) (by decide))
theorem flat_opts {a : List (Option Nat)} (h : ∀ o ∈ a, ∀ x, o = some x → x ≤ 1000000) : Flat (a.map optD) := flat_of fun d hd => by
  obtain ⟨o, ho, rfl⟩ := List.mem_map.mp hd
  cases o with
  | none => exact .non
  | some x => exact .small (small_nat (h _ ho x rfl))
/-- one value by its keyword -/
def one1 {α : Type} : List α → List α → List α
  | [], [a] => [a]
  | _, _ => []
theorem one1_len {α : Type} {us ws : List α} (h : (one1 us ws).length = 1) : ∃ a, us = [] ∧ ws = [a] := by
  match us, ws, h with
  | [], [a], _ => exact ⟨a, rfl, rfl⟩
  | [], [], h => cases h
  | [], _ :: _ :: _, h => cases h
  | _ :: _, _, h => cases h
theorem one1_rel {vs : List V} {us : List Value} {zs : List V} {ws : List Value} (r : Vals vs us) (rz : Vals zs ws) : Vals (one1 vs zs) (one1 us ws) := by
  cases r with
  | nil =>
    cases rz with
    | nil => exact .nil
    | cons r1 rz =>
      cases rz with
      | nil => exact .cons r1 .nil
      | cons r2 rz => exact .nil
  | cons r1 r => exact .nil
section
variable {P : Program} {w : World} {K : PySem.W.Frag} {mg : Str → Option Value} {base : Heap}
def spLaw (K : PySem.W.Frag) : Sp := fun vs H Q _ => ∃ (a : Addr) (ns : List Int), vs = [.ref a] ∧ SqL K H a (ns.map V.int) ∧ ns.length ≤ 63 ∧ ∀ H', Q (.bl true) H'
theorem scLaw : FnScope ["_law_script", "_law_k", "_law_box_here", "_law_turn", "_law_some"] ["_law_script"] (defScope sLaw) := ⟨rfl, rfl, rfl, by decide +kernel, rfl, by decide +kernel, by decide +kernel⟩
theorem same_but {p : Addr} {H H1 H2 : Hp} (hp : H p = none) (s : Same H H1) (b : But p H1 H2) : Same H H2 := fun c o e => b c o (s c o e) (ne_of_none e hp)
theorem ok_law {f fB fD fL fC fLL fLD : Addr} {fd fdB fdD fdL fdC fdLL fdLD : FuncData} {k : Nat} (F : Fun K "law" "law" sLaw f fd) (T : Bi mg)
    (B : Def K mg "_law_box" sBox fB fdB ["_law_script", "_law_k"]) (GB : FnOk P w K mg base CX0 k fB fdB ["_law_script", "_law_k"] (spBox K))
    (Dr : Def K mg "_law_drawn" sDrawn fD fdD ["_law_box_here"]) (GD : FnOk P w K mg base CX0 k fD fdD ["_law_box_here"] spDrawn)
    (Le : Def K mg "least_sums" sLeast fL fdL ["lengths"]) (GL : FnOk P w K mg base CX0 k fL fdL ["lengths"] spLeast) (KL : KBinds K fdL ["lengths"] ["lengths"] one1 one1)
    (Co : Def K mg "common_divisor" sCommon fC fdC ["lengths"]) (GC : FnOk P w K mg base CX0 k fC fdC ["lengths"] spCommon) (KC : KBinds K fdC ["lengths"] ["lengths"] one1 one1)
    (LL : Def K mg "_law_least" sLLeast fLL fdLL ["_law_some"]) (GLL : FnOk P w K mg base CX0 k fLL fdLL ["_law_some"] spLLeast)
    (LD : Def K mg "_law_divisor" sLDivisor fLD fdLD ["_law_some"]) (GLD : FnOk P w K mg base CX0 k fLD fdLD ["_law_some"] spLDivisor) :
    FnG P w K mg base (k + 1) f fd ["_law_script"] (spLaw K) := by
  refine okG F scLaw (fun vs H Q E h => ?_) (fun cdv A' outer s H vs Q E gd hr h => ?_)
  · obtain ⟨a, ns, rfl, _⟩ := h
    rfl
  · obtain ⟨a, ns, rfl, hS, hlen, q⟩ := h
    refine ⟨_, pss_cons (ps_for PassesOwn.never rfl (pi_range1 (by rfl) T.range (pa_cons (pe_op op_add pe_int (pe_callB (call_min2 rfl) (by rfl) T.min (by decide +kernel) (pa_cons pe_int (pa_cons (pe_callB call_len_seq (by rfl) T.len PySem.boot_len (pa_cons (pv 0) pa_nil)) pa_nil)))) pa_nil)) (pg_name (i := 1) scLaw.nd rfl (.inl rfl))
        (pss_cons (ps_set (i := 2) scLaw.nd rfl (.inl rfl) (pe_call GB hr (by rfl) B.gl B.fn.kp B.bi .nil pass0 (pa_cons (pv 0) (pa_cons (pv 1) pa_nil))))
        (pss_cons (ps_for PassesOwn.never rfl (pi_range1 (by rfl) T.range (pa_cons pe_int pa_nil)) (pg_name (i := 3) scLaw.nd rfl (.inl rfl))
          (pss_cons (ps_set (i := 4) scLaw.nd rfl (.inl rfl) (pe_call GD hr (by rfl) Dr.gl Dr.fn.kp Dr.bi .nil pass0 (pa_cons (pv 2) pa_nil)))
          (pss_one (ps_if (pt_cmpR op_ne
              (pe_callB (call_repr_data gd hr) (by rfl) T.repr (by decide +kernel) (pa_cons (pe_lst (pa_cons (pe_call GL hr (by rfl) Le.gl Le.fn.kp Le.bi .nil pass0 (pa_cons (pv 4) pa_nil)) (pa_cons (pe_call GC hr (by rfl) Co.gl Co.fn.kp Co.bi .nil pass0 (pa_cons (pv 4) pa_nil)) pa_nil))) pa_nil))
              (pe_callB (call_repr_data gd hr) (by rfl) T.repr (by decide +kernel) (pa_cons (pe_lst (pa_cons (pe_call GLL hr (by rfl) LL.gl LL.fn.kp LL.bi .nil pass0 (pa_cons (pv 4) pa_nil)) (pa_cons (pe_call GLD hr (by rfl) LD.gl LD.fn.kp LD.bi .nil pass0 (pa_cons (pv 4) pa_nil)) pa_nil))) pa_nil)) (nomark _)) (pss_one (ps_ret pe_bl)) pss_nil))))
        (pss_one (ps_if (PW.pt (pw_or (pt_cmpR (op_neD hr.units) (pe_callK0 GL hr (by rfl) Le.gl Le.fn.kp KL pass0 (pk_cons (pv 4) pk_nil)) (pe_call GL hr (by rfl) Le.gl Le.fn.kp Le.bi .nil pass0 (pa_cons (pv 4) pa_nil)) (nomark _))
            (pw_or1 (pt_cmpR op_ne (pe_callK0 GC hr (by rfl) Co.gl Co.fn.kp KC pass0 (pk_cons (pv 4) pk_nil)) (pe_call GC hr (by rfl) Co.gl Co.fn.kp Co.bi .nil pass0 (pa_cons (pv 4) pa_nil)) (nomark _))))) (pss_one (ps_ret pe_bl)) pss_nil)))))
      (pss_one (ps_ret pe_bl)), ?_⟩
    refine ⟨_, rfl, a, _, rfl, .inl hS, _, _, rfl, _, _, rfl, rfl, _, rfl, ?_, ?_, for_range (lo := 0) (fun i σ H2 => ∃ y1 y2 y3 y4, σ = [some (.ref a), y1, y2, y3, y4] ∧ Same H H2)
      ⟨none, none, none, none, rfl, Same.refl _⟩ ?_ (fun σ H2 ⟨_, _, _, _, _, _⟩ => q H2)⟩
    · split <;> omega
    · split <;> omega
    rintro i σ H2 hi ⟨y1, y2, y3, y4, rfl, s2⟩
    have hi4 : i < 4 := by
      revert hi
      split <;> omega
    refine ⟨_, rfl, _, rfl, a, ns, i, (by rw [Int.zero_add]; rfl), s2.seq hS, by omega, fun H3 p s3 np B3 => ?_⟩
    refine ⟨4, rfl, by decide, by decide, for_range (lo := 0) (n := 4) (fun j σ H4 => ∃ y3 y4, σ = [some (.ref a), some (.int (0 + (i : Int))), some (.ref p), y3, y4] ∧ Same H2 H4 ∧ BoxAt H4 p (20 * j) ∧ (0 < j → ∃ (t : Addr) (ms : List Int), y4 = some (.ref t) ∧ H4 t = some (.tup (ms.map V.int)) ∧ Lens ms))
      ⟨y3, y4, rfl, s3, B3, fun z => absurd z (by decide)⟩ ?_ ?_⟩
    · rintro j σ H4 hj ⟨y3, y4, rfl, s4, B4, _⟩
      refine ⟨_, rfl, p, 20 * j, rfl, B4, by omega, fun H5 t ms b5 B5 nt ht L L24 => ?_⟩
      have s5 : Same H2 H5 := same_but np s4 b5
      obtain ⟨ll, lsm⟩ := leasts_small L
      have fl := flat_opts lsm
      -- the program's answers
      refine ⟨_, rfl, t, ms, rfl, ht, L, fun H6 p6 s6 n6 h6 => ?_⟩
      refine ⟨_, rfl, t, ms, rfl, s6 _ _ ht, L, fun H7 s7 => ?_⟩
      refine ⟨by show 2 ≤ sizeLine; decide, fun l1 nl1 => ?_⟩
      have t7 := same_upd (o := HO.lst [V.ref p6, V.int (gcdAll (ms.map Int.toNat) : Nat)]) nl1
      have hg : gcdAll (ms.map Int.toNat) ≤ 1000 := by
        cases ms with
        | nil => exact Nat.zero_le _
        | cons m0 r =>
          have h1 := L.low m0 List.mem_cons_self
          exact Nat.le_trans (Nat.le_of_dvd (by omega) (gcdAll_dvd (l := m0.toNat) (List.mem_map.mpr ⟨m0, List.mem_cons_self, rfl⟩))) (by omega)
      have hsc : Sc (.int ((gcdAll (ms.map Int.toNat) : Nat) : Int)) := .small (small_nat (by omega))
      generalize hd : PyData.list [.tuple ((leasts (ms.map Int.toNat)).map optD), .int ((gcdAll (ms.map Int.toNat) : Nat) : Int)] = d
      have d1 : d.showable = true := by
        subst hd
        cases hsc with
        | int _ h =>
          simp only [PyData.showable, PyData.showableAll, fl.sh, Bool.true_and, Bool.and_true]
          exact decide_eq_true h
      have d2 : d.hasDict = false := by subst hd; simp [PyData.hasDict, PyData.hasDictAll, fl.nod]
      have d3 : d.depth ≤ 60 := by subst hd; simp [PyData.depth, PyData.depthAll, fl.dep]
      have d4 : d.shown.length ≤ sizeLine := fits_shown d1 (by
        subst hd
        simp only [nodes, nodesAll, fl.nds, List.length_map]
        omega)
      have mkD : ∀ (Hx : Hp) (l pl : Addr), Hx l = some (.lst [V.ref pl, V.int (gcdAll (ms.map Int.toNat) : Nat)]) → Hx pl = some (.tup ((leasts (ms.map Int.toNat)).map optV)) → Dp K Hx (.ref l) d := fun Hx l pl h1 h2 => by
        subst hd
        exact .lst (SqL.of h1) (.cons (.tup (SqT.of h2) (dp_opts _)) (.cons (.int _) .nil))
      refine ⟨l1, d, rfl, mkD _ _ _ upd_same (t7 _ _ (s7 _ _ h6)), d1, d2, d3, d4, ?_⟩
      -- the law's
      have ht8 := t7 _ _ (s7 _ _ (s6 _ _ ht))
      have s58 : Same H5 (upd H7 l1 (HO.lst [V.ref p6, V.int (gcdAll (ms.map Int.toNat) : Nat)])) := (s6.trans s7).trans t7
      generalize upd H7 l1 (HO.lst [V.ref p6, V.int (gcdAll (ms.map Int.toNat) : Nat)]) = H8 at *
      refine ⟨_, rfl, t, ms, rfl, ht8, L, L24, fun H9 p9 s9 n9 h9 => ?_⟩
      refine ⟨_, rfl, t, ms, rfl, s9 _ _ ht8, L, L24, fun H10 s10 => ?_⟩
      refine ⟨by show 2 ≤ sizeLine; decide, fun l2 nl2 => ?_⟩
      have t10 := same_upd (o := HO.lst [V.ref p9, V.int (gcdAll (ms.map Int.toNat) : Nat)]) nl2
      refine ⟨l2, d, rfl, mkD _ _ _ upd_same (t10 _ _ (s10 _ _ h9)), d1, d2, d3, d4, rfl, _, rfl, ?_⟩
      rw [decide_eq_true rfl]
      have s511 := s58.trans ((s9.trans s10).trans t10)
      exact iteF ⟨_, _, rfl, s5.trans s511, B5.same s511, fun _ => ⟨t, ms, rfl, s511 _ _ ht, L⟩⟩
    · rintro σ H4 ⟨y3, y4, rfl, s4, B4, hj⟩
      obtain ⟨t, ms, rfl, ht, L⟩ := hj (by decide)
      obtain ⟨ll, lsm⟩ := leasts_small L
      have fl := flat_opts lsm
      refine ⟨_, rfl, t, ms, rfl, ht, L, fun H6 p6 s6 n6 h6 => ?_⟩
      refine ⟨_, rfl, t, ms, rfl, s6 _ _ ht, L, fun H7 p7 s7 n7 h7 => ?_⟩
      refine ⟨_, _, .tup (SqT.of (s7 _ _ h6)) (dp_opts _), .tup (SqT.of h7) (dp_opts _), shaped_tup fl, shaped_tup fl, _, rfl, ?_⟩
      rw [show PyData.eqv (.tuple ((leasts (ms.map Int.toNat)).map optD)) (.tuple ((leasts (ms.map Int.toNat)).map optD)) = true from SeqAt.eqv_refl _ (SeqAt.canLay_of_shaped (shaped_tup fl))]
      refine iteF ?_
      refine ⟨_, rfl, t, ms, rfl, s7 _ _ (s6 _ _ ht), L, fun H8 s8 => ?_⟩
      refine ⟨_, rfl, t, ms, rfl, s8 _ _ (s7 _ _ (s6 _ _ ht)), L, fun H9 s9 => ⟨rfl, _, rfl, ?_⟩⟩
      rw [decide_eq_true rfl]
      exact iteF ⟨_, _, _, _, rfl, s2.trans ((s4.trans (s6.trans s7)).trans (s8.trans s9))⟩
end
end Ov
namespace Ov
open PySem PySem.Spec PyProof.Rows L2
/-! ### what the top has written, and the law's own head -/
theorem all_mk {P : Program} {w : World} {K : PySem.W.Frag} {h : Heap} {mg : Str → Option Value} {fa f0 f1 f2 f3 f4 f5 f6 f7 f8 f9 f10 f11 f12 f13 f14 f15 : Addr} (X : K.In h) (G : h.Ns mainGlobals mg) (hfa : mg "law" = some (.ref fa))
    {od0 an0 od1 an1 od2 an2 od3 an3 od4 an4 od5 an5 od6 an6 od7 an7 od8 an8 od9 an9 od10 an10 od11 an11 od12 an12 od13 an13 od14 an14 od15 an15 : Option Addr} {sl0 sl1 sl2 sl3 sl4 sl5 sl6 sl7 sl8 sl9 sl10 sl11 sl12 sl13 sl14 sl15 : Array (Option Value)} {oc0 kV0 dc0 pm0 cd0 ct0 oc1 kV1 dc1 pm1 cd1 ct1 oc2 kV2 dc2 pm2 cd2 ct2 oc3 kV3 dc3 pm3 cd3 ct3 oc4 kV4 dc4 pm4 cd4 ct4 oc5 kV5 dc5 pm5 cd5 ct5 oc6 kV6 dc6 pm6 cd6 ct6 oc7 kV7 dc7 pm7 cd7 ct7 oc8 kV8 dc8 pm8 cd8 ct8 oc9 kV9 dc9 pm9 cd9 ct9 oc10 kV10 dc10 pm10 cd10 ct10 oc11 kV11 dc11 pm11 cd11 ct11 oc12 kV12 dc12 pm12 cd12 ct12 oc13 kV13 dc13 pm13 cd13 ct13 oc14 kV14 dc14 pm14 cd14 ct14 oc15 kV15 dc15 pm15 cd15 ct15 : Value}
    {tk0 tk1 : Tok}
    (a0 : PySem.W.nsIn K mainGlobals "is_integer" = some (some (.ref f0))) (l0 : K.lookup f0 = some ⟨oc0, od0, .func (PySem.W.fnOf "is_integer" "is_integer" (defArgs sIsInt) (defBody sIsInt) (defScope sIsInt) .none kV0 dc0 pm0 an0 cd0 ct0), sl0⟩) (c0 : PySem.W.codeIn K cd0 "is_integer" = true) (k0 : PySem.W.keepIn K (.ref f0) = true)
    (a1 : PySem.W.nsIn K mainGlobals "is_integer_between" = some (some (.ref f1))) (l1 : K.lookup f1 = some ⟨oc1, od1, .func (PySem.W.fnOf "is_integer_between" "is_integer_between" (defArgs sBetween) (defBody sBetween) (defScope sBetween) .none kV1 dc1 pm1 an1 cd1 ct1), sl1⟩) (c1 : PySem.W.codeIn K cd1 "is_integer_between" = true) (k1 : PySem.W.keepIn K (.ref f1) = true)
    (a2 : PySem.W.nsIn K mainGlobals "is_ascending" = some (some (.ref f2))) (l2 : K.lookup f2 = some ⟨oc2, od2, .func (PySem.W.fnOf "is_ascending" "is_ascending" (defArgs sAscending) (defBody sAscending) (defScope sAscending) .none kV2 dc2 pm2 an2 cd2 ct2), sl2⟩) (c2 : PySem.W.codeIn K cd2 "is_ascending" = true) (k2 : PySem.W.keepIn K (.ref f2) = true)
    (a3 : PySem.W.nsIn K mainGlobals "common_divisor" = some (some (.ref f3))) (l3 : K.lookup f3 = some ⟨oc3, od3, .func (PySem.W.fnOf "common_divisor" "common_divisor" (defArgs sCommon) (defBody sCommon) (defScope sCommon) .none kV3 dc3 pm3 an3 cd3 ct3), sl3⟩) (c3 : PySem.W.codeIn K cd3 "common_divisor" = true) (k3 : PySem.W.keepIn K (.ref f3) = true)
    (a4 : PySem.W.nsIn K mainGlobals "least_sums" = some (some (.ref f4))) (l4 : K.lookup f4 = some ⟨oc4, od4, .func (PySem.W.fnOf "least_sums" "least_sums" (defArgs sLeast) (defBody sLeast) (defScope sLeast) .none kV4 dc4 pm4 an4 cd4 ct4), sl4⟩) (c4 : PySem.W.codeIn K cd4 "least_sums" = true) (k4 : PySem.W.keepIn K (.ref f4) = true)
    (a5 : PySem.W.nsIn K mainGlobals "check_lengths" = some (some (.ref f5))) (l5 : K.lookup f5 = some ⟨oc5, od5, .func (PySem.W.fnOf "check_lengths" "check_lengths" (defArgs sCheck) (defBody sCheck) (defScope sCheck) .none kV5 dc5 pm5 an5 cd5 ct5), sl5⟩) (c5 : PySem.W.codeIn K cd5 "check_lengths" = true) (k5 : PySem.W.keepIn K (.ref f5) = true)
    (a6 : PySem.W.nsIn K mainGlobals "are_lengths" = some (some (.ref f6))) (l6 : K.lookup f6 = some ⟨oc6, od6, .func (PySem.W.fnOf "are_lengths" "are_lengths" (defArgs sAre) (defBody sAre) (defScope sAre) .none kV6 dc6 pm6 an6 cd6 ct6), sl6⟩) (c6 : PySem.W.codeIn K cd6 "are_lengths" = true) (k6 : PySem.W.keepIn K (.ref f6) = true)
    (a7 : PySem.W.nsIn K mainGlobals "divisor_of_two" = some (some (.ref f7))) (l7 : K.lookup f7 = some ⟨oc7, od7, .func (PySem.W.fnOf "divisor_of_two" "divisor_of_two" (defArgs sGcd) (defBody sGcd) (defScope sGcd) .none kV7 dc7 pm7 an7 cd7 ct7), sl7⟩) (c7 : PySem.W.codeIn K cd7 "divisor_of_two" = true) (k7 : PySem.W.keepIn K (.ref f7) = true)
    (a8 : PySem.W.nsIn K mainGlobals "with_length" = some (some (.ref f8))) (l8 : K.lookup f8 = some ⟨oc8, od8, .func (PySem.W.fnOf "with_length" "with_length" (defArgs sWith) (defBody sWith) (defScope sWith) .none kV8 dc8 pm8 an8 cd8 ct8), sl8⟩) (c8 : PySem.W.codeIn K cd8 "with_length" = true) (k8 : PySem.W.keepIn K (.ref f8) = true)
    (a9 : PySem.W.nsIn K mainGlobals "_law_box" = some (some (.ref f9))) (l9 : K.lookup f9 = some ⟨oc9, od9, .func (PySem.W.fnOf "_law_box" "_law_box" (defArgs sBox) (defBody sBox) (defScope sBox) .none kV9 dc9 pm9 an9 cd9 ct9), sl9⟩) (c9 : PySem.W.codeIn K cd9 "_law_box" = true) (k9 : PySem.W.keepIn K (.ref f9) = true)
    (a10 : PySem.W.nsIn K mainGlobals "_law_take" = some (some (.ref f10))) (l10 : K.lookup f10 = some ⟨oc10, od10, .func (PySem.W.fnOf "_law_take" "_law_take" (defArgs sTake) (defBody sTake) (defScope sTake) .none kV10 dc10 pm10 an10 cd10 ct10), sl10⟩) (c10 : PySem.W.codeIn K cd10 "_law_take" = true) (k10 : PySem.W.keepIn K (.ref f10) = true)
    (a11 : PySem.W.nsIn K mainGlobals "_law_of" = some (some (.ref f11))) (l11 : K.lookup f11 = some ⟨oc11, od11, .func (PySem.W.fnOf "_law_of" "_law_of" (defArgs sOf) (defBody sOf) (defScope sOf) .none kV11 dc11 pm11 an11 cd11 ct11), sl11⟩) (c11 : PySem.W.codeIn K cd11 "_law_of" = true) (k11 : PySem.W.keepIn K (.ref f11) = true)
    (a12 : PySem.W.nsIn K mainGlobals "_law_drawn" = some (some (.ref f12))) (l12 : K.lookup f12 = some ⟨oc12, od12, .func (PySem.W.fnOf "_law_drawn" "_law_drawn" (defArgs sDrawn) (defBody sDrawn) (defScope sDrawn) .none kV12 dc12 pm12 an12 cd12 ct12), sl12⟩) (c12 : PySem.W.codeIn K cd12 "_law_drawn" = true) (k12 : PySem.W.keepIn K (.ref f12) = true)
    (a13 : PySem.W.nsIn K mainGlobals "_law_least" = some (some (.ref f13))) (l13 : K.lookup f13 = some ⟨oc13, od13, .func (PySem.W.fnOf "_law_least" "_law_least" (defArgs sLLeast) (defBody sLLeast) (defScope sLLeast) .none kV13 dc13 pm13 an13 cd13 ct13), sl13⟩) (c13 : PySem.W.codeIn K cd13 "_law_least" = true) (k13 : PySem.W.keepIn K (.ref f13) = true)
    (a14 : PySem.W.nsIn K mainGlobals "_law_divisor" = some (some (.ref f14))) (l14 : K.lookup f14 = some ⟨oc14, od14, .func (PySem.W.fnOf "_law_divisor" "_law_divisor" (defArgs sLDivisor) (defBody sLDivisor) (defScope sLDivisor) .none kV14 dc14 pm14 an14 cd14 ct14), sl14⟩) (c14 : PySem.W.codeIn K cd14 "_law_divisor" = true) (k14 : PySem.W.keepIn K (.ref f14) = true)
    (a15 : PySem.W.nsIn K mainGlobals "law" = some (some (.ref f15))) (l15 : K.lookup f15 = some ⟨oc15, od15, .func (PySem.W.fnOf "law" "law" (defArgs sLaw) (defBody sLaw) (defScope sLaw) .none kV15 dc15 pm15 an15 cd15 ct15), sl15⟩) (c15 : PySem.W.codeIn K cd15 "law" = true) (k15 : PySem.W.keepIn K (.ref f15) = true)
    (cst0 : PySem.W.nsIn K mainGlobals "MOST_LENGTHS" = some (some (.int 50 tk0)))
    (cst1 : PySem.W.nsIn K mainGlobals "GREATEST_LENGTH" = some (some (.int 1000 tk1)))
    (bz0 : PySem.W.nsIn K mainGlobals "isinstance" = some none)
    (bz1 : PySem.W.nsIn K mainGlobals "int" = some none)
    (bz2 : PySem.W.nsIn K mainGlobals "bool" = some none)
    (bz3 : PySem.W.nsIn K mainGlobals "tuple" = some none)
    (bz4 : PySem.W.nsIn K mainGlobals "list" = some none)
    (bz5 : PySem.W.nsIn K mainGlobals "all" = some none)
    (bz6 : PySem.W.nsIn K mainGlobals "any" = some none)
    (bz7 : PySem.W.nsIn K mainGlobals "zip" = some none)
    (bz8 : PySem.W.nsIn K mainGlobals "len" = some none)
    (bz9 : PySem.W.nsIn K mainGlobals "range" = some none)
    (bz10 : PySem.W.nsIn K mainGlobals "abs" = some none)
    (bz11 : PySem.W.nsIn K mainGlobals "sorted" = some none)
    (bz12 : PySem.W.nsIn K mainGlobals "min" = some none)
    (bz13 : PySem.W.nsIn K mainGlobals "repr" = some none)
    (bz14 : PySem.W.nsIn K mainGlobals "max" = some none)
    (bz15 : PySem.W.nsIn K mainGlobals "sum" = some none)
    (bz16 : PySem.W.nsIn K mainGlobals "enumerate" = some none)
    (bz17 : PySem.W.nsIn K mainGlobals "str" = some none)
    (bz18 : PySem.W.nsIn K mainGlobals "set" = some none)
    (bz19 : PySem.W.nsIn K mainGlobals "dict" = some none)
    (bz20 : PySem.W.nsIn K mainGlobals "ValueError" = some none)
    : ∃ fd : FuncData, (∀ (s : Shared) (v : Value), BindsTo s fd ⟨[v], []⟩ [("_law_script", v)]) ∧ ∀ base : Heap, K.In base → base.Ns mainGlobals mg → FnG P w K mg base 6 fa fd ["_law_script"] (spLaw K) := by
  have e := hfa.symm.trans (PySem.W.mg_of X G a15)
  cases e
  have T : Bi mg := ⟨PySem.W.mg_none_of X G bz0, PySem.W.mg_none_of X G bz1, PySem.W.mg_none_of X G bz2, PySem.W.mg_none_of X G bz3, PySem.W.mg_none_of X G bz4, PySem.W.mg_none_of X G bz5, PySem.W.mg_none_of X G bz6, PySem.W.mg_none_of X G bz7, PySem.W.mg_none_of X G bz8, PySem.W.mg_none_of X G bz9, PySem.W.mg_none_of X G bz10, PySem.W.mg_none_of X G bz11, PySem.W.mg_none_of X G bz12, PySem.W.mg_none_of X G bz13, PySem.W.mg_none_of X G bz14, PySem.W.mg_none_of X G bz15, PySem.W.mg_none_of X G bz16, PySem.W.mg_none_of X G bz17, PySem.W.mg_none_of X G bz18, PySem.W.mg_none_of X G bz19, PySem.W.mg_none_of X G bz20⟩
  have FIz := fun_mk (st := sIsInt) l0 c0 k0
  have DIz : Def K mg "is_integer" sIsInt f0 _ ["value"] := ⟨FIz, PySem.W.mg_of X G a0, FIz.binds (ps := ["value"]) fun _ _ _ _ _ _ us hl => match us, hl with | [_], _ => rfl⟩
  have FBt := fun_mk (st := sBetween) l1 c1 k1
  have DBt : Def K mg "is_integer_between" sBetween f1 _ ["value", "least", "most"] := ⟨FBt, PySem.W.mg_of X G a1, FBt.binds (ps := ["value", "least", "most"]) fun _ _ _ _ _ _ us hl => match us, hl with | [_, _, _], _ => rfl⟩
  have FAs := fun_mk (st := sAscending) l2 c2 k2
  have DAs : Def K mg "is_ascending" sAscending f2 _ ["numbers"] := ⟨FAs, PySem.W.mg_of X G a2, FAs.binds (ps := ["numbers"]) fun _ _ _ _ _ _ us hl => match us, hl with | [_], _ => rfl⟩
  have FCo := fun_mk (st := sCommon) l3 c3 k3
  have DCo : Def K mg "common_divisor" sCommon f3 _ ["lengths"] := ⟨FCo, PySem.W.mg_of X G a3, FCo.binds (ps := ["lengths"]) fun _ _ _ _ _ _ us hl => match us, hl with | [_], _ => rfl⟩
  have FLe := fun_mk (st := sLeast) l4 c4 k4
  have DLe : Def K mg "least_sums" sLeast f4 _ ["lengths"] := ⟨FLe, PySem.W.mg_of X G a4, FLe.binds (ps := ["lengths"]) fun _ _ _ _ _ _ us hl => match us, hl with | [_], _ => rfl⟩
  have FCh := fun_mk (st := sCheck) l5 c5 k5
  have DCh : Def K mg "check_lengths" sCheck f5 _ ["lengths"] := ⟨FCh, PySem.W.mg_of X G a5, FCh.binds (ps := ["lengths"]) fun _ _ _ _ _ _ us hl => match us, hl with | [_], _ => rfl⟩
  have FAr := fun_mk (st := sAre) l6 c6 k6
  have DAr : Def K mg "are_lengths" sAre f6 _ ["value"] := ⟨FAr, PySem.W.mg_of X G a6, FAr.binds (ps := ["value"]) fun _ _ _ _ _ _ us hl => match us, hl with | [_], _ => rfl⟩
  have FGc := fun_mk (st := sGcd) l7 c7 k7
  have DGc : Def K mg "divisor_of_two" sGcd f7 _ ["first", "second"] := ⟨FGc, PySem.W.mg_of X G a7, FGc.binds (ps := ["first", "second"]) fun _ _ _ _ _ _ us hl => match us, hl with | [_, _], _ => rfl⟩
  have FWi := fun_mk (st := sWith) l8 c8 k8
  have DWi : Def K mg "with_length" sWith f8 _ ["least", "length"] := ⟨FWi, PySem.W.mg_of X G a8, FWi.binds (ps := ["least", "length"]) fun _ _ _ _ _ _ us hl => match us, hl with | [_, _], _ => rfl⟩
  have FBo := fun_mk (st := sBox) l9 c9 k9
  have DBo : Def K mg "_law_box" sBox f9 _ ["_law_script", "_law_k"] := ⟨FBo, PySem.W.mg_of X G a9, FBo.binds (ps := ["_law_script", "_law_k"]) fun _ _ _ _ _ _ us hl => match us, hl with | [_, _], _ => rfl⟩
  have FTa := fun_mk (st := sTake) l10 c10 k10
  have DTa : Def K mg "_law_take" sTake f10 _ ["_law_box_here", "_law_many"] := ⟨FTa, PySem.W.mg_of X G a10, FTa.binds (ps := ["_law_box_here", "_law_many"]) fun _ _ _ _ _ _ us hl => match us, hl with | [_, _], _ => rfl⟩
  have FOf := fun_mk (st := sOf) l11 c11 k11
  have DOf : Def K mg "_law_of" sOf f11 _ ["_law_box_here", "_law_some"] := ⟨FOf, PySem.W.mg_of X G a11, FOf.binds (ps := ["_law_box_here", "_law_some"]) fun _ _ _ _ _ _ us hl => match us, hl with | [_, _], _ => rfl⟩
  have FDr := fun_mk (st := sDrawn) l12 c12 k12
  have DDr : Def K mg "_law_drawn" sDrawn f12 _ ["_law_box_here"] := ⟨FDr, PySem.W.mg_of X G a12, FDr.binds (ps := ["_law_box_here"]) fun _ _ _ _ _ _ us hl => match us, hl with | [_], _ => rfl⟩
  have FLL := fun_mk (st := sLLeast) l13 c13 k13
  have DLL : Def K mg "_law_least" sLLeast f13 _ ["_law_some"] := ⟨FLL, PySem.W.mg_of X G a13, FLL.binds (ps := ["_law_some"]) fun _ _ _ _ _ _ us hl => match us, hl with | [_], _ => rfl⟩
  have FLD := fun_mk (st := sLDivisor) l14 c14 k14
  have DLD : Def K mg "_law_divisor" sLDivisor f14 _ ["_law_some"] := ⟨FLD, PySem.W.mg_of X G a14, FLD.binds (ps := ["_law_some"]) fun _ _ _ _ _ _ us hl => match us, hl with | [_], _ => rfl⟩
  have FLa := fun_mk (st := sLaw) l15 c15 k15
  have CMl : ∃ t, mg "MOST_LENGTHS" = some (.int 50 t) := ⟨_, PySem.W.mg_of X G cst0⟩
  have CGl : ∃ t, mg "GREATEST_LENGTH" = some (.int 1000 t) := ⟨_, PySem.W.mg_of X G cst1⟩
  have KL : KBinds K (PySem.W.fnOf "least_sums" "least_sums" (defArgs sLeast) (defBody sLeast) (defScope sLeast) .none kV4 dc4 pm4 an4 cd4 ct4) ["lengths"] ["lengths"] one1 one1 := ⟨fun s us ws _ hl => by
      obtain ⟨x, rfl, rfl⟩ := one1_len hl
      exact .of_eq rfl, one1_rel⟩
  have KC : KBinds K (PySem.W.fnOf "common_divisor" "common_divisor" (defArgs sCommon) (defBody sCommon) (defScope sCommon) .none kV3 dc3 pm3 an3 cd3 ct3) ["lengths"] ["lengths"] one1 one1 := ⟨fun s us ws _ hl => by
      obtain ⟨x, rfl, rfl⟩ := one1_len hl
      exact .of_eq rfl, one1_rel⟩
  refine ⟨PySem.W.fnOf "law" "law" (defArgs sLaw) (defBody sLaw) (defScope sLaw) .none kV15 dc15 pm15 an15 cd15 ct15, fun s v => .of_eq rfl, fun base _ _ => ?_⟩
  have GAr : FnOk P w K mg base CX0 3 _ _ ["value"] spAre := ok_are FAr T DBt (ok_between FBt T DIz) DAs CMl CGl
  have GCh : FnOk P w K mg base CX0 4 _ _ ["lengths"] spCheck := ok_check FCh DAr GAr
  have GWi : FnOk P w K mg base CX0 4 _ _ ["least", "length"] spWith := ok_with FWi T DGc
  have GLe : FnOk P w K mg base CX0 5 _ _ ["lengths"] spLeast := ok_least FLe T DCh GCh DWi GWi
  have GCo : FnOk P w K mg base CX0 5 _ _ ["lengths"] spCommon := ok_common FCo DCh GCh DGc
  exact ok_law FLa T DBo (ok_box FBo T) DDr (ok_drawn (k := 2) FDr T DOf DTa) DLe GLe KL DCo GCo KC DLL (ok_lleast FLL T) DLD (ok_ldivisor FLD T)
end Ov
open PySem PySem.W PyProof.Rows
set_option maxRecDepth 100000 in
set_option maxHeartbeats 0 in
theorem PySem.Challenge.cw_overlapcode_k07_least_sums_by_plain_addi_holds : PySem.Challenge.rw_overlapcode_k07_least_sums_by_plain_addi.Holds := by
  w_on; o_law; k_head; (case hw => w_witness2)
  k_fill
  refine Ov.walkG (l := PySem.Challenge.rw_overlapcode_k07_least_sums_by_plain_addi) (n := 63) (k := 6) (x := "_law_script") (sp := fun K => Ov.spLaw K) rfl (by decide) rfl ⟨rfl, by decide, by decide⟩ (fun w h Y => PySem.W.kIn_of Y) ?F (fun _ _ a ns hl hS => ⟨a, ns, rfl, hS, hl, fun _ => rfl⟩)
  case F =>
    intro w mg fa h KX G hmg
    refine' Ov.all_mk KX G hmg ?a0 ?l0 ?c0 ?k0 ?a1 ?l1 ?c1 ?k1 ?a2 ?l2 ?c2 ?k2 ?a3 ?l3 ?c3 ?k3 ?a4 ?l4 ?c4 ?k4 ?a5 ?l5 ?c5 ?k5 ?a6 ?l6 ?c6 ?k6 ?a7 ?l7 ?c7 ?k7 ?a8 ?l8 ?c8 ?k8 ?a9 ?l9 ?c9 ?k9 ?a10 ?l10 ?c10 ?k10 ?a11 ?l11 ?c11 ?k11 ?a12 ?l12 ?c12 ?k12 ?a13 ?l13 ?c13 ?k13 ?a14 ?l14 ?c14 ?k14 ?a15 ?l15 ?c15 ?k15 ?cst0 ?cst1 ?bz0 ?bz1 ?bz2 ?bz3 ?bz4 ?bz5 ?bz6 ?bz7 ?bz8 ?bz9 ?bz10 ?bz11 ?bz12 ?bz13 ?bz14 ?bz15 ?bz16 ?bz17 ?bz18 ?bz19 ?bz20
    (case a0 => k_is)
    (case l0 => k_is)
    (case c0 => k_is)
    (case k0 => k_is)
    (case a1 => k_is)
    (case l1 => k_is)
    (case c1 => k_is)
    (case k1 => k_is)
    (case a2 => k_is)
    (case l2 => k_is)
    (case c2 => k_is)
    (case k2 => k_is)
    (case a3 => k_is)
    (case l3 => k_is)
    (case c3 => k_is)
    (case k3 => k_is)
    (case a4 => k_is)
    (case l4 => k_is)
    (case c4 => k_is)
    (case k4 => k_is)
    (case a5 => k_is)
    (case l5 => k_is)
    (case c5 => k_is)
    (case k5 => k_is)
    (case a6 => k_is)
    (case l6 => k_is)
    (case c6 => k_is)
    (case k6 => k_is)
    (case a7 => k_is)
    (case l7 => k_is)
    (case c7 => k_is)
    (case k7 => k_is)
    (case a8 => k_is)
    (case l8 => k_is)
    (case c8 => k_is)
    (case k8 => k_is)
    (case a9 => k_is)
    (case l9 => k_is)
    (case c9 => k_is)
    (case k9 => k_is)
    (case a10 => k_is)
    (case l10 => k_is)
    (case c10 => k_is)
    (case k10 => k_is)
    (case a11 => k_is)
    (case l11 => k_is)
    (case c11 => k_is)
    (case k11 => k_is)
    (case a12 => k_is)
    (case l12 => k_is)
    (case c12 => k_is)
    (case k12 => k_is)
    (case a13 => k_is)
    (case l13 => k_is)
    (case c13 => k_is)
    (case k13 => k_is)
    (case a14 => k_is)
    (case l14 => k_is)
    (case c14 => k_is)
    (case k14 => k_is)
    (case a15 => k_is)
    (case l15 => k_is)
    (case c15 => k_is)
    (case k15 => k_is)
    (case cst0 => k_is)
    (case cst1 => k_is)
    (case bz0 => k_is)
    (case bz1 => k_is)
    (case bz2 => k_is)
    (case bz3 => k_is)
    (case bz4 => k_is)
    (case bz5 => k_is)
    (case bz6 => k_is)
    (case bz7 => k_is)
    (case bz8 => k_is)
    (case bz9 => k_is)
    (case bz10 => k_is)
    (case bz11 => k_is)
    (case bz12 => k_is)
    (case bz13 => k_is)
    (case bz14 => k_is)
    (case bz15 => k_is)
    (case bz16 => k_is)
    (case bz17 => k_is)
    (case bz18 => k_is)
    (case bz19 => k_is)
    (case bz20 => k_is)
