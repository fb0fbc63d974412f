import PyProof.Rows.All
import Wide.All
import OpenK.AllK
import Wide.FinOn
import HandS.ForMost
import HandS.IsInst
import HandS.Zip
import HandS.TupAny
import HandS.Wide
import HandS.More
import HandS.Walk
import HandS.RaiseMore
import HandS.Flow
import HandS.Conv
import HandS.MakeKwOnly
import PySem.Challenge.RW_overlapcode_k06_sums_by_plain_adding
set_option Elab.async false
set_option linter.all false
set_option maxRecDepth 100000
set_option maxHeartbeats 4000000
/-! Sums of lengths: the mathematics -/
namespace Ov
/-- a sum of the lengths -/
inductive Sum (ls : List Nat) : Nat → Prop
  | zero : Sum ls 0
  | add {l s : Nat} : l ∈ ls → Sum ls s → Sum ls (s + l)

theorem Sum.mono {ls ks : List Nat} (h : ∀ l ∈ ls, l ∈ ks) {s : Nat} (a : Sum ls s) : Sum ks s := by
  induction a with
  | zero => exact .zero
  | add hl _ ih => exact .add (h _ hl) ih

theorem Sum.plus {ls : List Nat} {s t : Nat} (a : Sum ls s) (b : Sum ls t) : Sum ls (s + t) := by
  induction b with
  | zero => exact a
  | add hl _ ih => rw [← Nat.add_assoc]; exact .add hl ih

theorem Sum.times {ls : List Nat} {l : Nat} (h : l ∈ ls) : ∀ (j : Nat), Sum ls (j * l)
  | 0 => by rw [Nat.zero_mul]; exact .zero
  | j + 1 => by rw [Nat.succ_mul]; exact .add h (Sum.times h j)

theorem Sum.step {ls : List Nat} {w : Nat} : Sum ls w ↔ w = 0 ∨ ∃ l ∈ ls, l ≤ w ∧ Sum ls (w - l) := by
  constructor
  · intro a
    cases a with
    | zero => exact .inl rfl
    | @add l s hl hs => exact .inr ⟨l, hl, Nat.le_add_left _ _, by rw [Nat.add_sub_cancel]; exact hs⟩
  · rintro (rfl | ⟨l, hl, hw, hs⟩)
    · exact .zero
    · have := Sum.add hl hs
      rwa [Nat.sub_add_cancel hw] at this

/-- one more length: a sum of the others and so many of it -/
theorem Sum.snoc {ls : List Nat} {L s : Nat} : Sum (ls ++ [L]) s ↔ ∃ j t, Sum ls t ∧ s = t + j * L := by
  constructor
  · intro a
    induction a with
    | zero => exact ⟨0, 0, .zero, by simp⟩
    | @add l s hl _ ih =>
      obtain ⟨j, t, ht, rfl⟩ := ih
      rcases List.mem_append.mp hl with h | h
      · exact ⟨j, t + l, .add h ht, by omega⟩
      · have : l = L := by simpa using h
        subst this
        exact ⟨j + 1, t, ht, by rw [Nat.succ_mul]; omega⟩
  · rintro ⟨j, t, ht, rfl⟩
    exact (ht.mono fun l h => List.mem_append_left _ h).plus (Sum.times (List.mem_append_right _ (List.mem_singleton.mpr rfl)) j)

theorem Sum.single {m s : Nat} : Sum [m] s ↔ ∃ j, s = j * m := by
  have := @Sum.snoc [] m s
  rw [List.nil_append] at this
  rw [this]
  constructor
  · rintro ⟨j, t, ht, rfl⟩
    have : t = 0 := by
      cases ht with
      | zero => rfl
      | add h _ => cases h
    exact ⟨j, by omega⟩
  · rintro ⟨j, rfl⟩
    exact ⟨j, 0, .zero, by omega⟩

/-! ### least sums by remainder -/
/-- a is at most b, where none is above all -/
def leO (a b : Option Nat) : Prop := ∀ y, b = some y → ∃ x, a = some x ∧ x ≤ y
theorem leO.rfl {a : Option Nat} : leO a a := fun y h => ⟨y, h, Nat.le_refl _⟩
theorem leO.trans {a b c : Option Nat} (h : leO a b) (k : leO b c) : leO a c := fun z hz => by
  obtain ⟨y, hy, hyz⟩ := k z hz
  obtain ⟨x, hx, hxy⟩ := h y hy
  exact ⟨x, hx, Nat.le_trans hxy hyz⟩
def leL (a b : List (Option Nat)) : Prop := a.length = b.length ∧ ∀ r, leO (a.getD r none) (b.getD r none)
theorem leL.rfl {a : List (Option Nat)} : leL a a := ⟨_root_.rfl, fun _ => leO.rfl⟩
theorem leL.trans {a b c : List (Option Nat)} (h : leL a b) (k : leL b c) : leL a c := ⟨h.1.trans k.1, fun r => (h.2 r).trans (k.2 r)⟩

/-- one step of the walk: what is reached at r, and the length, at the remainder that follows -/
def relax (L r f : Nat) (a : List (Option Nat)) : List (Option Nat) :=
  match a.getD r none with
  | none => a
  | some x => match a.getD f none with
    | none => a.set f (some (x + L))
    | some y => if x + L < y then a.set f (some (x + L)) else a

theorem getD_set {α : Type} (a : List α) (f r : Nat) (v d : α) : (a.set f v).getD r d = if f = r ∧ r < a.length then v else a.getD r d := by
  simp only [List.getD_eq_getElem?_getD, List.getElem?_set]
  by_cases h : f = r
  · subst h
    by_cases h2 : f < a.length
    · simp [h2]
    · simp [h2, List.getElem?_eq_none (Nat.le_of_not_lt h2)]
  · simp [h]

theorem relax_len (L r f : Nat) (a : List (Option Nat)) : (relax L r f a).length = a.length := by
  unfold relax
  split
  · rfl
  · split
    · simp
    · split <;> simp

theorem relax_le (L r f : Nat) (a : List (Option Nat)) : leL (relax L r f a) a := by
  refine ⟨relax_len .., fun q => ?_⟩
  unfold relax
  split
  · exact leO.rfl
  · rename_i x _
    split
    · rename_i hf
      rw [getD_set]
      by_cases c : f = q ∧ q < a.length
      · rw [if_pos c, ← c.1, hf]
        intro y h; cases h
      · rw [if_neg c]; exact leO.rfl
    · rename_i y hf
      split
      · rename_i hlt
        rw [getD_set]
        by_cases c : f = q ∧ q < a.length
        · rw [if_pos c, ← c.1, hf]
          intro z h
          cases h
          exact ⟨_, rfl, Nat.le_of_lt hlt⟩
        · rw [if_neg c]; exact leO.rfl
      · exact leO.rfl

theorem relax_at (L r f : Nat) (a : List (Option Nat)) (hf : f < a.length) : leO ((relax L r f a).getD f none) ((a.getD r none).map (· + L)) := by
  unfold relax
  split
  · rename_i h
    rw [h]
    intro y h; cases h
  · rename_i x h
    rw [h]
    split
    · rw [getD_set, if_pos ⟨rfl, hf⟩]
      exact leO.rfl
    · rename_i y hy
      split
      · rw [getD_set, if_pos ⟨rfl, hf⟩]
        exact leO.rfl
      · rename_i hn
        rw [hy]
        intro z hz
        have : x + L = z := Option.some.inj hz
        exact ⟨y, rfl, by omega⟩

/-- every entry is of S and has its remainder -/
def Sound (S : Nat → Prop) (m : Nat) (a : List (Option Nat)) : Prop := ∀ r x, a.getD r none = some x → S x ∧ x % m = r

theorem relax_sound {S : Nat → Prop} {m L r : Nat} {a : List (Option Nat)} (hS : ∀ x, S x → S (x + L)) (h : Sound S m a) : Sound S m (relax L r ((r + L) % m) a) := by
  have key : ∀ x, a.getD r none = some x → S (x + L) ∧ (x + L) % m = (r + L) % m := fun x hx => by
    obtain ⟨h1, h2⟩ := h r x hx
    refine ⟨hS x h1, ?_⟩
    rw [← h2, Nat.add_mod (x % m), Nat.mod_mod, ← Nat.add_mod]
  intro q z hz
  unfold relax at hz
  split at hz
  · exact h q z hz
  · rename_i x hx
    obtain ⟨k1, k2⟩ := key x hx
    split at hz
    · rw [getD_set] at hz
      by_cases c : (r + L) % m = q ∧ q < a.length
      · rw [if_pos c] at hz
        cases hz
        exact ⟨k1, k2.trans c.1⟩
      · rw [if_neg c] at hz; exact h q z hz
    · split at hz
      · rw [getD_set] at hz
        by_cases c : (r + L) % m = q ∧ q < a.length
        · rw [if_pos c] at hz
          cases hz
          exact ⟨k1, k2.trans c.1⟩
        · rw [if_neg c] at hz; exact h q z hz
      · exact h q z hz

/-- so many steps from r on: the list, and where the walk stands -/
def steps (L m : Nat) : Nat → Nat → List (Option Nat) → List (Option Nat) × Nat
  | 0, r, a => (a, r)
  | t + 1, r, a => let q := steps L m t r a; (relax L q.2 ((q.2 + L) % m) q.1, (q.2 + L) % m)

theorem steps_at (L m : Nat) (r : Nat) (a : List (Option Nat)) (hr : r < m) : ∀ t, (steps L m t r a).2 = (r + t * L) % m
  | 0 => by simp [steps, Nat.mod_eq_of_lt hr]
  | t + 1 => by
    show ((steps L m t r a).2 + L) % m = _
    rw [steps_at L m r a hr t, Nat.add_mod ((r + t * L) % m), Nat.mod_mod, ← Nat.add_mod, Nat.succ_mul, Nat.add_assoc]

theorem steps_le (L m : Nat) (r : Nat) (a : List (Option Nat)) : ∀ t, leL (steps L m t r a).1 a
  | 0 => leL.rfl
  | t + 1 => (relax_le ..).trans (steps_le L m r a t)

theorem steps_le' (L m : Nat) (r : Nat) (a : List (Option Nat)) (t : Nat) : ∀ d, leL (steps L m (t + d) r a).1 (steps L m t r a).1
  | 0 => leL.rfl
  | d + 1 => (relax_le ..).trans (steps_le' L m r a t d)

theorem steps_sound {S : Nat → Prop} {m L : Nat} {r : Nat} {a : List (Option Nat)} (hS : ∀ x, S x → S (x + L)) (h : Sound S m a) : ∀ t, Sound S m (steps L m t r a).1
  | 0 => h
  | t + 1 => relax_sound hS (steps_sound hS h t)

/-- what stands at the p-th place goes j steps on -/
theorem steps_far {L m : Nat} {r : Nat} {a : List (Option Nat)} (hm : 0 < m) (hl : a.length = m) (hr : r < m) (p : Nat) {y : Nat} (hy : a.getD ((r + p * L) % m) none = some y) :
    ∀ j, ∃ x, ((steps L m (p + j) r a).1).getD ((r + (p + j) * L) % m) none = some x ∧ x ≤ y + j * L
  | 0 => by
    obtain ⟨x, hx, hxy⟩ := (steps_le L m r a p).2 _ y hy
    exact ⟨x, hx, by omega⟩
  | j + 1 => by
    obtain ⟨x, hx, hxy⟩ := steps_far hm hl hr p hy j
    have hp := steps_at L m r a hr (p + j)
    have hlen : (steps L m (p + j) r a).1.length = m := (steps_le L m r a (p + j)).1.trans hl
    have e : (r + (p + (j + 1)) * L) % m = ((steps L m (p + j) r a).2 + L) % m := by
      rw [hp, Nat.add_mod ((r + (p + j) * L) % m), Nat.mod_mod, ← Nat.add_mod, ← Nat.add_assoc p j 1, Nat.succ_mul, Nat.add_assoc]
    rw [e]
    show ∃ x', (relax L (steps L m (p + j) r a).2 (((steps L m (p + j) r a).2 + L) % m) (steps L m (p + j) r a).1).getD _ none = some x' ∧ _
    have := relax_at L (steps L m (p + j) r a).2 (((steps L m (p + j) r a).2 + L) % m) (steps L m (p + j) r a).1 (by rw [hlen]; exact Nat.mod_lt _ hm)
    obtain ⟨x', hx', h2⟩ := this (x + L) (by rw [hp, hx]; rfl)
    exact ⟨x', hx', by rw [Nat.succ_mul]; omega⟩

/-! ### Bezout -/
theorem bezout (a b : Nat) : ∃ x y : Int, x * a + y * b = (Nat.gcd a b : Int) := by
  induction a, b using Nat.gcd.induction with
  | H0 n => exact ⟨0, 1, by simp⟩
  | H1 m n hm ih =>
    obtain ⟨x, y, h⟩ := ih
    refine ⟨y - x * ((n / m : Nat) : Int), x, ?_⟩
    rw [Nat.gcd_rec m n, ← h]
    have e : (n : Int) = (m : Int) * ((n / m : Nat) : Int) + ((n % m : Nat) : Int) := by
      have := Nat.div_add_mod n m
      exact_mod_cast this.symm
    conv => lhs; rw [e]
    rw [Int.sub_mul, Int.mul_add, Int.mul_assoc x, Int.mul_comm (m : Int) ((n / m : Nat) : Int)]
    omega

theorem bezout_mod (m L : Nat) (hm : 0 < m) : ∃ u : Nat, (u * L) % m = Nat.gcd m L % m := by
  obtain ⟨x, y, h⟩ := bezout m L
  refine ⟨(y % m).toNat, ?_⟩
  have hm' : (m : Int) ≠ 0 := by omega
  have hy : 0 ≤ y % (m : Int) := Int.emod_nonneg _ hm'
  have e : ((((y % (m : Int)).toNat * L : Nat) : Int)) % (m : Int) = ((Nat.gcd m L : Nat) : Int) % (m : Int) := by
    rw [Int.natCast_mul, Int.toNat_of_nonneg hy, ← h, Int.mul_emod, Int.emod_emod_of_dvd _ (Int.dvd_refl _), ← Int.mul_emod, Int.add_comm, Int.add_mul_emod_self_right]
  exact_mod_cast e

/-- from the class of r the walk comes by r -/
theorem comes_by (m L r : Nat) (hm : 0 < m) (hr : r < m) : ∃ p, p < m / Nat.gcd m L ∧ (r % Nat.gcd m L + p * L) % m = r := by
  obtain ⟨u, hu⟩ := bezout_mod m L hm
  have hg : 0 < Nat.gcd m L := Nat.gcd_pos_of_pos_left _ hm
  obtain ⟨c, hc⟩ := Nat.gcd_dvd_left m L
  obtain ⟨k, hk⟩ := Nat.gcd_dvd_right m L
  generalize hgg : Nat.gcd m L = g at *
  have hcd : m / g = c := by rw [hc]; exact Nat.mul_div_cancel_left _ hg
  have hcpos : 0 < c := by
    rcases Nat.eq_zero_or_pos c with h | h
    · rw [h] at hc; omega
    · exact h
  refine ⟨(u * (r / g)) % c, by rw [hcd]; exact Nat.mod_lt _ hcpos, ?_⟩
  -- ((u (r/g)) % c) L ≡ u (r/g) L
  have e1 : ((u * (r / g)) % c * L) % m = (u * (r / g) * L) % m := by
    have d := Nat.div_add_mod (u * (r / g)) c
    have : u * (r / g) * L = (u * (r / g)) % c * L + m * ((u * (r / g)) / c * k) := by
      calc u * (r / g) * L = (c * (u * (r / g) / c) + u * (r / g) % c) * L := by rw [d]
        _ = (u * (r / g)) % c * L + c * (u * (r / g) / c) * L := by rw [Nat.add_mul, Nat.add_comm]
        _ = (u * (r / g)) % c * L + m * ((u * (r / g)) / c * k) := by
          congr 1
          conv => lhs; rw [hk]
          conv => rhs; rw [hc]
          simp only [Nat.mul_comm, Nat.mul_left_comm]
    rw [this, Nat.add_mul_mod_self_left]
  have e2 : (u * (r / g) * L) % m = (g * (r / g)) % m := by
    rw [Nat.mul_right_comm, Nat.mul_mod, hu, ← Nat.mul_mod]
  rw [Nat.add_mod, e1, e2, ← Nat.add_mod, Nat.mod_add_div, Nat.mod_eq_of_lt hr]
end Ov
namespace Ov
/-- the walks from the first k places, one behind another -/
def walks (L m T : Nat) : Nat → List (Option Nat) → List (Option Nat)
  | 0, a => a
  | k + 1, a => (steps L m T k (walks L m T k a)).1
def withLen (L : Nat) (a : List (Option Nat)) : List (Option Nat) :=
  walks L a.length (2 * (a.length / Nat.gcd a.length L)) (Nat.gcd a.length L) a

theorem walks_le (L m T : Nat) (a : List (Option Nat)) : ∀ k, leL (walks L m T k a) a
  | 0 => leL.rfl
  | k + 1 => (steps_le ..).trans (walks_le L m T a k)
theorem walks_le' (L m T : Nat) (a : List (Option Nat)) (k : Nat) : ∀ d, leL (walks L m T (k + d) a) (walks L m T k a)
  | 0 => leL.rfl
  | d + 1 => (steps_le ..).trans (walks_le' L m T a k d)
theorem walks_sound {S : Nat → Prop} {m L T : Nat} {a : List (Option Nat)} (hS : ∀ x, S x → S (x + L)) (h : Sound S m a) : ∀ k, Sound S m (walks L m T k a)
  | 0 => h
  | k + 1 => steps_sound hS (walks_sound hS h k) T

theorem withLen_len (L : Nat) (a : List (Option Nat)) : (withLen L a).length = a.length := (walks_le ..).1

/-- what stands at r goes j steps on, j less than a whole round -/
theorem withLen_far {L : Nat} {a : List (Option Nat)} (hm : 0 < a.length) {r y j : Nat} (hr : r < a.length) (hy : a.getD r none = some y) (hj : j < a.length / Nat.gcd a.length L) :
    ∃ x, (withLen L a).getD ((r + j * L) % a.length) none = some x ∧ x ≤ y + j * L := by
  obtain ⟨p, hp, e⟩ := comes_by a.length L r hm hr
  have hg : 0 < Nat.gcd a.length L := Nat.gcd_pos_of_pos_left _ hm
  unfold withLen
  generalize hT : 2 * (a.length / Nat.gcd a.length L) = T
  have hk : r % Nat.gcd a.length L < Nat.gcd a.length L := Nat.mod_lt _ hg
  generalize hk0 : r % Nat.gcd a.length L = k at *
  obtain ⟨d, hd⟩ : ∃ d, Nat.gcd a.length L = (k + 1) + d := ⟨Nat.gcd a.length L - (k + 1), by omega⟩
  have hkm : k < a.length := Nat.lt_of_lt_of_le hk (Nat.le_of_dvd hm (Nat.gcd_dvd_left _ _))
  have hb : (walks L a.length T k a).length = a.length := (walks_le ..).1
  obtain ⟨y', hy', hle⟩ := (walks_le L a.length T a k).2 r y hy
  obtain ⟨x, hx, hxy⟩ := steps_far (L := L) (m := a.length) (r := k) (a := walks L a.length T k a) hm hb hkm p (y := y') (by rw [e]; exact hy') j
  have ej : (k + (p + j) * L) % a.length = (r + j * L) % a.length := by
    rw [Nat.add_mul, ← Nat.add_assoc, Nat.add_mod, e]
    conv => rhs; rw [Nat.add_mod, Nat.mod_eq_of_lt hr]
  rw [ej] at hx
  have l1 := steps_le' L a.length k (walks L a.length T k a) (p + j) (T - (p + j))
  rw [show p + j + (T - (p + j)) = T by omega] at l1
  have l2 := walks_le' L a.length T a (k + 1) d
  rw [← hd] at l2
  obtain ⟨x2, h2, h2'⟩ := (l2.trans l1).2 _ x hx
  exact ⟨x2, h2, by omega⟩

/-- a list tells the least members of S by their remainders -/
structure Rep (S : Nat → Prop) (a : List (Option Nat)) : Prop where
  pos : 0 < a.length
  sound : Sound S a.length a
  least : ∀ s, S s → ∃ x, a.getD (s % a.length) none = some x ∧ x ≤ s

theorem Rep.one {m : Nat} (hm : 0 < m) : Rep (Sum [m]) (some 0 :: List.replicate (m - 1) none) := by
  have hl : (some 0 :: List.replicate (m - 1) (none : Option Nat)).length = m := by simp; omega
  refine ⟨by simp, fun r x h => ?_, fun s hs => ?_⟩
  · rw [hl]
    cases r with
    | zero =>
      have : some 0 = some x := h
      cases this
      exact ⟨.zero, Nat.zero_mod _⟩
    | succ r =>
      exfalso
      rw [List.getD_eq_getElem?_getD, List.getElem?_cons_succ, List.getElem?_replicate] at h
      split at h <;> simp at h
  · obtain ⟨j, rfl⟩ := Sum.single.mp hs
    rw [hl, Nat.mul_mod_left]
    exact ⟨0, rfl, Nat.zero_le _⟩

theorem Rep.more {ls : List Nat} {L m : Nat} {a : List (Option Nat)} (h : Rep (Sum ls) a) (hm : a.length = m) (hin : m ∈ ls) : Rep (Sum (ls ++ [L])) (withLen L a) := by
  have hl := withLen_len L a
  have hp := h.pos
  refine ⟨by rw [hl]; exact hp, ?_, fun s hs => ?_⟩
  · rw [hl]
    refine walks_sound (fun x hx => .add (List.mem_append_right _ (List.mem_singleton.mpr rfl)) hx) (fun r x e => ?_) _
    obtain ⟨h1, h2⟩ := h.sound r x e
    exact ⟨h1.mono fun l hl => List.mem_append_left _ hl, h2⟩
  · rw [hl]
    obtain ⟨j, t, ht, rfl⟩ := Sum.snoc.mp hs
    -- less than a whole round of L's
    have hg : 0 < Nat.gcd a.length L := Nat.gcd_pos_of_pos_left _ hp
    obtain ⟨c, hc⟩ := Nat.gcd_dvd_left a.length L
    obtain ⟨k, hk⟩ := Nat.gcd_dvd_right a.length L
    have hcd : a.length / Nat.gcd a.length L = c := by
      generalize Nat.gcd a.length L = g at *
      rw [hc]
      exact Nat.mul_div_cancel_left _ hg
    have hcpos : 0 < c := by
      rcases Nat.eq_zero_or_pos c with h | h
      · rw [h] at hc; omega
      · exact h
    have ecL : c * L = k * a.length := by
      generalize Nat.gcd a.length L = g at *
      rw [hk, hc]
      simp only [Nat.mul_comm, Nat.mul_left_comm]
    have e : t + j * L = (t + (j / c * k) * a.length) + (j % c) * L := by
      have d := Nat.div_add_mod j c
      calc t + j * L = t + (c * (j / c) + j % c) * L := by rw [d]
        _ = t + (j / c * (c * L) + j % c * L) := by
          rw [Nat.add_mul]; congr 2; rw [Nat.mul_comm c, Nat.mul_assoc]
        _ = _ := by rw [ecL]; rw [Nat.mul_assoc]; omega
    have ht' : Sum ls (t + (j / c * k) * a.length) := ht.plus (by rw [hm]; exact Sum.times hin _)
    obtain ⟨y, hy, hyt⟩ := h.least _ ht'
    obtain ⟨x, hx, hxy⟩ := withLen_far (L := L) hp (Nat.mod_lt _ hp) hy (j := j % c) (by rw [hcd]; exact Nat.mod_lt _ hcpos)
    refine ⟨x, ?_, by rw [e]; omega⟩
    rw [e]
    rw [Nat.add_mod, Nat.mod_mod, ← Nat.add_mod] at hx
    exact hx

/-- the least sums of lengths -/
def leasts : List Nat → List (Option Nat)
  | [] => []
  | m :: ls => ls.foldl (fun a L => withLen L a) (some 0 :: List.replicate (m - 1) none)

theorem fold_rep : ∀ (ls pre : List Nat) (a : List (Option Nat)) (m : Nat), Rep (Sum pre) a → a.length = m → m ∈ pre → Rep (Sum (pre ++ ls)) (ls.foldl (fun a L => withLen L a) a) ∧ (ls.foldl (fun a L => withLen L a) a).length = m
  | [], pre, a, m, h, hm, _ => by simpa using ⟨h, hm⟩
  | L :: ls, pre, a, m, h, hm, hin => by
    have := fold_rep ls (pre ++ [L]) (withLen L a) m (h.more hm hin) ((withLen_len L a).trans hm) (List.mem_append_left _ hin)
    rw [List.append_assoc] at this
    exact this

theorem leasts_rep {m : Nat} (hm : 0 < m) (ls : List Nat) : Rep (Sum (m :: ls)) (leasts (m :: ls)) ∧ (leasts (m :: ls)).length = m :=
  fold_rep ls [m] _ m (Rep.one hm) (by simp; omega) (List.mem_singleton.mpr rfl)

/-- whether a total is a sum, by the least sums -/
def reached (a : List (Option Nat)) (t : Nat) : Bool :=
  if a.length = 0 then t == 0 else match a.getD (t % a.length) none with
    | none => false
    | some x => decide (x ≤ t)

theorem Rep.iff {S : Nat → Prop} {a : List (Option Nat)} (h : Rep S a) (hc : ∀ x, S x → S (x + a.length)) (t : Nat) : reached a t = true ↔ S t := by
  unfold reached
  rw [if_neg (by have := h.pos; omega)]
  have many : ∀ (k x : Nat), S x → S (x + k * a.length) := by
    intro k
    induction k with
    | zero => intro x hx; simpa using hx
    | succ k ih => intro x hx; rw [Nat.succ_mul, ← Nat.add_assoc]; exact hc _ (ih x hx)
  constructor
  · intro e
    split at e
    · cases e
    · rename_i x hx
      obtain ⟨h1, h2⟩ := h.sound _ x hx
      have hle : x ≤ t := of_decide_eq_true e
      have : t = x + (t / a.length - x / a.length) * a.length := by
        have d1 := Nat.div_add_mod t a.length
        have d2 := Nat.div_add_mod x a.length
        rw [h2] at d2
        have hd : x / a.length ≤ t / a.length := Nat.div_le_div_right hle
        rw [Nat.sub_mul, Nat.mul_comm (t / a.length), Nat.mul_comm (x / a.length)]
        have : a.length * (x / a.length) ≤ a.length * (t / a.length) := Nat.mul_le_mul_left _ hd
        omega
      rw [this]
      exact many _ _ h1
  · intro hs
    obtain ⟨x, hx, hxt⟩ := h.least t hs
    rw [hx]
    exact decide_eq_true hxt

theorem isSum_iff (ls : List Nat) (hpos : ∀ l ∈ ls, 0 < l) (t : Nat) : reached (leasts ls) t = true ↔ Sum ls t := by
  cases ls with
  | nil =>
    show (t == 0) = true ↔ _
    constructor
    · intro h
      have : t = 0 := by simpa using h
      rw [this]; exact .zero
    · intro h
      cases h with
      | zero => rfl
      | add h _ => cases h
  | cons m ls =>
    have hm : 0 < m := hpos m List.mem_cons_self
    obtain ⟨h, hl⟩ := leasts_rep hm ls
    exact h.iff (fun x hx => by rw [hl]; exact .add List.mem_cons_self hx) t
end Ov
namespace Ov
open PySem PySem.Spec PyProof.Rows L2
/-! ### heaps -/
theorem same_upd {H : Hp} {p : Addr} {o : HO} (h : H p = none) : Same H (upd H p o) := fun b x e => by
  rw [upd_ne (ne_of_none e h)]
  exact e
theorem _root_.L2.Same.tup {K : PySem.W.Frag} {H H' : Hp} {a : Addr} {xs : List V} (e : Same H H') (h : SqT K H a xs) : SqT K H' a xs := by
  rcases h with (h | ⟨o, h⟩) | h
  · exact .inl (.inl (e _ _ h))
  · exact .inl (.inr ⟨o, e _ _ h⟩)
  · exact .inr h
/-- a new list in the making at D: all that stood before stands, D is new and holds acc -/
structure Mk (H H' : Hp) (D : Addr) (acc : List V) : Prop where
  same : Same H H'
  new : H D = none
  at_ : H' D = some (.lst acc)
theorem Mk.start {H : Hp} {D : Addr} (h : H D = none) : Mk H (upd H D (.lst [])) D [] := ⟨same_upd h, h, upd_same⟩
theorem Mk.put {H H' H4 : Hp} {D : Addr} {acc acc' : List V} (m : Mk H H' D acc) (s : Same H' H4) : Mk H (upd H4 D (.lst acc')) D acc' :=
  ⟨fun b o e => by rw [upd_ne (ne_of_none e m.new)]; exact s _ _ (m.same _ _ e), m.new, upd_same⟩
/-- two tuples walked abreast -/
theorem walk_zipT {K : PySem.W.Frag} {a b : Addr} {xs ys : List V} {n : Nat} (hn : n = min xs.length ys.length) : Walk (RZ.ItzT K a b) n (fun H => SqT K H a xs ∧ SqT K H b ys) (YPair (fun i => xs[i]?) (fun i => ys[i]?)) := by
  subst hn
  refine ⟨fun i _ hi q => ?_, fun _ q => ⟨xs, ys, q.1, q.2, by omega⟩, fun i H v H' _ q y => ?_⟩
  · have h1 : i < xs.length := by omega
    have h2 : i < ys.length := by omega
    exact ⟨xs, ys, xs[i], ys[i], q.1, q.2, by simp [h1], by simp [h2]⟩
  · obtain ⟨T, x, z, h1, h2, h3, h4, h5⟩ := y
    exact ⟨T, x, z, h1, h2, h3, h4 xs q.1, h5 ys q.2⟩
theorem cut1 (xs : List V) : cutV xs (some 1) none = xs.drop 1 := by
  unfold cutV
  rw [show HT.sIx xs.length 0 (some 1) = min 1 xs.length from HT.sIx_nat xs.length 0 1, HT.sIx_none]
  cases xs with
  | nil => rfl
  | cons x r =>
    rw [show min 1 (x :: r).length = 1 by
      rw [List.length_cons]
      omega]
    show (List.take ((x :: r).length - 1) r) = r
    rw [List.length_cons, Nat.add_sub_cancel]
    exact List.take_length
theorem cut1_whole {xs : List V} (h : HT.sIx xs.length 0 (some 1) = 0 ∧ HT.sIx xs.length xs.length none = xs.length) : xs = [] := by
  have h1 := h.1
  rw [show HT.sIx xs.length 0 (some 1) = min 1 xs.length from HT.sIx_nat xs.length 0 1] at h1
  cases xs with
  | nil => rfl
  | cons x r => rw [List.length_cons] at h1; omega
/-! ### targets: two names -/
theorem pg_two {X : Cx} {x y : Str} {p1 p2 pos : Pos} {kk i j : Nat} (hc : X.calm = true) (hN : X.N.Nodup) (hi : X.N[i]? = some x) (hx : Loc X.env.scope x) (hfx : X.fn x = true ∨ X.env.scope.names.lookup x = some .local) (hj : X.N[j]? = some y) (hy : Loc X.env.scope y) (hfy : X.fn y = true ∨ X.env.scope.names.lookup y = some .local) :
    PG X (.Tuple [.Name x p1, .Name y p2] kk pos) (gTup X.K 2 (gCons (gName i) (gCons (gName j) gNil))) :=
  pg_tup hc (pgs_cons (pg_name hN hi hx hfx) (pgs_cons (pg_name hN hj hy hfy) pgs_nil))
/-! ### repr of a bool, a call by keywords alone -/
section
variable {X : Cx}
def boolText (b : Bool) : Str := if b then "True" else "False"
theorem call_repr_bool : CallR X (.builtin "repr") (fun xs H Q => ∃ b, xs = [.bl b] ∧ Q (.str (boolText b)) H) := by
  intro pins s σ H xs us Q I r h
  obtain ⟨b, rfl, q⟩ := h
  obtain ⟨u, rfl, rx⟩ := vals1 r
  cases (show u = Value.bool b from rx)
  exact PySem.P.repr_of_bool ⟨.str _, H, I.tok _, ⟨_, rfl⟩, q⟩
theorem boolText_inj {a b : Bool} : boolText a = boolText b ↔ a = b := by
  cases a <;> cases b <;> decide
variable {k : Nat} {f : Addr} {fd : FuncData} {ps ks : List Str} {sp : Sp} {CX : CXT} {E : XK} {x : Str} {p pos : Pos} {kws : List PySem.Keyword} {tk : TA} {g : List Value → List Value → List Value} {gV : List V → List V → List V}
theorem pe_callK0 (F : FnOk X.prog X.w X.K X.mg X.base CX k f fd ps sp) (hr : Room k X.A) (hg : Gl X x) (hm : X.mg x = some (.ref f)) (hk : PySem.W.keepIn X.K (.ref f) = true) (hb : KBinds X.K fd ps ks g gV) (hx : Passes CX X E)
    (hkw : PK X kws tk) (hall : (backToKw pos (keywordEach kws X.env)).all (·.1.isSome) = true := by rfl) (hks : (backToKw pos (keywordEach kws X.env)).filterMap (·.1) = ks := by rfl)
    (hdb : (x == ("__debug__" : Str)) = false := by decide)
    (hpl : ((backTo pos (starEach [] X.env)).any (·.1) || (backToKw pos (keywordEach kws X.env)).any (·.1.isNone)) = false := by rfl) :
    PE X (.Call (.Name x p) [] kws pos) (tCallK sp gV E tNil tk) := by
  refine ⟨fun pins s σ H Q I h => ?_⟩
  refine wpAny_Call_Name_kw (ld_glob I hg hm ?_ hdb)
  refine PySem.W.callWith_KW0 (h₀ := X.base) I.ok.mod.kin hk hall ?_ hpl
  refine thn (hkw.run pos pins s σ H _ I h) fun ws s2 ⟨zs, H2, I2, rz, q2⟩ => ⟨I2.kIn, ?_⟩
  rw [hks]
  exact run_fnk F hr hb hx I2 .nil rz q2
end
/-- two values by keywords, in the other order -/
def swap2 {α : Type} : List α → List α → List α
  | [], [a, b] => [b, a]
  | _, _ => []
theorem swap2_len {α : Type} {us ws : List α} (h : (swap2 us ws).length = 2) : ∃ a b, us = [] ∧ ws = [a, b] := by
  match us, ws, h with
  | [], [a, b], _ => exact ⟨a, b, rfl, rfl⟩
  | [], [], h => cases h
  | [], [_], h => cases h
  | [], _ :: _ :: _ :: _, h => cases h
  | _ :: _, _, h => cases h
theorem swap2_rel {vs : List V} {us : List Value} {zs : List V} {ws : List Value} (r : Vals vs us) (rz : Vals zs ws) : Vals (swap2 vs zs) (swap2 us ws) := by
  cases r with
  | nil =>
    cases rz with
    | nil => exact .nil
    | cons r1 rz =>
      cases rz with
      | nil => exact .nil
      | cons r2 rz =>
        cases rz with
        | nil => exact .cons r2 (.cons r1 .nil)
        | cons r3 rz => exact .nil
  | cons r1 r => exact .nil
end Ov
namespace Ov
open PySem PySem.Spec PyProof.Rows L2
def top (i : Nat) : Stmt := PySem.Challenge.pw_overlapcode_k06_sums_by_plain_adding.main.body.getD i (.Pass ⟨0, 0, 0, 0⟩)
abbrev sIsInt : Stmt := top 1
abbrev sBetween : Stmt := top 2
abbrev sAscending : Stmt := top 3
abbrev sIsSum : Stmt := top 10
abbrev sLeast : Stmt := top 11
abbrev sCheck : Stmt := top 12
abbrev sAre : Stmt := top 13
abbrev sGcd : Stmt := top 14
abbrev sWith : Stmt := top 15
abbrev sReached : Stmt := top 16
/-- the built-in names that the text leaves alone -/
structure Bi (mg : Str → Option Value) : Prop where
  isi : mg "isinstance" = none
  int : mg "int" = none
  bool : mg "bool" = none
  tuple : mg "tuple" = none
  list : mg "list" = none
  all : mg "all" = none
  any : mg "any" = none
  zip : mg "zip" = none
  len : mg "len" = none
  range : mg "range" = none
  abs : mg "abs" = none
  sorted : mg "sorted" = none
  min : mg "min" = none
  repr : mg "repr" = none
section
variable {P : Program} {w : World} {K : PySem.W.Frag} {mg : Str → Option Value} {base : Heap}
/-- where a def stands, and that its name tells it -/
structure Def (K : PySem.W.Frag) (mg : Str → Option Value) (x : Str) (st : Stmt) (f : Addr) (fd : FuncData) (ps : List Str) : Prop where
  fn : Fun K x x st f fd
  gl : mg x = some (.ref f)
  bi : Binds K fd ps []
/-! ### is_integer, is_integer_between -/
def spIsInt : Sp := fun vs H Q _ => ∃ (v : Int), vs = [.int v] ∧ Q (.bl true) H
theorem scIsInt : FnScope ["value"] ["value"] (defScope sIsInt) := ⟨rfl, rfl, rfl, by decide +kernel, rfl, by decide +kernel, by decide +kernel⟩
theorem ok_isInt {f : Addr} {fd : FuncData} {k : Nat} (F : Fun K "is_integer" "is_integer" sIsInt f fd) (T : Bi mg) : FnOk P w K mg base CX0 (k + 1) f fd ["value"] spIsInt := by
  refine F.ok scIsInt (fun vs H Q E h => ?_) (fun cdv A outer s H vs Q E hr h => ?_)
  · obtain ⟨v, rfl, _⟩ := h
    rfl
  · obtain ⟨v, rfl, q⟩ := h
    refine ⟨_, pss_one (ps_ret (pe_and (pe_callB call_isi (by rfl) T.isi (by decide +kernel) (pa_cons (pv 0) (pa_cons (pe_bltn (v := .ty "int") (u := .type "int") (by rfl) T.int (by decide +kernel) rfl) pa_nil)))
      (pe_one (pe_not (pe_callB call_isi (by rfl) T.isi (by decide +kernel) (pa_cons (pv 0) (pa_cons (pe_bltn (v := .ty "bool") (u := .type "bool") (by rfl) T.bool (by decide +kernel) rfl) pa_nil))))))), ?_⟩
    refine ⟨_, rfl, _, _, _, _, _, rfl, .ty _, .base (.int _), kit_ty (by decide +kernel : kitB "int" "int" = some true), _, rfl, iteT ?_⟩
    exact ⟨_, rfl, _, _, _, _, _, rfl, .ty _, .base (.int _), kit_ty (by decide +kernel : kitB "int" "bool" = some false), _, rfl, q⟩
def spBetween : Sp := fun vs H Q _ => ∃ (v lo hi : Int), vs = [.int v, .int lo, .int hi] ∧ lo ≤ v ∧ v ≤ hi ∧ Q (.bl true) H
theorem scBetween : FnScope ["value", "least", "most"] ["value", "least", "most"] (defScope sBetween) := ⟨rfl, rfl, rfl, by decide +kernel, rfl, by decide +kernel, by decide +kernel⟩
theorem ok_between {f fI : Addr} {fd fdI : FuncData} {k : Nat} (F : Fun K "is_integer_between" "is_integer_between" sBetween f fd) (T : Bi mg) (I : Def K mg "is_integer" sIsInt fI fdI ["value"]) : FnOk P w K mg base CX0 (k + 2) f fd ["value", "least", "most"] spBetween := by
  have GI : FnOk P w K mg base CX0 (k + 1) fI fdI ["value"] spIsInt := ok_isInt I.fn T
  refine F.ok scBetween (fun vs H Q E h => ?_) (fun cdv A outer s H vs Q E hr h => ?_)
  · obtain ⟨v, lo, hi, rfl, _⟩ := h
    rfl
  · obtain ⟨v, lo, hi, rfl, h1, h2, q⟩ := h
    refine ⟨_, pss_one (ps_ret (pe_and (pe_call GI hr (by rfl) I.gl I.fn.kp I.bi .nil pass0 (pa_cons (pv 0) pa_nil))
        (pe_one (pe_chain op_le op_le (pv 1) (pv 0) (pv 2))))), ?_⟩
    refine ⟨_, rfl, v, rfl, _, rfl, iteT ?_⟩
    refine ⟨_, rfl, _, rfl, _, _, rfl, rfl, _, rfl, ?_⟩
    rw [decide_eq_true h1]
    refine iteT ⟨_, rfl, _, _, rfl, rfl, ?_⟩
    show Q (.bl (decide (v ≤ hi))) H
    rw [decide_eq_true h2]
    exact q
/-! ### is_ascending -/
def spAscending (K : PySem.W.Frag) : Sp := fun vs H Q _ => ∃ (a : Addr) (ns : List Int), vs = [.ref a] ∧ SqT K H a (ns.map V.int) ∧ ns.length ≤ 1000 ∧ ns.Pairwise (· < ·) ∧ ∀ H', Same H H' → Q (.bl true) H'
theorem scAscending : FnScope ["numbers", "low", "high"] ["numbers"] (defScope sAscending) := ⟨rfl, rfl, rfl, by decide +kernel, rfl, by decide +kernel, by decide +kernel⟩
theorem all_true (n : Nat) : (List.replicate n true).all id = true := by
  rw [List.all_eq_true]
  intro x hx
  exact (List.mem_replicate.mp hx).2
theorem ok_ascending {f : Addr} {fd : FuncData} {k : Nat} (F : Fun K "is_ascending" "is_ascending" sAscending f fd) (T : Bi mg) : FnOk P w K mg base CX0 (k + 1) f fd ["numbers"] (spAscending K) := by
  refine F.ok scAscending (fun vs H Q E h => ?_) (fun cdv A outer s H vs Q E hr h => ?_)
  · obtain ⟨a, ns, rfl, _⟩ := h
    rfl
  · obtain ⟨a, ns, rfl, hS, hlen, hasc, q⟩ := h
    refine ⟨_, pss_one (ps_ret (pe_callB (cr_all rfl) (by rfl) T.all (by decide +kernel) (pa_cons
      (pe_lc (own := [("low", 1), ("high", 2)]) (g := gTup K 2 (gCons (gName 1) (gCons (gName 2) gNil))) (tt := tYes) (by rfl) scAscending.nd (RZ.pi_zipA (by rfl) T.zip (pa_cons (pv 0) (pa_cons (pe_slice sl_tupA (pv 0) (po_some pe_int) po_none) pa_nil)))
        (blkOk_by (own := [("low", 1), ("high", 2)]) (N := ["numbers", "low", "high"]) (sc := defScope sAscending) (by decide +kernel))
        (fun _ _ _ _ _ => pg_tup rfl (pgs_cons (pg_name (i := 1) scAscending.nd rfl (Or.inl rfl)) (pgs_cons (pg_name (i := 2) scAscending.nd rfl (Or.inl rfl)) pgs_nil)))
        (fun _ _ _ _ _ => pts_nil) (fun _ _ _ _ _ => pe_cmpR op_lt (pv 1) (pv 2) (nomark _))) pa_nil))), ?_⟩
    -- zip(numbers, numbers[1:])
    refine ⟨_, rfl, _, rfl, 1, rfl, a, ns.map V.int, rfl, hS, fun hw => ?_, fun hw c nc => ?_⟩
    · have e0 : ns = [] := List.map_eq_nil_iff.mp (cut1_whole hw)
      subst e0
      refine ⟨a, a, [], [], rfl, .inr ⟨hS, hS, fun D nD => lc_it (walk_zipT (xs := []) (ys := []) rfl) (fun i H2 => i = 0 ∧ Mk H H2 D []) ⟨rfl, .start nD⟩ (fun i H2 _ p => ⟨p.2.same.tup hS, p.2.same.tup hS⟩) (fun i x H2 H3 hi => absurd hi (by show ¬ i < 0; omega)) (fun H2 p => ?_)⟩⟩
      exact ⟨D, [], rfl, .inl (.inl p.2.at_), q H2 p.2.same⟩
    · have s1 : Same H (upd H c (.tup (cutV (ns.map V.int) (some 1) none))) := same_upd nc
      have hc : SqT K (upd H c (.tup (cutV (ns.map V.int) (some 1) none))) c ((ns.drop 1).map V.int) := .inl (.inl (by rw [upd_same, cut1, List.map_drop]))
      refine ⟨a, c, ns.map V.int, (ns.drop 1).map V.int, rfl, .inr ⟨s1.tup hS, hc, fun D nD => lc_it (walk_zipT (xs := ns.map V.int) (ys := (ns.drop 1).map V.int) rfl)
        (fun i H2 => Mk (upd H c (.tup (cutV (ns.map V.int) (some 1) none))) H2 D ((List.replicate i true).map V.bl)) (.start nD) (fun i H2 _ p => ⟨p.same.tup (s1.tup hS), p.same.tup hc⟩) (fun i x H2 H3 hi p y => ?_) (fun H2 p => ?_)⟩⟩
      · obtain ⟨t, x1, x2, rfl, nt, rfl, f1, f2⟩ := y
        have hi' : i < min ns.length (ns.length - 1) := by simpa using hi
        have h1 : i < ns.length := by omega
        have h2 : i + 1 < ns.length := by omega
        have e1 : x1 = .int ns[i] := by
          have : (ns.map V.int)[i]? = some x1 := f1
          rw [List.getElem?_map, List.getElem?_eq_getElem h1] at this
          exact (Option.some.inj this).symm
        have e2 : x2 = .int ns[i + 1] := by
          have : ((ns.drop 1).map V.int)[i]? = some x2 := f2
          rw [List.getElem?_map, List.getElem?_drop, Nat.add_comm 1 i, List.getElem?_eq_getElem h2] at this
          exact (Option.some.inj this).symm
        have hlt : ns[i] < ns[i + 1] := List.pairwise_iff_getElem.mp hasc i (i + 1) h1 h2 (by omega)
        refine ⟨t, [x1, x2], rfl, .inl (.inl upd_same), rfl, x1, [x2], rfl, x2, [], rfl, rfl, rfl, x1, rfl, x2, rfl, _, _, e1, e2, _, (by rw [upd_ne (ne_of_none p.at_ nt)]; exact p.at_), (by rw [List.length_map, List.length_replicate]; exact small1000 (by omega)), ?_⟩
        show Mk _ (upd _ D (.lst (_ ++ [V.bl (decide (ns[i] < ns[i + 1]))]))) D _
        rw [decide_eq_true hlt, List.replicate_succ', List.map_append]
        exact p.put (same_upd nt)
      · refine ⟨D, _, rfl, .inl (.inl p.at_), ?_⟩
        rw [all_true]
        exact q H2 (s1.trans p.same)
end
end Ov
namespace Ov
open PySem PySem.Spec PyProof.Rows L2
section
variable {P : Program} {w : World} {K : PySem.W.Frag} {mg : Str → Option Value} {base : Heap}
/-- lengths that are valid -/
structure Lens (ns : List Int) : Prop where
  few : ns.length ≤ 50
  low : ∀ n ∈ ns, 1 ≤ n ∧ n ≤ 1000
  asc : ns.Pairwise (· < ·)
/-! ### are_lengths -/
def spAre : Sp := fun vs H Q _ => ∃ (a : Addr) (ns : List Int), vs = [.ref a] ∧ H a = some (.tup (ns.map V.int)) ∧ Lens ns ∧ ∀ H', Same H H' → Q (.bl true) H'
theorem scAre : FnScope ["value", "item"] ["value"] (defScope sAre) := ⟨rfl, rfl, rfl, by decide +kernel, rfl, by decide +kernel, by decide +kernel⟩
theorem ok_are {f fB fA : Addr} {fd fdB fdA : FuncData} {k : Nat} (F : Fun K "are_lengths" "are_lengths" sAre f fd) (T : Bi mg)
    (B : Def K mg "is_integer_between" sBetween fB fdB ["value", "least", "most"]) (GB : FnOk P w K mg base CX0 (k + 1) fB fdB ["value", "least", "most"] spBetween) (A : Def K mg "is_ascending" sAscending fA fdA ["numbers"]) (m1 : ∃ t, mg "MOST_LENGTHS" = some (.int 50 t)) (m2 : ∃ t, mg "GREATEST_LENGTH" = some (.int 1000 t)) :
    FnOk P w K mg base CX0 (k + 2) f fd ["value"] spAre := by
  have GA : FnOk P w K mg base CX0 (k + 1) fA fdA ["numbers"] (spAscending K) := ok_ascending A.fn T
  obtain ⟨t1, m1⟩ := m1
  obtain ⟨t2, m2⟩ := m2
  refine F.ok scAre (fun vs H Q E h => ?_) (fun cdv A' outer s H vs Q E hr h => ?_)
  · obtain ⟨a, ns, rfl, _⟩ := h
    rfl
  · obtain ⟨a, ns, rfl, hS, L, q⟩ := h
    refine ⟨_, pss_cons (ps_if (PW.pt (pw_or (pt_not (pt_val (pe_callB call_isi (by rfl) T.isi (by decide +kernel) (pa_cons (pv 0) (pa_cons (pe_bltn (v := .ty "tuple") (u := .type "tuple") (by rfl) T.tuple (by decide +kernel) rfl) pa_nil)))))
        (pw_or1 (pt_cmpR op_gt (pe_callB call_len_seq (by rfl) T.len PySem.boot_len (pa_cons (pv 0) pa_nil)) (pe_glob (v := .int 50) (by rfl) m1 ⟨_, rfl⟩) (nomark _))))) (pss_one (ps_ret pe_bl)) pss_nil)
      (pss_one (ps_ret (pe_and (pe_callB (cr_all rfl) (by rfl) T.all (by decide +kernel) (pa_cons
        (pe_lc (own := [("item", 1)]) (g := gName 1) (tt := tYes) (by rfl) scAre.nd (pi_tup (pv 0))
          (blkOk_by (own := [("item", 1)]) (N := ["value", "item"]) (sc := defScope sAre) (by decide +kernel))
          (fun _ _ _ _ _ => pg_name (i := 1) scAre.nd rfl (Or.inl rfl))
          (fun _ _ _ _ _ => pts_nil) (fun _ _ _ _ _ => pe_call GB hr (by rfl) B.gl B.fn.kp B.bi .nil pass0 (pa_cons (pv 1) (pa_cons pe_int (pa_cons (pe_glob (v := .int 1000) (by rfl) m2 ⟨_, rfl⟩) pa_nil))))) pa_nil))
        (pe_one (pe_call GA hr (by rfl) A.gl A.fn.kp A.bi .nil pass0 (pa_cons (pv 0) pa_nil)))))), ?_⟩
    refine ⟨_, rfl, _, _, _, _, _, rfl, .ty _, .base (.tup hS), kit_ty (by decide +kernel : kitB "tuple" "tuple" = some true), _, rfl, ?_⟩
    refine iteF ⟨_, rfl, a, _, rfl, .inr (SqT.of hS), _, _, rfl, rfl, _, rfl, ?_⟩
    rw [List.length_map, decide_eq_false (by have := L.few; omega)]
    refine iteF ?_
    refine ⟨_, rfl, a, rfl, ⟨_, SqT.of hS⟩, fun D nD => lc_tup (K := K) (a := a) (xs := ns.map V.int) (fun i H2 => Mk H H2 D ((List.replicate i true).map V.bl)) (.start nD) (fun i H2 _ p => p.same.tup (SqT.of hS)) ?_ ?_⟩
    · intro i x H2 hx p
      have hi : i < ns.length := by
        have := (List.getElem?_eq_some_iff.mp hx).1
        rwa [List.length_map] at this
      have ex : x = .int ns[i] := by
        rw [List.getElem?_map, List.getElem?_eq_getElem hi] at hx
        exact (Option.some.inj hx).symm
      have hb := L.low _ (List.getElem_mem hi)
      refine ⟨rfl, x, rfl, ns[i], 1, 1000, ?_, hb.1, hb.2, _, p.at_, (by rw [List.length_map, List.length_replicate]; exact small1000 (by have := L.few; omega)), ?_⟩
      · rw [ex]; rfl
      · rw [List.replicate_succ', List.map_append]
        exact p.put (Same.refl _)
    · intro H2 p
      refine ⟨D, _, rfl, SqL.of p.at_, _, rfl, ?_⟩
      rw [all_true]
      refine iteT ⟨_, rfl, a, ns, rfl, p.same.tup (SqT.of hS), by have := L.few; omega, L.asc, fun H3 s3 => q H3 (p.same.trans s3)⟩
end
end Ov
namespace Ov
open PySem PySem.Spec PyProof.Rows L2
section
variable {P : Program} {w : World} {K : PySem.W.Frag} {mg : Str → Option Value} {base : Heap}
/-! ### check_lengths -/
def spCheck : Sp := fun vs H Q _ => ∃ (a : Addr) (ns : List Int), vs = [.ref a] ∧ H a = some (.tup (ns.map V.int)) ∧ Lens ns ∧ ∀ H', Same H H' → Q .non H'
theorem scCheck : FnScope ["lengths"] ["lengths"] (defScope sCheck) := ⟨rfl, rfl, rfl, by decide +kernel, rfl, by decide +kernel, by decide +kernel⟩
theorem ok_check {f fA : Addr} {fd fdA : FuncData} {k : Nat} (F : Fun K "check_lengths" "check_lengths" sCheck f fd) (A : Def K mg "are_lengths" sAre fA fdA ["value"]) (GA : FnOk P w K mg base CX0 k fA fdA ["value"] spAre) :
    FnOk P w K mg base CX0 (k + 1) f fd ["lengths"] spCheck := by
  refine F.ok scCheck (fun vs H Q E h => ?_) (fun cdv A' outer s H vs Q E hr h => ?_)
  · obtain ⟨a, ns, rfl, _⟩ := h
    rfl
  · obtain ⟨a, ns, rfl, hS, L, q⟩ := h
    refine ⟨_, pss_one (ps_if (pt_not (pt_val (pe_call GA hr (by rfl) A.gl A.fn.kp A.bi .nil pass0 (pa_cons (pv 0) pa_nil)))) (pss_one ps_never) pss_nil), ?_⟩
    exact ⟨_, rfl, a, ns, rfl, hS, L, fun H' s' => ⟨_, rfl, iteF (q H' s')⟩⟩
/-! ### divisor_of_two -/
def spGcd : Sp := fun vs H Q _ => ∃ (m n : Nat), vs = [.int m, .int n] ∧ Q (.int (Nat.gcd m n)) H
theorem scGcd : FnScope ["first", "second"] ["first", "second"] (defScope sGcd) := ⟨rfl, rfl, rfl, by decide +kernel, rfl, by decide +kernel, by decide +kernel⟩
def secondOf : L2.St → Nat := fun σ => match σ with
  | [_, some (.int n)] => n.toNat
  | _ => 0
theorem ok_gcd {f : Addr} {fd : FuncData} {k : Nat} (F : Fun K "divisor_of_two" "divisor_of_two" sGcd f fd) : FnOk P w K mg base CX0 (k + 1) f fd ["first", "second"] spGcd := by
  refine F.ok scGcd (fun vs H Q E h => ?_) (fun cdv A' outer s H vs Q E hr h => ?_)
  · obtain ⟨m, n, rfl, _⟩ := h
    rfl
  · obtain ⟨m, n, rfl, q⟩ := h
    refine ⟨_, pss_cons (ps_while PassesOwn.never (pt_cmpR op_gt (pv 1) pe_int (nomark _))
      (pss_one (ps_par (i := 0) (j := 1) (by rfl) scGcd.nd rfl rfl (by decide) rfl rfl (pa_cons (pv 1) (pa_cons (pe_op op_mod (pv 0) (pv 1)) pa_nil)) (by rfl))))
      (pss_one (ps_ret (pv 0))), ?_⟩
    refine while_by (fun σ H2 => H2 = H ∧ ∃ (x y : Nat), σ = [some (.int x), some (.int y)] ∧ Nat.gcd x y = Nat.gcd m n) (fun σ _ => secondOf σ) ⟨rfl, m, n, rfl, rfl⟩ ?_ ?_
    · rintro σ H2 ⟨rfl, x, y, rfl, e⟩
      refine ⟨_, rfl, _, _, rfl, rfl, _, rfl, ?_⟩
      by_cases hy : (y : Int) > 0
      · rw [decide_eq_true hy]
        refine iteT ⟨_, rfl, _, rfl, _, rfl, _, _, rfl, rfl, hy, _, _, rfl, ⟨rfl, y, x % y, rfl, ?_⟩, ?_⟩
        · rw [← e, Nat.gcd_comm x y, Nat.gcd_rec y x, Nat.gcd_comm]
        · show ((x : Int) % (y : Int)).toNat < (y : Int).toNat
          have : (x : Int) % (y : Int) = ((x % y : Nat) : Int) := by simp
          rw [this, Int.toNat_natCast, Int.toNat_natCast]
          exact Nat.mod_lt x (show 0 < y by omega)
      · rw [decide_eq_false hy]
        have y0 : y = 0 := by omega
        subst y0
        rw [Nat.gcd_zero_right] at e
        refine iteF ⟨_, rfl, ?_⟩
        rw [e]
        exact q
    · rintro σ H2 Q1 Q2 hQ ⟨v, h1, i, j, h2, h3, b, h4, h5⟩
      exact ⟨v, h1, i, j, h2, h3, b, h4, hQ _ _ h5⟩
end
end Ov
namespace Ov
open PySem PySem.Spec PyProof.Rows L2
/-- a least sum as a value -/
def optV : Option Nat → V
  | none => .non
  | some x => .int x
theorem relax_none {L r f : Nat} {a : List (Option Nat)} (h : a.getD r none = none) : relax L r f a = a := by
  unfold relax; rw [h]
theorem relax_new {L r f x : Nat} {a : List (Option Nat)} (h : a.getD r none = some x) (h2 : a.getD f none = none) : relax L r f a = a.set f (some (x + L)) := by
  unfold relax; simp only [h, h2]
theorem relax_lt {L r f x y : Nat} {a : List (Option Nat)} (h : a.getD r none = some x) (h2 : a.getD f none = some y) (c : x + L < y) : relax L r f a = a.set f (some (x + L)) := by
  unfold relax; simp only [h, h2]; exact if_pos c
theorem relax_ge {L r f x y : Nat} {a : List (Option Nat)} (h : a.getD r none = some x) (h2 : a.getD f none = some y) (c : ¬ x + L < y) : relax L r f a = a := by
  unfold relax; simp only [h, h2]; exact if_neg c
theorem at_opt {a : List (Option Nat)} {r : Nat} {o : Option Nat} (hr : r < a.length) (h : a.getD r none = o) : (a.map optV)[r]? = some (optV o) := by
  rw [List.getElem?_map, List.getElem?_eq_getElem hr]
  rw [List.getD_eq_getElem?_getD, List.getElem?_eq_getElem hr] at h
  show some (optV a[r]) = _
  rw [show a[r] = o from h]
theorem set_opt (a : List (Option Nat)) (f z : Nat) : (a.map optV).set f (.int ((z : Nat) : Int)) = (a.set f (some z)).map optV := by
  rw [List.map_set]; rfl
theorem ixN_at {n j : Nat} (hj : j < n) : ixN n (j : Int) = some j := by
  unfold ixN
  rw [if_pos (by omega), if_pos (by omega)]
  simp
section
variable {P : Program} {w : World} {K : PySem.W.Frag} {mg : Str → Option Value} {base : Heap}
/-! ### with_length -/
def spWith : Sp := fun vs H Q _ => ∃ (l : Addr) (a : List (Option Nat)) (L : Nat), vs = [.ref l, .int L] ∧ H l = some (.lst (a.map optV)) ∧ 0 < a.length ∧ a.length ≤ 1000 ∧ 0 < L ∧ L ≤ 1000 ∧
  ∀ H' p, Same H H' → H p = none → H' p = some (.lst ((withLen L a).map optV)) → Q (.ref p) H'
theorem scWith : FnScope ["least", "length", "lowered", "divisor", "steps", "first", "remainder", "step", "following", "reached"] ["least", "length"] (defScope sWith) := ⟨rfl, rfl, rfl, by decide +kernel, rfl, by decide +kernel, by decide +kernel⟩
theorem ok_with {f fG : Addr} {fd fdG : FuncData} {k : Nat} (F : Fun K "with_length" "with_length" sWith f fd) (T : Bi mg) (G : Def K mg "divisor_of_two" sGcd fG fdG ["first", "second"]) :
    FnOk P w K mg base CX0 (k + 2) f fd ["least", "length"] spWith := by
  have GG : FnOk P w K mg base CX0 (k + 1) fG fdG ["first", "second"] spGcd := ok_gcd G.fn
  refine F.ok scWith (fun vs H Q E h => ?_) (fun cdv A' outer s H vs Q E hr h => ?_)
  · obtain ⟨l, a, L, rfl, _⟩ := h
    rfl
  · obtain ⟨l, a, L, rfl, hl, hm, hm2, hL, hL2, q⟩ := h
    refine ⟨_, pss_cons (ps_set (i := 2) scWith.nd rfl (.inl rfl) (pe_callTy call_list_of (by rfl) T.list (by decide +kernel) (pa_cons (pv 0) pa_nil)))
      (pss_cons (ps_set (i := 3) scWith.nd rfl (.inl rfl) (pe_call GG hr (by rfl) G.gl G.fn.kp G.bi .nil pass0 (pa_cons (pe_callB call_len_seq (by rfl) T.len PySem.boot_len (pa_cons (pv 0) pa_nil)) (pa_cons (pv 1) pa_nil))))
      (pss_cons (ps_set (i := 4) scWith.nd rfl (.inl rfl) (pe_op op_mul pe_int (pe_op op_fdiv (pe_callB call_len_seq (by rfl) T.len PySem.boot_len (pa_cons (pv 0) pa_nil)) (pv 3))))
      (pss_cons (ps_for PassesOwn.never rfl (pi_range1 (by rfl) T.range (pa_cons (pv 3) pa_nil)) (pg_name (i := 5) scWith.nd rfl (.inl rfl))
        (pss_cons (ps_set (i := 6) scWith.nd rfl (.inl rfl) (pv 5))
        (pss_one (ps_for PassesOwn.never rfl (pi_range1 (by rfl) T.range (pa_cons (pv 4) pa_nil)) (pg_name (i := 7) scWith.nd rfl (.inl rfl))
          (pss_cons (ps_set (i := 8) scWith.nd rfl (.inl rfl) (pe_op op_mod (pe_op op_add (pv 6) (pv 1)) (pe_callB call_len_seq (by rfl) T.len PySem.boot_len (pa_cons (pv 0) pa_nil))))
          (pss_cons (ps_if (pt_cmpR op_notN (pe_ix ix_list (pv 2) (pv 6) (fun _ _ => rfl)) pe_non (nomark _))
              (pss_cons (ps_set (i := 9) scWith.nd rfl (.inl rfl) (pe_op op_add (pe_ix ix_list (pv 2) (pv 6) (fun _ _ => rfl)) (pv 1)))
              (pss_one (ps_if (PW.pt (pw_or (pt_cmpR op_isN (pe_ix ix_list (pv 2) (pv 8) (fun _ _ => rfl)) pe_non (nomark _)) (pw_or1 (pt_cmpR op_lt (pv 9) (pe_ix ix_list (pv 2) (pv 8) (fun _ _ => rfl)) (nomark _)))))
                (pss_one (ps_asg (pv 9) (pg_sub (pv 2) (pv 8) set_list))) pss_nil))) pss_nil)
          (pss_one (ps_set (i := 6) scWith.nd rfl (.inl rfl) (pv 8)))))))))
      (pss_one (ps_ret (pv 2)))))), ?_⟩
    -- lowered = list(least)
    refine ⟨_, rfl, l, _, rfl, .inl (SqL.of hl), fun p np => ?_⟩
    have s1 : Same H (upd H p (.lst (a.map optV))) := same_upd np
    -- divisor
    refine ⟨_, rfl, l, _, rfl, .inl (SqL.of (s1 _ _ hl)), _, rfl, a.length, L, (by rw [List.length_map]; rfl), ?_⟩
    have hg : 0 < Nat.gcd a.length L := Nat.gcd_pos_of_pos_left _ hm
    have hg2 : Nat.gcd a.length L ≤ a.length := Nat.le_of_dvd hm (Nat.gcd_dvd_left _ _)
    -- steps
    refine ⟨_, rfl, l, _, rfl, .inl (SqL.of (s1 _ _ hl)), _, rfl, _, _, rfl, rfl, ⟨by omega, by omega⟩, _, _, rfl, rfl, .inl ⟨by decide, by decide⟩, ?_⟩
    have eT : (2 : Int) * (((a.map optV).length : Int) / (Nat.gcd a.length L : Nat)) = ((2 * (a.length / Nat.gcd a.length L) : Nat) : Int) := by
      rw [List.length_map]; simp
    have hT2 : 2 * (a.length / Nat.gcd a.length L) ≤ 2000 := by
      have := Nat.div_le_self a.length (Nat.gcd a.length L)
      omega
    generalize hTe : 2 * (a.length / Nat.gcd a.length L) = T2 at *
    dsimp only
    rw [eT]
    -- for first in range(divisor)
    refine ⟨_, rfl, _, rfl, by omega, by omega, for_range (lo := 0) (fun i σ H2 => ∃ y5 y6 y7 y8 y9, σ = [some (.ref l), some (.int L), some (.ref p), some (.int (Nat.gcd a.length L : Nat)), some (.int (T2 : Nat)), y5, y6, y7, y8, y9] ∧ Same H H2 ∧ H2 p = some (.lst ((walks L a.length T2 i a).map optV)))
      ⟨none, none, none, none, none, rfl, s1, upd_same⟩ ?_ ?_⟩
    · rintro i σ H2 hi ⟨y5, y6, y7, y8, y9, rfl, s2, h2⟩
      have hi' : i < Nat.gcd a.length L := by simpa using hi
      have him : i < a.length := by omega
      -- remainder = first
      refine ⟨_, rfl, ?_⟩
      refine ⟨_, rfl, _, rfl, by omega, by omega, for_range (lo := 0) (fun t σ H3 => ∃ y7 y8 y9, σ = [some (.ref l), some (.int L), some (.ref p), some (.int (Nat.gcd a.length L : Nat)), some (.int (T2 : Nat)), some (.int (0 + (i : Int))), some (.int ((steps L a.length t i (walks L a.length T2 i a)).2 : Nat)), y7, y8, y9] ∧ Same H H3 ∧ H3 p = some (.lst ((steps L a.length t i (walks L a.length T2 i a)).1.map optV)))
        ⟨y7, y8, y9, ?_, s2, h2⟩ ?_ ?_⟩
      · show [some _, some _, some _, some _, some _, some _, some (V.int (0 + (i : Int))), _, _, _] = _
        rw [Int.zero_add]; rfl
      · rintro t σ H3 ht ⟨y7, y8, y9, rfl, s3, h3⟩
        generalize hq : steps L a.length t i (walks L a.length T2 i a) = qq at *
        have hlen : qq.1.length = a.length := by
          rw [← hq]
          exact (steps_le ..).1.trans (walks_le ..).1
        have hr : qq.2 < a.length := by
          rw [← hq, steps_at _ _ _ _ him]
          exact Nat.mod_lt _ hm
        have hl3 := s3 _ _ hl
        -- following
        refine ⟨_, rfl, _, rfl, _, _, rfl, rfl, _, rfl, l, _, rfl, .inl (SqL.of hl3), _, _, rfl, rfl, (by rw [List.length_map]; omega), ?_⟩
        have ef : ((qq.2 : Nat) : Int) + (L : Int) = ((qq.2 + L : Nat) : Int) := by simp
        have ef2 : (((qq.2 : Nat) : Int) + (L : Int)) % (((a.map optV).length : Nat) : Int) = (((qq.2 + L) % a.length : Nat) : Int) := by
          rw [List.length_map]; simp
        dsimp only
        rw [ef2]
        have hf : (qq.2 + L) % a.length < qq.1.length := by rw [hlen]; exact Nat.mod_lt _ hm
        have hst : steps L a.length (t + 1) i (walks L a.length T2 i a) = (relax L qq.2 ((qq.2 + L) % a.length) qq.1, (qq.2 + L) % a.length) := by
          show (relax L (steps L a.length t i (walks L a.length T2 i a)).2 _ _, _) = _
          rw [hq]
        generalize hfe : (qq.2 + L) % a.length = ff at *
        -- if lowered[remainder] is not None
        have hr' : qq.2 < qq.1.length := by rw [hlen]; exact hr
        cases eo : qq.1.getD qq.2 none with
        | none =>
          refine ⟨_, rfl, _, rfl, p, _, _, _, rfl, rfl, SqL.of h3, atI_nat (at_opt hr' eo), rfl, _, rfl, ?_⟩
          refine iteF ⟨_, rfl, ?_⟩
          rw [hst, relax_none eo]
          exact ⟨_, _, _, rfl, s3, h3⟩
        | some x =>
          refine ⟨_, rfl, _, rfl, p, _, _, _, rfl, rfl, SqL.of h3, atI_nat (at_opt hr' eo), rfl, _, rfl, ?_⟩
          refine iteT ⟨_, rfl, _, rfl, p, _, _, _, rfl, rfl, SqL.of h3, atI_nat (at_opt hr' eo), _, rfl, _, _, rfl, rfl, ?_⟩
          have ex : (x : Int) + (L : Int) = ((x + L : Nat) : Int) := by simp
          cases eo2 : qq.1.getD ff none with
          | none =>
            refine ⟨_, rfl, _, rfl, p, _, _, _, rfl, rfl, SqL.of h3, atI_nat (at_opt hf eo2), rfl, _, rfl, ?_⟩
            refine iteT ⟨_, rfl, _, rfl, _, rfl, p, _, _, ff, rfl, rfl, h3, (by rw [List.length_map]; exact ixN_at hf), ?_⟩
            refine ⟨_, rfl, ?_⟩
            rw [hst, relax_new eo eo2]
            refine ⟨_, _, _, rfl, fun b o e => ?_, ?_⟩
            · rw [upd_ne (ne_of_none e np)]
              exact s3 b o e
            · rw [upd_same]
              show some (HO.lst ((qq.1.map optV).set ff (V.int ((x : Int) + (L : Int))))) = _
              rw [ex, set_opt]
          | some y =>
            refine ⟨_, rfl, _, rfl, p, _, _, _, rfl, rfl, SqL.of h3, atI_nat (at_opt hf eo2), rfl, _, rfl, ?_⟩
            refine iteF ⟨_, rfl, _, rfl, _, rfl, p, _, _, _, rfl, rfl, SqL.of h3, atI_nat (at_opt hf eo2), _, _, rfl, rfl, _, rfl, ?_⟩
            by_cases c : x + L < y
            · rw [decide_eq_true (show (x : Int) + (L : Int) < (y : Int) by omega)]
              refine iteT ⟨_, rfl, _, rfl, _, rfl, p, _, _, ff, rfl, rfl, h3, (by rw [List.length_map]; exact ixN_at hf), ?_⟩
              refine ⟨_, rfl, ?_⟩
              rw [hst, relax_lt eo eo2 c]
              refine ⟨_, _, _, rfl, fun b o e => ?_, ?_⟩
              · rw [upd_ne (ne_of_none e np)]
                exact s3 b o e
              · rw [upd_same]
                show some (HO.lst ((qq.1.map optV).set ff (V.int ((x : Int) + (L : Int))))) = _
                rw [ex, set_opt]
            · rw [decide_eq_false (show ¬ (x : Int) + (L : Int) < (y : Int) by omega)]
              refine iteF ⟨_, rfl, ?_⟩
              rw [hst, relax_ge eo eo2 c]
              exact ⟨_, _, _, rfl, s3, h3⟩
      · rintro σ H3 ⟨y7, y8, y9, rfl, s3, h3⟩
        refine ⟨_, _, _, _, _, rfl, s3, ?_⟩
        exact h3
    · rintro σ H2 ⟨y5, y6, y7, y8, y9, rfl, s2, h2⟩
      refine ⟨_, rfl, q H2 p s2 np ?_⟩
      rw [h2]
      unfold withLen
      rw [hTe]
      simp
end
end Ov
namespace Ov
open PySem PySem.Spec PyProof.Rows L2
theorem flat_rep {α : Type} (x : α) : ∀ n : Nat, (List.replicate n [x]).flatten = List.replicate n x
  | 0 => rfl
  | n + 1 => by rw [List.replicate_succ, List.flatten_cons, flat_rep x n, List.replicate_succ]; rfl
theorem fold_len (R : List Nat) : ∀ a : List (Option Nat), (R.foldl (fun a L => withLen L a) a).length = a.length := by
  induction R with
  | nil => intro a; rfl
  | cons L R ih => intro a; rw [List.foldl_cons, ih, withLen_len]
theorem take_more {α : Type} {l : List α} {i : Nat} {x : α} (h : l[i]? = some x) : l.take (i + 1) = l.take i ++ [x] := by
  rw [List.take_add_one, h]; rfl
section
variable {P : Program} {w : World} {K : PySem.W.Frag} {mg : Str → Option Value} {base : Heap}
/-! ### least_sums -/
def spLeast : Sp := fun vs H Q _ => ∃ (a : Addr) (ns : List Int), vs = [.ref a] ∧ H a = some (.tup (ns.map V.int)) ∧ Lens ns ∧
  ∀ H' p, Same H H' → H p = none → H' p = some (.tup ((leasts (ns.map Int.toNat)).map optV)) → Q (.ref p) H'
theorem scLeast : FnScope ["lengths", "least", "length"] ["lengths"] (defScope sLeast) := ⟨rfl, rfl, rfl, by decide +kernel, rfl, by decide +kernel, by decide +kernel⟩
theorem ok_least {f fC fW : Addr} {fd fdC fdW : FuncData} {k : Nat} (F : Fun K "least_sums" "least_sums" sLeast f fd) (T : Bi mg)
    (C : Def K mg "check_lengths" sCheck fC fdC ["lengths"]) (GC : FnOk P w K mg base CX0 k fC fdC ["lengths"] spCheck)
    (W : Def K mg "with_length" sWith fW fdW ["least", "length"]) (GW : FnOk P w K mg base CX0 k fW fdW ["least", "length"] spWith) : FnOk P w K mg base CX0 (k + 1) f fd ["lengths"] spLeast := by
  refine F.ok scLeast (fun vs H Q E h => ?_) (fun cdv A' outer s H vs Q E hr h => ?_)
  · obtain ⟨a, ns, rfl, _⟩ := h
    rfl
  · obtain ⟨a, ns, rfl, hS, L, q⟩ := h
    refine ⟨_, pss_cons (ps_expr (pe_call GC hr (by rfl) C.gl C.fn.kp C.bi .nil pass0 (pa_cons (pv 0) pa_nil)))
      (pss_cons (ps_if (pt_cmpR op_eq (pe_callB call_len_seq (by rfl) T.len PySem.boot_len (pa_cons (pv 0) pa_nil)) pe_int (nomark _)) (pss_one (ps_ret (pe_tup pa_nil))) pss_nil)
      (pss_cons (ps_set (i := 1) scLeast.nd rfl (.inl rfl) (pe_op op_cat (pe_lst (pa_cons pe_int pa_nil)) (pe_op op_rep (pe_lst (pa_cons pe_non pa_nil)) (pe_op op_sub (pe_ix ix_tup (pv 0) pe_int (fun _ _ => rfl)) pe_int))))
      (pss_cons (ps_for PassesOwn.never rfl (pi_tup (pe_slice sl_tupA (pv 0) (po_some pe_int) po_none)) (pg_name (i := 2) scLeast.nd rfl (.inl rfl))
        (pss_one (ps_set (i := 1) scLeast.nd rfl (.inl rfl) (pe_call GW hr (by rfl) W.gl W.fn.kp W.bi .nil pass0 (pa_cons (pv 1) (pa_cons (pv 2) pa_nil))))))
      (pss_one (ps_ret (pe_callTy call_tuple_of (by rfl) T.tuple (by decide +kernel) (pa_cons (pv 1) pa_nil))))))), ?_⟩
    refine ⟨_, rfl, a, ns, rfl, hS, L, fun H1 s1 => ?_⟩
    have h1 := s1 _ _ hS
    refine ⟨_, rfl, a, _, rfl, .inr (SqT.of h1), rfl, _, rfl, ite2 (fun e => ?_) (fun e => ?_)⟩
    · have e0 : ((ns.map V.int).length : Int) = 0 := V.int.inj (of_decide_eq_true e)
      have e1 : ns = [] := by
        cases ns with
        | nil => rfl
        | cons x r => rw [List.length_map, List.length_cons] at e0; omega
      subst e1
      refine ⟨Nat.zero_le _, fun p np => q _ p (s1.trans (same_upd np)) (s1.free np) ?_⟩
      rw [upd_same]; rfl
    · obtain ⟨n0, rest, rfl⟩ : ∃ x r, ns = x :: r := by
        cases ns with
        | nil => exact absurd (decide_eq_true rfl) e
        | cons x r => exact ⟨x, r, rfl⟩
      obtain ⟨hn1, hn2⟩ := L.low n0 List.mem_cons_self
      have hrl : rest.length ≤ 50 := by have := L.few; rw [List.length_cons] at this; omega
      -- [0] + [None] * (lengths[0] - 1)
      refine ⟨by show 1 ≤ sizeLine; decide, fun p1 np1 => ⟨by show 1 ≤ sizeLine; decide, fun p2 np2 => ?_⟩⟩
      have sa : Same H1 (upd H1 p1 (.lst [.int 0])) := same_upd np1
      have sb := same_upd (o := HO.lst [V.non]) np2
      refine ⟨_, rfl, a, _, _, _, rfl, rfl, SqT.of (sb _ _ (sa _ _ h1)), atI_nat (j := 0) rfl, _, _, rfl, rfl, p2, _, _, rfl, rfl, upd_same, by omega, by omega, ?_, fun p3 np3 => ?_⟩
      · have : (n0 - 1).toNat ≤ 1000 := by omega
        show 1 * (n0 - 1).toNat ≤ sizeLine
        exact Nat.le_of_lt (small1000 (by omega))
      have sc := same_upd (o := HO.lst (List.replicate (n0 - 1).toNat [V.non]).flatten) np3
      refine ⟨p1, p3, [.int 0], _, rfl, rfl, ?_, upd_same, ?_, fun p4 np4 => ?_⟩
      · exact sc _ _ (sb _ _ upd_same)
      · rw [flat_rep, List.length_replicate]
        show 1 + (n0 - 1).toNat ≤ sizeLine
        exact Nat.le_of_lt (small1000 (by omega))
      have e4 : (([V.int 0] ++ (List.replicate (n0 - 1).toNat [V.non]).flatten)) = ((some 0 :: List.replicate (n0.toNat - 1) none : List (Option Nat)).map optV) := by
        rw [flat_rep, List.map_cons, List.map_replicate]
        show V.int 0 :: List.replicate (n0 - 1).toNat V.non = V.int ((0 : Nat) : Int) :: List.replicate (n0.toNat - 1) V.non
        rw [show (n0 - 1).toNat = n0.toNat - 1 by omega]
        rfl
      rw [e4] at *
      have sd := same_upd (o := HO.lst ((some 0 :: List.replicate (n0.toNat - 1) none : List (Option Nat)).map optV)) np4
      have s4 : Same H _ := (((s1.trans sa).trans sb).trans sc).trans sd
      have n4 : H p4 = none := (((s1.trans sa).trans sb).trans sc).free np4
      have h44 := @upd_same (upd (upd (upd H1 p1 (HO.lst [V.int 0])) p2 (HO.lst [V.non])) p3 (HO.lst (List.replicate (n0 - 1).toNat [V.non]).flatten)) p4 (HO.lst ((some 0 :: List.replicate (n0.toNat - 1) none : List (Option Nat)).map optV))
      generalize upd (upd (upd (upd H1 p1 (HO.lst [V.int 0])) p2 (HO.lst [V.non])) p3 (HO.lst (List.replicate (n0 - 1).toNat [V.non]).flatten)) p4 (HO.lst ((some 0 :: List.replicate (n0.toNat - 1) none : List (Option Nat)).map optV)) = H4 at *
      -- for length in lengths[1:]
      refine ⟨_, rfl, 1, rfl, a, _, rfl, SqT.of (s4 _ _ hS), fun hw => ?_, fun _ c nc => ?_⟩
      · have := cut1_whole hw
        simp at this
      have se := same_upd (o := HO.tup (cutV ((n0 :: rest).map V.int) (some 1) none)) nc
      have hc : SqT K (upd H4 c (HO.tup (cutV ((n0 :: rest).map V.int) (some 1) none))) c (rest.map V.int) := .inl (.inl (by rw [upd_same, cut1]; rfl))
      generalize hH5 : upd H4 c (HO.tup (cutV ((n0 :: rest).map V.int) (some 1) none)) = H5 at *
      have h54 : H5 p4 = some (.lst ((some 0 :: List.replicate (n0.toNat - 1) none : List (Option Nat)).map optV)) := se _ _ h44
      have s5 : Same H H5 := s4.trans se
      refine ⟨c, rfl, ⟨_, hc⟩, for_tup (K := K) (a := c) (xs := rest.map V.int) (fun i σ H6 => ∃ pl y, σ = [some (.ref a), some (.ref pl), y] ∧ Same H5 H6 ∧ H6 pl = some (.lst ((((rest.map Int.toNat).take i).foldl (fun a L => withLen L a) (some 0 :: List.replicate (n0.toNat - 1) none)).map optV)))
        ⟨p4, none, rfl, Same.refl _, h54⟩ (fun i σ H6 _ ⟨_, _, _, s6, _⟩ => s6.tup hc) ?_ ?_⟩
      · rintro i x σ H6 hx ⟨pl, y, rfl, s6, h6⟩
        have hi : i < rest.length := by
          have := (List.getElem?_eq_some_iff.mp hx).1
          rwa [List.length_map] at this
        have ex : x = .int rest[i] := by
          rw [List.getElem?_map, List.getElem?_eq_getElem hi] at hx
          exact (Option.some.inj hx).symm
        obtain ⟨b1, b2⟩ := L.low rest[i] (List.mem_cons_of_mem _ (List.getElem_mem hi))
        have exn : x = .int ((rest[i].toNat : Nat) : Int) := by rw [ex, Int.toNat_of_nonneg (by omega)]
        have hlen : (((rest.map Int.toNat).take i).foldl (fun a L => withLen L a) (some 0 :: List.replicate (n0.toNat - 1) none)).length = n0.toNat := by
          rw [fold_len, List.length_cons, List.length_replicate]; omega
        refine ⟨_, rfl, _, rfl, pl, _, rest[i].toNat, ?_, h6, by rw [hlen]; omega, by rw [hlen]; omega, by omega, by omega, fun H7 p7 s7 n7 h7 => ?_⟩
        · rw [exn]; rfl
        refine ⟨p7, _, rfl, s6.trans s7, ?_⟩
        have hx2 : (rest.map Int.toNat)[i]? = some rest[i].toNat := by rw [List.getElem?_map, List.getElem?_eq_getElem hi]; rfl
        rw [take_more hx2, List.foldl_append]
        exact h7
      · rintro σ H6 ⟨pl, y, rfl, s6, h6⟩
        refine ⟨_, rfl, pl, _, rfl, .inl ⟨SqL.of h6, fun p np => ?_⟩⟩
        refine q _ p ((s5.trans s6).trans (same_upd np)) ((s5.trans s6).free np) ?_
        rw [upd_same, List.take_of_length_le (by rw [List.length_map, List.length_map]; exact Nat.le_refl _)]
        rfl
/-! ### is_reached -/
def spReached : Sp := fun vs H Q _ => ∃ (p : Addr) (a : List (Option Nat)) (t : Nat), vs = [.ref p, .int t] ∧ H p = some (.tup (a.map optV)) ∧ Q (.bl (reached a t)) H
theorem scReached : FnScope ["least", "total", "reached"] ["least", "total"] (defScope sReached) := ⟨rfl, rfl, rfl, by decide +kernel, rfl, by decide +kernel, by decide +kernel⟩
theorem ok_reached {f : Addr} {fd : FuncData} {k : Nat} (F : Fun K "is_reached" "is_reached" sReached f fd) (T : Bi mg) : FnOk P w K mg base CX0 (k + 1) f fd ["least", "total"] spReached := by
  refine F.ok scReached (fun vs H Q E h => ?_) (fun cdv A' outer s H vs Q E hr h => ?_)
  · obtain ⟨p, a, t, rfl, _⟩ := h
    rfl
  · obtain ⟨p, a, t, rfl, hp, q⟩ := h
    refine ⟨_, pss_cons (ps_if (pt_cmpR op_eq (pe_callB call_len_seq (by rfl) T.len PySem.boot_len (pa_cons (pv 0) pa_nil)) pe_int (nomark _)) (pss_one (ps_ret (pe_cmpR op_eq (pv 1) pe_int (nomark _)))) pss_nil)
      (pss_cons (ps_set (i := 2) scReached.nd rfl (.inl rfl) (pe_ix ix_tup (pv 0) (pe_op op_mod (pv 1) (pe_callB call_len_seq (by rfl) T.len PySem.boot_len (pa_cons (pv 0) pa_nil))) (fun _ _ => rfl)))
      (pss_one (ps_ret (pe_and (pe_cmpR op_notN (pv 2) pe_non (nomark _)) (pe_one (pe_cmpR op_le (pv 2) (pv 1) (nomark _))))))), ?_⟩
    refine ⟨_, rfl, p, _, rfl, .inr (SqT.of hp), rfl, _, rfl, ite2 (fun e => ?_) (fun e => ?_)⟩
    · have e0 : ((a.map optV).length : Int) = 0 := V.int.inj (of_decide_eq_true e)
      rw [List.length_map] at e0
      refine ⟨_, rfl, rfl, ?_⟩
      have e2 : reached a t = decide (V.int (t : Int) = V.int 0) := by
        unfold reached
        rw [if_pos (by omega)]
        by_cases h0 : t = 0
        · subst h0; simp
        · have : ¬ V.int (t : Int) = V.int 0 := fun z => h0 (by have := V.int.inj z; omega)
          rw [decide_eq_false this]
          simpa using h0
      rw [e2] at q
      exact q
    · have e0 : a.length ≠ 0 := fun z => e (decide_eq_true (by rw [List.length_map, z]; rfl))
      have hm : t % a.length < a.length := Nat.mod_lt _ (by omega)
      have em : ((t : Int) % (((a.map optV).length : Nat) : Int)) = ((t % a.length : Nat) : Int) := by rw [List.length_map]; simp
      cases eo : a.getD (t % a.length) none with
      | none =>
        refine ⟨_, rfl, _, rfl, _, rfl, p, _, rfl, .inr (SqT.of hp), _, _, rfl, rfl, (by rw [List.length_map]; omega), p, _, _, _, rfl, rfl, SqT.of hp, (by rw [em]; exact atI_nat (at_opt hm eo)), ?_⟩
        refine ⟨_, rfl, rfl, _, rfl, ?_⟩
        refine iteF ?_
        have e2 : reached a t = false := by
          unfold reached; rw [if_neg e0, eo]
        rw [e2] at q
        exact q
      | some x =>
        refine ⟨_, rfl, _, rfl, _, rfl, p, _, rfl, .inr (SqT.of hp), _, _, rfl, rfl, (by rw [List.length_map]; omega), p, _, _, _, rfl, rfl, SqT.of hp, (by rw [em]; exact atI_nat (at_opt hm eo)), ?_⟩
        refine ⟨_, rfl, rfl, _, rfl, ?_⟩
        refine iteT ⟨_, rfl, _, rfl, _, _, rfl, rfl, ?_⟩
        have e2 : reached a t = decide ((x : Int) ≤ (t : Int)) := by
          unfold reached; rw [if_neg e0, eo]
          by_cases c : x ≤ t
          · rw [decide_eq_true (show (x : Int) ≤ (t : Int) by omega)]
            exact decide_eq_true c
          · rw [decide_eq_false (show ¬ (x : Int) ≤ (t : Int) by omega)]
            exact decide_eq_false c
        rw [e2] at q
        exact q
/-! ### is_sum -/
def spIsSum : Sp := fun vs H Q _ => ∃ (a : Addr) (ns : List Int) (t : Nat), vs = [.ref a, .int t] ∧ H a = some (.tup (ns.map V.int)) ∧ Lens ns ∧ ∀ H', Same H H' → Q (.bl (reached (leasts (ns.map Int.toNat)) t)) H'
theorem scIsSum : FnScope ["lengths", "total"] ["lengths", "total"] (defScope sIsSum) := ⟨rfl, rfl, rfl, by decide +kernel, rfl, by decide +kernel, by decide +kernel⟩
theorem ok_issum {f fR fL : Addr} {fd fdR fdL : FuncData} {k : Nat} (F : Fun K "is_sum" "is_sum" sIsSum f fd)
    (R : Def K mg "is_reached" sReached fR fdR ["least", "total"]) (GR : FnOk P w K mg base CX0 k fR fdR ["least", "total"] spReached)
    (Le : Def K mg "least_sums" sLeast fL fdL ["lengths"]) (GL : FnOk P w K mg base CX0 k fL fdL ["lengths"] spLeast) : FnOk P w K mg base CX0 (k + 1) f fd ["lengths", "total"] spIsSum := by
  refine F.ok scIsSum (fun vs H Q E h => ?_) (fun cdv A' outer s H vs Q E hr h => ?_)
  · obtain ⟨a, ns, t, rfl, _⟩ := h
    rfl
  · obtain ⟨a, ns, t, rfl, hS, L, q⟩ := h
    refine ⟨_, pss_one (ps_ret (pe_call GR hr (by rfl) R.gl R.fn.kp R.bi .nil pass0 (pa_cons (pe_call GL hr (by rfl) Le.gl Le.fn.kp Le.bi .nil pass0 (pa_cons (pv 0) pa_nil)) (pa_cons (pv 1) pa_nil)))), ?_⟩
    exact ⟨_, rfl, a, ns, rfl, hS, L, fun H1 p s1 n1 h1 => ⟨_, rfl, p, _, t, rfl, h1, q H1 s1⟩⟩
end
end Ov
namespace Ov
open PySem PySem.Spec PyProof.Rows L2
abbrev sBox : Stmt := top 18
abbrev sTake : Stmt := top 19
abbrev sOf : Stmt := top 20
/-- a box of numbers: what is left of its own digits, a number, and how many were mixed -/
def BoxAt (H : Hp) (p : Addr) (n : Nat) : Prop := ∃ a b c : Int, H p = some (.lst [.int a, .int b, .int c]) ∧ 0 ≤ a ∧ a < 2 ^ 800 ∧ 0 ≤ b ∧ b < 2 ^ 62 ∧ 0 ≤ c ∧ c ≤ n
theorem BoxAt.mono {H : Hp} {p : Addr} {n m : Nat} (h : BoxAt H p n) (l : n ≤ m) : BoxAt H p m := by
  obtain ⟨a, b, c, e, h1, h2, h3, h4, h5, h6⟩ := h
  exact ⟨a, b, c, e, h1, h2, h3, h4, h5, by omega⟩
theorem BoxAt.same {H H' : Hp} {p : Addr} {n : Nat} (h : BoxAt H p n) (s : Same H H') : BoxAt H' p n := by
  obtain ⟨a, b, c, e, r⟩ := h
  exact ⟨a, b, c, s _ _ e, r⟩
/-- all that stood, but at p, stands -/
def But (p : Addr) (H H' : Hp) : Prop := ∀ b o, H b = some o → b ≠ p → H' b = some o
theorem But.refl (p : Addr) (H : Hp) : But p H H := fun _ _ e _ => e
theorem But.trans {p : Addr} {H H1 H2 : Hp} (a : But p H H1) (b : But p H1 H2) : But p H H2 := fun c o e n => b c o (a c o e n) n
theorem But.of {p : Addr} {H H1 : Hp} (a : Same H H1) : But p H H1 := fun c o e _ => a c o e
theorem But.free {p l : Addr} {H H' : Hp} (e : But p H H') (hp : H p ≠ none) (h : H' l = none) (hp' : H' p ≠ none) : H l = none := by
  cases q : H l with
  | none => rfl
  | some o =>
    by_cases hl : l = p
    · subst hl; exact absurd h hp'
    · rw [e l o q hl] at h; cases h
theorem BoxAt.ne {H : Hp} {p : Addr} {n : Nat} (h : BoxAt H p n) : H p ≠ none := by
  obtain ⟨a, b, c, e, _⟩ := h
  rw [e]; exact fun z => nomatch z
section
variable {P : Program} {w : World} {K : PySem.W.Frag} {mg : Str → Option Value} {base : Heap}
/-! ### _law_box -/
def spBox (K : PySem.W.Frag) : Sp := fun vs H Q _ => ∃ (a : Addr) (ns : List Int) (j : Nat), vs = [.ref a, .int j] ∧ SqL K H a (ns.map V.int) ∧ j ≤ 63 ∧ ∀ H' p, Same H H' → H p = none → BoxAt H' p 0 → Q (.ref p) H'
theorem scBox : FnScope ["_law_script", "_law_k", "_law_cell", "_law_own"] ["_law_script", "_law_k"] (defScope sBox) := ⟨rfl, rfl, rfl, by decide +kernel, rfl, by decide +kernel, by decide +kernel⟩
theorem big_pos : (0 : Int) < 10 ^ (60 : Int).toNat * 10 ^ (60 : Int).toNat * 10 ^ (60 : Int).toNat * 10 ^ (60 : Int).toNat := by decide +kernel
theorem big_lt : (10 : Int) ^ (60 : Int).toNat * 10 ^ (60 : Int).toNat * 10 ^ (60 : Int).toNat * 10 ^ (60 : Int).toNat ≤ 2 ^ 800 := by decide +kernel
/-- what is left of the text behind the cell -/
def tBoxRest : TS := tSeq (tAsg (tOp (rI CMul fun i j => .int (i * j)) (tOp (rI (fun _ j => 0 < j) fun i j => .int (i % j)) (tCB (fun xs H Q => ∃ i, xs = [.int i] ∧ Q (.int (if i < 0 then -i else i)) H) (tCons (tVar 2) tNil))
    (tOp (rI CMulW fun i j => .int (i * j)) (tOp (rI CMulW fun i j => .int (i * j)) (tOp (rI CMulW fun i j => .int (i * j)) (tOp (rI CPow fun i j => .int (i ^ j.toNat)) (tC (.int 10)) (tC (.int 60))) (tOp (rI CPow fun i j => .int (i ^ j.toNat)) (tC (.int 10)) (tC (.int 60)))) (tOp (rI CPow fun i j => .int (i ^ j.toNat)) (tC (.int 10)) (tC (.int 60)))) (tOp (rI CPow fun i j => .int (i ^ j.toNat)) (tC (.int 10)) (tC (.int 60)))))
    (tCB (fun xs H Q => (∃ i, xs = [.int i] ∧ Q (.int i) H) ∨ ∃ k, xs = [.bl k] ∧ Q (.int (if k then 1 else 0)) H) (tCons (tOp (rI0 fun i j => .bl (decide (j ≤ i))) (tCB (fun xs H Q => ∃ i, xs = [.int i] ∧ Q (.int (if i < 0 then -i else i)) H) (tCons (tVar 2) tNil)) (tOp (rI CPow fun i j => .int (i ^ j.toNat)) (tC (.int 10)) (tC (.int 18)))) tNil))) (gName 3))
  (tRet (tLst (tCons (tVar 3) (tCons (tOp (rI (fun _ j => 0 < j) fun i j => .int (i % j)) (tOp (rI CMul fun i j => .int (i * j)) (tOp (rI0 fun i j => .int (i + j)) (tOp (rI0 fun i j => .int (i + j)) (tOp (rI (fun _ j => 0 < j) fun i j => .int (i % j)) (tVar 2) (tC (.int 2305843009213693951))) (tOp (rI CMul fun i j => .int (i * j)) (tOp (rI CMul fun i j => .int (i * j)) (tC (.int 7919)) (tVar 1)) (tVar 1))) (tC (.int 43))) (tC (.int 48271))) (tC (.int 2305843009213693921))) (tCons (tC (.int 0)) tNil)))))
theorem own_ok {x : Int} (h0 : 0 ≤ x) (h1 : x < 2 ^ 800) (c : Bool) : 0 ≤ x * (if c = true then 1 else 0) ∧ x * (if c = true then 1 else 0) < 2 ^ 800 := by
  cases c
  · rw [if_neg (by decide), Int.mul_zero]
    exact ⟨by decide, by decide +kernel⟩
  · rw [if_pos rfl, Int.mul_one]
    exact ⟨h0, h1⟩
theorem bit_ok (c : Bool) : -(2 ^ 64) < (if c = true then (1 : Int) else 0) ∧ (if c = true then (1 : Int) else 0) < 2 ^ 64 := by
  cases c <;> exact ⟨by decide, by decide⟩
theorem box_rest {H : Hp} {D : Ends} {a : Addr} {j : Nat} {cell : Int} {y : Option V} (hj : j ≤ 63) (q : ∀ (H' : Hp) (p : Addr), Same H H' → H p = none → BoxAt H' p 0 → D.rt (V.ref p) H') : tBoxRest D [some (.ref a), some (.int j), some (.int cell), y] H := by
  have h60 : ((10 : Int) ^ (60 : Int).toNat).natAbs < 2 ^ 200 := by decide +kernel
  have h120 : ((10 : Int) ^ (60 : Int).toNat * 10 ^ (60 : Int).toNat).natAbs < 2 ^ 400 := by decide +kernel
  have h180 : ((10 : Int) ^ (60 : Int).toNat * 10 ^ (60 : Int).toNat * 10 ^ (60 : Int).toNat).natAbs < 2 ^ 600 := by decide +kernel
  have hp : CPow 10 60 := ⟨by decide, by decide, by decide⟩
  have hp2 : CPow 10 18 := ⟨by decide, by decide, by decide⟩
  refine ⟨_, rfl, _, rfl, _, _, rfl, rfl, hp, _, _, rfl, rfl, hp, _, _, rfl, rfl, wide_mul h60 h60 (by decide) (by decide) (by decide), _, _, rfl, rfl, hp, _, _, rfl, rfl, wide_mul h120 h60 (by decide) (by decide) (by decide), _, _, rfl, rfl, hp, _, _, rfl, rfl, wide_mul h180 h60 (by decide) (by decide) (by decide), _, _, rfl, rfl, big_pos, ?_⟩
  have hm0 : 0 ≤ (if cell < 0 then -cell else cell) % (10 ^ (60 : Int).toNat * 10 ^ (60 : Int).toNat * 10 ^ (60 : Int).toNat * 10 ^ (60 : Int).toNat) := Int.emod_nonneg _ (Int.ne_of_gt big_pos)
  have hm1 : (if cell < 0 then -cell else cell) % (10 ^ (60 : Int).toNat * 10 ^ (60 : Int).toNat * 10 ^ (60 : Int).toNat * 10 ^ (60 : Int).toNat) < 2 ^ 800 := Int.lt_of_lt_of_le (Int.emod_lt_of_pos _ big_pos) big_lt
  dsimp only
  generalize (if cell < 0 then -cell else cell) % (10 ^ (60 : Int).toNat * 10 ^ (60 : Int).toNat * 10 ^ (60 : Int).toNat * 10 ^ (60 : Int).toNat) = own at *
  refine ⟨_, rfl, _, rfl, _, _, rfl, rfl, hp2, _, _, rfl, rfl, .inr ⟨_, rfl, _, _, rfl, rfl, ?_, ?_⟩⟩
  · exact .inr (bit_ok _)
  dsimp only
  generalize decide ((10 : Int) ^ (18 : Int).toNat ≤ if cell < 0 then -cell else cell) = bb
  obtain ⟨ho0, ho1⟩ := own_ok hm0 hm1 bb
  generalize own * (if bb = true then 1 else 0) = o2 at *
  have hc0 : 0 ≤ cell % 2305843009213693951 := Int.emod_nonneg _ (by decide)
  have hc1 : cell % 2305843009213693951 < 2305843009213693951 := Int.emod_lt_of_pos _ (by decide)
  have hkk : (0 : Int) ≤ 7919 * (j : Int) * (j : Int) := Int.mul_nonneg (Int.mul_nonneg (by decide) (by omega)) (by omega)
  refine ⟨_, rfl, _, rfl, _, _, rfl, rfl, (show (0 : Int) < 2305843009213693951 by decide), _, rfl, _, _, rfl, rfl, .inl ⟨by decide, by decide⟩, _, rfl, _, _, rfl, rfl, .inr ⟨by omega, by omega⟩, _, _, rfl, rfl, _, _, rfl, rfl, _, _, rfl, rfl, .inr ⟨by decide, by decide⟩, _, _, rfl, rfl, (show (0 : Int) < 2305843009213693921 by decide), by show 3 ≤ sizeLine; decide, fun p np => ?_⟩
  exact q _ p (same_upd np) np ⟨_, _, _, upd_same, ho0, ho1, Int.emod_nonneg _ (by decide), Int.lt_of_lt_of_le (Int.emod_lt_of_pos _ (by decide)) (by decide), by decide, by decide⟩
theorem ok_box {f : Addr} {fd : FuncData} {k : Nat} (F : Fun K "_law_box" "_law_box" sBox f fd) (T : Bi mg) : FnOk P w K mg base CX0 (k + 1) f fd ["_law_script", "_law_k"] (spBox K) := by
  refine F.ok scBox (fun vs H Q E h => ?_) (fun cdv A' outer s H vs Q E hr h => ?_)
  · obtain ⟨a, ns, j, rfl, _⟩ := h
    rfl
  · obtain ⟨a, ns, j, rfl, hS, hj, q⟩ := h
    refine ⟨_, pss_cons (ps_set (i := 2) scBox.nd rfl (.inl rfl) (pe_ifExp (pt_cmpR op_lt (pv 1) (pe_callB call_len_seq (by rfl) T.len PySem.boot_len (pa_cons (pv 0) pa_nil)) (nomark _)) (pe_ix ix_list (pv 0) (pv 1) (fun _ _ => rfl)) pe_int))
      (pss_cons (ps_set (i := 3) scBox.nd rfl (.inl rfl) (pe_op op_mul (pe_op op_mod (pe_callB call_abs (by rfl) T.abs (by decide +kernel) (pa_cons (pv 2) pa_nil))
          (pe_op op_mulW (pe_op op_mulW (pe_op op_mulW (pe_op op_pow pe_int pe_int) (pe_op op_pow pe_int pe_int)) (pe_op op_pow pe_int pe_int)) (pe_op op_pow pe_int pe_int)))
        (pe_callTy call_int1 (by rfl) T.int (by decide +kernel) (pa_cons (pe_cmpR op_ge (pe_callB call_abs (by rfl) T.abs (by decide +kernel) (pa_cons (pv 2) pa_nil)) (pe_op op_pow pe_int pe_int) (nomark _)) pa_nil))))
      (pss_one (ps_ret (pe_lst (pa_cons (pv 3) (pa_cons (pe_op op_mod (pe_op op_mul (pe_op op_add (pe_op op_add (pe_op op_mod (pv 2) pe_int) (pe_op op_mul (pe_op op_mul pe_int (pv 1)) (pv 1))) pe_int) pe_int) pe_int) (pa_cons pe_int pa_nil))))))), ?_⟩
    refine ⟨_, rfl, _, rfl, a, _, rfl, .inl hS, _, _, rfl, rfl, _, rfl, ite2 (fun c => ?_) (fun c => ?_)⟩
    · have hj' : j < ns.length := by
        have := of_decide_eq_true c
        rw [List.length_map] at this
        omega
      refine ⟨_, rfl, _, rfl, a, _, _, _, rfl, rfl, hS, atI_nat (v := .int ns[j]) (by rw [List.getElem?_map, List.getElem?_eq_getElem hj']; rfl), ?_⟩
      exact box_rest (D := { nx := fun _ H' => Q .non H', rt := Q }) (y := none) hj q
    · exact box_rest (D := { nx := fun _ H' => Q .non H', rt := Q }) (y := none) hj q
end
end Ov
namespace Ov
open PySem PySem.Spec PyProof.Rows L2
section
variable {P : Program} {w : World} {K : PySem.W.Frag} {mg : Str → Option Value} {base : Heap}
/-! ### _law_take -/
def spTake : Sp := fun vs H Q _ => ∃ (p : Addr) (m : Int) (n : Nat), vs = [.ref p, .int m] ∧ BoxAt H p n ∧ n ≤ 2 ^ 40 ∧ 0 < m ∧ m < 2 ^ 200 ∧ ∀ H' (d : Int), But p H H' → BoxAt H' p (n + 1) → 0 ≤ d → d < m → (∀ b, H b = none → H' b = none) → Q (.int d) H'
theorem scTake : FnScope ["_law_box_here", "_law_many", "_law_digit", "_law_mixed"] ["_law_box_here", "_law_many"] (defScope sTake) := ⟨rfl, rfl, rfl, by decide +kernel, rfl, by decide +kernel, by decide +kernel⟩
theorem ok_take {f : Addr} {fd : FuncData} {k : Nat} (F : Fun K "_law_take" "_law_take" sTake f fd) : FnOk P w K mg base CX0 (k + 1) f fd ["_law_box_here", "_law_many"] spTake := by
  refine F.ok scTake (fun vs H Q E h => ?_) (fun cdv A' outer s H vs Q E hr h => ?_)
  · obtain ⟨p, m, n, rfl, _⟩ := h
    rfl
  · obtain ⟨p, m, n, rfl, ⟨a, b, c, hp, a0, a1, b0, b1, c0, c1⟩, hn, m0, m1, q⟩ := h
    refine ⟨_, pss_cons (ps_if (pt_cmpR op_gt (pe_ix ix_list (pv 0) pe_int (fun _ _ => rfl)) pe_int (nomark _))
        (pss_cons (ps_set (i := 2) scTake.nd rfl (.inl rfl) (pe_op op_mod (pe_ix ix_list (pv 0) pe_int (fun _ _ => rfl)) (pv 1)))
        (pss_cons (ps_asg (pe_op op_fdivW (pe_ix ix_list (pv 0) pe_int (fun _ _ => rfl)) (pv 1)) (pg_sub (pv 0) pe_int set_list))
        (pss_one (ps_ret (pv 2))))) pss_nil)
      (pss_cons (ps_asg (pe_op op_add (pe_ix ix_list (pv 0) pe_int (fun _ _ => rfl)) pe_int) (pg_sub (pv 0) pe_int set_list))
      (pss_cons (ps_set (i := 3) scTake.nd rfl (.inl rfl) (pe_op op_mod (pe_op op_mul (pe_op op_add (pe_op op_add (pe_ix ix_list (pv 0) pe_int (fun _ _ => rfl)) (pe_op op_mul (pe_op op_mul pe_int (pe_ix ix_list (pv 0) pe_int (fun _ _ => rfl))) (pe_ix ix_list (pv 0) pe_int (fun _ _ => rfl)))) pe_int) pe_int) pe_int))
      (pss_cons (ps_set (i := 3) scTake.nd rfl (.inl rfl) (pe_op op_mod (pe_op op_mul (pv 3) (pe_op op_add (pe_op op_mod (pv 3) pe_int) (pe_op op_mul pe_int (pe_ix ix_list (pv 0) pe_int (fun _ _ => rfl))))) pe_int))
      (pss_one (ps_ret (pe_op op_mod (pe_op op_add (pe_op op_fdiv (pv 3) pe_int) (pe_op op_fdiv (pv 3) pe_int)) (pv 1))))))), ?_⟩
    have i0 : ∀ x y z : V, atI [x, y, z] 0 = some x := fun x y z => atI_nat (j := 0) rfl
    have i1 : ∀ x y z : V, atI [x, y, z] 1 = some y := fun x y z => atI_nat (j := 1) rfl
    have i2 : ∀ x y z : V, atI [x, y, z] 2 = some z := fun x y z => atI_nat (j := 2) rfl
    refine ⟨_, rfl, p, _, _, _, rfl, rfl, SqL.of hp, i0 _ _ _, _, _, rfl, rfl, _, rfl, ?_⟩
    by_cases ha : 0 < a
    · rw [decide_eq_true ha]
      refine iteT ?_
      refine ⟨_, rfl, p, _, _, _, rfl, rfl, SqL.of hp, i0 _ _ _, _, rfl, _, _, rfl, rfl, m0, ?_⟩
      refine ⟨_, rfl, p, _, _, _, rfl, rfl, SqL.of hp, i0 _ _ _, _, rfl, _, _, rfl, rfl, wide_div (b := 200) m0 (by omega) (by decide) (by decide), _, rfl, p, _, _, 0, rfl, rfl, hp, rfl, _, rfl, ?_⟩
      refine q _ _ (fun x o e hx => by rw [upd_ne hx]; exact e) ⟨a / m, b, c, upd_same, ?_, ?_, b0, b1, c0, by omega⟩ (Int.emod_nonneg _ (by omega)) (Int.emod_lt_of_pos _ m0) (fun x e => by rw [upd_ne (fun z => by rw [z, hp] at e; cases e)]; exact e)
      · exact Int.ediv_nonneg a0 (by omega)
      · exact Int.lt_of_le_of_lt (Int.ediv_le_self _ a0) a1
    · rw [decide_eq_false ha]
      refine iteF ?_
      refine ⟨_, rfl, p, _, _, _, rfl, rfl, SqL.of hp, i2 _ _ _, _, _, rfl, rfl, _, rfl, p, _, _, 2, rfl, rfl, hp, rfl, ?_⟩
      have hp2 : (upd H p (.lst (([V.int a, V.int b, V.int c] : List V).set 2 (V.int (c + 1))))) p = some (.lst [V.int a, V.int b, V.int (c + 1)]) := upd_same
      have s2 : But p H (upd H p (.lst (([V.int a, V.int b, V.int c] : List V).set 2 (V.int (c + 1))))) := fun x o e hx => by rw [upd_ne hx]; exact e
      have f2 : ∀ x, H x = none → (upd H p (.lst (([V.int a, V.int b, V.int c] : List V).set 2 (V.int (c + 1))))) x = none := fun x e => by rw [upd_ne (fun z => by rw [z, hp] at e; cases e)]; exact e
      generalize upd H p (.lst (([V.int a, V.int b, V.int c] : List V).set 2 (V.int (c + 1)))) = H2 at *
      have hc2 : c + 1 ≤ 2 ^ 40 + 1 := by omega
      refine ⟨_, rfl, p, _, _, _, rfl, rfl, SqL.of hp2, i1 _ _ _, _, rfl, p, _, _, _, rfl, rfl, SqL.of hp2, i2 _ _ _, _, _, rfl, rfl, .inl ⟨by decide, by decide⟩, _, rfl, p, _, _, _, rfl, rfl, SqL.of hp2, i2 _ _ _, _, _, rfl, rfl, .inr ⟨by omega, by omega⟩, _, _, rfl, rfl, _, _, rfl, rfl, _, _, rfl, rfl, .inr ⟨by decide, by decide⟩, _, _, rfl, rfl, (show (0 : Int) < 2305843009213693921 by decide), ?_⟩
      dsimp only
      have x0 : 0 ≤ (b + 65537 * (c + 1) * (c + 1) + 11) * 48271 % 2305843009213693921 := Int.emod_nonneg _ (by decide)
      have x1 : (b + 65537 * (c + 1) * (c + 1) + 11) * 48271 % 2305843009213693921 < 2305843009213693921 := Int.emod_lt_of_pos _ (by decide)
      generalize (b + 65537 * (c + 1) * (c + 1) + 11) * 48271 % 2305843009213693921 = x at *
      refine ⟨_, rfl, _, rfl, _, _, rfl, rfl, (show (0 : Int) < 1000003 by decide), _, rfl, p, _, _, _, rfl, rfl, SqL.of hp2, i2 _ _ _, _, _, rfl, rfl, .inl ⟨by decide, by decide⟩, _, _, rfl, rfl, _, _, rfl, rfl, .inl ⟨by omega, by omega⟩, _, _, rfl, rfl, (show (0 : Int) < 2305843009213693907 by decide), ?_⟩
      dsimp only
      generalize x * (x % 1000003 + 99991 * (c + 1)) % 2305843009213693907 = y at *
      refine ⟨_, rfl, _, _, rfl, rfl, ⟨by decide, by decide⟩, _, rfl, _, _, rfl, rfl, ⟨by decide, by decide⟩, _, _, rfl, rfl, _, rfl, _, _, rfl, rfl, m0, ?_⟩
      exact q _ _ s2 ⟨a, b, c + 1, hp2, a0, a1, b0, b1, by omega, by omega⟩ (Int.emod_nonneg _ (by omega)) (Int.emod_lt_of_pos _ m0) f2
/-! ### _law_of -/
def spOf : Sp := fun vs H Q _ => ∃ (p l : Addr) (n : Nat) (xs : List V), vs = [.ref p, .ref l] ∧ BoxAt H p n ∧ n ≤ 2 ^ 40 ∧ H l = some (.lst xs) ∧ l ≠ p ∧ 0 < xs.length ∧ xs.length ≤ 1000 ∧ ∀ H' (v : V), v ∈ xs → But p H H' → BoxAt H' p (n + 1) → (∀ b, H b = none → H' b = none) → Q v H'
theorem scOf : FnScope ["_law_box_here", "_law_some"] ["_law_box_here", "_law_some"] (defScope sOf) := ⟨rfl, rfl, rfl, by decide +kernel, rfl, by decide +kernel, by decide +kernel⟩
theorem ok_of {f fT : Addr} {fd fdT : FuncData} {k : Nat} (F : Fun K "_law_of" "_law_of" sOf f fd) (T : Bi mg) (Tk : Def K mg "_law_take" sTake fT fdT ["_law_box_here", "_law_many"]) : FnOk P w K mg base CX0 (k + 2) f fd ["_law_box_here", "_law_some"] spOf := by
  have GT : FnOk P w K mg base CX0 (k + 1) fT fdT ["_law_box_here", "_law_many"] spTake := ok_take Tk.fn
  refine F.ok scOf (fun vs H Q E h => ?_) (fun cdv A' outer s H vs Q E hr h => ?_)
  · obtain ⟨p, l, n, xs, rfl, _⟩ := h
    rfl
  · obtain ⟨p, l, n, xs, rfl, B, hn, hl, hlp, h0, h1, q⟩ := h
    refine ⟨_, pss_one (ps_ret (pe_ix ix_list (pv 1) (pe_call GT hr (by rfl) Tk.gl Tk.fn.kp Tk.bi .nil pass0 (pa_cons (pv 0) (pa_cons (pe_callB call_len_seq (by rfl) T.len PySem.boot_len (pa_cons (pv 1) pa_nil)) pa_nil))) (fun _ _ => rfl))), ?_⟩
    refine ⟨_, rfl, _, rfl, _, rfl, l, _, rfl, .inl (SqL.of hl), p, _, n, rfl, B, hn, by omega, by omega, fun H' d bt B' d0 d1 fr => ?_⟩
    obtain ⟨i, rfl⟩ : ∃ i : Nat, d = i := ⟨d.toNat, by omega⟩
    have hi : i < xs.length := by omega
    exact ⟨l, xs, _, xs[i], rfl, rfl, SqL.of (bt _ _ hl hlp), atI_nat (List.getElem?_eq_getElem hi), q H' _ (List.getElem_mem hi) bt B' fr⟩
end
end Ov
namespace Ov
open PySem PySem.Spec PyProof.Rows L2
abbrev sDrawn : Stmt := top 21
/-! ### keys of a dict that is filled -/
theorem keys_put {kvs : List (Key × V)} {k : Key} {v : V} (h : (kvs.any fun kv => decide (kv.1 = k)) = true) : (putK kvs k v).map (·.1) = kvs.map (·.1) := by
  unfold putK
  rw [if_pos h, List.map_map]
  refine List.map_congr_left fun x _ => ?_
  show (if x.1 = k then (x.1, v) else x).1 = x.1
  split <;> rfl
/-- keys that are ints from 1 to top, each once -/
structure Keys (top : Int) (kvs : List (Key × V)) (n : Nat) : Prop where
  nd : (kvs.map (·.1)).Nodup
  few : kvs.length ≤ n
  int : ∀ x ∈ kvs.map (·.1), ∃ z : Int, x = Sum.inl z ∧ 1 ≤ z ∧ z ≤ top
theorem Keys.nil (top : Int) : Keys top [] 0 := ⟨List.nodup_nil, Nat.le_refl _, fun _ h => nomatch h⟩
theorem Keys.put {top : Int} {kvs : List (Key × V)} {n : Nat} (h : Keys top kvs n) {z : Int} (h1 : 1 ≤ z) (h2 : z ≤ top) (v : V) : Keys top (putK kvs (Sum.inl z) v) (n + 1) := by
  by_cases a : (kvs.any fun kv => decide (kv.1 = (Sum.inl z : Key))) = true
  · exact ⟨by rw [keys_put a]; exact h.nd, Nat.le_trans (length_putK ..) (Nat.succ_le_succ h.few), by rw [keys_put a]; exact h.int⟩
  · have e : putK kvs (Sum.inl z : Key) v = kvs ++ [(Sum.inl z, v)] := if_neg a
    refine ⟨?_, Nat.le_trans (length_putK ..) (Nat.succ_le_succ h.few), ?_⟩
    · rw [e, List.map_append]
      refine nd_snoc h.nd fun m => a ?_
      obtain ⟨q, hq, eq⟩ := List.mem_map.mp m
      exact List.any_eq_true.mpr ⟨q, hq, decide_eq_true eq⟩
    · rw [e, List.map_append]
      intro x hx
      rcases List.mem_append.mp hx with hx | hx
      · exact h.int x hx
      · exact ⟨z, List.mem_singleton.mp hx, h1, h2⟩
theorem ints_of : ∀ (l : List Key), (∀ x ∈ l, ∃ z : Int, x = Sum.inl z) → ∃ ks : List Int, l = ks.map Sum.inl
  | [], _ => ⟨[], rfl⟩
  | x :: l, h => by
    obtain ⟨z, rfl⟩ := h x List.mem_cons_self
    obtain ⟨ks, rfl⟩ := ints_of l fun y hy => h y (List.mem_cons_of_mem _ hy)
    exact ⟨z :: ks, rfl⟩
theorem lt_of_le_nodup : ∀ {l : List Int}, l.Pairwise (· ≤ ·) → l.Nodup → l.Pairwise (· < ·)
  | [], _, _ => .nil
  | x :: l, h, n => by
    rw [List.pairwise_cons] at h
    rw [List.nodup_cons] at n
    rw [List.pairwise_cons]
    refine ⟨fun y hy => ?_, lt_of_le_nodup h.2 n.2⟩
    have := h.1 y hy
    have : x ≠ y := fun z => n.1 (z ▸ hy)
    omega
/-- the keys, sorted, are lengths -/
theorem Keys.lens {top : Int} {kvs : List (Key × V)} {n : Nat} (h : Keys top kvs n) (ht : top ≤ 1000) (hn : n ≤ 50) : ∃ ks : List Int, kvs.map (·.1) = ks.map Sum.inl ∧ ks.length ≤ n ∧ ∀ ys : List Int, ys.Perm ks → ys.Pairwise (· ≤ ·) → Lens ys ∧ ys.length ≤ n ∧ ∀ y ∈ ys, y ≤ top := by
  obtain ⟨ks, e⟩ := ints_of _ fun x hx => (h.int x hx).imp fun z hz => hz.1
  have hl : ks.length ≤ n := by
    have := congrArg List.length e
    rw [List.length_map, List.length_map] at this
    have := h.few
    omega
  refine ⟨ks, e, hl, fun ys hp hs => ?_⟩
  have hb : ∀ z ∈ ks, 1 ≤ z ∧ z ≤ top := fun z hz => by
    obtain ⟨z', e', h1, h2⟩ := h.int (Sum.inl z) (by rw [e]; exact List.mem_map.mpr ⟨z, hz, rfl⟩)
    cases e'
    exact ⟨h1, h2⟩
  have hnd : ks.Nodup := by
    have := h.nd
    rw [e] at this
    exact (List.pairwise_map.mp this).imp fun h z => h (congrArg Sum.inl z)
  refine ⟨⟨by rw [hp.length_eq]; omega, fun z hz => ?_, lt_of_le_nodup hs (hp.symm.nodup hnd)⟩, by rw [hp.length_eq]; exact hl, fun y hy => (hb y (hp.mem_iff.mp hy)).2⟩
  have := hb z (hp.mem_iff.mp hz)
  exact ⟨this.1, by omega⟩
section
variable {P : Program} {w : World} {K : PySem.W.Frag} {mg : Str → Option Value} {base : Heap}
/-! ### _law_drawn -/
def spDrawn : Sp := fun vs H Q _ => ∃ (p : Addr) (n : Nat), vs = [.ref p] ∧ BoxAt H p n ∧ n ≤ 2 ^ 39 ∧ ∀ H' t (ns : List Int), But p H H' → BoxAt H' p (n + 20) → H t = none → H' t = some (.tup (ns.map V.int)) → Lens ns → Q (.ref t) H'
theorem scDrawn : FnScope ["_law_box_here", "_law_factor", "_law_found", "_law_turn"] ["_law_box_here"] (defScope sDrawn) := ⟨rfl, rfl, rfl, by decide +kernel, rfl, by decide +kernel, by decide +kernel⟩
theorem ok_drawn {f fO fT : Addr} {fd fdO fdT : FuncData} {k : Nat} (F : Fun K "_law_drawn" "_law_drawn" sDrawn f fd) (T : Bi mg) (O : Def K mg "_law_of" sOf fO fdO ["_law_box_here", "_law_some"]) (Tk : Def K mg "_law_take" sTake fT fdT ["_law_box_here", "_law_many"]) :
    FnOk P w K mg base CX0 (k + 3) f fd ["_law_box_here"] spDrawn := by
  have GO : FnOk P w K mg base CX0 (k + 2) fO fdO ["_law_box_here", "_law_some"] spOf := ok_of O.fn T Tk
  have GT : FnOk P w K mg base CX0 (k + 2) fT fdT ["_law_box_here", "_law_many"] spTake := ok_take Tk.fn
  refine F.ok scDrawn (fun vs H Q E h => ?_) (fun cdv A' outer s H vs Q E hr h => ?_)
  · obtain ⟨p, n, rfl, _⟩ := h
    rfl
  · obtain ⟨p, n, rfl, B, hn, q⟩ := h
    have hu := hu_of hr
    refine ⟨_, pss_cons (ps_par (i := 1) (j := 2) (by rfl) scDrawn.nd rfl rfl (by decide) rfl rfl (pa_cons (pe_call GO hr (by rfl) O.gl O.fn.kp O.bi .nil pass0 (pa_cons (pv 0) (pa_cons (pe_lst (pa_cons pe_int (pa_cons pe_int (pa_cons pe_int (pa_cons pe_int (pa_cons pe_int pa_nil)))))) pa_nil))) (pa_cons pe_dnewK pa_nil)) (by rfl))
      (pss_cons (ps_for PassesOwn.never rfl (pi_range1 (by rfl) T.range (pa_cons (pe_call GT hr (by rfl) Tk.gl Tk.fn.kp Tk.bi .nil pass0 (pa_cons (pv 0) (pa_cons pe_int pa_nil))) pa_nil)) (pg_name (i := 3) scDrawn.nd rfl (.inl rfl))
        (pss_one (ps_dput hu (pv 2) (pe_op op_mul (pv 1) (pe_op op_add pe_int (pe_call GT hr (by rfl) Tk.gl Tk.fn.kp Tk.bi .nil pass0 (pa_cons (pv 0) (pa_cons (pe_op op_fdiv pe_int (pv 1)) pa_nil))))) pe_bl rfl)))
      (pss_one (ps_ret (pe_callTy call_tuple_of (by rfl) T.tuple (by decide +kernel) (pa_cons (pe_callB (call_sortedDI rfl) (by rfl) T.sorted (by decide +kernel) (pa_cons (pv 2) pa_nil)) pa_nil))))), ?_⟩
    -- the factor
    refine ⟨_, rfl, by show 5 ≤ sizeLine; decide, fun l nl => ?_⟩
    have hlp : l ≠ p := fun z => B.ne (z ▸ nl)
    refine ⟨p, l, n, _, rfl, B.same (same_upd nl), by omega, upd_same, hlp, by decide, by decide, fun H1 v hv b1 B1 f1 => ?_⟩
    have b01 : But p H H1 := (But.of (same_upd nl)).trans b1
    obtain ⟨fa, rfl, hfa⟩ : ∃ fa : Int, v = .int fa ∧ (fa = 1 ∨ fa = 2 ∨ fa = 3 ∨ fa = 5) := by
      simp only [List.mem_cons, List.not_mem_nil, or_false] at hv
      rcases hv with rfl | rfl | rfl | rfl | rfl
      · exact ⟨1, rfl, .inl rfl⟩
      · exact ⟨1, rfl, .inl rfl⟩
      · exact ⟨2, rfl, .inr (.inl rfl)⟩
      · exact ⟨3, rfl, .inr (.inr (.inl rfl))⟩
      · exact ⟨5, rfl, .inr (.inr (.inr rfl))⟩
    intro d nd
    have hdp : d ≠ p := fun z => B1.ne (z ▸ nd)
    have hHd : H d = none := b01.free B.ne nd B1.ne
    refine ⟨_, _, rfl, ?_⟩
    have B2 := B1.same (same_upd (o := HO.dK []) nd)
    have b02 : But p H (upd H1 d (.dK [])) := b01.trans (But.of (same_upd nd))
    -- how many
    refine ⟨_, rfl, p, 7, n + 1, rfl, B2, by omega, by decide, by decide, fun H3 c b3 B3 c0 c1 f3 => ?_⟩
    have h3d : H3 d = some (.dK []) := b3 _ _ upd_same hdp
    have b03 := b02.trans b3
    refine ⟨c, rfl, by omega, by omega, for_range (lo := 0) (fun i σ H4 => ∃ kvs y, σ = [some (.ref p), some (.int fa), some (.ref d), y] ∧ But p H H4 ∧ BoxAt H4 p (n + 2 + i) ∧ H4 d = some (.dK kvs) ∧ Keys 30 kvs i)
      ⟨[], none, rfl, b03, B3, h3d, .nil _⟩ ?_ ?_⟩
    · rintro i σ H4 hi ⟨kvs, y, rfl, b4, B4, h4, k4⟩
      have hi7 : i < 7 := by omega
      have hq : 0 < 30 / fa ∧ 30 / fa ≤ 30 := by rcases hfa with rfl | rfl | rfl | rfl <;> decide
      refine ⟨_, rfl, _, rfl, _, rfl, _, rfl, _, _, rfl, rfl, ⟨by omega, by omega⟩, p, _, n + 2 + i, rfl, B4, by omega, hq.1, by omega, fun H5 e b5 B5 e0 e1 f5 => ?_⟩
      have h5 : H5 d = some (.dK kvs) := b5 _ _ h4 hdp
      have hk : 1 ≤ fa * (1 + e) ∧ fa * (1 + e) ≤ 30 := by rcases hfa with rfl | rfl | rfl | rfl <;> omega
      refine ⟨_, _, rfl, rfl, _, _, rfl, rfl, .inl ⟨by omega, by omega⟩, d, _, rfl, DPut.k (k := Sum.inl (fa * (1 + e))) h5 (small1000 (by have := k4.few; omega)), ?_⟩
      refine ⟨_, _, rfl, fun b o eb hb => ?_, ?_, upd_same, k4.put hk.1 hk.2 _⟩
      · rw [upd_ne (ne_of_none eb hHd)]
        exact b5 _ _ (b4 b o eb hb) hb
      · obtain ⟨x1, x2, x3, e1, r⟩ := B5
        exact ⟨x1, x2, x3, by rw [upd_ne (Ne.symm hdp)]; exact e1, r⟩
    · rintro σ H4 ⟨kvs, y, rfl, b4, B4, h4, k4⟩
      obtain ⟨ks, ek, hks, hys⟩ := k4.lens (by decide) (by omega)
      refine ⟨_, rfl, d, kvs, ks, rfl, .of h4, ek, by omega, fun ys p1 hp hs n1 => ?_⟩
      obtain ⟨L, _, _⟩ := hys ys hp hs
      refine ⟨p1, _, rfl, .inl ⟨SqL.of upd_same, fun t nt => ?_⟩⟩
      have s6 := (same_upd (o := HO.lst (ys.map V.int)) n1).trans (same_upd (o := HO.tup (ys.map V.int)) nt)
      have nt4 : H4 t = none := (same_upd (o := HO.lst (ys.map V.int)) n1).free nt
      exact q _ t ys (b4.trans (But.of s6)) ((B4.same s6).mono (by omega)) (b4.free B.ne nt4 B4.ne) upd_same L
end
end Ov
namespace Ov
open PySem PySem.Spec PyProof.Rows L2
abbrev sAdded : Stmt := top 22
/-! ### plain adding -/
/-- is w a sum of these lengths -/
def rr (ns : List Int) (w : Nat) : Bool := reached (leasts (ns.map Int.toNat)) w
theorem rr_iff {ns : List Int} (L : Lens ns) (w : Nat) : rr ns w = true ↔ Sum (ns.map Int.toNat) w :=
  isSum_iff _ (fun l hl => by
    obtain ⟨z, hz, rfl⟩ := List.mem_map.mp hl
    have := L.low z hz
    omega) w
theorem rr_zero {ns : List Int} (L : Lens ns) : rr ns 0 = true := (rr_iff L 0).mpr .zero
/-- one length: it fits, and the rest is a sum -/
def fits (ns : List Int) (w : Int) (z : Int) : Bool := if z ≤ w then rr ns (w - z).toNat else false
theorem rr_any {ns : List Int} (L : Lens ns) {w : Nat} (hw : 0 < w) : ns.any (fits ns (w : Int)) = rr ns w := by
  have e : ns.any (fits ns (w : Int)) = true ↔ rr ns w = true := by
    rw [rr_iff L, Sum.step, List.any_eq_true]
    constructor
    · rintro ⟨z, hz, h⟩
      have hb := L.low z hz
      unfold fits at h
      split at h
      · rename_i hle
        refine .inr ⟨z.toNat, List.mem_map.mpr ⟨z, hz, rfl⟩, by omega, ?_⟩
        have := (rr_iff L _).mp h
        rwa [show ((w : Int) - z).toNat = w - z.toNat by omega] at this
      · cases h
    · rintro (h | ⟨l, hl, hle, hs⟩)
      · omega
      · obtain ⟨z, hz, rfl⟩ := List.mem_map.mp hl
        have hb := L.low z hz
        refine ⟨z, hz, ?_⟩
        unfold fits
        rw [if_pos (by omega), show ((w : Int) - z).toNat = w - z.toNat by omega]
        exact (rr_iff L _).mpr hs
  cases h1 : ns.any (fits ns (w : Int)) <;> cases h2 : rr ns w
  · rfl
  · rw [h1, h2] at e; exact absurd (e.mpr rfl) (by decide)
  · rw [h1, h2] at e; exact absurd (e.mp rfl) (by decide)
  · rfl
/-- the table behind i turns -/
def tab (ns : List Int) (M i : Nat) : List Bool := (List.range (i + 1)).map (rr ns) ++ List.replicate (M - i) false
theorem tab_len (ns : List Int) {M i : Nat} (h : i ≤ M) : (tab ns M i).length = M + 1 := by
  unfold tab
  rw [List.length_append, List.length_map, List.length_range, List.length_replicate]
  omega
theorem tab_low (ns : List Int) (M i : Nat) {j : Nat} (h : j ≤ i) : (tab ns M i)[j]? = some (rr ns j) := by
  unfold tab
  rw [List.getElem?_append_left (by rw [List.length_map, List.length_range]; omega), List.getElem?_map, List.getElem?_range (by omega)]
  rfl
theorem tab_step (ns : List Int) {M i : Nat} (h : i < M) : (tab ns M i).set (i + 1) (rr ns (i + 1)) = tab ns M (i + 1) := by
  unfold tab
  have e : M - i = (M - (i + 1)) + 1 := by omega
  rw [List.set_append_right _ _ (by rw [List.length_map, List.length_range]; omega), List.length_map, List.length_range, Nat.sub_self, e, List.replicate_succ, List.set_cons_zero]
  rw [List.range_succ (n := i + 1), List.map_append, List.append_assoc]
  rfl
section
variable {P : Program} {w : World} {K : PySem.W.Frag} {mg : Str → Option Value} {base : Heap}
def spAdded : Sp := fun vs H Q _ => ∃ (t : Addr) (ns : List Int) (M : Nat), vs = [.ref t, .int M] ∧ H t = some (.tup (ns.map V.int)) ∧ Lens ns ∧ M ≤ 1000 ∧ ∀ H' p, Same H H' → H p = none → H' p = some (.lst ((tab ns M M).map V.bl)) → Q (.ref p) H'
theorem scAdded : FnScope ["_law_some", "_law_most", "_law_found", "_law_whole", "_law_one"] ["_law_some", "_law_most"] (defScope sAdded) := ⟨rfl, rfl, rfl, by decide +kernel, rfl, by decide +kernel, by decide +kernel⟩
theorem ok_added {f : Addr} {fd : FuncData} {k : Nat} (F : Fun K "_law_added" "_law_added" sAdded f fd) (T : Bi mg) : FnOk P w K mg base CX0 (k + 1) f fd ["_law_some", "_law_most"] spAdded := by
  refine F.ok scAdded (fun vs H Q E h => ?_) (fun cdv A' outer s H vs Q E hr h => ?_)
  · obtain ⟨t, ns, M, rfl, _⟩ := h
    rfl
  · obtain ⟨t, ns, M, rfl, hS, L, hM, q⟩ := h
    refine ⟨_, pss_cons (ps_set (i := 2) scAdded.nd rfl (.inr rfl) (pe_op op_cat (pe_lst (pa_cons pe_bl pa_nil)) (pe_op op_rep (pe_lst (pa_cons pe_bl pa_nil)) (pv 1))))
      (pss_cons (ps_for PassesOwn.never rfl (pi_range2 (by rfl) T.range (pa_cons pe_int (pa_cons (pe_op op_add (pv 1) pe_int) pa_nil))) (pg_name (i := 3) scAdded.nd rfl (.inr rfl))
        (pss_one (ps_asg (pe_callB (cr_any rfl) (by rfl) T.any (by decide +kernel) (pa_cons
          (pe_lc (own := [("_law_one", 4)]) (g := gName 4) (tt := tYes) (by rfl) scAdded.nd (pi_tup (pv 0))
            (blkOk_by (own := [("_law_one", 4)]) (N := ["_law_some", "_law_most", "_law_found", "_law_whole", "_law_one"]) (sc := defScope sAdded) (by decide +kernel))
            (fun _ _ _ _ _ => pg_name (i := 4) scAdded.nd rfl (Or.inl rfl)) (fun _ _ _ _ _ => pts_nil)
            (fun _ _ _ _ _ => pe_and (pe_cmpR op_le (pv 4) (pv 3) (nomark _)) (pe_one (pe_ix (r := rIxL K) ix_list (pv 2) (pe_op op_sub (pv 3) (pv 4)) (fun _ _ => rfl))))) pa_nil))
          (pg_sub (pv 2) (pv 3) set_list))))
      (pss_one (ps_ret (pv 2)))), ?_⟩
    -- [True] + [False] * most
    refine ⟨by show 1 ≤ sizeLine; decide, fun p1 np1 => ⟨by show 1 ≤ sizeLine; decide, fun p2 np2 => ?_⟩⟩
    have sa : Same H (upd H p1 (.lst [.bl true])) := same_upd np1
    have sb := same_upd (o := HO.lst [V.bl false]) np2
    refine ⟨_, rfl, p2, _, _, rfl, rfl, upd_same, by omega, by omega, ?_, fun p3 np3 => ?_⟩
    · show 1 * (M : Int).toNat ≤ sizeLine
      exact Nat.le_of_lt (small1000 (by omega))
    have sc := same_upd (o := HO.lst (List.replicate (M : Int).toNat [V.bl false]).flatten) np3
    refine ⟨p1, p3, [.bl true], _, rfl, rfl, sc _ _ (sb _ _ upd_same), upd_same, ?_, fun p4 np4 => ?_⟩
    · rw [flat_rep, List.length_replicate]
      show 1 + (M : Int).toNat ≤ sizeLine
      have : (M : Int).toNat = M := by simp
      rw [this]
      exact Nat.le_trans (show 1 + M ≤ 1001 by omega) (by decide)
    have e4 : (([V.bl true] ++ (List.replicate (M : Int).toNat [V.bl false]).flatten)) = (tab ns M 0).map V.bl := by
      rw [flat_rep]
      unfold tab
      rw [List.map_append, List.map_replicate, show (M : Int).toNat = M by simp, Nat.sub_zero]
      show _ = [V.bl (rr ns 0)] ++ _
      rw [rr_zero L]
    rw [e4] at *
    have s4 : Same H _ := ((sa.trans sb).trans sc).trans (same_upd (o := HO.lst ((tab ns M 0).map V.bl)) np4)
    have n4 : H p4 = none := ((sa.trans sb).trans sc).free np4
    have h4 := @upd_same (upd (upd (upd H p1 (HO.lst [V.bl true])) p2 (HO.lst [V.bl false])) p3 (HO.lst (List.replicate (M : Int).toNat [V.bl false]).flatten)) p4 (HO.lst ((tab ns M 0).map V.bl))
    generalize upd (upd (upd (upd H p1 (HO.lst [V.bl true])) p2 (HO.lst [V.bl false])) p3 (HO.lst (List.replicate (M : Int).toNat [V.bl false]).flatten)) p4 (HO.lst ((tab ns M 0).map V.bl)) = H4 at *
    refine ⟨_, rfl, _, _, rfl, rfl, 1, _, rfl, ⟨by decide, by decide, by omega, by omega⟩, for_range (lo := 1) (fun i σ H5 => ∃ y, σ = [some (.ref t), some (.int M), some (.ref p4), y, none] ∧ Same H H5 ∧ H5 p4 = some (.lst ((tab ns M i).map V.bl)))
      ⟨none, rfl, s4, h4⟩ ?_ ?_⟩
    · rintro i σ H5 hi ⟨y, rfl, s5, h5⟩
      have hiM : i < M := by omega
      have hS5 := s5 _ _ hS
      have ew : (1 : Int) + (i : Int) = ((i + 1 : Nat) : Int) := by omega
      rw [ew]
      refine ⟨_, rfl, t, rfl, ⟨_, SqT.of hS5⟩, fun D nD => lc_tup (K := K) (a := t) (xs := ns.map V.int) (fun j H6 => Mk H5 H6 D (((ns.take j).map (fits ns ((i + 1 : Nat) : Int))).map V.bl)) (.start nD) (fun j H6 _ p => p.same.tup (SqT.of hS5)) ?_ ?_⟩
      · intro j x H6 hx m
        have hj : j < ns.length := by
          have := (List.getElem?_eq_some_iff.mp hx).1
          rwa [List.length_map] at this
        have ex : x = .int ns[j] := by
          rw [List.getElem?_map, List.getElem?_eq_getElem hj] at hx
          exact (Option.some.inj hx).symm
        subst ex
        have hb := L.low _ (List.getElem_mem hj)
        have fin : ∀ (b : Bool) (H7 : Hp), H7 = H6 → b = fits ns ((i + 1 : Nat) : Int) ns[j] → ∃ acc, H7 D = some (.lst acc) ∧ acc.length < sizeLine ∧ Mk H5 (upd H7 D (.lst (acc ++ [V.bl b]))) D (((ns.take (j + 1)).map (fits ns ((i + 1 : Nat) : Int))).map V.bl) := by
          rintro b H7 rfl rfl
          refine ⟨_, m.at_, ?_, ?_⟩
          · rw [List.length_map, List.length_map, List.length_take]
            exact small1000 (by have := L.few; omega)
          · rw [take_more (List.getElem?_eq_getElem hj), List.map_append, List.map_append]
            exact m.put (Same.refl _)
        refine ⟨rfl, _, rfl, _, rfl, _, _, rfl, rfl, _, rfl, ?_⟩
        by_cases c : ns[j] ≤ ((i + 1 : Nat) : Int)
        · rw [decide_eq_true c]
          have hidx : ((i + 1 : Nat) : Int) - ns[j] = ((((i + 1 : Nat) : Int) - ns[j]).toNat : Nat) := by omega
          refine iteT ⟨_, rfl, _, rfl, _, rfl, _, _, rfl, rfl, p4, _, _, .bl (rr ns (((i + 1 : Nat) : Int) - ns[j]).toNat), rfl, rfl, SqL.of (m.same _ _ h5), ?_, ?_⟩
          · rw [hidx]
            refine atI_nat ?_
            rw [List.getElem?_map, tab_low ns M i (by omega)]
            rfl
          · exact fin _ _ rfl (by unfold fits; rw [if_pos c])
        · rw [decide_eq_false c]
          exact iteF (fin _ _ rfl (by unfold fits; rw [if_neg c]))
      · intro H6 m
        rw [List.length_map, List.take_length] at m
        refine ⟨D, _, rfl, SqL.of m.at_, ?_⟩
        have ea : (ns.map (fits ns ((i + 1 : Nat) : Int))).any id = rr ns (i + 1) := by
          rw [List.any_map]
          exact rr_any L (Nat.succ_pos i)
        rw [ea]
        refine ⟨_, rfl, _, rfl, p4, _, _, i + 1, rfl, rfl, m.same _ _ h5, (by rw [List.length_map, tab_len ns (by omega)]; exact ixN_at (by omega)), ?_⟩
        refine ⟨_, rfl, fun b o e => ?_, ?_⟩
        · rw [upd_ne (ne_of_none e n4)]
          exact m.same _ _ (s5 b o e)
        · rw [upd_same, ← tab_step ns hiM, List.map_set]
    · rintro σ H5 ⟨y, rfl, s5, h5⟩
      refine ⟨_, rfl, q H5 p4 s5 n4 ?_⟩
      rw [h5]
      have : (((M : Int) + 1 - 1).toNat) = M := by omega
      rw [this]
end
end Ov
namespace Ov
open PySem PySem.Spec PyProof.Rows L2
abbrev sLaw : Stmt := top 23
/-- tuples of lengths, and the tables of their sums -/
structure Lot (H : Hp) (x : Addr × List Int) : Prop where
  at_ : H x.1 = some (.tup (x.2.map V.int))
  ok : Lens x.2
theorem Lot.same {H H' : Hp} {x : Addr × List Int} (h : Lot H x) (s : Same H H') : Lot H' x := ⟨s _ _ h.at_, h.ok⟩
theorem Lot.but {H H' : Hp} {p : Addr} {n : Nat} {x : Addr × List Int} (h : Lot H x) (b : But p H H') (B : BoxAt H p n) : Lot H' x := by
  refine ⟨b _ _ h.at_ fun z => ?_, h.ok⟩
  obtain ⟨a, b, c, e, _⟩ := B
  have := h.at_
  rw [z, e] at this
  cases this
/-- Same of a heap that did not hold p -/
theorem same_but {p : Addr} {H H1 H2 : Hp} (hp : H p = none) (s : Same H H1) (b : But p H1 H2) : Same H H2 := fun c o e => b c o (s c o e) (ne_of_none e hp)
section
variable {P : Program} {w : World} {K : PySem.W.Frag} {mg : Str → Option Value} {base : Heap}
def spLaw (K : PySem.W.Frag) : Sp := fun vs H Q _ => ∃ (a : Addr) (ns : List Int), vs = [.ref a] ∧ SqL K H a (ns.map V.int) ∧ ns.length ≤ 63 ∧ ∀ H', Q (.bl true) H'
theorem scLaw : FnScope ["_law_script", "_law_k", "_law_box_here", "_law_lots", "_law_some", "_law_due", "_law_whole", "_law_expected", "_law_turn"] ["_law_script"] (defScope sLaw) := ⟨rfl, rfl, rfl, by decide +kernel, rfl, by decide +kernel, by decide +kernel⟩
theorem ok_law {f fB fT fD fA fS : Addr} {fd fdB fdT fdD fdA fdS : FuncData} {k : Nat} (F : Fun K "law" "law" sLaw f fd) (T : Bi mg)
    (B : Def K mg "_law_box" sBox fB fdB ["_law_script", "_law_k"]) (GB : FnOk P w K mg base CX0 k fB fdB ["_law_script", "_law_k"] (spBox K))
    (Tk : Def K mg "_law_take" sTake fT fdT ["_law_box_here", "_law_many"]) (GT : FnOk P w K mg base CX0 k fT fdT ["_law_box_here", "_law_many"] spTake)
    (Dr : Def K mg "_law_drawn" sDrawn fD fdD ["_law_box_here"]) (GD : FnOk P w K mg base CX0 k fD fdD ["_law_box_here"] spDrawn)
    (Ad : Def K mg "_law_added" sAdded fA fdA ["_law_some", "_law_most"]) (GA : FnOk P w K mg base CX0 k fA fdA ["_law_some", "_law_most"] spAdded)
    (Is : Def K mg "is_sum" sIsSum fS fdS ["lengths", "total"]) (GS : FnOk P w K mg base CX0 k fS fdS ["lengths", "total"] spIsSum) (KS : KBinds K fdS ["lengths", "total"] ["total", "lengths"] swap2 swap2) :
    FnOk P w K mg base CX0 (k + 1) f fd ["_law_script"] (spLaw K) := by
  refine F.ok scLaw (fun vs H Q E h => ?_) (fun cdv A' outer s H vs Q E hr h => ?_)
  · obtain ⟨a, ns, rfl, _⟩ := h
    rfl
  · obtain ⟨a, ns, rfl, hS, hlen, q⟩ := h
    refine ⟨_, pss_cons (ps_for PassesOwn.never rfl (pi_range1 (by rfl) T.range (pa_cons (pe_op op_add pe_int (pe_callB (call_min2 rfl) (by rfl) T.min (by decide +kernel) (pa_cons pe_int (pa_cons (pe_callB call_len_seq (by rfl) T.len PySem.boot_len (pa_cons (pv 0) pa_nil)) pa_nil)))) pa_nil)) (pg_name (i := 1) scLaw.nd rfl (.inl rfl))
        (pss_cons (ps_set (i := 2) scLaw.nd rfl (.inr rfl) (pe_call GB hr (by rfl) B.gl B.fn.kp B.bi .nil pass0 (pa_cons (pv 0) (pa_cons (pv 1) pa_nil))))
        (pss_cons (ps_setLc (i := 3) (own := [("_law_turn", 8)]) (g := gName 8) (tt := tYes) (by rfl) scLaw.nd rfl rfl (sw_true rfl rfl rfl (by decide +kernel)) (pi_range1 (by rfl) T.range (pa_cons pe_int pa_nil))
            (blkOk_by (own := [("_law_turn", 8)]) (N := ["_law_script", "_law_k", "_law_box_here", "_law_lots", "_law_some", "_law_due", "_law_whole", "_law_expected", "_law_turn"]) (sc := defScope sLaw) (by decide +kernel))
            (fun _ _ _ _ _ => pg_name (i := 8) scLaw.nd rfl (Or.inl rfl)) (fun _ _ _ _ _ => pts_nil)
            (fun _ _ _ _ _ => pe_call GD hr (by rfl) Dr.gl Dr.fn.kp Dr.bi .nil pass0 (pa_cons (pv 2) pa_nil)))
        (pss_cons (ps_setLc (i := 5) (own := [("_law_some", 4)]) (g := gName 4) (tt := tYes) (by rfl) scLaw.nd rfl rfl (sw_true rfl rfl rfl (by decide +kernel)) (pi_list (pv 3))
            (blkOk_by (own := [("_law_some", 4)]) (N := ["_law_script", "_law_k", "_law_box_here", "_law_lots", "_law_some", "_law_due", "_law_whole", "_law_expected", "_law_turn"]) (sc := defScope sLaw) (by decide +kernel))
            (fun _ _ _ _ _ => pg_name (i := 4) scLaw.nd rfl (Or.inl rfl)) (fun _ _ _ _ _ => pts_nil)
            (fun _ _ _ _ _ => pe_call GA hr (by rfl) Ad.gl Ad.fn.kp Ad.bi .nil pass0 (pa_cons (pv 4) (pa_cons pe_int pa_nil))))
        (pss_cons (ps_for PassesOwn.never rfl (pi_range3 (by rfl) T.range (pa_cons pe_int (pa_cons pe_int (pa_cons (pe_op op_add pe_int (pe_call GT hr (by rfl) Tk.gl Tk.fn.kp Tk.bi .nil pass0 (pa_cons (pv 2) (pa_cons pe_int pa_nil)))) pa_nil)))) (pg_name (i := 6) scLaw.nd rfl (.inl rfl))
          (pss_one (ps_for PassesOwn.never rfl (pi_zip (by rfl) T.zip (pa_cons (pv 3) (pa_cons (pv 5) pa_nil))) (pg_tup rfl (pgs_cons (pg_name (i := 4) scLaw.nd rfl (.inl rfl)) (pgs_cons (pg_name (i := 7) scLaw.nd rfl (.inl rfl)) pgs_nil)))
            (pss_one (ps_if (pt_cmpR op_ne (pe_callB call_repr_bool (by rfl) T.repr (by decide +kernel) (pa_cons (pe_call GS hr (by rfl) Is.gl Is.fn.kp Is.bi .nil pass0 (pa_cons (pv 4) (pa_cons (pv 6) pa_nil))) pa_nil))
                (pe_callB call_repr_bool (by rfl) T.repr (by decide +kernel) (pa_cons (pe_ix ix_list (pv 7) (pv 6) (fun _ _ => rfl)) pa_nil)) (nomark _)) (pss_one (ps_ret pe_bl)) pss_nil)))))
        (pss_one (ps_if (pt_cmpR op_ne (pe_callB call_repr_bool (by rfl) T.repr (by decide +kernel) (pa_cons (pe_callK0 GS hr (by rfl) Is.gl Is.fn.kp KS pass0 (pk_cons pe_int (pk_cons (pe_ix ix_list (pv 3) pe_int (fun _ _ => rfl)) pk_nil))) pa_nil))
            (pe_callB call_repr_bool (by rfl) T.repr (by decide +kernel) (pa_cons (pe_ix ix_list (pe_ix ix_list (pv 5) pe_int (fun _ _ => rfl)) pe_int (fun _ _ => rfl)) pa_nil)) (nomark _)) (pss_one (ps_ret pe_bl)) pss_nil)))))))
      (pss_one (ps_ret pe_bl)), ?_⟩
    -- range(1 + min(3, len(script)))
    refine ⟨_, rfl, a, _, rfl, .inl hS, _, _, rfl, _, _, rfl, rfl, _, rfl, ?_, ?_, for_range (lo := 0) (fun i σ H2 => ∃ y1 y2 y3 y4 y5 y6 y7 y8, σ = [some (.ref a), y1, y2, y3, y4, y5, y6, y7, y8] ∧ Same H H2)
      ⟨none, none, none, none, none, none, none, none, rfl, Same.refl _⟩ ?_ (fun σ H2 ⟨_, _, _, _, _, _, _, _, _, _⟩ => q H2)⟩
    · split <;> omega
    · split <;> omega
    rintro i σ H2 hi ⟨y1, y2, y3, y4, y5, y6, y7, y8, rfl, s2⟩
    have hi4 : i < 4 := by
      revert hi
      split <;> omega
    -- the box
    refine ⟨_, rfl, _, rfl, a, ns, i, (by rw [Int.zero_add]; rfl), s2.seq hS, by omega, fun H3 p s3 np B3 => ?_⟩
    -- the lots
    refine ⟨3, rfl, by decide, by decide, fun D nD => lc_range (lo := 0) (n := 3) (fun j H4 => ∃ ts : List (Addr × List Int), ts.length = j ∧ H4 D = some (.lst (ts.map fun x => V.ref x.1)) ∧ (∀ x ∈ ts, Lot H4 x) ∧ BoxAt H4 p (20 * j) ∧ Same H2 H4)
      ⟨[], rfl, upd_same, (fun _ h => nomatch h), B3.same (same_upd nD), s3.trans (same_upd nD)⟩ ?_ ?_⟩
    · rintro j H4 hj ⟨ts, hts, hD, hl, B4, s4⟩
      have hDp : D ≠ p := fun z => B3.ne (z ▸ nD)
      refine ⟨rfl, _, rfl, p, 20 * j, rfl, B4, by omega, fun H5 t ms b5 B5 nt ht L => ?_⟩
      have h5D := b5 _ _ hD hDp
      have hDt : t ≠ D := fun z => by rw [z, h5D] at ht; cases ht
      have hu : ∀ x : Addr × List Int, Lot H5 x → ∀ acc, Lot (upd H5 D (.lst acc)) x := fun x hx acc => ⟨by rw [upd_ne (fun z => by have := hx.at_; rw [z, h5D] at this; cases this)]; exact hx.at_, hx.ok⟩
      refine ⟨_, h5D, (by rw [List.length_map, hts]; exact small1000 (by omega)), ts ++ [(t, ms)], by rw [List.length_append, hts]; rfl, ?_, ?_, ?_, ?_⟩
      · rw [upd_same, List.map_append]; rfl
      · intro x hx
        rcases List.mem_append.mp hx with hx | hx
        · exact hu x ((hl x hx).but b5 B4) _
        · rw [List.mem_singleton.mp hx]
          exact hu _ ⟨ht, L⟩ _
      · obtain ⟨z1, z2, z3, e, r⟩ := B5
        exact ⟨z1, z2, z3, by rw [upd_ne (Ne.symm hDp)]; exact e, r⟩
      · intro b o e
        rw [upd_ne (ne_of_none (s3 b o e) nD)]
        exact same_but np s4 b5 b o e
    rintro H4 ⟨ts, hts, hD, hl, B4, s4⟩
    have hDp : D ≠ p := fun z => B3.ne (z ▸ nD)
    -- the tables
    refine ⟨_, rfl, D, rfl, ⟨_, SqL.of hD⟩, fun D2 nD2 => lc_list (K := K) (a := D) (xs := ts.map fun x => V.ref x.1) (fun j H5 => ∃ ds : List Addr, ds.length = j ∧ H5 D2 = some (.lst (ds.map V.ref)) ∧ (∀ (i : Nat) (x : Addr × List Int) (d : Addr), ts[i]? = some x → ds[i]? = some d → H5 d = some (.lst ((tab x.2 240 240).map V.bl)) ∧ d ≠ p ∧ d ≠ D2) ∧ Same H4 H5)
      ⟨[], rfl, upd_same, (fun i x d _ h => by simp at h), same_upd nD2⟩ (fun j H5 _ ⟨_, _, _, _, s5⟩ => s5.seq (SqL.of hD)) ?_ ?_⟩
    · rintro j x H5 hx ⟨ds, hds, hD2, hd, s5⟩
      have hj : j < ts.length := by
        have := (List.getElem?_eq_some_iff.mp hx).1
        rwa [List.length_map] at this
      have ex : x = .ref ts[j].1 := by
        rw [List.getElem?_map, List.getElem?_eq_getElem hj] at hx
        exact (Option.some.inj hx).symm
      subst ex
      have lt := hl _ (List.getElem_mem hj)
      refine ⟨rfl, _, rfl, ts[j].1, ts[j].2, 240, rfl, s5 _ _ lt.at_, lt.ok, by decide, fun H6 d s6 nd h6 => ?_⟩
      have n4d : H4 d = none := s5.free nd
      have hdp : d ≠ p := fun z => B4.ne (z ▸ n4d)
      have hdD2 : d ≠ D2 := fun z => by rw [z, hD2] at nd; cases nd
      refine ⟨_, s6 _ _ hD2, (by rw [List.length_map, hds]; exact small1000 (by omega)), ds ++ [d], by rw [List.length_append, hds]; rfl, ?_, ?_, ?_⟩
      · rw [upd_same, List.map_append]; rfl
      · intro i x e hi he
        by_cases hij : i < j
        · rw [List.getElem?_append_left (by omega)] at he
          obtain ⟨h1, h2, h3⟩ := hd i x e hi he
          exact ⟨by rw [upd_ne h3]; exact s6 _ _ h1, h2, h3⟩
        · have hel := (List.getElem?_eq_some_iff.mp he).1
          rw [List.length_append, hds] at hel
          have eij : i = j := by have : ([d] : List Addr).length = 1 := rfl; omega
          subst eij
          rw [List.getElem?_append_right (by omega), hds, Nat.sub_self] at he
          have ed : d = e := Option.some.inj he
          subst ed
          rw [List.getElem?_eq_getElem hj] at hi
          have ex : ts[i] = x := Option.some.inj hi
          subst ex
          exact ⟨by rw [upd_ne hdD2]; exact h6, hdp, hdD2⟩
      · intro b o e
        rw [upd_ne (ne_of_none e nD2)]
        exact s6 _ _ (s5 b o e)
    rintro H5 ⟨ds, hds, hD2, hd, s5⟩
    rw [List.length_map, hts] at hds
    have nD2p : D2 ≠ p := fun z => B4.ne (z ▸ nD2)
    have hD2D : D ≠ D2 := ne_of_none hD nD2
    -- what stays through the rest of the turn
    have hl5 : ∀ x ∈ ts, Lot H5 x := fun x hx => (hl x hx).same s5
    have B5 := B4.same s5
    have s25 : Same H2 H5 := s4.trans s5
    -- range(0, 241, ..)
    refine ⟨_, rfl, p, 3, 20 * 3, rfl, B5, by decide, by decide, by decide, fun H6 e b6 B6 e0 e1 f6 => ?_⟩
    obtain ⟨c, n, hcn, hR, hcb⟩ : ∃ (c : Int) (n : Nat), 1 + e = c ∧ RgC 0 241 c n ∧ ∀ j : Nat, j < n → 0 ≤ 0 + (j : Int) * c ∧ 0 + (j : Int) * c ≤ 240 := by
      rcases (show e = 0 ∨ e = 1 ∨ e = 2 by omega) with rfl | rfl | rfl
      · exact ⟨1, 241, rfl, ⟨by decide, by decide, by decide +kernel, by decide +kernel⟩, fun j hj => ⟨by omega, by omega⟩⟩
      · exact ⟨2, 121, rfl, ⟨by decide, by decide, by decide +kernel, by decide +kernel⟩, fun j hj => ⟨by omega, by omega⟩⟩
      · exact ⟨3, 81, rfl, ⟨by decide, by decide, by decide +kernel, by decide +kernel⟩, fun j hj => ⟨by omega, by omega⟩⟩
    have hD6 : H6 D = some (.lst (ts.map fun x => V.ref x.1)) := b6 _ _ (s5 _ _ hD) hDp
    have hD26 : H6 D2 = some (.lst (ds.map V.ref)) := b6 _ _ hD2 nD2p
    have hl6 : ∀ x ∈ ts, Lot H6 x := fun x hx => (hl5 x hx).but b6 B5
    have hd6 : ∀ (i : Nat) (x : Addr × List Int) (d : Addr), ts[i]? = some x → ds[i]? = some d → H6 d = some (.lst ((tab x.2 240 240).map V.bl)) := fun i x d h1 h2 => by
      obtain ⟨h3, h4, _⟩ := hd i x d h1 h2
      exact b6 _ _ h3 h4
    have s26 : Same H2 H6 := same_but np s25 b6
    clear hl5 hD hD2 hl hd B3 B4 B5 s5 s4 hS b6 f6
    refine ⟨_, _, rfl, rfl, 0, 241, _, n, rfl, (by rw [hcn]; exact hR), ?_⟩
    rw [hcn]
    have fin : ∀ (u v : Bool) (X Y : Prop), u = v → Y → (if (!decide (V.str (boolText u) = V.str (boolText v))) = true then X else Y) := fun u v X Y e h => by
      subst e
      rw [decide_eq_true rfl]
      exact iteF h
    refine for_rangeC (lo := 0) (c := c) (n := n) (fun j σ H7 => ∃ y4 y6 y7, σ = [some (.ref a), some (.int (0 + (i : Int))), some (.ref p), some (.ref D), y4, some (.ref D2), y6, y7, y8] ∧ Same H6 H7)
      ⟨y4, y6, y7, rfl, Same.refl _⟩ ?_ ?_
    · rintro j σ H7 hj ⟨y4, y6, y7, rfl, s7⟩
      obtain ⟨hw0, hw1⟩ := hcb j hj
      obtain ⟨w, hw⟩ : ∃ w : Nat, 0 + (j : Int) * c = w := ⟨(0 + (j : Int) * c).toNat, by omega⟩
      rw [hw] at hw1 ⊢
      refine ⟨_, rfl, _, rfl, D, D2, _, _, rfl, SqL.of (s7 _ _ hD6), SqL.of (s7 _ _ hD26), ?_⟩
      refine RZ.for_zipL (K := K) (xs := ts.map fun x => V.ref x.1) (ys := ds.map V.ref) (by rw [List.length_map, List.length_map, hts, hds]) (fun _ σ H8 => ∃ y4 y7, σ = [some (.ref a), some (.int (0 + (i : Int))), some (.ref p), some (.ref D), y4, some (.ref D2), some (.int w), y7, y8] ∧ Same H6 H8)
        ⟨_, _, rfl, s7⟩ (fun _ _ _ ⟨_, _, _, s8⟩ => ⟨SqL.of (s8 _ _ hD6), SqL.of (s8 _ _ hD26)⟩) ?_ ?_
      · rintro m x y t σ H8 hx hy ⟨y4, y7, rfl, s8⟩ nt
        have hm : m < ts.length := by
          have := (List.getElem?_eq_some_iff.mp hx).1
          rwa [List.length_map] at this
        have hm2 : m < ds.length := by omega
        have ex : x = .ref ts[m].1 := by
          rw [List.getElem?_map, List.getElem?_eq_getElem hm] at hx
          exact (Option.some.inj hx).symm
        have ey : y = .ref ds[m] := by
          rw [List.getElem?_map, List.getElem?_eq_getElem hm2] at hy
          exact (Option.some.inj hy).symm
        subst ex ey
        have s9 : Same H6 (upd H8 t (.tup [V.ref ts[m].1, V.ref ds[m]])) := s8.trans (same_upd nt)
        have lt := (hl6 _ (List.getElem_mem hm)).same s9
        have ht := s9 _ _ (hd6 m _ _ (List.getElem?_eq_getElem hm) (List.getElem?_eq_getElem hm2))
        refine ⟨t, _, rfl, SqT.of upd_same, rfl, _, _, rfl, _, _, rfl, rfl, ?_⟩
        refine ⟨_, rfl, _, rfl, ts[m].1, ts[m].2, w, rfl, lt.at_, lt.ok, fun H9 s10 => ?_⟩
        refine ⟨_, rfl, _, rfl, _, rfl, ds[m], _, _, .bl (rr ts[m].2 w), rfl, rfl, SqL.of (s10 _ _ ht), atI_nat (by rw [List.getElem?_map, tab_low _ _ _ (by omega)]; rfl), _, rfl, rfl, _, rfl, ?_⟩
        exact fin _ _ _ _ rfl ⟨_, _, rfl, s9.trans s10⟩
      · rintro σ H8 ⟨y4, y7, rfl, s8⟩
        exact ⟨_, _, _, rfl, s8⟩
    · rintro σ H7 ⟨y4, y6, y7, rfl, s7⟩
      have h0 : 0 < ts.length := by omega
      have h02 : 0 < ds.length := by omega
      have lt := (hl6 _ (List.getElem_mem h0)).same s7
      have ht := hd6 0 _ _ (List.getElem?_eq_getElem h0) (List.getElem?_eq_getElem h02)
      have g0 : atI (ts.map fun x => V.ref x.1) 0 = some (.ref ts[0].1) := atI_nat (j := 0) (by rw [List.getElem?_map, List.getElem?_eq_getElem h0]; rfl)
      have g1 : atI (ds.map V.ref) 0 = some (.ref ds[0]) := atI_nat (j := 0) (by rw [List.getElem?_map, List.getElem?_eq_getElem h02]; rfl)
      have g2 : atI ((tab ts[0].2 240 240).map V.bl) 47 = some (.bl (rr ts[0].2 47)) := atI_nat (j := 47) (by rw [List.getElem?_map, tab_low _ _ _ (by omega)]; rfl)
      refine ⟨_, rfl, D, _, _, _, rfl, rfl, SqL.of (s7 _ _ hD6), g0, ts[0].1, ts[0].2, 47, rfl, lt.at_, lt.ok, fun H9 s10 => ?_⟩
      refine ⟨_, rfl, _, rfl, D2, _, _, _, rfl, rfl, SqL.of (s10 _ _ (s7 _ _ hD26)), g1, ds[0], _, _, _, rfl, rfl, SqL.of (s10 _ _ (s7 _ _ ht)), g2, _, rfl, rfl, _, rfl, ?_⟩
      exact fin _ _ _ _ rfl ⟨_, _, _, _, _, _, _, _, rfl, (s2.trans s26).trans (s7.trans s10)⟩
end
end Ov
namespace Ov
open PySem PySem.Spec PyProof.Rows L2
/-! ### what the top has written, and the law's own head -/
theorem all_mk {P : Program} {w : World} {K : PySem.W.Frag} {h : Heap} {mg : Str → Option Value} {fa f0 f1 f2 f3 f4 f5 f6 f7 f8 f9 f10 f11 f12 f13 f14 f15 : Addr} (X : K.In h) (G : h.Ns mainGlobals mg) (hfa : mg "law" = some (.ref fa))
    {od0 an0 od1 an1 od2 an2 od3 an3 od4 an4 od5 an5 od6 an6 od7 an7 od8 an8 od9 an9 od10 an10 od11 an11 od12 an12 od13 an13 od14 an14 od15 an15 : Option Addr} {sl0 sl1 sl2 sl3 sl4 sl5 sl6 sl7 sl8 sl9 sl10 sl11 sl12 sl13 sl14 sl15 : Array (Option Value)} {oc0 kV0 dc0 pm0 cd0 ct0 oc1 kV1 dc1 pm1 cd1 ct1 oc2 kV2 dc2 pm2 cd2 ct2 oc3 kV3 dc3 pm3 cd3 ct3 oc4 kV4 dc4 pm4 cd4 ct4 oc5 kV5 dc5 pm5 cd5 ct5 oc6 kV6 dc6 pm6 cd6 ct6 oc7 kV7 dc7 pm7 cd7 ct7 oc8 kV8 dc8 pm8 cd8 ct8 oc9 kV9 dc9 pm9 cd9 ct9 oc10 kV10 dc10 pm10 cd10 ct10 oc11 kV11 dc11 pm11 cd11 ct11 oc12 kV12 dc12 pm12 cd12 ct12 oc13 kV13 dc13 pm13 cd13 ct13 oc14 kV14 dc14 pm14 cd14 ct14 oc15 kV15 dc15 pm15 cd15 ct15 : Value}
    {tk0 tk1 : Tok}
    (a0 : PySem.W.nsIn K mainGlobals "is_integer" = some (some (.ref f0))) (l0 : K.lookup f0 = some ⟨oc0, od0, .func (PySem.W.fnOf "is_integer" "is_integer" (defArgs sIsInt) (defBody sIsInt) (defScope sIsInt) .none kV0 dc0 pm0 an0 cd0 ct0), sl0⟩) (c0 : PySem.W.codeIn K cd0 "is_integer" = true) (k0 : PySem.W.keepIn K (.ref f0) = true)
    (a1 : PySem.W.nsIn K mainGlobals "is_integer_between" = some (some (.ref f1))) (l1 : K.lookup f1 = some ⟨oc1, od1, .func (PySem.W.fnOf "is_integer_between" "is_integer_between" (defArgs sBetween) (defBody sBetween) (defScope sBetween) .none kV1 dc1 pm1 an1 cd1 ct1), sl1⟩) (c1 : PySem.W.codeIn K cd1 "is_integer_between" = true) (k1 : PySem.W.keepIn K (.ref f1) = true)
    (a2 : PySem.W.nsIn K mainGlobals "is_ascending" = some (some (.ref f2))) (l2 : K.lookup f2 = some ⟨oc2, od2, .func (PySem.W.fnOf "is_ascending" "is_ascending" (defArgs sAscending) (defBody sAscending) (defScope sAscending) .none kV2 dc2 pm2 an2 cd2 ct2), sl2⟩) (c2 : PySem.W.codeIn K cd2 "is_ascending" = true) (k2 : PySem.W.keepIn K (.ref f2) = true)
    (a3 : PySem.W.nsIn K mainGlobals "is_sum" = some (some (.ref f3))) (l3 : K.lookup f3 = some ⟨oc3, od3, .func (PySem.W.fnOf "is_sum" "is_sum" (defArgs sIsSum) (defBody sIsSum) (defScope sIsSum) .none kV3 dc3 pm3 an3 cd3 ct3), sl3⟩) (c3 : PySem.W.codeIn K cd3 "is_sum" = true) (k3 : PySem.W.keepIn K (.ref f3) = true)
    (a4 : PySem.W.nsIn K mainGlobals "least_sums" = some (some (.ref f4))) (l4 : K.lookup f4 = some ⟨oc4, od4, .func (PySem.W.fnOf "least_sums" "least_sums" (defArgs sLeast) (defBody sLeast) (defScope sLeast) .none kV4 dc4 pm4 an4 cd4 ct4), sl4⟩) (c4 : PySem.W.codeIn K cd4 "least_sums" = true) (k4 : PySem.W.keepIn K (.ref f4) = true)
    (a5 : PySem.W.nsIn K mainGlobals "check_lengths" = some (some (.ref f5))) (l5 : K.lookup f5 = some ⟨oc5, od5, .func (PySem.W.fnOf "check_lengths" "check_lengths" (defArgs sCheck) (defBody sCheck) (defScope sCheck) .none kV5 dc5 pm5 an5 cd5 ct5), sl5⟩) (c5 : PySem.W.codeIn K cd5 "check_lengths" = true) (k5 : PySem.W.keepIn K (.ref f5) = true)
    (a6 : PySem.W.nsIn K mainGlobals "are_lengths" = some (some (.ref f6))) (l6 : K.lookup f6 = some ⟨oc6, od6, .func (PySem.W.fnOf "are_lengths" "are_lengths" (defArgs sAre) (defBody sAre) (defScope sAre) .none kV6 dc6 pm6 an6 cd6 ct6), sl6⟩) (c6 : PySem.W.codeIn K cd6 "are_lengths" = true) (k6 : PySem.W.keepIn K (.ref f6) = true)
    (a7 : PySem.W.nsIn K mainGlobals "divisor_of_two" = some (some (.ref f7))) (l7 : K.lookup f7 = some ⟨oc7, od7, .func (PySem.W.fnOf "divisor_of_two" "divisor_of_two" (defArgs sGcd) (defBody sGcd) (defScope sGcd) .none kV7 dc7 pm7 an7 cd7 ct7), sl7⟩) (c7 : PySem.W.codeIn K cd7 "divisor_of_two" = true) (k7 : PySem.W.keepIn K (.ref f7) = true)
    (a8 : PySem.W.nsIn K mainGlobals "with_length" = some (some (.ref f8))) (l8 : K.lookup f8 = some ⟨oc8, od8, .func (PySem.W.fnOf "with_length" "with_length" (defArgs sWith) (defBody sWith) (defScope sWith) .none kV8 dc8 pm8 an8 cd8 ct8), sl8⟩) (c8 : PySem.W.codeIn K cd8 "with_length" = true) (k8 : PySem.W.keepIn K (.ref f8) = true)
    (a9 : PySem.W.nsIn K mainGlobals "is_reached" = some (some (.ref f9))) (l9 : K.lookup f9 = some ⟨oc9, od9, .func (PySem.W.fnOf "is_reached" "is_reached" (defArgs sReached) (defBody sReached) (defScope sReached) .none kV9 dc9 pm9 an9 cd9 ct9), sl9⟩) (c9 : PySem.W.codeIn K cd9 "is_reached" = true) (k9 : PySem.W.keepIn K (.ref f9) = true)
    (a10 : PySem.W.nsIn K mainGlobals "_law_box" = some (some (.ref f10))) (l10 : K.lookup f10 = some ⟨oc10, od10, .func (PySem.W.fnOf "_law_box" "_law_box" (defArgs sBox) (defBody sBox) (defScope sBox) .none kV10 dc10 pm10 an10 cd10 ct10), sl10⟩) (c10 : PySem.W.codeIn K cd10 "_law_box" = true) (k10 : PySem.W.keepIn K (.ref f10) = true)
    (a11 : PySem.W.nsIn K mainGlobals "_law_take" = some (some (.ref f11))) (l11 : K.lookup f11 = some ⟨oc11, od11, .func (PySem.W.fnOf "_law_take" "_law_take" (defArgs sTake) (defBody sTake) (defScope sTake) .none kV11 dc11 pm11 an11 cd11 ct11), sl11⟩) (c11 : PySem.W.codeIn K cd11 "_law_take" = true) (k11 : PySem.W.keepIn K (.ref f11) = true)
    (a12 : PySem.W.nsIn K mainGlobals "_law_of" = some (some (.ref f12))) (l12 : K.lookup f12 = some ⟨oc12, od12, .func (PySem.W.fnOf "_law_of" "_law_of" (defArgs sOf) (defBody sOf) (defScope sOf) .none kV12 dc12 pm12 an12 cd12 ct12), sl12⟩) (c12 : PySem.W.codeIn K cd12 "_law_of" = true) (k12 : PySem.W.keepIn K (.ref f12) = true)
    (a13 : PySem.W.nsIn K mainGlobals "_law_drawn" = some (some (.ref f13))) (l13 : K.lookup f13 = some ⟨oc13, od13, .func (PySem.W.fnOf "_law_drawn" "_law_drawn" (defArgs sDrawn) (defBody sDrawn) (defScope sDrawn) .none kV13 dc13 pm13 an13 cd13 ct13), sl13⟩) (c13 : PySem.W.codeIn K cd13 "_law_drawn" = true) (k13 : PySem.W.keepIn K (.ref f13) = true)
    (a14 : PySem.W.nsIn K mainGlobals "_law_added" = some (some (.ref f14))) (l14 : K.lookup f14 = some ⟨oc14, od14, .func (PySem.W.fnOf "_law_added" "_law_added" (defArgs sAdded) (defBody sAdded) (defScope sAdded) .none kV14 dc14 pm14 an14 cd14 ct14), sl14⟩) (c14 : PySem.W.codeIn K cd14 "_law_added" = true) (k14 : PySem.W.keepIn K (.ref f14) = true)
    (a15 : PySem.W.nsIn K mainGlobals "law" = some (some (.ref f15))) (l15 : K.lookup f15 = some ⟨oc15, od15, .func (PySem.W.fnOf "law" "law" (defArgs sLaw) (defBody sLaw) (defScope sLaw) .none kV15 dc15 pm15 an15 cd15 ct15), sl15⟩) (c15 : PySem.W.codeIn K cd15 "law" = true) (k15 : PySem.W.keepIn K (.ref f15) = true)
    (cst0 : PySem.W.nsIn K mainGlobals "MOST_LENGTHS" = some (some (.int 50 tk0)))
    (cst1 : PySem.W.nsIn K mainGlobals "GREATEST_LENGTH" = some (some (.int 1000 tk1)))
    (bz0 : PySem.W.nsIn K mainGlobals "isinstance" = some none)
    (bz1 : PySem.W.nsIn K mainGlobals "int" = some none)
    (bz2 : PySem.W.nsIn K mainGlobals "bool" = some none)
    (bz3 : PySem.W.nsIn K mainGlobals "tuple" = some none)
    (bz4 : PySem.W.nsIn K mainGlobals "list" = some none)
    (bz5 : PySem.W.nsIn K mainGlobals "all" = some none)
    (bz6 : PySem.W.nsIn K mainGlobals "any" = some none)
    (bz7 : PySem.W.nsIn K mainGlobals "zip" = some none)
    (bz8 : PySem.W.nsIn K mainGlobals "len" = some none)
    (bz9 : PySem.W.nsIn K mainGlobals "range" = some none)
    (bz10 : PySem.W.nsIn K mainGlobals "abs" = some none)
    (bz11 : PySem.W.nsIn K mainGlobals "sorted" = some none)
    (bz12 : PySem.W.nsIn K mainGlobals "min" = some none)
    (bz13 : PySem.W.nsIn K mainGlobals "repr" = some none)
    : ∃ fd : FuncData, (∀ (s : Shared) (v : Value), BindsTo s fd ⟨[v], []⟩ [("_law_script", v)]) ∧ ∀ base : Heap, K.In base → base.Ns mainGlobals mg → FnOk P w K mg base CX0 7 fa fd ["_law_script"] (spLaw K) := by
  have e := hfa.symm.trans (PySem.W.mg_of X G a15)
  cases e
  have T : Bi mg := ⟨PySem.W.mg_none_of X G bz0, PySem.W.mg_none_of X G bz1, PySem.W.mg_none_of X G bz2, PySem.W.mg_none_of X G bz3, PySem.W.mg_none_of X G bz4, PySem.W.mg_none_of X G bz5, PySem.W.mg_none_of X G bz6, PySem.W.mg_none_of X G bz7, PySem.W.mg_none_of X G bz8, PySem.W.mg_none_of X G bz9, PySem.W.mg_none_of X G bz10, PySem.W.mg_none_of X G bz11, PySem.W.mg_none_of X G bz12, PySem.W.mg_none_of X G bz13⟩
  have FIz := fun_mk (st := sIsInt) l0 c0 k0
  have DIz : Def K mg "is_integer" sIsInt f0 _ ["value"] := ⟨FIz, PySem.W.mg_of X G a0, FIz.binds (ps := ["value"]) fun _ _ _ _ _ _ us hl => match us, hl with | [_], _ => rfl⟩
  have FBt := fun_mk (st := sBetween) l1 c1 k1
  have DBt : Def K mg "is_integer_between" sBetween f1 _ ["value", "least", "most"] := ⟨FBt, PySem.W.mg_of X G a1, FBt.binds (ps := ["value", "least", "most"]) fun _ _ _ _ _ _ us hl => match us, hl with | [_, _, _], _ => rfl⟩
  have FAs := fun_mk (st := sAscending) l2 c2 k2
  have DAs : Def K mg "is_ascending" sAscending f2 _ ["numbers"] := ⟨FAs, PySem.W.mg_of X G a2, FAs.binds (ps := ["numbers"]) fun _ _ _ _ _ _ us hl => match us, hl with | [_], _ => rfl⟩
  have FIs := fun_mk (st := sIsSum) l3 c3 k3
  have DIs : Def K mg "is_sum" sIsSum f3 _ ["lengths", "total"] := ⟨FIs, PySem.W.mg_of X G a3, FIs.binds (ps := ["lengths", "total"]) fun _ _ _ _ _ _ us hl => match us, hl with | [_, _], _ => rfl⟩
  have FLe := fun_mk (st := sLeast) l4 c4 k4
  have DLe : Def K mg "least_sums" sLeast f4 _ ["lengths"] := ⟨FLe, PySem.W.mg_of X G a4, FLe.binds (ps := ["lengths"]) fun _ _ _ _ _ _ us hl => match us, hl with | [_], _ => rfl⟩
  have FCh := fun_mk (st := sCheck) l5 c5 k5
  have DCh : Def K mg "check_lengths" sCheck f5 _ ["lengths"] := ⟨FCh, PySem.W.mg_of X G a5, FCh.binds (ps := ["lengths"]) fun _ _ _ _ _ _ us hl => match us, hl with | [_], _ => rfl⟩
  have FAr := fun_mk (st := sAre) l6 c6 k6
  have DAr : Def K mg "are_lengths" sAre f6 _ ["value"] := ⟨FAr, PySem.W.mg_of X G a6, FAr.binds (ps := ["value"]) fun _ _ _ _ _ _ us hl => match us, hl with | [_], _ => rfl⟩
  have FGc := fun_mk (st := sGcd) l7 c7 k7
  have DGc : Def K mg "divisor_of_two" sGcd f7 _ ["first", "second"] := ⟨FGc, PySem.W.mg_of X G a7, FGc.binds (ps := ["first", "second"]) fun _ _ _ _ _ _ us hl => match us, hl with | [_, _], _ => rfl⟩
  have FWi := fun_mk (st := sWith) l8 c8 k8
  have DWi : Def K mg "with_length" sWith f8 _ ["least", "length"] := ⟨FWi, PySem.W.mg_of X G a8, FWi.binds (ps := ["least", "length"]) fun _ _ _ _ _ _ us hl => match us, hl with | [_, _], _ => rfl⟩
  have FRe := fun_mk (st := sReached) l9 c9 k9
  have DRe : Def K mg "is_reached" sReached f9 _ ["least", "total"] := ⟨FRe, PySem.W.mg_of X G a9, FRe.binds (ps := ["least", "total"]) fun _ _ _ _ _ _ us hl => match us, hl with | [_, _], _ => rfl⟩
  have FBo := fun_mk (st := sBox) l10 c10 k10
  have DBo : Def K mg "_law_box" sBox f10 _ ["_law_script", "_law_k"] := ⟨FBo, PySem.W.mg_of X G a10, FBo.binds (ps := ["_law_script", "_law_k"]) fun _ _ _ _ _ _ us hl => match us, hl with | [_, _], _ => rfl⟩
  have FTa := fun_mk (st := sTake) l11 c11 k11
  have DTa : Def K mg "_law_take" sTake f11 _ ["_law_box_here", "_law_many"] := ⟨FTa, PySem.W.mg_of X G a11, FTa.binds (ps := ["_law_box_here", "_law_many"]) fun _ _ _ _ _ _ us hl => match us, hl with | [_, _], _ => rfl⟩
  have FOf := fun_mk (st := sOf) l12 c12 k12
  have DOf : Def K mg "_law_of" sOf f12 _ ["_law_box_here", "_law_some"] := ⟨FOf, PySem.W.mg_of X G a12, FOf.binds (ps := ["_law_box_here", "_law_some"]) fun _ _ _ _ _ _ us hl => match us, hl with | [_, _], _ => rfl⟩
  have FDr := fun_mk (st := sDrawn) l13 c13 k13
  have DDr : Def K mg "_law_drawn" sDrawn f13 _ ["_law_box_here"] := ⟨FDr, PySem.W.mg_of X G a13, FDr.binds (ps := ["_law_box_here"]) fun _ _ _ _ _ _ us hl => match us, hl with | [_], _ => rfl⟩
  have FAd := fun_mk (st := sAdded) l14 c14 k14
  have DAd : Def K mg "_law_added" sAdded f14 _ ["_law_some", "_law_most"] := ⟨FAd, PySem.W.mg_of X G a14, FAd.binds (ps := ["_law_some", "_law_most"]) fun _ _ _ _ _ _ us hl => match us, hl with | [_, _], _ => rfl⟩
  have FLa := fun_mk (st := sLaw) l15 c15 k15
  have CMl : ∃ t, mg "MOST_LENGTHS" = some (.int 50 t) := ⟨_, PySem.W.mg_of X G cst0⟩
  have CGl : ∃ t, mg "GREATEST_LENGTH" = some (.int 1000 t) := ⟨_, PySem.W.mg_of X G cst1⟩
  have KS : KBinds K (PySem.W.fnOf "is_sum" "is_sum" (defArgs sIsSum) (defBody sIsSum) (defScope sIsSum) .none kV3 dc3 pm3 an3 cd3 ct3) ["lengths", "total"] ["total", "lengths"] swap2 swap2 := ⟨fun s us ws _ hl => by
      obtain ⟨x, y, rfl, rfl⟩ := swap2_len hl
      exact .of_eq rfl, swap2_rel⟩
  refine ⟨PySem.W.fnOf "law" "law" (defArgs sLaw) (defBody sLaw) (defScope sLaw) .none kV15 dc15 pm15 an15 cd15 ct15, fun s v => .of_eq rfl, fun base _ _ => ?_⟩
  have GAr : FnOk P w K mg base CX0 3 _ _ ["value"] spAre := ok_are FAr T DBt (ok_between FBt T DIz) DAs CMl CGl
  have GCh : FnOk P w K mg base CX0 4 _ _ ["lengths"] spCheck := ok_check FCh DAr GAr
  have GWi : FnOk P w K mg base CX0 4 _ _ ["least", "length"] spWith := ok_with FWi T DGc
  have GLe : FnOk P w K mg base CX0 5 _ _ ["lengths"] spLeast := ok_least FLe T DCh GCh DWi GWi
  have GRe : FnOk P w K mg base CX0 5 _ _ ["least", "total"] spReached := ok_reached FRe T
  have GIs : FnOk P w K mg base CX0 6 _ _ ["lengths", "total"] spIsSum := ok_issum FIs DRe GRe DLe GLe
  have GDr : FnOk P w K mg base CX0 6 _ _ ["_law_box_here"] spDrawn := ok_drawn FDr T DOf DTa
  exact ok_law FLa T DBo (ok_box FBo T) DTa (ok_take FTa) DDr GDr DAd (ok_added FAd T) DIs GIs KS
end Ov
open PySem PySem.W PyProof.Rows
set_option maxRecDepth 100000 in
set_option maxHeartbeats 0 in
theorem PySem.Challenge.cw_overlapcode_k06_sums_by_plain_adding_holds : PySem.Challenge.rw_overlapcode_k06_sums_by_plain_adding.Holds := by
  w_on; o_law; k_head; (case hw => w_witness2)
  k_fill
  refine L2.walk_of (l := PySem.Challenge.rw_overlapcode_k06_sums_by_plain_adding) (n := 63) (k := 7) (x := "_law_script") (CX := fun _ => L2.CX0) (sp := fun w => Ov.spLaw _) rfl (by decide) rfl ⟨rfl, by decide, by decide⟩ (fun w h Y => PySem.W.kIn_of Y) ?F (fun _ _ a ns hl _ hS => ⟨a, ns, rfl, hS, hl, fun _ => rfl⟩) (fun _ _ _ _ _ h => h)
  case F =>
    intro w mg fa h KX G hmg
    refine' Ov.all_mk KX G hmg ?a0 ?l0 ?c0 ?k0 ?a1 ?l1 ?c1 ?k1 ?a2 ?l2 ?c2 ?k2 ?a3 ?l3 ?c3 ?k3 ?a4 ?l4 ?c4 ?k4 ?a5 ?l5 ?c5 ?k5 ?a6 ?l6 ?c6 ?k6 ?a7 ?l7 ?c7 ?k7 ?a8 ?l8 ?c8 ?k8 ?a9 ?l9 ?c9 ?k9 ?a10 ?l10 ?c10 ?k10 ?a11 ?l11 ?c11 ?k11 ?a12 ?l12 ?c12 ?k12 ?a13 ?l13 ?c13 ?k13 ?a14 ?l14 ?c14 ?k14 ?a15 ?l15 ?c15 ?k15 ?cst0 ?cst1 ?bz0 ?bz1 ?bz2 ?bz3 ?bz4 ?bz5 ?bz6 ?bz7 ?bz8 ?bz9 ?bz10 ?bz11 ?bz12 ?bz13
    (case a0 => k_is)
    (case l0 => k_is)
    (case c0 => k_is)
    (case k0 => k_is)
    (case a1 => k_is)
    (case l1 => k_is)
    (case c1 => k_is)
    (case k1 => k_is)
    (case a2 => k_is)
    (case l2 => k_is)
    (case c2 => k_is)
    (case k2 => k_is)
    (case a3 => k_is)
    (case l3 => k_is)
    (case c3 => k_is)
    (case k3 => k_is)
    (case a4 => k_is)
    (case l4 => k_is)
    (case c4 => k_is)
    (case k4 => k_is)
    (case a5 => k_is)
    (case l5 => k_is)
    (case c5 => k_is)
    (case k5 => k_is)
    (case a6 => k_is)
    (case l6 => k_is)
    (case c6 => k_is)
    (case k6 => k_is)
    (case a7 => k_is)
    (case l7 => k_is)
    (case c7 => k_is)
    (case k7 => k_is)
    (case a8 => k_is)
    (case l8 => k_is)
    (case c8 => k_is)
    (case k8 => k_is)
    (case a9 => k_is)
    (case l9 => k_is)
    (case c9 => k_is)
    (case k9 => k_is)
    (case a10 => k_is)
    (case l10 => k_is)
    (case c10 => k_is)
    (case k10 => k_is)
    (case a11 => k_is)
    (case l11 => k_is)
    (case c11 => k_is)
    (case k11 => k_is)
    (case a12 => k_is)
    (case l12 => k_is)
    (case c12 => k_is)
    (case k12 => k_is)
    (case a13 => k_is)
    (case l13 => k_is)
    (case c13 => k_is)
    (case k13 => k_is)
    (case a14 => k_is)
    (case l14 => k_is)
    (case c14 => k_is)
    (case k14 => k_is)
    (case a15 => k_is)
    (case l15 => k_is)
    (case c15 => k_is)
    (case k15 => k_is)
    (case cst0 => k_is)
    (case cst1 => k_is)
    (case bz0 => k_is)
    (case bz1 => k_is)
    (case bz2 => k_is)
    (case bz3 => k_is)
    (case bz4 => k_is)
    (case bz5 => k_is)
    (case bz6 => k_is)
    (case bz7 => k_is)
    (case bz8 => k_is)
    (case bz9 => k_is)
    (case bz10 => k_is)
    (case bz11 => k_is)
    (case bz12 => k_is)
    (case bz13 => k_is)
