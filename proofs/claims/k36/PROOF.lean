import PyProof.Rows.All
import Wide.All
import OpenK.AllK
import Wide.FinOn
import HandS.ForMost
import HandS.IsInst
import HandS.Zip
import HandS.TupAny
import HandS.Wide
import HandS.More
import HandS.Walk
import HandS.RaiseMore
import HandS.Flow
import HandS.Conv
import HandS.MakeKwOnly
import KE.DataMinMax
import HandS.Small
import HandS.Text
import HandS.Strs
import HandS.Codes
import HandS.ExcInit
import HandS.ExcField
import HandS.ExcIs
import HandS.ExcOwn
import HandS.ExcValue
import KE.KExcIs
import HandS.DictComp
import HandS.SetBool
import HandS.SetFor
import KE.GoesMore
import HandS.Dict
import PyProof.NeData
import HandS.TupLe
import HandS.Defaults
import HandS.Style
import PySem.Challenge.RW_overlapcode_k36_called_by_names
set_option Elab.async false
set_option linter.all false
set_option maxRecDepth 100000
set_option maxHeartbeats 4000000
/-! Sums of lengths: the mathematics -/
namespace Ov
/-- a sum of the lengths -/
inductive Sum (ls : List Nat) : Nat → Prop
  | zero : Sum ls 0
  | add {l s : Nat} : l ∈ ls → Sum ls s → Sum ls (s + l)

theorem Sum.mono {ls ks : List Nat} (h : ∀ l ∈ ls, l ∈ ks) {s : Nat} (a : Sum ls s) : Sum ks s := by
  induction a with
  | zero => exact .zero
  | add hl _ ih => exact .add (h _ hl) ih

theorem Sum.plus {ls : List Nat} {s t : Nat} (a : Sum ls s) (b : Sum ls t) : Sum ls (s + t) := by
  induction b with
  | zero => exact a
  | add hl _ ih => rw [← Nat.add_assoc]; exact .add hl ih

theorem Sum.times {ls : List Nat} {l : Nat} (h : l ∈ ls) : ∀ (j : Nat), Sum ls (j * l)
  | 0 => by rw [Nat.zero_mul]; exact .zero
  | j + 1 => by rw [Nat.succ_mul]; exact .add h (Sum.times h j)

theorem Sum.step {ls : List Nat} {w : Nat} : Sum ls w ↔ w = 0 ∨ ∃ l ∈ ls, l ≤ w ∧ Sum ls (w - l) := by
  constructor
  · intro a
    cases a with
    | zero => exact .inl rfl
    | @add l s hl hs => exact .inr ⟨l, hl, Nat.le_add_left _ _, by rw [Nat.add_sub_cancel]; exact hs⟩
  · rintro (rfl | ⟨l, hl, hw, hs⟩)
    · exact .zero
    · have := Sum.add hl hs
      rwa [Nat.sub_add_cancel hw] at this

/-- one more length: a sum of the others and so many of it -/
theorem Sum.snoc {ls : List Nat} {L s : Nat} : Sum (ls ++ [L]) s ↔ ∃ j t, Sum ls t ∧ s = t + j * L := by
  constructor
  · intro a
    induction a with
    | zero => exact ⟨0, 0, .zero, by simp⟩
    | @add l s hl _ ih =>
      obtain ⟨j, t, ht, rfl⟩ := ih
      rcases List.mem_append.mp hl with h | h
      · exact ⟨j, t + l, .add h ht, by omega⟩
      · have : l = L := by simpa using h
        subst this
        exact ⟨j + 1, t, ht, by rw [Nat.succ_mul]; omega⟩
  · rintro ⟨j, t, ht, rfl⟩
    exact (ht.mono fun l h => List.mem_append_left _ h).plus (Sum.times (List.mem_append_right _ (List.mem_singleton.mpr rfl)) j)

theorem Sum.single {m s : Nat} : Sum [m] s ↔ ∃ j, s = j * m := by
  have := @Sum.snoc [] m s
  rw [List.nil_append] at this
  rw [this]
  constructor
  · rintro ⟨j, t, ht, rfl⟩
    have : t = 0 := by
      cases ht with
      | zero => rfl
      | add h _ => cases h
    exact ⟨j, by omega⟩
  · rintro ⟨j, rfl⟩
    exact ⟨j, 0, .zero, by omega⟩

/-! ### least sums by remainder -/
/-- a is at most b, where none is above all -/
def leO (a b : Option Nat) : Prop := ∀ y, b = some y → ∃ x, a = some x ∧ x ≤ y
theorem leO.rfl {a : Option Nat} : leO a a := fun y h => ⟨y, h, Nat.le_refl _⟩
theorem leO.trans {a b c : Option Nat} (h : leO a b) (k : leO b c) : leO a c := fun z hz => by
  obtain ⟨y, hy, hyz⟩ := k z hz
  obtain ⟨x, hx, hxy⟩ := h y hy
  exact ⟨x, hx, Nat.le_trans hxy hyz⟩
def leL (a b : List (Option Nat)) : Prop := a.length = b.length ∧ ∀ r, leO (a.getD r none) (b.getD r none)
theorem leL.rfl {a : List (Option Nat)} : leL a a := ⟨_root_.rfl, fun _ => leO.rfl⟩
theorem leL.trans {a b c : List (Option Nat)} (h : leL a b) (k : leL b c) : leL a c := ⟨h.1.trans k.1, fun r => (h.2 r).trans (k.2 r)⟩

/-- one step of the walk: what is reached at r, and the length, at the remainder that follows -/
def relax (L r f : Nat) (a : List (Option Nat)) : List (Option Nat) :=
  match a.getD r none with
  | none => a
  | some x => match a.getD f none with
    | none => a.set f (some (x + L))
    | some y => if x + L < y then a.set f (some (x + L)) else a

theorem getD_set {α : Type} (a : List α) (f r : Nat) (v d : α) : (a.set f v).getD r d = if f = r ∧ r < a.length then v else a.getD r d := by
  simp only [List.getD_eq_getElem?_getD, List.getElem?_set]
  by_cases h : f = r
  · subst h
    by_cases h2 : f < a.length
    · simp [h2]
    · simp [h2, List.getElem?_eq_none (Nat.le_of_not_lt h2)]
  · simp [h]

theorem relax_len (L r f : Nat) (a : List (Option Nat)) : (relax L r f a).length = a.length := by
  unfold relax
  split
  · rfl
  · split
    · simp
    · split <;> simp

theorem relax_le (L r f : Nat) (a : List (Option Nat)) : leL (relax L r f a) a := by
  refine ⟨relax_len .., fun q => ?_⟩
  unfold relax
  split
  · exact leO.rfl
  · rename_i x _
    split
    · rename_i hf
      rw [getD_set]
      by_cases c : f = q ∧ q < a.length
      · rw [if_pos c, ← c.1, hf]
        intro y h; cases h
      · rw [if_neg c]; exact leO.rfl
    · rename_i y hf
      split
      · rename_i hlt
        rw [getD_set]
        by_cases c : f = q ∧ q < a.length
        · rw [if_pos c, ← c.1, hf]
          intro z h
          cases h
          exact ⟨_, rfl, Nat.le_of_lt hlt⟩
        · rw [if_neg c]; exact leO.rfl
      · exact leO.rfl

theorem relax_at (L r f : Nat) (a : List (Option Nat)) (hf : f < a.length) : leO ((relax L r f a).getD f none) ((a.getD r none).map (· + L)) := by
  unfold relax
  split
  · rename_i h
    rw [h]
    intro y h; cases h
  · rename_i x h
    rw [h]
    split
    · rw [getD_set, if_pos ⟨rfl, hf⟩]
      exact leO.rfl
    · rename_i y hy
      split
      · rw [getD_set, if_pos ⟨rfl, hf⟩]
        exact leO.rfl
      · rename_i hn
        rw [hy]
        intro z hz
        have : x + L = z := Option.some.inj hz
        exact ⟨y, rfl, by omega⟩

/-- every entry is of S and has its remainder -/
def Sound (S : Nat → Prop) (m : Nat) (a : List (Option Nat)) : Prop := ∀ r x, a.getD r none = some x → S x ∧ x % m = r

theorem relax_sound {S : Nat → Prop} {m L r : Nat} {a : List (Option Nat)} (hS : ∀ x, S x → S (x + L)) (h : Sound S m a) : Sound S m (relax L r ((r + L) % m) a) := by
  have key : ∀ x, a.getD r none = some x → S (x + L) ∧ (x + L) % m = (r + L) % m := fun x hx => by
    obtain ⟨h1, h2⟩ := h r x hx
    refine ⟨hS x h1, ?_⟩
    rw [← h2, Nat.add_mod (x % m), Nat.mod_mod, ← Nat.add_mod]
  intro q z hz
  unfold relax at hz
  split at hz
  · exact h q z hz
  · rename_i x hx
    obtain ⟨k1, k2⟩ := key x hx
    split at hz
    · rw [getD_set] at hz
      by_cases c : (r + L) % m = q ∧ q < a.length
      · rw [if_pos c] at hz
        cases hz
        exact ⟨k1, k2.trans c.1⟩
      · rw [if_neg c] at hz; exact h q z hz
    · split at hz
      · rw [getD_set] at hz
        by_cases c : (r + L) % m = q ∧ q < a.length
        · rw [if_pos c] at hz
          cases hz
          exact ⟨k1, k2.trans c.1⟩
        · rw [if_neg c] at hz; exact h q z hz
      · exact h q z hz

/-- so many steps from r on: the list, and where the walk stands -/
def steps (L m : Nat) : Nat → Nat → List (Option Nat) → List (Option Nat) × Nat
  | 0, r, a => (a, r)
  | t + 1, r, a => let q := steps L m t r a; (relax L q.2 ((q.2 + L) % m) q.1, (q.2 + L) % m)

theorem steps_at (L m : Nat) (r : Nat) (a : List (Option Nat)) (hr : r < m) : ∀ t, (steps L m t r a).2 = (r + t * L) % m
  | 0 => by simp [steps, Nat.mod_eq_of_lt hr]
  | t + 1 => by
    show ((steps L m t r a).2 + L) % m = _
    rw [steps_at L m r a hr t, Nat.add_mod ((r + t * L) % m), Nat.mod_mod, ← Nat.add_mod, Nat.succ_mul, Nat.add_assoc]

theorem steps_le (L m : Nat) (r : Nat) (a : List (Option Nat)) : ∀ t, leL (steps L m t r a).1 a
  | 0 => leL.rfl
  | t + 1 => (relax_le ..).trans (steps_le L m r a t)

theorem steps_le' (L m : Nat) (r : Nat) (a : List (Option Nat)) (t : Nat) : ∀ d, leL (steps L m (t + d) r a).1 (steps L m t r a).1
  | 0 => leL.rfl
  | d + 1 => (relax_le ..).trans (steps_le' L m r a t d)

theorem steps_sound {S : Nat → Prop} {m L : Nat} {r : Nat} {a : List (Option Nat)} (hS : ∀ x, S x → S (x + L)) (h : Sound S m a) : ∀ t, Sound S m (steps L m t r a).1
  | 0 => h
  | t + 1 => relax_sound hS (steps_sound hS h t)

/-- what stands at the p-th place goes j steps on -/
theorem steps_far {L m : Nat} {r : Nat} {a : List (Option Nat)} (hm : 0 < m) (hl : a.length = m) (hr : r < m) (p : Nat) {y : Nat} (hy : a.getD ((r + p * L) % m) none = some y) :
    ∀ j, ∃ x, ((steps L m (p + j) r a).1).getD ((r + (p + j) * L) % m) none = some x ∧ x ≤ y + j * L
  | 0 => by
    obtain ⟨x, hx, hxy⟩ := (steps_le L m r a p).2 _ y hy
    exact ⟨x, hx, by omega⟩
  | j + 1 => by
    obtain ⟨x, hx, hxy⟩ := steps_far hm hl hr p hy j
    have hp := steps_at L m r a hr (p + j)
    have hlen : (steps L m (p + j) r a).1.length = m := (steps_le L m r a (p + j)).1.trans hl
    have e : (r + (p + (j + 1)) * L) % m = ((steps L m (p + j) r a).2 + L) % m := by
      rw [hp, Nat.add_mod ((r + (p + j) * L) % m), Nat.mod_mod, ← Nat.add_mod, ← Nat.add_assoc p j 1, Nat.succ_mul, Nat.add_assoc]
    rw [e]
    show ∃ x', (relax L (steps L m (p + j) r a).2 (((steps L m (p + j) r a).2 + L) % m) (steps L m (p + j) r a).1).getD _ none = some x' ∧ _
    have := relax_at L (steps L m (p + j) r a).2 (((steps L m (p + j) r a).2 + L) % m) (steps L m (p + j) r a).1 (by rw [hlen]; exact Nat.mod_lt _ hm)
    obtain ⟨x', hx', h2⟩ := this (x + L) (by rw [hp, hx]; rfl)
    exact ⟨x', hx', by rw [Nat.succ_mul]; omega⟩

/-! ### Bezout -/
theorem bezout (a b : Nat) : ∃ x y : Int, x * a + y * b = (Nat.gcd a b : Int) := by
  induction a, b using Nat.gcd.induction with
  | H0 n => exact ⟨0, 1, by simp⟩
  | H1 m n hm ih =>
    obtain ⟨x, y, h⟩ := ih
    refine ⟨y - x * ((n / m : Nat) : Int), x, ?_⟩
    rw [Nat.gcd_rec m n, ← h]
    have e : (n : Int) = (m : Int) * ((n / m : Nat) : Int) + ((n % m : Nat) : Int) := by
      have := Nat.div_add_mod n m
      exact_mod_cast this.symm
    conv => lhs; rw [e]
    rw [Int.sub_mul, Int.mul_add, Int.mul_assoc x, Int.mul_comm (m : Int) ((n / m : Nat) : Int)]
    omega

theorem bezout_mod (m L : Nat) (hm : 0 < m) : ∃ u : Nat, (u * L) % m = Nat.gcd m L % m := by
  obtain ⟨x, y, h⟩ := bezout m L
  refine ⟨(y % m).toNat, ?_⟩
  have hm' : (m : Int) ≠ 0 := by omega
  have hy : 0 ≤ y % (m : Int) := Int.emod_nonneg _ hm'
  have e : ((((y % (m : Int)).toNat * L : Nat) : Int)) % (m : Int) = ((Nat.gcd m L : Nat) : Int) % (m : Int) := by
    rw [Int.natCast_mul, Int.toNat_of_nonneg hy, ← h, Int.mul_emod, Int.emod_emod_of_dvd _ (Int.dvd_refl _), ← Int.mul_emod, Int.add_comm, Int.add_mul_emod_self_right]
  exact_mod_cast e

/-- from the class of r the walk comes by r -/
theorem comes_by (m L r : Nat) (hm : 0 < m) (hr : r < m) : ∃ p, p < m / Nat.gcd m L ∧ (r % Nat.gcd m L + p * L) % m = r := by
  obtain ⟨u, hu⟩ := bezout_mod m L hm
  have hg : 0 < Nat.gcd m L := Nat.gcd_pos_of_pos_left _ hm
  obtain ⟨c, hc⟩ := Nat.gcd_dvd_left m L
  obtain ⟨k, hk⟩ := Nat.gcd_dvd_right m L
  generalize hgg : Nat.gcd m L = g at *
  have hcd : m / g = c := by rw [hc]; exact Nat.mul_div_cancel_left _ hg
  have hcpos : 0 < c := by
    rcases Nat.eq_zero_or_pos c with h | h
    · rw [h] at hc; omega
    · exact h
  refine ⟨(u * (r / g)) % c, by rw [hcd]; exact Nat.mod_lt _ hcpos, ?_⟩
  -- ((u (r/g)) % c) L ≡ u (r/g) L
  have e1 : ((u * (r / g)) % c * L) % m = (u * (r / g) * L) % m := by
    have d := Nat.div_add_mod (u * (r / g)) c
    have : u * (r / g) * L = (u * (r / g)) % c * L + m * ((u * (r / g)) / c * k) := by
      calc u * (r / g) * L = (c * (u * (r / g) / c) + u * (r / g) % c) * L := by rw [d]
        _ = (u * (r / g)) % c * L + c * (u * (r / g) / c) * L := by rw [Nat.add_mul, Nat.add_comm]
        _ = (u * (r / g)) % c * L + m * ((u * (r / g)) / c * k) := by
          congr 1
          conv => lhs; rw [hk]
          conv => rhs; rw [hc]
          simp only [Nat.mul_comm, Nat.mul_left_comm]
    rw [this, Nat.add_mul_mod_self_left]
  have e2 : (u * (r / g) * L) % m = (g * (r / g)) % m := by
    rw [Nat.mul_right_comm, Nat.mul_mod, hu, ← Nat.mul_mod]
  rw [Nat.add_mod, e1, e2, ← Nat.add_mod, Nat.mod_add_div, Nat.mod_eq_of_lt hr]
end Ov
namespace Ov
/-- the walks from the first k places, one behind another -/
def walks (L m T : Nat) : Nat → List (Option Nat) → List (Option Nat)
  | 0, a => a
  | k + 1, a => (steps L m T k (walks L m T k a)).1
def withLen (L : Nat) (a : List (Option Nat)) : List (Option Nat) :=
  walks L a.length (2 * (a.length / Nat.gcd a.length L)) (Nat.gcd a.length L) a

theorem walks_le (L m T : Nat) (a : List (Option Nat)) : ∀ k, leL (walks L m T k a) a
  | 0 => leL.rfl
  | k + 1 => (steps_le ..).trans (walks_le L m T a k)
theorem walks_le' (L m T : Nat) (a : List (Option Nat)) (k : Nat) : ∀ d, leL (walks L m T (k + d) a) (walks L m T k a)
  | 0 => leL.rfl
  | d + 1 => (steps_le ..).trans (walks_le' L m T a k d)
theorem walks_sound {S : Nat → Prop} {m L T : Nat} {a : List (Option Nat)} (hS : ∀ x, S x → S (x + L)) (h : Sound S m a) : ∀ k, Sound S m (walks L m T k a)
  | 0 => h
  | k + 1 => steps_sound hS (walks_sound hS h k) T

theorem withLen_len (L : Nat) (a : List (Option Nat)) : (withLen L a).length = a.length := (walks_le ..).1

/-- what stands at r goes j steps on, j less than a whole round -/
theorem withLen_far {L : Nat} {a : List (Option Nat)} (hm : 0 < a.length) {r y j : Nat} (hr : r < a.length) (hy : a.getD r none = some y) (hj : j < a.length / Nat.gcd a.length L) :
    ∃ x, (withLen L a).getD ((r + j * L) % a.length) none = some x ∧ x ≤ y + j * L := by
  obtain ⟨p, hp, e⟩ := comes_by a.length L r hm hr
  have hg : 0 < Nat.gcd a.length L := Nat.gcd_pos_of_pos_left _ hm
  unfold withLen
  generalize hT : 2 * (a.length / Nat.gcd a.length L) = T
  have hk : r % Nat.gcd a.length L < Nat.gcd a.length L := Nat.mod_lt _ hg
  generalize hk0 : r % Nat.gcd a.length L = k at *
  obtain ⟨d, hd⟩ : ∃ d, Nat.gcd a.length L = (k + 1) + d := ⟨Nat.gcd a.length L - (k + 1), by omega⟩
  have hkm : k < a.length := Nat.lt_of_lt_of_le hk (Nat.le_of_dvd hm (Nat.gcd_dvd_left _ _))
  have hb : (walks L a.length T k a).length = a.length := (walks_le ..).1
  obtain ⟨y', hy', hle⟩ := (walks_le L a.length T a k).2 r y hy
  obtain ⟨x, hx, hxy⟩ := steps_far (L := L) (m := a.length) (r := k) (a := walks L a.length T k a) hm hb hkm p (y := y') (by rw [e]; exact hy') j
  have ej : (k + (p + j) * L) % a.length = (r + j * L) % a.length := by
    rw [Nat.add_mul, ← Nat.add_assoc, Nat.add_mod, e]
    conv => rhs; rw [Nat.add_mod, Nat.mod_eq_of_lt hr]
  rw [ej] at hx
  have l1 := steps_le' L a.length k (walks L a.length T k a) (p + j) (T - (p + j))
  rw [show p + j + (T - (p + j)) = T by omega] at l1
  have l2 := walks_le' L a.length T a (k + 1) d
  rw [← hd] at l2
  obtain ⟨x2, h2, h2'⟩ := (l2.trans l1).2 _ x hx
  exact ⟨x2, h2, by omega⟩

/-- a list tells the least members of S by their remainders -/
structure Rep (S : Nat → Prop) (a : List (Option Nat)) : Prop where
  pos : 0 < a.length
  sound : Sound S a.length a
  least : ∀ s, S s → ∃ x, a.getD (s % a.length) none = some x ∧ x ≤ s

theorem Rep.one {m : Nat} (hm : 0 < m) : Rep (Sum [m]) (some 0 :: List.replicate (m - 1) none) := by
  have hl : (some 0 :: List.replicate (m - 1) (none : Option Nat)).length = m := by simp; omega
  refine ⟨by simp, fun r x h => ?_, fun s hs => ?_⟩
  · rw [hl]
    cases r with
    | zero =>
      have : some 0 = some x := h
      cases this
      exact ⟨.zero, Nat.zero_mod _⟩
    | succ r =>
      exfalso
      rw [List.getD_eq_getElem?_getD, List.getElem?_cons_succ, List.getElem?_replicate] at h
      split at h <;> simp at h
  · obtain ⟨j, rfl⟩ := Sum.single.mp hs
    rw [hl, Nat.mul_mod_left]
    exact ⟨0, rfl, Nat.zero_le _⟩

theorem Rep.more {ls : List Nat} {L m : Nat} {a : List (Option Nat)} (h : Rep (Sum ls) a) (hm : a.length = m) (hin : m ∈ ls) : Rep (Sum (ls ++ [L])) (withLen L a) := by
  have hl := withLen_len L a
  have hp := h.pos
  refine ⟨by rw [hl]; exact hp, ?_, fun s hs => ?_⟩
  · rw [hl]
    refine walks_sound (fun x hx => .add (List.mem_append_right _ (List.mem_singleton.mpr rfl)) hx) (fun r x e => ?_) _
    obtain ⟨h1, h2⟩ := h.sound r x e
    exact ⟨h1.mono fun l hl => List.mem_append_left _ hl, h2⟩
  · rw [hl]
    obtain ⟨j, t, ht, rfl⟩ := Sum.snoc.mp hs
    -- less than a whole round of L's
    have hg : 0 < Nat.gcd a.length L := Nat.gcd_pos_of_pos_left _ hp
    obtain ⟨c, hc⟩ := Nat.gcd_dvd_left a.length L
    obtain ⟨k, hk⟩ := Nat.gcd_dvd_right a.length L
    have hcd : a.length / Nat.gcd a.length L = c := by
      generalize Nat.gcd a.length L = g at *
      rw [hc]
      exact Nat.mul_div_cancel_left _ hg
    have hcpos : 0 < c := by
      rcases Nat.eq_zero_or_pos c with h | h
      · rw [h] at hc; omega
      · exact h
    have ecL : c * L = k * a.length := by
      generalize Nat.gcd a.length L = g at *
      rw [hk, hc]
      simp only [Nat.mul_comm, Nat.mul_left_comm]
    have e : t + j * L = (t + (j / c * k) * a.length) + (j % c) * L := by
      have d := Nat.div_add_mod j c
      calc t + j * L = t + (c * (j / c) + j % c) * L := by rw [d]
        _ = t + (j / c * (c * L) + j % c * L) := by
          rw [Nat.add_mul]; congr 2; rw [Nat.mul_comm c, Nat.mul_assoc]
        _ = _ := by rw [ecL]; rw [Nat.mul_assoc]; omega
    have ht' : Sum ls (t + (j / c * k) * a.length) := ht.plus (by rw [hm]; exact Sum.times hin _)
    obtain ⟨y, hy, hyt⟩ := h.least _ ht'
    obtain ⟨x, hx, hxy⟩ := withLen_far (L := L) hp (Nat.mod_lt _ hp) hy (j := j % c) (by rw [hcd]; exact Nat.mod_lt _ hcpos)
    refine ⟨x, ?_, by rw [e]; omega⟩
    rw [e]
    rw [Nat.add_mod, Nat.mod_mod, ← Nat.add_mod] at hx
    exact hx

/-- the least sums of lengths -/
def leasts : List Nat → List (Option Nat)
  | [] => []
  | m :: ls => ls.foldl (fun a L => withLen L a) (some 0 :: List.replicate (m - 1) none)

theorem fold_rep : ∀ (ls pre : List Nat) (a : List (Option Nat)) (m : Nat), Rep (Sum pre) a → a.length = m → m ∈ pre → Rep (Sum (pre ++ ls)) (ls.foldl (fun a L => withLen L a) a) ∧ (ls.foldl (fun a L => withLen L a) a).length = m
  | [], pre, a, m, h, hm, _ => by simpa using ⟨h, hm⟩
  | L :: ls, pre, a, m, h, hm, hin => by
    have := fold_rep ls (pre ++ [L]) (withLen L a) m (h.more hm hin) ((withLen_len L a).trans hm) (List.mem_append_left _ hin)
    rw [List.append_assoc] at this
    exact this

theorem leasts_rep {m : Nat} (hm : 0 < m) (ls : List Nat) : Rep (Sum (m :: ls)) (leasts (m :: ls)) ∧ (leasts (m :: ls)).length = m :=
  fold_rep ls [m] _ m (Rep.one hm) (by simp; omega) (List.mem_singleton.mpr rfl)

/-- whether a total is a sum, by the least sums -/
def reached (a : List (Option Nat)) (t : Nat) : Bool :=
  if a.length = 0 then t == 0 else match a.getD (t % a.length) none with
    | none => false
    | some x => decide (x ≤ t)

theorem Rep.iff {S : Nat → Prop} {a : List (Option Nat)} (h : Rep S a) (hc : ∀ x, S x → S (x + a.length)) (t : Nat) : reached a t = true ↔ S t := by
  unfold reached
  rw [if_neg (by have := h.pos; omega)]
  have many : ∀ (k x : Nat), S x → S (x + k * a.length) := by
    intro k
    induction k with
    | zero => intro x hx; simpa using hx
    | succ k ih => intro x hx; rw [Nat.succ_mul, ← Nat.add_assoc]; exact hc _ (ih x hx)
  constructor
  · intro e
    split at e
    · cases e
    · rename_i x hx
      obtain ⟨h1, h2⟩ := h.sound _ x hx
      have hle : x ≤ t := of_decide_eq_true e
      have : t = x + (t / a.length - x / a.length) * a.length := by
        have d1 := Nat.div_add_mod t a.length
        have d2 := Nat.div_add_mod x a.length
        rw [h2] at d2
        have hd : x / a.length ≤ t / a.length := Nat.div_le_div_right hle
        rw [Nat.sub_mul, Nat.mul_comm (t / a.length), Nat.mul_comm (x / a.length)]
        have : a.length * (x / a.length) ≤ a.length * (t / a.length) := Nat.mul_le_mul_left _ hd
        omega
      rw [this]
      exact many _ _ h1
  · intro hs
    obtain ⟨x, hx, hxt⟩ := h.least t hs
    rw [hx]
    exact decide_eq_true hxt

theorem isSum_iff (ls : List Nat) (hpos : ∀ l ∈ ls, 0 < l) (t : Nat) : reached (leasts ls) t = true ↔ Sum ls t := by
  cases ls with
  | nil =>
    show (t == 0) = true ↔ _
    constructor
    · intro h
      have : t = 0 := by simpa using h
      rw [this]; exact .zero
    · intro h
      cases h with
      | zero => rfl
      | add h _ => cases h
  | cons m ls =>
    have hm : 0 < m := hpos m List.mem_cons_self
    obtain ⟨h, hl⟩ := leasts_rep hm ls
    exact h.iff (fun x hx => by rw [hl]; exact .add List.mem_cons_self hx) t
end Ov
/-! Least sums: how great they are, and how they are found one by one; the greatest common divisor -/
namespace Ov
theorem countP_le {α : Type} {p q : α → Bool} : ∀ {l : List α}, (∀ x ∈ l, p x = true → q x = true) → l.countP p ≤ l.countP q
  | [], _ => Nat.le_refl _
  | x :: l, h => by
    have ih := countP_le (l := l) fun y hy => h y (List.mem_cons_of_mem _ hy)
    have hx := h x List.mem_cons_self
    rw [List.countP_cons, List.countP_cons]
    cases hp : p x
    · simp only [Bool.false_eq_true, if_false]
      omega
    · rw [hx hp]; omega
theorem countP_lt {α : Type} {p q : α → Bool} : ∀ {l : List α} (x : α), x ∈ l → p x = false → q x = true → (∀ x ∈ l, p x = true → q x = true) → l.countP p < l.countP q
  | [], _, hx, _, _, _ => by cases hx
  | y :: l, x, hx, h1, h2, h => by
    rw [List.countP_cons, List.countP_cons]
    have hy := h y List.mem_cons_self
    rcases List.mem_cons.mp hx with e | hx
    · subst e
      have ih := countP_le (l := l) fun y hy => h y (List.mem_cons_of_mem _ hy)
      rw [h1, h2]
      simp only [Bool.false_eq_true, if_false, if_true]
      omega
    · have ih := countP_lt x hx h1 h2 fun y hy => h y (List.mem_cons_of_mem _ hy)
      cases hp : p y
      · simp only [Bool.false_eq_true, if_false]
        omega
      · rw [hy hp]; omega
/-- an entry below x -/
def below (x : Nat) : Option Nat → Bool
  | some y => decide (y < x)
  | none => false
theorem mem_of_getD {a : List (Option Nat)} {r x : Nat} (h : a.getD r none = some x) : some x ∈ a := by
  rw [List.getD_eq_getElem?_getD] at h
  cases e : a[r]? with
  | none => rw [e] at h; cases h
  | some o =>
    rw [e] at h
    have : o = some x := h
    rw [← this]
    exact List.mem_of_getElem? e
theorem rank_bound {ls : List Nat} {a : List (Option Nat)} (h : Rep (Sum ls) a) {M : Nat} (hM : ∀ l ∈ ls, 0 < l ∧ l ≤ M) : ∀ (x r : Nat), a.getD r none = some x → x ≤ a.countP (below x) * M := by
  intro x
  induction x using Nat.strongRecOn with
  | ind x ih =>
    intro r hr
    rcases Nat.eq_zero_or_pos x with h0 | h0
    · omega
    obtain ⟨sx, rx⟩ := h.sound r x hr
    rcases Sum.step.mp sx with h1 | ⟨l, hl, hlx, sy⟩
    · omega
    obtain ⟨l0, lM⟩ := hM l hl
    obtain ⟨z, hz, hzy⟩ := h.least _ sy
    obtain ⟨sz, rz⟩ := h.sound _ z hz
    have ezy : z = x - l := by
      rcases Nat.lt_or_ge z (x - l) with c | c
      · exfalso
        obtain ⟨x', hx', hle⟩ := h.least (z + l) (.add hl sz)
        have em : (z + l) % a.length = r := by
          rw [Nat.add_mod, rz, ← Nat.add_mod, Nat.sub_add_cancel hlx, rx]
        rw [em, hr] at hx'
        have : x = x' := Option.some.inj hx'
        omega
      · omega
    subst ezy
    have hy := ih (x - l) (by omega) _ hz
    have hlt : a.countP (below (x - l)) < a.countP (below x) := by
      refine countP_lt (some (x - l)) (mem_of_getD hz) ?_ ?_ ?_
      · exact decide_eq_false (Nat.lt_irrefl _)
      · exact decide_eq_true (by omega)
      · intro o _ ho
        cases o with
        | none => cases ho
        | some y =>
          have := of_decide_eq_true ho
          exact decide_eq_true (by omega)
    have := Nat.mul_le_mul_right M (Nat.succ_le_of_lt hlt)
    rw [Nat.succ_mul] at this
    omega
theorem least_le {ls : List Nat} {a : List (Option Nat)} (h : Rep (Sum ls) a) {M : Nat} (hM : ∀ l ∈ ls, 0 < l ∧ l ≤ M) {x r : Nat} (hr : a.getD r none = some x) : x ≤ (a.length - 1) * M := by
  have h1 := rank_bound h hM x r hr
  have h2 : a.countP (below x) < a.length := by
    have : a.countP (below x) < a.countP (fun _ => true) := countP_lt (some x) (mem_of_getD hr) (decide_eq_false (Nat.lt_irrefl _)) rfl fun _ _ _ => rfl
    rwa [List.countP_true] at this
  exact Nat.le_trans h1 (Nat.mul_le_mul_right M (by omega))
/-! ### found one by one -/
def cutO (i : Nat) : Option Nat → Option Nat
  | some x => if x < i then some x else none
  | none => none
theorem cutO_lt {i x : Nat} (h : x < i) : cutO i (some x) = some x := if_pos h
theorem cutO_ge {i x : Nat} (h : ¬ x < i) : cutO i (some x) = none := if_neg h
def seen (i : Nat) (a : List (Option Nat)) : List (Option Nat) := a.map (cutO i)
theorem seen_len (i : Nat) (a : List (Option Nat)) : (seen i a).length = a.length := List.length_map ..
theorem seen_zero (a : List (Option Nat)) : seen 0 a = List.replicate a.length none := by
  unfold seen
  rw [List.eq_replicate_iff]
  refine ⟨List.length_map .., fun o ho => ?_⟩
  obtain ⟨x, _, rfl⟩ := List.mem_map.mp ho
  cases x with
  | none => rfl
  | some x => exact cutO_ge (Nat.not_lt_zero _)
theorem seen_at (i : Nat) (a : List (Option Nat)) (r : Nat) : (seen i a).getD r none = cutO i (a.getD r none) := by
  unfold seen
  rw [List.getD_eq_getElem?_getD, List.getD_eq_getElem?_getD, List.getElem?_map]
  cases a[r]? <;> rfl
theorem ext_getD {a b : List (Option Nat)} (hl : a.length = b.length) (h : ∀ r, r < a.length → a.getD r none = b.getD r none) : a = b := by
  refine List.ext_getElem hl fun i h1 h2 => ?_
  have := h i h1
  rw [List.getD_eq_getElem?_getD, List.getD_eq_getElem?_getD, List.getElem?_eq_getElem h1, List.getElem?_eq_getElem h2] at this
  exact this
theorem seen_set {S : Nat → Prop} {a : List (Option Nat)} (h : Rep S a) {i : Nat} (hs : S i) (hn : (seen i a).getD (i % a.length) none = none) : (seen i a).set (i % a.length) (some i) = seen (i + 1) a := by
  obtain ⟨x, hx, hxi⟩ := h.least i hs
  rw [seen_at, hx] at hn
  have ex : x = i := by
    by_cases c : x < i
    · rw [cutO_lt c] at hn; cases hn
    · omega
  subst ex
  refine ext_getD (by rw [List.length_set, seen_len, seen_len]) fun r hr => ?_
  rw [List.length_set, seen_len] at hr
  rw [getD_set, seen_at, seen_at, seen_len]
  by_cases c : x % a.length = r
  · subst c
    rw [if_pos ⟨rfl, hr⟩, hx]
    exact (cutO_lt (Nat.lt_succ_self _)).symm
  · rw [if_neg fun z => c z.1]
    cases e : a.getD r none with
    | none => rfl
    | some y =>
      have hy := (h.sound r y e).2
      have : y ≠ x := fun z => c (by rw [← z]; exact hy)
      by_cases d : y < x
      · rw [cutO_lt d, cutO_lt (show y < x + 1 by omega)]
      · rw [cutO_ge d, cutO_ge (show ¬ y < x + 1 by omega)]
theorem seen_keep {S : Nat → Prop} {a : List (Option Nat)} (h : Rep S a) {i : Nat} (hn : S i → (seen i a).getD (i % a.length) none ≠ none) : seen i a = seen (i + 1) a := by
  refine ext_getD (by rw [seen_len, seen_len]) fun r hr => ?_
  rw [seen_at, seen_at]
  cases e : a.getD r none with
  | none => rfl
  | some y =>
    obtain ⟨sy, ry⟩ := h.sound r y e
    have : y ≠ i := fun z => by
      subst z
      refine hn sy ?_
      rw [seen_at, ry, e]
      exact cutO_ge (Nat.lt_irrefl _)
    by_cases d : y < i
    · rw [cutO_lt d, cutO_lt (show y < i + 1 by omega)]
    · rw [cutO_ge d, cutO_ge (show ¬ y < i + 1 by omega)]
theorem seen_all {a : List (Option Nat)} {M : Nat} (h : ∀ r x, a.getD r none = some x → x ≤ M) : seen (M + 1) a = a := by
  refine ext_getD (seen_len ..) fun r hr => ?_
  rw [seen_at]
  cases e : a.getD r none with
  | none => rfl
  | some y => exact cutO_lt (Nat.lt_succ_of_le (h r y e))
/-! ### the greatest common divisor -/
def gcdAll (ls : List Nat) : Nat := ls.foldl Nat.gcd 0
theorem foldl_gcd_dvd : ∀ (ls : List Nat) (g : Nat), ls.foldl Nat.gcd g ∣ g ∧ ∀ l ∈ ls, ls.foldl Nat.gcd g ∣ l
  | [], g => ⟨Nat.dvd_refl _, (fun _ h => nomatch h)⟩
  | l :: ls, g => by
    obtain ⟨h1, h2⟩ := foldl_gcd_dvd ls (Nat.gcd g l)
    refine ⟨Nat.dvd_trans h1 (Nat.gcd_dvd_left g l), fun x hx => ?_⟩
    rcases List.mem_cons.mp hx with rfl | hx
    · exact Nat.dvd_trans h1 (Nat.gcd_dvd_right _ _)
    · exact h2 x hx
theorem dvd_foldl_gcd {d : Nat} : ∀ (ls : List Nat) (g : Nat), d ∣ g → (∀ l ∈ ls, d ∣ l) → d ∣ ls.foldl Nat.gcd g
  | [], g, h, _ => h
  | l :: ls, g, h, k => dvd_foldl_gcd ls (Nat.gcd g l) (Nat.dvd_gcd h (k l List.mem_cons_self)) fun x hx => k x (List.mem_cons_of_mem _ hx)
theorem gcdAll_dvd {ls : List Nat} {l : Nat} (h : l ∈ ls) : gcdAll ls ∣ l := (foldl_gcd_dvd ls 0).2 l h
theorem dvd_gcdAll {ls : List Nat} {d : Nat} (h : ∀ l ∈ ls, d ∣ l) : d ∣ gcdAll ls := dvd_foldl_gcd ls 0 (Nat.dvd_zero d) h
/-- those below n that pass, where the greatest that passes is g -/
theorem filter_top {p : Nat → Bool} {g : Nat} (hg : p g = true) (hno : ∀ i, g < i → p i = false) : ∀ n, g < n → (List.range n).filter p = (List.range g).filter p ++ [g]
  | 0, h => by omega
  | n + 1, h => by
    rw [List.range_succ, List.filter_append]
    by_cases e : g = n
    · subst e
      rw [List.filter_cons, hg]
      rfl
    · rw [filter_top hg hno n (by omega), List.filter_cons, hno n (by omega)]
      simp
end Ov
/-! Conductors and gaps -/
namespace Ov
theorem res_step {all : List Nat} {m : Nat} (hm : 0 < m) : ∀ (rest : List Nat) (g A : Nat), Sum all A → A % m = g % m → (∀ l ∈ rest, l ∈ all) → ∃ B, Sum all B ∧ B % m = (rest.foldl Nat.gcd g) % m
  | [], g, A, hA, e, _ => ⟨A, hA, e⟩
  | l :: rest, g, A, hA, e, hl => by
    obtain ⟨x, y, h⟩ := bezout g l
    have hm' : (m : Int) ≠ 0 := by omega
    have hx : 0 ≤ x % (m : Int) := Int.emod_nonneg _ hm'
    have hy : 0 ≤ y % (m : Int) := Int.emod_nonneg _ hm'
    have many : ∀ (k s : Nat), Sum all s → Sum all (k * s) := fun k s hs => by
      induction k with
      | zero => rw [Nat.zero_mul]; exact .zero
      | succ k ih => rw [Nat.succ_mul]; exact ih.plus hs
    refine res_step hm rest (Nat.gcd g l) ((x % (m : Int)).toNat * A + (y % (m : Int)).toNat * l) ((many _ _ hA).plus (Sum.times (hl l List.mem_cons_self) _)) ?_ fun z hz => hl z (List.mem_cons_of_mem _ hz)
    have e' : (A : Int) % (m : Int) = (g : Int) % (m : Int) := by exact_mod_cast e
    have key : ((((x % (m : Int)).toNat * A + (y % (m : Int)).toNat * l : Nat) : Int)) % (m : Int) = ((Nat.gcd g l : Nat) : Int) % (m : Int) := by
      rw [Int.natCast_add, Int.natCast_mul, Int.natCast_mul, Int.toNat_of_nonneg hx, Int.toNat_of_nonneg hy, ← h]
      rw [Int.add_emod, Int.mul_emod (x % m), Int.emod_emod_of_dvd _ (Int.dvd_refl _), e', ← Int.mul_emod, Int.mul_emod (y % m), Int.emod_emod_of_dvd _ (Int.dvd_refl _), ← Int.mul_emod, ← Int.add_emod]
    exact_mod_cast key
theorem res_all {m : Nat} {rest : List Nat} (hm : 0 < m) (hg : gcdAll (m :: rest) = 1) (r : Nat) : ∃ s, Sum (m :: rest) s ∧ s % m = r % m := by
  have e0 : gcdAll (m :: rest) = rest.foldl Nat.gcd m := by
    unfold gcdAll
    rw [List.foldl_cons, Nat.gcd_zero_left]
  obtain ⟨B, hB, eB⟩ := res_step (all := m :: rest) hm rest m m (by have := Sum.times (ls := m :: rest) (List.mem_cons_self (a := m) (l := rest)) 1; rwa [Nat.one_mul] at this) rfl fun l hl => List.mem_cons_of_mem _ hl
  rw [← e0, hg] at eB
  refine ⟨r * B, ?_, ?_⟩
  · induction r with
    | zero => rw [Nat.zero_mul]; exact .zero
    | succ r ih => rw [Nat.succ_mul]; exact ih.plus hB
  · rw [Nat.mul_mod, eB, ← Nat.mul_mod, Nat.mul_one]
/-- every remainder is reached: the list holds numbers alone -/
theorem rep_full {m : Nat} {rest : List Nat} (hm : 0 < m) (hg : gcdAll (m :: rest) = 1) {a : List (Option Nat)} (h : Rep (Sum (m :: rest)) a) (hl : a.length = m) : ∃ xs : List Nat, a = xs.map some ∧ xs.length = m ∧ ∀ (r : Nat) (hr : r < xs.length), xs[r] % m = r ∧ Sum (m :: rest) xs[r] := by
  have hall : ∀ (r : Nat) (hr : r < a.length), ∃ x, a[r] = some x := fun r hr => by
    obtain ⟨s, hs, e⟩ := res_all hm hg r
    obtain ⟨x, hx, _⟩ := h.least s hs
    rw [hl, e, Nat.mod_eq_of_lt (by omega), List.getD_eq_getElem?_getD, List.getElem?_eq_getElem hr] at hx
    exact ⟨x, hx⟩
  have e : a = (a.map fun o => o.getD 0).map some := by
    refine List.ext_getElem (by simp) fun i h1 h2 => ?_
    obtain ⟨x, hx⟩ := hall i h1
    simp [hx]
  refine ⟨a.map fun o => o.getD 0, e, by rw [List.length_map, hl], fun r hr => ?_⟩
  rw [List.length_map] at hr
  obtain ⟨x, hx⟩ := hall r hr
  obtain ⟨s1, s2⟩ := h.sound r x (by rw [List.getD_eq_getElem?_getD, List.getElem?_eq_getElem hr, hx]; rfl)
  rw [hl] at s2
  have ex : (a.map fun o => o.getD 0)[r]'(by rw [List.length_map]; exact hr) = x := by simp [hx]
  rw [ex]
  exact ⟨s2, s1⟩
theorem sum_iff_le {m : Nat} {rest : List Nat} (hm : 0 < m) {xs : List Nat} (h : Rep (Sum (m :: rest)) (xs.map some)) (hl : xs.length = m) (w : Nat) (hw : w % m < xs.length) : Sum (m :: rest) w ↔ xs[w % m] ≤ w := by
  have := h.iff (fun x hx => by rw [List.length_map, hl]; exact .add List.mem_cons_self hx) w
  rw [← this]
  unfold reached
  rw [List.length_map, hl, if_neg (by omega), List.getD_eq_getElem?_getD, List.getElem?_map, List.getElem?_eq_getElem hw]
  show decide (xs[w % m] ≤ w) = true ↔ _
  exact decide_eq_true_iff
/-! ### the greatest -/
theorem foldl_max_ge : ∀ (l : List Nat) (n : Nat), n ≤ l.foldl max n ∧ ∀ x ∈ l, x ≤ l.foldl max n
  | [], n => ⟨Nat.le_refl _, (fun _ h => nomatch h)⟩
  | y :: l, n => by
    obtain ⟨h1, h2⟩ := foldl_max_ge l (max n y)
    refine ⟨Nat.le_trans (Nat.le_max_left n y) h1, fun x hx => ?_⟩
    rcases List.mem_cons.mp hx with rfl | hx
    · exact Nat.le_trans (Nat.le_max_right n x) h1
    · exact h2 x hx
theorem foldl_max_mem : ∀ (l : List Nat) (n : Nat), l.foldl max n = n ∨ l.foldl max n ∈ l
  | [], n => .inl rfl
  | y :: l, n => by
    rcases foldl_max_mem l (max n y) with h | h
    · rw [List.foldl_cons, h]
      rcases Nat.le_total n y with c | c
      · rw [Nat.max_eq_right c]; exact .inr List.mem_cons_self
      · rw [Nat.max_eq_left c]; exact .inl rfl
    · exact .inr (List.mem_cons_of_mem _ h)
def top' : List Nat → Nat
  | [] => 0
  | x :: l => l.foldl max x
theorem top_ge {l : List Nat} {x : Nat} (h : x ∈ l) : x ≤ top' l := by
  cases l with
  | nil => cases h
  | cons y l =>
    rcases List.mem_cons.mp h with rfl | h
    · exact (foldl_max_ge l _).1
    · exact (foldl_max_ge l _).2 x h
theorem top_mem {l : List Nat} (h : l ≠ []) : top' l ∈ l := by
  cases l with
  | nil => exact absurd rfl h
  | cons y l =>
    rcases foldl_max_mem l y with e | e
    · show l.foldl max y ∈ _
      rw [e]; exact List.mem_cons_self
    · exact List.mem_cons_of_mem _ e
/-! ### gaps -/
/-- so many below N, of those with remainder r, are below x -/
def cnt (m N r x : Nat) : Nat := (min N x + (m - 1 - r)) / m
theorem cnt_step {m N r x : Nat} (hm : 0 < m) (hr : r < m) (hx : x % m = r) : cnt m (N + 1) r x = cnt m N r x + (if N % m = r ∧ N < x then 1 else 0) := by
  unfold cnt
  by_cases c : N < x
  · rw [Nat.min_eq_left (show N + 1 ≤ x from c), Nat.min_eq_left (Nat.le_of_lt c), show N + 1 + (m - 1 - r) = (N + (m - 1 - r)) + 1 by omega, Nat.succ_div]
    have e : m ∣ N + (m - 1 - r) + 1 ↔ N % m = r := by
      rw [show N + (m - 1 - r) + 1 = N + (m - r) by omega]
      constructor
      · intro ⟨k, hk⟩
        have h1 : N = (k - 1) * m + r := by
          have hk0 : 0 < k := by
            rcases Nat.eq_zero_or_pos k with z | z
            · rw [z] at hk; omega
            · exact z
          have : m * k = m * (k - 1) + m := by
            rw [← Nat.mul_succ]
            congr 1
            omega
          rw [Nat.mul_comm (k - 1) m]
          omega
        rw [h1, Nat.add_comm, Nat.add_mul_mod_self_right, Nat.mod_eq_of_lt hr]
      · intro h
        refine ⟨N / m + 1, ?_⟩
        have d := Nat.div_add_mod N m
        rw [h] at d
        rw [Nat.mul_succ]
        omega
    by_cases d : N % m = r
    · rw [if_pos (e.mpr d), if_pos ⟨d, c⟩]
    · rw [if_neg (fun z => d (e.mp z)), if_neg (fun z => d z.1)]
  · rw [Nat.min_eq_right (show x ≤ N + 1 by omega), Nat.min_eq_right (show x ≤ N by omega), if_neg (fun z => c z.2)]
    rfl
theorem cnt_end {m N r x : Nat} (hm : 0 < m) (hr : r < m) (hx : x % m = r) (hN : x ≤ N) : cnt m N r x = x / m := by
  unfold cnt
  rw [Nat.min_eq_right hN]
  have d := Nat.div_add_mod x m
  rw [hx] at d
  rw [show x + (m - 1 - r) = (m - 1) + x / m * m by rw [Nat.mul_comm]; omega, Nat.add_mul_div_right _ _ hm, Nat.div_eq_of_lt (by omega), Nat.zero_add]
theorem cnt_zero {m r x : Nat} (hm : 0 < m) : cnt m 0 r x = 0 := by
  unfold cnt
  rw [Nat.zero_min, Nat.zero_add]
  exact Nat.div_eq_of_lt (by omega)
theorem sum_zero : ∀ {l : List Nat}, (∀ x ∈ l, x = 0) → l.sum = 0
  | [], _ => rfl
  | x :: l, h => by
    rw [List.sum_cons, h x List.mem_cons_self, sum_zero fun y hy => h y (List.mem_cons_of_mem _ hy)]
theorem sum_one (j y : Nat) (f : Nat → Bool) : ∀ n, j < n → ((List.range n).map fun r => if j = r ∧ f r = true then 1 else 0).sum = if f j = true then 1 else 0
  | 0, h => by omega
  | n + 1, h => by
    rw [List.range_succ, List.map_append, List.sum_append]
    by_cases e : j = n
    · subst e
      have z : ((List.range j).map fun r => if j = r ∧ f r = true then 1 else 0).sum = 0 := by
        apply sum_zero
        intro x hx
        obtain ⟨r, hr, rfl⟩ := List.mem_map.mp hx
        have := List.mem_range.mp hr
        rw [if_neg (fun z => by omega)]
      rw [z]
      by_cases c : f j = true <;> simp [c]
    · rw [sum_one j y f n (by omega)]
      simp [e]
theorem map_sum_add (f g : Nat → Nat) : ∀ l : List Nat, (l.map fun r => f r + g r).sum = (l.map f).sum + (l.map g).sum
  | [] => rfl
  | x :: l => by
    rw [List.map_cons, List.map_cons, List.map_cons, List.sum_cons, List.sum_cons, List.sum_cons, map_sum_add f g l]
    omega
/-- the gaps below N, counted by remainders -/
theorem gaps_cnt {m : Nat} (hm : 0 < m) {xs : List Nat} (hl : xs.length = m) (hx : ∀ (r : Nat) (hr : r < xs.length), xs[r] % m = r) (p : Nat → Bool) (hp : ∀ w (h : w % m < xs.length), p w = decide (w < xs[w % m])) :
    ∀ N, ((List.range N).filter p).length = ((List.range m).map fun r => cnt m N r (xs.getD r 0)).sum
  | 0 => by
    have : ((List.range m).map fun r => cnt m 0 r (xs.getD r 0)).sum = 0 := by
      apply sum_zero
      intro x hx
      obtain ⟨r, _, rfl⟩ := List.mem_map.mp hx
      exact cnt_zero hm
    rw [this]; rfl
  | N + 1 => by
    have ih := gaps_cnt hm hl hx p hp N
    rw [List.range_succ, List.filter_append, List.length_append, ih]
    have e1 : ((List.range m).map fun r => cnt m (N + 1) r (xs.getD r 0)) = (List.range m).map fun r => cnt m N r (xs.getD r 0) + (if N % m = r ∧ decide (N < xs.getD r 0) = true then 1 else 0) := by
      refine List.map_congr_left fun r hr => ?_
      have hrm := List.mem_range.mp hr
      have hg : xs.getD r 0 = xs[r]'(by omega) := by rw [List.getD_eq_getElem?_getD, List.getElem?_eq_getElem (by omega)]; rfl
      rw [cnt_step hm hrm (by rw [hg]; exact hx r (by omega))]
      simp only [decide_eq_true_eq]
    rw [e1, map_sum_add, sum_one (N % m) 0 (fun r => decide (N < xs.getD r 0)) m (Nat.mod_lt _ hm)]
    congr 1
    have hw : N % m < xs.length := by rw [hl]; exact Nat.mod_lt _ hm
    have hg : xs.getD (N % m) 0 = xs[N % m] := by rw [List.getD_eq_getElem?_getD, List.getElem?_eq_getElem hw]; rfl
    rw [List.filter_cons, hp N hw, hg]
    by_cases c : N < xs[N % m] <;> simp [c]
theorem range_getD (xs : List Nat) (f : Nat → Nat) : ((List.range xs.length).map fun r => f (xs.getD r 0)) = xs.map f := by
  refine List.ext_getElem (by simp) fun i h1 h2 => ?_
  have hi : i < xs.length := by simpa using h2
  simp [hi]
theorem gaps_len {m : Nat} (hm : 0 < m) {xs : List Nat} (hl : xs.length = m) (hx : ∀ (r : Nat) (hr : r < xs.length), xs[r] % m = r) (p : Nat → Bool) (hp : ∀ w (h : w % m < xs.length), p w = decide (w < xs[w % m])) {N : Nat} (hN : ∀ x ∈ xs, x ≤ N) :
    ((List.range N).filter p).length = (xs.map (· / m)).sum := by
  rw [gaps_cnt hm hl hx p hp N]
  have : ((List.range m).map fun r => cnt m N r (xs.getD r 0)) = (List.range xs.length).map fun r => (xs.getD r 0) / m := by
    rw [hl]
    refine List.map_congr_left fun r hr => ?_
    have hrm := List.mem_range.mp hr
    have hg : xs.getD r 0 = xs[r]'(by omega) := by rw [List.getD_eq_getElem?_getD, List.getElem?_eq_getElem (by omega)]; rfl
    rw [hg]
    exact cnt_end hm hrm (hx r (by omega)) (hN _ (List.getElem_mem _))
  rw [this, range_getD xs (· / m)]
/-- the last gap, or none -/
theorem gaps_last {m : Nat} (hm : 0 < m) {xs : List Nat} (hl : xs.length = m) (hx : ∀ (r : Nat) (hr : r < xs.length), xs[r] % m = r) (p : Nat → Bool) (hp : ∀ w (h : w % m < xs.length), p w = decide (w < xs[w % m])) {N : Nat} (hN : ∀ x ∈ xs, x ≤ N) :
    (top' xs < m ∧ top' xs + 1 = m ∧ (List.range N).filter p = []) ∨ (m ≤ top' xs ∧ (List.range N).filter p = (List.range (top' xs - m)).filter p ++ [top' xs - m]) := by
  have hne : xs ≠ [] := fun z => by rw [z] at hl; exact absurd hl (by simp; omega)
  have htm := top_mem hne
  obtain ⟨r, hr, er⟩ := List.mem_iff_getElem.mp htm
  have hmod : top' xs % m = r := by rw [← er]; exact hx r hr
  have gap : ∀ w, p w = true → w + m ≤ top' xs := fun w hw => by
    have hwm : w % m < xs.length := by rw [hl]; exact Nat.mod_lt _ hm
    rw [hp w hwm] at hw
    have h1 := of_decide_eq_true hw
    have h2 := hx (w % m) hwm
    have h3 := top_ge (List.getElem_mem hwm)
    have d1 := Nat.div_add_mod w m
    have d2 := Nat.div_add_mod xs[w % m] m
    rw [h2] at d2
    have h4 : w / m < xs[w % m] / m := by
      rcases Nat.lt_or_ge (w / m) (xs[w % m] / m) with c | c
      · exact c
      · have := Nat.mul_le_mul_left m c
        omega
    have h5 : m * (w / m + 1) ≤ m * (xs[w % m] / m) := Nat.mul_le_mul_left m h4
    rw [Nat.mul_succ] at h5
    omega
  rcases Nat.lt_or_ge (top' xs) m with c | c
  · refine .inl ⟨c, ?_, ?_⟩
    · have h1 := hx (m - 1) (by omega)
      have h2 := top_ge (List.getElem_mem (show m - 1 < xs.length by omega))
      have h3 : m - 1 ≤ xs[m - 1]'(by omega) := by
        have h4 := Nat.mod_le (xs[m - 1]'(by omega)) m
        omega
      omega
    · rw [List.filter_eq_nil_iff]
      intro w _ hw
      have := gap w hw
      omega
  · refine .inr ⟨c, filter_top ?_ (fun i hi => ?_) N ?_⟩
    · have hw : (top' xs - m) % m = r := by
        rw [← hmod]
        conv => rhs; rw [← Nat.sub_add_cancel c, Nat.add_mod_right]
      rw [hp _ (by rw [hw]; exact hr)]
      refine decide_eq_true ?_
      have same : ∀ (i : Nat) (hi : i < xs.length), i = r → xs[i] = top' xs := fun i hi e => by subst e; exact er
      have := same _ (by rw [hw]; exact hr) hw
      omega
    · cases e : p i with
      | false => rfl
      | true =>
        have := gap i e
        omega
    · have := hN _ htm
      omega
end Ov
/-! ### decoding: countdowns and starts, byte by byte -/
namespace Ov
section
variable (la : Int → Nat)
/-- what a byte makes of a countdown -/
def cdStep : Option Nat → Int → Option Nat
  | none, _ => none
  | some 0, b => if la b = 0 then none else some (la b - 1)
  | some (l + 1), _ => some l
def cdEnd (s : Option Nat) (bs : List Int) : Option Nat := bs.foldl (cdStep la) s
def stF (k : Nat) (s : Option Nat) : List Int → List Nat
  | [] => []
  | b :: bs => (if s = some 0 ∧ 0 < la b then [k] else []) ++ stF (k + 1) (cdStep la s b) bs
/-- the offset of the invalid byte -/
def spF (k : Nat) (s : Option Nat) : List Int → Option Nat
  | [] => none
  | b :: bs => if s = some 0 ∧ la b = 0 then some k else spF (k + 1) (cdStep la s b) bs
variable {la}
theorem cdEnd_nil (s : Option Nat) : cdEnd la s [] = s := rfl
theorem cdEnd_cons (s : Option Nat) (b : Int) (bs : List Int) : cdEnd la s (b :: bs) = cdEnd la (cdStep la s b) bs := rfl
theorem cdEnd_app (s : Option Nat) (as bs : List Int) : cdEnd la s (as ++ bs) = cdEnd la (cdEnd la s as) bs := by
  unfold cdEnd; rw [List.foldl_append]
theorem stF_app (k : Nat) (s : Option Nat) (as bs : List Int) : stF la k s (as ++ bs) = stF la k s as ++ stF la (k + as.length) (cdEnd la s as) bs := by
  induction as generalizing k s with
  | nil => rfl
  | cons a as ih =>
    show _ ++ stF la (k + 1) _ (as ++ bs) = (_ ++ stF la (k + 1) _ as) ++ _
    rw [ih, List.append_assoc, List.length_cons, cdEnd_cons, show k + 1 + as.length = k + (as.length + 1) by omega]
theorem stF_one (k : Nat) (s : Option Nat) (b : Int) : stF la k s [b] = if s = some 0 ∧ 0 < la b then [k] else [] := by
  show (if s = some 0 ∧ 0 < la b then [k] else []) ++ [] = _
  rw [List.append_nil]
theorem stF_snoc (k : Nat) (s : Option Nat) (as : List Int) (b : Int) : stF la k s (as ++ [b]) = stF la k s as ++ if cdEnd la s as = some 0 ∧ 0 < la b then [k + as.length] else [] := by
  rw [stF_app, stF_one]
theorem cdEnd_snoc (s : Option Nat) (as : List Int) (b : Int) : cdEnd la s (as ++ [b]) = cdStep la (cdEnd la s as) b := cdEnd_app s as [b]
/-- bytes of an instruction that is being read -/
theorem cdEnd_pass (m : Nat) (pre post : List Int) : cdEnd la (some (pre.length + m)) (pre ++ post) = cdEnd la (some m) post := by
  induction pre with
  | nil => rw [List.length_nil, Nat.zero_add]; rfl
  | cons a pre ih =>
    rw [List.length_cons, show pre.length + 1 + m = pre.length + m + 1 by omega]
    show cdEnd la (some (pre.length + m)) (pre ++ post) = _
    exact ih
theorem stF_pass (k m : Nat) (pre post : List Int) : stF la k (some (pre.length + m)) (pre ++ post) = stF la (k + pre.length) (some m) post := by
  induction pre generalizing k with
  | nil => rw [List.length_nil, Nat.zero_add]; rfl
  | cons a pre ih =>
    rw [List.length_cons, show pre.length + 1 + m = pre.length + m + 1 by omega]
    show (if some (pre.length + m + 1) = some 0 ∧ 0 < la a then [k] else []) ++ stF la (k + 1) (some (pre.length + m)) (pre ++ post) = _
    rw [if_neg (by rintro ⟨e, _⟩; cases e), List.nil_append, ih, show k + 1 + pre.length = k + (pre.length + 1) by omega]
theorem cdEnd_none (bs : List Int) : cdEnd la none bs = none := by
  induction bs with
  | nil => rfl
  | cons b bs ih => exact ih
theorem stF_none (k : Nat) (bs : List Int) : stF la k none bs = [] := by
  induction bs generalizing k with
  | nil => rfl
  | cons b bs ih =>
    show (if (none : Option Nat) = some 0 ∧ 0 < la b then [k] else []) ++ stF la (k + 1) none bs = []
    rw [if_neg (by rintro ⟨e, _⟩; cases e), List.nil_append, ih]
theorem cd_over {o : Nat} {bs : List Int} (h : bs.length ≤ o) : cdEnd la (some o) bs = some (o - bs.length) := by
  have := cdEnd_pass (la := la) (o - bs.length) bs []
  rw [List.append_nil, show bs.length + (o - bs.length) = o by omega] at this
  exact this
theorem st_over {k o : Nat} {bs : List Int} (h : bs.length ≤ o) : stF la k (some o) bs = [] := by
  have := stF_pass (la := la) k (o - bs.length) bs []
  rw [List.append_nil, show bs.length + (o - bs.length) = o by omega] at this
  exact this
theorem split_at {bs : List Int} {o : Nat} {b : Int} (h : bs[o]? = some b) : bs = bs.take o ++ b :: bs.drop (o + 1) ∧ (bs.take o).length = o := by
  obtain ⟨hl, e⟩ := List.getElem?_eq_some_iff.mp h
  refine ⟨?_, by rw [List.length_take]; omega⟩
  rw [← e, List.getElem_cons_drop, List.take_append_drop]
theorem cd_step {bs : List Int} {o : Nat} {b : Int} (h : bs[o]? = some b) (hl : 0 < la b) : cdEnd la (some o) bs = cdEnd la (some (o + la b)) bs := by
  obtain ⟨e, l⟩ := split_at h
  have h1 := cdEnd_pass (la := la) 0 (bs.take o) (b :: bs.drop (o + 1))
  have h2 := cdEnd_pass (la := la) (la b) (bs.take o) (b :: bs.drop (o + 1))
  rw [← e, l] at h1 h2
  rw [h2, show o + 0 = o from rfl] at *
  rw [h1]
  obtain ⟨n, en⟩ : ∃ n, la b = n + 1 := ⟨la b - 1, by omega⟩
  rw [cdEnd_cons, cdEnd_cons, en]
  show cdEnd la (if la b = 0 then none else some (la b - 1)) _ = cdEnd la (some n) _
  rw [if_neg (by omega), en]
  rfl
theorem st_step {bs : List Int} {k o : Nat} {b : Int} (h : bs[o]? = some b) (hl : 0 < la b) : stF la k (some o) bs = (k + o) :: stF la k (some (o + la b)) bs := by
  obtain ⟨e, l⟩ := split_at h
  have h1 := stF_pass (la := la) k 0 (bs.take o) (b :: bs.drop (o + 1))
  have h2 := stF_pass (la := la) k (la b) (bs.take o) (b :: bs.drop (o + 1))
  rw [← e, l] at h1 h2
  rw [show o + 0 = o from rfl] at h1
  rw [h1, h2]
  obtain ⟨n, en⟩ : ∃ n, la b = n + 1 := ⟨la b - 1, by omega⟩
  show (if some 0 = some 0 ∧ 0 < la b then [k + o] else []) ++ stF la (k + o + 1) (if la b = 0 then none else some (la b - 1)) _ = (k + o) :: ((if some (la b) = some 0 ∧ 0 < la b then [k + o] else []) ++ stF la (k + o + 1) (cdStep la (some (la b)) b) _)
  rw [if_pos ⟨rfl, hl⟩, if_neg (by omega), if_neg (by rintro ⟨e, _⟩; rw [en] at e; cases e), en]
  rfl
theorem cd_stop {bs : List Int} {o : Nat} {b : Int} (h : bs[o]? = some b) (hl : la b = 0) : cdEnd la (some o) bs = none := by
  obtain ⟨e, l⟩ := split_at h
  have h1 := cdEnd_pass (la := la) 0 (bs.take o) (b :: bs.drop (o + 1))
  rw [← e, l, show o + 0 = o from rfl] at h1
  rw [h1, cdEnd_cons]
  show cdEnd la (if la b = 0 then none else some (la b - 1)) _ = none
  rw [if_pos hl, cdEnd_none]
theorem st_stop {bs : List Int} {k o : Nat} {b : Int} (h : bs[o]? = some b) (hl : la b = 0) : stF la k (some o) bs = [] := by
  obtain ⟨e, l⟩ := split_at h
  have h1 := stF_pass (la := la) k 0 (bs.take o) (b :: bs.drop (o + 1))
  rw [← e, l, show o + 0 = o from rfl] at h1
  rw [h1]
  show (if some 0 = some 0 ∧ 0 < la b then [k + o] else []) ++ stF la (k + o + 1) (if la b = 0 then none else some (la b - 1)) _ = []
  rw [if_neg (by omega), if_pos hl, stF_none]
  rfl
theorem spF_pass (k m : Nat) (pre post : List Int) : spF la k (some (pre.length + m)) (pre ++ post) = spF la (k + pre.length) (some m) post := by
  induction pre generalizing k with
  | nil => rw [List.length_nil, Nat.zero_add]; rfl
  | cons a pre ih =>
    rw [List.length_cons, show pre.length + 1 + m = pre.length + m + 1 by omega]
    show (if some (pre.length + m + 1) = some 0 ∧ la a = 0 then some k else spF la (k + 1) (some (pre.length + m)) (pre ++ post)) = _
    rw [if_neg (by rintro ⟨e, _⟩; cases e), ih, show k + 1 + pre.length = k + (pre.length + 1) by omega]
theorem sp_step {bs : List Int} {k o : Nat} {b : Int} (h : bs[o]? = some b) (hl : 0 < la b) : spF la k (some o) bs = spF la k (some (o + la b)) bs := by
  obtain ⟨e, l⟩ := split_at h
  have h1 := spF_pass (la := la) k 0 (bs.take o) (b :: bs.drop (o + 1))
  have h2 := spF_pass (la := la) k (la b) (bs.take o) (b :: bs.drop (o + 1))
  rw [← e, l] at h1 h2
  rw [show o + 0 = o from rfl] at h1
  rw [h1, h2]
  obtain ⟨n, en⟩ : ∃ n, la b = n + 1 := ⟨la b - 1, by omega⟩
  show (if some 0 = some 0 ∧ la b = 0 then some (k + o) else spF la (k + o + 1) (if la b = 0 then none else some (la b - 1)) _) = (if some (la b) = some 0 ∧ la b = 0 then some (k + o) else spF la (k + o + 1) (cdStep la (some (la b)) b) _)
  rw [if_neg (by omega), if_neg (by omega), if_neg (by rintro ⟨e, _⟩; rw [en] at e; cases e), en]
  rfl
theorem sp_stop {bs : List Int} {k o : Nat} {b : Int} (h : bs[o]? = some b) (hl : la b = 0) : spF la k (some o) bs = some (k + o) := by
  obtain ⟨e, l⟩ := split_at h
  have h1 := spF_pass (la := la) k 0 (bs.take o) (b :: bs.drop (o + 1))
  rw [← e, l, show o + 0 = o from rfl] at h1
  rw [h1]
  show (if some 0 = some 0 ∧ la b = 0 then some (k + o) else _) = _
  rw [if_pos ⟨rfl, hl⟩]
/-- an entry within the code -/
theorem cd_entry {e : Nat} {bs : List Int} (h : e ≤ bs.length) : cdEnd la (some e) bs = cdEnd la (some 0) (bs.drop e) := by
  have := cdEnd_pass (la := la) 0 (bs.take e) (bs.drop e)
  rw [List.take_append_drop, List.length_take, show min e bs.length + 0 = e by omega] at this
  exact this
theorem st_entry {e : Nat} {bs : List Int} (h : e ≤ bs.length) : stF la 0 (some e) bs = stF la e (some 0) (bs.drop e) := by
  have := stF_pass (la := la) 0 0 (bs.take e) (bs.drop e)
  rw [List.take_append_drop, List.length_take, show min e bs.length + 0 = e by omega, show 0 + min e bs.length = e by omega] at this
  exact this
/-- how a walk ends -/
structure Ended (la : Int → Nat) (bs : List Int) (e : Nat) (begun : List Nat) (fol : Nat) : Prop where
  st : begun = stF la 0 (some e) bs
  cd : cdEnd la (some e) bs = if fol < bs.length then none else some (fol - bs.length)
  stop : fol < bs.length → ∃ b, bs[fol]? = some b ∧ la b = 0
  last : bs.length < fol → e ≤ bs.length → ∃ o b, begun.getLast? = some o ∧ bs[o]? = some b ∧ fol = o + la b
  lt : ∀ o ∈ begun, o < bs.length ∧ ∃ b, bs[o]? = some b ∧ 0 < la b
  sp : fol < bs.length → spF la 0 (some e) bs = some fol
/-- a walk under way -/
structure Going (la : Int → Nat) (bs : List Int) (e : Nat) (begun : List Nat) (o : Nat) : Prop where
  st : stF la 0 (some e) bs = begun ++ stF la 0 (some o) bs
  cd : cdEnd la (some e) bs = cdEnd la (some o) bs
  last : bs.length < o → e ≤ bs.length → ∃ q b, begun.getLast? = some q ∧ bs[q]? = some b ∧ o = q + la b
  lt : ∀ q ∈ begun, q < bs.length ∧ ∃ b, bs[q]? = some b ∧ 0 < la b
  few : begun.length ≤ bs.length - e ∧ (bs.length - o) + begun.length ≤ bs.length - e
  sp : spF la 0 (some e) bs = spF la 0 (some o) bs
theorem Going.start (bs : List Int) (e : Nat) : Going la bs e [] e :=
  ⟨rfl, rfl, fun h1 h2 => absurd h1 (by omega), (fun _ h => nomatch h), by simp, rfl⟩
theorem Going.step {bs : List Int} {e o : Nat} {begun : List Nat} (g : Going la bs e begun o) {b : Int} (h : bs[o]? = some b) (hl : 0 < la b) : Going la bs e (begun ++ [o]) (o + la b) := by
  have ho := (List.getElem?_eq_some_iff.mp h).1
  refine ⟨?_, ?_, fun _ _ => ⟨o, b, by simp, h, rfl⟩, fun q hq => ?_, ?_, by rw [g.sp, sp_step h hl]⟩
  · rw [g.st, st_step h hl, Nat.zero_add, List.append_assoc]; rfl
  · rw [g.cd, cd_step h hl]
  · rcases List.mem_append.mp hq with hq | hq
    · exact g.lt q hq
    · rw [List.mem_singleton.mp hq]
      exact ⟨ho, b, h, hl⟩
  · have := g.few
    rw [List.length_append, List.length_singleton]
    omega
theorem Going.over {bs : List Int} {e o : Nat} {begun : List Nat} (g : Going la bs e begun o) (h : bs.length ≤ o) : Ended la bs e begun o :=
  ⟨by rw [g.st, st_over h, List.append_nil], by rw [g.cd, cd_over h, if_neg (by omega)], fun z => absurd z (by omega), g.last, g.lt, fun z => absurd z (by omega)⟩
theorem Going.stop {bs : List Int} {e o : Nat} {begun : List Nat} (g : Going la bs e begun o) {b : Int} (h : bs[o]? = some b) (hl : la b = 0) : Ended la bs e begun o := by
  have ho := (List.getElem?_eq_some_iff.mp h).1
  exact ⟨by rw [g.st, st_stop h hl, List.append_nil], by rw [g.cd, cd_stop h hl, if_pos ho], fun _ => ⟨b, h, hl⟩, g.last, g.lt, fun _ => by rw [g.sp, sp_stop h hl, Nat.zero_add]⟩
theorem Ended.same {bs : List Int} {e : Nat} {b1 b2 : List Nat} {f1 f2 : Nat} (h1 : Ended la bs e b1 f1) (h2 : Ended la bs e b2 f2) : b1 = b2 ∧ f1 = f2 := by
  refine ⟨h1.st.trans h2.st.symm, ?_⟩
  have c := h1.cd.symm.trans h2.cd
  by_cases p1 : f1 < bs.length
  · by_cases p2 : f2 < bs.length
    · exact Option.some.inj ((h1.sp p1).symm.trans (h2.sp p2))
    · rw [if_pos p1, if_neg p2] at c; cases c
  · by_cases p2 : f2 < bs.length
    · rw [if_neg p1, if_pos p2] at c; cases c
    · rw [if_neg p1, if_neg p2] at c
      have := Option.some.inj c
      omega
/-! ### the countdowns of all offsets -/
variable (la)
def cds (s : Option Nat) (bs : List Int) : List (Option Nat) := (List.range (bs.length + 1)).map fun i => cdEnd la s (bs.take i)
variable {la}
theorem cds_len (s : Option Nat) (bs : List Int) : (cds la s bs).length = bs.length + 1 := by
  unfold cds; rw [List.length_map, List.length_range]
theorem cds_at {s : Option Nat} {bs : List Int} {i : Nat} (h : i ≤ bs.length) : (cds la s bs)[i]? = some (cdEnd la s (bs.take i)) := by
  unfold cds
  rw [List.getElem?_map, List.getElem?_range (by omega)]
  rfl
theorem cds_one (s : Option Nat) : cds la s [] = [s] := rfl
theorem cds_snoc (s : Option Nat) (bs : List Int) (b : Int) : cds la s (bs ++ [b]) = cds la s bs ++ [cdStep la (cdEnd la s bs) b] := by
  unfold cds
  rw [List.length_append, List.length_singleton, List.range_succ, List.map_append, List.map_singleton, ← List.length_singleton (a := b), ← List.length_append, List.take_length, cdEnd_snoc]
  congr 1
  refine List.map_congr_left fun i hi => ?_
  have := List.mem_range.mp hi
  rw [List.take_append_of_le_length (by rw [List.length_append, List.length_singleton] at this; omega)]
end
end Ov
namespace Ov
/-! ### from some number on all multiples of the common divisor are sums -/
theorem far_sums {m : Nat} {rest : List Nat} (hm : 0 < m) : ∃ N0, ∀ N, N0 ≤ N → gcdAll (m :: rest) ∣ N → Sum (m :: rest) N := by
  obtain ⟨B, sB, eB⟩ := res_step (all := m :: rest) (m := m) hm rest m 0 .zero (by rw [Nat.zero_mod, Nat.mod_self]) (fun l hl => List.mem_cons_of_mem _ hl)
  have eg : gcdAll (m :: rest) = rest.foldl Nat.gcd m := by
    unfold gcdAll
    rw [List.foldl_cons, Nat.gcd_zero_left]
  rw [← eg] at eB
  generalize gcdAll (m :: rest) = g at *
  have mult : ∀ k, Sum (m :: rest) (k * B) := fun k => by
    induction k with
    | zero => rw [Nat.zero_mul]; exact .zero
    | succ k ih => rw [Nat.succ_mul]; exact ih.plus sB
  refine ⟨m * B, fun N hN ⟨k, hk⟩ => ?_⟩
  have e1 : (k % m * B) % m = N % m := by
    rw [hk, Nat.mul_mod, Nat.mod_mod, eB, Nat.mul_comm g k, Nat.mul_mod k g m]
  have le : k % m * B ≤ N := Nat.le_trans (Nat.mul_le_mul_right B (Nat.le_of_lt (Nat.mod_lt k hm))) hN
  have d : m ∣ N - k % m * B := Nat.dvd_of_mod_eq_zero (Nat.sub_mod_eq_zero_of_mod_eq e1.symm)
  obtain ⟨j, hj⟩ := d
  have : N = k % m * B + j * m := by rw [Nat.mul_comm j m, ← hj]; omega
  rw [this]
  exact (mult _).plus (Sum.times List.mem_cons_self j)
theorem sum_dvd {ls : List Nat} {s : Nat} (h : Sum ls s) : gcdAll ls ∣ s := by
  induction h with
  | zero => exact Nat.dvd_zero _
  | add hl _ ih => exact Nat.dvd_add ih (gcdAll_dvd hl)
/-- two countdowns congruent modulo the divisor, which may be 0 -/
def congN (d : Nat) (a b : Int) : Bool := if d = 0 then decide (a = b) else decide ((b - a) % (d : Int) = 0)
theorem congN_iff (d : Nat) (a b : Int) : congN d a b = true ↔ (d : Int) ∣ b - a := by
  unfold congN
  by_cases h : d = 0
  · subst h
    rw [if_pos rfl, decide_eq_true_eq]
    constructor
    · rintro rfl; rw [Int.sub_self]; exact Int.dvd_zero _
    · intro z
      have : b - a = 0 := Int.zero_dvd.mp z
      omega
  · rw [if_neg h, decide_eq_true_eq]
    exact ⟨Int.dvd_of_emod_eq_zero, Int.emod_eq_zero_of_dvd⟩
theorem exists_max : ∀ cs : List Int, ∃ M : Nat, ∀ c ∈ cs, c ≤ (M : Int)
  | [] => ⟨0, fun _ h => nomatch h⟩
  | c :: cs => by
    obtain ⟨M, h⟩ := exists_max cs
    refine ⟨M + c.toNat, fun x hx => ?_⟩
    rcases List.mem_cons.mp hx with rfl | hx
    · omega
    · have := h x hx
      omega
/-- without a conflict some length is one of a filler -/
theorem far_fill {ls : List Nat} (hpos : ∀ l ∈ ls, 0 < l) {c0 : Int} {cs : List Int} (h0 : 0 ≤ c0) (hc : ∀ c ∈ cs, congN (gcdAll ls) c0 c = true) : ∃ N : Nat, c0 ≤ (N : Int) ∧ Sum ls ((N : Int) - c0).toNat ∧ ∀ c ∈ cs, c ≤ (N : Int) ∧ Sum ls ((N : Int) - c).toNat := by
  cases ls with
  | nil =>
    have z : ∀ c ∈ cs, c = c0 := fun c hm => by
      have := (congN_iff _ _ _).mp (hc c hm)
      have e : gcdAll [] = 0 := rfl
      rw [e] at this
      have : c - c0 = 0 := Int.zero_dvd.mp this
      omega
    have s0 : Sum [] ((c0.toNat : Int) - c0).toNat := by
      rw [show ((c0.toNat : Int) - c0).toNat = 0 by omega]; exact .zero
    exact ⟨c0.toNat, by omega, s0, fun c hm => by rw [z c hm]; exact ⟨by omega, s0⟩⟩
  | cons m rest =>
    have hm : 0 < m := hpos m List.mem_cons_self
    obtain ⟨N0, far⟩ := far_sums (m := m) (rest := rest) hm
    obtain ⟨M, hM⟩ := exists_max cs
    have gp : 0 < gcdAll (m :: rest) := Nat.pos_of_dvd_of_pos (gcdAll_dvd List.mem_cons_self) hm
    have le : M + N0 ≤ (M + N0) * gcdAll (m :: rest) := Nat.le_mul_of_pos_right _ gp
    refine ⟨c0.toNat + (M + N0) * gcdAll (m :: rest), by omega, far _ (by omega) ?_, fun c hm' => ⟨by have := hM c hm'; omega, far _ (by have := hM c hm'; omega) ?_⟩⟩
    · rw [show (((c0.toNat + (M + N0) * gcdAll (m :: rest) : Nat) : Int) - c0).toNat = (M + N0) * gcdAll (m :: rest) by omega]
      exact Nat.dvd_mul_left _ _
    · have d := (congN_iff _ _ _).mp (hc c hm')
      have e : ((gcdAll (m :: rest) : Nat) : Int) ∣ ((c0.toNat + (M + N0) * gcdAll (m :: rest) : Nat) : Int) - c := by
        have x : ((c0.toNat + (M + N0) * gcdAll (m :: rest) : Nat) : Int) - c = ((M + N0 : Nat) : Int) * ((gcdAll (m :: rest) : Nat) : Int) - (c - c0) := by
          rw [Int.natCast_add, Int.natCast_mul, Int.toNat_of_nonneg h0]; omega
        rw [x]
        exact Int.dvd_sub (Int.dvd_mul_left _ _) d
      have nn : 0 ≤ ((c0.toNat + (M + N0) * gcdAll (m :: rest) : Nat) : Int) - c := by have := hM c hm'; omega
      rw [← Int.natCast_dvd_natCast, Int.toNat_of_nonneg nn]
      exact e
end Ov
namespace Ov
/-! ### how far the shortest filler is at most -/
theorem far_le {m M : Nat} {rest : List Nat} (hM : ∀ l ∈ m :: rest, 0 < l ∧ l ≤ M) {N : Nat} (hN : m * M ≤ N) (d : gcdAll (m :: rest) ∣ N) : Sum (m :: rest) N := by
  have hm : 0 < m := (hM m List.mem_cons_self).1
  obtain ⟨N0, far⟩ := far_sums (m := m) (rest := rest) hm
  obtain ⟨rep, len⟩ := leasts_rep hm rest
  have le : N0 ≤ N0 * m := Nat.le_mul_of_pos_right _ hm
  have s := far (N + N0 * m) (by omega) (Nat.dvd_add d (Nat.dvd_trans (gcdAll_dvd List.mem_cons_self) (Nat.dvd_mul_left _ _)))
  obtain ⟨x, hx, _⟩ := rep.least _ s
  have b := least_le rep hM hx
  rw [len] at hx b
  rw [Nat.add_mul_mod_self_right] at hx
  have b2 : (m - 1) * M ≤ m * M := Nat.mul_le_mul_right _ (Nat.sub_le _ _)
  rw [← isSum_iff _ (fun l hl => (hM l hl).1)]
  unfold reached
  rw [len, if_neg (by omega), hx]
  exact decide_eq_true (by omega)
theorem far_fill_le {ls : List Nat} (hM : ∀ l ∈ ls, 0 < l ∧ l ≤ 12) {c0 : Int} {cs : List Int} (h0 : 0 ≤ c0 ∧ c0 < 12) (h12 : ∀ c ∈ cs, c < 12) (hc : ∀ c ∈ cs, congN (gcdAll ls) c0 c = true) : ∃ N : Nat, N ≤ 180 ∧ c0 ≤ (N : Int) ∧ Sum ls ((N : Int) - c0).toNat ∧ ∀ c ∈ cs, c ≤ (N : Int) ∧ Sum ls ((N : Int) - c).toNat := by
  cases ls with
  | nil =>
    have z : ∀ c ∈ cs, c = c0 := fun c hm => by
      have := (congN_iff _ _ _).mp (hc c hm)
      have e : gcdAll [] = 0 := rfl
      rw [e] at this
      have : c - c0 = 0 := Int.zero_dvd.mp this
      omega
    have s0 : Sum [] ((c0.toNat : Int) - c0).toNat := by
      rw [show ((c0.toNat : Int) - c0).toNat = 0 by omega]; exact .zero
    exact ⟨c0.toNat, by omega, by omega, s0, fun c hm => by rw [z c hm]; exact ⟨by omega, s0⟩⟩
  | cons m rest =>
    have hm := hM m List.mem_cons_self
    have gp : 0 < gcdAll (m :: rest) := Nat.pos_of_dvd_of_pos (gcdAll_dvd List.mem_cons_self) hm.1
    have gl : gcdAll (m :: rest) ≤ m := Nat.le_of_dvd hm.1 (gcdAll_dvd List.mem_cons_self)
    have b : m * 12 ≤ 144 := by omega
    generalize hg : gcdAll (m :: rest) = g at *
    obtain ⟨w, ew, lo, hi⟩ : ∃ w, g ∣ w ∧ 156 ≤ w ∧ w ≤ 167 := by
      have d := Nat.div_add_mod 167 g
      have r := Nat.mod_lt 167 gp
      exact ⟨g * (167 / g), Nat.dvd_mul_right _ _, by omega, by omega⟩
    refine ⟨c0.toNat + w, by omega, by omega, far_le hM (by omega) ?_, fun c hm' => ⟨by have := h12 c hm'; omega, far_le hM (by have := h12 c hm'; omega) ?_⟩⟩
    · rw [hg, show (((c0.toNat + w : Nat) : Int) - c0).toNat = w by omega]
      exact ew
    · have d := (congN_iff _ _ _).mp (hc c hm')
      have e : (g : Int) ∣ ((c0.toNat + w : Nat) : Int) - c := by
        have x : ((c0.toNat + w : Nat) : Int) - c = (w : Int) - (c - c0) := by omega
        rw [x]
        exact Int.dvd_sub (Int.natCast_dvd_natCast.mpr ew) d
      have nn : 0 ≤ ((c0.toNat + w : Nat) : Int) - c := by have := h12 c hm'; omega
      rw [hg, ← Int.natCast_dvd_natCast, Int.toNat_of_nonneg nn]
      exact e
end Ov
namespace Ov
open PySem PySem.Spec PyProof.Rows L2
/-! ### heaps -/
theorem same_upd {H : Hp} {p : Addr} {o : HO} (h : H p = none) : Same H (upd H p o) := fun b x e => by
  rw [upd_ne (ne_of_none e h)]
  exact e
theorem _root_.L2.Same.tup {K : PySem.W.Frag} {H H' : Hp} {a : Addr} {xs : List V} (e : Same H H') (h : SqT K H a xs) : SqT K H' a xs := by
  rcases h with (h | ⟨o, h⟩) | h
  · exact .inl (.inl (e _ _ h))
  · exact .inl (.inr ⟨o, e _ _ h⟩)
  · exact .inr h
/-- a new list in the making at D: all that stood before stands, D is new and holds acc -/
structure Mk (H H' : Hp) (D : Addr) (acc : List V) : Prop where
  same : Same H H'
  new : H D = none
  at_ : H' D = some (.lst acc)
theorem Mk.start {H : Hp} {D : Addr} (h : H D = none) : Mk H (upd H D (.lst [])) D [] := ⟨same_upd h, h, upd_same⟩
theorem Mk.put {H H' H4 : Hp} {D : Addr} {acc acc' : List V} (m : Mk H H' D acc) (s : Same H' H4) : Mk H (upd H4 D (.lst acc')) D acc' :=
  ⟨fun b o e => by rw [upd_ne (ne_of_none e m.new)]; exact s _ _ (m.same _ _ e), m.new, upd_same⟩
/-- two tuples walked abreast -/
theorem walk_zipT {K : PySem.W.Frag} {a b : Addr} {xs ys : List V} {n : Nat} (hn : n = min xs.length ys.length) : Walk (RZ.ItzT K a b) n (fun H => SqT K H a xs ∧ SqT K H b ys) (YPair (fun i => xs[i]?) (fun i => ys[i]?)) := by
  subst hn
  refine ⟨fun i _ hi q => ?_, fun _ q => ⟨xs, ys, q.1, q.2, by omega⟩, fun i H v H' _ q y => ?_⟩
  · have h1 : i < xs.length := by omega
    have h2 : i < ys.length := by omega
    exact ⟨xs, ys, xs[i], ys[i], q.1, q.2, by simp [h1], by simp [h2]⟩
  · obtain ⟨T, x, z, h1, h2, h3, h4, h5⟩ := y
    exact ⟨T, x, z, h1, h2, h3, h4 xs q.1, h5 ys q.2⟩
theorem cut1 (xs : List V) : cutV xs (some 1) none = xs.drop 1 := by
  unfold cutV
  rw [show HT.sIx xs.length 0 (some 1) = min 1 xs.length from HT.sIx_nat xs.length 0 1, HT.sIx_none]
  cases xs with
  | nil => rfl
  | cons x r =>
    rw [show min 1 (x :: r).length = 1 by
      rw [List.length_cons]
      omega]
    show (List.take ((x :: r).length - 1) r) = r
    rw [List.length_cons, Nat.add_sub_cancel]
    exact List.take_length
theorem cut1_whole {xs : List V} (h : HT.sIx xs.length 0 (some 1) = 0 ∧ HT.sIx xs.length xs.length none = xs.length) : xs = [] := by
  have h1 := h.1
  rw [show HT.sIx xs.length 0 (some 1) = min 1 xs.length from HT.sIx_nat xs.length 0 1] at h1
  cases xs with
  | nil => rfl
  | cons x r => rw [List.length_cons] at h1; omega
/-! ### targets: two names -/
theorem pg_two {X : Cx} {x y : Str} {p1 p2 pos : Pos} {kk i j : Nat} (hc : X.calm = true) (hN : X.N.Nodup) (hi : X.N[i]? = some x) (hx : Loc X.env.scope x) (hfx : X.fn x = true ∨ X.env.scope.names.lookup x = some .local) (hj : X.N[j]? = some y) (hy : Loc X.env.scope y) (hfy : X.fn y = true ∨ X.env.scope.names.lookup y = some .local) :
    PG X (.Tuple [.Name x p1, .Name y p2] kk pos) (gTup X.K 2 (gCons (gName i) (gCons (gName j) gNil))) :=
  pg_tup hc (pgs_cons (pg_name hN hi hx hfx) (pgs_cons (pg_name hN hj hy hfy) pgs_nil))
/-! ### repr of a bool, a call by keywords alone -/
section
variable {X : Cx}
def boolText (b : Bool) : Str := if b then "True" else "False"
theorem call_repr_bool : CallR X (.builtin "repr") (fun xs H Q => ∃ b, xs = [.bl b] ∧ Q (.str (boolText b)) H) := by
  intro pins s σ H xs us Q I r h
  obtain ⟨b, rfl, q⟩ := h
  obtain ⟨u, rfl, rx⟩ := vals1 r
  cases (show u = Value.bool b from rx)
  exact PySem.P.repr_of_bool ⟨.str _, H, I.tok _, ⟨_, rfl⟩, q⟩
theorem boolText_inj {a b : Bool} : boolText a = boolText b ↔ a = b := by
  cases a <;> cases b <;> decide
variable {k : Nat} {f : Addr} {fd : FuncData} {ps ks : List Str} {sp : Sp} {CX : CXT} {E : XK} {x : Str} {p pos : Pos} {kws : List PySem.Keyword} {tk : TA} {g : List Value → List Value → List Value} {gV : List V → List V → List V}
theorem pe_callK0 (F : FnOk X.prog X.w X.K X.mg X.base CX k f fd ps sp) (hr : Room k X.A) (hg : Gl X x) (hm : X.mg x = some (.ref f)) (hk : PySem.W.keepIn X.K (.ref f) = true) (hb : KBinds X.K fd ps ks g gV) (hx : Passes CX X E)
    (hkw : PK X kws tk) (hall : (backToKw pos (keywordEach kws X.env)).all (·.1.isSome) = true := by rfl) (hks : (backToKw pos (keywordEach kws X.env)).filterMap (·.1) = ks := by rfl)
    (hdb : (x == ("__debug__" : Str)) = false := by decide)
    (hpl : ((backTo pos (starEach [] X.env)).any (·.1) || (backToKw pos (keywordEach kws X.env)).any (·.1.isNone)) = false := by rfl) :
    PE X (.Call (.Name x p) [] kws pos) (tCallK sp gV E tNil tk) := by
  refine ⟨fun pins s σ H Q I h => ?_⟩
  refine wpAny_Call_Name_kw (ld_glob I hg hm ?_ hdb)
  refine PySem.W.callWith_KW0 (h₀ := X.base) I.ok.mod.kin hk hall ?_ hpl
  refine thn (hkw.run pos pins s σ H _ I h) fun ws s2 ⟨zs, H2, I2, rz, q2⟩ => ⟨I2.kIn, ?_⟩
  rw [hks]
  exact run_fnk F hr hb hx I2 .nil rz q2
end
/-- two values by keywords, in the other order -/
def swap2 {α : Type} : List α → List α → List α
  | [], [a, b] => [b, a]
  | _, _ => []
theorem swap2_len {α : Type} {us ws : List α} (h : (swap2 us ws).length = 2) : ∃ a b, us = [] ∧ ws = [a, b] := by
  match us, ws, h with
  | [], [a, b], _ => exact ⟨a, b, rfl, rfl⟩
  | [], [], h => cases h
  | [], [_], h => cases h
  | [], _ :: _ :: _ :: _, h => cases h
  | _ :: _, _, h => cases h
theorem swap2_rel {vs : List V} {us : List Value} {zs : List V} {ws : List Value} (r : Vals vs us) (rz : Vals zs ws) : Vals (swap2 vs zs) (swap2 us ws) := by
  cases r with
  | nil =>
    cases rz with
    | nil => exact .nil
    | cons r1 rz =>
      cases rz with
      | nil => exact .nil
      | cons r2 rz =>
        cases rz with
        | nil => exact .cons r2 (.cons r1 .nil)
        | cons r3 rz => exact .nil
  | cons r1 r => exact .nil
/-- the built-in names that the text leaves alone -/
structure Bi (mg : Str → Option Value) : Prop where
  isi : mg "isinstance" = none
  int : mg "int" = none
  bool : mg "bool" = none
  tuple : mg "tuple" = none
  list : mg "list" = none
  all : mg "all" = none
  any : mg "any" = none
  zip : mg "zip" = none
  len : mg "len" = none
  range : mg "range" = none
  abs : mg "abs" = none
  sorted : mg "sorted" = none
  min : mg "min" = none
  repr : mg "repr" = none
  max : mg "max" = none
  sum : mg "sum" = none
  enumerate : mg "enumerate" = none
  str : mg "str" = none
  set : mg "set" = none
  dict : mg "dict" = none
  vErr : mg "ValueError" = none
/-! ### small things -/
/-- where a def stands, and that its name tells it -/
structure Def (K : PySem.W.Frag) (mg : Str → Option Value) (x : Str) (st : Stmt) (f : Addr) (fd : FuncData) (ps : List Str) : Prop where
  fn : Fun K x x st f fd
  gl : mg x = some (.ref f)
  bi : Binds K fd ps []
theorem ixN_at {n j : Nat} (hj : j < n) : ixN n (j : Int) = some j := by
  unfold ixN
  rw [if_pos (by omega), if_pos (by omega)]
  simp
theorem flat_rep {α : Type} (x : α) : ∀ n : Nat, (List.replicate n [x]).flatten = List.replicate n x
  | 0 => rfl
  | n + 1 => by rw [List.replicate_succ, List.flatten_cons, flat_rep x n, List.replicate_succ]; rfl
theorem take_more {α : Type} {l : List α} {i : Nat} {x : α} (h : l[i]? = some x) : l.take (i + 1) = l.take i ++ [x] := by
  rw [List.take_add_one, h]; rfl
theorem all_true (n : Nat) : (List.replicate n true).all id = true := by
  rw [List.all_eq_true]
  intro x hx
  exact (List.mem_replicate.mp hx).2
end Ov
namespace Ov
open PySem PySem.Spec PyProof.Rows L2
/-! ### defs that are called where no repr is under way: what they show of lists and tuples is then known -/
/-- the promise of a def, for calls under no guard -/
structure FnG (P : Program) (w : World) (K : PySem.W.Frag) (mg : Str → Option Value) (base : Heap) (k : Nat) (f : Addr) (fd : FuncData) (ps : List Str) (sp : Sp) : Prop where
  len : ∀ vs H Q E, sp vs H Q E → vs.length = ps.length
  run : ∀ (A : Around) (outer : List Env) (s : Shared) (H : Hp) (args : Args) (us : List Value) (vs : List V) (Q : VK) (E : XK),
    A.guards = some [] → Room k A → Env0 P w K mg base A outer s H → BindsTo s fd args (ps.zip us) → Vals vs us → sp vs H Q E →
    codeAny (model P w) A (.call (.ref f) args) (CR CX0 outer P w H s Q E) s
section
variable {P : Program} {w : World} {K : PySem.W.Frag} {mg : Str → Option Value} {base : Heap}
theorem okG {x qual : Str} {st : Stmt} {f : Addr} {fd : FuncData} {N ps : List Str} {k : Nat} {sp : Sp} (F : Fun K x qual st f fd) (S : FnScope N ps (defScope st)) (len : ∀ vs H Q E, sp vs H Q E → vs.length = ps.length)
    (body : ∀ (cdv : Value) (A : Around) (outer : List Env) (s : Shared) (H : Hp) (vs : List V) (Q : VK) (E : XK), A.guards = some [] → Room k (A.deeper (envOfC qual (defScope st) s.heap.objs.size f cdv)) → sp vs H Q E →
      ∃ t, PSs (cxOf CX0 P w K mg base N qual (defScope st) f cdv A outer s H E).nox (defBody st) t ∧ t { nx := fun _ H' => Q .non H', rt := Q } (start N vs) H) :
    FnG P w K mg base (k + 1) f fd ps sp := by
  obtain ⟨oc, od, kV, doc, pm, an, cdv, ct, osl, rfl, lk, hcd⟩ := F.ex
  constructor
  · exact len
  intro A outer s H args us vs Q E gd room env bnd rel pr
  obtain ⟨t, walk, reads⟩ := body cdv A outer s H vs Q E gd (room.deeper _) pr
  have down : ∀ b o, base.get? b = some o → s.heap.get? b = some o := fun b o e => (env.bs b o e).1
  have kin := env.mod.kin.keeps down
  have kinds : ∀ y ∈ ps.zip us, (defScope st).names.lookup y.1 = some .local ∨ ((defScope st).names.lookup y.1 = some .cell ∧ ((cellsFrom (s.heap.objs.size + 1) (defScope st).names []).lookup y.1).isSome = true) := by
    rintro ⟨y, v⟩ hy
    have hm := (List.of_mem_zip hy).1
    exact (S.par y hm).imp id fun q => ⟨q, PySem.W.cellsFrom_some _ _ _ (.inl q)⟩
  refine codeAny_call_function room.depth (kin _ _ lk) rfl S.co S.gen rfl (PySem.W.codeRec_of kin hcd) (bnd _ _ _ _ (wpAny_newFunctionEnv_cells S.kind kinds ?_))
  rintro env' rfl s1 ic
  refine ⟨(env.mod.nolimit.keeps down).keeps ic.toInCall.keep, codeAny_func (wpAny_mono (walk.nox.run [] s1 (start N vs) H _ (inv_start S room.hd env (len _ _ _ _ pr) rel ic) reads) ?_ fun _ _ h => h)⟩
  intro fl s' h
  cases fl with
  | brk => obtain ⟨_, _, _, q⟩ := h; exact q.elim
  | cont => obtain ⟨_, _, _, q⟩ := h; exact q.elim
  | next => obtain ⟨_, H', J, q⟩ := h; exact ⟨.non, H', J.os, J.bare, J.base, J.hok, rfl, q⟩
  | ret u => obtain ⟨v, _, H', J, rv, q⟩ := h; exact ⟨v, H', J.os, J.bare, J.base, J.hok, rv, q⟩
/-- a def that keeps its promise anywhere keeps it there -/
theorem FnG.of {k : Nat} {f : Addr} {fd : FuncData} {ps : List Str} {sp : Sp} (F : FnOk P w K mg base CX0 k f fd ps sp) : FnG P w K mg base k f fd ps sp :=
  ⟨F.len, fun A outer s H args us vs Q E _ => F.run A outer s H args us vs Q E⟩
end
section
variable {X : Cx} {k : Nat} {f : Addr} {fd : FuncData} {ps : List Str} {sp : Sp} {x : Str} {p pos : Pos} {e : Expr} {es : List Expr} {t : TA} {ds : List Value} {dvs : List V}
/-- such a def called by its name -/
theorem pe_callG (F : FnG X.prog X.w X.K X.mg X.base k f fd ps sp) (gd : X.A.guards = some []) (room : Room k X.A) (hg : Gl X x) (hm : X.mg x = some (.ref f)) (hk : PySem.W.keepIn X.K (.ref f) = true) (bi : Binds X.K fd ps [])
    (ha : PA X (e :: es) t) (hdb : (x == ("__debug__" : Str)) = false := by decide) (he : starEach (e :: es) X.env = (false, eval e X.env) :: starEach es X.env := by rfl) (hpl : (backTo pos (starEach es X.env)).any (·.1) = false := by rfl) :
    PE X (.Call (.Name x p) (e :: es) [] pos) (tCall sp [] E0 t) := by
  constructor
  intro pins s σ H Q I h
  refine wpAny_Call_Name_kw (ld_glob I hg hm (PySem.W.callWith_K (h₀ := X.base) I.ok.mod.kin hk (thn (ha.run pos pins s σ H _ I h) ?_) he hpl) hdb)
  rintro us s1 ⟨vs, H1, I1, r, q⟩
  have pr : sp vs H1 Q E0 := by
    have z : sp (vs ++ []) H1 Q E0 := q
    rwa [List.append_nil] at z
  have hl : us.length = ps.length := by rw [← r.length]; exact F.len _ _ _ _ pr
  have bt := bi s1 us I1.kIn (by simpa using hl)
  rw [List.append_nil] at bt
  refine ⟨I1.kIn, wpAny_call (codeAny_mono (F.run X.A X.stack s1 H1 ⟨us, []⟩ us vs Q E0 gd room I1.env0 bt r pr) ?_)⟩
  intro rs s' hq
  match rs, hq with
  | .error e, hq => exact (show False from hq).elim
  | .ok (.ret u), hq => exact I1.after hq
  | .ok .next, hq => exact (show False from hq).elim
  | .ok .brk, hq => exact (show False from hq).elim
  | .ok .cont, hq => exact (show False from hq).elim
/-- what is shown of lists and tuples of any depth -/
theorem call_repr_data (gd : X.A.guards = some []) (room : Room k X.A) : CallR X (.builtin "repr") (fun xs H Q => ∃ a d, xs = [.ref a] ∧ Dp X.K H (.ref a) d ∧ d.showable = true ∧ d.hasDict = false ∧ d.depth ≤ 60 ∧ d.shown.length ≤ sizeLine ∧ Q (.str d.shown) H) := by
  intro pins s σ H xs us Q I r h
  obtain ⟨a, d, rfl, hd, sh, nod, dep, sz, q⟩ := h
  obtain ⟨u, rfl, rx⟩ := vals1 r
  cases (show u = Value.ref a from rx)
  obtain ⟨as, rd⟩ := Dp.reads I d _ _ hd rx
  have un := room.un
  refine repr_of_reads' (h₀ := s.heap) rd sh (fun z => by rw [nod] at z; cases z) gd (by omega) (fun _ _ e => e) ?_ sz
  intro h' u tk kp
  exact ⟨.str d.shown, H, I.kept (t' := tk) kp, ⟨u, rfl⟩, q⟩
end
end Ov
namespace Ov
open PySem PySem.Spec PyProof.Rows L2
/-- the law's call, from its promise under no guard -/
theorem callG {P : Program} {w : World} {K : PySem.W.Frag} {mg mb : Str → Option Value} {k : Nat} {fa a : Addr} {fd : FuncData} {x : Str} {sp : Sp} {s : Shared} {vs : List Value} {ns : List Int}
    (KX : K.In s.heap) (hns : s.heap.Ns mainGlobals mg) (hb : s.heap.Ns builtinsNs mb) (hbb : ∀ x : Str, x ≠ "__name__" → mb x = bootBuiltins x) (hlim : s.heap.NoLimit) (hg : s.gens = #[])
    (ha : s.heap.get? a = some { cls := .type "list", data := .seq vs.toArray }) (hi : IntsAre vs ns) (hl : ns.length ≤ sizeLine) (room : Room k callerA)
    (F : ∀ base : Heap, K.In base → base.Ns mainGlobals mg → FnG P w K mg base k fa fd [x] sp) (bind : ∀ (s : Shared) (u : Value), BindsTo s fd ⟨[u], []⟩ [(x, u)])
    (pr : ∀ H : Hp, SqL K H a (ns.map V.int) → sp [.ref a] H (fun v _ => v = .bl true) fun _ _ _ => False) :
    codeAny (model P w) callerA (.call (.ref fa) ⟨[.ref a], []⟩) (fun r s' => r = .ok (.ret (.bool true)) ∧ OldK s.heap s'.heap ∧ s'.os = s.os ∧ AllBare s'.gens) s := by
  have rv : Vals (ns.map V.int) vs := vals_ints hi
  -- what is tracked: the script, unless it is the module's own
  obtain ⟨H, seq, hok, only, sep, froz⟩ : ∃ H : Hp, SqL K H a (ns.map V.int) ∧ HOk P w H s.heap ∧ (∀ b, H b ≠ none → b = a) ∧ (H a ≠ none → K.lookup a = none) ∧ (∀ b u, H b = some u → ∃ o xs, u = .frz o (.lst xs)) := by
    cases hk : K.lookup a with
    | some o =>
      have e : o = { cls := .type "list", data := .seq vs.toArray } := Option.some.inj ((KX a o hk).symm.trans ha)
      subst e
      exact ⟨fun _ => none, .inr ⟨_, vs.toArray, _, hk, rfl, rfl, rfl, by rw [List.size_toArray, hi.length]; exact hl, by simpa using rv⟩, (fun _ _ z => nomatch z), (fun _ z => absurd rfl z), (fun z => absurd rfl z), (fun _ _ z => nomatch z)⟩
    | none =>
      refine ⟨fun b => if b = a then some (.frz { cls := .type "list", data := .seq vs.toArray } (.lst (ns.map V.int))) else none, .inl (.inr ⟨_, if_pos rfl⟩), ?_, ?_, fun _ => rfl, ?_⟩
      · intro b u z
        by_cases e : b = a
        · subst e
          have z' : HO.frz { cls := .type "list", data := .seq vs.toArray } (.lst (ns.map V.int)) = u := Option.some.inj ((if_pos rfl).symm.trans z)
          subst z'
          exact ⟨ha, by rw [List.length_map]; exact hl, vs, _, rv, ha⟩
        · exact absurd ((if_neg e).symm.trans z) (fun y => nomatch y)
      · intro b z
        by_cases e : b = a
        · exact e
        · exact absurd (if_neg e) z
      · intro b u z
        by_cases e : b = a
        · exact ⟨_, _, (Option.some.inj ((if_pos e).symm.trans z)).symm⟩
        · exact absurd ((if_neg e).symm.trans z) (fun y => nomatch y)
  -- the base: all the rest
  have rest : ∀ {b : Addr} {o : Obj}, s.heap.get? b = some o → H b = none → (hidT s.heap H).get? b = some o := fun e n => hidT_get e n
  have gone : ∀ {b : Addr}, b ≠ a → H b = none := fun {b} n => by
    cases z : H b with
    | none => rfl
    | some u => exact absurd (only b (by rw [z]; exact fun y => nomatch y)) n
  have spaces : ∀ {b : Addr} {m : Str → Option Value}, s.heap.Ns b m → (hidT s.heap H).Ns b m := by
    rintro b m ⟨o, es, ep, e, d, r⟩
    refine ⟨o, es, ep, rest e (gone ?_), d, r⟩
    rintro rfl
    have eo : o = { cls := .type "list", data := .seq vs.toArray } := Option.some.inj (e.symm.trans ha)
    rw [eo] at d
    cases (show Data.seq vs.toArray _ = Data.dict es ep from d)
  have kin : K.In (hidT s.heap H) := fun b o e => rest (KX b o e) (by
    cases z : H b with
    | none => rfl
    | some u =>
      have eb := only b (by rw [z]; exact fun y => nomatch y)
      subst eb
      rw [sep (by rw [z]; exact fun y => nomatch y)] at e
      cases e)
  obtain ⟨mc, lim1, lim2⟩ := hlim
  have env : Env0 P w K mg (hidT s.heap H) callerA [] s H :=
    ⟨rfl, ⟨kin, spaces hns, ⟨mb, spaces hb, hbb⟩, ⟨mc, spaces lim1, lim2⟩⟩, fun b o e => of_hidT e, Nat.le_of_eq (hidT_size _ _), trivial, fun b hb => absurd (show b ∈ ([] : List Addr) from hb) (by simp), hok, .of_eq hg⟩
  refine codeAny_mono ((F _ kin (spaces hns)).run callerA [] s H ⟨[.ref a], []⟩ [.ref a] [.ref a] _ _ rfl room env (bind s (.ref a)) (.cons rfl .nil) (pr H seq)) ?_
  intro r s' h
  match r, h with
  | .error e, h => exact (show False from h).elim
  | .ok .next, h => exact (show False from h).elim
  | .ok .brk, h => exact (show False from h).elim
  | .ok .cont, h => exact (show False from h).elim
  | .ok (.ret u), ⟨v, H', os, bare, un, hok', rel, q⟩ =>
    have ev : v = .bl true := q
    subst ev
    obtain rfl : u = Value.bool true := rel
    refine ⟨rfl, OldK.of_keep fun b o e => ?_, os, bare⟩
    cases z : H b with
    | none => exact un.keep b o e z (fun y => absurd (show b ∈ ([] : List Addr) from y) (by simp)) (by simp)
    | some u =>
      obtain ⟨ob, xs, rfl⟩ := froz b u z
      have h1 := (hok b _ z).1
      have h2 := (hok' b _ (un.frzs b ob _ z)).1
      have eo : o = ob := Option.some.inj (e.symm.trans h1)
      rw [eo]
      exact h2
theorem walkG {l : PySem.W.OpenLaw} {n k : Nat} {q : Program} {loose : List Str} {XP : (Str → Option Value) → Heap → Prop} {YP : World → Heap → Prop} {d : DefRec} {K : Params → PySem.W.Frag} {sp : PySem.W.Frag → Sp} {x : Str}
    (hn : l.most = some n) (hn2 : n ≤ sizeLine) (hdf : d.params.defaults = []) (room : Room k callerA) (hY : ∀ (w : World) (h : Heap), YP w h → (K w.params).In h)
    (F : ∀ (w : World) (mg : Str → Option Value) (fa : Addr) (h : Heap), (K w.params).In h → h.Ns mainGlobals mg → mg d.name = some (.ref fa) →
      ∃ fd : FuncData, (∀ (s : Shared) (u : Value), BindsTo s fd ⟨[u], []⟩ [(x, u)]) ∧ ∀ base : Heap, (K w.params).In base → base.Ns mainGlobals mg → FnG l.prog w (K w.params) mg base k fa fd [x] (sp (K w.params)))
    (pr : ∀ (K : PySem.W.Frag) (H : Hp) (a : Addr) (ns : List Int), ns.length ≤ n → SqL K H a (ns.map V.int) → sp K [.ref a] H (fun v _ => v = .bl true) fun _ _ _ => False) :
    PySem.W.WalkO q loose XP YP l.row.toRowW d [] (fun f vs => PySem.call f vs) := by
  refine Att.attach_call hn hdf ?_
  intro w s₀ s₁ mg mb fa o pm cd doc a vs ns G Y ho hd hcd hmg hobj hints hlen hg
  have kin := hY w _ Y
  obtain ⟨fd, bind, okF⟩ := F w mg fa _ kin G.T.g hmg
  exact callG kin G.T.g G.T.b G.T.builtins G.T.nolimit hg hobj hints (Nat.le_trans hlen hn2) room okF bind fun H seq => pr (K w.params) H a ns hlen seq
end Ov
namespace Ov
open PySem PySem.Spec PyProof.Rows L2
/-! ### how long a shown value may be -/
mutual
def nodes : PyData → Nat
  | .str x => 1 + (reprText x).length
  | .list xs => 1 + nodesAll xs
  | .tuple xs => 1 + nodesAll xs
  | .none => 1
  | .bool _ => 1
  | .int _ => 1
  | .dict kvs => 1 + (dictText (PyData.shownKv kvs)).length
def nodesAll : List PyData → Nat
  | [] => 0
  | x :: xs => nodes x + nodesAll xs
end
theorem strLen0 : (Str.ofString "None").length = 4 := by decide +kernel
theorem listText_le (ts : List Str) : (listText ts).length ≤ piled ts + 2 := by
  rw [listText_eq_join, strLen_append, strLen_append]
  have a : (Str.ofString "[").length = 1 := by decide +kernel
  have b : (Str.ofString "]").length = 1 := by decide +kernel
  cases ts with
  | nil =>
    have : (Str.join (Str.ofString ", ") []).length = 0 := by decide +kernel
    rw [a, b, this]; omega
  | cons t ts =>
    have := join_length_add (t :: ts) (List.cons_ne_nil _ _)
    rw [a, b]; omega
theorem tupleText_le (ts : List Str) : (tupleText ts).length ≤ piled ts + 3 := by
  unfold tupleText
  rw [strLen_append, strLen_append]
  have a : (Str.ofString "(").length = 1 := by decide +kernel
  have b : (Str.ofString (if (ts.length == 1) = true then ",)" else ")" : String)).length ≤ 2 := by
    by_cases h : (ts.length == 1) = true
    · rw [if_pos h]; decide +kernel
    · rw [if_neg h]; decide +kernel
  cases ts with
  | nil =>
    have : (Str.join (Str.ofString ", ") []).length = 0 := by decide +kernel
    rw [a, this]
    exact Nat.le_trans (Nat.add_le_add_left b _) (by omega)
  | cons t ts =>
    have := join_length_add (t :: ts) (List.cons_ne_nil _ _)
    rw [a]
    omega
mutual
theorem shown_le : ∀ d : PyData, d.showable = true → d.shown.length + 10 ≤ 2000 * nodes d
  | .none, _ => by
    simp only [PyData.shown, nodes]
    rw [strLen0]; decide
  | .bool b, _ => by
    simp only [PyData.shown, nodes]
    cases b <;> decide +kernel
  | .int i, h => by
    simp only [PyData.shown, nodes]
    have := int_text_len_1921 (i := i) (by simpa [PyData.showable] using h)
    omega
  | .str x, _ => by
    simp only [PyData.shown, nodes]
    omega
  | .list xs, h => by
    simp only [PyData.shown, nodes]
    have := shownAll_le xs (by simpa [PyData.showable] using h)
    have := listText_le (PyData.shownAll xs)
    omega
  | .tuple xs, h => by
    simp only [PyData.shown, nodes]
    have := shownAll_le xs (by simpa [PyData.showable] using h)
    have := tupleText_le (PyData.shownAll xs)
    omega
  | .dict kvs, _ => by
    simp only [PyData.shown, nodes]
    omega
theorem shownAll_le : ∀ xs : List PyData, PyData.showableAll xs = true → piled (PyData.shownAll xs) ≤ 2000 * nodesAll xs
  | [], _ => by
    simp only [PyData.shownAll, nodesAll]
    decide +kernel
  | x :: xs, h => by
    have h' : x.showable = true ∧ PyData.showableAll xs = true := by simpa [PyData.showableAll] using h
    have h1 := shown_le x h'.1
    have h2 := shownAll_le xs h'.2
    simp only [PyData.shownAll, nodesAll]
    rw [piled_cons]
    omega
end
theorem fits_shown {d : PyData} (h : d.showable = true) (n : nodes d ≤ 8000) : d.shown.length ≤ sizeLine := by
  have := shown_le d h
  rw [sizeLine_eq]
  omega
/-! ### ints and least sums as data -/
theorem dp_ints {K : PySem.W.Frag} {H : Hp} : ∀ ns : List Int, DpAll K H (ns.map V.int) (ns.map PyData.int)
  | [] => .nil
  | n :: ns => .cons (.int n) (dp_ints ns)
/-- a plain value: None, a bool, an int that is not too great to be shown -/
inductive Sc : PyData → Prop
  | non : Sc .none
  | bl (b : Bool) : Sc (.bool b)
  | int (i : Int) (h : i.natAbs.log2 < 1920) : Sc (.int i)
theorem Sc.small {i : Int} (h : i.natAbs < 2 ^ 1000) : Sc (.int i) := by
  refine .int i ?_
  by_cases e : i.natAbs = 0
  · rw [e]; decide
  · exact Nat.lt_of_lt_of_le ((Nat.log2_lt e).mpr h) (by decide)
structure Flat (ds : List PyData) : Prop where
  lay : PyData.canLayAll0 ds = true
  dep : PyData.depthAll ds = 0
  sh : PyData.showableAll ds = true
  nod : PyData.hasDictAll ds = false
  nds : nodesAll ds = ds.length
theorem flat_of : ∀ {ds : List PyData}, (∀ d ∈ ds, Sc d) → Flat ds
  | [], _ => ⟨by simp [PyData.canLayAll0], by simp [PyData.depthAll], by simp [PyData.showableAll], by simp [PyData.hasDictAll], by simp [nodesAll]⟩
  | d :: ds, h => by
    obtain ⟨h1, h2, h3, h4, h5⟩ := flat_of (ds := ds) fun x hx => h x (List.mem_cons_of_mem _ hx)
    have hd := h d List.mem_cons_self
    refine ⟨?_, ?_, ?_, ?_, ?_⟩
    · cases hd <;> simp [PyData.canLayAll0, PyData.canLay0, h1]
    · cases hd <;> simp [PyData.depthAll, PyData.depth, h2]
    · cases hd <;> simp_all [PyData.showableAll, PyData.showable]
    · cases hd <;> simp [PyData.hasDictAll, PyData.hasDict, h4]
    · cases hd <;> simp [nodesAll, nodes, h5] <;> omega
theorem shaped_tup {ds : List PyData} (f : Flat ds) : SeqAt.shaped (.tuple ds) = true := by
  unfold SeqAt.shaped
  simp [PyData.canLay0, PyData.depth, f.lay, f.dep]
theorem shaped_lst {ds : List PyData} (f : Flat ds) : SeqAt.shaped (.list ds) = true := by
  unfold SeqAt.shaped
  simp [PyData.canLay0, PyData.depth, f.lay, f.dep]
theorem flat_ints {ns : List Int} (h : ∀ n ∈ ns, n.natAbs < 2 ^ 1000) : Flat (ns.map PyData.int) := flat_of fun d hd => by
  obtain ⟨n, hn, rfl⟩ := List.mem_map.mp hd
  exact .small (h n hn)
theorem eqv_nil : ∀ ds : List PyData, PyData.eqv (.tuple ds) (.tuple []) = ds.isEmpty
  | [] => by simp [PyData.eqv, PyData.eqvAll]
  | d :: ds => by simp [PyData.eqv, PyData.eqvAll]
end Ov
namespace Ov
open PySem PySem.Spec PyProof.Rows L2
section
variable {X : Cx} {k : Nat}
/-- max of a tuple of ints -/
theorem cr_maxT (hc : X.calm = true) (room : Room k X.A) : CallR X (.builtin "max") (fun vs H Q => ∃ (a : Addr) (n : Int) (ns : List Int), vs = [.ref a] ∧ SqT X.K H a ((n :: ns).map V.int) ∧ Q (.int (ns.foldl max n)) H) := by
  intro pins s σ H vs us Q I r h
  obtain ⟨a, n, ns, rfl, hs, q⟩ := h
  obtain ⟨its, rv, pl, _⟩ := I.tuple hs
  obtain ⟨as, rd⟩ := Dp.readsAll I ((n :: ns).map PyData.int) _ its (dp_ints (n :: ns)) rv
  rw [Vals.ref1 r]
  have un := room.un
  have dep : PyData.depthAll ((n :: ns).map PyData.int) = 0 := by
    generalize n :: ns = l
    induction l with
    | nil => simp [PyData.depthAll]
    | cons x l ih => simp [PyData.depthAll, PyData.depth, ih]
  have ali : PySem.W.AlikeAll ((n :: ns).map PyData.int) := by
    constructor
    · intro x hx y hy
      obtain ⟨i, _, rfl⟩ := List.mem_map.mp hx
      obtain ⟨j, _, rfl⟩ := List.mem_map.mp hy
      simp [PySem.W.alike]
    · intro x hx
      obtain ⟨i, _, rfl⟩ := List.mem_map.mp hx
      exact fun z => nomatch z
  rw [List.map_cons] at rd ali dep
  refine PySem.W.max_tuple_data (I.ok.hd hc) pl (by simpa using rd) ali (by rw [dep]; omega) ?_
  intro i v h' tk bs hi hr kp
  rw [PySem.W.maxD_ints] at hr
  cases hr with
  | int => exact ⟨.int _, H, I.kept kp, ⟨_, rfl⟩, q⟩
end
end Ov
namespace Ov
open PySem PySem.Spec PyProof.Rows L2
/-! ### texts by their codes; a text so many times; list(range(n)) -/
def txt (l : List Nat) : Str := ⟨l.toArray⟩
theorem txt_inj {a b : List Nat} (h : txt a = txt b) : a = b := by
  have : a.toArray = b.toArray := congrArg Str.cps h
  simpa using congrArg Array.toList this
theorem txt_len (l : List Nat) : (txt l).length = l.length := by
  show l.toArray.size = _
  simp
theorem fold_reps : ∀ (k : Nat) (l : List Nat) (acc : Array Nat), (List.replicate k l.toArray).foldl (· ++ ·) acc = acc ++ (List.replicate k l).flatten.toArray
  | 0, l, acc => by simp
  | k + 1, l, acc => by
    rw [List.replicate_succ, List.foldl_cons, fold_reps k l, List.replicate_succ, List.flatten_cons]
    simp
section
variable {X : Cx}
/-- a text times a small number -/
theorem op_mulS : OpR X (binaryOp .Mult) (fun x y H Q => ∃ (l : List Nat) (n : Int), x = .str (txt l) ∧ y = .int n ∧ 0 ≤ n ∧ n ≤ 1000 ∧ l.length ≤ 1000 ∧ Q (.str (txt (List.replicate n.toNat l).flatten)) H) := by
  intro pins s σ H x y v u Q I rx ry h
  obtain ⟨l, n, rfl, rfl, h0, h1, hl, q⟩ := h
  obtain ⟨t, rfl⟩ := rx
  obtain ⟨t', rfl⟩ := ry
  have hlen := txt_len l
  have fin : ∀ (tk tk' : Nat), EP X pins σ Q (.str (txt (List.replicate n.toNat l).flatten) tk) { s with toks := tk' } := fun tk tk' => ⟨.str _, H, I.tok _, ⟨_, rfl⟩, q⟩
  refine PySem.P.mul_str ?_ ?_ ?_ ?_
  · rw [decide_eq_false (show ¬ n < -(2 ^ 63 : Int) by omega), decide_eq_false (show ¬ n ≥ 2 ^ 63 by omega)]
    rfl
  · intro a b
    rw [hlen]
    have hn : 1 ≤ n := by omega
    have : (1000 : Int) ≤ (2 ^ 63 - 1) / n := by
      rw [Int.le_ediv_iff_mul_le (by omega)]
      omega
    omega
  · intro a b
    rw [hlen]
    refine decide_eq_false ?_
    rw [sizeLine_eq]
    have : l.length * n.toNat ≤ 1000 * 1000 := Nat.mul_le_mul hl (by omega)
    omega
  · by_cases c : n < 1
    · rw [if_pos c]
      have hn : n.toNat = 0 := by omega
      have := fin s.toks (s.toks + 1)
      rw [hn] at this
      exact ⟨Nat.zero_le _, this⟩
    · rw [if_neg c]
      by_cases d : (n == 1 || (txt l).length == 0) = true
      · rw [if_pos d]
        have e : txt (List.replicate n.toNat l).flatten = txt l := by
          rcases Bool.or_eq_true_iff.mp d with d | d
          · have : n = 1 := eq_of_beq d
            subst this
            simp
          · have hz : l.length = 0 := by rw [← hlen]; exact eq_of_beq d
            have : l = [] := List.eq_nil_of_length_eq_zero hz
            subst this
            simp
        have := fin t s.toks
        rw [e] at this
        exact this
      · rw [if_neg d]
        have e : (⟨(List.replicate n.toNat (txt l).cps).foldl (· ++ ·) #[]⟩ : Str) = txt (List.replicate n.toNat l).flatten := by
          show (⟨(List.replicate n.toNat l.toArray).foldl (· ++ ·) #[]⟩ : Str) = _
          rw [fold_reps]
          simp [txt]
        rw [e]
        refine ⟨?_, fin s.toks (s.toks + 1)⟩
        rw [txt_len, sizeLine_eq]
        have h2 : (List.replicate n.toNat l).flatten.length = n.toNat * l.length := by simp
        rw [h2]
        have : n.toNat * l.length ≤ 1000 * 1000 := Nat.mul_le_mul (by omega) hl
        omega
/-- list(range(n)) -/
theorem pe_listRange {a : Expr} {ta : TE} {p p2 q pos : Pos} (hg : Gl X "list") (hm : X.mg "list" = none) (hg2 : Gl X "range") (hm2 : X.mg "range" = none) (ha : PE X a ta) (hc : X.calm = true := by rfl)
    (na : starEach [a] X.env = (false, eval a X.env) :: starEach [] X.env := by rfl) :
    PE X (.Call (.Name "list" p) [.Call (.Name "range" p2) [a] [] q] [] pos) (fun σ H Q => ta σ H fun x H1 => ∃ n : Nat, x = .int (n : Int) ∧ n ≤ 100000 ∧ ∀ l, H1 l = none → Q (.ref l) (upd H1 l (.lst ((List.range n).map fun i : Nat => V.int (i : Int))))) := by
  constructor
  intro pins s σ H Q I h
  have bl : bootBuiltins "list" = some (.type "list") := by decide +kernel
  refine Call_ (ld_blt I hg hm bl (PyProof.Rows.callWith_type1 (PyProof.Rows.args_cons ?_ rfl) rfl rfl))
  refine Call_ (ld_blt I hg2 hm2 boot_range (PyProof.Rows.callWith_type1 (PyProof.Rows.args_cons (thn (ha.run pins s σ H _ I h) ?_) na) na rfl))
  rintro v s1 ⟨x, H1, I1, r1, n, rfl, hn, q1⟩
  obtain ⟨t, rfl⟩ := r1
  refine PyProof.Rows.args_nil (call_range_1 (PyProof.Rows.args_nil ?_))
  have hsmall : Builtin.Range.small 0 (n : Int) 1 = true := small_one (by omega) (by omega) (by omega) (by omega)
  refine call_list_range (n := n) (I1.ok.hd hc) (Heap.get?_push_size _ rfl) hsmall ?_ (by omega) ?_
  · rw [rangeSize_nat]
    simp
  · intro h' tk acc c kp hat hit
    have vals : Vals ((List.range n).map fun i : Nat => V.int (i : Int)) acc.toList := by
      obtain ⟨hz, hv⟩ := hit
      have key : ∀ (l : List Value) (k : Nat), (∀ j v, l[j]? = some v → ∃ t, v = Value.int (0 + ((k + j : Nat) : Int) * 1) t) → Vals ((List.range' k l.length).map fun i : Nat => V.int (i : Int)) l := by
        intro l
        induction l with
        | nil => intro k _; exact .nil
        | cons v l ih =>
          intro k hk
          rw [List.length_cons, List.range'_succ, List.map_cons]
          refine .cons ?_ (ih (k + 1) fun j w hj => ?_)
          · obtain ⟨t, e⟩ := hk 0 v rfl
            exact ⟨t, by rw [e, show (0 + ((k + 0 : Nat) : Int) * 1) = (k : Int) by omega]⟩
          · obtain ⟨t, e⟩ := hk (j + 1) w hj
            exact ⟨t, by rw [e, show (0 + ((k + (j + 1) : Nat) : Int) * 1) = (0 + ((k + 1 + j : Nat) : Int) * 1) by omega]⟩
      have := key acc.toList 0 (fun j v hj => by
        obtain ⟨t, e⟩ := hv j v (by simpa using hj)
        exact ⟨t, by rw [e, show (0 + ((0 + j : Nat) : Int) * 1) = (0 + ((j : Nat) : Int) * 1) by omega]⟩)
      rw [Array.length_toList, hz, ← List.range_eq_range'] at this
      exact this
    have old : ∀ b o, s1.heap.get? b = some o → h'.get? b = some o := fun b o e => kp b o (Heap.get?_push_of_some _ e)
    have ez : ∀ (o : Obj), (s1.heap.push o).objs.size = s1.heap.objs.size + 1 := fun o => Heap.size_push _ _
    rw [ez] at hat ⊢
    have fit : ((List.range n).map fun i : Nat => V.int (i : Int)).length ≤ sizeLine := by
      rw [List.length_map, List.length_range, sizeLine_eq]
      omega
    exact ⟨.ref _, upd H1 (s1.heap.objs.size + 1) (.lst _), I1.laid (t' := tk) old (Nat.le_succ _) ⟨fit, acc.toList, c, vals, hat⟩, rfl, q1 _ (I1.hok.fresh (Nat.le_succ _))⟩
end
end Ov
namespace Ov
open PySem PySem.Spec PyProof.Rows L2
/-! ### a set of texts, made of a list of unlike ones: how many it holds -/
/-- the empty set as it is made -/
abbrev noText (led : Bool) : Obj := { cls := .type "set", dict := none, data := .set #[] 0 (.fresh 0 0 led) }
section
variable {prog : Program} {w : World} {A : Around} {R : Result → Shared → Prop} {it : Addr} {fp wr : List Addr} {G : Array GenState → Array GenState → Prop} {n : Nat} {P : Nat → Value → Prop} {St : Nat → Shared → Prop}
theorem has_next {xs : List Str} (nd : xs.Nodup) {i : Nat} (hi : i < xs.length) : (xs.take i).any (· == xs[i]) = false := by
  rw [List.any_eq_false]
  intro y hy e
  have ey : y = xs[i] := eq_of_beq e
  obtain ⟨j, hj, ej⟩ := List.mem_take_iff_getElem.mp hy
  have hlt : j < i := by omega
  exact (List.pairwise_iff_getElem.mp nd j i (by omega) hi hlt) (ej.trans ey)
/-- texts put into it, one behind another -/
theorem texts_in (W : WalksS prog w A.in1 it fp wr G n P St) (S : Addr) (out : S ∉ fp) {xs : List Str} (len : xs.length = n) (nd : xs.Nodup) (few : n + 1 < scanBound)
    (val : ∀ (i : Nat) (hi : i < xs.length) (v : Value), P i v → ∃ t, v = .str xs[i] t) :
    ∀ (left i : Nat) (s : Shared), i + left = n → St i s → s.heap.SetOf (PySem.strKind prog w) S (fun k => (xs.take i).any (· == k)) i →
      (∀ s', Moved (S :: wr) G s s' → s'.heap.SetOf (PySem.strKind prog w) S (fun k => xs.any (· == k)) n → R (.ok (.ret .none)) s') →
      codeAny (model prog w) A (.builtin "set.update.loop" ⟨[.ref S, .ref it], []⟩) R s := by
  have outw : S ∉ wr := fun z => out (W.sub _ z)
  have wide : ∀ b ∈ wr, b ∈ S :: wr := fun b z => List.mem_cons_of_mem _ z
  have carry : ∀ {s s' : Shared} {f : Str → Bool} {c : Nat}, Moved wr G s s' → s.heap.SetOf (PySem.strKind prog w) S f c → s'.heap.SetOf (PySem.strKind prog w) S f c := by
    rintro s s' f c mv ⟨o, es, ep, t, ho, more⟩
    exact ⟨o, es, ep, t, mv.heap S _ outw ho, more⟩
  intro left
  induction left with
  | zero =>
    intro i s e st hS fin
    obtain rfl : i = n := by omega
    refine codeAny_builtin PyProof.Rows.F.entry_set_update_loop ?_
    rw [Around.under_plainId PyProof.Rows.F.plain_set_update_loop _]
    refine wpAny_bind (W.done s _ _ st fun s' mv => wpAny_pure (fin s' (mv.mono wide) ?_))
    have := carry mv hS
    rwa [← len, List.take_length, len] at this
  | succ left ih =>
    intro i s e st hS fin
    have hi : i < xs.length := by omega
    refine codeAny_builtin PyProof.Rows.F.entry_set_update_loop ?_
    rw [Around.under_plainId PyProof.Rows.F.plain_set_update_loop _]
    refine wpAny_bind (W.item i s _ _ (by omega) st ?_)
    intro v s' pv st' mv
    obtain ⟨t, rfl⟩ := val i hi v pv
    refine wpAny_bind (wpAny_holding ?_)
    unfold setAdd
    refine wpAny_holding (wpAny_bind ((PySem.strKind prog w).pyHash (k := xs[i]) (strKind_is _ _ _ _) ?_))
    have held := carry mv hS
    refine wpAny_setAddHashed_of (knd := PySem.strKind prog w) (s := { s' with toks := s'.toks + 1 }) (strKind_is _ _ _ _) rfl held (by omega) ?_
    intro h' but hS2
    rw [has_next nd hi] at hS2
    have grown : h'.SetOf (PySem.strKind prog w) S (fun k => (xs.take (i + 1)).any (· == k)) (i + 1) := by
      refine SetOf_congr hS2 (fun k => ?_) rfl
      rw [List.take_add_one, List.getElem?_eq_getElem hi, List.any_append]
      congr 1
      show decide (k = xs[i]) = ([xs[i]].any (· == k))
      by_cases z : k = xs[i]
      · subst z; simp
      · have : (xs[i] == k) = false := beq_eq_false_iff_ne.mpr fun y => z y.symm
        simp [z, this]
    refine wpAny_pure ⟨plainId_quiet PyProof.Rows.F.plain_set_update_loop _, ih (i + 1) _ (by omega) (W.frame _ s' _ _ st' (Nat.le_succ _) ?_) grown ?_⟩
    · intro b hb o eb
      rw [but.2 b fun z => out (z ▸ hb)]
      exact eb
    · intro s'' mv'' hS''
      refine fin s'' (Moved.trans W.gtrans ((mv.mono wide).then_heap (Nat.le_succ _) ?_) mv'') hS''
      intro b o hb eb
      rw [but.2 b fun z => hb (z ▸ List.mem_cons_self)]
      exact eb
end
section
variable {prog : Program} {w : World} {A : Around} {E : Value → Shared → Prop} {s : Shared}
theorem set_texts {l : Addr} {items : Array Value} {xs : List Str} {Q : Value → Shared → Prop} (hh : A.handled = none) (hl : s.heap.IsList l items) (hi : StrsAre items.toList xs) (nd : xs.Nodup) (few : xs.length + 1 < scanBound)
    (h : ∀ (h' : Heap) (tk : Nat), h'.SetOf (PySem.strKind prog w) s.heap.objs.size (fun k => xs.any (· == k)) xs.length → (∀ b o, b < s.heap.objs.size → s.heap.get? b = some o → h'.get? b = some o) → Q (.ref s.heap.objs.size) { s with heap := h', toks := tk }) :
    wpAny (model prog w) A (call (.type "set") [.ref l]) Q E s := by
  obtain ⟨c, tl, hmro⟩ := PySem.F.called_set.mro
  have q1 := PySem.F.called_set.made
  have q2 := PySem.F.called_set.sub
  have q3 := PySem.F.called_set.notType
  have q4 := PySem.F.called_set.canCreate
  have q5 := PySem.F.typeCall_set_1 (.ref l)
  refine wpAny_call (codeAny_of_tree ?_)
  show wpAny _ _ (callAny (.type "set") _) _ _ _
  refine wpAny_pure ⟨Code.quiet_builtin _ (by decide +kernel), codeAny_builtin PySem.F.entry_type_call ?_⟩
  rw [Around.under_plain (weight_type_call_type "set" [.ref l] []) rfl]
  repeat (any_goals (first | assumption | wp_step))
  refine codeAny_mono (code_set_new_1 (.ref l) (E := E) (Q₁ := fun obj s₁ => ∃ led : Bool, obj = .ref s.heap.objs.size ∧ s₁ = { s with heap := s.heap.push (noText led) }) fun led => ⟨led, rfl, rfl⟩) ?_
  intro r s₁ hr
  match r, hr with
  | .error e, hr => exact hr
  | .ok .next, hr => exact hr.elim
  | .ok .brk, hr => exact hr.elim
  | .ok .cont, hr => exact hr.elim
  | .ok (.ret obj), ⟨led, e1, e2⟩ =>
    subst e1 e2
    have at_ : (s.heap.push (noText led)).get? s.heap.objs.size = some (noText led) := Heap.get?_push_size _ rfl
    have ty : Shared.TypeIs { s with heap := s.heap.push (noText led) } (.ref s.heap.objs.size) "set" := ⟨_, at_, rfl⟩
    have q6 := PySem.F.called_set.init.lookup
    have q7 := PySem.F.called_set.init.bind (.ref s.heap.objs.size)
    repeat (any_goals (first | assumption | wp_step))
    refine codeAny_mono (codeAny_call_builtin (R := wants (fun r s₂ => r = .none ∧ ∃ h' tk, s₂ = { s with heap := h', toks := tk } ∧ h'.SetOf (PySem.strKind prog w) s.heap.objs.size (fun k => xs.any (· == k)) xs.length ∧
        (∀ b o, b < s.heap.objs.size → s.heap.get? b = some o → h'.get? b = some o)) E) PySem.F.called_set.init.plain PySem.F.entry_set_init (check_set_init_1 ty ?_)) ?_
    · obtain ⟨⟨cl, dc, dt, sl⟩, hol, hcl, nl, hdl⟩ := hl
      dsimp only at hcl hdl
      subst hcl hdl
      have below := Heap.lt_size hol
      have hol' : (s.heap.push (noText led)).get? l = some { cls := .type "list", dict := dc, data := .seq items nl, slots := sl } := Heap.get?_push_of_some _ hol
      have hl1 : (s.heap.push (noText led)).IsList l items := ⟨_, hol', rfl, nl, rfl⟩
      have q8 := PySem.F.sub_list_set
      have q9 := PySem.F.sub_list_frozenset
      have q0 : (Value.type "list" == Value.type "dict") = false := by decide
      unfold Builtin.«set.__init__» noKeywords Builtin.Frozenset.updateFrom
      generalize hPI : pyIter = PI
      wp_walk
      subst hPI
      have sz : (s.heap.push (noText led)).objs.size = s.heap.objs.size + 1 := Heap.size_push _ _
      have calm3 : A.in1.in1.in1.handled = none := by simp [hh]
      have apart : l ≠ (s.heap.push (noText led)).objs.size := by rw [sz]; exact Nat.ne_of_lt (Nat.lt_succ_of_lt below)
      have far : s.heap.objs.size ∉ [(s.heap.push (noText led)).objs.size, l] := by
        rw [sz]
        simp only [List.mem_cons, List.not_mem_nil, or_false, not_or]
        exact ⟨Nat.ne_of_lt (Nat.lt_succ_self _), Nat.ne_of_gt below⟩
      have len : xs.length = items.size := by rw [← StrsAre.len_eq hi, Array.length_toList]
      refine wpAny_pyIter_list hl1 (wpAny_bind (wpAny_runValue ?_))
      refine texts_in ((Walks.list calm3 _ l apart items).toS) s.heap.objs.size far len nd (by rw [← len]; exact few) (fun i hlt v hv => ?_) items.size 0 _ (by omega) ⟨⟨_, Heap.get?_push_size _ rfl, rfl, rfl⟩, hl1.push _⟩ ?_ ?_
      · obtain ⟨t, e⟩ := SS.strs_at hi i v (by rw [Array.getElem?_toList]; exact hv)
        refine ⟨t, ?_⟩
        rw [e, List.getD_eq_getElem?_getD, List.getElem?_eq_getElem hlt]
        rfl
      · exact SetOf_congr ((setObjOf_fresh (knd := PySem.strKind prog w) led).setOf (Heap.get?_push_of_some _ at_) (by unfold scanBound; omega)) (fun _ => rfl) rfl
      · rintro ⟨h', g', d', tk', os'⟩ mv hS'
        have eg : g' = s.gens := mv.gens
        have ed : d' = s.drawn := mv.drawn
        have eo : os' = s.os := mv.os
        subst eg ed eo
        refine wpAny_pure (wpAny_pure ⟨rfl, h', tk', rfl, by rw [len]; exact hS', ?_⟩)
        intro b o hb eb
        refine mv.heap b o ?_ (Heap.get?_push_of_some _ (Heap.get?_push_of_some _ eb))
        rw [sz]
        simp only [List.mem_cons, List.not_mem_nil, or_false, not_or]
        exact ⟨Nat.ne_of_lt hb, Nat.ne_of_lt (Nat.lt_succ_of_lt hb)⟩
    · intro r₂ s₂ hr₂
      match r₂, hr₂ with
      | .error e, hr₂ => exact hr₂
      | .ok .next, hr₂ => exact hr₂.elim
      | .ok .brk, hr₂ => exact hr₂.elim
      | .ok .cont, hr₂ => exact hr₂.elim
      | .ok (.ret r), ⟨e1, h', tk, e2, hS', kp⟩ =>
        subst e1 e2
        repeat (any_goals (first | assumption | wp_step))
        exact h _ _ hS' kp
end
section
variable {X : Cx}
/-- len(set(xs)), xs a list of unlike texts -/
theorem pe_lenSetT {a : Expr} {ta : TE} {p p2 q pos : Pos} (hc : X.calm = true) (hg : Gl X "len") (hm : X.mg "len" = none) (hg2 : Gl X "set") (hm2 : X.mg "set" = none) (ha : PE X a ta)
    (na : starEach [a] X.env = (false, eval a X.env) :: starEach [] X.env := by rfl) :
    PE X (.Call (.Name "len" p) [.Call (.Name "set" p2) [a] [] q] [] pos) (fun σ H Q => ta σ H fun x H1 => ∃ (l : Addr) (xs : List Str), x = .ref l ∧ SqL X.K H1 l (xs.map V.str) ∧ xs.Nodup ∧ xs.length ≤ 4000 ∧ Q (.int (xs.length : Int)) H1) := by
  constructor
  intro pins s σ H Q I h
  refine Call_ (ld_blt I hg hm boot_len (PyProof.Rows.callWith_builtin1 (PyProof.Rows.args_cons ?_ rfl) rfl rfl))
  refine Call_ (ld_blt I hg2 hm2 boot_set (PyProof.Rows.callWith_type1 (PyProof.Rows.args_cons (thn (ha.run pins s σ H _ I h) ?_) na) na rfl))
  rintro v s1 ⟨x, H1, I1, r1, l, xs, rfl, hq, nd, few, q1⟩
  cases r1
  refine PyProof.Rows.args_nil ?_
  obtain ⟨its, r, pl, hz⟩ := I1.list hq
  refine set_texts (I1.ok.hd hc) pl.isList (by simpa using strsAre_of r) nd (by unfold scanBound; omega) ?_
  intro h' tk hS kp
  refine PyProof.Rows.args_nil ?_
  obtain ⟨o, es, ep, t, ho, hex, hd, _, _, _, hf, hn⟩ := hS
  have I2 : Inv X pins σ H1 { s1 with heap := h', toks := tk } := I1.kept fun b o e => kp b o (Heap.lt_size e) e
  exact call_len_set ho hex hd hf (by rw [hn]; omega) ⟨.int xs.length, H1, I2.tok _, ⟨_, by rw [hn]⟩, q1⟩
end
end Ov
namespace Ov
open PySem PySem.Spec PyProof.Rows L2
/-! ### things of any kind: None, bools, ints, texts, lists, tuples and empty dicts, of any depth -/
mutual
inductive Dx (K : PySem.W.Frag) (H : Hp) : V → PyData → Prop
  | non : Dx K H .non .none
  | bl (b : Bool) : Dx K H (.bl b) (.bool b)
  | int (i : Int) : Dx K H (.int i) (.int i)
  | str (x : Str) : Dx K H (.str x) (.str x)
  | dct {a : Addr} : H a = some (.dK []) → Dx K H (.ref a) (.dict [])
  | lst {a : Addr} {xs : List V} {ds : List PyData} : SqL K H a xs → DxAll K H xs ds → Dx K H (.ref a) (.list ds)
  | tup {a : Addr} {xs : List V} {ds : List PyData} : SqT K H a xs → DxAll K H xs ds → Dx K H (.ref a) (.tuple ds)
inductive DxAll (K : PySem.W.Frag) (H : Hp) : List V → List PyData → Prop
  | nil : DxAll K H [] []
  | cons {v : V} {vs : List V} {d : PyData} {ds : List PyData} : Dx K H v d → DxAll K H vs ds → DxAll K H (v :: vs) (d :: ds)
end
theorem sqL_same {K : PySem.W.Frag} {H H' : Hp} {a : Addr} {xs : List V} (e : Same H H') (h : SqL K H a xs) : SqL K H' a xs := by
  rcases h with (h | ⟨o, h⟩) | h
  · exact .inl (.inl (e _ _ h))
  · exact .inl (.inr ⟨o, e _ _ h⟩)
  · exact .inr h
mutual
theorem Dx.same {K : PySem.W.Frag} {H H' : Hp} (e : Same H H') : ∀ {v : V} {d : PyData}, Dx K H v d → Dx K H' v d
  | _, _, .non => .non
  | _, _, .bl b => .bl b
  | _, _, .int i => .int i
  | _, _, .str x => .str x
  | _, _, .dct h => .dct (e _ _ h)
  | _, _, .lst h a => .lst (sqL_same e h) (DxAll.same e a)
  | _, _, .tup h a => .tup (e.tup h) (DxAll.same e a)
theorem DxAll.same {K : PySem.W.Frag} {H H' : Hp} (e : Same H H') : ∀ {vs : List V} {ds : List PyData}, DxAll K H vs ds → DxAll K H' vs ds
  | _, _, .nil => .nil
  | _, _, .cons h a => .cons (Dx.same e h) (DxAll.same e a)
end
theorem DxAll.at {K : PySem.W.Frag} {H : Hp} : ∀ {vs : List V} {ds : List PyData}, DxAll K H vs ds → ∀ {i : Nat} {v : V}, vs[i]? = some v → ∃ d, ds[i]? = some d ∧ Dx K H v d
  | _, _, .nil, i, v, e => by simp at e
  | _, _, .cons h a, 0, v, e => by cases e; exact ⟨_, rfl, h⟩
  | _, _, .cons h a, i + 1, v, e => a.at (i := i) e
theorem DxAll.len {K : PySem.W.Frag} {H : Hp} : ∀ {vs : List V} {ds : List PyData}, DxAll K H vs ds → vs.length = ds.length
  | _, _, .nil => rfl
  | _, _, .cons _ a => by rw [List.length_cons, List.length_cons, a.len]
theorem DxAll.app {K : PySem.W.Frag} {H : Hp} : ∀ {vs us : List V} {ds es : List PyData}, DxAll K H vs ds → DxAll K H us es → DxAll K H (vs ++ us) (ds ++ es)
  | _, _, _, _, .nil, b => b
  | _, _, _, _, .cons h a, b => .cons h (a.app b)
theorem dx_ints {K : PySem.W.Frag} {H : Hp} : ∀ ns : List Int, DxAll K H (ns.map V.int) (ns.map PyData.int)
  | [] => .nil
  | n :: ns => .cons (.int n) (dx_ints ns)
/-- the name of a thing's type -/
def tyN : PyData → String
  | .none => "NoneType" | .bool _ => "bool" | .int _ => "int" | .str _ => "str" | .list _ => "list" | .tuple _ => "tuple" | .dict _ => "dict"
theorem Dx.ty {K : PySem.W.Frag} {H : Hp} {v : V} {d : PyData} (h : Dx K H v d) : TyX K H v (.type (tyN d)) := by
  cases h with
  | non => exact .base .non
  | bl b => exact .base (.bl b)
  | int i => exact .base (.int i)
  | str x => exact .base (.str x)
  | dct h => exact .base (.dK h)
  | lst h _ =>
    rcases h with (h | ⟨o, h⟩) | ⟨o, its, n, h, c, _⟩
    · exact .base (.lst h)
    · exact .base (.frz h)
    · exact .kList h c
  | tup h _ =>
    rcases h with (h | ⟨o, h⟩) | ⟨o, its, n, h, c, _⟩
    · exact .base (.tup h)
    · exact .fTuple h
    · exact .kTuple h c
def isT : PyData → Bool | .tuple _ => true | _ => false
def isI : PyData → Bool | .int _ => true | .bool _ => true | _ => false
def isB : PyData → Bool | .bool _ => true | _ => false
def isL : PyData → Bool | .list _ => true | _ => false
def isS : PyData → Bool | .str _ => true | _ => false
theorem kit_t : ∀ d : PyData, kitB (tyN d) "tuple" = some (isT d)
  | .none => (by decide +kernel : kitB "NoneType" "tuple" = some false)
  | .bool _ => (by decide +kernel : kitB "bool" "tuple" = some false)
  | .int _ => (by decide +kernel : kitB "int" "tuple" = some false)
  | .str _ => (by decide +kernel : kitB "str" "tuple" = some false)
  | .list _ => (by decide +kernel : kitB "list" "tuple" = some false)
  | .tuple _ => (by decide +kernel : kitB "tuple" "tuple" = some true)
  | .dict _ => (by decide +kernel : kitB "dict" "tuple" = some false)
theorem kit_i : ∀ d : PyData, kitB (tyN d) "int" = some (isI d)
  | .none => (by decide +kernel : kitB "NoneType" "int" = some false)
  | .bool _ => (by decide +kernel : kitB "bool" "int" = some true)
  | .int _ => (by decide +kernel : kitB "int" "int" = some true)
  | .str _ => (by decide +kernel : kitB "str" "int" = some false)
  | .list _ => (by decide +kernel : kitB "list" "int" = some false)
  | .tuple _ => (by decide +kernel : kitB "tuple" "int" = some false)
  | .dict _ => (by decide +kernel : kitB "dict" "int" = some false)
theorem kit_b : ∀ d : PyData, kitB (tyN d) "bool" = some (isB d)
  | .none => (by decide +kernel : kitB "NoneType" "bool" = some false)
  | .bool _ => (by decide +kernel : kitB "bool" "bool" = some true)
  | .int _ => (by decide +kernel : kitB "int" "bool" = some false)
  | .str _ => (by decide +kernel : kitB "str" "bool" = some false)
  | .list _ => (by decide +kernel : kitB "list" "bool" = some false)
  | .tuple _ => (by decide +kernel : kitB "tuple" "bool" = some false)
  | .dict _ => (by decide +kernel : kitB "dict" "bool" = some false)
theorem kit_l : ∀ d : PyData, kitB (tyN d) "list" = some (isL d)
  | .none => (by decide +kernel : kitB "NoneType" "list" = some false)
  | .bool _ => (by decide +kernel : kitB "bool" "list" = some false)
  | .int _ => (by decide +kernel : kitB "int" "list" = some false)
  | .str _ => (by decide +kernel : kitB "str" "list" = some false)
  | .list _ => (by decide +kernel : kitB "list" "list" = some true)
  | .tuple _ => (by decide +kernel : kitB "tuple" "list" = some false)
  | .dict _ => (by decide +kernel : kitB "dict" "list" = some false)
theorem kit_s : ∀ d : PyData, kitB (tyN d) "str" = some (isS d)
  | .none => (by decide +kernel : kitB "NoneType" "str" = some false)
  | .bool _ => (by decide +kernel : kitB "bool" "str" = some false)
  | .int _ => (by decide +kernel : kitB "int" "str" = some false)
  | .str _ => (by decide +kernel : kitB "str" "str" = some true)
  | .list _ => (by decide +kernel : kitB "list" "str" = some false)
  | .tuple _ => (by decide +kernel : kitB "tuple" "str" = some false)
  | .dict _ => (by decide +kernel : kitB "dict" "str" = some false)
/-! ### what is shown of them -/
mutual
def noList : PyData → Bool
  | .list _ => false
  | .tuple ds => noListAll ds
  | _ => true
def noListAll : List PyData → Bool
  | [] => true
  | d :: ds => noList d && noListAll ds
end
section
variable {X : Cx} {pins : List (Addr × Obj)} {σ : L2.St} {H : Hp} {s : Shared}
mutual
theorem Dx.reads (I : Inv X pins σ H s) : ∀ (d : PyData) (v : V) (u : Value), Dx X.K H v d → RelV v u → ∃ as, Reads s.heap u d as ∧ (noList d = true → sysModules ∉ as)
  | .none, _, _, h, r => by
    cases h
    cases r
    exact ⟨_, Reads.none, fun _ z => nomatch z⟩
  | .bool b, _, _, h, r => by
    cases h
    cases r
    exact ⟨_, Reads.bool b, fun _ z => nomatch z⟩
  | .int i, _, _, h, r => by
    cases h
    obtain ⟨t, rfl⟩ := r
    exact ⟨_, Reads.int i t, fun _ z => nomatch z⟩
  | .str x, _, _, h, r => by
    cases h
    obtain ⟨t, rfl⟩ := r
    exact ⟨_, Reads.str x t, fun _ z => nomatch z⟩
  | .list ds, _, _, h, r => by
    cases h with
    | lst hs ha =>
      cases r
      obtain ⟨its, rv, ⟨o, n, ho, hc, _, hd⟩, _⟩ := I.list hs
      obtain ⟨as, hr, _⟩ := Dx.readsAll I ds _ its ha rv
      exact ⟨_, Reads.list ho hc hd hr, fun z => by simp [noList] at z⟩
  | .tuple ds, _, _, h, r => by
    cases h with
    | tup hs ha =>
      cases r
      obtain ⟨its, rv, ⟨o, ho, hc, n, hd⟩, _⟩ := I.tuple hs
      obtain ⟨as, hr, f⟩ := Dx.readsAll I ds _ its ha rv
      exact ⟨_, Reads.tuple ho hc hd hr, fun z => f (by simpa [noList] using z)⟩
  | .dict kvs, _, _, h, r => by
    cases h with
    | dct hs =>
      cases r
      obtain ⟨_, ns, vs, kv, o, es, ep, ho, hc, hd, hv⟩ := dk_of I.hok hs
      cases kv
      have e0 : es.toList = [] := by
        have z := hv.2.1
        revert z
        generalize es.toList = l
        intro z
        cases z
        rfl
      refine ⟨_, Reads.dict ho hc.1 hd (by rw [e0]; exact .nil) (by rw [e0]; exact .nil), fun _ z => ?_⟩
      rcases List.mem_cons.mp z with z | z
      · rw [← z] at ns
        cases ns
      · cases z
theorem Dx.readsAll (I : Inv X pins σ H s) : ∀ (ds : List PyData) (vs : List V) (us : List Value), DxAll X.K H vs ds → Vals vs us → ∃ as, ReadsAll s.heap us ds as ∧ (noListAll ds = true → sysModules ∉ as)
  | [], _, _, h, r => by
    cases h
    cases r
    exact ⟨_, ReadsAll.nil, fun _ z => nomatch z⟩
  | d :: ds, _, _, h, r => by
    cases h with
    | cons h1 h2 =>
      cases r with
      | cons r1 r2 =>
        obtain ⟨as, q1, f1⟩ := Dx.reads I d _ _ h1 r1
        obtain ⟨bs, q2, f2⟩ := Dx.readsAll I ds _ _ h2 r2
        refine ⟨_, ReadsAll.cons q1 q2, fun z m => ?_⟩
        have z' : noList d = true ∧ noListAll ds = true := by simpa [noListAll] using z
        exact (List.mem_append.mp m).elim (f1 z'.1) (f2 z'.2)
end
end
/-- what can be shown -/
structure Shows (d : PyData) : Prop where
  sh : d.showable = true
  nl : d.hasDict = true → noList d = true
  dep : d.depth ≤ 60
  nd : nodes d ≤ 8000
section
variable {X : Cx} {k : Nat}
theorem call_repr_x (gd : X.A.guards = some []) (room : Room k X.A) : CallR X (.builtin "repr") (fun xs H Q => ∃ v d, xs = [v] ∧ Dx X.K H v d ∧ Shows d ∧ Q (.str d.shown) H) := by
  intro pins s σ H xs us Q I r h
  obtain ⟨v, d, rfl, hd, S, q⟩ := h
  obtain ⟨u, rfl, rx⟩ := vals1 r
  have un := room.un
  have sz := fits_shown S.sh S.nd
  have ref : ∀ a : Addr, u = .ref a → wpAny (model X.prog X.w) X.A (call (.builtin "repr") [u]) (fun u' s' => ∃ v' H', Inv X pins σ H' s' ∧ RelV v' u' ∧ Q v' H') X.xe s := by
    intro a ha
    subst ha
    obtain ⟨as, rd, f⟩ := Dx.reads I d _ _ hd rx
    have dep := S.dep
    refine repr_of_reads' (h₀ := s.heap) rd S.sh (fun z => f (S.nl z)) gd (by omega) (fun _ _ e => e) ?_ sz
    intro h' u tk kp
    exact ⟨.str d.shown, H, I.kept (t' := tk) kp, ⟨u, rfl⟩, q⟩
  cases hd with
  | non =>
    cases (show u = Value.none from rx)
    exact PySem.P.repr_of_none ⟨.str _, H, I.tok _, ⟨_, rfl⟩, q⟩
  | bl b =>
    cases (show u = Value.bool b from rx)
    exact PySem.P.repr_of_bool ⟨.str _, H, I.tok _, ⟨_, rfl⟩, q⟩
  | int i =>
    obtain ⟨t, rfl⟩ := (show ∃ t, u = Value.int i t from rx)
    exact PySem.P.repr_of_int (by simpa [PyData.showable] using S.sh) ⟨.str _, H, I.tok _, ⟨_, rfl⟩, q⟩
  | str x =>
    obtain ⟨t, rfl⟩ := (show ∃ t, u = Value.str x t from rx)
    exact PySem.P.repr_of_str ⟨.str _, H, I.tok _, ⟨_, rfl⟩, q⟩ sz
  | dct h => exact ref _ rx
  | lst h a => exact ref _ rx
  | tup h a => exact ref _ rx
end
end Ov
namespace Ov
open PySem PySem.Spec PyProof.Rows L2
/-! ### exceptions of the program's classes as values: made, read, asked for their class -/
/-- C(e, ..) as a value, C's own __init__ keeping sp -/
def tMkV (C : Addr) (sp : Sp) (ta : TA) : TE := fun σ H Q => ta σ H fun vs H1 => vs.length ≤ 1000 ∧ ∀ a, H1 a = none → sp (.ref a :: vs) (upd H1 a (exo a C none)) (fun v H2 => v = .non ∧ Q (.ref a) H2) (fun _ _ _ => False)
section
variable {X : Cx} {o e : Expr} {es : List Expr} {to te : TE} {ta : TA} {f : Str} {p p' p1 p2 pos : Pos}
theorem pe_oexV {CX : CXT} {x : Str} {C fI : Addr} {k : Nat} {fd : FuncData} {ps : List Str} {sp : Sp} (T : OexC X.K C) (iC : PySem.W.findIn X.K (.ref C) "__init__" = some (some (.ref fI))) (tI : PySem.W.typeIn X.K (.ref fI) = some (.type "function"))
    (F1 : FnOk X.prog X.w X.K X.mg X.base CX k fI fd ps sp) (hr : Room (k + 1) X.A) (hb : Binds X.K fd ps []) (hx : Passes CX X (fun _ _ _ => False)) (hg : Gl X x) (hm : X.mg x = some (.ref C)) (ha : PA X (e :: es) ta)
    (hdb : (x == ("__debug__" : Str)) = false := by decide) (he : starEach (e :: es) X.env = (false, eval e X.env) :: starEach es X.env := by rfl) (hpl : (backTo pos (starEach es X.env)).any (·.1) = false := by rfl) :
    PE X (.Call (.Name x p) (e :: es) [] pos) (tMkV C sp ta) := by
  refine ⟨fun pins s σ H Q I h => ?_⟩
  obtain ⟨nm, q, N, bs, bm, sn, sub, ab, col, dd, k0, k1, k2, k3, k5, hC, hbm⟩ := T.cls
  refine wpAny_Call_Name_kw (ld_glob I hg hm ?_ hdb)
  refine PySem.W.callWith_K (h₀ := X.base) I.ok.mod.kin T.kC (thn (ha.run pos pins s σ H _ I h) fun us s1 ⟨vs, H1, I1, r1, hz, q1⟩ => ⟨I1.kIn, ?_⟩) he hpl
  show wpAny _ _ (call (.ref C) us) _ _ _
  obtain ⟨hp, g, dr, tk, os⟩ := s1
  have hsz : hp.objs.size ≤ hp.objs.size + 1 := Nat.le_succ _
  have hn : H1 (hp.objs.size + 1) = none := I1.hok.fresh hsz
  have hq := q1 (hp.objs.size + 1) hn
  have kk : ∀ b o, hp.get? b = some o → ((hp.push (PySem.W.kdv_tup us)).push (PySem.HandSPX.excO C hp.objs.size)).get? b = some o := fun b o e => Heap.get?_push_of_some _ (Heap.get?_push_of_some _ e)
  have hget : ((hp.push (PySem.W.kdv_tup us)).push (PySem.HandSPX.excO C hp.objs.size)).get? (hp.objs.size + 1) = some (PySem.HandSPX.excO C hp.objs.size) := by heap_get
  have I2 : Inv X pins σ (upd H1 (hp.objs.size + 1) (exo (hp.objs.size + 1) C none)) ⟨(hp.push (PySem.W.kdv_tup us)).push (PySem.HandSPX.excO C hp.objs.size), g, dr, tk, os⟩ :=
    I1.laid (t' := tk) (a := hp.objs.size + 1) (o := exo (hp.objs.size + 1) C none) (h' := (hp.push (PySem.W.kdv_tup us)).push (PySem.HandSPX.excO C hp.objs.size)) kk hsz (exo_ok hget)
  have r2 : Vals (V.ref (hp.objs.size + 1) :: vs) (Value.ref (hp.objs.size + 1) :: us) := .cons rfl r1
  have hl : (Value.ref (hp.objs.size + 1) :: us).length = ps.length := by
    have e := r2.length
    rw [F1.len _ _ _ _ hq] at e
    exact e.symm
  have hus : us.length ≤ sizeLine := by
    rw [← Paired.length r1, sizeLine_eq]
    omega
  have bt := hb _ (Value.ref (hp.objs.size + 1) :: us) I2.kIn (by simpa using hl)
  rw [List.append_nil] at bt
  refine wpAny_call (PySem.HandSPX.call_own F.excBase_ValueError (fun Y => PySem.HandSPX.refsVE_contains Y bm hbm) (I1.kIn _ _ hC) (PySem.W.looks_findIn I1.kIn iC) (fun self => PySem.W.bind_fn I1.kIn self tI) hus
    (codeAny_mono (F1.run _ X.stack _ _ ⟨Value.ref (hp.objs.size + 1) :: us, []⟩ (Value.ref (hp.objs.size + 1) :: us) _ _ (fun _ _ _ => False) (hr.make C us []) (I2.env0.make C us []) bt r2 hq) fun r s' hq' => ?_))
  cases r with
  | error er => exact hx pins σ _ _ er s' I2 hq'
  | ok fl =>
    cases fl with
    | ret u =>
      obtain ⟨v, H', I3, rv, ev, q3⟩ := I2.after hq'
      subst ev
      exact ⟨rv, ⟨V.ref (hp.objs.size + 1), H', I3, rfl, q3⟩⟩
    | next => exact False.elim hq'
    | brk => exact False.elim hq'
    | cont => exact False.elim hq'
/-- C() as a value, no own __init__ -/
theorem pe_exc0V {C : Addr} {bmB : List Value} {B newId initId : String} {x : Str} (F : ExcBaseFacts B newId initId bmB) (q : PySem.W.excIn X.K C bmB newId = true) (gC : X.mg x = some (.ref C)) (kC : PySem.W.keepIn X.K (.ref C) = true) (hg : Gl X x)
    (hdb : (x == ("__debug__" : Str)) = false := by decide) :
    PE X (.Call (.Name x p) [] [] pos) (fun σ H Q => ∀ a, H a = none → Q (.ref a) (upd H a (exo a C none))) := by
  refine ⟨fun pins s σ H Q I h => ?_⟩
  refine wpAny_Call_Name_kw (ld_glob I hg gC ?_ hdb)
  refine PySem.W.callWith_K0 I.kIn kC ?_
  obtain ⟨bm, N, nm, qn, bs, hdct, sn, sub, ab, col, dd, k0, k1, k2, k3, k5, mN, hC, hN, hni, T⟩ := exc_obj I.kIn q
  refine wpAny_call_exc_subT F T hC hN hni (fun h' a hm => ?_) (by show 0 ≤ sizeLine; exact Nat.zero_le _)
  have hn : H a = none := I.hok.gone hm.new
  obtain ⟨t, ht, _, _⟩ := hm.there
  exact ⟨.ref a, upd H a (exo a C none), I.laidN hm.keeps hm.new hn (exo_ok ht), rfl, h a hn⟩
/-- e.f, e an exception that stands in H -/
def tExf (K : PySem.W.Frag) (n : Str) (te : TE) : TE := fun σ H Q => te σ H fun x H1 => ∃ (a C dx : Addr) (fs : List (Str × V)) (v : V), x = .ref a ∧ XfC K C ∧ PySem.W.findIn K (.ref C) n = some none ∧ H1 a = some (exo a C (some dx)) ∧ H1 dx = some (exd dx fs) ∧ fs.lookup n = some v ∧ Q v H1
theorem pe_exf {n : Str} (he : PE X e te) (hb : attributeBase e n X.env (eval e X.env) = eval e X.env := by rfl) : PE X (.Attribute e n pos) (tExf X.K n te) := by
  refine ⟨fun pins s σ H Q I h => ?_⟩
  refine attr_of hb (thn (he.run pins s σ H _ I h) fun u s1 hh => ?_)
  obtain ⟨x, H1, I1, rx, a, C, dx, fs, v, ex, T, hno, ea, ed, l, q⟩ := hh
  subst ex
  obtain rfl : u = Value.ref a := rx
  obtain ⟨t1, ha⟩ := exo_at I1.hok ea
  obtain ⟨mA, hns, hr⟩ := exd_at I1.hok ed
  obtain ⟨od, ho, hl⟩ := lookIn_ns hns
  obtain ⟨u, hu, ru⟩ := RelO.some_of (v := v) (o := mA n) (by rw [← l]; exact hr n)
  have J : PySem.W.InstAt s1.heap a _ C (some od) := ⟨ha, rfl, rfl, ho⟩
  exact HandSPX.exc_get I1.kIn J T.ga T.gg T.exC (PySem.W.findObj_own T.hdC hno rfl (by rw [hl, hu])) (handed_of ru) ⟨v, H1, I1.tok _, ru, q⟩
/-- isinstance(e, c), e an exception that stands in H -/
def rIsX (K : PySem.W.Frag) : List V → Hp → VK → Prop := fun xs H Q => ∃ (a C : Addr) (d : Option Addr) (c : V) (cv : Value) (b : Bool), xs = [.ref a, c] ∧ ExcC K C ∧ H a = some (exo a C d) ∧ (∀ dx, d = some dx → ∃ fs, H dx = some (exd dx fs)) ∧ (∀ u, RelV c u → u = cv) ∧ PySem.W.kitOne K (.ref C) cv = some b ∧ Q (.bl b) H
theorem call_isX : CallR X (.builtin "isinstance") (rIsX X.K) := by
  intro pins s σ H xs us Q I r h
  obtain ⟨a, C, d, c, cv, b, rfl, E, ea, hd, hcv, e, q⟩ := h
  obtain ⟨u1, u2, rfl, r1, r2⟩ := vals2 r
  cases (show u1 = Value.ref a from r1)
  have ec := hcv _ r2
  subst ec
  obtain ⟨t1, ha⟩ := exo_at I.hok ea
  have hc : (PySem.W.clsIn X.K C).isSome = true := by
    obtain ⟨cd, z, _⟩ := PySem.W.any_some E.hd
    rw [z]
    rfl
  cases d with
  | none =>
    have J : PySem.W.InstAt s.heap a _ C none := ⟨ha, rfl, rfl, trivial⟩
    exact PySem.W.kia_one (PySem.W.kitx_exc hc E.hg E.hk E.hs E.ha E.hn E.ht E.hm) I.kIn J e (fun z => nomatch z) fun tk => ⟨.bl b, H, I.tok tk, rfl, q⟩
  | some dx =>
    obtain ⟨fs, ed⟩ := hd dx rfl
    obtain ⟨mA, hns, hr⟩ := exd_at I.hok ed
    obtain ⟨od, ho, hl⟩ := lookIn_ns hns
    have J : PySem.W.InstAt s.heap a _ C (some od) := ⟨ha, rfl, rfl, ho⟩
    exact PySem.W.kia_one (PySem.W.kitx_exc hc E.hg E.hk E.hs E.ha E.hn E.ht E.hm) I.kIn J e (fun z => nomatch z) fun tk => ⟨.bl b, H, I.tok tk, rfl, q⟩
end
end Ov
namespace Ov
open PySem PySem.Spec PyProof.Rows L2
section
variable {X : Cx}
/-- in every block of a comprehension -/
abbrev Blk (X : Cx) (sc : Scope) (R : Cx → Prop) : Prop := ∀ (s : Shared) (H : Hp) (C : Addr) (cl : List (Str × Addr)) (fp : List Addr), R (X.blk s H sc (compEnvC sc cl C X.env) fp)
/-- a local name that is given a new dict by a comprehension on its own row -/
theorem ps_setDc {i : Nat} {y : Str} {py pos ps : Pos} {kx vx tg it : Expr} {ifs : List Expr} {sc : Scope} {own : List (Str × Nat)} {wi : TI} {g : TG} {tt : TT} {tk tv : TE} (hc : X.calm = true) (nd : X.N.Nodup) (hy : X.N[i]? = some y) (loc : X.env.scope.names.lookup y = some .local)
    (sw : swapsWith (.DictComp kx vx [⟨tg, it, ifs, 0⟩] sc pos) (some (.Name y py)) ps.line X.env = pure true) (hi : PI X tg it wi) (ok : BlkOk X.N X.env.scope sc own) (hg : Blk X sc fun Y => PG Y tg g) (ht : Blk X sc fun Y => PTs Y ifs tt)
    (hk : Blk X sc fun Y => PE Y kx tk) (hv : Blk X sc fun Y => PE Y vx tv) (fs : ∀ x, foldedSetIterable it X.env x = pure x := by intro _; rfl) :
    PS X (.Assign [.Name y py] (.DictComp kx vx [⟨tg, it, ifs, 0⟩] sc pos) ps) (tAsg (tDc wi g tt tk tv (own.map (·.2))) (gName i)) := by
  constructor
  intro pins s σ H D I h
  rw [exec_Assign_Name_used _ _ _ _ sw]
  have core := dc_core (pos := pos) (pos' := firstIterPos [⟨tg, it, ifs, 0⟩] pos) (use := some (assign (.Name y py) X.env)) (Qf := fun _ t => SP X pins D .next t) (Q := fun x H1 => gName i x σ H1 D.nx) hc nd I hi ok hg ht hk hv fs h ?key
  · exact wpAny_bind (wpAny_standAt (wpAny_bind (wpAny_bind (thn core fun _ _ z => wpAny_pure (wpAny_pure z)))))
  case key =>
    intro L C t m G J q ns fp
    obtain ⟨p0, p1, _, p3, p4, p5⟩ := fp
    refine wpAny_assign_Name (store_ok2 (v := V.ref L) J nd hy (Or.inl loc) rfl ?_ (Or.inr loc))
    rintro t2 J2 ⟨a, sb, ha⟩
    have away : C ≠ a := ha.elim (fun z => z ▸ p1) (fun z w => p4 y a z w.symm)
    exact ⟨m, ns.sameBut sb away, fun _ sb3 => ⟨_, G, J2.turned (t' := t2.toks) (fun b _ hb e => (sb3.2 b hb).trans e) p0 p1 p3 p4 p5, q⟩⟩
theorem sw_dict {kx vx : Expr} {gs : List Comprehension} {sc : Scope} {pos py : Pos} {y : Str} {l : Nat} {env : Env} (kd : env.scope.kind = .function) (loc : env.scope.names.lookup y = some .local) (row : (py.line == pos.line) = true)
    (no : (sc.names.any fun (n, k) => n == y && (k == .local || k == .cell)) = false) : swapsWith (.DictComp kx vx gs sc pos) (some (.Name y py)) l env = pure true := by
  have h1 : env.blockKind = .function := by rw [Env.blockKind, kd]; rfl
  have h2 : env.kindOf y = some .local := loc
  rw [swapsWith]
  simp only [h1, h2, no, Expr.pos, row]
  rfl
end
end Ov
namespace Ov
open PySem PySem.Spec PyProof.Rows L2
/-! ### sets of ints made by a comprehension -/
/-- an int that goes into the set at D -/
def PutI (w : World) (D : Addr) (y : V) (H : Hp) (N : Hp → Prop) : Prop := ∃ (c : Int) (S : Int → Bool) (n : Nat), y = .int c ∧ H D = some (SetO w D S n) ∧ n + 1 < scanBound ∧ N (upd H D (SetO w D (fun j => S j || decide (j = c)) (if S c = true then n else n + 1)))
/-- a turn: the item x, the test, the member -/
def TurnI (w : World) (D : Addr) (g : TG) (tt : TT) (te : TE) (σ0 : L2.St) (vs : List Nat) (x : V) (H : Hp) (N : Hp → Prop) : Prop := g x σ0 H fun σ2 H2 => wipe σ2 vs = σ0 ∧ tt σ2 H2 fun b H3 => if b = true then te σ2 H3 fun y H4 => PutI w D y H4 N else N H3
def tScI (w : World) (wi : TI) (g : TG) (tt : TT) (te : TE) (vs : List Nat) : TE := fun σ H Q => wi σ H fun J H1 => ∀ D, H1 D = none → ∃ W : Nat → Nat → Hp → Prop, (∃ m, W 0 m (upd H1 D (SetO w D (fun _ => false) 0))) ∧
  ∀ i m G, W i m G → (J.stop i G ∧ Q (.ref D) G) ∨ (J.go i G ∧ ∃ N : Hp → Prop, (∀ G', N G' → ∃ m', m' < m ∧ W (i + 1) m' G') ∧ ∀ x G', J.yld i G x G' → TurnI w D g tt te (wipe σ vs) vs x G' N)
section
variable {X : Cx}
theorem addI_ok {pins : List (Addr × Obj)} {σ : L2.St} {H : Hp} {s : Shared} {E : Value → Shared → Prop} {D : Addr} {S : Int → Bool} {n : Nat} {y : Int} {u : Value} {Q : Value → Shared → Prop} (I : Inv X pins σ H s) (hD : H D = some (SetO X.w D S n)) (room : n + 1 < scanBound) (ru : RelV (.int y) u)
    (h : ∀ t, Inv X pins σ (upd H D (SetO X.w D (fun j => S j || decide (j = y)) (if S y = true then n else n + 1))) t → Q .none t) : wpAny (model X.prog X.w) X.A (call (.builtin "set.add") [.ref D, u]) Q E s := by
  obtain ⟨tk, rfl⟩ := ru
  refine setR_add (setO_get I hD) room fun g sb nw => h _ ?_
  obtain ⟨o, _, _, _, ho, _⟩ := id nw
  exact I.write (e := D) (t' := s.toks + 1) (by rw [hD]; trivial) (.inl rfl) (fun b _ hb z => (sb.2 b hb).trans z) ⟨o, ho⟩ (setO_new nw)
/-- the object of a new set -/
abbrev set0 (w : World) : Obj := { cls := .type "set", dict := none, data := .set #[] 0 (.fresh 0 0 (!w.params.followText "set-order")) }
theorem pe_scI {el tg it : Expr} {ifs : List Expr} {sc : Scope} {own : List (Str × Nat)} {pos : Pos} {wi : TI} {g : TG} {tt : TT} {te : TE} (hc : X.calm = true) (nd : X.N.Nodup) (hi : PI X tg it wi) (ok : BlkOk X.N X.env.scope sc own)
    (hg : Blk X sc fun Y => PG Y tg g) (ht : Blk X sc fun Y => PTs Y ifs tt) (he : Blk X sc fun Y => PE Y el te) (fs : ∀ x, foldedSetIterable it X.env x = pure x := by intro _; rfl) :
    PE X (.SetComp el [⟨tg, it, ifs, 0⟩] sc pos) (tScI X.w wi g tt te (own.map (·.2))) := by
  constructor
  intro pins s σ H Q I h
  rw [PpSet.eval_SetComp]
  have cells : ∀ y ∈ sc.names, y.2 = .free → ∃ c, X.env.cells.lookup y.1 = some c := fun y hy e => (ok.free y hy e).elim (fun z => I.ok.has _ (Or.inl z)) (fun z => I.ok.has _ (Or.inr z))
  refine wpAny_comprehension_free (use := none) rfl fs (closure_ok cells) ok.kind (fun y hy e => by rw [ok.uniq y hy, e]) (thn (hi.run pins s σ H _ I h) fun _ _ z1 => thn z1 fun _ t2 z2 => ?_)
  obtain ⟨a, fp, tn, J, G2, rfl, I2, T, st2, f2, q⟩ := z2
  refine PpSet.newSet_ok (newEnv_comp ?_)
  obtain ⟨D, eD⟩ : ∃ D, D = t2.heap.objs.size := ⟨_, rfl⟩
  rw [← eD]
  obtain ⟨W, ⟨m0, w0⟩, turn⟩ := q D (I2.hok.fresh (Nat.le_of_eq eD.symm))
  obtain ⟨t3, e3⟩ : ∃ t3 : Shared, t3 = { t2 with heap := t2.heap.push (set0 X.w) } := ⟨_, rfl⟩
  have hp3 : t3.heap = t2.heap.push (set0 X.w) := by rw [e3]
  have I3 : Inv X pins σ (upd G2 D (SetO X.w D (fun _ => false) 0)) t3 := by
    rw [e3]
    refine I2.laid (t' := t2.toks) (fun _ _ z => Heap.get?_push_of_some _ z) (Nat.le_of_eq eD.symm) ?_
    rw [eD]
    exact setO_new (setR_fresh X.w)
  have low : ∀ b ∈ fp, b < t2.heap.objs.size := fun b hb => (T.obj _ _ st2 b hb).elim fun _ z => Heap.lt_size z.1
  have f3 : ∀ b ∈ fp, FpOk X pins (upd G2 D (SetO X.w D (fun _ => false) 0)) b ∧ b < t3.heap.objs.size := fun b hb =>
    ⟨⟨by rw [upd_ne (by rw [eD]; exact Nat.ne_of_lt (low b hb))]; exact (f2 b hb).1, (f2 b hb).2⟩, by rw [hp3, Heap.size_push]; exact Nat.lt_succ_of_lt (low b hb)⟩
  have st3 : tn 0 t3.heap := T.keep _ _ _ st2 fun _ _ _ z => by rw [hp3]; exact Heap.get?_push_of_some _ z
  have I4 := block_start I3 ok nd f3
  generalize hG3 : upd G2 D (SetO X.w D (fun _ => false) 0) = G3 at *
  obtain ⟨C, eC⟩ : ∃ C, C = t3.heap.objs.size := ⟨_, rfl⟩
  obtain ⟨ce, ece⟩ : ∃ ce, ce = compEnvC sc (cellsFrom (t3.heap.objs.size + 1) sc.names (cloFrom X.env.cells sc.names [])) t3.heap.objs.size X.env := ⟨_, rfl⟩
  have pg := hg t3 G3 t3.heap.objs.size (cellsFrom (t3.heap.objs.size + 1) sc.names (cloFrom X.env.cells sc.names [])) fp
  have pt := ht t3 G3 t3.heap.objs.size (cellsFrom (t3.heap.objs.size + 1) sc.names (cloFrom X.env.cells sc.names [])) fp
  have pe := he t3 G3 t3.heap.objs.size (cellsFrom (t3.heap.objs.size + 1) sc.names (cloFrom X.env.cells sc.names [])) fp
  rw [← ece] at pg pt pe I4
  have loc : ce.locals = C := by rw [ece, eC]; rfl
  obtain ⟨t4, e4⟩ : ∃ t4 : Shared, t4 = { t3 with heap := pushCells (t3.heap.push { cls := .type "dict", data := .dict #[] }) sc.names } := ⟨_, rfl⟩
  rw [← e4] at I4
  have st4 : tn 0 t4.heap := T.keep _ _ _ st3 fun _ _ _ z => by rw [e4]; exact pushCells_keeps _ _ _ _ (Heap.get?_push_of_some _ z)
  have nfp : ∀ b ∈ fp, G3 b = none := fun b hb => (f3 b hb).1.1
  have still : ∀ {σ' : L2.St} {G : Hp} {t : Shared}, Inv (X.blk t3 G3 sc ce fp) [] σ' G t → (∀ b ∈ fp, G b = none) → ∀ b ∈ fp, FpOk (X.blk t3 G3 sc ce fp) [] G b := fun {σ' G t} K hn b hb =>
    ⟨hn b hb, (K.ok.exf b hb).1, K.ok.exfs b hb, .inl hb, fun x c z => (K.ok.exf b hb).2 x c z, fun p hp => absurd (show p ∈ ([] : List (Addr × Obj)) ++ [] from hp) (by simp)⟩
  have loop : codeAny (model X.prog X.w) X.A (.compLoop (.SetComp el [⟨tg, it, ifs, 0⟩] sc pos) 0 (.ref a) (.ref D) ce) (compPost (model X.prog X.w) X.A X.xe none (EP X pins σ Q) (.ref D) C) t4 := by
    refine PpSet.compLoopS_any (fun n t => ∃ i G, Inv (X.blk t3 G3 sc ce fp) [] (wipe σ (own.map (·.2))) G t ∧ tn i t.heap ∧ (∀ b ∈ fp, G b = none) ∧ W i n G) ?_ m0 ⟨0, G3, I4, st4, nfp, w0⟩
    rintro n t5 ⟨i, G5, I5, st5, n5, w5⟩
    rcases turn i n G5 w5 with ⟨stop, qq⟩ | ⟨go, N, hN, step⟩
    · refine thnF (T.done (X.blk t3 G3 sc ce fp) rfl rfl rfl hc i [] t5 _ G5 (fun _ _ => False) I5 (still I5 n5) st5 stop) fun r t6 z => ?_
      obtain ⟨rfl, I6⟩ := z
      have I7 : Inv X pins σ G5 t6 := I3.call' (ch := fp) I6.os I6.base I6.hok I6.bare fun b hb => ⟨(f3 b hb).1.2.2.2.1, (f3 b hb).1.2.1, (f3 b hb).1.2.2.2.2.1, (f3 b hb).1.2.2.2.2.2⟩
      have nC : G5 C = none := by rw [← loc]; exact I6.free
      obtain ⟨m, ns, _⟩ := I6.loc
      replace ns : t6.heap.Ns C m := by rw [← loc]; exact ns
      obtain ⟨p0, p1, _, p3, p4, p5⟩ := I3.fpOk (Nat.le_of_eq eC.symm) nC
      exact ⟨m, ns, fun _ sb => ⟨.ref D, G5, I7.turned (t' := t6.toks) (fun b _ hb z => (sb.2 b hb).trans z) p0 p1 p3 p4 p5, rfl, qq⟩⟩
    · refine thnF (T.item (X.blk t3 G3 sc ce fp) rfl rfl rfl hc i [] t5 _ G5 (fun _ _ => False) I5 (still I5 n5) st5 go) fun r t6 z => ?_
      obtain ⟨u, rfl, z⟩ := z
      refine thnF z fun _ t7 ⟨x, G7, I7, r7, y7, st7, n7⟩ => ?_
      refine thnF (pg.run _ t7 _ G7 x u _ (I7.pinned (still I7 n7) (T.obj _ _ st7)) r7 (step x G7 y7)) fun _ t8 ⟨σ8, G8, I8, w8, q8⟩ => ?_
      refine thnF (pt.run _ t8 σ8 G8 _ I8 q8) fun b t9 ⟨G9, I9, q9⟩ => ?_
      have again : ∀ {t : Shared} {G : Hp}, Inv (X.blk t3 G3 sc ce fp) ([] ++ pinsAt fp t7.heap) σ8 G t → N G → ∃ m, m < n ∧ ∃ i G, Inv (X.blk t3 G3 sc ce fp) [] (wipe σ (own.map (·.2))) G t ∧ tn i t.heap ∧ (∀ b ∈ fp, G b = none) ∧ W i m G := fun {t G} K nx => by
        obtain ⟨m', lt, w'⟩ := hN G nx
        have pin : ∀ b ∈ fp, ∀ o, t7.heap.get? b = some o → t.heap.get? b = some o ∧ G b = none := fun b hb o z => by
          have y := K.pin (b, o) (List.mem_append_right _ (List.mem_append_right _ (mem_pinsAt hb z)))
          exact ⟨y.1, y.2.1⟩
        have len : (wipe σ (own.map (·.2))).length = σ8.length := by rw [← w8, wipe_length]
        exact ⟨m', lt, i + 1, G, (K.unpinned (pins := [])).weak len (fun _ _ z => by rw [← w8] at z; exact (wipe_some z).1), T.keep _ _ _ st7 fun b hb o z => (pin b hb o z).1, fun b hb => (T.obj _ _ st7 b hb).elim fun o z => (pin b hb o z.1).2, w'⟩
      cases b with
      | false => exact again I9 q9
      | true =>
        refine thnF (pe.run _ t9 σ8 G9 _ I9 q9) fun v t10 ⟨yv, G10, I10, r10, z⟩ => ?_
        obtain ⟨c, S, k, rfl, hD, room, nx⟩ := z
        exact addI_ok (X := X.blk t3 G3 sc ce fp) I10 hD room r10 fun t11 I11 => again I11 nx
  have start := PpSet.codeAny_compStart_set loop (T.self X.A 0 _ _ _ st4 loop)
  rw [ece, e4, e3] at start
  rw [eC, e3] at start
  exact start
end
end Ov
namespace Ov
open PySem PySem.Spec PyProof.Rows L2
/-! ### set(xs), xs a list of ints -/
section
variable {P : Program} {w : World} {A : Around} {E : Value → Shared → Prop} {s : Shared}
theorem set_of_ints {l : Addr} {its : Array Value} (zs : List Int) {Q : Value → Shared → Prop} (ha : A.handled = none) (hl : s.heap.IsList l its) (hz : IntsAre its.toList zs) (few : zs.length + 1 < scanBound)
    (fin : ∀ (g : Heap) (tk c : Nat), SetR w g s.heap.objs.size (fun j => decide (j ∈ zs)) c → c ≤ zs.length → (∀ b o, s.heap.get? b = some o → g.get? b = some o) → Q (.ref s.heap.objs.size) { s with heap := g, toks := tk }) :
    wpAny (model P w) A (call (.type "set") [.ref l]) Q E s := by
  have n0 : its.size = zs.length := by have z := IntsAre.length hz; rwa [Array.length_toList] at z
  obtain ⟨c0, t0, m0⟩ := PySem.F.called_set.mro
  have m1 := PySem.F.called_set.made; have m2 := PySem.F.called_set.sub
  have m3 := PySem.F.called_set.notType; have m4 := PySem.F.called_set.canCreate
  have m5 := PySem.F.typeCall_set_1 (.ref l)
  refine wpAny_call (codeAny_of_tree ?_); show wpAny _ _ (callAny (.type "set") _) _ _ _
  refine wpAny_pure (And.intro (Code.quiet_builtin _ (by decide +kernel)) (codeAny_builtin PySem.F.entry_type_call ?_)); rewrite [Around.under_plain (weight_type_call_type "set" [Value.ref l] []) rfl]
  repeat any_goals first | assumption | wp_step
  generalize hS0 : s.heap.objs.size = D at *
  have gD : (s.heap.push (set0 w)).get? D = some (set0 w) := by rw [← hS0]; exact Heap.get?_push_size _ rfl
  have tD : Shared.TypeIs { s with heap := s.heap.push (set0 w) } (.ref D) "set" := ⟨_, gD, rfl⟩
  refine codeAny_mono (code_set_led1 (.ref l) (E := E) (Q₁ := fun o s₁ => o = .ref D ∧ s₁ = { s with heap := s.heap.push (set0 w) }) ⟨by rw [hS0], rfl⟩) fun r s₁ hr => ?_
  cases r with
  | error e => exact hr
  | ok fl =>
    cases fl with
    | ret o =>
      obtain ⟨rfl, rfl⟩ := hr
      have i1 := PySem.F.called_set.init.lookup; have i2 := PySem.F.called_set.init.bind (.ref D)
      repeat any_goals first | assumption | wp_step
      refine codeAny_mono (codeAny_call_builtin (R := wants (fun r s₂ => r = .none ∧ ∃ g tk c, s₂ = { s with heap := g, toks := tk } ∧ SetR w g D (fun j => decide (j ∈ zs)) c ∧ c ≤ zs.length ∧ ∀ b o, s.heap.get? b = some o → g.get? b = some o) E) PySem.F.called_set.init.plain PySem.F.entry_set_init (check_set_init_1 tD ?_)) fun r₂ s₂ h₂ => ?_
      · obtain ⟨lo, lg, lc, ln, ld⟩ := hl
        obtain ⟨lcls, ldict, ldata, lslots⟩ := lo
        simp only at lc ld; subst lc; subst ld
        have gl : (s.heap.push (set0 w)).get? l = some { cls := .type "list", dict := ldict, data := .seq its ln, slots := lslots } := Heap.get?_push_of_some _ lg
        have il : (s.heap.push (set0 w)).IsList l its := ⟨_, gl, rfl, ln, rfl⟩
        have x1 := PySem.F.sub_list_set; have x2 := PySem.F.sub_list_frozenset
        have x3 : (Value.type "list" == Value.type "dict") = false := by decide
        unfold Builtin.«set.__init__» noKeywords Builtin.Frozenset.updateFrom; generalize pe : pyIter = it0
        wp_walk
        subst pe; refine wpAny_pyIter_list il (wpAny_bind (wpAny_runValue ?_))
        have l0 : l < D := by rw [← hS0]; exact Heap.lt_size lg
        have sz : (s.heap.push (set0 w)).objs.size = D + 1 := by rw [Heap.size_push, hS0]
        have vals : ∀ (i : Nat) (v : Value), its[i]? = some v → ∃ k t, zs[i]? = some k ∧ v = .int k t := fun i v hv => by
          have lt : i < zs.length := by rw [← n0]; exact (Array.getElem?_eq_some_iff.mp hv).1
          obtain ⟨t, e⟩ := IntsAre.int_at hz i v (by rw [Array.getElem?_toList]; exact hv)
          exact ⟨zs[i], t, List.getElem?_eq_getElem lt, by rw [e, List.getD_eq_getElem?_getD, List.getElem?_eq_getElem lt]; rfl⟩
        refine set_update_ints ((Walks.list (by simp [ha]) _ l (by rw [sz]; exact Nat.ne_of_lt (Nat.lt_succ_of_lt l0)) its).toS) D (by rw [sz]; simp; exact Nat.ne_of_gt l0) zs n0 few vals its.size 0 _ (by omega) (Nat.zero_le _) ⟨⟨_, Heap.get?_push_size _ rfl, rfl, rfl⟩, il.push _⟩ ⟨0, Nat.le_refl 0, setR_new_at (Heap.get?_push_of_some _ gD)⟩ ?_
        rintro ⟨g, g2, d2, tk2, os2⟩ c mv cl hR
        obtain rfl : g2 = s.gens := mv.gens
        obtain rfl : d2 = s.drawn := mv.drawn
        obtain rfl : os2 = s.os := mv.os
        show wpAny _ _ _ _ _ _; refine wpAny_pure ?_; show wpAny _ _ (ret Value.none) _ _ _
        refine wpAny_pure ⟨rfl, g, tk2, c, rfl, hR, by omega, fun b o e => ?_⟩
        have bl : b < D := by rw [← hS0]; exact Heap.lt_size e
        exact mv.heap b o (by rw [sz]; simp; exact ⟨Nat.ne_of_lt bl, Nat.ne_of_lt (Nat.lt_succ_of_lt bl)⟩) (Heap.get?_push_of_some _ (Heap.get?_push_of_some _ e))
      · cases r₂ with
        | error e => exact h₂
        | ok f₂ =>
          cases f₂ with
          | ret r =>
            obtain ⟨rfl, g, tk, c, rfl, z1, z2, z3⟩ := h₂
            repeat any_goals first | assumption | wp_step
            exact fin g tk c z1 z2 z3
          | _ => exact h₂.elim
    | _ => exact hr.elim
end
section
variable {X : Cx}
theorem ints_of {zs : List Int} {us : List Value} (h : Vals (zs.map V.int) us) : IntsAre us zs := by
  induction zs generalizing us with
  | nil => cases h; exact .nil
  | cons z r ih =>
    cases h with
    | cons a b =>
      obtain ⟨t, rfl⟩ := a
      exact .cons z t (ih b)
/-- a new set of the ints of a list; ds are its members -/
def rSetI (K : PySem.W.Frag) (w : World) : List V → Hp → VK → Prop := fun xs H Q => ∃ (l : Addr) (zs : List Int), xs = [V.ref l] ∧ SqL K H l (zs.map V.int) ∧ zs.length < 4000 ∧
  ∀ (a : Addr) (ds : List Int), H a = none → ds.Nodup → (∀ d ∈ ds, d ∈ zs) → Q (.ref a) (upd H a (SetO w a (fun j => decide (j ∈ zs)) ds.length))
theorem cr_setI (hc : X.calm = true) : CallR X (.type "set") (rSetI X.K X.w) := by
  intro pins s σ H xs us Q I r h
  obtain ⟨l, zs, rfl, hl, few, q⟩ := h
  rw [Vals.ref1 r]
  obtain ⟨its, rv, pl, sz⟩ := I.list hl
  have nn : H s.heap.objs.size = none := I.hok.fresh (Nat.le_refl _)
  refine set_of_ints zs (I.ok.hd hc) pl.isList (by simpa using ints_of rv) (by show zs.length + 1 < 4096; omega) fun g tk c R le k => ?_
  obtain ⟨o, es, ep, t, _, _, _, _, z1, z2, _, _, z3, _⟩ := id R
  have len : (es.toList.map keyOf).length = c := by rw [List.length_map, Array.length_toList]; exact z3
  rw [← len] at R
  exact ⟨.ref s.heap.objs.size, _, I.laid (t' := tk) k (Nat.le_refl _) (setO_new R), rfl, q _ _ nn z1 fun d hd => of_decide_eq_true ((z2 d).mpr hd)⟩
/-! ### tuple(range(i, j, c)) -/
def rg3V (i c : Int) (n : Nat) : List V := (List.range n).map fun k => V.int (i + ((k : Nat) : Int) * c)
def tTupRg3 (ta : TA) : TE := fun σ H Q => ta σ H fun vs H1 => ∃ (i j c : Int) (n : Nat), vs = [.int i, .int j, .int c] ∧ RgC i j c n ∧ n ≤ 1000 ∧ ∀ q, H1 q = none → Q (.ref q) (upd H1 q (.tup (rg3V i c n)))
theorem vals_rg3 {i c : Int} {n : Nat} {acc : Array Value} (h : ItemsOf (fun k v => ∃ t, v = .int (i + k * c) t) acc n) : Vals (rg3V i c n) acc.toList := by
  have len : n = acc.toList.length := by rw [Array.length_toList, h.1]
  subst len
  exact vals_of_get acc.toList (fun m => V.int (i + ((m : Nat) : Int) * c)) fun m x hm => by
    obtain ⟨t, ex⟩ := h.2 m x (by rw [← Array.getElem?_toList]; exact hm)
    exact ⟨t, ex⟩
theorem pe_tupRg3 {a b c : Expr} {ta : TA} {p p2 pos pos2 : Pos} (hc : X.calm = true) (hg : Gl X "tuple") (hm : X.mg "tuple" = none) (hgR : Gl X "range") (hmR : X.mg "range" = none) (ha : PA X [a, b, c] ta)
    (na : starEach [.Call (.Name "range" p2) [a, b, c] [] pos2] X.env = (false, eval (.Call (.Name "range" p2) [a, b, c] [] pos2) X.env) :: starEach [] X.env := by rfl)
    (hs : starEach [a, b, c] X.env = (false, eval a X.env) :: starEach [b, c] X.env := by rfl) (hpl : (backTo pos2 (starEach [b, c] X.env)).any (·.1) = false := by rfl) :
    PE X (.Call (.Name "tuple" p) [.Call (.Name "range" p2) [a, b, c] [] pos2] [] pos) (tTupRg3 ta) := by
  refine ⟨fun pins s σ H Q I h => Call_ (ld_blt I hg hm boot_tuple (PyProof.Rows.callWith_type1 (args_cons (Call_ (ld_blt I hgR hmR boot_range (PyProof.Rows.callWith_type1 (thn (ha.run pos2 pins s σ H _ I h) fun us s1 ⟨vs, H1, I1, r1, q1⟩ => ?_) hs hpl))) na) na))⟩
  obtain ⟨lo, up, st, n, rfl, ⟨z0, z1, z2, z3⟩, hn, q⟩ := q1
  obtain _ | ⟨⟨t0, rfl⟩, _ | ⟨⟨t1, rfl⟩, _ | ⟨⟨t2, rfl⟩, _ | _⟩⟩⟩ := r1
  refine call_range_3 z0 (args_nil ?_) (.inl (PyProof.noPylong_small z1))
  have J : Inv X pins σ H1 { s1 with heap := s1.heap.push { cls := .type "range", data := .fields #[.int lo t0, .int up t1, .int st t2] } } := I1.kept (t' := s1.toks) fun _ _ z => Heap.get?_push_of_some _ z
  refine call_tuple_range (n := n) (J.ok.hd hc) (IsRange.new ..) z2 z3 (by omega) fun g tk acc kp its => ?_
  have J3 : Inv X pins σ H1 { s1 with heap := g, toks := tk } := J.kept kp
  have small : (rg3V lo st n).length ≤ sizeLine := by unfold rg3V; rw [List.length_map, List.length_range, sizeLine_eq]; omega
  have new : ObjOk X.prog X.w (upd H1 g.objs.size (.tup (rg3V lo st n))) (g.push { cls := .type "tuple", data := .seq acc }) g.objs.size (.tup (rg3V lo st n)) := ⟨small, acc.toList, vals_rg3 its, (by rw [Array.toArray_toList]; exact IsTup.new _ _)⟩
  exact ⟨.ref g.objs.size, _, J3.laid (t' := tk) (fun _ _ z => Heap.get?_push_of_some _ z) (Nat.le_refl _) new, rfl, q _ (J3.hok.fresh (Nat.le_refl _))⟩
end
end Ov
namespace Ov
open PySem PySem.Spec PyProof.Rows L2
/-! ### enumerate over a tuple -/
/-- the two new objects of such a call -/
theorem enumT_new {vv : Value} {oo : Obj} {HH : Heap → Prop} (BB : Begins vv oo HH) : Meets (Builtin.«enumerate.__new__» ⟨[.type "enumerate", vv], []⟩) (fun _ R st => HH st.heap ∧
    R (.ok (.ret (.ref (st.heap.push oo).objs.size))) { st with heap := (st.heap.push oo).push { cls := .type "enumerate", data := .fields #[.none, .bool false, .ref st.heap.objs.size, rawInt 0, .none, .none] } }) := by
  refine .of_wp fun pr ww AA RR st hyp => ?_
  obtain ⟨hp, gn, dd, tk, os⟩ := st
  obtain ⟨hyp1, hyp2⟩ := hyp
  have subE := sub_enumerate
  have itE : ∀ {A' : Around} {EE : Value → Shared → Prop} {QQ : Value → Shared → Prop}, QQ (.ref hp.objs.size) ⟨hp.push oo, gn, dd, tk, os⟩ → wpAny (model pr ww) A' (pyIter vv) QQ EE ⟨hp, gn, dd, tk, os⟩ := fun qq => BB.iter pr ww _ _ ⟨hp, gn, dd, tk, os⟩ _ hyp1 qq
  wp_walk using itE
  refine wpAny_stack_any fun stk => wpAny_pure ?_
  split
  · rename_i cc _ _ _ _ _
    cases (cc == Value.type "enumerate") <;> (wp_walk using itE) <;> exact ⟨_, rfl, hyp2⟩
  · wp_walk using itE
    exact ⟨_, rfl, hyp2⟩
theorem call_enumT {pr : Program} {ww : World} {AA : Around} {EE : Value → Shared → Prop} {st : Shared} {tt : Addr} {arr : Array Value} {QQ : Value → Shared → Prop} (hT : st.heap.IsTuple tt arr)
    (hyp : ∀ h2, IsEnum h2 (st.heap.objs.size + 1) st.heap.objs.size 0 .none → h2.IsTupleIter st.heap.objs.size tt 0 → (∀ b o, st.heap.get? b = some o → h2.get? b = some o) → QQ (.ref (st.heap.objs.size + 1)) { st with heap := h2 }) :
    wpAny (model pr ww) AA (call (.type "enumerate") [.ref tt]) QQ EE st := by
  refine callType_new F.called_enumerate (by decide) (F.typeCall_enumerate_1 _) (F.newCall_enumerate_1 _) (fun obj => F.args_object_init_2 obj _) F.entry_enumerate_new (enumT_new (begins_tuple tt arr)) ⟨hT, ?_⟩
  have sz : (st.heap.push { cls := .type "tuple_iterator", data := .fields #[.ref tt, .int 0 0] }).objs.size = st.heap.objs.size + 1 := Heap.size_push ..
  show _ ∧ _
  rw [sz]
  have en : IsEnum ((st.heap.push { cls := .type "tuple_iterator", data := .fields #[.ref tt, .int 0 0] }).push { cls := .type "enumerate", data := .fields #[.none, .bool false, .ref st.heap.objs.size, rawInt 0, .none, .none] }) (st.heap.objs.size + 1) st.heap.objs.size 0 .none := by
    have zz := Heap.get?_push_size (st.heap.push { cls := .type "tuple_iterator", data := .fields #[.ref tt, .int 0 0] }) (o := { cls := .type "enumerate", data := .fields #[.none, .bool false, .ref st.heap.objs.size, rawInt 0, .none, .none] }) rfl
    rwa [sz] at zz
  exact ⟨⟨_, en, rfl⟩, hyp _ en ⟨_, Heap.get?_push_of_some _ (Heap.get?_push_size _ rfl), rfl, rfl⟩ fun b o xx => Heap.get?_push_of_some _ (Heap.get?_push_of_some _ xx)⟩
theorem enumT_end {pr : Program} {ww : World} {AA : Around} {EE : Value → Shared → Prop} {st : Shared} {en it tt : Addr} {i : Nat} {arr : Array Value} {old : Value} {QQ : Option Value → Shared → Prop} (calm : AA.handled = none) (hen : IsEnum st.heap en it i old) (hti : st.heap.IsTupleIter it tt i) (ht : st.heap.IsTuple tt arr) (hx : arr[i]? = none)
    (hyp : ∀ h2, Heap.ExtBut it st.heap h2 → QQ none { st with heap := h2 }) : wpAny (model pr ww) AA (pyNext (.ref en)) QQ EE st := by
  have ty : st.TypeIs (.ref en) "enumerate" := ⟨_, hen, rfl⟩
  unfold pyNext
  refine wpAny_bind (wpAny_attempt (wpAny_callSpecial?_slot (name := Str.ofString "__next__") ty F.slot_enumerate_next (wpAny_call_entry F.slot_enumerate_next ty F.entry_enumerate_next ?_ (F.args_enumerate_next_1 _))))
  show wpAny _ _ (field (.ref en) 2 >>= _) _ _ _
  refine wpAny_bind (wpAny_field hen rfl (x := .ref it) rfl (wpAny_bind (wpAny_nextOf_tuple_end calm hti ht hx fun h2 ee ext isStop => ?_)))
  obtain ⟨oo, hoo, hcc⟩ := isStop
  exact wpAny_bind (wpAny_isInstance (T := "StopIteration") (b := true) ⟨oo, hoo, hcc⟩ isSubtype_stop (wpAny_pure (hyp _ ext)))
/-- the tuple at a as it stands, each item in a new pair with its number -/
def IteT (K : PySem.W.Frag) (a : Addr) : It where
  go := fun i H => ∃ (xs : List V) (x : V), SqT K H a xs ∧ xs[i]? = some x
  yld := fun i H v H' => ∃ pr x, v = .ref pr ∧ H pr = none ∧ H' = upd H pr (.tup [.int (i : Nat), x]) ∧ ∀ xs, SqT K H a xs → xs[i]? = some x
  stop := fun i H => ∃ xs : List V, SqT K H a xs ∧ xs.length ≤ i
theorem turn_enumT {P : Program} {w : World} {K : PySem.W.Frag} {elts : List Expr} {kk : Nat} {tpos : Pos} (a en it : Addr) (n1 : en ≠ it) (n2 : a ≠ it) (n3 : a ≠ en) :
    Turn P w K (.Tuple elts kk tpos) (IteT K a) [en, it] en (fun i h => (∃ old, IsEnum h en it ((i : Nat) : Int) old) ∧ h.IsTupleIter it a i) where
  mem := by simp
  obj := fun i h st b hb => by
    obtain ⟨⟨old, hen⟩, ⟨oi, hoi, _, hdi⟩⟩ := st
    rcases (show b = en ∨ b = it by simpa using hb) with rfl | rfl
    · exact ⟨_, hen, fun v q => nomatch q⟩
    · exact ⟨oi, hoi, fun v q => by rw [hdi] at q; cases q⟩
  keep := fun i h h' st kp => by
    obtain ⟨⟨old, hen⟩, hti⟩ := st
    exact ⟨⟨old, kp en (by simp) _ hen⟩, hti.at fun o q => kp it (by simp) o q⟩
  item := by
    intro X hP hw hK hc i pins s σ H E I hf st hg
    subst hP hw hK
    obtain ⟨⟨old, hen⟩, hti⟩ := st
    obtain ⟨xs, x, hq, hx⟩ := hg
    obtain ⟨vals, rv, ht, _⟩ := I.tuple hq
    obtain ⟨u, hu, ru⟩ := rv.get hx
    have enl := Heap.lt_size hen
    have itl : it < s.heap.objs.size := by obtain ⟨_, z, _⟩ := hti; exact Heap.lt_size z
    have ndr : en ∉ [it, a] := fun z => (show en = it ∨ en = a by simpa using z).elim n1 fun z => n3 z.symm
    have ilt : i < vals.toArray.size := by have := (List.getElem?_eq_some_iff.mp hu).1; simpa using this
    refine wpAny_pyNext_enum_itemD (Draws.tuple (A := X.A.in1) (I.ok.hd hc) it a n2 vals.toArray) hen ⟨hti, ht⟩ ilt n1 ndr fun x' h1 tk hx' hout hst2 hT hsz hk => ?_
    have ex : x' = u := by
      have z : vals[i]? = some x' := by simpa using hx'
      exact Option.some.inj (z.symm.trans hu)
    subst ex
    refine ⟨_, rfl, wpAny_letOwnedTupleGo_enum (s := { s with heap := h1, toks := tk + 1 }) hout fun h2 hen2 sb => ?_⟩
    have hT2 : h2.get? s.heap.objs.size = some { cls := .type "tuple", data := .seq #[.int i tk, x'] } := (sb.2 _ (Nat.ne_of_gt enl)).trans hT
    have fresh : ObjOk X.prog X.w (upd H s.heap.objs.size (.tup [.int (i : Nat), x])) h2 s.heap.objs.size (.tup [.int (i : Nat), x]) := ⟨by show 2 ≤ sizeLine; decide, [.int i tk, x'], .cons ⟨_, rfl⟩ (.cons ru .nil), ⟨_, hT2, rfl, _, rfl⟩⟩
    have I2 : Inv X pins σ (upd H s.heap.objs.size (.tup [.int (i : Nat), x])) { s with heap := h2, toks := tk + 1 } := I.turnedNew (ch := [en, it]) (fun b ob hb q => (sb.2 b (fun z => hb (by simp [z]))).trans (hk b ob (fun z => hb (by simp [z])) (fun z => hb (by simp [z])) q)) hf (Nat.le_refl _) fresh
    refine ⟨.ref s.heap.objs.size, _, I2, rfl, ⟨_, x, rfl, I.hok.fresh (Nat.le_refl _), rfl, fun ys hy => by rw [I.tuple_inj hy hq]; exact hx⟩, ⟨⟨x', ?_⟩, hst2.1.at fun o q => (sb.2 it (Ne.symm n1)).trans q⟩, fun b hb => ?_⟩
    · rw [show ((i + 1 : Nat) : Int) = (i : Int) + 1 by omega]; exact hen2
    · have bl : b < s.heap.objs.size := (show b = en ∨ b = it by simpa using hb).elim (fun z => by rw [z]; exact enl) fun z => by rw [z]; exact itl
      rw [upd_ne (Nat.ne_of_lt bl)]; exact (hf b hb).1
  done := by
    intro X hP hw hK hc i pins s σ H E I hf st hg
    subst hP hw hK
    obtain ⟨⟨old, hen⟩, hti⟩ := st
    obtain ⟨xs, hq, hx⟩ := hg
    obtain ⟨vals, rv, ht, _⟩ := I.tuple hq
    obtain ⟨f0, f1, f2, f3, f4, f5⟩ := hf it (by simp)
    have len := rv.length
    exact enumT_end (I.ok.hd hc) hen hti ht (by simp; omega) fun h2 ext => ⟨rfl, I.turned (t' := s.toks) (fun b o hb q => ext b o hb q) f0 f1 f3 f4 f5⟩
  self := fun A i s Q E st h => by
    obtain ⟨⟨_, hen⟩, _⟩ := st
    exact wpAny_pyIter_enum hen h
def iEnumT (K : PySem.W.Frag) (ta : TA) : TI := fun σ H R => ta σ H fun vs H1 => ∃ a xs, vs = [.ref a] ∧ SqT K H1 a xs ∧ R (IteT K a) H1
theorem pi_enumT {X : Cx} {e : Expr} {ta : TA} {p pos tpos : Pos} {elts : List Expr} {kk : Nat} (glob : Gl X "enumerate") (plain : X.mg "enumerate" = none) (arg : PA X [e] ta) (star : starEach [e] X.env = [(false, eval e X.env)] := by rfl) : PI X (.Tuple elts kk tpos) (.Call (.Name "enumerate" p) [e] [] pos) (iEnumT X.K ta) := by
  refine ⟨fun pins s σ H R I h => ?_⟩
  refine Call_ (ld_blt I glob plain boot_enumerate (PyProof.Rows.callWith_type1 (thn (arg.run pos pins s σ H _ I h) fun us s1 ⟨vs, H1, I1, r1, q1⟩ => ?_) star rfl))
  obtain ⟨a, xs, rfl, hq, q⟩ := q1
  obtain ⟨u, rfl, ru⟩ := vals1 r1
  cases (show u = Value.ref a from ru)
  obtain ⟨vals, rv, ht, _⟩ := I1.tuple hq
  have al : a < s1.heap.objs.size := by obtain ⟨_, z, _⟩ := ht; exact Heap.lt_size z
  refine call_enumT ht fun h2 hen hti hk => wpAny_pyIter_enum hen ?_
  refine ⟨s1.heap.objs.size + 1, [s1.heap.objs.size + 1, s1.heap.objs.size], _, _, H1, rfl, I1.kept (t' := s1.toks) hk, turn_enumT a (s1.heap.objs.size + 1) s1.heap.objs.size (Nat.succ_ne_self _) (Nat.ne_of_lt al) (Nat.ne_of_lt (Nat.lt_succ_of_lt al)), ⟨⟨.none, hen⟩, hti⟩, fun b hb => ?_, q⟩
  have ge : s1.heap.objs.size ≤ b := (show b = s1.heap.objs.size + 1 ∨ b = s1.heap.objs.size by simpa using hb).elim (fun z => by rw [z]; exact Nat.le_add_right _ _) fun z => Nat.le_of_eq z.symm
  exact I1.fpOk ge (I1.hok.fresh ge)
theorem walk_enumT {K : PySem.W.Frag} {a : Addr} {xs : List V} {n : Nat} (hn : n = xs.length) : Walk (IteT K a) n (fun H => SqT K H a xs) (fun i H v H' => ∃ pr x, v = .ref pr ∧ H pr = none ∧ H' = upd H pr (.tup [.int (i : Nat), x]) ∧ xs[i]? = some x) := by
  subst hn
  refine ⟨fun i _ hi q => ⟨xs, xs[i], q, List.getElem?_eq_getElem hi⟩, fun _ q => ⟨xs, q, Nat.le_refl _⟩, fun i H v H' _ q y => ?_⟩
  obtain ⟨pr, x, h1, h2, h3, h4⟩ := y
  exact ⟨pr, x, h1, h2, h3, h4 xs q⟩
end Ov
namespace Ov
open PySem PySem.Spec PyProof.Rows L2
/-! ### things of any kind that stand in the heap that is told of, nothing of them in the text's own part -/
mutual
inductive Dz (H : Hp) : V → PyData → Prop
  | non : Dz H .non .none
  | bl (b : Bool) : Dz H (.bl b) (.bool b)
  | int (i : Int) : Dz H (.int i) (.int i)
  | str (x : Str) : Dz H (.str x) (.str x)
  | dct {a : Addr} : H a = some (.dK []) → Dz H (.ref a) (.dict [])
  | lst {a : Addr} {xs : List V} {ds : List PyData} : H a = some (.lst xs) → a ≠ sysModules → DzAll H xs ds → Dz H (.ref a) (.list ds)
  | tup {a : Addr} {xs : List V} {ds : List PyData} : H a = some (.tup xs) → DzAll H xs ds → Dz H (.ref a) (.tuple ds)
inductive DzAll (H : Hp) : List V → List PyData → Prop
  | nil : DzAll H [] []
  | cons {v : V} {vs : List V} {d : PyData} {ds : List PyData} : Dz H v d → DzAll H vs ds → DzAll H (v :: vs) (d :: ds)
end
mutual
theorem Dz.dx {K : PySem.W.Frag} {H : Hp} : ∀ {v : V} {d : PyData}, Dz H v d → Dx K H v d
  | _, _, .non => .non
  | _, _, .bl b => .bl b
  | _, _, .int i => .int i
  | _, _, .str x => .str x
  | _, _, .dct h => .dct h
  | _, _, .lst h _ a => .lst (SqL.of h) (DzAll.dx a)
  | _, _, .tup h a => .tup (SqT.of h) (DzAll.dx a)
theorem DzAll.dx {K : PySem.W.Frag} {H : Hp} : ∀ {vs : List V} {ds : List PyData}, DzAll H vs ds → DxAll K H vs ds
  | _, _, .nil => .nil
  | _, _, .cons h a => .cons (Dz.dx h) (DzAll.dx a)
end
mutual
theorem Dz.same {H H' : Hp} (e : Same H H') : ∀ {v : V} {d : PyData}, Dz H v d → Dz H' v d
  | _, _, .non => .non
  | _, _, .bl b => .bl b
  | _, _, .int i => .int i
  | _, _, .str x => .str x
  | _, _, .dct h => .dct (e _ _ h)
  | _, _, .lst h n a => .lst (e _ _ h) n (DzAll.same e a)
  | _, _, .tup h a => .tup (e _ _ h) (DzAll.same e a)
theorem DzAll.same {H H' : Hp} (e : Same H H') : ∀ {vs : List V} {ds : List PyData}, DzAll H vs ds → DzAll H' vs ds
  | _, _, .nil => .nil
  | _, _, .cons h a => .cons (Dz.same e h) (DzAll.same e a)
end
theorem DzAll.at {H : Hp} : ∀ {vs : List V} {ds : List PyData}, DzAll H vs ds → ∀ {i : Nat} {v : V}, vs[i]? = some v → ∃ d, ds[i]? = some d ∧ Dz H v d
  | _, _, .nil, i, v, e => by simp at e
  | _, _, .cons h a, 0, v, e => by cases e; exact ⟨_, rfl, h⟩
  | _, _, .cons h a, i + 1, v, e => a.at (i := i) e
theorem DzAll.len {H : Hp} : ∀ {vs : List V} {ds : List PyData}, DzAll H vs ds → vs.length = ds.length
  | _, _, .nil => rfl
  | _, _, .cons _ a => by rw [List.length_cons, List.length_cons, a.len]
theorem DzAll.app {H : Hp} : ∀ {vs us : List V} {ds es : List PyData}, DzAll H vs ds → DzAll H us es → DzAll H (vs ++ us) (ds ++ es)
  | _, _, _, _, .nil, b => b
  | _, _, _, _, .cons h a, b => .cons h (a.app b)
theorem DzAll.take {H : Hp} : ∀ {vs : List V} {ds : List PyData} (n : Nat), DzAll H vs ds → DzAll H (vs.take n) (ds.take n)
  | _, _, 0, _ => .nil
  | _, _, n + 1, .nil => .nil
  | _, _, n + 1, .cons h a => .cons h (a.take n)
theorem DzAll.drop {H : Hp} : ∀ {vs : List V} {ds : List PyData} (n : Nat), DzAll H vs ds → DzAll H (vs.drop n) (ds.drop n)
  | _, _, 0, a => a
  | _, _, n + 1, .nil => .nil
  | _, _, n + 1, .cons h a => a.drop n
theorem dz_ints {H : Hp} : ∀ ns : List Int, DzAll H (ns.map V.int) (ns.map PyData.int)
  | [] => .nil
  | n :: ns => .cons (.int n) (dz_ints ns)
section
variable {X : Cx} {pins : List (Addr × Obj)} {σ : L2.St} {H : Hp} {s : Shared}
mutual
theorem Dz.reads (I : Inv X pins σ H s) : ∀ (d : PyData) (v : V) (u : Value), Dz H v d → RelV v u → ∃ as, Reads s.heap u d as ∧ sysModules ∉ as
  | .none, _, _, h, r => by
    cases h
    cases r
    exact ⟨_, Reads.none, fun z => nomatch z⟩
  | .bool b, _, _, h, r => by
    cases h
    cases r
    exact ⟨_, Reads.bool b, fun z => nomatch z⟩
  | .int i, _, _, h, r => by
    cases h
    obtain ⟨t, rfl⟩ := r
    exact ⟨_, Reads.int i t, fun z => nomatch z⟩
  | .str x, _, _, h, r => by
    cases h
    obtain ⟨t, rfl⟩ := r
    exact ⟨_, Reads.str x t, fun z => nomatch z⟩
  | .list ds, _, _, h, r => by
    cases h with
    | @lst a xs _ hs na ha =>
      cases r
      obtain ⟨its, rv, ⟨o, n, ho, hc, _, hd⟩, _⟩ := I.list (SqL.of hs)
      obtain ⟨as, hr, f⟩ := Dz.readsAll I ds _ its ha rv
      refine ⟨_, Reads.list ho hc hd hr, fun z => ?_⟩
      rcases List.mem_cons.mp z with z | z
      · exact na z.symm
      · exact f z
  | .tuple ds, _, _, h, r => by
    cases h with
    | tup hs ha =>
      cases r
      obtain ⟨its, rv, ⟨o, ho, hc, n, hd⟩, _⟩ := I.tuple (SqT.of hs)
      obtain ⟨as, hr, f⟩ := Dz.readsAll I ds _ its ha rv
      exact ⟨_, Reads.tuple ho hc hd hr, f⟩
  | .dict kvs, _, _, h, r => by
    cases h with
    | dct hs =>
      cases r
      obtain ⟨_, ns, vs, kv, o, es, ep, ho, hc, hd, hv⟩ := dk_of I.hok hs
      cases kv
      have e0 : es.toList = [] := by
        have z := hv.2.1
        revert z
        generalize es.toList = l
        intro z
        cases z
        rfl
      refine ⟨_, Reads.dict ho hc.1 hd (by rw [e0]; exact .nil) (by rw [e0]; exact .nil), fun z => ?_⟩
      rcases List.mem_cons.mp z with z | z
      · rw [← z] at ns
        cases ns
      · cases z
theorem Dz.readsAll (I : Inv X pins σ H s) : ∀ (ds : List PyData) (vs : List V) (us : List Value), DzAll H vs ds → Vals vs us → ∃ as, ReadsAll s.heap us ds as ∧ sysModules ∉ as
  | [], _, _, h, r => by
    cases h
    cases r
    exact ⟨_, ReadsAll.nil, fun z => nomatch z⟩
  | d :: ds, _, _, h, r => by
    cases h with
    | cons h1 h2 =>
      cases r with
      | cons r1 r2 =>
        obtain ⟨as, q1, f1⟩ := Dz.reads I d _ _ h1 r1
        obtain ⟨bs, q2, f2⟩ := Dz.readsAll I ds _ _ h2 r2
        exact ⟨_, ReadsAll.cons q1 q2, fun m => (List.mem_append.mp m).elim f1 f2⟩
end
end
section
variable {X : Cx} {pos : Pos} {es : List Expr} {t : TA}
/-- a new list, which stands where no module's table does -/
def tLow (t : TA) : TE := fun σ H Q => t σ H fun xs G => xs.length ≤ sizeLine ∧ ∀ l, G l = none → l ≠ sysModules → Q (.ref l) (upd G l (.lst xs))
theorem pe_low (h : PA X es t) : PE X (.List es pos) (tLow t) := by
  constructor
  intro pins s σ H Q I hq
  refine wpAny_List_spliced (thn (h.run pos pins s σ H _ I hq) ?_)
  rintro us s1 ⟨xs, G, J, r, z, q⟩
  have nl := Nat.ne_of_gt J.big
  have fr : G s1.heap.objs.size = none := J.hok.fresh (Nat.le_refl _)
  have z' : us.length ≤ sizeLine := r.length ▸ z
  have ob : ObjOk X.prog X.w (upd G s1.heap.objs.size (.lst xs)) (s1.heap.push { cls := .type "list", data := .seq us.toArray }) s1.heap.objs.size (.lst xs) := ⟨z, us, 0, r, Heap.get?_push_size _ rfl⟩
  exact ⟨z', .ref s1.heap.objs.size, _, J.laid (t' := s1.toks) (fun b u e => Heap.get?_push_of_some _ e) (Nat.le_refl _) ob, rfl, q _ fr nl⟩
theorem call_listLow : CallR X (.type "list") (fun xs H Q => ∃ p ys, xs = [.ref p] ∧ SqT X.K H p ys ∧ ∀ l, H l = none → l ≠ sysModules → Q (.ref l) (upd H l (.lst ys))) := by
  intro pins s σ H xs us Q I r h
  obtain ⟨p, ys, rfl, hq, q⟩ := h
  obtain ⟨u, rfl, rx⟩ := vals1 r
  cases rx
  have nl := Nat.ne_of_gt I.big
  obtain ⟨its, rr, ⟨o, ho, hc, n, hd⟩, hz⟩ := I.tuple hq
  have el := rr.length
  refine call_list_seq p (.inr rfl) ho hc hd (fun g c kp e => ?_) (by rw [List.size_toArray]; omega)
  exact ⟨.ref s.heap.objs.size, _, I.laid (t' := s.toks) kp (Nat.le_refl _) (show ObjOk X.prog X.w _ g _ (.lst ys) from ⟨hz, its, c, rr, e⟩), rfl, q _ (I.hok.fresh (Nat.le_refl _)) nl⟩
end
/-- what can be shown of such things -/
structure Shz (d : PyData) (n : Nat) : Prop where
  sh : d.showable = true
  dep : d.depth ≤ n
  nd : nodes d ≤ 8000
section
variable {X : Cx} {k : Nat}
theorem call_repr_z (gd : X.A.guards = some []) (room : Room k X.A) : CallR X (.builtin "repr") (fun xs H Q => ∃ v d, xs = [v] ∧ Dz H v d ∧ Shz d 60 ∧ Q (.str d.shown) H) := by
  intro pins s σ H xs us Q I r h
  obtain ⟨v, d, rfl, hd, S, q⟩ := h
  obtain ⟨u, rfl, rx⟩ := vals1 r
  have un := room.un
  have sz := fits_shown S.sh S.nd
  have ref : ∀ a : Addr, u = .ref a → wpAny (model X.prog X.w) X.A (call (.builtin "repr") [u]) (fun u' s' => ∃ v' H', Inv X pins σ H' s' ∧ RelV v' u' ∧ Q v' H') X.xe s := by
    intro a ha
    subst ha
    obtain ⟨as, rd, f⟩ := Dz.reads I d _ _ hd rx
    have dep := S.dep
    refine repr_of_reads' (h₀ := s.heap) rd S.sh (fun _ => f) gd (by omega) (fun _ _ e => e) ?_ sz
    intro h' u tk kp
    exact ⟨.str d.shown, H, I.kept (t' := tk) kp, ⟨u, rfl⟩, q⟩
  cases hd with
  | non =>
    cases (show u = Value.none from rx)
    exact PySem.P.repr_of_none ⟨.str _, H, I.tok _, ⟨_, rfl⟩, q⟩
  | bl b =>
    cases (show u = Value.bool b from rx)
    exact PySem.P.repr_of_bool ⟨.str _, H, I.tok _, ⟨_, rfl⟩, q⟩
  | int i =>
    obtain ⟨t, rfl⟩ := (show ∃ t, u = Value.int i t from rx)
    exact PySem.P.repr_of_int (by simpa [PyData.showable] using S.sh) ⟨.str _, H, I.tok _, ⟨_, rfl⟩, q⟩
  | str x =>
    obtain ⟨t, rfl⟩ := (show ∃ t, u = Value.str x t from rx)
    exact PySem.P.repr_of_str ⟨.str _, H, I.tok _, ⟨_, rfl⟩, q⟩ sz
  | dct h => exact ref _ rx
  | lst h a => exact ref _ rx
  | tup h a => exact ref _ rx
/-! ### a list or a tuple of anything against an empty one -/
def rNoL (K : PySem.W.Frag) (b : Bool) : R2 := fun x y H Q => ∃ p q xs, x = .ref p ∧ y = .ref q ∧ SqL K H p xs ∧ SqL K H q [] ∧ Q (.bl (xs.isEmpty == b)) H
def rNoT (K : PySem.W.Frag) (b : Bool) : R2 := fun x y H Q => ∃ p q xs, x = .ref p ∧ y = .ref q ∧ SqT K H p xs ∧ SqT K H q [] ∧ Q (.bl (xs.isEmpty == b)) H
theorem op_eqNoL (hu : X.A.units + 64 < cLine) : OpR X (compareOp .Eq) (rNoL X.K true) := by
  intro pins s σ H x y v u Q I rx ry h
  obtain ⟨p, q, xs, rfl, rfl, hp, hq, z⟩ := h
  obtain rfl : v = Value.ref p := rx
  obtain rfl : u = Value.ref q := ry
  obtain ⟨its, rv, ⟨o, n, ho, hc, _, hd⟩, _⟩ := I.list hp
  obtain ⟨jts, rw', ⟨o', n', ho', hc', _, hd'⟩, _⟩ := I.list hq
  cases rw'
  have h1 : s.heap.IsList p its.toArray := ⟨o, ho, hc, n, hd⟩
  have h2 : s.heap.IsList q (([] : List Value).toArray) := ⟨o', ho', hc', n', hd'⟩
  cases rv with
  | nil => exact SeqAt.RcAt.lists (e := fun _ => true) h1 h2 rfl (by omega) (fun j j1 j2 => absurd j2 (Nat.not_lt_zero _)) _ _ _ _ ⟨.bl _, H, I, rfl, z⟩
  | cons r1 r2 => exact SeqAt.RcAt.lists_lengths h1 h2 (by simp) (by omega) _ _ _ _ ⟨.bl _, H, I, rfl, z⟩
theorem op_neNoL (hu : X.A.units + 64 < cLine) : OpR X (compareOp .NotEq) (rNoL X.K false) := by
  intro pins s σ H x y v u Q I rx ry h
  obtain ⟨p, q, xs, rfl, rfl, hp, hq, z⟩ := h
  obtain rfl : v = Value.ref p := rx
  obtain rfl : u = Value.ref q := ry
  obtain ⟨its, rv, ⟨o, n, ho, hc, _, hd⟩, _⟩ := I.list hp
  obtain ⟨jts, rw', ⟨o', n', ho', hc', _, hd'⟩, _⟩ := I.list hq
  cases rw'
  have h1 : s.heap.IsList p its.toArray := ⟨o, ho, hc, n, hd⟩
  have h2 : s.heap.IsList q (([] : List Value).toArray) := ⟨o', ho', hc', n', hd'⟩
  cases rv with
  | nil => exact SeqAt.RcNeAt.lists (e := fun _ => true) h1 h2 rfl (by omega) (fun j j1 j2 => absurd j2 (Nat.not_lt_zero _)) _ _ _ _ ⟨.bl _, H, I, rfl, z⟩
  | cons r1 r2 => exact SeqAt.RcNeAt.lists_lengths h1 h2 (by simp) (by omega) _ _ _ _ ⟨.bl _, H, I, rfl, z⟩
theorem op_neNoT (hu : X.A.units + 64 < cLine) : OpR X (compareOp .NotEq) (rNoT X.K false) := by
  intro pins s σ H x y v u Q I rx ry h
  obtain ⟨p, q, xs, rfl, rfl, hp, hq, z⟩ := h
  obtain rfl : v = Value.ref p := rx
  obtain rfl : u = Value.ref q := ry
  obtain ⟨its, rv, h1, _⟩ := I.tuple hp
  obtain ⟨jts, rw', h2, _⟩ := I.tuple hq
  cases rw'
  have w := SeqAt.RcNeAt.tuples (A := X.A) (e := fun _ => true) h1 h2 (by omega) (fun j j1 j2 => absurd j2 (Nat.not_lt_zero _)) X.prog X.w X.xe
  refine w _ ⟨.bl _, H, I, rfl, ?_⟩
  cases rv with
  | nil => exact z
  | cons r1 r2 =>
    simp
    exact z
end
end Ov
namespace Ov
open PySem PySem.Spec PyProof.Rows L2
/-! ### o.m(k = v, ..) -/
def tMethK (C : Addr) (m : Str) (sp : Sp) (gV : List V → List V → List V) (E : XK) (ta : TE) (tk : TA) : TE := fun σ H Q => ta σ H fun x H1 => ∃ (a dx : Addr) (fs : List (Str × V)), x = .ref a ∧ H1 a = some (.ins C dx fs) ∧ fs.lookup m = none ∧ tk σ H1 fun zs H2 => sp (gV [x] zs) H2 Q E
section
variable {X : Cx} {CX : CXT} {k : Nat} {f C : Addr} {fd : FuncData} {ps ks : List Str} {sp : Sp} {E : XK} {m : Str} {pos apos : Pos} {o : Expr} {kws : List Keyword} {ta : TE} {tk : TA} {g : List Value → List Value → List Value} {gV : List V → List V → List V}
theorem pe_methK {pl : Sem Bool} (he : PE X o ta) (c : Cls X.K C) (hm : Meth X.K C m f) (F : FnOk X.prog X.w X.K X.mg X.base CX k f fd ps sp) (hr : Room k X.A) (hb : KBinds X.K fd ps ks g gV) (hx : Passes CX X E) (hkw : PK X kws tk)
    (hall : (backToKw pos (keywordEach kws X.env)).all (·.1.isSome) = true := by rfl) (hks : (backToKw pos (keywordEach kws X.env)).filterMap (·.1) = ks := by rfl)
    (hpl : ((backTo pos (starEach [] X.env)).any (·.1) || (backToKw pos (keywordEach kws X.env)).any (·.1.isNone)) = false := by rfl)
    (ht : eval (.Call (.Attribute o m apos) [] kws pos) X.env = (do
      let ov ← eval o X.env
      standAt apos.atName
      let (f, first) ← holding [ov] (getMethod ov m pl)
      callWith pos f first (backTo pos (starEach [] X.env)) (backToKw pos (keywordEach kws X.env))) := by rfl) :
    PE X (.Call (.Attribute o m apos) [] kws pos) (tMethK C m sp gV E ta tk) := by
  refine ⟨fun pins s σ H Q I h => ?_⟩
  refine PySem.W.methodCall_KW (pl := pl) (thn (he.run pins s σ H _ I h) fun u s1 ⟨x, H1, I1, rx, a, dx, fs, ex, ea, l, q⟩ => ?_) ht
  subst ex
  obtain rfl : u = Value.ref a := rx
  refine getmeth_ok I1 ea c hm l ?_
  refine PySem.W.callWith_KW0 (first := [.ref a]) (h₀ := X.base) I.ok.mod.kin hm.kp hall ?_ hpl
  refine thn (hkw.run pos pins s1 σ H1 _ I1 q) fun ws s2 ⟨zs, H2, I2, rz, q2⟩ => ⟨I2.kIn, ?_⟩
  rw [hks]
  exact run_fnk (us := [.ref a]) (vs := [.ref a]) F hr hb hx I2 (.cons rfl .nil) rz q2
end
/-- one value by a keyword, behind the receiver -/
def self1 {α : Type} : List α → List α → List α
  | [a], [b] => [a, b]
  | _, _ => []
theorem self1_len {α : Type} {us ws : List α} (h : (self1 us ws).length = 2) : ∃ a b, us = [a] ∧ ws = [b] := by
  match us, ws, h with
  | [a], [b], _ => exact ⟨a, b, rfl, rfl⟩
  | [], _, h => cases h
  | [_], [], h => cases h
  | [_], _ :: _ :: _, h => cases h
  | _ :: _ :: _, _, h => cases h
theorem self1_rel {vs : List V} {us : List Value} {zs : List V} {ws : List Value} (r : Vals vs us) (rz : Vals zs ws) : Vals (self1 vs zs) (self1 us ws) := by
  cases r with
  | nil => exact .nil
  | cons r1 r =>
    cases r with
    | cons r2 r => exact .nil
    | nil =>
      cases rz with
      | nil => exact .nil
      | cons q1 rz =>
        cases rz with
        | nil => exact .cons r1 (.cons q1 .nil)
        | cons q2 rz => exact .nil
/-- two values by keywords, in the other order, behind the new instance -/
def selfSwap {α : Type} : List α → List α → List α
  | [a], [b, c] => [a, c, b]
  | _, _ => []
theorem selfSwap_rel {vs : List V} {us : List Value} {zs : List V} {ws : List Value} (r : Vals vs us) (rz : Vals zs ws) : Vals (selfSwap vs zs) (selfSwap us ws) := by
  cases r with
  | nil => exact .nil
  | cons r1 r =>
    cases r with
    | cons r2 r => exact .nil
    | nil =>
      cases rz with
      | nil => exact .nil
      | cons q1 rz =>
        cases rz with
        | nil => exact .nil
        | cons q2 rz =>
          cases rz with
          | nil => exact .cons r1 (.cons q2 (.cons q1 .nil))
          | cons q3 rz => exact .nil
end Ov
namespace Ov
open PySem PySem.Spec PyProof.Rows L2
def top (i : Nat) : Stmt := PySem.Challenge.pw_overlapcode_k36_called_by_names.main.body.getD i (.Pass ⟨0, 0, 0, 0⟩)
abbrev sIsInt : Stmt := top 1
abbrev sBetween : Stmt := top 2
abbrev sAscending : Stmt := top 3
abbrev cOverlapError : Stmt := top 5
abbrev cInvalidInstructionSet : Stmt := top 6
abbrev cInvalidLengths : Stmt := top 7
abbrev cInvalidCountdowns : Stmt := top 8
abbrev sWalk : Stmt := top 10
abbrev cInstructionSet : Stmt := top 16
abbrev sAreInstr : Stmt := top 17
abbrev sIsInstr : Stmt := top 18
abbrev sIsName : Stmt := top 19
abbrev sIsCode : Stmt := top 20
abbrev sCommon : Stmt := top 24
abbrev sIsSum : Stmt := top 25
abbrev sLeast : Stmt := top 26
abbrev sConductor : Stmt := top 27
abbrev sGap : Stmt := top 28
abbrev sParts : Stmt := top 29
abbrev sCheck : Stmt := top 30
abbrev sAre : Stmt := top 31
abbrev sGcd : Stmt := top 32
abbrev sWith : Stmt := top 33
abbrev sReached : Stmt := top 34
abbrev sCounts : Stmt := top 35
abbrev sLast : Stmt := top 36
abbrev s_all_countdowns : Stmt := top 38
abbrev s_conflict : Stmt := top 39
abbrev s_filler_length : Stmt := top 40
abbrev s_filler_lengths : Stmt := top 41
abbrev s_filler : Stmt := top 42
abbrev s_is_filler : Stmt := top 43
abbrev s_check_countdowns : Stmt := top 44
abbrev s_are_countdowns : Stmt := top 45
abbrev s_are_congruent : Stmt := top 46
abbrev s_has_filler : Stmt := top 47
abbrev s_least_filler : Stmt := top 48
abbrev s_padding_instructions : Stmt := top 49
abbrev s_first_fitting : Stmt := top 50
abbrev s_is_padded_from : Stmt := top 51
abbrev sBox : Stmt := top 53
abbrev sTake : Stmt := top 54
abbrev sOf : Stmt := top 55
abbrev s_law_set_right : Stmt := top 56
abbrev s_law_fillers_right : Stmt := top 57
abbrev s_law_sums_right : Stmt := top 58
abbrev sLaw : Stmt := top 59
end Ov
namespace Ov
open PySem PySem.Spec PyProof.Rows L2
section
variable {P : Program} {w : World} {K : PySem.W.Frag} {mg : Str → Option Value} {base : Heap}
/-! ### is_integer, is_integer_between -/
def spIsInt : Sp := fun vs H Q _ => ∃ (v : Int), vs = [.int v] ∧ Q (.bl true) H
theorem scIsInt : FnScope ["value"] ["value"] (defScope sIsInt) := ⟨rfl, rfl, rfl, by decide +kernel, rfl, by decide +kernel, by decide +kernel⟩
theorem ok_isInt {f : Addr} {fd : FuncData} {k : Nat} (F : Fun K "is_integer" "is_integer" sIsInt f fd) (T : Bi mg) : FnOk P w K mg base CX0 (k + 1) f fd ["value"] spIsInt := by
  refine F.ok scIsInt (fun vs H Q E h => ?_) (fun cdv A outer s H vs Q E hr h => ?_)
  · obtain ⟨v, rfl, _⟩ := h
    rfl
  · obtain ⟨v, rfl, q⟩ := h
    refine ⟨_, pss_one (ps_ret (pe_and (pe_callB call_isi (by rfl) T.isi (by decide +kernel) (pa_cons (pv 0) (pa_cons (pe_bltn (v := .ty "int") (u := .type "int") (by rfl) T.int (by decide +kernel) rfl) pa_nil)))
      (pe_one (pe_not (pe_callB call_isi (by rfl) T.isi (by decide +kernel) (pa_cons (pv 0) (pa_cons (pe_bltn (v := .ty "bool") (u := .type "bool") (by rfl) T.bool (by decide +kernel) rfl) pa_nil))))))), ?_⟩
    refine ⟨_, rfl, _, _, _, _, _, rfl, .ty _, .base (.int _), kit_ty (by decide +kernel : kitB "int" "int" = some true), _, rfl, iteT ?_⟩
    exact ⟨_, rfl, _, _, _, _, _, rfl, .ty _, .base (.int _), kit_ty (by decide +kernel : kitB "int" "bool" = some false), _, rfl, q⟩
def spBetween : Sp := fun vs H Q _ => ∃ (v lo hi : Int), vs = [.int v, .int lo, .int hi] ∧ lo ≤ v ∧ v ≤ hi ∧ Q (.bl true) H
theorem scBetween : FnScope ["value", "least", "most"] ["value", "least", "most"] (defScope sBetween) := ⟨rfl, rfl, rfl, by decide +kernel, rfl, by decide +kernel, by decide +kernel⟩
theorem ok_between {f fI : Addr} {fd fdI : FuncData} {k : Nat} (F : Fun K "is_integer_between" "is_integer_between" sBetween f fd) (T : Bi mg) (I : Def K mg "is_integer" sIsInt fI fdI ["value"]) : FnOk P w K mg base CX0 (k + 2) f fd ["value", "least", "most"] spBetween := by
  have GI : FnOk P w K mg base CX0 (k + 1) fI fdI ["value"] spIsInt := ok_isInt I.fn T
  refine F.ok scBetween (fun vs H Q E h => ?_) (fun cdv A outer s H vs Q E hr h => ?_)
  · obtain ⟨v, lo, hi, rfl, _⟩ := h
    rfl
  · obtain ⟨v, lo, hi, rfl, h1, h2, q⟩ := h
    refine ⟨_, pss_one (ps_ret (pe_and (pe_call GI hr (by rfl) I.gl I.fn.kp I.bi .nil pass0 (pa_cons (pv 0) pa_nil))
        (pe_one (pe_chain op_le op_le (pv 1) (pv 0) (pv 2))))), ?_⟩
    refine ⟨_, rfl, v, rfl, _, rfl, iteT ?_⟩
    refine ⟨_, rfl, _, rfl, _, _, rfl, rfl, _, rfl, ?_⟩
    rw [decide_eq_true h1]
    refine iteT ⟨_, rfl, _, _, rfl, rfl, ?_⟩
    show Q (.bl (decide (v ≤ hi))) H
    rw [decide_eq_true h2]
    exact q
/-! ### is_ascending -/
def spAscending (K : PySem.W.Frag) : Sp := fun vs H Q _ => ∃ (a : Addr) (ns : List Int), vs = [.ref a] ∧ SqT K H a (ns.map V.int) ∧ ns.length ≤ 1000 ∧ ns.Pairwise (· < ·) ∧ ∀ H', Same H H' → Q (.bl true) H'
theorem scAscending : FnScope ["numbers", "low", "high"] ["numbers"] (defScope sAscending) := ⟨rfl, rfl, rfl, by decide +kernel, rfl, by decide +kernel, by decide +kernel⟩
theorem ok_ascending {f : Addr} {fd : FuncData} {k : Nat} (F : Fun K "is_ascending" "is_ascending" sAscending f fd) (T : Bi mg) : FnOk P w K mg base CX0 (k + 1) f fd ["numbers"] (spAscending K) := by
  refine F.ok scAscending (fun vs H Q E h => ?_) (fun cdv A outer s H vs Q E hr h => ?_)
  · obtain ⟨a, ns, rfl, _⟩ := h
    rfl
  · obtain ⟨a, ns, rfl, hS, hlen, hasc, q⟩ := h
    refine ⟨_, pss_one (ps_ret (pe_callB (cr_all rfl) (by rfl) T.all (by decide +kernel) (pa_cons
      (pe_lc (own := [("low", 1), ("high", 2)]) (g := gTup K 2 (gCons (gName 1) (gCons (gName 2) gNil))) (tt := tYes) (by rfl) scAscending.nd (RZ.pi_zipA (by rfl) T.zip (pa_cons (pv 0) (pa_cons (pe_slice sl_tupA (pv 0) (po_some pe_int) po_none) pa_nil)))
        (blkOk_by (own := [("low", 1), ("high", 2)]) (N := ["numbers", "low", "high"]) (sc := defScope sAscending) (by decide +kernel))
        (fun _ _ _ _ _ => pg_tup rfl (pgs_cons (pg_name (i := 1) scAscending.nd rfl (Or.inl rfl)) (pgs_cons (pg_name (i := 2) scAscending.nd rfl (Or.inl rfl)) pgs_nil)))
        (fun _ _ _ _ _ => pts_nil) (fun _ _ _ _ _ => pe_cmpR op_lt (pv 1) (pv 2) (nomark _))) pa_nil))), ?_⟩
    -- zip(numbers, numbers[1:])
    refine ⟨_, rfl, _, rfl, 1, rfl, a, ns.map V.int, rfl, hS, fun hw => ?_, fun hw c nc => ?_⟩
    · have e0 : ns = [] := List.map_eq_nil_iff.mp (cut1_whole hw)
      subst e0
      refine ⟨a, a, [], [], rfl, .inr ⟨hS, hS, fun D nD => lc_it (walk_zipT (xs := []) (ys := []) rfl) (fun i H2 => i = 0 ∧ Mk H H2 D []) ⟨rfl, .start nD⟩ (fun i H2 _ p => ⟨p.2.same.tup hS, p.2.same.tup hS⟩) (fun i x H2 H3 hi => absurd hi (by show ¬ i < 0; omega)) (fun H2 p => ?_)⟩⟩
      exact ⟨D, [], rfl, .inl (.inl p.2.at_), q H2 p.2.same⟩
    · have s1 : Same H (upd H c (.tup (cutV (ns.map V.int) (some 1) none))) := same_upd nc
      have hc : SqT K (upd H c (.tup (cutV (ns.map V.int) (some 1) none))) c ((ns.drop 1).map V.int) := .inl (.inl (by rw [upd_same, cut1, List.map_drop]))
      refine ⟨a, c, ns.map V.int, (ns.drop 1).map V.int, rfl, .inr ⟨s1.tup hS, hc, fun D nD => lc_it (walk_zipT (xs := ns.map V.int) (ys := (ns.drop 1).map V.int) rfl)
        (fun i H2 => Mk (upd H c (.tup (cutV (ns.map V.int) (some 1) none))) H2 D ((List.replicate i true).map V.bl)) (.start nD) (fun i H2 _ p => ⟨p.same.tup (s1.tup hS), p.same.tup hc⟩) (fun i x H2 H3 hi p y => ?_) (fun H2 p => ?_)⟩⟩
      · obtain ⟨t, x1, x2, rfl, nt, rfl, f1, f2⟩ := y
        have hi' : i < min ns.length (ns.length - 1) := by simpa using hi
        have h1 : i < ns.length := by omega
        have h2 : i + 1 < ns.length := by omega
        have e1 : x1 = .int ns[i] := by
          have : (ns.map V.int)[i]? = some x1 := f1
          rw [List.getElem?_map, List.getElem?_eq_getElem h1] at this
          exact (Option.some.inj this).symm
        have e2 : x2 = .int ns[i + 1] := by
          have : ((ns.drop 1).map V.int)[i]? = some x2 := f2
          rw [List.getElem?_map, List.getElem?_drop, Nat.add_comm 1 i, List.getElem?_eq_getElem h2] at this
          exact (Option.some.inj this).symm
        have hlt : ns[i] < ns[i + 1] := List.pairwise_iff_getElem.mp hasc i (i + 1) h1 h2 (by omega)
        refine ⟨t, [x1, x2], rfl, .inl (.inl upd_same), rfl, x1, [x2], rfl, x2, [], rfl, rfl, rfl, x1, rfl, x2, rfl, _, _, e1, e2, _, (by rw [upd_ne (ne_of_none p.at_ nt)]; exact p.at_), (by rw [List.length_map, List.length_replicate]; exact small1000 (by omega)), ?_⟩
        show Mk _ (upd _ D (.lst (_ ++ [V.bl (decide (ns[i] < ns[i + 1]))]))) D _
        rw [decide_eq_true hlt, List.replicate_succ', List.map_append]
        exact p.put (same_upd nt)
      · refine ⟨D, _, rfl, .inl (.inl p.at_), ?_⟩
        rw [all_true]
        exact q H2 (s1.trans p.same)
end
end Ov
namespace Ov
open PySem PySem.Spec PyProof.Rows L2
section
variable {P : Program} {w : World} {K : PySem.W.Frag} {mg : Str → Option Value} {base : Heap}
/-- lengths that are valid -/
structure Lens (ns : List Int) : Prop where
  few : ns.length ≤ 50
  low : ∀ n ∈ ns, 1 ≤ n ∧ n ≤ 1000
  asc : ns.Pairwise (· < ·)
/-! ### are_lengths -/
def spAre : Sp := fun vs H Q _ => ∃ (a : Addr) (ns : List Int), vs = [.ref a] ∧ H a = some (.tup (ns.map V.int)) ∧ Lens ns ∧ ∀ H', Same H H' → Q (.bl true) H'
theorem scAre : FnScope ["value", "item"] ["value"] (defScope sAre) := ⟨rfl, rfl, rfl, by decide +kernel, rfl, by decide +kernel, by decide +kernel⟩
theorem ok_are {f fB fA : Addr} {fd fdB fdA : FuncData} {k : Nat} (F : Fun K "are_lengths" "are_lengths" sAre f fd) (T : Bi mg)
    (B : Def K mg "is_integer_between" sBetween fB fdB ["value", "least", "most"]) (GB : FnOk P w K mg base CX0 (k + 1) fB fdB ["value", "least", "most"] spBetween) (A : Def K mg "is_ascending" sAscending fA fdA ["numbers"]) (m1 : ∃ t, mg "MOST_LENGTHS" = some (.int 50 t)) (m2 : ∃ t, mg "GREATEST_LENGTH" = some (.int 1000 t)) :
    FnOk P w K mg base CX0 (k + 2) f fd ["value"] spAre := by
  have GA : FnOk P w K mg base CX0 (k + 1) fA fdA ["numbers"] (spAscending K) := ok_ascending A.fn T
  obtain ⟨t1, m1⟩ := m1
  obtain ⟨t2, m2⟩ := m2
  refine F.ok scAre (fun vs H Q E h => ?_) (fun cdv A' outer s H vs Q E hr h => ?_)
  · obtain ⟨a, ns, rfl, _⟩ := h
    rfl
  · obtain ⟨a, ns, rfl, hS, L, q⟩ := h
    refine ⟨_, pss_cons (ps_if (PW.pt (pw_or (pt_not (pt_val (pe_callB call_isi (by rfl) T.isi (by decide +kernel) (pa_cons (pv 0) (pa_cons (pe_bltn (v := .ty "tuple") (u := .type "tuple") (by rfl) T.tuple (by decide +kernel) rfl) pa_nil)))))
        (pw_or1 (pt_cmpR op_gt (pe_callB call_len_seq (by rfl) T.len PySem.boot_len (pa_cons (pv 0) pa_nil)) (pe_glob (v := .int 50) (by rfl) m1 ⟨_, rfl⟩) (nomark _))))) (pss_one (ps_ret pe_bl)) pss_nil)
      (pss_one (ps_ret (pe_and (pe_callB (cr_all rfl) (by rfl) T.all (by decide +kernel) (pa_cons
        (pe_lc (own := [("item", 1)]) (g := gName 1) (tt := tYes) (by rfl) scAre.nd (pi_tup (pv 0))
          (blkOk_by (own := [("item", 1)]) (N := ["value", "item"]) (sc := defScope sAre) (by decide +kernel))
          (fun _ _ _ _ _ => pg_name (i := 1) scAre.nd rfl (Or.inl rfl))
          (fun _ _ _ _ _ => pts_nil) (fun _ _ _ _ _ => pe_call GB hr (by rfl) B.gl B.fn.kp B.bi .nil pass0 (pa_cons (pv 1) (pa_cons pe_int (pa_cons (pe_glob (v := .int 1000) (by rfl) m2 ⟨_, rfl⟩) pa_nil))))) pa_nil))
        (pe_one (pe_call GA hr (by rfl) A.gl A.fn.kp A.bi .nil pass0 (pa_cons (pv 0) pa_nil)))))), ?_⟩
    refine ⟨_, rfl, _, _, _, _, _, rfl, .ty _, .base (.tup hS), kit_ty (by decide +kernel : kitB "tuple" "tuple" = some true), _, rfl, ?_⟩
    refine iteF ⟨_, rfl, a, _, rfl, .inr (SqT.of hS), _, _, rfl, rfl, _, rfl, ?_⟩
    rw [List.length_map, decide_eq_false (by have := L.few; omega)]
    refine iteF ?_
    refine ⟨_, rfl, a, rfl, ⟨_, SqT.of hS⟩, fun D nD => lc_tup (K := K) (a := a) (xs := ns.map V.int) (fun i H2 => Mk H H2 D ((List.replicate i true).map V.bl)) (.start nD) (fun i H2 _ p => p.same.tup (SqT.of hS)) ?_ ?_⟩
    · intro i x H2 hx p
      have hi : i < ns.length := by
        have := (List.getElem?_eq_some_iff.mp hx).1
        rwa [List.length_map] at this
      have ex : x = .int ns[i] := by
        rw [List.getElem?_map, List.getElem?_eq_getElem hi] at hx
        exact (Option.some.inj hx).symm
      have hb := L.low _ (List.getElem_mem hi)
      refine ⟨rfl, x, rfl, ns[i], 1, 1000, ?_, hb.1, hb.2, _, p.at_, (by rw [List.length_map, List.length_replicate]; exact small1000 (by have := L.few; omega)), ?_⟩
      · rw [ex]; rfl
      · rw [List.replicate_succ', List.map_append]
        exact p.put (Same.refl _)
    · intro H2 p
      refine ⟨D, _, rfl, SqL.of p.at_, _, rfl, ?_⟩
      rw [all_true]
      refine iteT ⟨_, rfl, a, ns, rfl, p.same.tup (SqT.of hS), by have := L.few; omega, L.asc, fun H3 s3 => q H3 (p.same.trans s3)⟩
end
end Ov
namespace Ov
open PySem PySem.Spec PyProof.Rows L2
section
variable {P : Program} {w : World} {K : PySem.W.Frag} {mg : Str → Option Value} {base : Heap}
/-! ### check_lengths -/
def spCheck : Sp := fun vs H Q _ => ∃ (a : Addr) (ns : List Int), vs = [.ref a] ∧ H a = some (.tup (ns.map V.int)) ∧ Lens ns ∧ ∀ H', Same H H' → Q .non H'
theorem scCheck : FnScope ["lengths"] ["lengths"] (defScope sCheck) := ⟨rfl, rfl, rfl, by decide +kernel, rfl, by decide +kernel, by decide +kernel⟩
theorem ok_check {f fA : Addr} {fd fdA : FuncData} {k : Nat} (F : Fun K "check_lengths" "check_lengths" sCheck f fd) (A : Def K mg "are_lengths" sAre fA fdA ["value"]) (GA : FnOk P w K mg base CX0 k fA fdA ["value"] spAre) :
    FnOk P w K mg base CX0 (k + 1) f fd ["lengths"] spCheck := by
  refine F.ok scCheck (fun vs H Q E h => ?_) (fun cdv A' outer s H vs Q E hr h => ?_)
  · obtain ⟨a, ns, rfl, _⟩ := h
    rfl
  · obtain ⟨a, ns, rfl, hS, L, q⟩ := h
    refine ⟨_, pss_one (ps_if (pt_not (pt_val (pe_call GA hr (by rfl) A.gl A.fn.kp A.bi .nil pass0 (pa_cons (pv 0) pa_nil)))) (pss_one ps_never) pss_nil), ?_⟩
    exact ⟨_, rfl, a, ns, rfl, hS, L, fun H' s' => ⟨_, rfl, iteF (q H' s')⟩⟩
/-! ### divisor_of_two -/
def spGcd : Sp := fun vs H Q _ => ∃ (m n : Nat), vs = [.int m, .int n] ∧ Q (.int (Nat.gcd m n)) H
theorem scGcd : FnScope ["first", "second"] ["first", "second"] (defScope sGcd) := ⟨rfl, rfl, rfl, by decide +kernel, rfl, by decide +kernel, by decide +kernel⟩
def secondOf : L2.St → Nat := fun σ => match σ with
  | [_, some (.int n)] => n.toNat
  | _ => 0
theorem ok_gcd {f : Addr} {fd : FuncData} {k : Nat} (F : Fun K "divisor_of_two" "divisor_of_two" sGcd f fd) : FnOk P w K mg base CX0 (k + 1) f fd ["first", "second"] spGcd := by
  refine F.ok scGcd (fun vs H Q E h => ?_) (fun cdv A' outer s H vs Q E hr h => ?_)
  · obtain ⟨m, n, rfl, _⟩ := h
    rfl
  · obtain ⟨m, n, rfl, q⟩ := h
    refine ⟨_, pss_cons (ps_while PassesOwn.never (pt_cmpR op_gt (pv 1) pe_int (nomark _))
      (pss_one (ps_par (i := 0) (j := 1) (by rfl) scGcd.nd rfl rfl (by decide) rfl rfl (pa_cons (pv 1) (pa_cons (pe_op op_mod (pv 0) (pv 1)) pa_nil)) (by rfl))))
      (pss_one (ps_ret (pv 0))), ?_⟩
    refine while_by (fun σ H2 => H2 = H ∧ ∃ (x y : Nat), σ = [some (.int x), some (.int y)] ∧ Nat.gcd x y = Nat.gcd m n) (fun σ _ => secondOf σ) ⟨rfl, m, n, rfl, rfl⟩ ?_ ?_
    · rintro σ H2 ⟨rfl, x, y, rfl, e⟩
      refine ⟨_, rfl, _, _, rfl, rfl, _, rfl, ?_⟩
      by_cases hy : (y : Int) > 0
      · rw [decide_eq_true hy]
        refine iteT ⟨_, rfl, _, rfl, _, rfl, _, _, rfl, rfl, hy, _, _, rfl, ⟨rfl, y, x % y, rfl, ?_⟩, ?_⟩
        · rw [← e, Nat.gcd_comm x y, Nat.gcd_rec y x, Nat.gcd_comm]
        · show ((x : Int) % (y : Int)).toNat < (y : Int).toNat
          have : (x : Int) % (y : Int) = ((x % y : Nat) : Int) := by simp
          rw [this, Int.toNat_natCast, Int.toNat_natCast]
          exact Nat.mod_lt x (show 0 < y by omega)
      · rw [decide_eq_false hy]
        have y0 : y = 0 := by omega
        subst y0
        rw [Nat.gcd_zero_right] at e
        refine iteF ⟨_, rfl, ?_⟩
        rw [e]
        exact q
    · rintro σ H2 Q1 Q2 hQ ⟨v, h1, i, j, h2, h3, b, h4, h5⟩
      exact ⟨v, h1, i, j, h2, h3, b, h4, hQ _ _ h5⟩
end
end Ov
namespace Ov
open PySem PySem.Spec PyProof.Rows L2
/-- a least sum as a value -/
def optV : Option Nat → V
  | none => .non
  | some x => .int x
theorem relax_none {L r f : Nat} {a : List (Option Nat)} (h : a.getD r none = none) : relax L r f a = a := by
  unfold relax; rw [h]
theorem relax_new {L r f x : Nat} {a : List (Option Nat)} (h : a.getD r none = some x) (h2 : a.getD f none = none) : relax L r f a = a.set f (some (x + L)) := by
  unfold relax; simp only [h, h2]
theorem relax_lt {L r f x y : Nat} {a : List (Option Nat)} (h : a.getD r none = some x) (h2 : a.getD f none = some y) (c : x + L < y) : relax L r f a = a.set f (some (x + L)) := by
  unfold relax; simp only [h, h2]; exact if_pos c
theorem relax_ge {L r f x y : Nat} {a : List (Option Nat)} (h : a.getD r none = some x) (h2 : a.getD f none = some y) (c : ¬ x + L < y) : relax L r f a = a := by
  unfold relax; simp only [h, h2]; exact if_neg c
theorem at_opt {a : List (Option Nat)} {r : Nat} {o : Option Nat} (hr : r < a.length) (h : a.getD r none = o) : (a.map optV)[r]? = some (optV o) := by
  rw [List.getElem?_map, List.getElem?_eq_getElem hr]
  rw [List.getD_eq_getElem?_getD, List.getElem?_eq_getElem hr] at h
  show some (optV a[r]) = _
  rw [show a[r] = o from h]
theorem set_opt (a : List (Option Nat)) (f z : Nat) : (a.map optV).set f (.int ((z : Nat) : Int)) = (a.set f (some z)).map optV := by
  rw [List.map_set]; rfl
section
variable {P : Program} {w : World} {K : PySem.W.Frag} {mg : Str → Option Value} {base : Heap}
/-! ### with_length -/
def spWith : Sp := fun vs H Q _ => ∃ (l : Addr) (a : List (Option Nat)) (L : Nat), vs = [.ref l, .int L] ∧ H l = some (.lst (a.map optV)) ∧ 0 < a.length ∧ a.length ≤ 1000 ∧ 0 < L ∧ L ≤ 1000 ∧
  ∀ H' p, Same H H' → H p = none → H' p = some (.lst ((withLen L a).map optV)) → Q (.ref p) H'
theorem scWith : FnScope ["least", "length", "lowered", "divisor", "steps", "first", "remainder", "step", "following", "reached"] ["least", "length"] (defScope sWith) := ⟨rfl, rfl, rfl, by decide +kernel, rfl, by decide +kernel, by decide +kernel⟩
theorem ok_with {f fG : Addr} {fd fdG : FuncData} {k : Nat} (F : Fun K "with_length" "with_length" sWith f fd) (T : Bi mg) (G : Def K mg "divisor_of_two" sGcd fG fdG ["first", "second"]) :
    FnOk P w K mg base CX0 (k + 2) f fd ["least", "length"] spWith := by
  have GG : FnOk P w K mg base CX0 (k + 1) fG fdG ["first", "second"] spGcd := ok_gcd G.fn
  refine F.ok scWith (fun vs H Q E h => ?_) (fun cdv A' outer s H vs Q E hr h => ?_)
  · obtain ⟨l, a, L, rfl, _⟩ := h
    rfl
  · obtain ⟨l, a, L, rfl, hl, hm, hm2, hL, hL2, q⟩ := h
    refine ⟨_, pss_cons (ps_set (i := 2) scWith.nd rfl (.inl rfl) (pe_callTy call_list_of (by rfl) T.list (by decide +kernel) (pa_cons (pv 0) pa_nil)))
      (pss_cons (ps_set (i := 3) scWith.nd rfl (.inl rfl) (pe_call GG hr (by rfl) G.gl G.fn.kp G.bi .nil pass0 (pa_cons (pe_callB call_len_seq (by rfl) T.len PySem.boot_len (pa_cons (pv 0) pa_nil)) (pa_cons (pv 1) pa_nil))))
      (pss_cons (ps_set (i := 4) scWith.nd rfl (.inl rfl) (pe_op op_mul pe_int (pe_op op_fdiv (pe_callB call_len_seq (by rfl) T.len PySem.boot_len (pa_cons (pv 0) pa_nil)) (pv 3))))
      (pss_cons (ps_for PassesOwn.never rfl (pi_range1 (by rfl) T.range (pa_cons (pv 3) pa_nil)) (pg_name (i := 5) scWith.nd rfl (.inl rfl))
        (pss_cons (ps_set (i := 6) scWith.nd rfl (.inl rfl) (pv 5))
        (pss_one (ps_for PassesOwn.never rfl (pi_range1 (by rfl) T.range (pa_cons (pv 4) pa_nil)) (pg_name (i := 7) scWith.nd rfl (.inl rfl))
          (pss_cons (ps_set (i := 8) scWith.nd rfl (.inl rfl) (pe_op op_mod (pe_op op_add (pv 6) (pv 1)) (pe_callB call_len_seq (by rfl) T.len PySem.boot_len (pa_cons (pv 0) pa_nil))))
          (pss_cons (ps_if (pt_cmpR op_notN (pe_ix ix_list (pv 2) (pv 6) (fun _ _ => rfl)) pe_non (nomark _))
              (pss_cons (ps_set (i := 9) scWith.nd rfl (.inl rfl) (pe_op op_add (pe_ix ix_list (pv 2) (pv 6) (fun _ _ => rfl)) (pv 1)))
              (pss_one (ps_if (PW.pt (pw_or (pt_cmpR op_isN (pe_ix ix_list (pv 2) (pv 8) (fun _ _ => rfl)) pe_non (nomark _)) (pw_or1 (pt_cmpR op_lt (pv 9) (pe_ix ix_list (pv 2) (pv 8) (fun _ _ => rfl)) (nomark _)))))
                (pss_one (ps_asg (pv 9) (pg_sub (pv 2) (pv 8) set_list))) pss_nil))) pss_nil)
          (pss_one (ps_set (i := 6) scWith.nd rfl (.inl rfl) (pv 8)))))))))
      (pss_one (ps_ret (pv 2)))))), ?_⟩
    -- lowered = list(least)
    refine ⟨_, rfl, l, _, rfl, .inl (SqL.of hl), fun p np => ?_⟩
    have s1 : Same H (upd H p (.lst (a.map optV))) := same_upd np
    -- divisor
    refine ⟨_, rfl, l, _, rfl, .inl (SqL.of (s1 _ _ hl)), _, rfl, a.length, L, (by rw [List.length_map]; rfl), ?_⟩
    have hg : 0 < Nat.gcd a.length L := Nat.gcd_pos_of_pos_left _ hm
    have hg2 : Nat.gcd a.length L ≤ a.length := Nat.le_of_dvd hm (Nat.gcd_dvd_left _ _)
    -- steps
    refine ⟨_, rfl, l, _, rfl, .inl (SqL.of (s1 _ _ hl)), _, rfl, _, _, rfl, rfl, ⟨by omega, by omega⟩, _, _, rfl, rfl, .inl ⟨by decide, by decide⟩, ?_⟩
    have eT : (2 : Int) * (((a.map optV).length : Int) / (Nat.gcd a.length L : Nat)) = ((2 * (a.length / Nat.gcd a.length L) : Nat) : Int) := by
      rw [List.length_map]; simp
    have hT2 : 2 * (a.length / Nat.gcd a.length L) ≤ 2000 := by
      have := Nat.div_le_self a.length (Nat.gcd a.length L)
      omega
    generalize hTe : 2 * (a.length / Nat.gcd a.length L) = T2 at *
    dsimp only
    rw [eT]
    -- for first in range(divisor)
    refine ⟨_, rfl, _, rfl, by omega, by omega, for_range (lo := 0) (fun i σ H2 => ∃ y5 y6 y7 y8 y9, σ = [some (.ref l), some (.int L), some (.ref p), some (.int (Nat.gcd a.length L : Nat)), some (.int (T2 : Nat)), y5, y6, y7, y8, y9] ∧ Same H H2 ∧ H2 p = some (.lst ((walks L a.length T2 i a).map optV)))
      ⟨none, none, none, none, none, rfl, s1, upd_same⟩ ?_ ?_⟩
    · rintro i σ H2 hi ⟨y5, y6, y7, y8, y9, rfl, s2, h2⟩
      have hi' : i < Nat.gcd a.length L := by simpa using hi
      have him : i < a.length := by omega
      -- remainder = first
      refine ⟨_, rfl, ?_⟩
      refine ⟨_, rfl, _, rfl, by omega, by omega, for_range (lo := 0) (fun t σ H3 => ∃ y7 y8 y9, σ = [some (.ref l), some (.int L), some (.ref p), some (.int (Nat.gcd a.length L : Nat)), some (.int (T2 : Nat)), some (.int (0 + (i : Int))), some (.int ((steps L a.length t i (walks L a.length T2 i a)).2 : Nat)), y7, y8, y9] ∧ Same H H3 ∧ H3 p = some (.lst ((steps L a.length t i (walks L a.length T2 i a)).1.map optV)))
        ⟨y7, y8, y9, ?_, s2, h2⟩ ?_ ?_⟩
      · show [some _, some _, some _, some _, some _, some _, some (V.int (0 + (i : Int))), _, _, _] = _
        rw [Int.zero_add]; rfl
      · rintro t σ H3 ht ⟨y7, y8, y9, rfl, s3, h3⟩
        generalize hq : steps L a.length t i (walks L a.length T2 i a) = qq at *
        have hlen : qq.1.length = a.length := by
          rw [← hq]
          exact (steps_le ..).1.trans (walks_le ..).1
        have hr : qq.2 < a.length := by
          rw [← hq, steps_at _ _ _ _ him]
          exact Nat.mod_lt _ hm
        have hl3 := s3 _ _ hl
        -- following
        refine ⟨_, rfl, _, rfl, _, _, rfl, rfl, _, rfl, l, _, rfl, .inl (SqL.of hl3), _, _, rfl, rfl, (by rw [List.length_map]; omega), ?_⟩
        have ef : ((qq.2 : Nat) : Int) + (L : Int) = ((qq.2 + L : Nat) : Int) := by simp
        have ef2 : (((qq.2 : Nat) : Int) + (L : Int)) % (((a.map optV).length : Nat) : Int) = (((qq.2 + L) % a.length : Nat) : Int) := by
          rw [List.length_map]; simp
        dsimp only
        rw [ef2]
        have hf : (qq.2 + L) % a.length < qq.1.length := by rw [hlen]; exact Nat.mod_lt _ hm
        have hst : steps L a.length (t + 1) i (walks L a.length T2 i a) = (relax L qq.2 ((qq.2 + L) % a.length) qq.1, (qq.2 + L) % a.length) := by
          show (relax L (steps L a.length t i (walks L a.length T2 i a)).2 _ _, _) = _
          rw [hq]
        generalize hfe : (qq.2 + L) % a.length = ff at *
        -- if lowered[remainder] is not None
        have hr' : qq.2 < qq.1.length := by rw [hlen]; exact hr
        cases eo : qq.1.getD qq.2 none with
        | none =>
          refine ⟨_, rfl, _, rfl, p, _, _, _, rfl, rfl, SqL.of h3, atI_nat (at_opt hr' eo), rfl, _, rfl, ?_⟩
          refine iteF ⟨_, rfl, ?_⟩
          rw [hst, relax_none eo]
          exact ⟨_, _, _, rfl, s3, h3⟩
        | some x =>
          refine ⟨_, rfl, _, rfl, p, _, _, _, rfl, rfl, SqL.of h3, atI_nat (at_opt hr' eo), rfl, _, rfl, ?_⟩
          refine iteT ⟨_, rfl, _, rfl, p, _, _, _, rfl, rfl, SqL.of h3, atI_nat (at_opt hr' eo), _, rfl, _, _, rfl, rfl, ?_⟩
          have ex : (x : Int) + (L : Int) = ((x + L : Nat) : Int) := by simp
          cases eo2 : qq.1.getD ff none with
          | none =>
            refine ⟨_, rfl, _, rfl, p, _, _, _, rfl, rfl, SqL.of h3, atI_nat (at_opt hf eo2), rfl, _, rfl, ?_⟩
            refine iteT ⟨_, rfl, _, rfl, _, rfl, p, _, _, ff, rfl, rfl, h3, (by rw [List.length_map]; exact ixN_at hf), ?_⟩
            refine ⟨_, rfl, ?_⟩
            rw [hst, relax_new eo eo2]
            refine ⟨_, _, _, rfl, fun b o e => ?_, ?_⟩
            · rw [upd_ne (ne_of_none e np)]
              exact s3 b o e
            · rw [upd_same]
              show some (HO.lst ((qq.1.map optV).set ff (V.int ((x : Int) + (L : Int))))) = _
              rw [ex, set_opt]
          | some y =>
            refine ⟨_, rfl, _, rfl, p, _, _, _, rfl, rfl, SqL.of h3, atI_nat (at_opt hf eo2), rfl, _, rfl, ?_⟩
            refine iteF ⟨_, rfl, _, rfl, _, rfl, p, _, _, _, rfl, rfl, SqL.of h3, atI_nat (at_opt hf eo2), _, _, rfl, rfl, _, rfl, ?_⟩
            by_cases c : x + L < y
            · rw [decide_eq_true (show (x : Int) + (L : Int) < (y : Int) by omega)]
              refine iteT ⟨_, rfl, _, rfl, _, rfl, p, _, _, ff, rfl, rfl, h3, (by rw [List.length_map]; exact ixN_at hf), ?_⟩
              refine ⟨_, rfl, ?_⟩
              rw [hst, relax_lt eo eo2 c]
              refine ⟨_, _, _, rfl, fun b o e => ?_, ?_⟩
              · rw [upd_ne (ne_of_none e np)]
                exact s3 b o e
              · rw [upd_same]
                show some (HO.lst ((qq.1.map optV).set ff (V.int ((x : Int) + (L : Int))))) = _
                rw [ex, set_opt]
            · rw [decide_eq_false (show ¬ (x : Int) + (L : Int) < (y : Int) by omega)]
              refine iteF ⟨_, rfl, ?_⟩
              rw [hst, relax_ge eo eo2 c]
              exact ⟨_, _, _, rfl, s3, h3⟩
      · rintro σ H3 ⟨y7, y8, y9, rfl, s3, h3⟩
        refine ⟨_, _, _, _, _, rfl, s3, ?_⟩
        exact h3
    · rintro σ H2 ⟨y5, y6, y7, y8, y9, rfl, s2, h2⟩
      refine ⟨_, rfl, q H2 p s2 np ?_⟩
      rw [h2]
      unfold withLen
      rw [hTe]
      simp
end
end Ov
namespace Ov
open PySem PySem.Spec PyProof.Rows L2
theorem fold_len (R : List Nat) : ∀ a : List (Option Nat), (R.foldl (fun a L => withLen L a) a).length = a.length := by
  induction R with
  | nil => intro a; rfl
  | cons L R ih => intro a; rw [List.foldl_cons, ih, withLen_len]
section
variable {P : Program} {w : World} {K : PySem.W.Frag} {mg : Str → Option Value} {base : Heap}
/-! ### least_sums -/
def spLeast : Sp := fun vs H Q _ => ∃ (a : Addr) (ns : List Int), vs = [.ref a] ∧ H a = some (.tup (ns.map V.int)) ∧ Lens ns ∧
  ∀ H' p, Same H H' → H p = none → H' p = some (.tup ((leasts (ns.map Int.toNat)).map optV)) → Q (.ref p) H'
theorem scLeast : FnScope ["lengths", "least", "length"] ["lengths"] (defScope sLeast) := ⟨rfl, rfl, rfl, by decide +kernel, rfl, by decide +kernel, by decide +kernel⟩
theorem ok_least {f fC fW : Addr} {fd fdC fdW : FuncData} {k : Nat} (F : Fun K "least_sums" "least_sums" sLeast f fd) (T : Bi mg)
    (C : Def K mg "check_lengths" sCheck fC fdC ["lengths"]) (GC : FnOk P w K mg base CX0 k fC fdC ["lengths"] spCheck)
    (W : Def K mg "with_length" sWith fW fdW ["least", "length"]) (GW : FnOk P w K mg base CX0 k fW fdW ["least", "length"] spWith) : FnOk P w K mg base CX0 (k + 1) f fd ["lengths"] spLeast := by
  refine F.ok scLeast (fun vs H Q E h => ?_) (fun cdv A' outer s H vs Q E hr h => ?_)
  · obtain ⟨a, ns, rfl, _⟩ := h
    rfl
  · obtain ⟨a, ns, rfl, hS, L, q⟩ := h
    refine ⟨_, pss_cons (ps_expr (pe_call GC hr (by rfl) C.gl C.fn.kp C.bi .nil pass0 (pa_cons (pv 0) pa_nil)))
      (pss_cons (ps_if (pt_cmpR op_eq (pe_callB call_len_seq (by rfl) T.len PySem.boot_len (pa_cons (pv 0) pa_nil)) pe_int (nomark _)) (pss_one (ps_ret (pe_tup pa_nil))) pss_nil)
      (pss_cons (ps_set (i := 1) scLeast.nd rfl (.inl rfl) (pe_op op_cat (pe_lst (pa_cons pe_int pa_nil)) (pe_op op_rep (pe_lst (pa_cons pe_non pa_nil)) (pe_op op_sub (pe_ix ix_tup (pv 0) pe_int (fun _ _ => rfl)) pe_int))))
      (pss_cons (ps_for PassesOwn.never rfl (pi_tup (pe_slice sl_tupA (pv 0) (po_some pe_int) po_none)) (pg_name (i := 2) scLeast.nd rfl (.inl rfl))
        (pss_one (ps_set (i := 1) scLeast.nd rfl (.inl rfl) (pe_call GW hr (by rfl) W.gl W.fn.kp W.bi .nil pass0 (pa_cons (pv 1) (pa_cons (pv 2) pa_nil))))))
      (pss_one (ps_ret (pe_callTy call_tuple_of (by rfl) T.tuple (by decide +kernel) (pa_cons (pv 1) pa_nil))))))), ?_⟩
    refine ⟨_, rfl, a, ns, rfl, hS, L, fun H1 s1 => ?_⟩
    have h1 := s1 _ _ hS
    refine ⟨_, rfl, a, _, rfl, .inr (SqT.of h1), rfl, _, rfl, ite2 (fun e => ?_) (fun e => ?_)⟩
    · have e0 : ((ns.map V.int).length : Int) = 0 := V.int.inj (of_decide_eq_true e)
      have e1 : ns = [] := by
        cases ns with
        | nil => rfl
        | cons x r => rw [List.length_map, List.length_cons] at e0; omega
      subst e1
      refine ⟨Nat.zero_le _, fun p np => q _ p (s1.trans (same_upd np)) (s1.free np) ?_⟩
      rw [upd_same]; rfl
    · obtain ⟨n0, rest, rfl⟩ : ∃ x r, ns = x :: r := by
        cases ns with
        | nil => exact absurd (decide_eq_true rfl) e
        | cons x r => exact ⟨x, r, rfl⟩
      obtain ⟨hn1, hn2⟩ := L.low n0 List.mem_cons_self
      have hrl : rest.length ≤ 50 := by have := L.few; rw [List.length_cons] at this; omega
      -- [0] + [None] * (lengths[0] - 1)
      refine ⟨by show 1 ≤ sizeLine; decide, fun p1 np1 => ⟨by show 1 ≤ sizeLine; decide, fun p2 np2 => ?_⟩⟩
      have sa : Same H1 (upd H1 p1 (.lst [.int 0])) := same_upd np1
      have sb := same_upd (o := HO.lst [V.non]) np2
      refine ⟨_, rfl, a, _, _, _, rfl, rfl, SqT.of (sb _ _ (sa _ _ h1)), atI_nat (j := 0) rfl, _, _, rfl, rfl, p2, _, _, rfl, rfl, upd_same, by omega, by omega, ?_, fun p3 np3 => ?_⟩
      · have : (n0 - 1).toNat ≤ 1000 := by omega
        show 1 * (n0 - 1).toNat ≤ sizeLine
        exact Nat.le_of_lt (small1000 (by omega))
      have sc := same_upd (o := HO.lst (List.replicate (n0 - 1).toNat [V.non]).flatten) np3
      refine ⟨p1, p3, [.int 0], _, rfl, rfl, ?_, upd_same, ?_, fun p4 np4 => ?_⟩
      · exact sc _ _ (sb _ _ upd_same)
      · rw [flat_rep, List.length_replicate]
        show 1 + (n0 - 1).toNat ≤ sizeLine
        exact Nat.le_of_lt (small1000 (by omega))
      have e4 : (([V.int 0] ++ (List.replicate (n0 - 1).toNat [V.non]).flatten)) = ((some 0 :: List.replicate (n0.toNat - 1) none : List (Option Nat)).map optV) := by
        rw [flat_rep, List.map_cons, List.map_replicate]
        show V.int 0 :: List.replicate (n0 - 1).toNat V.non = V.int ((0 : Nat) : Int) :: List.replicate (n0.toNat - 1) V.non
        rw [show (n0 - 1).toNat = n0.toNat - 1 by omega]
        rfl
      rw [e4] at *
      have sd := same_upd (o := HO.lst ((some 0 :: List.replicate (n0.toNat - 1) none : List (Option Nat)).map optV)) np4
      have s4 : Same H _ := (((s1.trans sa).trans sb).trans sc).trans sd
      have n4 : H p4 = none := (((s1.trans sa).trans sb).trans sc).free np4
      have h44 := @upd_same (upd (upd (upd H1 p1 (HO.lst [V.int 0])) p2 (HO.lst [V.non])) p3 (HO.lst (List.replicate (n0 - 1).toNat [V.non]).flatten)) p4 (HO.lst ((some 0 :: List.replicate (n0.toNat - 1) none : List (Option Nat)).map optV))
      generalize upd (upd (upd (upd H1 p1 (HO.lst [V.int 0])) p2 (HO.lst [V.non])) p3 (HO.lst (List.replicate (n0 - 1).toNat [V.non]).flatten)) p4 (HO.lst ((some 0 :: List.replicate (n0.toNat - 1) none : List (Option Nat)).map optV)) = H4 at *
      -- for length in lengths[1:]
      refine ⟨_, rfl, 1, rfl, a, _, rfl, SqT.of (s4 _ _ hS), fun hw => ?_, fun _ c nc => ?_⟩
      · have := cut1_whole hw
        simp at this
      have se := same_upd (o := HO.tup (cutV ((n0 :: rest).map V.int) (some 1) none)) nc
      have hc : SqT K (upd H4 c (HO.tup (cutV ((n0 :: rest).map V.int) (some 1) none))) c (rest.map V.int) := .inl (.inl (by rw [upd_same, cut1]; rfl))
      generalize hH5 : upd H4 c (HO.tup (cutV ((n0 :: rest).map V.int) (some 1) none)) = H5 at *
      have h54 : H5 p4 = some (.lst ((some 0 :: List.replicate (n0.toNat - 1) none : List (Option Nat)).map optV)) := se _ _ h44
      have s5 : Same H H5 := s4.trans se
      refine ⟨c, rfl, ⟨_, hc⟩, for_tup (K := K) (a := c) (xs := rest.map V.int) (fun i σ H6 => ∃ pl y, σ = [some (.ref a), some (.ref pl), y] ∧ Same H5 H6 ∧ H6 pl = some (.lst ((((rest.map Int.toNat).take i).foldl (fun a L => withLen L a) (some 0 :: List.replicate (n0.toNat - 1) none)).map optV)))
        ⟨p4, none, rfl, Same.refl _, h54⟩ (fun i σ H6 _ ⟨_, _, _, s6, _⟩ => s6.tup hc) ?_ ?_⟩
      · rintro i x σ H6 hx ⟨pl, y, rfl, s6, h6⟩
        have hi : i < rest.length := by
          have := (List.getElem?_eq_some_iff.mp hx).1
          rwa [List.length_map] at this
        have ex : x = .int rest[i] := by
          rw [List.getElem?_map, List.getElem?_eq_getElem hi] at hx
          exact (Option.some.inj hx).symm
        obtain ⟨b1, b2⟩ := L.low rest[i] (List.mem_cons_of_mem _ (List.getElem_mem hi))
        have exn : x = .int ((rest[i].toNat : Nat) : Int) := by rw [ex, Int.toNat_of_nonneg (by omega)]
        have hlen : (((rest.map Int.toNat).take i).foldl (fun a L => withLen L a) (some 0 :: List.replicate (n0.toNat - 1) none)).length = n0.toNat := by
          rw [fold_len, List.length_cons, List.length_replicate]; omega
        refine ⟨_, rfl, _, rfl, pl, _, rest[i].toNat, ?_, h6, by rw [hlen]; omega, by rw [hlen]; omega, by omega, by omega, fun H7 p7 s7 n7 h7 => ?_⟩
        · rw [exn]; rfl
        refine ⟨p7, _, rfl, s6.trans s7, ?_⟩
        have hx2 : (rest.map Int.toNat)[i]? = some rest[i].toNat := by rw [List.getElem?_map, List.getElem?_eq_getElem hi]; rfl
        rw [take_more hx2, List.foldl_append]
        exact h7
      · rintro σ H6 ⟨pl, y, rfl, s6, h6⟩
        refine ⟨_, rfl, pl, _, rfl, .inl ⟨SqL.of h6, fun p np => ?_⟩⟩
        refine q _ p ((s5.trans s6).trans (same_upd np)) ((s5.trans s6).free np) ?_
        rw [upd_same, List.take_of_length_le (by rw [List.length_map, List.length_map]; exact Nat.le_refl _)]
        rfl
end
end Ov
namespace Ov
open PySem PySem.Spec PyProof.Rows L2
section
variable {P : Program} {w : World} {K : PySem.W.Frag} {mg : Str → Option Value} {base : Heap}
/-! ### common_divisor -/
def spCommon : Sp := fun vs H Q _ => ∃ (a : Addr) (ns : List Int), vs = [.ref a] ∧ H a = some (.tup (ns.map V.int)) ∧ Lens ns ∧ ∀ H', Same H H' → Q (.int (gcdAll (ns.map Int.toNat) : Nat)) H'
theorem scCommon : FnScope ["lengths", "divisor", "length"] ["lengths"] (defScope sCommon) := ⟨rfl, rfl, rfl, by decide +kernel, rfl, by decide +kernel, by decide +kernel⟩
theorem ok_common {f fC fG : Addr} {fd fdC fdG : FuncData} {k : Nat} (F : Fun K "common_divisor" "common_divisor" sCommon f fd)
    (C : Def K mg "check_lengths" sCheck fC fdC ["lengths"]) (GC : FnOk P w K mg base CX0 (k + 1) fC fdC ["lengths"] spCheck) (G : Def K mg "divisor_of_two" sGcd fG fdG ["first", "second"]) : FnOk P w K mg base CX0 (k + 2) f fd ["lengths"] spCommon := by
  have GG : FnOk P w K mg base CX0 (k + 1) fG fdG ["first", "second"] spGcd := ok_gcd G.fn
  refine F.ok scCommon (fun vs H Q E h => ?_) (fun cdv A' outer s H vs Q E hr h => ?_)
  · obtain ⟨a, ns, rfl, _⟩ := h
    rfl
  · obtain ⟨a, ns, rfl, hS, L, q⟩ := h
    refine ⟨_, pss_cons (ps_expr (pe_call GC hr (by rfl) C.gl C.fn.kp C.bi .nil pass0 (pa_cons (pv 0) pa_nil)))
      (pss_cons (ps_set (i := 1) scCommon.nd rfl (.inl rfl) pe_int)
      (pss_cons (ps_for PassesOwn.never rfl (pi_tup (pv 0)) (pg_name (i := 2) scCommon.nd rfl (.inl rfl))
        (pss_one (ps_set (i := 1) scCommon.nd rfl (.inl rfl) (pe_call GG hr (by rfl) G.gl G.fn.kp G.bi .nil pass0 (pa_cons (pv 1) (pa_cons (pv 2) pa_nil))))))
      (pss_one (ps_ret (pv 1))))), ?_⟩
    refine ⟨_, rfl, a, ns, rfl, hS, L, fun H1 s1 => ?_⟩
    have h1 := s1 _ _ hS
    refine ⟨_, rfl, a, rfl, ⟨_, SqT.of h1⟩, for_tup (K := K) (a := a) (xs := ns.map V.int) (fun i σ H6 => H6 = H1 ∧ ∃ y, σ = [some (.ref a), some (.int (gcdAll ((ns.map Int.toNat).take i) : Nat)), y])
      ⟨rfl, none, rfl⟩ (fun i σ H6 _ ⟨e, _⟩ => by rw [e]; exact SqT.of h1) ?_ ?_⟩
    · rintro i x σ H6 hx ⟨rfl, y, rfl⟩
      have hi : i < ns.length := by
        have := (List.getElem?_eq_some_iff.mp hx).1
        rwa [List.length_map] at this
      have ex : x = .int ns[i] := by
        rw [List.getElem?_map, List.getElem?_eq_getElem hi] at hx
        exact (Option.some.inj hx).symm
      have hb := L.low _ (List.getElem_mem hi)
      have exn : x = .int ((ns[i].toNat : Nat) : Int) := by rw [ex, Int.toNat_of_nonneg (by omega)]
      refine ⟨_, rfl, _, rfl, gcdAll ((ns.map Int.toNat).take i), ns[i].toNat, ?_, rfl, ?_⟩
      · rw [exn]; rfl
      · have hx2 : (ns.map Int.toNat)[i]? = some ns[i].toNat := by rw [List.getElem?_map, List.getElem?_eq_getElem hi]; rfl
        have e : gcdAll ((ns.map Int.toNat).take (i + 1)) = Nat.gcd (gcdAll ((ns.map Int.toNat).take i)) ns[i].toNat := by
          rw [take_more hx2]
          unfold gcdAll
          rw [List.foldl_append]
          rfl
        rw [e]
        exact ⟨_, rfl⟩
    · rintro σ H6 ⟨rfl, y, rfl⟩
      refine ⟨_, rfl, ?_⟩
      rw [List.length_map, List.take_of_length_le (by rw [List.length_map]; exact Nat.le_refl _)]
      exact q _ s1
end
end Ov
namespace Ov
open PySem PySem.Spec PyProof.Rows L2
section
variable {P : Program} {w : World} {K : PySem.W.Frag} {mg : Str → Option Value} {base : Heap}
/-! ### is_reached -/
def spReached : Sp := fun vs H Q _ => ∃ (p : Addr) (a : List (Option Nat)) (t : Nat), vs = [.ref p, .int t] ∧ H p = some (.tup (a.map optV)) ∧ Q (.bl (reached a t)) H
theorem scReached : FnScope ["least", "total", "reached"] ["least", "total"] (defScope sReached) := ⟨rfl, rfl, rfl, by decide +kernel, rfl, by decide +kernel, by decide +kernel⟩
theorem ok_reached {f : Addr} {fd : FuncData} {k : Nat} (F : Fun K "is_reached" "is_reached" sReached f fd) (T : Bi mg) : FnOk P w K mg base CX0 (k + 1) f fd ["least", "total"] spReached := by
  refine F.ok scReached (fun vs H Q E h => ?_) (fun cdv A' outer s H vs Q E hr h => ?_)
  · obtain ⟨p, a, t, rfl, _⟩ := h
    rfl
  · obtain ⟨p, a, t, rfl, hp, q⟩ := h
    refine ⟨_, pss_cons (ps_if (pt_cmpR op_eq (pe_callB call_len_seq (by rfl) T.len PySem.boot_len (pa_cons (pv 0) pa_nil)) pe_int (nomark _)) (pss_one (ps_ret (pe_cmpR op_eq (pv 1) pe_int (nomark _)))) pss_nil)
      (pss_cons (ps_set (i := 2) scReached.nd rfl (.inl rfl) (pe_ix ix_tup (pv 0) (pe_op op_mod (pv 1) (pe_callB call_len_seq (by rfl) T.len PySem.boot_len (pa_cons (pv 0) pa_nil))) (fun _ _ => rfl)))
      (pss_one (ps_ret (pe_and (pe_cmpR op_notN (pv 2) pe_non (nomark _)) (pe_one (pe_cmpR op_le (pv 2) (pv 1) (nomark _))))))), ?_⟩
    refine ⟨_, rfl, p, _, rfl, .inr (SqT.of hp), rfl, _, rfl, ite2 (fun e => ?_) (fun e => ?_)⟩
    · have e0 : ((a.map optV).length : Int) = 0 := V.int.inj (of_decide_eq_true e)
      rw [List.length_map] at e0
      refine ⟨_, rfl, rfl, ?_⟩
      have e2 : reached a t = decide (V.int (t : Int) = V.int 0) := by
        unfold reached
        rw [if_pos (by omega)]
        by_cases h0 : t = 0
        · subst h0; simp
        · have : ¬ V.int (t : Int) = V.int 0 := fun z => h0 (by have := V.int.inj z; omega)
          rw [decide_eq_false this]
          simpa using h0
      rw [e2] at q
      exact q
    · have e0 : a.length ≠ 0 := fun z => e (decide_eq_true (by rw [List.length_map, z]; rfl))
      have hm : t % a.length < a.length := Nat.mod_lt _ (by omega)
      have em : ((t : Int) % (((a.map optV).length : Nat) : Int)) = ((t % a.length : Nat) : Int) := by rw [List.length_map]; simp
      cases eo : a.getD (t % a.length) none with
      | none =>
        refine ⟨_, rfl, _, rfl, _, rfl, p, _, rfl, .inr (SqT.of hp), _, _, rfl, rfl, (by rw [List.length_map]; omega), p, _, _, _, rfl, rfl, SqT.of hp, (by rw [em]; exact atI_nat (at_opt hm eo)), ?_⟩
        refine ⟨_, rfl, rfl, _, rfl, ?_⟩
        refine iteF ?_
        have e2 : reached a t = false := by
          unfold reached; rw [if_neg e0, eo]
        rw [e2] at q
        exact q
      | some x =>
        refine ⟨_, rfl, _, rfl, _, rfl, p, _, rfl, .inr (SqT.of hp), _, _, rfl, rfl, (by rw [List.length_map]; omega), p, _, _, _, rfl, rfl, SqT.of hp, (by rw [em]; exact atI_nat (at_opt hm eo)), ?_⟩
        refine ⟨_, rfl, rfl, _, rfl, ?_⟩
        refine iteT ⟨_, rfl, _, rfl, _, _, rfl, rfl, ?_⟩
        have e2 : reached a t = decide ((x : Int) ≤ (t : Int)) := by
          unfold reached; rw [if_neg e0, eo]
          by_cases c : x ≤ t
          · rw [decide_eq_true (show (x : Int) ≤ (t : Int) by omega)]
            exact decide_eq_true c
          · rw [decide_eq_false (show ¬ (x : Int) ≤ (t : Int) by omega)]
            exact decide_eq_false c
        rw [e2] at q
        exact q
end
end Ov
namespace Ov
open PySem PySem.Spec PyProof.Rows L2
/-- a box of numbers: what is left of its own digits, a number, and how many were mixed -/
def BoxAt (H : Hp) (p : Addr) (n : Nat) : Prop := ∃ a b c : Int, H p = some (.lst [.int a, .int b, .int c]) ∧ 0 ≤ a ∧ a < 2 ^ 800 ∧ 0 ≤ b ∧ b < 2 ^ 62 ∧ 0 ≤ c ∧ c ≤ n
theorem BoxAt.mono {H : Hp} {p : Addr} {n m : Nat} (h : BoxAt H p n) (l : n ≤ m) : BoxAt H p m := by
  obtain ⟨a, b, c, e, h1, h2, h3, h4, h5, h6⟩ := h
  exact ⟨a, b, c, e, h1, h2, h3, h4, h5, by omega⟩
theorem BoxAt.same {H H' : Hp} {p : Addr} {n : Nat} (h : BoxAt H p n) (s : Same H H') : BoxAt H' p n := by
  obtain ⟨a, b, c, e, r⟩ := h
  exact ⟨a, b, c, s _ _ e, r⟩
/-- all that stood, but at p, stands -/
def But (p : Addr) (H H' : Hp) : Prop := ∀ b o, H b = some o → b ≠ p → H' b = some o
theorem But.refl (p : Addr) (H : Hp) : But p H H := fun _ _ e _ => e
theorem But.trans {p : Addr} {H H1 H2 : Hp} (a : But p H H1) (b : But p H1 H2) : But p H H2 := fun c o e n => b c o (a c o e n) n
theorem But.of {p : Addr} {H H1 : Hp} (a : Same H H1) : But p H H1 := fun c o e _ => a c o e
theorem But.free {p l : Addr} {H H' : Hp} (e : But p H H') (hp : H p ≠ none) (h : H' l = none) (hp' : H' p ≠ none) : H l = none := by
  cases q : H l with
  | none => rfl
  | some o =>
    by_cases hl : l = p
    · subst hl; exact absurd h hp'
    · rw [e l o q hl] at h; cases h
theorem BoxAt.ne {H : Hp} {p : Addr} {n : Nat} (h : BoxAt H p n) : H p ≠ none := by
  obtain ⟨a, b, c, e, _⟩ := h
  rw [e]; exact fun z => nomatch z
section
variable {P : Program} {w : World} {K : PySem.W.Frag} {mg : Str → Option Value} {base : Heap}
/-! ### _law_box -/
def spBox (K : PySem.W.Frag) : Sp := fun vs H Q _ => ∃ (a : Addr) (ns : List Int) (j : Nat), vs = [.ref a, .int j] ∧ SqL K H a (ns.map V.int) ∧ j ≤ 63 ∧ ∀ H' p, Same H H' → H p = none → BoxAt H' p 0 → Q (.ref p) H'
theorem scBox : FnScope ["_law_script", "_law_k", "_law_cell", "_law_own"] ["_law_script", "_law_k"] (defScope sBox) := ⟨rfl, rfl, rfl, by decide +kernel, rfl, by decide +kernel, by decide +kernel⟩
theorem big_pos : (0 : Int) < 10 ^ (60 : Int).toNat * 10 ^ (60 : Int).toNat * 10 ^ (60 : Int).toNat * 10 ^ (60 : Int).toNat := by decide +kernel
theorem big_lt : (10 : Int) ^ (60 : Int).toNat * 10 ^ (60 : Int).toNat * 10 ^ (60 : Int).toNat * 10 ^ (60 : Int).toNat ≤ 2 ^ 800 := by decide +kernel
/-- what is left of the text behind the cell -/
def tBoxRest : TS := tSeq (tAsg (tOp (rI CMul fun i j => .int (i * j)) (tOp (rI (fun _ j => 0 < j) fun i j => .int (i % j)) (tCB (fun xs H Q => ∃ i, xs = [.int i] ∧ Q (.int (if i < 0 then -i else i)) H) (tCons (tVar 2) tNil))
    (tOp (rI CMulW fun i j => .int (i * j)) (tOp (rI CMulW fun i j => .int (i * j)) (tOp (rI CMulW fun i j => .int (i * j)) (tOp (rI CPow fun i j => .int (i ^ j.toNat)) (tC (.int 10)) (tC (.int 60))) (tOp (rI CPow fun i j => .int (i ^ j.toNat)) (tC (.int 10)) (tC (.int 60)))) (tOp (rI CPow fun i j => .int (i ^ j.toNat)) (tC (.int 10)) (tC (.int 60)))) (tOp (rI CPow fun i j => .int (i ^ j.toNat)) (tC (.int 10)) (tC (.int 60)))))
    (tCB (fun xs H Q => (∃ i, xs = [.int i] ∧ Q (.int i) H) ∨ ∃ k, xs = [.bl k] ∧ Q (.int (if k then 1 else 0)) H) (tCons (tOp (rI0 fun i j => .bl (decide (j ≤ i))) (tCB (fun xs H Q => ∃ i, xs = [.int i] ∧ Q (.int (if i < 0 then -i else i)) H) (tCons (tVar 2) tNil)) (tOp (rI CPow fun i j => .int (i ^ j.toNat)) (tC (.int 10)) (tC (.int 18)))) tNil))) (gName 3))
  (tRet (tLst (tCons (tVar 3) (tCons (tOp (rI (fun _ j => 0 < j) fun i j => .int (i % j)) (tOp (rI CMul fun i j => .int (i * j)) (tOp (rI0 fun i j => .int (i + j)) (tOp (rI0 fun i j => .int (i + j)) (tOp (rI (fun _ j => 0 < j) fun i j => .int (i % j)) (tVar 2) (tC (.int 2305843009213693951))) (tOp (rI CMul fun i j => .int (i * j)) (tOp (rI CMul fun i j => .int (i * j)) (tC (.int 7919)) (tVar 1)) (tVar 1))) (tC (.int 43))) (tC (.int 48271))) (tC (.int 2305843009213693921))) (tCons (tC (.int 0)) tNil)))))
theorem own_ok {x : Int} (h0 : 0 ≤ x) (h1 : x < 2 ^ 800) (c : Bool) : 0 ≤ x * (if c = true then 1 else 0) ∧ x * (if c = true then 1 else 0) < 2 ^ 800 := by
  cases c
  · rw [if_neg (by decide), Int.mul_zero]
    exact ⟨by decide, by decide +kernel⟩
  · rw [if_pos rfl, Int.mul_one]
    exact ⟨h0, h1⟩
theorem bit_ok (c : Bool) : -(2 ^ 64) < (if c = true then (1 : Int) else 0) ∧ (if c = true then (1 : Int) else 0) < 2 ^ 64 := by
  cases c <;> exact ⟨by decide, by decide⟩
theorem box_rest {H : Hp} {D : Ends} {a : Addr} {j : Nat} {cell : Int} {y : Option V} (hj : j ≤ 63) (q : ∀ (H' : Hp) (p : Addr), Same H H' → H p = none → BoxAt H' p 0 → D.rt (V.ref p) H') : tBoxRest D [some (.ref a), some (.int j), some (.int cell), y] H := by
  have h60 : ((10 : Int) ^ (60 : Int).toNat).natAbs < 2 ^ 200 := by decide +kernel
  have h120 : ((10 : Int) ^ (60 : Int).toNat * 10 ^ (60 : Int).toNat).natAbs < 2 ^ 400 := by decide +kernel
  have h180 : ((10 : Int) ^ (60 : Int).toNat * 10 ^ (60 : Int).toNat * 10 ^ (60 : Int).toNat).natAbs < 2 ^ 600 := by decide +kernel
  have hp : CPow 10 60 := ⟨by decide, by decide, by decide⟩
  have hp2 : CPow 10 18 := ⟨by decide, by decide, by decide⟩
  refine ⟨_, rfl, _, rfl, _, _, rfl, rfl, hp, _, _, rfl, rfl, hp, _, _, rfl, rfl, wide_mul h60 h60 (by decide) (by decide) (by decide), _, _, rfl, rfl, hp, _, _, rfl, rfl, wide_mul h120 h60 (by decide) (by decide) (by decide), _, _, rfl, rfl, hp, _, _, rfl, rfl, wide_mul h180 h60 (by decide) (by decide) (by decide), _, _, rfl, rfl, big_pos, ?_⟩
  have hm0 : 0 ≤ (if cell < 0 then -cell else cell) % (10 ^ (60 : Int).toNat * 10 ^ (60 : Int).toNat * 10 ^ (60 : Int).toNat * 10 ^ (60 : Int).toNat) := Int.emod_nonneg _ (Int.ne_of_gt big_pos)
  have hm1 : (if cell < 0 then -cell else cell) % (10 ^ (60 : Int).toNat * 10 ^ (60 : Int).toNat * 10 ^ (60 : Int).toNat * 10 ^ (60 : Int).toNat) < 2 ^ 800 := Int.lt_of_lt_of_le (Int.emod_lt_of_pos _ big_pos) big_lt
  dsimp only
  generalize (if cell < 0 then -cell else cell) % (10 ^ (60 : Int).toNat * 10 ^ (60 : Int).toNat * 10 ^ (60 : Int).toNat * 10 ^ (60 : Int).toNat) = own at *
  refine ⟨_, rfl, _, rfl, _, _, rfl, rfl, hp2, _, _, rfl, rfl, .inr ⟨_, rfl, _, _, rfl, rfl, ?_, ?_⟩⟩
  · exact .inr (bit_ok _)
  dsimp only
  generalize decide ((10 : Int) ^ (18 : Int).toNat ≤ if cell < 0 then -cell else cell) = bb
  obtain ⟨ho0, ho1⟩ := own_ok hm0 hm1 bb
  generalize own * (if bb = true then 1 else 0) = o2 at *
  have hc0 : 0 ≤ cell % 2305843009213693951 := Int.emod_nonneg _ (by decide)
  have hc1 : cell % 2305843009213693951 < 2305843009213693951 := Int.emod_lt_of_pos _ (by decide)
  have hkk : (0 : Int) ≤ 7919 * (j : Int) * (j : Int) := Int.mul_nonneg (Int.mul_nonneg (by decide) (by omega)) (by omega)
  refine ⟨_, rfl, _, rfl, _, _, rfl, rfl, (show (0 : Int) < 2305843009213693951 by decide), _, rfl, _, _, rfl, rfl, .inl ⟨by decide, by decide⟩, _, rfl, _, _, rfl, rfl, .inr ⟨by omega, by omega⟩, _, _, rfl, rfl, _, _, rfl, rfl, _, _, rfl, rfl, .inr ⟨by decide, by decide⟩, _, _, rfl, rfl, (show (0 : Int) < 2305843009213693921 by decide), by show 3 ≤ sizeLine; decide, fun p np => ?_⟩
  exact q _ p (same_upd np) np ⟨_, _, _, upd_same, ho0, ho1, Int.emod_nonneg _ (by decide), Int.lt_of_lt_of_le (Int.emod_lt_of_pos _ (by decide)) (by decide), by decide, by decide⟩
theorem ok_box {f : Addr} {fd : FuncData} {k : Nat} (F : Fun K "_law_box" "_law_box" sBox f fd) (T : Bi mg) : FnOk P w K mg base CX0 (k + 1) f fd ["_law_script", "_law_k"] (spBox K) := by
  refine F.ok scBox (fun vs H Q E h => ?_) (fun cdv A' outer s H vs Q E hr h => ?_)
  · obtain ⟨a, ns, j, rfl, _⟩ := h
    rfl
  · obtain ⟨a, ns, j, rfl, hS, hj, q⟩ := h
    refine ⟨_, pss_cons (ps_set (i := 2) scBox.nd rfl (.inl rfl) (pe_ifExp (pt_cmpR op_lt (pv 1) (pe_callB call_len_seq (by rfl) T.len PySem.boot_len (pa_cons (pv 0) pa_nil)) (nomark _)) (pe_ix ix_list (pv 0) (pv 1) (fun _ _ => rfl)) pe_int))
      (pss_cons (ps_set (i := 3) scBox.nd rfl (.inl rfl) (pe_op op_mul (pe_op op_mod (pe_callB call_abs (by rfl) T.abs (by decide +kernel) (pa_cons (pv 2) pa_nil))
          (pe_op op_mulW (pe_op op_mulW (pe_op op_mulW (pe_op op_pow pe_int pe_int) (pe_op op_pow pe_int pe_int)) (pe_op op_pow pe_int pe_int)) (pe_op op_pow pe_int pe_int)))
        (pe_callTy call_int1 (by rfl) T.int (by decide +kernel) (pa_cons (pe_cmpR op_ge (pe_callB call_abs (by rfl) T.abs (by decide +kernel) (pa_cons (pv 2) pa_nil)) (pe_op op_pow pe_int pe_int) (nomark _)) pa_nil))))
      (pss_one (ps_ret (pe_lst (pa_cons (pv 3) (pa_cons (pe_op op_mod (pe_op op_mul (pe_op op_add (pe_op op_add (pe_op op_mod (pv 2) pe_int) (pe_op op_mul (pe_op op_mul pe_int (pv 1)) (pv 1))) pe_int) pe_int) pe_int) (pa_cons pe_int pa_nil))))))), ?_⟩
    refine ⟨_, rfl, _, rfl, a, _, rfl, .inl hS, _, _, rfl, rfl, _, rfl, ite2 (fun c => ?_) (fun c => ?_)⟩
    · have hj' : j < ns.length := by
        have := of_decide_eq_true c
        rw [List.length_map] at this
        omega
      refine ⟨_, rfl, _, rfl, a, _, _, _, rfl, rfl, hS, atI_nat (v := .int ns[j]) (by rw [List.getElem?_map, List.getElem?_eq_getElem hj']; rfl), ?_⟩
      exact box_rest (D := { nx := fun _ H' => Q .non H', rt := Q }) (y := none) hj q
    · exact box_rest (D := { nx := fun _ H' => Q .non H', rt := Q }) (y := none) hj q
end
end Ov
namespace Ov
open PySem PySem.Spec PyProof.Rows L2
section
variable {P : Program} {w : World} {K : PySem.W.Frag} {mg : Str → Option Value} {base : Heap}
/-! ### _law_take -/
def spTake : Sp := fun vs H Q _ => ∃ (p : Addr) (m : Int) (n : Nat), vs = [.ref p, .int m] ∧ BoxAt H p n ∧ n ≤ 2 ^ 40 ∧ 0 < m ∧ m < 2 ^ 200 ∧ ∀ H' (d : Int), But p H H' → BoxAt H' p (n + 1) → 0 ≤ d → d < m → (∀ b, H b = none → H' b = none) → Q (.int d) H'
theorem scTake : FnScope ["_law_box_here", "_law_many", "_law_digit", "_law_mixed"] ["_law_box_here", "_law_many"] (defScope sTake) := ⟨rfl, rfl, rfl, by decide +kernel, rfl, by decide +kernel, by decide +kernel⟩
theorem ok_take {f : Addr} {fd : FuncData} {k : Nat} (F : Fun K "_law_take" "_law_take" sTake f fd) : FnOk P w K mg base CX0 (k + 1) f fd ["_law_box_here", "_law_many"] spTake := by
  refine F.ok scTake (fun vs H Q E h => ?_) (fun cdv A' outer s H vs Q E hr h => ?_)
  · obtain ⟨p, m, n, rfl, _⟩ := h
    rfl
  · obtain ⟨p, m, n, rfl, ⟨a, b, c, hp, a0, a1, b0, b1, c0, c1⟩, hn, m0, m1, q⟩ := h
    refine ⟨_, pss_cons (ps_if (pt_cmpR op_gt (pe_ix ix_list (pv 0) pe_int (fun _ _ => rfl)) pe_int (nomark _))
        (pss_cons (ps_set (i := 2) scTake.nd rfl (.inl rfl) (pe_op op_mod (pe_ix ix_list (pv 0) pe_int (fun _ _ => rfl)) (pv 1)))
        (pss_cons (ps_asg (pe_op op_fdivW (pe_ix ix_list (pv 0) pe_int (fun _ _ => rfl)) (pv 1)) (pg_sub (pv 0) pe_int set_list))
        (pss_one (ps_ret (pv 2))))) pss_nil)
      (pss_cons (ps_asg (pe_op op_add (pe_ix ix_list (pv 0) pe_int (fun _ _ => rfl)) pe_int) (pg_sub (pv 0) pe_int set_list))
      (pss_cons (ps_set (i := 3) scTake.nd rfl (.inl rfl) (pe_op op_mod (pe_op op_mul (pe_op op_add (pe_op op_add (pe_ix ix_list (pv 0) pe_int (fun _ _ => rfl)) (pe_op op_mul (pe_op op_mul pe_int (pe_ix ix_list (pv 0) pe_int (fun _ _ => rfl))) (pe_ix ix_list (pv 0) pe_int (fun _ _ => rfl)))) pe_int) pe_int) pe_int))
      (pss_cons (ps_set (i := 3) scTake.nd rfl (.inl rfl) (pe_op op_mod (pe_op op_mul (pv 3) (pe_op op_add (pe_op op_mod (pv 3) pe_int) (pe_op op_mul pe_int (pe_ix ix_list (pv 0) pe_int (fun _ _ => rfl))))) pe_int))
      (pss_one (ps_ret (pe_op op_mod (pe_op op_add (pe_op op_fdiv (pv 3) pe_int) (pe_op op_fdiv (pv 3) pe_int)) (pv 1))))))), ?_⟩
    have i0 : ∀ x y z : V, atI [x, y, z] 0 = some x := fun x y z => atI_nat (j := 0) rfl
    have i1 : ∀ x y z : V, atI [x, y, z] 1 = some y := fun x y z => atI_nat (j := 1) rfl
    have i2 : ∀ x y z : V, atI [x, y, z] 2 = some z := fun x y z => atI_nat (j := 2) rfl
    refine ⟨_, rfl, p, _, _, _, rfl, rfl, SqL.of hp, i0 _ _ _, _, _, rfl, rfl, _, rfl, ?_⟩
    by_cases ha : 0 < a
    · rw [decide_eq_true ha]
      refine iteT ?_
      refine ⟨_, rfl, p, _, _, _, rfl, rfl, SqL.of hp, i0 _ _ _, _, rfl, _, _, rfl, rfl, m0, ?_⟩
      refine ⟨_, rfl, p, _, _, _, rfl, rfl, SqL.of hp, i0 _ _ _, _, rfl, _, _, rfl, rfl, wide_div (b := 200) m0 (by omega) (by decide) (by decide), _, rfl, p, _, _, 0, rfl, rfl, hp, rfl, _, rfl, ?_⟩
      refine q _ _ (fun x o e hx => by rw [upd_ne hx]; exact e) ⟨a / m, b, c, upd_same, ?_, ?_, b0, b1, c0, by omega⟩ (Int.emod_nonneg _ (by omega)) (Int.emod_lt_of_pos _ m0) (fun x e => by rw [upd_ne (fun z => by rw [z, hp] at e; cases e)]; exact e)
      · exact Int.ediv_nonneg a0 (by omega)
      · exact Int.lt_of_le_of_lt (Int.ediv_le_self _ a0) a1
    · rw [decide_eq_false ha]
      refine iteF ?_
      refine ⟨_, rfl, p, _, _, _, rfl, rfl, SqL.of hp, i2 _ _ _, _, _, rfl, rfl, _, rfl, p, _, _, 2, rfl, rfl, hp, rfl, ?_⟩
      have hp2 : (upd H p (.lst (([V.int a, V.int b, V.int c] : List V).set 2 (V.int (c + 1))))) p = some (.lst [V.int a, V.int b, V.int (c + 1)]) := upd_same
      have s2 : But p H (upd H p (.lst (([V.int a, V.int b, V.int c] : List V).set 2 (V.int (c + 1))))) := fun x o e hx => by rw [upd_ne hx]; exact e
      have f2 : ∀ x, H x = none → (upd H p (.lst (([V.int a, V.int b, V.int c] : List V).set 2 (V.int (c + 1))))) x = none := fun x e => by rw [upd_ne (fun z => by rw [z, hp] at e; cases e)]; exact e
      generalize upd H p (.lst (([V.int a, V.int b, V.int c] : List V).set 2 (V.int (c + 1)))) = H2 at *
      have hc2 : c + 1 ≤ 2 ^ 40 + 1 := by omega
      refine ⟨_, rfl, p, _, _, _, rfl, rfl, SqL.of hp2, i1 _ _ _, _, rfl, p, _, _, _, rfl, rfl, SqL.of hp2, i2 _ _ _, _, _, rfl, rfl, .inl ⟨by decide, by decide⟩, _, rfl, p, _, _, _, rfl, rfl, SqL.of hp2, i2 _ _ _, _, _, rfl, rfl, .inr ⟨by omega, by omega⟩, _, _, rfl, rfl, _, _, rfl, rfl, _, _, rfl, rfl, .inr ⟨by decide, by decide⟩, _, _, rfl, rfl, (show (0 : Int) < 2305843009213693921 by decide), ?_⟩
      dsimp only
      have x0 : 0 ≤ (b + 65537 * (c + 1) * (c + 1) + 11) * 48271 % 2305843009213693921 := Int.emod_nonneg _ (by decide)
      have x1 : (b + 65537 * (c + 1) * (c + 1) + 11) * 48271 % 2305843009213693921 < 2305843009213693921 := Int.emod_lt_of_pos _ (by decide)
      generalize (b + 65537 * (c + 1) * (c + 1) + 11) * 48271 % 2305843009213693921 = x at *
      refine ⟨_, rfl, _, rfl, _, _, rfl, rfl, (show (0 : Int) < 1000003 by decide), _, rfl, p, _, _, _, rfl, rfl, SqL.of hp2, i2 _ _ _, _, _, rfl, rfl, .inl ⟨by decide, by decide⟩, _, _, rfl, rfl, _, _, rfl, rfl, .inl ⟨by omega, by omega⟩, _, _, rfl, rfl, (show (0 : Int) < 2305843009213693907 by decide), ?_⟩
      dsimp only
      generalize x * (x % 1000003 + 99991 * (c + 1)) % 2305843009213693907 = y at *
      refine ⟨_, rfl, _, _, rfl, rfl, ⟨by decide, by decide⟩, _, rfl, _, _, rfl, rfl, ⟨by decide, by decide⟩, _, _, rfl, rfl, _, rfl, _, _, rfl, rfl, m0, ?_⟩
      exact q _ _ s2 ⟨a, b, c + 1, hp2, a0, a1, b0, b1, by omega, by omega⟩ (Int.emod_nonneg _ (by omega)) (Int.emod_lt_of_pos _ m0) f2
/-! ### _law_of -/
def spOf : Sp := fun vs H Q _ => ∃ (p l : Addr) (n : Nat) (xs : List V), vs = [.ref p, .ref l] ∧ BoxAt H p n ∧ n ≤ 2 ^ 40 ∧ H l = some (.lst xs) ∧ l ≠ p ∧ 0 < xs.length ∧ xs.length ≤ 1000 ∧ ∀ H' (v : V), v ∈ xs → But p H H' → BoxAt H' p (n + 1) → (∀ b, H b = none → H' b = none) → Q v H'
theorem scOf : FnScope ["_law_box_here", "_law_some"] ["_law_box_here", "_law_some"] (defScope sOf) := ⟨rfl, rfl, rfl, by decide +kernel, rfl, by decide +kernel, by decide +kernel⟩
theorem ok_of {f fT : Addr} {fd fdT : FuncData} {k : Nat} (F : Fun K "_law_of" "_law_of" sOf f fd) (T : Bi mg) (Tk : Def K mg "_law_take" sTake fT fdT ["_law_box_here", "_law_many"]) : FnOk P w K mg base CX0 (k + 2) f fd ["_law_box_here", "_law_some"] spOf := by
  have GT : FnOk P w K mg base CX0 (k + 1) fT fdT ["_law_box_here", "_law_many"] spTake := ok_take Tk.fn
  refine F.ok scOf (fun vs H Q E h => ?_) (fun cdv A' outer s H vs Q E hr h => ?_)
  · obtain ⟨p, l, n, xs, rfl, _⟩ := h
    rfl
  · obtain ⟨p, l, n, xs, rfl, B, hn, hl, hlp, h0, h1, q⟩ := h
    refine ⟨_, pss_one (ps_ret (pe_ix ix_list (pv 1) (pe_call GT hr (by rfl) Tk.gl Tk.fn.kp Tk.bi .nil pass0 (pa_cons (pv 0) (pa_cons (pe_callB call_len_seq (by rfl) T.len PySem.boot_len (pa_cons (pv 1) pa_nil)) pa_nil))) (fun _ _ => rfl))), ?_⟩
    refine ⟨_, rfl, _, rfl, _, rfl, l, _, rfl, .inl (SqL.of hl), p, _, n, rfl, B, hn, by omega, by omega, fun H' d bt B' d0 d1 fr => ?_⟩
    obtain ⟨i, rfl⟩ : ∃ i : Nat, d = i := ⟨d.toNat, by omega⟩
    have hi : i < xs.length := by omega
    exact ⟨l, xs, _, xs[i], rfl, rfl, SqL.of (bt _ _ hl hlp), atI_nat (List.getElem?_eq_getElem hi), q H' _ (List.getElem_mem hi) bt B' fr⟩
end
end Ov
namespace Ov
open PySem PySem.Spec PyProof.Rows L2
/-! ### names of instructions -/
def tail (c : Nat) : Nat := if c = 122 then 121 else 122
def nameOf (c t k : Nat) : List Nat := List.replicate (1 + t) c ++ List.replicate k (tail c)
theorem tail_ne (c : Nat) : tail c ≠ c := by
  unfold tail
  split <;> omega
theorem nameOf_inj {c t k c' t' k' : Nat} (h : nameOf c t k = nameOf c' t' k') : c = c' ∧ k = k' := by
  have hc : c = c' := by
    unfold nameOf at h
    rw [Nat.add_comm 1 t, Nat.add_comm 1 t', List.replicate_succ, List.replicate_succ] at h
    exact (List.cons.inj h).1
  subst hc
  refine ⟨rfl, ?_⟩
  have cnt : ∀ t k, (nameOf c t k).count (tail c) = k := fun t k => by
    unfold nameOf
    rw [List.count_append, List.count_replicate, List.count_replicate_self, if_neg]
    · omega
    · intro z
      exact tail_ne c (Eq.symm (by simpa using z))
  rw [← cnt t k, h, cnt]
theorem nameOf_len (c t k : Nat) : (nameOf c t k).length = 1 + t + k := by
  unfold nameOf
  rw [List.length_append, List.length_replicate, List.length_replicate]
theorem nameOf_low {c t k : Nat} (h1 : 97 ≤ c) (h2 : c ≤ 122) : ∀ x ∈ nameOf c t k, 97 ≤ x ∧ x ≤ 122 := by
  intro x hx
  unfold nameOf at hx
  rcases List.mem_append.mp hx with hx | hx
  · rw [(List.mem_replicate.mp hx).2]; exact ⟨h1, h2⟩
  · rw [(List.mem_replicate.mp hx).2]
    unfold tail
    split <;> omega
/-- an instruction -/
structure I4 where
  op : Nat
  nm : List Nat
  ln : Nat
  pad : Bool
/-- what is drawn for the place at -/
structure Drawn (lg first at_ : Nat) (x : I4) : Prop where
  nm : ∃ t, t < 3 ∧ x.nm = nameOf (97 + (first + 5 * at_) % 26) t (at_ / 26)
  ln : 1 ≤ x.ln ∧ x.ln ≤ lg
  pad : at_ = 0 → x.pad = true
/-- a valid table of instructions -/
structure TabOk (cnt lg : Nat) (is : List I4) : Prop where
  cb : 2 ≤ cnt ∧ cnt ≤ 256
  lb : lg ≤ 12
  ne : is ≠ []
  few : is.length ≤ 72
  asc : (is.map I4.op).Pairwise (· < ·)
  ops : ∀ x ∈ is, x.op < cnt
  len : ∀ x ∈ is, 1 ≤ x.ln ∧ x.ln ≤ lg
  nms : ∀ x ∈ is, 1 ≤ x.nm.length ∧ x.nm.length ≤ 8 ∧ ∀ c ∈ x.nm, 97 ≤ c ∧ c ≤ 122
  nd : (is.map I4.nm).Nodup

theorem names_nodup {lg first : Nat} {is : List I4} (hd : ∀ i x, is[i]? = some x → Drawn lg first i x) : (is.map I4.nm).Nodup := by
  rw [List.nodup_iff_pairwise_ne, List.pairwise_map, List.pairwise_iff_getElem]
  intro i j hi hj hij e
  obtain ⟨t, _, e1⟩ := (hd i _ (List.getElem?_eq_getElem hi)).nm
  obtain ⟨t', _, e2⟩ := (hd j _ (List.getElem?_eq_getElem hj)).nm
  rw [e1, e2] at e
  obtain ⟨h1, h2⟩ := nameOf_inj e
  omega
/-- an instruction as it stands -/
def I4.vs (x : I4) : List V := [.int (x.op : Int), .str (txt x.nm), .int (x.ln : Int), .bl x.pad]
/-- instructions, each a tuple of its own, in a tuple (or list) -/
def Rows (H : Hp) (rs : List Addr) (is : List I4) : Prop := rs.length = is.length ∧ ∀ (i : Nat) (r : Addr) (x : I4), rs[i]? = some r → is[i]? = some x → H r = some (.tup x.vs)
theorem Rows.same {H H' : Hp} {rs : List Addr} {is : List I4} (h : Rows H rs is) (s : Same H H') : Rows H' rs is := ⟨h.1, fun i r x h1 h2 => s _ _ (h.2 i r x h1 h2)⟩
theorem Rows.but {H H' : Hp} {p : Addr} {n : Nat} {rs : List Addr} {is : List I4} (h : Rows H rs is) (b : But p H H') (B : BoxAt H p n) : Rows H' rs is := by
  refine ⟨h.1, fun i r x h1 h2 => ?_⟩
  have hr := h.2 i r x h1 h2
  refine b _ _ hr fun z => ?_
  obtain ⟨a, b, c, e, _⟩ := B
  rw [z, e] at hr
  cases hr
theorem Rows.more {H : Hp} {rs : List Addr} {is : List I4} {r : Addr} {x : I4} (h : Rows H rs is) (hr : H r = some (.tup x.vs)) : Rows H (rs ++ [r]) (is ++ [x]) := by
  refine ⟨by rw [List.length_append, List.length_append, h.1]; rfl, fun i r' x' h1 h2 => ?_⟩
  by_cases c : i < rs.length
  · rw [List.getElem?_append_left c] at h1
    rw [List.getElem?_append_left (by rw [← h.1]; exact c)] at h2
    exact h.2 i r' x' h1 h2
  · have hl := (List.getElem?_eq_some_iff.mp h1).1
    rw [List.length_append] at hl
    have e : i = rs.length := by
      have : ([r] : List Addr).length = 1 := rfl
      omega
    subst e
    rw [List.getElem?_append_right (Nat.le_refl _), Nat.sub_self] at h1
    rw [h.1, List.getElem?_append_right (Nat.le_refl _), Nat.sub_self] at h2
    have e1 : r = r' := Option.some.inj h1
    have e2 : x = x' := Option.some.inj h2
    subst e1 e2
    exact hr
/-- a table: (byte count, instructions) -/
structure Tab (H : Hp) (t : Addr) (cnt lg : Nat) (is : List I4) (it : Addr) (rs : List Addr) : Prop where
  at_ : H t = some (.tup [.int (cnt : Int), .ref it])
  its : H it = some (.tup (rs.map V.ref))
  rows : Rows H rs is
  ok : TabOk cnt lg is
theorem Tab.same {H H' : Hp} {t : Addr} {cnt lg : Nat} {is : List I4} {it : Addr} {rs : List Addr} (h : Tab H t cnt lg is it rs) (s : Same H H') : Tab H' t cnt lg is it rs := ⟨s _ _ h.at_, s _ _ h.its, h.rows.same s, h.ok⟩
theorem ne_box {H : Hp} {p a : Addr} {n : Nat} {xs : List V} (B : BoxAt H p n) (h : H a = some (.tup xs)) : a ≠ p := fun z => by
  obtain ⟨_, _, _, e, _⟩ := B
  rw [z, e] at h
  cases h
theorem Tab.but {H H' : Hp} {p : Addr} {n : Nat} {t : Addr} {cnt lg : Nat} {is : List I4} {it : Addr} {rs : List Addr} (h : Tab H t cnt lg is it rs) (b : But p H H') (B : BoxAt H p n) : Tab H' t cnt lg is it rs :=
  ⟨b _ _ h.at_ (ne_box B h.at_), b _ _ h.its (ne_box B h.its), h.rows.but b B, h.ok⟩
theorem abc_at : ∀ i : Nat, i < 26 → atI (Str.ofString "abcdefghijklmnopqrstuvwxyz").cps.toList (i : Int) = some (97 + i) := by
  intro i hi
  refine atI_nat ?_
  rcases i with _ | _ | _ | _ | _ | _ | _ | _ | _ | _ | _ | _ | _ | _ | _ | _ | _ | _ | _ | _ | _ | _ | _ | _ | _ | _ | i <;> first | (exfalso; omega) | decide +kernel
theorem txt_add (a b : List Nat) : txt a ++ txt b = txt (a ++ b) := by
  show (⟨a.toArray ++ b.toArray⟩ : Str) = ⟨(a ++ b).toArray⟩
  simp
/-- how long the list at l is -/
def lenAt (H : Hp) (l : Addr) : Nat := match H l with
  | some (.lst xs) => xs.length
  | _ => 0
theorem lenAt_of {H : Hp} {l : Addr} {xs : List V} (h : H l = some (.lst xs)) : lenAt H l = xs.length := by
  unfold lenAt
  rw [h]
end Ov
namespace Ov
open PySem PySem.Spec PyProof.Rows L2
theorem nlt_sign {a b : Nat} (h : a ≤ b) : decide (([b] : List Nat) < [a]) = false := by
  refine decide_eq_false ?_
  rw [List.cons_lt_cons_iff]
  rintro (z | ⟨_, z⟩)
  · omega
  · exact absurd z (by simp)
section
variable {X : Cx}
/-- a slice of a tuple, or of a list -/
theorem sl_seq : SlR X (fun x lo hi H Q => rSlA X.K x lo hi H Q ∨ rSlL X.K x lo hi H Q) := by
  intro pins s σ H x v vl vu lo hi sl Q I rx hs pl pu h
  rcases h with h | h
  · exact sl_tupA pins s σ H x v vl vu lo hi sl Q I rx hs pl pu h
  · exact sl_list pins s σ H x v vl vu lo hi sl Q I rx hs pl pu h
end
section
variable {P : Program} {w : World} {K : PySem.W.Frag} {mg : Str → Option Value} {base : Heap}
/-! ### is_ascending of a list -/
def spAscL (K : PySem.W.Frag) : Sp := fun vs H Q _ => ∃ (a : Addr) (ns : List Int), vs = [.ref a] ∧ SqL K H a (ns.map V.int) ∧ ns.length ≤ 1000 ∧ ns.Pairwise (· < ·) ∧ ∀ H', Same H H' → Q (.bl true) H'
theorem ok_ascL {f : Addr} {fd : FuncData} {k : Nat} (F : Fun K "is_ascending" "is_ascending" sAscending f fd) (T : Bi mg) : FnOk P w K mg base CX0 (k + 1) f fd ["numbers"] (spAscL K) := by
  refine F.ok scAscending (fun vs H Q E h => ?_) (fun cdv A outer s H vs Q E hr h => ?_)
  · obtain ⟨a, ns, rfl, _⟩ := h
    rfl
  · obtain ⟨a, ns, rfl, hS, hlen, hasc, q⟩ := h
    refine ⟨_, pss_one (ps_ret (pe_callB (cr_all rfl) (by rfl) T.all (by decide +kernel) (pa_cons
      (pe_lc (own := [("low", 1), ("high", 2)]) (g := gTup K 2 (gCons (gName 1) (gCons (gName 2) gNil))) (tt := tYes) (by rfl) scAscending.nd (RZ.pi_zipA (by rfl) T.zip (pa_cons (pv 0) (pa_cons (pe_slice sl_list (pv 0) (po_some pe_int) po_none) pa_nil)))
        (blkOk_by (own := [("low", 1), ("high", 2)]) (N := ["numbers", "low", "high"]) (sc := defScope sAscending) (by decide +kernel))
        (fun _ _ _ _ _ => pg_tup rfl (pgs_cons (pg_name (i := 1) scAscending.nd rfl (Or.inl rfl)) (pgs_cons (pg_name (i := 2) scAscending.nd rfl (Or.inl rfl)) pgs_nil)))
        (fun _ _ _ _ _ => pts_nil) (fun _ _ _ _ _ => pe_cmpR op_lt (pv 1) (pv 2) (nomark _))) pa_nil))), ?_⟩
    refine ⟨_, rfl, _, rfl, 1, rfl, a, ns.map V.int, rfl, hS, fun c nc => ?_⟩
    have s1 : Same H (upd H c (.lst (cutV (ns.map V.int) (some 1) none))) := same_upd nc
    have hc : SqL K (upd H c (.lst (cutV (ns.map V.int) (some 1) none))) c ((ns.drop 1).map V.int) := .inl (.inl (by rw [upd_same, cut1, List.map_drop]))
    refine ⟨a, c, ns.map V.int, (ns.drop 1).map V.int, rfl, .inl ⟨s1.seq hS, hc, fun D nD => lc_it (walk_zip (xs := ns.map V.int) (ys := (ns.drop 1).map V.int) rfl)
      (fun i H2 => Mk (upd H c (.lst (cutV (ns.map V.int) (some 1) none))) H2 D ((List.replicate i true).map V.bl)) (.start nD) (fun i H2 _ p => ⟨p.same.seq (s1.seq hS), p.same.seq hc⟩) (fun i x H2 H3 hi p y => ?_) (fun H2 p => ?_)⟩⟩
    · obtain ⟨t, x1, x2, rfl, nt, rfl, f1, f2⟩ := y
      have hi' : i < min ns.length (ns.length - 1) := by simpa using hi
      have h1 : i < ns.length := by omega
      have h2 : i + 1 < ns.length := by omega
      have e1 : x1 = .int ns[i] := by
        have : (ns.map V.int)[i]? = some x1 := f1
        rw [List.getElem?_map, List.getElem?_eq_getElem h1] at this
        exact (Option.some.inj this).symm
      have e2 : x2 = .int ns[i + 1] := by
        have : ((ns.drop 1).map V.int)[i]? = some x2 := f2
        rw [List.getElem?_map, List.getElem?_drop, Nat.add_comm 1 i, List.getElem?_eq_getElem h2] at this
        exact (Option.some.inj this).symm
      have hlt : ns[i] < ns[i + 1] := List.pairwise_iff_getElem.mp hasc i (i + 1) h1 h2 (by omega)
      refine ⟨t, [x1, x2], rfl, .inl (.inl upd_same), rfl, x1, [x2], rfl, x2, [], rfl, rfl, rfl, x1, rfl, x2, rfl, _, _, e1, e2, _, (by rw [upd_ne (ne_of_none p.at_ nt)]; exact p.at_), (by rw [List.length_map, List.length_replicate]; exact small1000 (by omega)), ?_⟩
      show Mk _ (upd _ D (.lst (_ ++ [V.bl (decide (ns[i] < ns[i + 1]))]))) D _
      rw [decide_eq_true hlt, List.replicate_succ', List.map_append]
      exact p.put (same_upd nt)
    · refine ⟨D, _, rfl, .inl (.inl p.at_), ?_⟩
      rw [all_true]
      exact q H2 (s1.trans p.same)
/-! ### is_name -/
def spName : Sp := fun vs H Q _ => ∃ nm : List Nat, vs = [.str (txt nm)] ∧ 1 ≤ nm.length ∧ nm.length ≤ 8 ∧ (∀ c ∈ nm, 97 ≤ c ∧ c ≤ 122) ∧ ∀ H', Same H H' → Q (.bl true) H'
theorem scName : FnScope ["value", "letter"] ["value"] (defScope sIsName) := ⟨rfl, rfl, rfl, by decide +kernel, rfl, by decide +kernel, by decide +kernel⟩
theorem ok_name {f : Addr} {fd : FuncData} {k : Nat} (F : Fun K "is_name" "is_name" sIsName f fd) (T : Bi mg) (m8 : ∃ t, mg "MOST_LETTERS" = some (.int 8 t)) : FnOk P w K mg base CX0 (k + 1) f fd ["value"] spName := by
  obtain ⟨t8, m8⟩ := m8
  refine F.ok scName (fun vs H Q E h => ?_) (fun cdv A outer s H vs Q E hr h => ?_)
  · obtain ⟨nm, rfl, _⟩ := h
    rfl
  · obtain ⟨nm, rfl, h1, h2, low, q⟩ := h
    refine ⟨_, pss_cons (ps_if (PW.pt (pw_or (pt_not (pt_val (pe_callB call_isi (by rfl) T.isi (by decide +kernel) (pa_cons (pv 0) (pa_cons (pe_bltn (v := .ty "str") (u := .type "str") (by rfl) T.str (by decide +kernel) rfl) pa_nil)))))
        (pw_or1 (pt_not (pt_chain op_le op_le pe_int (pe_callB call_len_str (by rfl) T.len PySem.boot_len (pa_cons (pv 0) pa_nil)) (pe_glob (v := .int 8) (by rfl) m8 ⟨_, rfl⟩)))))) (pss_one (ps_ret pe_bl)) pss_nil)
      (pss_one (ps_ret (pe_callB (cr_all rfl) (by rfl) T.all (by decide +kernel) (pa_cons
        (pe_lc (own := [("letter", 1)]) (g := gName 1) (tt := tYes) (by rfl) scName.nd (pi_str (pv 0)) (blkOk_by (own := [("letter", 1)]) (N := ["value", "letter"]) (sc := defScope sIsName) (by decide +kernel))
          (fun _ _ _ _ _ => pg_name (i := 1) scName.nd rfl (Or.inl rfl)) (fun _ _ _ _ _ => pts_nil) (fun _ _ _ _ _ => pe_chain op_le_str op_le_str pe_str (pv 1) pe_str)) pa_nil)))), ?_⟩
    have hsz : (txt nm).length ≤ sizeLine := by rw [txt_len]; exact Nat.le_of_lt (small1000 (by omega))
    refine ⟨_, rfl, _, _, _, _, _, rfl, .ty _, .base (.str _), kit_ty (by decide +kernel : kitB "str" "str" = some true), _, rfl, ?_⟩
    refine iteF ⟨_, rfl, _, rfl, hsz, _, _, rfl, rfl, _, rfl, ?_⟩
    rw [txt_len, decide_eq_true (show (1 : Int) ≤ (nm.length : Int) by omega)]
    refine iteT ⟨_, _, rfl, rfl, _, rfl, ?_⟩
    rw [decide_eq_true (show (nm.length : Int) ≤ 8 by omega)]
    refine iteF ?_
    refine ⟨_, rfl, txt nm, rfl, fun D nD => lc_it (walk_str (z := txt nm)) (fun i H2 => Mk H H2 D ((List.replicate i true).map V.bl)) (.start nD) (fun _ _ _ _ => trivial) ?_ ?_⟩
    · rintro i x H2 H3 hi mk ⟨rfl, c, hc, rfl⟩
      have hcm : c ∈ nm := by
        have : nm[i]? = some c := by simpa [txt] using hc
        exact List.mem_of_getElem? this
      obtain ⟨c1, c2⟩ := low c hcm
      have hi' : i < nm.length := by
        have : i < (txt nm).cps.size := hi
        simpa [txt] using this
      refine ⟨rfl, _, rfl, Str.ofString "a", _, rfl, rfl, _, rfl, ?_⟩
      have ea : (Str.ofString "a").cps.toList = [97] := by decide +kernel
      have ez : (Str.ofString "z").cps.toList = [122] := by decide +kernel
      rw [ea, show decide (((⟨#[c]⟩ : Str).cps.toList) < ([97] : List Nat)) = false from nlt_sign c1]
      refine iteT ⟨_, Str.ofString "z", rfl, rfl, ?_⟩
      rw [ez, show decide (([122] : List Nat) < ((⟨#[c]⟩ : Str).cps.toList)) = false from nlt_sign c2]
      refine ⟨_, mk.at_, (by rw [List.length_map, List.length_replicate]; exact small1000 (by omega)), ?_⟩
      rw [List.replicate_succ', List.map_append]
      exact mk.put (Same.refl _)
    · intro H2 mk
      refine ⟨D, _, rfl, SqL.of mk.at_, ?_⟩
      rw [all_true]
      exact q H2 mk.same
/-! ### is_instruction -/
/-- a valid instruction for this byte count -/
structure InsOk (cnt : Nat) (x : I4) : Prop where
  op : x.op < cnt
  nm : 1 ≤ x.nm.length ∧ x.nm.length ≤ 8 ∧ ∀ c ∈ x.nm, 97 ≤ c ∧ c ≤ 122
  ln : 1 ≤ x.ln ∧ x.ln ≤ 12
theorem TabOk.ins {cnt lg : Nat} {is : List I4} (h : TabOk cnt lg is) {x : I4} (hx : x ∈ is) : InsOk cnt x := ⟨h.ops x hx, h.nms x hx, (h.len x hx).1, Nat.le_trans (h.len x hx).2 h.lb⟩
def spInstr : Sp := fun vs H Q _ => ∃ (cnt : Nat) (r : Addr) (x : I4), vs = [.int (cnt : Int), .ref r] ∧ H r = some (.tup x.vs) ∧ InsOk cnt x ∧ ∀ H', Same H H' → Q (.bl true) H'
theorem scInstr : FnScope ["byte_count", "value", "opcode", "name", "length", "is_padding"] ["byte_count", "value"] (defScope sIsInstr) := ⟨rfl, rfl, rfl, by decide +kernel, rfl, by decide +kernel, by decide +kernel⟩
theorem ok_instr {f fB fN : Addr} {fd fdB fdN : FuncData} {k : Nat} (F : Fun K "is_instruction" "is_instruction" sIsInstr f fd) (T : Bi mg)
    (B : Def K mg "is_integer_between" sBetween fB fdB ["value", "least", "most"]) (GB : FnOk P w K mg base CX0 (k + 1) fB fdB ["value", "least", "most"] spBetween) (Nm : Def K mg "is_name" sIsName fN fdN ["value"]) (m8 : ∃ t, mg "MOST_LETTERS" = some (.int 8 t)) (m12 : ∃ t, mg "MOST_LENGTH" = some (.int 12 t)) :
    FnOk P w K mg base CX0 (k + 2) f fd ["byte_count", "value"] spInstr := by
  have GN : FnOk P w K mg base CX0 (k + 1) fN fdN ["value"] spName := ok_name Nm.fn T m8
  obtain ⟨t12, m12⟩ := m12
  refine F.ok scInstr (fun vs H Q E h => ?_) (fun cdv A outer s H vs Q E hr h => ?_)
  · obtain ⟨cnt, r, x, rfl, _⟩ := h
    rfl
  · obtain ⟨cnt, r, x, rfl, hx, ok, q⟩ := h
    refine ⟨_, pss_cons (ps_if (PW.pt (pw_or (pt_not (pt_val (pe_callB call_isi (by rfl) T.isi (by decide +kernel) (pa_cons (pv 1) (pa_cons (pe_bltn (v := .ty "tuple") (u := .type "tuple") (by rfl) T.tuple (by decide +kernel) rfl) pa_nil)))))
        (pw_or1 (pt_cmpR op_ne (pe_callB call_len_seq (by rfl) T.len PySem.boot_len (pa_cons (pv 1) pa_nil)) pe_int (nomark _))))) (pss_one (ps_ret pe_bl)) pss_nil)
      (pss_cons (ps_asg (pv 1) (pg_tup rfl (pgs_cons (pg_name (i := 2) scInstr.nd rfl (.inl rfl)) (pgs_cons (pg_name (i := 3) scInstr.nd rfl (.inl rfl)) (pgs_cons (pg_name (i := 4) scInstr.nd rfl (.inl rfl)) (pgs_cons (pg_name (i := 5) scInstr.nd rfl (.inl rfl)) pgs_nil))))))
      (pss_one (ps_ret (pe_and (pe_call GB hr (by rfl) B.gl B.fn.kp B.bi .nil pass0 (pa_cons (pv 2) (pa_cons pe_int (pa_cons (pe_op op_sub (pv 0) pe_int) pa_nil))))
        (pe_and (pe_call GN hr (by rfl) Nm.gl Nm.fn.kp Nm.bi .nil pass0 (pa_cons (pv 3) pa_nil))
        (pe_and (pe_call GB hr (by rfl) B.gl B.fn.kp B.bi .nil pass0 (pa_cons (pv 4) (pa_cons pe_int (pa_cons (pe_glob (v := .int 12) (by rfl) m12 ⟨_, rfl⟩) pa_nil))))
        (pe_one (pe_callB call_isi (by rfl) T.isi (by decide +kernel) (pa_cons (pv 5) (pa_cons (pe_bltn (v := .ty "bool") (u := .type "bool") (by rfl) T.bool (by decide +kernel) rfl) pa_nil)))))))))), ?_⟩
    refine ⟨_, rfl, _, _, _, _, _, rfl, .ty _, .base (.tup hx), kit_ty (by decide +kernel : kitB "tuple" "tuple" = some true), _, rfl, ?_⟩
    refine iteF ⟨_, rfl, r, _, rfl, .inr (SqT.of hx), rfl, _, rfl, ?_⟩
    refine iteNS rfl ?_
    refine ⟨_, rfl, r, _, rfl, SqT.of hx, rfl, _, _, rfl, _, _, rfl, _, _, rfl, _, _, rfl, rfl, ?_⟩
    have o1 := ok.op
    have o2 := ok.ln
    refine ⟨_, rfl, _, rfl, _, _, rfl, rfl, _, _, _, rfl, by omega, by omega, _, rfl, iteT ?_⟩
    refine ⟨_, rfl, x.nm, rfl, ok.nm.1, ok.nm.2.1, ok.nm.2.2, fun H1 s1 => ⟨_, rfl, iteT ?_⟩⟩
    refine ⟨_, rfl, _, _, _, rfl, by omega, by omega, _, rfl, iteT ?_⟩
    exact ⟨_, rfl, _, _, _, _, _, rfl, .ty _, .base (.bl _), kit_ty (by decide +kernel : kitB "bool" "bool" = some true), q H1 s1⟩
/-! ### are_instructions -/
def spAreI : Sp := fun vs H Q _ => ∃ (cnt lg : Nat) (it : Addr) (rs : List Addr) (is : List I4), vs = [.int (cnt : Int), .ref it] ∧ H it = some (.tup (rs.map V.ref)) ∧ Rows H rs is ∧ TabOk cnt lg is ∧ ∀ H', Same H H' → Q (.bl true) H'
theorem scAreI : FnScope ["byte_count", "value", "opcodes", "names", "item", "opcode", "name", "length", "is_padding"] ["byte_count", "value"] (defScope sAreInstr) := ⟨rfl, rfl, rfl, by decide +kernel, rfl, by decide +kernel, by decide +kernel⟩
theorem rows_at {H : Hp} {rs : List Addr} {is : List I4} (h : Rows H rs is) {i : Nat} {x : V} (hx : (rs.map V.ref)[i]? = some x) : ∃ (hi : i < is.length) (r : Addr), x = .ref r ∧ H r = some (.tup is[i].vs) ∧ rs[i]? = some r := by
  have hi : i < rs.length := by
    have := (List.getElem?_eq_some_iff.mp hx).1
    rwa [List.length_map] at this
  have hi2 : i < is.length := by rw [← h.1]; exact hi
  rw [List.getElem?_map, List.getElem?_eq_getElem hi] at hx
  exact ⟨hi2, rs[i], (Option.some.inj hx).symm, h.2 i _ _ (List.getElem?_eq_getElem hi) (List.getElem?_eq_getElem hi2), List.getElem?_eq_getElem hi⟩
theorem ok_areI {f fI fA : Addr} {fd fdI fdA : FuncData} {k : Nat} (F : Fun K "are_instructions" "are_instructions" sAreInstr f fd) (T : Bi mg)
    (Ii : Def K mg "is_instruction" sIsInstr fI fdI ["byte_count", "value"]) (GI : FnOk P w K mg base CX0 k fI fdI ["byte_count", "value"] spInstr) (A : Def K mg "is_ascending" sAscending fA fdA ["numbers"]) (GA : FnOk P w K mg base CX0 k fA fdA ["numbers"] (spAscL K)) :
    FnOk P w K mg base CX0 (k + 1) f fd ["byte_count", "value"] spAreI := by
  refine F.ok scAreI (fun vs H Q E h => ?_) (fun cdv A' outer s H vs Q E hr h => ?_)
  · obtain ⟨cnt, lg, it, rs, is, rfl, _⟩ := h
    rfl
  · obtain ⟨cnt, lg, it, rs, is, rfl, hit, R, ok, q⟩ := h
    refine ⟨_, pss_cons (ps_if (PW.pt (pw_or (pt_not (pt_val (pe_callB call_isi (by rfl) T.isi (by decide +kernel) (pa_cons (pv 1) (pa_cons (pe_bltn (v := .ty "tuple") (u := .type "tuple") (by rfl) T.tuple (by decide +kernel) rfl) pa_nil)))))
        (pw_or1 (pt_cmpR op_eq (pe_callB call_len_seq (by rfl) T.len PySem.boot_len (pa_cons (pv 1) pa_nil)) pe_int (nomark _))))) (pss_one (ps_ret pe_bl)) pss_nil)
      (pss_cons (ps_if (pt_not (pt_val (pe_callB (cr_all rfl) (by rfl) T.all (by decide +kernel) (pa_cons
        (pe_lc (own := [("item", 4)]) (g := gName 4) (tt := tYes) (by rfl) scAreI.nd (pi_tup (pv 1)) (blkOk_by (own := [("item", 4)]) (N := ["byte_count", "value", "opcodes", "names", "item", "opcode", "name", "length", "is_padding"]) (sc := defScope sAreInstr) (by decide +kernel))
          (fun _ _ _ _ _ => pg_name (i := 4) scAreI.nd rfl (Or.inl rfl)) (fun _ _ _ _ _ => pts_nil)
          (fun _ _ _ _ _ => pe_call GI hr (by rfl) Ii.gl Ii.fn.kp Ii.bi .nil pass0 (pa_cons (pv 0) (pa_cons (pv 4) pa_nil)))) pa_nil)))) (pss_one (ps_ret pe_bl)) pss_nil)
      (pss_cons (ps_setLc (i := 2) (own := [("opcode", 5), ("name", 6), ("length", 7), ("is_padding", 8)]) (g := gTup K 4 (gCons (gName 5) (gCons (gName 6) (gCons (gName 7) (gCons (gName 8) gNil))))) (tt := tYes) (by rfl) scAreI.nd rfl rfl (sw_true rfl rfl rfl (by decide +kernel)) (pi_tup (pv 1))
          (blkOk_by (own := [("opcode", 5), ("name", 6), ("length", 7), ("is_padding", 8)]) (N := ["byte_count", "value", "opcodes", "names", "item", "opcode", "name", "length", "is_padding"]) (sc := defScope sAreInstr) (by decide +kernel))
          (fun _ _ _ _ _ => pg_tup rfl (pgs_cons (pg_name (i := 5) scAreI.nd rfl (Or.inl rfl)) (pgs_cons (pg_name (i := 6) scAreI.nd rfl (Or.inl rfl)) (pgs_cons (pg_name (i := 7) scAreI.nd rfl (Or.inl rfl)) (pgs_cons (pg_name (i := 8) scAreI.nd rfl (Or.inl rfl)) pgs_nil)))))
          (fun _ _ _ _ _ => pts_nil) (fun _ _ _ _ _ => pv 5))
      (pss_cons (ps_setLc (i := 3) (own := [("opcode", 5), ("name", 6), ("length", 7), ("is_padding", 8)]) (g := gTup K 4 (gCons (gName 5) (gCons (gName 6) (gCons (gName 7) (gCons (gName 8) gNil))))) (tt := tYes) (by rfl) scAreI.nd rfl rfl (sw_true rfl rfl rfl (by decide +kernel)) (pi_tup (pv 1))
          (blkOk_by (own := [("opcode", 5), ("name", 6), ("length", 7), ("is_padding", 8)]) (N := ["byte_count", "value", "opcodes", "names", "item", "opcode", "name", "length", "is_padding"]) (sc := defScope sAreInstr) (by decide +kernel))
          (fun _ _ _ _ _ => pg_tup rfl (pgs_cons (pg_name (i := 5) scAreI.nd rfl (Or.inl rfl)) (pgs_cons (pg_name (i := 6) scAreI.nd rfl (Or.inl rfl)) (pgs_cons (pg_name (i := 7) scAreI.nd rfl (Or.inl rfl)) (pgs_cons (pg_name (i := 8) scAreI.nd rfl (Or.inl rfl)) pgs_nil)))))
          (fun _ _ _ _ _ => pts_nil) (fun _ _ _ _ _ => pv 6))
      (pss_one (ps_ret (pe_and (pe_call GA hr (by rfl) A.gl A.fn.kp A.bi .nil pass0 (pa_cons (pv 2) pa_nil))
        (pe_one (pe_cmpR op_eq (pe_lenSetT (by rfl) (by rfl) T.len (by rfl) T.set (pv 3)) (pe_callB call_len_seq (by rfl) T.len PySem.boot_len (pa_cons (pv 3) pa_nil)) (nomark _))))))))), ?_⟩
    have few := ok.few
    have rl := R.1
    refine ⟨_, rfl, _, _, _, _, _, rfl, .ty _, .base (.tup hit), kit_ty (by decide +kernel : kitB "tuple" "tuple" = some true), _, rfl, ?_⟩
    refine iteF ⟨_, rfl, it, _, rfl, .inr (SqT.of hit), rfl, _, rfl, ?_⟩
    rw [decide_eq_false (fun z => ok.ne (List.eq_nil_of_length_eq_zero (by have := V.int.inj z; rw [List.length_map] at this; omega)))]
    refine iteF ?_
    -- all are instructions
    refine ⟨_, rfl, it, rfl, ⟨_, SqT.of hit⟩, fun D nD => lc_tup (K := K) (a := it) (xs := rs.map V.ref) (fun i H2 => Mk H H2 D ((List.replicate i true).map V.bl)) (.start nD) (fun i H2 _ p => p.same.tup (SqT.of hit)) ?_ ?_⟩
    · intro i x H2 hx mk
      obtain ⟨hi, r, rfl, hr2, _⟩ := rows_at R hx
      refine ⟨rfl, _, rfl, _, rfl, cnt, r, is[i], rfl, mk.same _ _ hr2, ok.ins (List.getElem_mem hi), fun H3 s3 => ⟨_, s3 _ _ mk.at_, (by rw [List.length_map, List.length_replicate]; exact small1000 (by omega)), ?_⟩⟩
      rw [List.replicate_succ', List.map_append]
      exact mk.put s3
    intro H2 mk
    refine ⟨D, _, rfl, SqL.of mk.at_, _, rfl, ?_⟩
    rw [all_true]
    refine iteF ?_
    have s2 := mk.same
    have hit2 := s2 _ _ hit
    have R2 := R.same s2
    clear mk
    -- opcodes
    refine ⟨_, rfl, it, rfl, ⟨_, SqT.of hit2⟩, fun D3 nD3 => lc_tup (K := K) (a := it) (xs := rs.map V.ref) (fun i H3 => Mk H2 H3 D3 (((is.take i).map fun x => (x.op : Int)).map V.int)) (.start nD3) (fun i H3 _ p => p.same.tup (SqT.of hit2)) ?_ ?_⟩
    · intro i x H3 hx mk
      obtain ⟨hi, r, rfl, hr2, _⟩ := rows_at R2 hx
      refine ⟨r, _, rfl, SqT.of (mk.same _ _ hr2), rfl, _, _, rfl, _, _, rfl, _, _, rfl, _, _, rfl, rfl, rfl, _, rfl, _, mk.at_, (by rw [List.length_map, List.length_map, List.length_take]; exact small1000 (by omega)), ?_⟩
      rw [take_more (List.getElem?_eq_getElem hi), List.map_append, List.map_append]
      exact mk.put (Same.refl _)
    intro H3 m3
    rw [List.length_map, rl, List.take_length] at m3
    have s3 := s2.trans m3.same
    have hit3 := s3 _ _ hit
    have R3 := R.same s3
    -- names
    refine ⟨_, rfl, it, rfl, ⟨_, SqT.of hit3⟩, fun D4 nD4 => lc_tup (K := K) (a := it) (xs := rs.map V.ref) (fun i H4 => Mk H3 H4 D4 (((is.take i).map fun x => txt x.nm).map V.str)) (.start nD4) (fun i H4 _ p => p.same.tup (SqT.of hit3)) ?_ ?_⟩
    · intro i x H4 hx mk
      obtain ⟨hi, r, rfl, hr2, _⟩ := rows_at R3 hx
      refine ⟨r, _, rfl, SqT.of (mk.same _ _ hr2), rfl, _, _, rfl, _, _, rfl, _, _, rfl, _, _, rfl, rfl, rfl, _, rfl, _, mk.at_, (by rw [List.length_map, List.length_map, List.length_take]; exact small1000 (by omega)), ?_⟩
      rw [take_more (List.getElem?_eq_getElem hi), List.map_append, List.map_append]
      exact mk.put (Same.refl _)
    intro H4 m4
    rw [List.length_map, rl, List.take_length] at m4
    have h43 := m4.same _ _ m3.at_
    refine ⟨_, rfl, D3, is.map fun x => (x.op : Int), rfl, SqL.of h43, by rw [List.length_map]; omega, ?_, fun H5 s5 => ⟨_, rfl, iteT ?_⟩⟩
    · have := ok.asc
      rw [List.pairwise_map] at this ⊢
      exact this.imp fun z => by omega
    have h54 := s5 _ _ m4.at_
    refine ⟨_, rfl, D4, is.map fun x => txt x.nm, rfl, SqL.of h54, ?_, by rw [List.length_map]; omega, _, rfl, D4, _, rfl, .inl (SqL.of h54), rfl, ?_⟩
    · have := ok.nd
      rw [List.nodup_iff_pairwise_ne, List.pairwise_map] at this ⊢
      exact this.imp fun z y => z (txt_inj y)
    rw [decide_eq_true (by rw [List.length_map, List.length_map, List.length_map])]
    exact q H5 ((s3.trans m4.same).trans s5)
end
end Ov
namespace Ov
open PySem PySem.Spec PyProof.Rows L2
abbrev sInitI : Stmt := inClass cInstructionSet 0
/-! ### the attributes of an instruction set -/
def lenKV (is : List I4) : List (Key × V) := is.map fun x => ((Sum.inl (x.op : Int) : Key), V.int (x.ln : Int))
def nameKV (is : List I4) : List (Key × V) := is.map fun x => ((Sum.inr (txt x.nm) : Key), V.int (x.op : Int))
def flds (cnt : Nat) (it d1 d2 : Addr) : List (Str × V) := putF "opcode_of_name" (.ref d2) (putF "length_of_opcode" (.ref d1) (putF "instructions" (.ref it) (putF "byte_count" (.int (cnt : Int)) [])))
theorem n01 : ¬ (("byte_count" : Str) = "opcode_of_name") := by decide +kernel
theorem n02 : ¬ (("byte_count" : Str) = "length_of_opcode") := by decide +kernel
theorem n03 : ¬ (("byte_count" : Str) = "instructions") := by decide +kernel
theorem n11 : ¬ (("instructions" : Str) = "opcode_of_name") := by decide +kernel
theorem n12 : ¬ (("instructions" : Str) = "length_of_opcode") := by decide +kernel
theorem n21 : ¬ (("length_of_opcode" : Str) = "opcode_of_name") := by decide +kernel
theorem flds_cnt (cnt : Nat) (it d1 d2 : Addr) : (flds cnt it d1 d2).lookup ("byte_count" : Str) = some (.int (cnt : Int)) := by
  unfold flds
  rw [lookup_putF, if_neg n01, lookup_putF, if_neg n02, lookup_putF, if_neg n03, lookup_putF, if_pos rfl]
theorem flds_its (cnt : Nat) (it d1 d2 : Addr) : (flds cnt it d1 d2).lookup ("instructions" : Str) = some (.ref it) := by
  unfold flds
  rw [lookup_putF, if_neg n11, lookup_putF, if_neg n12, lookup_putF, if_pos rfl]
theorem flds_len (cnt : Nat) (it d1 d2 : Addr) : (flds cnt it d1 d2).lookup ("length_of_opcode" : Str) = some (.ref d1) := by
  unfold flds
  rw [lookup_putF, if_neg n21, lookup_putF, if_pos rfl]
theorem flds_nms (cnt : Nat) (it d1 d2 : Addr) : (flds cnt it d1 d2).lookup ("opcode_of_name" : Str) = some (.ref d2) := by
  unfold flds
  rw [lookup_putF, if_pos rfl]
theorem put_fresh {kvs : List (Key × V)} {k : Key} {v : V} (h : k ∉ kvs.map (·.1)) : putK kvs k v = kvs ++ [(k, v)] := by
  unfold putK
  refine if_neg fun z => h ?_
  obtain ⟨q, hq, e⟩ := List.any_eq_true.mp z
  exact List.mem_map.mpr ⟨q, hq, of_decide_eq_true e⟩
/-- an instruction set as it stands -/
structure SetAt (C : Addr) (H : Hp) (p : Addr) (cnt : Nat) (it : Addr) (is : List I4) : Prop where
  ob : ∃ dx d1 d2, H p = some (.ins C dx (flds cnt it d1 d2)) ∧ H d1 = some (.dK (lenKV is)) ∧ H d2 = some (.dK (nameKV is))
theorem SetAt.same {C : Addr} {H H' : Hp} {p : Addr} {cnt : Nat} {it : Addr} {is : List I4} (h : SetAt C H p cnt it is) (s : Same H H') : SetAt C H' p cnt it is := by
  obtain ⟨dx, d1, d2, h1, h2, h3⟩ := h.ob
  exact ⟨dx, d1, d2, s _ _ h1, s _ _ h2, s _ _ h3⟩
/-- what the top says of the class -/
structure SetTxt (K : PySem.W.Frag) (mg : Str → Option Value) (C : Addr) : Prop where
  cl : Cls K C
  nB : NoAttr K C "byte_count"
  nI : NoAttr K C "instructions"
  nL : NoAttr K C "length_of_opcode"
  nO : NoAttr K C "opcode_of_name"
  mgC : mg "InstructionSet" = some (.ref C)
section
variable {P : Program} {w : World} {K : PySem.W.Frag} {mg : Str → Option Value} {base : Heap}
def spInitI (C : Addr) : Sp := fun vs H Q _ => ∃ (p dx : Addr) (cnt lg : Nat) (it : Addr) (rs : List Addr) (is : List I4), vs = [.ref p, .int (cnt : Int), .ref it] ∧ H p = some (.ins C dx []) ∧ H it = some (.tup (rs.map V.ref)) ∧ Rows H rs is ∧ TabOk cnt lg is ∧
  ∀ H', SetAt C H' p cnt it is → (∀ b o, H b = some o → b ≠ p → H' b = some o) → Q .non H'
theorem scInitI : FnScope ["self", "byte_count", "instructions", "opcode", "name", "length", "is_padding"] ["self", "byte_count", "instructions"] (defScope sInitI) := ⟨rfl, rfl, rfl, by decide +kernel, rfl, by decide +kernel, by decide +kernel⟩
theorem ok_initI {f fB fA C : Addr} {fd fdB fdA : FuncData} {k : Nat} (F : Fun K "__init__" "InstructionSet.__init__" sInitI f fd) (T : Bi mg) (S : SetTxt K mg C)
    (B : Def K mg "is_integer_between" sBetween fB fdB ["value", "least", "most"]) (GB : FnOk P w K mg base CX0 k fB fdB ["value", "least", "most"] spBetween)
    (A : Def K mg "are_instructions" sAreInstr fA fdA ["byte_count", "value"]) (GA : FnOk P w K mg base CX0 k fA fdA ["byte_count", "value"] spAreI)
    (m2 : ∃ t, mg "LEAST_BYTE_COUNT" = some (.int 2 t)) (m256 : ∃ t, mg "MOST_BYTE_COUNT" = some (.int 256 t)) : FnOk P w K mg base CX0 (k + 1) f fd ["self", "byte_count", "instructions"] (spInitI C) := by
  obtain ⟨t2, m2⟩ := m2
  obtain ⟨t256, m256⟩ := m256
  refine F.ok scInitI (fun vs H Q E h => ?_) (fun cdv A' outer s H vs Q E hr h => ?_)
  · obtain ⟨p, dx, cnt, lg, it, rs, is, rfl, _⟩ := h
    rfl
  · obtain ⟨p, dx, cnt, lg, it, rs, is, rfl, hp, hit, R, ok, q⟩ := h
    refine ⟨_, pss_cons (ps_if (pt_not (pt_val (pe_call GB hr (by rfl) B.gl B.fn.kp B.bi .nil pass0 (pa_cons (pv 1) (pa_cons (pe_glob (v := .int 2) (by rfl) m2 ⟨_, rfl⟩) (pa_cons (pe_glob (v := .int 256) (by rfl) m256 ⟨_, rfl⟩) pa_nil)))))) (pss_one ps_never) pss_nil)
      (pss_cons (ps_if (pt_not (pt_val (pe_call GA hr (by rfl) A.gl A.fn.kp A.bi .nil pass0 (pa_cons (pv 1) (pa_cons (pv 2) pa_nil))))) (pss_one ps_never) pss_nil)
      (pss_cons (ps_fld (pv 0) (pv 1) rfl)
      (pss_cons (ps_fld (pv 0) (pv 2) rfl)
      (pss_cons (ps_fld (pv 0) (pe_dc (own := [("opcode", 3), ("name", 4), ("length", 5), ("is_padding", 6)]) (g := gTup K 4 (gCons (gName 3) (gCons (gName 4) (gCons (gName 5) (gCons (gName 6) gNil))))) (tt := tYes) (by rfl) scInitI.nd (pi_tup (pv 2))
          (blkOk_by (own := [("opcode", 3), ("name", 4), ("length", 5), ("is_padding", 6)]) (N := ["self", "byte_count", "instructions", "opcode", "name", "length", "is_padding"]) (sc := defScope sInitI) (by decide +kernel))
          (fun _ _ _ _ _ => pg_tup rfl (pgs_cons (pg_name (i := 3) scInitI.nd rfl (Or.inl rfl)) (pgs_cons (pg_name (i := 4) scInitI.nd rfl (Or.inl rfl)) (pgs_cons (pg_name (i := 5) scInitI.nd rfl (Or.inl rfl)) (pgs_cons (pg_name (i := 6) scInitI.nd rfl (Or.inl rfl)) pgs_nil)))))
          (fun _ _ _ _ _ => pts_nil) (fun _ _ _ _ _ => pv 3) (fun _ _ _ _ _ => pv 5)) rfl)
      (pss_one (ps_fld (pv 0) (pe_dc (own := [("opcode", 3), ("name", 4), ("length", 5), ("is_padding", 6)]) (g := gTup K 4 (gCons (gName 3) (gCons (gName 4) (gCons (gName 5) (gCons (gName 6) gNil))))) (tt := tYes) (by rfl) scInitI.nd (pi_tup (pv 2))
          (blkOk_by (own := [("opcode", 3), ("name", 4), ("length", 5), ("is_padding", 6)]) (N := ["self", "byte_count", "instructions", "opcode", "name", "length", "is_padding"]) (sc := defScope sInitI) (by decide +kernel))
          (fun _ _ _ _ _ => pg_tup rfl (pgs_cons (pg_name (i := 3) scInitI.nd rfl (Or.inl rfl)) (pgs_cons (pg_name (i := 4) scInitI.nd rfl (Or.inl rfl)) (pgs_cons (pg_name (i := 5) scInitI.nd rfl (Or.inl rfl)) (pgs_cons (pg_name (i := 6) scInitI.nd rfl (Or.inl rfl)) pgs_nil)))))
          (fun _ _ _ _ _ => pts_nil) (fun _ _ _ _ _ => pv 4) (fun _ _ _ _ _ => pv 3)) rfl)))))), ?_⟩
    have cb := ok.cb
    have few := ok.few
    have rl := R.1
    refine ⟨_, rfl, _, _, _, rfl, by omega, by omega, _, rfl, iteF ?_⟩
    refine ⟨_, rfl, _, rfl, cnt, lg, it, rs, is, rfl, hit, R, ok, fun H1 s1 => ⟨_, rfl, iteF ?_⟩⟩
    have hp1 := s1 _ _ hp
    -- byte_count, instructions
    refine ⟨_, rfl, _, rfl, p, C, dx, [], rfl, hp1, S.cl, S.nB, (by show 0 < 1000; decide), ?_⟩
    refine ⟨_, rfl, _, rfl, p, C, dx, _, rfl, upd_same, S.cl, S.nI, (by show 1 < 1000; decide), ?_⟩
    generalize hH3 : upd (upd H1 p (HO.ins C dx (putF "byte_count" (V.int (cnt : Int)) []))) p (HO.ins C dx (putF "instructions" (V.ref it) (putF "byte_count" (V.int (cnt : Int)) []))) = H3
    have hp3 : H3 p = some (.ins C dx (putF "instructions" (V.ref it) (putF "byte_count" (V.int (cnt : Int)) []))) := by rw [← hH3]; exact upd_same
    have s3 : ∀ b o, H1 b = some o → b ≠ p → H3 b = some o := fun b o e n => by rw [← hH3, upd_ne n, upd_ne n]; exact e
    have itp : it ≠ p := fun z => by rw [z, hp] at hit; cases hit
    have hit3 := s3 _ _ (s1 _ _ hit) itp
    have R3 : Rows H3 rs is := ⟨R.1, fun i r x h1 h2 => s3 _ _ (s1 _ _ (R.2 i r x h1 h2)) fun z => by have := R.2 i r x h1 h2; rw [z, hp] at this; cases this⟩
    clear hH3
    -- lengths by opcodes
    have fresh1 : ∀ (i : Nat) (hi : i < is.length), (Sum.inl ((is[i]).op : Int) : Key) ∉ (lenKV (is.take i)).map (·.1) := fun i hi z => by
      unfold lenKV at z
      rw [List.map_map] at z
      obtain ⟨y, hy, e⟩ := List.mem_map.mp z
      obtain ⟨j, hj, ej⟩ := List.mem_take_iff_getElem.mp hy
      have e' : (y.op : Int) = ((is[i]).op : Int) := Sum.inl.inj e
      have h1 := List.pairwise_iff_getElem.mp ok.asc j i (by rw [List.length_map]; omega) (by rw [List.length_map]; exact hi) (by omega)
      rw [List.getElem_map, List.getElem_map, ej] at h1
      omega
    have fresh2 : ∀ (i : Nat) (hi : i < is.length), (Sum.inr (txt (is[i]).nm) : Key) ∉ (nameKV (is.take i)).map (·.1) := fun i hi z => by
      unfold nameKV at z
      rw [List.map_map] at z
      obtain ⟨y, hy, e⟩ := List.mem_map.mp z
      obtain ⟨j, hj, ej⟩ := List.mem_take_iff_getElem.mp hy
      have e' : txt y.nm = txt (is[i]).nm := Sum.inr.inj e
      have h1 := List.pairwise_iff_getElem.mp (List.nodup_iff_pairwise_ne.mp ok.nd) j i (by rw [List.length_map]; omega) (by rw [List.length_map]; exact hi) (by omega)
      rw [List.getElem_map, List.getElem_map, ej] at h1
      exact h1 (txt_inj e')
    refine ⟨_, rfl, it, rfl, ⟨_, SqT.of hit3⟩, fun D nD => dc_tup (K := K) (a := it) (xs := rs.map V.ref) (fun i H4 => Same H3 H4 ∧ H4 D = some (.dK (lenKV (is.take i)))) ⟨same_upd nD, upd_same⟩ (fun i H4 _ p => p.1.tup (SqT.of hit3)) ?_ ?_⟩
    · rintro i x H4 hx ⟨s4, hD⟩
      obtain ⟨hi, r, rfl, hr2, _⟩ := rows_at R3 hx
      refine ⟨r, _, rfl, SqT.of (s4 _ _ hr2), rfl, _, _, rfl, _, _, rfl, _, _, rfl, _, _, rfl, rfl, rfl, _, rfl, _, rfl, _, Sum.inl ((is[i]).op : Int), rfl, hD, ?_, fun b o e => ?_, ?_⟩
      · unfold lenKV
        rw [List.length_map, List.length_take]
        exact small1000 (by omega)
      · rw [upd_ne (ne_of_none e nD)]
        exact s4 b o e
      · rw [upd_same, put_fresh (fresh1 i hi), take_more (List.getElem?_eq_getElem hi)]
        unfold lenKV
        rw [List.map_append]
        rfl
    rintro H4 ⟨s4, hD⟩
    rw [List.length_map, rl, List.take_length] at hD
    have hDp : D ≠ p := (ne_of_none hp3 nD).symm
    refine ⟨_, rfl, p, C, dx, _, rfl, s4 _ _ hp3, S.cl, S.nL, (by show 2 < 1000; decide), ?_⟩
    generalize hH5 : upd H4 p (HO.ins C dx (putF "length_of_opcode" (V.ref D) (putF "instructions" (V.ref it) (putF "byte_count" (V.int (cnt : Int)) [])))) = H5
    have hp5 : H5 p = some (.ins C dx (putF "length_of_opcode" (V.ref D) (putF "instructions" (V.ref it) (putF "byte_count" (V.int (cnt : Int)) [])))) := by rw [← hH5]; exact upd_same
    have s5 : ∀ b o, H4 b = some o → b ≠ p → H5 b = some o := fun b o e n => by rw [← hH5, upd_ne n]; exact e
    have hD5 := s5 _ _ hD hDp
    have hit5 := s5 _ _ (s4 _ _ hit3) itp
    have R5 : Rows H5 rs is := ⟨R.1, fun i r x h1 h2 => s5 _ _ (s4 _ _ (R3.2 i r x h1 h2)) fun z => by have := R3.2 i r x h1 h2; rw [z, hp3] at this; cases this⟩
    clear hH5
    -- opcodes by names
    refine ⟨_, rfl, it, rfl, ⟨_, SqT.of hit5⟩, fun E2 nE => dc_tup (K := K) (a := it) (xs := rs.map V.ref) (fun i H6 => Same H5 H6 ∧ H6 E2 = some (.dK (nameKV (is.take i)))) ⟨same_upd nE, upd_same⟩ (fun i H6 _ p => p.1.tup (SqT.of hit5)) ?_ ?_⟩
    · rintro i x H6 hx ⟨s6, hE⟩
      obtain ⟨hi, r, rfl, hr2, _⟩ := rows_at R5 hx
      refine ⟨r, _, rfl, SqT.of (s6 _ _ hr2), rfl, _, _, rfl, _, _, rfl, _, _, rfl, _, _, rfl, rfl, rfl, _, rfl, _, rfl, _, Sum.inr (txt (is[i]).nm), rfl, hE, ?_, fun b o e => ?_, ?_⟩
      · unfold nameKV
        rw [List.length_map, List.length_take]
        exact small1000 (by omega)
      · rw [upd_ne (ne_of_none e nE)]
        exact s6 b o e
      · rw [upd_same, put_fresh (fresh2 i hi), take_more (List.getElem?_eq_getElem hi)]
        unfold nameKV
        rw [List.map_append]
        rfl
    rintro H6 ⟨s6, hE⟩
    rw [List.length_map, rl, List.take_length] at hE
    have hEp : E2 ≠ p := (ne_of_none hp5 nE).symm
    refine ⟨_, rfl, p, C, dx, _, rfl, s6 _ _ hp5, S.cl, S.nO, (by show 3 < 1000; decide), ?_⟩
    refine q _ ⟨dx, D, E2, upd_same, ?_, ?_⟩ fun b o e n => ?_
    · rw [upd_ne hDp]; exact s6 _ _ hD5
    · rw [upd_ne hEp]; exact hE
    · rw [upd_ne n]
      exact s6 _ _ (s5 _ _ (s4 _ _ (s3 _ _ (s1 _ _ e) n)) n)
end
end Ov
namespace Ov
open PySem PySem.Spec PyProof.Rows L2
/-- a part of the heap, and what was laid beside it -/
structure Grow (T H T' H' : Hp) : Prop where
  hh : Same H H'
  tt : Same T T'
  th : Same T' H'
  new : ∀ b, T b = none → H b ≠ none → T' b = none
theorem Grow.refl {T H : Hp} (h : Same T H) : Grow T H T H := ⟨Same.refl _, Same.refl _, h, fun _ e _ => e⟩
theorem Grow.put {T H T' H' : Hp} (g : Grow T H T' H') {p : Addr} (o : HO) (n : H' p = none) : Grow T H (upd T' p o) (upd H' p o) := by
  refine ⟨g.hh.trans (same_upd n), g.tt.trans (same_upd ?_), fun b x e => ?_, fun b e h => ?_⟩
  · cases q : T' p with
    | none => rfl
    | some x => rw [g.th _ _ q] at n; cases n
  · by_cases hb : b = p
    · subst hb
      rw [upd_same] at e ⊢
      exact e
    · rw [upd_ne hb] at e ⊢
      exact g.th _ _ e
  · by_cases hb : b = p
    · subst hb
      cases q : H b with
      | none => exact absurd q h
      | some x => rw [g.hh _ _ q] at n; cases n
    · rw [upd_ne hb]
      exact g.new b e h
theorem Grow.trans {T H T1 H1 T2 H2 : Hp} (a : Grow T H T1 H1) (b : Grow T1 H1 T2 H2) : Grow T H T2 H2 :=
  ⟨a.hh.trans b.hh, a.tt.trans b.tt, b.th, fun c e h => b.new c (a.new c e h) fun z => by
    cases q : H c with
    | none => exact h q
    | some x => rw [a.hh _ _ q] at z; cases z⟩
theorem none_of {T H : Hp} {l : Addr} (s : Same T H) (n : H l = none) : T l = none := by
  cases z : T l with
  | none => rfl
  | some x => rw [s _ _ z] at n; cases n
end Ov
namespace Ov
open PySem PySem.Spec PyProof.Rows L2
/-! ### lists of data put together -/
theorem showableAll_app : ∀ a b : List PyData, PyData.showableAll (a ++ b) = (PyData.showableAll a && PyData.showableAll b)
  | [], b => by simp [PyData.showableAll]
  | x :: a, b => by simp [PyData.showableAll, showableAll_app a b, Bool.and_assoc]
theorem hasDictAll_app : ∀ a b : List PyData, PyData.hasDictAll (a ++ b) = (PyData.hasDictAll a || PyData.hasDictAll b)
  | [], b => by simp [PyData.hasDictAll]
  | x :: a, b => by simp [PyData.hasDictAll, hasDictAll_app a b, Bool.or_assoc]
theorem noListAll_app : ∀ a b : List PyData, noListAll (a ++ b) = (noListAll a && noListAll b)
  | [], b => by simp [noListAll]
  | x :: a, b => by simp [noListAll, noListAll_app a b, Bool.and_assoc]
theorem depthAll_app : ∀ a b : List PyData, PyData.depthAll (a ++ b) = max (PyData.depthAll a) (PyData.depthAll b)
  | [], b => by simp [PyData.depthAll]
  | x :: a, b => by simp [PyData.depthAll, depthAll_app a b] <;> omega
theorem nodesAll_app : ∀ a b : List PyData, nodesAll (a ++ b) = nodesAll a + nodesAll b
  | [], b => by simp [nodesAll]
  | x :: a, b => by simp [nodesAll, nodesAll_app a b] <;> omega
theorem noListAll_ints : ∀ ns : List Int, noListAll (ns.map PyData.int) = true
  | [] => by simp [noListAll]
  | n :: ns => by simp [noListAll, noList, noListAll_ints ns]
/-- what can be shown as a part -/
structure ShowsAll (ds : List PyData) (n : Nat) : Prop where
  sh : PyData.showableAll ds = true
  nl : PyData.hasDictAll ds = true → noListAll ds = true
  dep : PyData.depthAll ds ≤ 50
  nd : nodesAll ds ≤ n
theorem ShowsAll.tup {ds : List PyData} {n : Nat} (h : ShowsAll ds n) (hn : n ≤ 7999) : Shows (.tuple ds) :=
  ⟨by simp only [PyData.showable]; exact h.sh, fun z => by simp only [noList]; exact h.nl (by simpa only [PyData.hasDict] using z), by simp only [PyData.depth]; have := h.dep; omega, by simp only [nodes]; have := h.nd; omega⟩
theorem ints_show {ns : List Int} (h : ∀ n ∈ ns, n.natAbs < 2 ^ 1000) : ShowsAll (ns.map PyData.int) ns.length := by
  have f := flat_ints h
  exact ⟨f.sh, fun _ => noListAll_ints _, by rw [f.dep]; decide, by rw [f.nds, List.length_map]; exact Nat.le_refl _⟩
/-- ints, a thing, ints -/
theorem odd_show {a b : List Int} {d : PyData} (ha : ∀ n ∈ a, n.natAbs < 2 ^ 1000) (hb : ∀ n ∈ b, n.natAbs < 2 ^ 1000) (S : Shows d) (dep : d.depth ≤ 50) : ShowsAll (a.map PyData.int ++ [d] ++ b.map PyData.int) (a.length + nodes d + b.length) := by
  have fa := flat_ints ha
  have fb := flat_ints hb
  refine ⟨?_, fun z => ?_, ?_, ?_⟩
  · rw [showableAll_app, showableAll_app, fa.sh, fb.sh]
    simp [PyData.showableAll, S.sh]
  · rw [hasDictAll_app, hasDictAll_app, fa.nod, fb.nod] at z
    have z' : d.hasDict = true := by simpa [PyData.hasDictAll] using z
    rw [noListAll_app, noListAll_app, noListAll_ints, noListAll_ints]
    simp [noListAll, S.nl z']
  · rw [depthAll_app, depthAll_app, fa.dep, fb.dep]
    simp [PyData.depthAll]
    omega
  · rw [nodesAll_app, nodesAll_app, fa.nds, fb.nds]
    simp [nodesAll]
theorem shows_int {i : Int} (h : i.natAbs < 2 ^ 1000) : Shows (.int i) := by
  have f := flat_ints (ns := [i]) (fun n hn => by rw [List.mem_singleton.mp hn]; exact h)
  refine ⟨by have := f.sh; simpa [PyData.showableAll] using this, fun z => by simp [PyData.hasDict] at z, by simp [PyData.depth], by simp [nodes]⟩
theorem shows_bool (b : Bool) : Shows (.bool b) := ⟨by simp [PyData.showable], fun z => by simp [PyData.hasDict] at z, by simp [PyData.depth], by simp [nodes]⟩
theorem shows_none : Shows .none := ⟨by simp [PyData.showable], fun z => by simp [PyData.hasDict] at z, by simp [PyData.depth], by simp [nodes]⟩
theorem shows_str {x : Str} (h : (reprText x).length ≤ 100) : Shows (.str x) := ⟨by simp [PyData.showable], fun z => by simp [PyData.hasDict] at z, by simp [PyData.depth], by simp [nodes]; omega⟩
theorem dict0_nodes : nodes (.dict []) ≤ 100 := by
  simp only [nodes, PyData.shownKv]
  decide +kernel
theorem shows_dict : Shows (.dict []) := ⟨by simp [PyData.showable, PyData.showableKv], fun _ => by simp [noList], by simp [PyData.depth, PyData.depthKv], Nat.le_trans dict0_nodes (by decide)⟩
theorem shows_nil : Shows (.list []) := ⟨by simp [PyData.showable, PyData.showableAll], fun z => by simp [PyData.hasDict, PyData.hasDictAll] at z, by simp [PyData.depth, PyData.depthAll], by simp [nodes, nodesAll]⟩
/-- parts of tuples -/
theorem cut_from (k : Nat) (xs : List V) : cutV xs (some (k : Int)) none = xs.drop k := by
  unfold cutV
  rw [show HT.sIx xs.length 0 (some (k : Int)) = min k xs.length from HT.sIx_nat xs.length 0 k, HT.sIx_none]
  rcases Nat.le_total k xs.length with c | c
  · rw [Nat.min_eq_left c]
    exact List.take_of_length_le (by rw [List.length_drop]; exact Nat.le_refl _)
  · rw [Nat.min_eq_right c, List.drop_of_length_le c, List.drop_of_length_le (Nat.le_refl _), List.take_nil]
theorem cut_to (k : Nat) (xs : List V) : cutV xs none (some (k : Int)) = xs.take k := by
  unfold cutV
  rw [show HT.sIx xs.length xs.length (some (k : Int)) = min k xs.length from HT.sIx_nat xs.length xs.length k, HT.sIx_none, List.drop_zero, Nat.sub_zero]
  rcases Nat.le_total k xs.length with c | c
  · rw [Nat.min_eq_left c]
  · rw [Nat.min_eq_right c, List.take_length, List.take_of_length_le c]
theorem cut_all {xs : List V} {lo hi : Option Int} (h : HT.sIx xs.length 0 lo = 0 ∧ HT.sIx xs.length xs.length hi = xs.length) : cutV xs lo hi = xs := by
  unfold cutV
  rw [h.1, h.2, List.drop_zero, Nat.sub_zero, List.take_length]
section
variable {K : PySem.W.Frag} {T H : Hp} {Q : VK}
theorem cat_x {a b : Addr} {xs ys : List V} (st : Same T H) (ha : SqT K T a xs) (hb : SqT K T b ys) (hl : xs.length + ys.length ≤ sizeLine) (q : ∀ l H' T', Grow T H T' H' → SqT K T' l (xs ++ ys) → Q (.ref l) H') : rCatA K (.ref a) (.ref b) H Q := by
  refine ⟨a, b, xs, ys, rfl, rfl, st.tup ha, st.tup hb, hl, fun e => ?_, fun _ e => ?_, fun _ _ p np => ?_⟩
  · subst e
    exact q b H T (.refl st) hb
  · subst e
    exact q a H T (.refl st) (by rw [List.append_nil]; exact ha)
  · exact q p _ _ ((Grow.refl st).put _ np) (SqT.of upd_same)
theorem cut_x {a : Addr} {xs : List V} {lo hi : Option Int} (st : Same T H) (ha : SqT K T a xs) (q : ∀ l H' T', Grow T H T' H' → SqT K T' l (cutV xs lo hi) → Q (.ref l) H') : rSlA K (.ref a) lo hi H Q := by
  refine ⟨a, xs, rfl, st.tup ha, fun e => ?_, fun _ p np => ?_⟩
  · exact q a H T (.refl st) (by rw [cut_all e]; exact ha)
  · exact q p _ _ ((Grow.refl st).put _ np) (SqT.of upd_same)
end
end Ov
namespace Ov
open PySem PySem.Spec PyProof.Rows L2
theorem SetAt.but {C : Addr} {H H' : Hp} {x p : Addr} {cnt n : Nat} {it : Addr} {is : List I4} (h : SetAt C H x cnt it is) (b : But p H H') (B : BoxAt H p n) : SetAt C H' x cnt it is := by
  obtain ⟨dx, d1, d2, h1, h2, h3⟩ := h.ob
  obtain ⟨_, _, _, e, _⟩ := B
  refine ⟨dx, d1, d2, b _ _ h1 ?_, b _ _ h2 ?_, b _ _ h3 ?_⟩
  · intro z; rw [z, e] at h1; cases h1
  · intro z; rw [z, e] at h2; cases h2
  · intro z; rw [z, e] at h3; cases h3
end Ov
namespace Ov
open PySem PySem.Spec PyProof.Rows L2
/-! ### lengths by opcodes -/
abbrev sLenAt : Stmt := inClass cInstructionSet 4
def laOf (is : List I4) (b : Int) : Nat := match is.find? (fun x => decide ((x.op : Int) = b)) with
  | some x => x.ln
  | none => 0
theorem val_len (is : List I4) (b : Int) : (valV (lenKV is) (Sum.inl b : Key)).getD (V.int 0) = V.int (laOf is b : Int) := by
  unfold valV lenKV laOf
  induction is with
  | nil => rfl
  | cons x is ih =>
    rw [List.map_cons, List.find?_cons, List.find?_cons]
    by_cases h : (x.op : Int) = b
    · subst h; simp
    · rw [decide_eq_false h, decide_eq_false (fun z => h (Sum.inl.inj z))]
      exact ih
theorem la_le {cnt lg : Nat} {is : List I4} (ok : TabOk cnt lg is) (b : Int) : laOf is b ≤ 12 := by
  unfold laOf
  cases e : is.find? (fun x => decide ((x.op : Int) = b)) with
  | none => exact Nat.zero_le _
  | some x =>
    have := ok.len x (List.mem_of_find?_eq_some e)
    have := ok.lb
    show x.ln ≤ 12
    omega
def natV (n : Nat) : V := .int (n : Int)
section
variable {P : Program} {w : World} {K : PySem.W.Frag} {mg : Str → Option Value} {base : Heap}
/-! ### length_at -/
def spLenAt (C : Addr) : Sp := fun vs H Q _ => ∃ (p it : Addr) (cnt : Nat) (is : List I4) (b : Int), vs = [.ref p, .int b] ∧ SetAt C H p cnt it is ∧ Q (.int (laOf is b : Int)) H
theorem scLenAt : FnScope ["self", "byte"] ["self", "byte"] (defScope sLenAt) := ⟨rfl, rfl, rfl, by decide +kernel, rfl, by decide +kernel, by decide +kernel⟩
theorem ok_lenAt {f C : Addr} {fd : FuncData} {k : Nat} (F : Fun K "length_at" "InstructionSet.length_at" sLenAt f fd) (S : SetTxt K mg C) : FnOk P w K mg base CX0 (k + 1) f fd ["self", "byte"] (spLenAt C) := by
  refine F.ok scLenAt (fun vs H Q E h => ?_) (fun cdv A' outer s H vs Q E hr h => ?_)
  · obtain ⟨p, it, cnt, is, b, rfl, _⟩ := h
    rfl
  · obtain ⟨p, it, cnt, is, b, rfl, SA, q⟩ := h
    refine ⟨_, pss_one (ps_ret (pe_dget2 (hu_of hr) (pe_fld (pv 0) rfl) (pv 1) pe_int ⟨rfl, rfl, rfl, rfl⟩)), ?_⟩
    obtain ⟨dx, d1, d2, hp, h1, h2⟩ := SA.ob
    refine ⟨_, rfl, p, C, dx, _, _, rfl, hp, S.cl, S.nL, flds_len _ _ _ _, d1, rfl, .inl ⟨_, .inl h1⟩, _, rfl, _, DGet.k (k := Sum.inl b) h1, ?_⟩
    rw [val_len]
    exact q
/-! ### walk -/
def spWalk (K : PySem.W.Frag) (C : Addr) : Sp := fun vs H Q _ => ∃ (p it c : Addr) (cnt : Nat) (is : List I4) (bs : List Int) (e : Nat), vs = [.ref p, .ref c, .int (e : Int)] ∧ SetAt C H p cnt it is ∧ SqT K H c (bs.map V.int) ∧ bs.length ≤ 100000 ∧
  ∀ H' r l begun fol, Same H H' → Ended (laOf is) bs e begun fol → H r = none → H' r = some (.tup [.ref l, .int (fol : Int)]) → H' l = some (.lst (begun.map natV)) → begun.length ≤ bs.length → Q (.ref r) H'
theorem scWalk : FnScope ["instruction_set", "code", "entry", "begun", "offset"] ["instruction_set", "code", "entry"] (defScope sWalk) := ⟨rfl, rfl, rfl, by decide +kernel, rfl, by decide +kernel, by decide +kernel⟩
def offOf (n : Nat) (σ : L2.St) : Nat := match σ with
  | [_, _, _, _, some (.int o)] => n - o.toNat
  | _ => 0
theorem no_meth (cnt : Nat) (it d1 d2 : Addr) : (flds cnt it d1 d2).lookup ("length_at" : Str) = none := by
  unfold flds
  rw [lookup_putF, if_neg (by decide +kernel), lookup_putF, if_neg (by decide +kernel), lookup_putF, if_neg (by decide +kernel), lookup_putF, if_neg (by decide +kernel)]
  rfl
theorem ok_walk {f fL C : Addr} {fd fdL : FuncData} {k : Nat} (F : Fun K "walk" "walk" sWalk f fd) (T : Bi mg) (S : SetTxt K mg C)
    (ML : Meth K C "length_at" fL) (bL : Binds K fdL ["self", "byte"] []) (GL : FnOk P w K mg base CX0 k fL fdL ["self", "byte"] (spLenAt C)) :
    FnOk P w K mg base CX0 (k + 1) f fd ["instruction_set", "code", "entry"] (spWalk K C) := by
  refine F.ok scWalk (fun vs H Q E h => ?_) (fun cdv A' outer s H vs Q E hr h => ?_)
  · obtain ⟨p, it, c, cnt, is, bs, e, rfl, _⟩ := h
    rfl
  · obtain ⟨p, it, c, cnt, is, bs, e, rfl, SA, hc, hb, q⟩ := h
    refine ⟨_, pss_cons (ps_set (i := 3) scWalk.nd rfl (.inl rfl) (pe_lst pa_nil))
      (pss_cons (ps_set (i := 4) scWalk.nd rfl (.inl rfl) (pv 2))
      (pss_cons (ps_while PassesOwn.never (PW.pt (pw_and (pt_cmpR op_lt (pv 4) (pe_callB call_len_seq (by rfl) T.len PySem.boot_len (pa_cons (pv 1) pa_nil)) (nomark _))
          (pw_and1 (pt_cmpR op_gt (pe_meth (pv 0) S.cl ML GL hr bL .nil pass0 (pa_cons (pe_ix ix_tup (pv 1) (pv 4) (fun _ _ => rfl)) pa_nil)) pe_int (nomark _)))))
        (pss_cons (ps_expr (pe_bm PySem.F.plainAttrs_list PySem.F.slot_list_append PySem.F.type_list_append mt_append (pv 3) (pa_cons (pv 4) pa_nil)))
        (pss_one (ps_aug (i := 4) scWalk.nd rfl (.inl rfl) (pe_meth (pv 0) S.cl ML GL hr bL .nil pass0 (pa_cons (pe_ix ix_tup (pv 1) (pv 4) (fun _ _ => rfl)) pa_nil)) ip_add))))
      (pss_one (ps_ret (pe_tup (pa_cons (pv 3) (pa_cons (pv 4) pa_nil))))))), ?_⟩
    refine ⟨Nat.zero_le _, fun l nl => ⟨_, rfl, ?_⟩⟩
    refine while_by (fun σ H2 => ∃ (begun : List Nat) (o : Nat), σ = [some (.ref p), some (.ref c), some (.int (e : Int)), some (.ref l), some (.int (o : Int))] ∧ Mk H H2 l (begun.map natV) ∧ Going (laOf is) bs e begun o) (fun σ _ => offOf bs.length σ)
      ⟨[], e, rfl, .start nl, Going.start bs e⟩ ?_ ?_
    · rintro σ H2 ⟨begun, o, rfl, mk, g⟩
      have c2 := mk.same.tup hc
      have SA2 := SA.same mk.same
      obtain ⟨dx, d1, d2, hp, _, _⟩ := SA2.ob
      have few := g.few
      have bl : begun.length ≤ bs.length := by omega
      refine ⟨_, rfl, _, rfl, c, _, rfl, .inr c2, _, _, rfl, rfl, _, rfl, ?_⟩
      rw [List.length_map]
      have fin : Ended (laOf is) bs e begun o → ∀ r, H2 r = none → Q (.ref r) (upd H2 r (.tup [.ref l, .int (o : Int)])) := fun en r nr => by
        have s := same_upd (o := HO.tup [.ref l, .int (o : Int)]) nr
        exact q _ r l begun o (mk.same.trans s) en (mk.same.free nr) upd_same (s _ _ mk.at_) bl
      by_cases h1 : (o : Int) < (bs.length : Int)
      · rw [decide_eq_true h1]
        have ho : o < bs.length := by omega
        have hb' : bs[o]? = some bs[o] := List.getElem?_eq_getElem ho
        have iv : atI (bs.map V.int) (o : Int) = some (.int bs[o]) := atI_nat (by rw [List.getElem?_map, hb']; rfl)
        refine iteT ⟨_, rfl, p, dx, _, rfl, hp, no_meth _ _ _ _, _, rfl, _, rfl, c, _, _, _, rfl, rfl, c2, iv, p, it, cnt, is, bs[o], rfl, SA2, _, _, rfl, rfl, _, rfl, ?_⟩
        by_cases h2 : (0 : Int) < (laOf is bs[o] : Int)
        · rw [decide_eq_true h2]
          refine iteT ⟨_, rfl, .inl ⟨rfl, _, SqL.of mk.at_⟩, _, rfl, l, _, _, rfl, rfl, mk.at_, by rw [List.length_map, sizeLine_eq]; omega, ?_⟩
          have mk3 := mk.put (acc' := begun.map natV ++ [V.int (o : Int)]) (Same.refl _)
          obtain ⟨dx3, d13, d23, hp3, _, _⟩ := (SA.same mk3.same).ob
          refine ⟨_, rfl, _, rfl, p, dx3, _, rfl, hp3, no_meth _ _ _ _, _, rfl, _, rfl, c, _, _, _, rfl, rfl, mk3.same.tup hc, iv, p, it, cnt, is, bs[o], rfl, SA.same mk3.same, _, _, rfl, rfl, ⟨begun ++ [o], o + laOf is bs[o], rfl, by rw [List.map_append]; exact mk3, g.step hb' (by omega)⟩, ?_⟩
          show bs.length - ((o : Int) + (laOf is bs[o] : Int)).toNat < bs.length - (o : Int).toNat
          omega
        · rw [decide_eq_false h2]
          exact iteF ⟨_, rfl, _, rfl, by show 2 ≤ sizeLine; decide, fun r nr => fin (g.stop hb' (by omega)) r nr⟩
      · rw [decide_eq_false h1]
        exact iteF (iteF ⟨_, rfl, _, rfl, by show 2 ≤ sizeLine; decide, fun r nr => fin (g.over (by omega)) r nr⟩)
    · rintro σ H2 Q1 Q2 hQ ⟨v, h1, v2, h2, a, xs, h3, h4, i, j, h5, h6, b, h7, h8⟩
      refine ⟨v, h1, v2, h2, a, xs, h3, h4, i, j, h5, h6, b, h7, ?_⟩
      revert h8
      cases b with
      | false => exact fun h8 => hQ _ _ h8
      | true =>
        rintro ⟨x1, e1, a1, dx1, f1, e2, e3, e4, x2, e5, x3, e6, c1, y1, y2, y3, e7, e8, e9, e10, p1, it1, cnt1, is1, b1, e11, e12, i1, j1, e13, e14, b2, e15, h9⟩
        exact ⟨x1, e1, a1, dx1, f1, e2, e3, e4, x2, e5, x3, e6, c1, y1, y2, y3, e7, e8, e9, e10, p1, it1, cnt1, is1, b1, e11, e12, i1, j1, e13, e14, b2, e15, hQ _ _ h9⟩
end
end Ov
namespace Ov
open PySem PySem.Spec PyProof.Rows L2
abbrev sLongest : Stmt := inClass cInstructionSet 2
/-! ### the longest length -/
def lonOf (is : List I4) : Nat := (is.map I4.ln).foldl max 0
theorem fmax_ge : ∀ (l : List Nat) (a : Nat), a ≤ l.foldl max a ∧ ∀ x ∈ l, x ≤ l.foldl max a
  | [], a => ⟨Nat.le_refl _, fun _ h => nomatch h⟩
  | y :: l, a => by
    obtain ⟨h1, h2⟩ := fmax_ge l (max a y)
    refine ⟨Nat.le_trans (Nat.le_max_left _ _) h1, fun x hx => ?_⟩
    rcases List.mem_cons.mp hx with rfl | hx
    · exact Nat.le_trans (Nat.le_max_right _ _) h1
    · exact h2 x hx
theorem fmax_le : ∀ (l : List Nat) (a m : Nat), a ≤ m → (∀ x ∈ l, x ≤ m) → l.foldl max a ≤ m
  | [], a, m, h, _ => h
  | y :: l, a, m, h, hl => fmax_le l (max a y) m (Nat.max_le.mpr ⟨h, hl y List.mem_cons_self⟩) fun x hx => hl x (List.mem_cons_of_mem _ hx)
theorem lon_eq {is : List I4} {m : Int} (h1 : m ∈ is.map (fun x => (x.ln : Int))) (h2 : ∀ y ∈ is.map (fun x => (x.ln : Int)), y ≤ m) : m = (lonOf is : Int) := by
  obtain ⟨x, hx, rfl⟩ := List.mem_map.mp h1
  have g := (fmax_ge (is.map I4.ln) 0).2 x.ln (List.mem_map.mpr ⟨x, hx, rfl⟩)
  have l := fmax_le (is.map I4.ln) 0 x.ln (Nat.zero_le _) fun y hy => by
    obtain ⟨z, hz, rfl⟩ := List.mem_map.mp hy
    have := h2 (z.ln : Int) (List.mem_map.mpr ⟨z, hz, rfl⟩)
    omega
  unfold lonOf
  omega
theorem lon_le {cnt lg : Nat} {is : List I4} (ok : TabOk cnt lg is) : 1 ≤ lonOf is ∧ lonOf is ≤ 12 := by
  constructor
  · cases e : is with
    | nil => exact absurd e ok.ne
    | cons x r =>
      have h := (ok.len x (by rw [e]; exact List.mem_cons_self)).1
      have g := (fmax_ge ((x :: r).map I4.ln) 0).2 x.ln (List.mem_map.mpr ⟨x, List.mem_cons_self, rfl⟩)
      unfold lonOf
      omega
  · refine fmax_le (is.map I4.ln) 0 12 (by decide) fun y hy => ?_
    obtain ⟨z, hz, rfl⟩ := List.mem_map.mp hy
    have := (ok.len z hz).2
    have := ok.lb
    omega
/-- an instruction set with its rows -/
structure Mach (C : Addr) (H : Hp) (p : Addr) (cnt lg : Nat) (it : Addr) (is : List I4) (rs : List Addr) : Prop where
  at_ : SetAt C H p cnt it is
  its : H it = some (.tup (rs.map V.ref))
  rows : Rows H rs is
  ok : TabOk cnt lg is
theorem Mach.same {C : Addr} {H H' : Hp} {p : Addr} {cnt lg : Nat} {it : Addr} {is : List I4} {rs : List Addr} (h : Mach C H p cnt lg it is rs) (s : Same H H') : Mach C H' p cnt lg it is rs := ⟨h.at_.same s, s _ _ h.its, h.rows.same s, h.ok⟩
theorem Mach.but {C : Addr} {H H' : Hp} {x p : Addr} {cnt lg n : Nat} {it : Addr} {is : List I4} {rs : List Addr} (h : Mach C H x cnt lg it is rs) (b : But p H H') (B : BoxAt H p n) : Mach C H' x cnt lg it is rs := ⟨h.at_.but b B, b _ _ h.its (ne_box B h.its), h.rows.but b B, h.ok⟩
section
variable {P : Program} {w : World} {K : PySem.W.Frag} {mg : Str → Option Value} {base : Heap}
/-! ### longest -/
def spLongest (C : Addr) : Sp := fun vs H Q _ => ∃ (p it : Addr) (cnt lg : Nat) (is : List I4) (rs : List Addr), vs = [.ref p] ∧ Mach C H p cnt lg it is rs ∧ ∀ H', Same H H' → Q (.int (lonOf is : Int)) H'
theorem scLongest : FnScope ["self", "opcode", "name", "length", "is_padding"] ["self"] (defScope sLongest) := ⟨rfl, rfl, rfl, by decide +kernel, rfl, by decide +kernel, by decide +kernel⟩
theorem ok_longest {f C : Addr} {fd : FuncData} {k : Nat} (F : Fun K "longest" "InstructionSet.longest" sLongest f fd) (T : Bi mg) (S : SetTxt K mg C) : FnOk P w K mg base CX0 (k + 1) f fd ["self"] (spLongest C) := by
  refine F.ok scLongest (fun vs H Q E h => ?_) (fun cdv A' outer s H vs Q E hr h => ?_)
  · obtain ⟨p, it, cnt, lg, is, rs, rfl, _⟩ := h
    rfl
  · obtain ⟨p, it, cnt, lg, is, rs, rfl, M, q⟩ := h
    refine ⟨_, pss_one (ps_ret (pe_callB (cr_max rfl) (by rfl) T.max (by decide +kernel) (pa_cons (pe_lc (own := [("opcode", 1), ("name", 2), ("length", 3), ("is_padding", 4)]) (g := gTup K 4 (gCons (gName 1) (gCons (gName 2) (gCons (gName 3) (gCons (gName 4) gNil))))) (tt := tYes) (by rfl) scLongest.nd (pi_tup (pe_fld (pv 0) rfl))
          (blkOk_by (own := [("opcode", 1), ("name", 2), ("length", 3), ("is_padding", 4)]) (N := ["self", "opcode", "name", "length", "is_padding"]) (sc := defScope sLongest) (by decide +kernel))
          (fun _ _ _ _ _ => pg_tup rfl (pgs_cons (pg_name (i := 1) scLongest.nd rfl (Or.inl rfl)) (pgs_cons (pg_name (i := 2) scLongest.nd rfl (Or.inl rfl)) (pgs_cons (pg_name (i := 3) scLongest.nd rfl (Or.inl rfl)) (pgs_cons (pg_name (i := 4) scLongest.nd rfl (Or.inl rfl)) pgs_nil)))))
          (fun _ _ _ _ _ => pts_nil) (fun _ _ _ _ _ => pv 3)) pa_nil))), ?_⟩
    obtain ⟨dx, d1, d2, hp, h1, h2⟩ := M.at_.ob
    have hit := M.its
    have rl := M.rows.1
    have few := M.ok.few
    have ne : 0 < is.length := List.length_pos_iff.mpr M.ok.ne
    refine ⟨_, rfl, p, C, dx, _, _, rfl, hp, S.cl, S.nI, flds_its _ _ _ _, it, rfl, ⟨_, SqT.of hit⟩, fun D nD => lc_tup (K := K) (a := it) (xs := rs.map V.ref) (fun i H2 => Mk H H2 D (((is.take i).map fun x => (x.ln : Int)).map V.int)) (.start nD) (fun i H2 _ p => p.same.tup (SqT.of hit)) ?_ ?_⟩
    · intro i x H2 hx mk
      obtain ⟨hi, r, rfl, hr2, _⟩ := rows_at M.rows hx
      refine ⟨r, _, rfl, SqT.of (mk.same _ _ hr2), rfl, _, _, rfl, _, _, rfl, _, _, rfl, _, _, rfl, rfl, rfl, _, rfl, _, mk.at_, (by rw [List.length_map, List.length_map, List.length_take]; exact small1000 (by omega)), ?_⟩
      rw [take_more (List.getElem?_eq_getElem hi), List.map_append, List.map_append]
      exact mk.put (Same.refl _)
    intro H2 mk
    rw [List.length_map, rl, List.take_length] at mk
    refine ⟨D, _, rfl, SqL.of mk.at_, by rw [List.length_map]; exact ne, fun m m1 m2 => ?_⟩
    rw [lon_eq m1 m2]
    exact q H2 mk.same
end
theorem no_meth2 (cnt : Nat) (it d1 d2 : Addr) : (flds cnt it d1 d2).lookup ("longest" : Str) = none := by
  unfold flds
  rw [lookup_putF, if_neg (by decide +kernel), lookup_putF, if_neg (by decide +kernel), lookup_putF, if_neg (by decide +kernel), lookup_putF, if_neg (by decide +kernel)]
  rfl
end Ov
namespace Ov
open PySem PySem.Spec PyProof.Rows L2
abbrev sPadLens : Stmt := inClass cInstructionSet 3
/-! ### a set of ints by a comprehension over a tuple -/
theorem sc_tupI {w : World} {K : PySem.W.Frag} {a : Addr} {xs : List V} {g : TG} {tt : TT} {te : TE} {vs : List Nat} {σ : L2.St} {H1 : Hp} {D : Addr} {Qd : Hp → Prop} (Pv : Nat → Hp → Prop) (h0 : Pv 0 (upd H1 D (SetO w D (fun _ => false) 0))) (stays : ∀ i G, i ≤ xs.length → Pv i G → SqT K G a xs)
    (turn : ∀ i x G, xs[i]? = some x → Pv i G → TurnI w D g tt te (wipe σ vs) vs x G (Pv (i + 1))) (done : ∀ G, Pv xs.length G → Qd G) :
    ∃ W : Nat → Nat → Hp → Prop, (∃ m, W 0 m (upd H1 D (SetO w D (fun _ => false) 0))) ∧ ∀ i m G, W i m G → ((Itt K a).stop i G ∧ Qd G) ∨ ((Itt K a).go i G ∧ ∃ N : Hp → Prop, (∀ G', N G' → ∃ m', m' < m ∧ W (i + 1) m' G') ∧ ∀ x G', (Itt K a).yld i G x G' → TurnI w D g tt te (wipe σ vs) vs x G' N) := by
  refine ⟨fun i m G => m + i = xs.length ∧ Pv i G, ⟨xs.length, rfl, h0⟩, ?_⟩
  rintro i m G ⟨e, p⟩
  have st := stays i G (by omega) p
  rcases Nat.lt_or_ge i xs.length with lt | ge
  · refine .inr ⟨⟨xs, xs[i], st, List.getElem?_eq_getElem lt⟩, Pv (i + 1), fun G' p' => ⟨m - 1, by omega, by omega, p'⟩, ?_⟩
    rintro x G' ⟨rfl, y⟩
    exact turn i x _ (y xs st) p
  · obtain rfl : i = xs.length := by omega
    exact .inl ⟨⟨xs, st, Nat.le_refl _⟩, done G p⟩
/-! ### lengths of padding -/
structure PadL (is : List I4) (ns : List Int) : Prop where
  asc : ns.Pairwise (· < ·)
  mem : ∀ k : Int, k ∈ ns ↔ ∃ x ∈ is, x.pad = true ∧ (x.ln : Int) = k
theorem nodup_lenF : ∀ (L : Nat) (hs : List Nat), hs.Nodup → (∀ h ∈ hs, h < L) → hs.length ≤ L
  | 0, [], _, _ => Nat.le_refl _
  | 0, h :: _, _, b => absurd (b h List.mem_cons_self) (Nat.not_lt_zero _)
  | L + 1, hs, nd, b => by
    have ih := nodup_lenF L (hs.erase L) (nd.erase L) fun h hh => by
      have z := (nd.mem_erase_iff).mp hh
      have := b h z.2
      have := z.1
      omega
    by_cases m : L ∈ hs
    · rw [List.length_erase_of_mem m] at ih
      omega
    · rw [List.erase_of_not_mem m] at ih
      omega
theorem PadL.lens {cnt lg : Nat} {is : List I4} {ns : List Int} (ok : TabOk cnt lg is) (h : PadL is ns) (few : ns.length ≤ 50) : Lens ns :=
  ⟨few, fun n hn => by
    obtain ⟨x, hx, _, rfl⟩ := (h.mem n).mp hn
    have := ok.len x hx
    have := ok.lb
    omega, h.asc⟩
section
variable {P : Program} {w : World} {K : PySem.W.Frag} {mg : Str → Option Value} {base : Heap}
def spPadLens (C : Addr) : Sp := fun vs H Q _ => ∃ (p it : Addr) (cnt lg : Nat) (is : List I4) (rs : List Addr), vs = [.ref p] ∧ Mach C H p cnt lg it is rs ∧ ∀ H' r ns, Same H H' → H r = none → PadL is ns → ns.length ≤ 50 → H' r = some (.tup (ns.map V.int)) → Q (.ref r) H'
theorem scPadLens : FnScope ["self", "opcode", "name", "length", "is_padding"] ["self"] (defScope sPadLens) := ⟨rfl, rfl, rfl, by decide +kernel, rfl, by decide +kernel, by decide +kernel⟩
theorem ok_padLens {f C : Addr} {fd : FuncData} {k : Nat} (F : Fun K "padding_lengths" "InstructionSet.padding_lengths" sPadLens f fd) (T : Bi mg) (S : SetTxt K mg C) : FnOk P w K mg base CX0 (k + 1) f fd ["self"] (spPadLens C) := by
  refine F.ok scPadLens (fun vs H Q E h => ?_) (fun cdv A' outer s H vs Q E hr h => ?_)
  · obtain ⟨p, it, cnt, lg, is, rs, rfl, _⟩ := h
    rfl
  · obtain ⟨p, it, cnt, lg, is, rs, rfl, M, q⟩ := h
    refine ⟨_, pss_one (ps_ret (pe_callTy call_tuple_of (by rfl) T.tuple (by decide +kernel) (pa_cons (pe_callB (cr_sortedSet rfl) (by rfl) T.sorted (by decide +kernel) (pa_cons (pe_scI (own := [("opcode", 1), ("name", 2), ("length", 3), ("is_padding", 4)]) (g := gTup K 4 (gCons (gName 1) (gCons (gName 2) (gCons (gName 3) (gCons (gName 4) gNil))))) (by rfl) scPadLens.nd (pi_tup (pe_fld (pv 0) rfl))
          (blkOk_by (own := [("opcode", 1), ("name", 2), ("length", 3), ("is_padding", 4)]) (N := ["self", "opcode", "name", "length", "is_padding"]) (sc := defScope sPadLens) (by decide +kernel))
          (fun _ _ _ _ _ => pg_tup rfl (pgs_cons (pg_name (i := 1) scPadLens.nd rfl (Or.inl rfl)) (pgs_cons (pg_name (i := 2) scPadLens.nd rfl (Or.inl rfl)) (pgs_cons (pg_name (i := 3) scPadLens.nd rfl (Or.inl rfl)) (pgs_cons (pg_name (i := 4) scPadLens.nd rfl (Or.inl rfl)) pgs_nil)))))
          (fun _ _ _ _ _ => pts_one (pt_val (pv 4))) (fun _ _ _ _ _ => pv 3)) pa_nil)) pa_nil))), ?_⟩
    obtain ⟨dx, d1, d2, hp, h1, h2⟩ := M.at_.ob
    have hit := M.its
    have rl := M.rows.1
    have few := M.ok.few
    refine ⟨_, rfl, p, C, dx, _, _, rfl, hp, S.cl, S.nI, flds_its _ _ _ _, it, rfl, ⟨_, SqT.of hit⟩, fun D nD => sc_tupI (K := K) (a := it) (xs := rs.map V.ref) (fun i G => Same H G ∧ ∃ (Sx : Int → Bool) (ds : List Nat), G D = some (SetO w D Sx ds.length) ∧ ds.Nodup ∧ (∀ d ∈ ds, d < 13 ∧ Sx (d : Int) = true) ∧ ∀ k : Int, Sx k = true ↔ ∃ x ∈ is.take i, x.pad = true ∧ (x.ln : Int) = k) ?_ (fun i G _ p => p.1.tup (SqT.of hit)) ?_ ?_⟩
    · exact ⟨same_upd nD, fun _ => false, [], upd_same, List.nodup_nil, (fun _ z => nomatch z), fun k => ⟨fun z => (nomatch z), fun ⟨x, hx, _⟩ => by simp at hx⟩⟩
    · rintro i x G hx ⟨sG, Sx, ds, hD, nd, lt, mem⟩
      obtain ⟨hi, r, rfl, hr2, _⟩ := rows_at M.rows hx
      have dl : ds.length ≤ 13 := nodup_lenF 13 ds nd fun d hd => (lt d hd).1
      refine ⟨r, _, rfl, SqT.of (sG _ _ hr2), rfl, _, _, rfl, _, _, rfl, _, _, rfl, _, _, rfl, rfl, rfl, _, rfl, _, rfl, ?_⟩
      have more : ∀ y, y ∈ is.take (i + 1) ↔ y ∈ is.take i ∨ y = is[i] := fun y => by rw [take_more (List.getElem?_eq_getElem hi), List.mem_append, List.mem_singleton]
      have ln12 : (is[i]).ln < 13 := by
        have := M.ok.len _ (List.getElem_mem hi)
        have := M.ok.lb
        omega
      by_cases pd : (is[i]).pad = true
      · rw [pd]
        refine iteT ⟨_, rfl, ((is[i]).ln : Int), Sx, ds.length, rfl, hD, by show ds.length + 1 < 4096; omega, fun b o e => by rw [upd_ne (ne_of_none e nD)]; exact sG b o e, ?_⟩
        have mem2 : ∀ k : Int, (Sx k || decide (k = ((is[i]).ln : Int))) = true ↔ ∃ x ∈ is.take (i + 1), x.pad = true ∧ (x.ln : Int) = k := fun k => by
          rw [Bool.or_eq_true, mem k, decide_eq_true_eq]
          constructor
          · rintro (⟨x, h1, h2, h3⟩ | rfl)
            · exact ⟨x, (more x).mpr (.inl h1), h2, h3⟩
            · exact ⟨_, (more _).mpr (.inr rfl), pd, rfl⟩
          · rintro ⟨x, h1, h2, h3⟩
            rcases (more x).mp h1 with h | rfl
            · exact .inl ⟨x, h, h2, h3⟩
            · exact .inr h3.symm
        by_cases inS : Sx ((is[i]).ln : Int) = true
        · exact ⟨fun j => Sx j || decide (j = ((is[i]).ln : Int)), ds, by rw [upd_same, if_pos inS]; rfl, nd, fun d hd => ⟨(lt d hd).1, Bool.or_eq_true_iff.mpr (.inl (lt d hd).2)⟩, mem2⟩
        · have fresh : (is[i]).ln ∉ ds := fun z => inS (lt _ z).2
          refine ⟨fun j => Sx j || decide (j = ((is[i]).ln : Int)), ds ++ [(is[i]).ln], by rw [upd_same, if_neg inS, List.length_append]; rfl, ?_, fun d hd => ?_, mem2⟩
          · rw [List.nodup_append]
            exact ⟨nd, by simp, fun x hx y hy z => by rw [List.mem_singleton.mp hy] at z; exact fresh (z ▸ hx)⟩
          · rcases List.mem_append.mp hd with h | h
            · exact ⟨(lt d h).1, Bool.or_eq_true_iff.mpr (.inl (lt d h).2)⟩
            · rw [List.mem_singleton.mp h]
              exact ⟨ln12, Bool.or_eq_true_iff.mpr (.inr (decide_eq_true rfl))⟩
      · rw [Bool.not_eq_true] at pd
        rw [pd]
        refine iteF ⟨sG, Sx, ds, hD, nd, lt, fun k => ?_⟩
        rw [mem k]
        constructor
        · rintro ⟨x, h1, h2, h3⟩
          exact ⟨x, (more x).mpr (.inl h1), h2, h3⟩
        · rintro ⟨x, h1, h2, h3⟩
          rcases (more x).mp h1 with h | rfl
          · exact ⟨x, h, h2, h3⟩
          · rw [pd] at h2; cases h2
    · rintro G ⟨sG, Sx, ds, hD, nd, lt, mem⟩
      rw [List.length_map, rl, List.take_length] at mem
      have dl : ds.length ≤ 13 := nodup_lenF 13 ds nd fun d hd => (lt d hd).1
      refine ⟨D, Sx, ds.length, rfl, hD, by omega, fun ns lp asc mem' len np => ?_⟩
      refine ⟨lp, _, rfl, .inl ⟨SqL.of upd_same, fun r nr => ?_⟩⟩
      have s1 := same_upd (o := HO.lst (ns.map V.int)) np
      have s2 := same_upd (o := HO.tup (ns.map V.int)) nr
      have s12 := sG.trans s1
      exact q _ r ns (s12.trans s2) (s12.free nr) ⟨asc, fun k => (mem' k).trans (mem k)⟩ (by omega) upd_same
end
end Ov
namespace Ov
open PySem PySem.Spec PyProof.Rows L2
/-! ### sums of a difference -/
def reachI (a : List (Option Nat)) (t : Int) : Bool := if 0 ≤ t then reached a t.toNat else false
/-- countdowns that are valid -/
structure Cds (L : Nat) (cs : List Int) : Prop where
  low : ∀ c ∈ cs, 0 ≤ c ∧ c < (L : Int)
  asc : cs.Pairwise (· < ·)
  few : cs.length ≤ 1000
section
variable {P : Program} {w : World} {K : PySem.W.Frag} {mg : Str → Option Value} {base : Heap}
/-! ### is_reached of any int -/
def spReachI : Sp := fun vs H Q _ => ∃ (p : Addr) (a : List (Option Nat)) (t : Int), vs = [.ref p, .int t] ∧ H p = some (.tup (a.map optV)) ∧ Q (.bl (reachI a t)) H
theorem ok_reachI {f : Addr} {fd : FuncData} {k : Nat} (F : Fun K "is_reached" "is_reached" sReached f fd) (T : Bi mg) : FnOk P w K mg base CX0 (k + 1) f fd ["least", "total"] spReachI := by
  refine F.ok scReached (fun vs H Q E h => ?_) (fun cdv A' outer s H vs Q E hr h => ?_)
  · obtain ⟨p, a, t, rfl, _⟩ := h
    rfl
  · obtain ⟨p, a, t, rfl, hp, q⟩ := h
    refine ⟨_, pss_cons (ps_if (pt_cmpR op_eq (pe_callB call_len_seq (by rfl) T.len PySem.boot_len (pa_cons (pv 0) pa_nil)) pe_int (nomark _)) (pss_one (ps_ret (pe_cmpR op_eq (pv 1) pe_int (nomark _)))) pss_nil)
      (pss_cons (ps_set (i := 2) scReached.nd rfl (.inl rfl) (pe_ix ix_tup (pv 0) (pe_op op_mod (pv 1) (pe_callB call_len_seq (by rfl) T.len PySem.boot_len (pa_cons (pv 0) pa_nil))) (fun _ _ => rfl)))
      (pss_one (ps_ret (pe_and (pe_cmpR op_notN (pv 2) pe_non (nomark _)) (pe_one (pe_cmpR op_le (pv 2) (pv 1) (nomark _))))))), ?_⟩
    refine ⟨_, rfl, p, _, rfl, .inr (SqT.of hp), rfl, _, rfl, ite2 (fun e => ?_) (fun e => ?_)⟩
    · have e0 : ((a.map optV).length : Int) = 0 := V.int.inj (of_decide_eq_true e)
      rw [List.length_map] at e0
      refine ⟨_, rfl, rfl, ?_⟩
      have e2 : reachI a t = decide (V.int t = V.int 0) := by
        unfold reachI reached
        by_cases h0 : t = 0
        · subst h0
          rw [if_pos (by decide), if_pos (by omega)]
          simp
        · rw [decide_eq_false (fun z => h0 (V.int.inj z))]
          by_cases h1 : 0 ≤ t
          · rw [if_pos h1, if_pos (by omega)]
            have : t.toNat ≠ 0 := by omega
            simpa using this
          · rw [if_neg h1]
      rw [e2] at q
      exact q
    · have e0 : a.length ≠ 0 := fun z => e (decide_eq_true (by rw [List.length_map, z]; rfl))
      have nn : 0 ≤ t % (a.length : Int) := Int.emod_nonneg _ (by omega)
      have ltm : t % (a.length : Int) < (a.length : Int) := Int.emod_lt_of_pos _ (by omega)
      obtain ⟨m, em⟩ : ∃ m : Nat, t % (a.length : Int) = (m : Int) := ⟨(t % (a.length : Int)).toNat, by omega⟩
      have hm : m < a.length := by omega
      have em2 : (t % (((a.map optV).length : Nat) : Int)) = (m : Int) := by rw [List.length_map]; exact em
      have same : 0 ≤ t → t.toNat % a.length = m := fun h => by
        have : ((t.toNat % a.length : Nat) : Int) = t % (a.length : Int) := by rw [Int.natCast_emod, Int.toNat_of_nonneg h]
        omega
      cases eo : a.getD m none with
      | none =>
        refine ⟨_, rfl, _, rfl, _, rfl, p, _, rfl, .inr (SqT.of hp), _, _, rfl, rfl, (by rw [List.length_map]; omega), p, _, _, _, rfl, rfl, SqT.of hp, (by rw [em2]; exact atI_nat (at_opt hm eo)), ?_⟩
        refine ⟨_, rfl, rfl, _, rfl, iteF ?_⟩
        have e2 : reachI a t = false := by
          unfold reachI reached
          by_cases h : 0 ≤ t
          · rw [if_pos h, if_neg e0, same h, eo]
          · rw [if_neg h]
        rw [e2] at q
        exact q
      | some x =>
        refine ⟨_, rfl, _, rfl, _, rfl, p, _, rfl, .inr (SqT.of hp), _, _, rfl, rfl, (by rw [List.length_map]; omega), p, _, _, _, rfl, rfl, SqT.of hp, (by rw [em2]; exact atI_nat (at_opt hm eo)), ?_⟩
        refine ⟨_, rfl, rfl, _, rfl, iteT ⟨_, rfl, _, rfl, _, _, rfl, rfl, ?_⟩⟩
        have e2 : reachI a t = decide ((x : Int) ≤ t) := by
          unfold reachI reached
          by_cases h : 0 ≤ t
          · rw [if_pos h, if_neg e0, same h, eo]
            by_cases c : x ≤ t.toNat
            · rw [decide_eq_true (show (x : Int) ≤ t by omega)]
              exact decide_eq_true c
            · rw [decide_eq_false (show ¬ (x : Int) ≤ t by omega)]
              exact decide_eq_false c
          · rw [if_neg h, decide_eq_false (by omega)]
        rw [e2] at q
        exact q
/-! ### has_filler -/
def hasF (a : List (Option Nat)) (cs : List Int) (n : Int) : Bool := cs.all fun c => reachI a (n - c)
def spHasF (K : PySem.W.Frag) : Sp := fun vs H Q _ => ∃ (l c : Addr) (a : List (Option Nat)) (cs : List Int) (n : Int), vs = [.ref l, .ref c, .int n] ∧ H l = some (.tup (a.map optV)) ∧ SqT K H c (cs.map V.int) ∧ cs.length ≤ 1000 ∧ ∀ H', Same H H' → Q (.bl (hasF a cs n)) H'
theorem scHasF : FnScope ["least", "countdowns", "length", "countdown"] ["least", "countdowns", "length"] (defScope s_has_filler) := ⟨rfl, rfl, rfl, by decide +kernel, rfl, by decide +kernel, by decide +kernel⟩
theorem ok_hasF {f fR : Addr} {fd fdR : FuncData} {k : Nat} (F : Fun K "has_filler" "has_filler" s_has_filler f fd) (T : Bi mg) (R : Def K mg "is_reached" sReached fR fdR ["least", "total"]) (GR : FnOk P w K mg base CX0 k fR fdR ["least", "total"] spReachI) :
    FnOk P w K mg base CX0 (k + 1) f fd ["least", "countdowns", "length"] (spHasF K) := by
  refine F.ok scHasF (fun vs H Q E h => ?_) (fun cdv A' outer s H vs Q E hr h => ?_)
  · obtain ⟨l, c, a, cs, n, rfl, _⟩ := h
    rfl
  · obtain ⟨l, c, a, cs, n, rfl, hl, hc, few, q⟩ := h
    refine ⟨_, pss_one (ps_ret (pe_callB (cr_all rfl) (by rfl) T.all (by decide +kernel) (pa_cons (pe_lc (own := [("countdown", 3)]) (g := gName 3) (tt := tYes) (by rfl) scHasF.nd (pi_tup (pv 1))
        (blkOk_by (own := [("countdown", 3)]) (N := ["least", "countdowns", "length", "countdown"]) (sc := defScope s_has_filler) (by decide +kernel))
        (fun _ _ _ _ _ => pg_name (i := 3) scHasF.nd rfl (Or.inl rfl)) (fun _ _ _ _ _ => pts_nil)
        (fun _ _ _ _ _ => pe_call GR hr (by rfl) R.gl R.fn.kp R.bi .nil pass0 (pa_cons (pv 0) (pa_cons (pe_op op_sub (pv 2) (pv 3)) pa_nil)))) pa_nil))), ?_⟩
    refine ⟨_, rfl, c, rfl, ⟨_, hc⟩, fun D nD => lc_tup (K := K) (a := c) (xs := cs.map V.int) (fun i H2 => Mk H H2 D (((cs.take i).map fun c => reachI a (n - c)).map V.bl)) (.start nD) (fun i H2 _ p => p.same.tup hc) ?_ ?_⟩
    · intro i x H2 hx mk
      rw [List.getElem?_map] at hx
      obtain ⟨cd, hcd, rfl⟩ := Option.map_eq_some_iff.mp hx
      have hi := (List.getElem?_eq_some_iff.mp hcd).1
      refine ⟨rfl, _, rfl, _, rfl, _, rfl, _, _, rfl, rfl, l, a, n - cd, rfl, mk.same _ _ hl, _, mk.at_, by rw [List.length_map, List.length_map, List.length_take]; exact small1000 (by omega), ?_⟩
      rw [take_more hcd, List.map_append, List.map_append]
      exact mk.put (Same.refl _)
    intro H2 mk
    refine ⟨D, _, rfl, SqL.of mk.at_, ?_⟩
    rw [List.length_map, List.take_length, List.all_map]
    exact q H2 mk.same
/-! ### are_congruent -/
def spCong : Sp := fun vs H Q _ => ∃ (a b : Int) (d : Nat), vs = [.int a, .int b, .int (d : Int)] ∧ Q (.bl (congN d a b)) H
theorem scCong : FnScope ["first", "second", "divisor"] ["first", "second", "divisor"] (defScope s_are_congruent) := ⟨rfl, rfl, rfl, by decide +kernel, rfl, by decide +kernel, by decide +kernel⟩
theorem ok_cong {f : Addr} {fd : FuncData} {k : Nat} (F : Fun K "are_congruent" "are_congruent" s_are_congruent f fd) : FnOk P w K mg base CX0 (k + 1) f fd ["first", "second", "divisor"] spCong := by
  refine F.ok scCong (fun vs H Q E h => ?_) (fun cdv A' outer s H vs Q E hr h => ?_)
  · obtain ⟨a, b, d, rfl, _⟩ := h
    rfl
  · obtain ⟨a, b, d, rfl, q⟩ := h
    refine ⟨_, pss_cons (ps_if (pt_cmpR op_eq (pv 2) pe_int (nomark _)) (pss_one (ps_ret (pe_cmpR op_eq (pv 0) (pv 1) (nomark _)))) pss_nil)
      (pss_one (ps_ret (pe_cmpR op_eq (pe_op op_mod (pe_op op_sub (pv 1) (pv 0)) (pv 2)) pe_int (nomark _)))), ?_⟩
    refine ⟨_, rfl, rfl, _, rfl, ?_⟩
    unfold congN at q
    by_cases h : d = 0
    · subst h
      rw [decide_eq_true (show V.int ((0 : Nat) : Int) = V.int 0 from rfl)]
      rw [if_pos rfl] at q
      refine iteT ⟨_, rfl, _, rfl, rfl, ?_⟩
      rw [show decide (V.int a = V.int b) = decide (a = b) from decide_eq_decide.mpr ⟨fun z => V.int.inj z, fun z => by rw [z]⟩]
      exact q
    · rw [decide_eq_false (fun z => h (by have : (d : Int) = 0 := V.int.inj z; omega))]
      rw [if_neg h] at q
      refine iteF ⟨_, rfl, _, rfl, _, _, rfl, rfl, _, rfl, _, _, rfl, rfl, by omega, rfl, ?_⟩
      rw [show decide (V.int ((b - a) % (d : Int)) = V.int 0) = decide ((b - a) % (d : Int) = 0) from decide_eq_decide.mpr ⟨fun z => V.int.inj z, fun z => by rw [z]⟩]
      exact q
/-! ### are_countdowns, check_countdowns: valid ones -/
def spAreC (K : PySem.W.Frag) (C : Addr) : Sp := fun vs H Q _ => ∃ (p it c : Addr) (cnt lg : Nat) (is : List I4) (rs : List Addr) (cs : List Int), vs = [.ref p, .ref c] ∧ Mach C H p cnt lg it is rs ∧ SqT K H c (cs.map V.int) ∧ Cds (lonOf is) cs ∧ ∀ H', Same H H' → Q (.bl true) H'
theorem scAreC : FnScope ["instruction_set", "value", "greatest", "item"] ["instruction_set", "value"] (defScope s_are_countdowns) := ⟨rfl, rfl, rfl, by decide +kernel, rfl, by decide +kernel, by decide +kernel⟩
theorem ok_areC {f fB fA fL C : Addr} {fd fdB fdA fdL : FuncData} {k : Nat} (F : Fun K "are_countdowns" "are_countdowns" s_are_countdowns f fd) (T : Bi mg) (S : SetTxt K mg C)
    (B : Def K mg "is_integer_between" sBetween fB fdB ["value", "least", "most"]) (GB : FnOk P w K mg base CX0 k fB fdB ["value", "least", "most"] spBetween)
    (A : Def K mg "is_ascending" sAscending fA fdA ["numbers"]) (GA : FnOk P w K mg base CX0 k fA fdA ["numbers"] (spAscending K))
    (ML : Meth K C "longest" fL) (bL : Binds K fdL ["self"] []) (GL : FnOk P w K mg base CX0 k fL fdL ["self"] (spLongest C)) :
    FnOk P w K mg base CX0 (k + 1) f fd ["instruction_set", "value"] (spAreC K C) := by
  refine F.ok scAreC (fun vs H Q E h => ?_) (fun cdv A' outer s H vs Q E hr h => ?_)
  · obtain ⟨p, it, c, cnt, lg, is, rs, cs, rfl, _⟩ := h
    rfl
  · obtain ⟨p, it, c, cnt, lg, is, rs, cs, rfl, M, hc, hcs, q⟩ := h
    refine ⟨_, pss_cons (ps_if (pt_not (pt_val (pe_callB call_isi (by rfl) T.isi (by decide +kernel) (pa_cons (pv 1) (pa_cons (pe_bltn (v := .ty "tuple") (u := .type "tuple") (by rfl) T.tuple (by decide +kernel) rfl) pa_nil))))) (pss_one (ps_ret pe_bl)) pss_nil)
      (pss_cons (ps_set (i := 2) scAreC.nd rfl (.inr rfl) (pe_op op_sub (pe_meth0 (pv 0) S.cl ML GL hr bL .nil pass0) pe_int))
      (pss_one (ps_ret (pe_and (pe_callB (cr_all rfl) (by rfl) T.all (by decide +kernel) (pa_cons (pe_lc (own := [("item", 3)]) (g := gName 3) (tt := tYes) (by rfl) scAreC.nd (pi_tup (pv 1))
          (blkOk_by (own := [("item", 3)]) (N := ["instruction_set", "value", "greatest", "item"]) (sc := defScope s_are_countdowns) (by decide +kernel))
          (fun _ _ _ _ _ => pg_name (i := 3) scAreC.nd rfl (Or.inl rfl)) (fun _ _ _ _ _ => pts_nil)
          (fun _ _ _ _ _ => pe_call GB hr (by rfl) B.gl B.fn.kp B.bi .nil pass0 (pa_cons (pv 3) (pa_cons pe_int (pa_cons (pv 2) pa_nil))))) pa_nil))
        (pe_one (pe_call GA hr (by rfl) A.gl A.fn.kp A.bi .nil pass0 (pa_cons (pv 1) pa_nil))))))), ?_⟩
    have Dc : Dx K H (.ref c) (.tuple (cs.map PyData.int)) := .tup hc (dx_ints cs)
    obtain ⟨dx, d1, d2, hp, _, _⟩ := M.at_.ob
    refine ⟨_, rfl, _, _, _, _, _, rfl, .ty _, Dc.ty, kit_ty (kit_t _), _, rfl, iteF ?_⟩
    refine ⟨_, rfl, p, dx, _, rfl, hp, no_meth2 _ _ _ _, p, it, cnt, lg, is, rs, rfl, M, fun H1 s1 => ⟨_, _, rfl, rfl, ?_⟩⟩
    have hc1 := s1.tup hc
    refine ⟨_, rfl, c, rfl, ⟨_, hc1⟩, fun D nD => lc_tup (K := K) (a := c) (xs := cs.map V.int) (fun i H2 => Mk H1 H2 D ((List.replicate i true).map V.bl)) (.start nD) (fun i H2 _ p => p.same.tup hc1) ?_ ?_⟩
    · intro i x H2 hx mk
      rw [List.getElem?_map] at hx
      obtain ⟨cd, hcd, rfl⟩ := Option.map_eq_some_iff.mp hx
      have hi := (List.getElem?_eq_some_iff.mp hcd).1
      have lo := hcs.low cd (List.mem_of_getElem? hcd)
      have fw := hcs.few
      refine ⟨rfl, _, rfl, _, rfl, _, _, _, rfl, by omega, by omega, _, mk.at_, by rw [List.length_map, List.length_replicate]; exact small1000 (by omega), ?_⟩
      rw [List.replicate_succ', List.map_append]
      exact mk.put (Same.refl _)
    intro H2 mk
    refine ⟨D, _, rfl, SqL.of mk.at_, ?_⟩
    rw [all_true]
    have s2 := s1.trans mk.same
    exact ⟨_, rfl, iteT ⟨_, rfl, c, cs, rfl, s2.tup hc, hcs.few, hcs.asc, fun H3 s3 => q H3 (s2.trans s3)⟩⟩
def spChkC (K : PySem.W.Frag) (C : Addr) : Sp := fun vs H Q _ => ∃ (p it c : Addr) (cnt lg : Nat) (is : List I4) (rs : List Addr) (cs : List Int), vs = [.ref p, .ref c] ∧ Mach C H p cnt lg it is rs ∧ SqT K H c (cs.map V.int) ∧ Cds (lonOf is) cs ∧ ∀ H', Same H H' → Q .non H'
theorem scChkC : FnScope ["instruction_set", "countdowns"] ["instruction_set", "countdowns"] (defScope s_check_countdowns) := ⟨rfl, rfl, rfl, by decide +kernel, rfl, by decide +kernel, by decide +kernel⟩
theorem ok_chkC {f fA C : Addr} {fd fdA : FuncData} {k : Nat} (F : Fun K "check_countdowns" "check_countdowns" s_check_countdowns f fd)
    (A : Def K mg "are_countdowns" s_are_countdowns fA fdA ["instruction_set", "value"]) (GA : FnOk P w K mg base CX0 k fA fdA ["instruction_set", "value"] (spAreC K C)) :
    FnOk P w K mg base CX0 (k + 1) f fd ["instruction_set", "countdowns"] (spChkC K C) := by
  refine F.ok scChkC (fun vs H Q E h => ?_) (fun cdv A' outer s H vs Q E hr h => ?_)
  · obtain ⟨p, it, c, cnt, lg, is, rs, cs, rfl, _⟩ := h
    rfl
  · obtain ⟨p, it, c, cnt, lg, is, rs, cs, rfl, M, hc, hcs, q⟩ := h
    refine ⟨_, pss_one (ps_if (pt_not (pt_val (pe_call GA hr (by rfl) A.gl A.fn.kp A.bi .nil pass0 (pa_cons (pv 0) (pa_cons (pv 1) pa_nil))))) (pss_one ps_never) pss_nil), ?_⟩
    exact ⟨_, rfl, _, rfl, p, it, c, cnt, lg, is, rs, cs, rfl, M, hc, hcs, fun H1 s1 => ⟨_, rfl, iteF (q H1 s1)⟩⟩
end
end Ov
namespace Ov
open PySem PySem.Spec PyProof.Rows L2
theorem asc_ext : ∀ {l1 l2 : List Int}, l1.Pairwise (· < ·) → l2.Pairwise (· < ·) → (∀ k, k ∈ l1 ↔ k ∈ l2) → l1 = l2
  | [], [], _, _, _ => rfl
  | [], b :: _, _, _, h => absurd ((h b).mpr List.mem_cons_self) (by simp)
  | a :: _, [], _, _, h => absurd ((h a).mp List.mem_cons_self) (by simp)
  | a :: l1, b :: l2, p1, p2, h => by
    have q1 := List.pairwise_cons.mp p1
    have q2 := List.pairwise_cons.mp p2
    have e : a = b := by
      rcases List.mem_cons.mp ((h a).mp List.mem_cons_self) with z | z
      · exact z
      · rcases List.mem_cons.mp ((h b).mpr List.mem_cons_self) with w | w
        · exact w.symm
        · have := q1.1 b w
          have := q2.1 a z
          omega
    subst e
    refine congrArg _ (asc_ext q1.2 q2.2 fun k => ⟨fun hk => ?_, fun hk => ?_⟩)
    · rcases List.mem_cons.mp ((h k).mp (List.mem_cons_of_mem _ hk)) with z | z
      · have := q1.1 k hk; omega
      · exact z
    · rcases List.mem_cons.mp ((h k).mpr (List.mem_cons_of_mem _ hk)) with z | z
      · have := q2.1 k hk; omega
      · exact z
theorem PadL.uniq {is : List I4} {a b : List Int} (h1 : PadL is a) (h2 : PadL is b) : a = b := asc_ext h1.asc h2.asc fun k => (h1.mem k).trans (h2.mem k).symm
/-- all congruent to the first one -/
def NoConf (g : Nat) (cs : List Int) : Prop := ∀ s t, cs[0]? = some s → t ∈ cs.drop 1 → congN g s t = true
theorem lens_pos {ns : List Int} (h : Lens ns) : ∀ l ∈ ns.map Int.toNat, 0 < l := fun l hl => by
  obtain ⟨n, hn, rfl⟩ := List.mem_map.mp hl
  have := (h.low n hn).1
  omega
theorem hasF_iff {ns : List Int} (h : Lens ns) (cs : List Int) (n : Int) : hasF (leasts (ns.map Int.toNat)) cs n = true ↔ ∀ c ∈ cs, c ≤ n ∧ Sum (ns.map Int.toNat) (n - c).toNat := by
  unfold hasF
  rw [List.all_eq_true]
  refine ⟨fun z c hc => ?_, fun z c hc => ?_⟩
  · have w := z c hc
    unfold reachI at w
    by_cases p : 0 ≤ n - c
    · rw [if_pos p, isSum_iff _ (lens_pos h)] at w
      exact ⟨by omega, w⟩
    · rw [if_neg p] at w; cases w
  · unfold reachI
    obtain ⟨a, b⟩ := z c hc
    rw [if_pos (by omega), isSum_iff _ (lens_pos h)]
    exact b
theorem some_length {ns : List Int} {L : Nat} {cs : List Int} (h : Lens ns) (hc : Cds L cs) (nc : NoConf (gcdAll (ns.map Int.toNat)) cs) : ∃ W : Nat, hasF (leasts (ns.map Int.toNat)) cs (W : Int) = true := by
  cases cs with
  | nil => exact ⟨0, rfl⟩
  | cons c0 r =>
    obtain ⟨N, h1, h2, h3⟩ := far_fill (lens_pos h) (c0 := c0) (cs := r) (hc.low c0 List.mem_cons_self).1 (fun c hm => nc c0 c rfl hm)
    refine ⟨N, (hasF_iff h _ _).mpr fun c hm => ?_⟩
    rcases List.mem_cons.mp hm with rfl | hm
    · exact ⟨h1, h2⟩
    · exact h3 c hm
section
variable {P : Program} {w : World} {K : PySem.W.Frag} {mg : Str → Option Value} {base : Heap}
/-! ### conflict -/
def ConfV (g : Nat) (cs : List Int) (H : Hp) (v : V) : Prop := (v = .non ∧ NoConf g cs) ∨ ∃ (r : Addr) (s t : Int) (i : Nat), v = .ref r ∧ H r = some (.tup [.int s, .int t]) ∧ cs[0]? = some s ∧ (cs.drop 1)[i]? = some t ∧ congN g s t = false ∧ ∀ u ∈ (cs.drop 1).take i, congN g s u = true
theorem ConfV.non {g : Nat} {cs : List Int} {H : Hp} {v : V} (h : ConfV g cs H v) : v = .non ↔ NoConf g cs := by
  rcases h with ⟨rfl, h⟩ | ⟨r, s, t, i, rfl, _, h0, h1, h2, _⟩
  · exact ⟨fun _ => h, fun _ => rfl⟩
  · exact ⟨(fun z => nomatch z), fun z => by rw [z s t h0 (List.mem_of_getElem? h1)] at h2; cases h2⟩
def spConf (K : PySem.W.Frag) (C : Addr) : Sp := fun vs H Q _ => ∃ (p it c : Addr) (cnt lg : Nat) (is : List I4) (rs : List Addr) (cs : List Int), vs = [.ref p, .ref c] ∧ Mach C H p cnt lg it is rs ∧ SqT K H c (cs.map V.int) ∧ Cds (lonOf is) cs ∧
  ∀ H' v ns, Same H H' → PadL is ns → Lens ns → ConfV (gcdAll (ns.map Int.toNat)) cs H' v → Q v H'
theorem scConf : FnScope ["instruction_set", "countdowns", "divisor", "other"] ["instruction_set", "countdowns"] (defScope s_conflict) := ⟨rfl, rfl, rfl, by decide +kernel, rfl, by decide +kernel, by decide +kernel⟩
theorem no_meth3 (cnt : Nat) (it d1 d2 : Addr) : (flds cnt it d1 d2).lookup ("padding_lengths" : Str) = none := by
  unfold flds
  rw [lookup_putF, if_neg (by decide +kernel), lookup_putF, if_neg (by decide +kernel), lookup_putF, if_neg (by decide +kernel), lookup_putF, if_neg (by decide +kernel)]
  rfl
theorem ok_conf {f fC fP fG fE C : Addr} {fd fdC fdP fdG fdE : FuncData} {k : Nat} (F : Fun K "conflict" "conflict" s_conflict f fd) (S : SetTxt K mg C)
    (Ch : Def K mg "check_countdowns" s_check_countdowns fC fdC ["instruction_set", "countdowns"]) (GC : FnOk P w K mg base CX0 k fC fdC ["instruction_set", "countdowns"] (spChkC K C))
    (MP : Meth K C "padding_lengths" fP) (bP : Binds K fdP ["self"] []) (GP : FnOk P w K mg base CX0 k fP fdP ["self"] (spPadLens C))
    (Co : Def K mg "common_divisor" sCommon fG fdG ["lengths"]) (GG : FnOk P w K mg base CX0 k fG fdG ["lengths"] spCommon)
    (Cg : Def K mg "are_congruent" s_are_congruent fE fdE ["first", "second", "divisor"]) (GE : FnOk P w K mg base CX0 k fE fdE ["first", "second", "divisor"] spCong) :
    FnOk P w K mg base CX0 (k + 1) f fd ["instruction_set", "countdowns"] (spConf K C) := by
  refine F.ok scConf (fun vs H Q E h => ?_) (fun cdv A' outer s H vs Q E hr h => ?_)
  · obtain ⟨p, it, c, cnt, lg, is, rs, cs, rfl, _⟩ := h
    rfl
  · obtain ⟨p, it, c, cnt, lg, is, rs, cs, rfl, M, hc, hcs, q⟩ := h
    refine ⟨_, pss_cons (ps_expr (pe_call GC hr (by rfl) Ch.gl Ch.fn.kp Ch.bi .nil pass0 (pa_cons (pv 0) (pa_cons (pv 1) pa_nil))))
      (pss_cons (ps_set (i := 2) scConf.nd rfl (.inl rfl) (pe_call GG hr (by rfl) Co.gl Co.fn.kp Co.bi .nil pass0 (pa_cons (pe_meth0 (pv 0) S.cl MP GP hr bP .nil pass0) pa_nil)))
      (pss_cons (ps_for PassesOwn.never rfl (pi_tup (pe_slice sl_tupA (pv 1) (po_some pe_int) po_none)) (pg_name (i := 3) scConf.nd rfl (.inl rfl))
        (pss_one (ps_if (pt_not (pt_val (pe_call GE hr (by rfl) Cg.gl Cg.fn.kp Cg.bi .nil pass0 (pa_cons (pe_ix ix_tup (pv 1) pe_int (fun _ _ => rfl)) (pa_cons (pv 3) (pa_cons (pv 2) pa_nil)))))) (pss_one (ps_ret (pe_tup (pa_cons (pe_ix ix_tup (pv 1) pe_int (fun _ _ => rfl)) (pa_cons (pv 3) pa_nil))))) pss_nil)))
      (pss_one (ps_ret pe_non)))), ?_⟩
    refine ⟨_, rfl, _, rfl, p, it, c, cnt, lg, is, rs, cs, rfl, M, hc, hcs, fun H1 s1 => ?_⟩
    have M1 := M.same s1
    obtain ⟨dx, d1, d2, hp, _, _⟩ := M1.at_.ob
    refine ⟨_, rfl, p, dx, _, rfl, hp, no_meth3 _ _ _ _, p, it, cnt, lg, is, rs, rfl, M1, fun H2 r2 ns s2 nr2 PL few hr2 => ?_⟩
    have Ln := PL.lens M.ok few
    refine ⟨r2, ns, rfl, hr2, Ln, fun H3 s3 => ?_⟩
    have s03 := s1.trans (s2.trans s3)
    have hc3 := s03.tup hc
    refine ⟨_, rfl, _, rfl, ?_⟩
    delta tNoPart
    refine cut_x (Same.refl H3) hc3 fun d H4 T4 g S4 => ?_
    rw [cut1, ← List.map_drop] at S4
    have hd4 := g.th.tup S4
    have hc4 := g.hh.tup hc3
    have s04 := s03.trans g.hh
    generalize hgg : gcdAll (ns.map Int.toNat) = gg at *
    refine ⟨d, rfl, ⟨_, hd4⟩, for_tup (K := K) (a := d) (xs := (cs.drop 1).map V.int) (fun i σ H5 => H5 = H4 ∧ (∀ s, cs[0]? = some s → ∀ u ∈ (cs.drop 1).take i, congN gg s u = true) ∧ ∃ y3, σ = [some (.ref p), some (.ref c), some (.int (gg : Int)), y3]) ⟨rfl, (fun _ _ u hu => by simp at hu), _, rfl⟩ (fun i σ H5 _ ⟨e, _⟩ => by rw [e]; exact hd4) ?_ ?_⟩
    · rintro i x σ H5 hx ⟨rfl, no, y3, rfl⟩
      rw [List.getElem?_map] at hx
      obtain ⟨t, ht, rfl⟩ := Option.map_eq_some_iff.mp hx
      cases cs with
      | nil => simp at ht
      | cons s0 r =>
        have iv : atI ((s0 :: r).map V.int) 0 = some (.int s0) := atI_nat (j := 0) rfl
        refine ⟨_, rfl, c, _, _, _, rfl, rfl, hc4, iv, _, rfl, _, rfl, s0, t, gg, rfl, _, rfl, ?_⟩
        cases e : congN gg s0 t with
        | true =>
          refine iteF ⟨rfl, fun s1' hs u hu => ?_, _, rfl⟩
          rw [take_more ht] at hu
          cases (Option.some.inj hs)
          rcases List.mem_append.mp hu with z | z
          · exact no s0 rfl u z
          · rw [List.mem_singleton.mp z]; exact e
        | false =>
          refine iteT ⟨_, rfl, c, _, _, _, rfl, rfl, hc4, iv, _, rfl, by show 2 ≤ sizeLine; decide, fun r9 nr9 => ?_⟩
          exact q _ _ ns (s04.trans (same_upd nr9)) PL Ln (by rw [hgg]; exact .inr ⟨r9, s0, t, i, rfl, upd_same, rfl, ht, e, no s0 rfl⟩)
    · rintro σ H5 ⟨rfl, no, y3, rfl⟩
      rw [List.length_map, List.take_length] at no
      exact q _ _ ns s04 PL Ln (by rw [hgg]; exact .inl ⟨rfl, fun s t hs ht => no s hs t ht⟩)
/-! ### filler_length -/
def spFLen (K : PySem.W.Frag) (C : Addr) : Sp := fun vs H Q _ => ∃ (p it c : Addr) (cnt lg : Nat) (is : List I4) (rs : List Addr) (cs : List Int), vs = [.ref p, .ref c] ∧ Mach C H p cnt lg it is rs ∧ SqT K H c (cs.map V.int) ∧ Cds (lonOf is) cs ∧
  ∀ H' v ns, Same H H' → PadL is ns → Lens ns → ((v = .non ∧ ¬ NoConf (gcdAll (ns.map Int.toNat)) cs) ∨ ∃ n : Nat, v = .int (n : Int) ∧ NoConf (gcdAll (ns.map Int.toNat)) cs ∧ hasF (leasts (ns.map Int.toNat)) cs (n : Int) = true ∧ ∀ m : Nat, m < n → hasF (leasts (ns.map Int.toNat)) cs (m : Int) = false) → Q v H'
theorem scFLen : FnScope ["instruction_set", "countdowns", "least", "length"] ["instruction_set", "countdowns"] (defScope s_filler_length) := ⟨rfl, rfl, rfl, by decide +kernel, rfl, by decide +kernel, by decide +kernel⟩
def lenOf (W : Nat) (σ : L2.St) : Nat := match σ with
  | [_, _, _, some (.int l)] => W - l.toNat
  | _ => 0
theorem ok_fLen {f fC fP fS fH C : Addr} {fd fdC fdP fdS fdH : FuncData} {k : Nat} (F : Fun K "filler_length" "filler_length" s_filler_length f fd) (S : SetTxt K mg C)
    (Cf : Def K mg "conflict" s_conflict fC fdC ["instruction_set", "countdowns"]) (GC : FnOk P w K mg base CX0 k fC fdC ["instruction_set", "countdowns"] (spConf K C))
    (MP : Meth K C "padding_lengths" fP) (bP : Binds K fdP ["self"] []) (GP : FnOk P w K mg base CX0 k fP fdP ["self"] (spPadLens C))
    (Ls : Def K mg "least_sums" sLeast fS fdS ["lengths"]) (GS : FnOk P w K mg base CX0 k fS fdS ["lengths"] spLeast)
    (Hf : Def K mg "has_filler" s_has_filler fH fdH ["least", "countdowns", "length"]) (GH : FnOk P w K mg base CX0 k fH fdH ["least", "countdowns", "length"] (spHasF K)) :
    FnOk P w K mg base CX0 (k + 1) f fd ["instruction_set", "countdowns"] (spFLen K C) := by
  refine F.ok scFLen (fun vs H Q E h => ?_) (fun cdv A' outer s H vs Q E hr h => ?_)
  · obtain ⟨p, it, c, cnt, lg, is, rs, cs, rfl, _⟩ := h
    rfl
  · obtain ⟨p, it, c, cnt, lg, is, rs, cs, rfl, M, hc, hcs, q⟩ := h
    refine ⟨_, pss_cons (ps_if (pt_cmpR op_notN (pe_call GC hr (by rfl) Cf.gl Cf.fn.kp Cf.bi .nil pass0 (pa_cons (pv 0) (pa_cons (pv 1) pa_nil))) pe_non (nomark _)) (pss_one (ps_ret pe_non)) pss_nil)
      (pss_cons (ps_set (i := 2) scFLen.nd rfl (.inl rfl) (pe_call GS hr (by rfl) Ls.gl Ls.fn.kp Ls.bi .nil pass0 (pa_cons (pe_meth0 (pv 0) S.cl MP GP hr bP .nil pass0) pa_nil)))
      (pss_cons (ps_set (i := 3) scFLen.nd rfl (.inl rfl) pe_int)
      (pss_cons (ps_while PassesOwn.never (pt_not (pt_val (pe_call GH hr (by rfl) Hf.gl Hf.fn.kp Hf.bi .nil pass0 (pa_cons (pv 2) (pa_cons (pv 1) (pa_cons (pv 3) pa_nil)))))) (pss_one (ps_aug (i := 3) scFLen.nd rfl (.inl rfl) pe_int ip_add)))
      (pss_one (ps_ret (pv 3)))))), ?_⟩
    refine ⟨_, rfl, _, rfl, p, it, c, cnt, lg, is, rs, cs, rfl, M, hc, hcs, fun H1 v ns s1 PL Ln cv => ?_⟩
    refine ⟨rfl, _, rfl, ?_⟩
    by_cases nc : NoConf (gcdAll (ns.map Int.toNat)) cs
    · have ev := cv.non.mpr nc
      rw [decide_eq_true ev]
      have M1 := M.same s1
      obtain ⟨dx, d1, d2, hp, _, _⟩ := M1.at_.ob
      refine iteF ⟨_, rfl, p, dx, _, rfl, hp, no_meth3 _ _ _ _, p, it, cnt, lg, is, rs, rfl, M1, fun H2 r2 ns2 s2 nr2 PL2 few hr2 => ?_⟩
      have en := PL2.uniq PL
      subst en
      refine ⟨r2, ns2, rfl, hr2, Ln, fun H3 l3 s3 nl3 hl3 => ?_⟩
      have s03 := s1.trans (s2.trans s3)
      obtain ⟨W, hW⟩ := some_length Ln hcs nc
      refine while_by (fun σ H4 => ∃ l : Nat, σ = [some (.ref p), some (.ref c), some (.ref l3), some (.int (l : Int))] ∧ Same H3 H4 ∧ l ≤ W ∧ ∀ m : Nat, m < l → hasF (leasts (ns2.map Int.toNat)) cs (m : Int) = false) (fun σ _ => lenOf W σ) ⟨0, rfl, Same.refl _, Nat.zero_le _, fun m hm => absurd hm (Nat.not_lt_zero _)⟩ ?_ ?_
      · rintro σ H4 ⟨l, rfl, s4, lW, no⟩
        refine ⟨_, rfl, _, rfl, _, rfl, l3, c, _, cs, (l : Int), rfl, s4 _ _ hl3, (s03.trans s4).tup hc, hcs.few, fun H5 s5 => ⟨_, rfl, ?_⟩⟩
        cases e : hasF (leasts (ns2.map Int.toNat)) cs (l : Int) with
        | true => exact iteF ⟨_, rfl, q H5 _ ns2 (s03.trans (s4.trans s5)) PL Ln (.inr ⟨l, rfl, nc, e, no⟩)⟩
        | false =>
          have ne : l ≠ W := fun z => by rw [z, hW] at e; cases e
          refine iteT ⟨_, rfl, _, _, rfl, rfl, ⟨l + 1, rfl, s4.trans s5, by omega, fun m hm => ?_⟩, ?_⟩
          · by_cases z : m = l
            · rw [z]; exact e
            · exact no m (by omega)
          · show W - ((l : Int) + 1).toNat < W - ((l : Int)).toNat
            omega
      · rintro σ H4 Q1 Q2 hQ ⟨v1, e1, v2, e2, v3, e3, l', c', a', cs', n', e4, e5, e6, e7, h8⟩
        refine ⟨v1, e1, v2, e2, v3, e3, l', c', a', cs', n', e4, e5, e6, e7, fun H' s' => ?_⟩
        obtain ⟨b, eb, z⟩ := h8 H' s'
        exact ⟨b, eb, hQ _ _ z⟩
    · have ev : v ≠ .non := fun z => nc (cv.non.mp z)
      rw [decide_eq_false ev]
      exact iteT (q H1 _ ns s1 PL Ln (.inl ⟨rfl, nc⟩))
end
end Ov
namespace Ov
open PySem PySem.Spec PyProof.Rows L2
/-! ### padding instructions: (opcode, length) -/
def pads (is : List I4) : List (Nat × Nat) := (is.filter I4.pad).map fun x => (x.op, x.ln)
def qV (q : Nat × Nat) : List V := [.int (q.1 : Int), .int (q.2 : Int)]
def PadP (H : Hp) (ps : List Addr) (qs : List (Nat × Nat)) : Prop := ps.length = qs.length ∧ ∀ (i : Nat) (a : Addr) (q : Nat × Nat), ps[i]? = some a → qs[i]? = some q → H a = some (.tup (qV q))
theorem PadP.same {H H' : Hp} {ps : List Addr} {qs : List (Nat × Nat)} (h : PadP H ps qs) (s : Same H H') : PadP H' ps qs := ⟨h.1, fun i a q h1 h2 => s _ _ (h.2 i a q h1 h2)⟩
theorem PadP.but {H H' : Hp} {D : Addr} {xs : List V} {ps : List Addr} {qs : List (Nat × Nat)} (h : PadP H ps qs) (b : But D H H') (hD : H D = some (.lst xs)) : PadP H' ps qs :=
  ⟨h.1, fun i a q h1 h2 => b _ _ (h.2 i a q h1 h2) fun z => by have := h.2 i a q h1 h2; rw [z, hD] at this; cases this⟩
theorem PadP.nil {H : Hp} : PadP H [] [] := ⟨rfl, fun i a m h => by simp at h⟩
theorem PadP.more {H : Hp} {ps : List Addr} {qs : List (Nat × Nat)} {a : Addr} {q : Nat × Nat} (h : PadP H ps qs) (ha : H a = some (.tup (qV q))) : PadP H (ps ++ [a]) (qs ++ [q]) := by
  refine ⟨by rw [List.length_append, List.length_append, h.1]; rfl, fun i b x h1 h2 => ?_⟩
  by_cases c : i < ps.length
  · rw [List.getElem?_append_left c] at h1
    rw [List.getElem?_append_left (by rw [← h.1]; exact c)] at h2
    exact h.2 i b x h1 h2
  · have hl := (List.getElem?_eq_some_iff.mp h1).1
    rw [List.length_append, List.length_singleton] at hl
    have e : i = ps.length := by omega
    subst e
    rw [List.getElem?_append_right (Nat.le_refl _), Nat.sub_self] at h1
    rw [h.1, List.getElem?_append_right (Nat.le_refl _), Nat.sub_self] at h2
    have e1 : a = b := Option.some.inj h1
    have e2 : q = x := Option.some.inj h2
    subst e1 e2
    exact ha
section
variable {P : Program} {w : World} {K : PySem.W.Frag} {mg : Str → Option Value} {base : Heap}
def spPadI (C : Addr) : Sp := fun vs H Q _ => ∃ (p it : Addr) (cnt lg : Nat) (is : List I4) (rs : List Addr), vs = [.ref p] ∧ Mach C H p cnt lg it is rs ∧ ∀ H' r ps, Same H H' → H r = none → H' r = some (.lst (ps.map V.ref)) → PadP H' ps (pads is) → Q (.ref r) H'
theorem scPadI : FnScope ["instruction_set", "opcode", "name", "length", "is_padding"] ["instruction_set"] (defScope s_padding_instructions) := ⟨rfl, rfl, rfl, by decide +kernel, rfl, by decide +kernel, by decide +kernel⟩
theorem ok_padI {f C : Addr} {fd : FuncData} {k : Nat} (F : Fun K "padding_instructions" "padding_instructions" s_padding_instructions f fd) (S : SetTxt K mg C) : FnOk P w K mg base CX0 (k + 1) f fd ["instruction_set"] (spPadI C) := by
  refine F.ok scPadI (fun vs H Q E h => ?_) (fun cdv A' outer s H vs Q E hr h => ?_)
  · obtain ⟨p, it, cnt, lg, is, rs, rfl, _⟩ := h
    rfl
  · obtain ⟨p, it, cnt, lg, is, rs, rfl, M, q⟩ := h
    refine ⟨_, pss_one (ps_ret (pe_lc (own := [("opcode", 1), ("name", 2), ("length", 3), ("is_padding", 4)]) (g := gTup K 4 (gCons (gName 1) (gCons (gName 2) (gCons (gName 3) (gCons (gName 4) gNil))))) (by rfl) scPadI.nd (pi_tup (pe_fld (pv 0) rfl))
          (blkOk_by (own := [("opcode", 1), ("name", 2), ("length", 3), ("is_padding", 4)]) (N := ["instruction_set", "opcode", "name", "length", "is_padding"]) (sc := defScope s_padding_instructions) (by decide +kernel))
          (fun _ _ _ _ _ => pg_tup rfl (pgs_cons (pg_name (i := 1) scPadI.nd rfl (Or.inl rfl)) (pgs_cons (pg_name (i := 2) scPadI.nd rfl (Or.inl rfl)) (pgs_cons (pg_name (i := 3) scPadI.nd rfl (Or.inl rfl)) (pgs_cons (pg_name (i := 4) scPadI.nd rfl (Or.inl rfl)) pgs_nil)))))
          (fun _ _ _ _ _ => pts_one (pt_val (pv 4))) (fun _ _ _ _ _ => pe_tup (pa_cons (pv 1) (pa_cons (pv 3) pa_nil))))), ?_⟩
    obtain ⟨dx, d1, d2, hp, _, _⟩ := M.at_.ob
    have hit := M.its
    have rl := M.rows.1
    have few := M.ok.few
    refine ⟨_, rfl, p, C, dx, _, _, rfl, hp, S.cl, S.nI, flds_its _ _ _ _, it, rfl, ⟨_, SqT.of hit⟩, fun D nD => lc_tup (K := K) (a := it) (xs := rs.map V.ref) (fun i G => ∃ ps, Mk H G D (ps.map V.ref) ∧ PadP G ps (pads (is.take i))) ⟨[], .start nD, PadP.nil⟩ (fun i G _ ⟨_, mk, _⟩ => mk.same.tup (SqT.of hit)) ?_ ?_⟩
    · rintro i x G hx ⟨ps, mk, pp⟩
      obtain ⟨hi, r, rfl, hr2, _⟩ := rows_at M.rows hx
      have pl : ps.length ≤ 72 := by
        rw [pp.1]
        unfold pads
        rw [List.length_map]
        refine Nat.le_trans (List.length_filter_le _ _) ?_
        rw [List.length_take]
        omega
      refine ⟨r, _, rfl, SqT.of (mk.same _ _ hr2), rfl, _, _, rfl, _, _, rfl, _, _, rfl, _, _, rfl, rfl, rfl, _, rfl, _, rfl, ?_⟩
      have tm := take_more (List.getElem?_eq_getElem hi)
      by_cases pd : (is[i]).pad = true
      · have ep : pads (is.take (i + 1)) = pads (is.take i) ++ [((is[i]).op, (is[i]).ln)] := by
          unfold pads
          rw [tm, List.filter_append, List.map_append, List.filter_cons_of_pos pd]
          rfl
        rw [pd]
        refine iteT ⟨_, rfl, _, rfl, by show 2 ≤ sizeLine; decide, fun b nb => ?_⟩
        have sb := same_upd (o := HO.tup [V.int ((is[i]).op : Int), V.int ((is[i]).ln : Int)]) nb
        refine ⟨_, sb _ _ mk.at_, by rw [List.length_map, sizeLine_eq]; omega, ps ++ [b], by rw [List.map_append]; exact mk.put sb, ?_⟩
        rw [ep]
        exact ((pp.same sb).more upd_same).but (D := D) (fun c o e n => by rw [upd_ne n]; exact e) (sb _ _ mk.at_)
      · have ep : pads (is.take (i + 1)) = pads (is.take i) := by
          unfold pads
          rw [tm, List.filter_append, List.filter_cons_of_neg pd, List.filter_nil, List.append_nil]
        rw [Bool.not_eq_true] at pd
        rw [pd]
        exact iteF ⟨ps, mk, by rw [ep]; exact pp⟩
    · rintro G ⟨ps, mk, pp⟩
      rw [List.length_map, rl, List.take_length] at pp
      exact q _ D ps mk.same nD mk.at_ pp
/-! ### first_fitting -/
def spFirst : Sp := fun vs H Q _ => ∃ (pa la : Addr) (ps : List Addr) (qs : List (Nat × Nat)) (a : List (Option Nat)) (n : Int) (j0 : Nat) (q0 : Nat × Nat), vs = [.ref pa, .ref la, .int n] ∧ H pa = some (.lst (ps.map V.ref)) ∧ PadP H ps qs ∧ H la = some (.tup (a.map optV)) ∧ qs[j0]? = some q0 ∧ reachI a (n - (q0.2 : Int)) = true ∧
  ∀ (r : Addr) (i : Nat) (q1 : Nat × Nat), qs[i]? = some q1 → reachI a (n - (q1.2 : Int)) = true → (∀ (j : Nat) (q2 : Nat × Nat), j < i → qs[j]? = some q2 → reachI a (n - (q2.2 : Int)) = false) → H r = some (.tup (qV q1)) → Q (.ref r) H
theorem scFirst : FnScope ["padding", "least", "left", "at"] ["padding", "least", "left"] (defScope s_first_fitting) := ⟨rfl, rfl, rfl, by decide +kernel, rfl, by decide +kernel, by decide +kernel⟩
theorem ok_first {f fR : Addr} {fd fdR : FuncData} {k : Nat} (F : Fun K "first_fitting" "first_fitting" s_first_fitting f fd) (R : Def K mg "is_reached" sReached fR fdR ["least", "total"]) (GR : FnOk P w K mg base CX0 k fR fdR ["least", "total"] spReachI) :
    FnOk P w K mg base CX0 (k + 1) f fd ["padding", "least", "left"] spFirst := by
  refine F.ok scFirst (fun vs H Q E h => ?_) (fun cdv A' outer s H vs Q E hr h => ?_)
  · obtain ⟨pa, la, ps, qs, a, n, j0, q0, rfl, _⟩ := h
    rfl
  · obtain ⟨pa, la, ps, qs, a, n, j0, q0, rfl, hpa, pp, hla, hj, hr0, q⟩ := h
    refine ⟨_, pss_cons (ps_set (i := 3) scFirst.nd rfl (.inl rfl) pe_int)
      (pss_cons (ps_while PassesOwn.never (pt_not (pt_val (pe_call GR hr (by rfl) R.gl R.fn.kp R.bi .nil pass0 (pa_cons (pv 1) (pa_cons (pe_op op_sub (pv 2) (pe_ix ix_tup (pe_ix ix_list (pv 0) (pv 3) (fun _ _ => rfl)) pe_int (fun _ _ => rfl))) pa_nil))))) (pss_one (ps_aug (i := 3) scFirst.nd rfl (.inl rfl) pe_int ip_add)))
      (pss_one (ps_ret (pe_ix ix_list (pv 0) (pv 3) (fun _ _ => rfl))))), ?_⟩
    have i1 : ∀ x y : V, atI [x, y] 1 = some y := fun x y => atI_nat (j := 1) rfl
    have at_ : ∀ (l : Nat) (ql : Nat × Nat), qs[l]? = some ql → ∃ b, atI (ps.map V.ref) (l : Int) = some (.ref b) ∧ H b = some (.tup (qV ql)) := fun l ql h => by
      have hl : l < ps.length := by rw [pp.1]; exact (List.getElem?_eq_some_iff.mp h).1
      exact ⟨ps[l], atI_nat (by rw [List.getElem?_map, List.getElem?_eq_getElem hl]; rfl), pp.2 l _ ql (List.getElem?_eq_getElem hl) h⟩
    have jl := (List.getElem?_eq_some_iff.mp hj).1
    refine while_by (fun σ H4 => H4 = H ∧ ∃ l : Nat, σ = [some (.ref pa), some (.ref la), some (.int n), some (.int (l : Int))] ∧ l ≤ j0 ∧ ∀ (j : Nat) (q2 : Nat × Nat), j < l → qs[j]? = some q2 → reachI a (n - (q2.2 : Int)) = false) (fun σ _ => lenOf j0 σ) ⟨rfl, 0, rfl, Nat.zero_le _, fun j _ hm => absurd hm (Nat.not_lt_zero _)⟩ ?_ ?_
    · rintro σ H4 ⟨rfl, l, rfl, lW, no⟩
      have hql : qs[l]? = some (qs[l]'(by omega)) := List.getElem?_eq_getElem _
      obtain ⟨b, ab, hb⟩ := at_ l _ hql
      refine ⟨_, rfl, _, rfl, _, rfl, _, rfl, pa, _, _, _, rfl, rfl, SqL.of hpa, ab, b, _, _, _, rfl, rfl, SqT.of hb, i1 _ _, _, _, rfl, rfl, la, a, _, rfl, hla, _, rfl, ?_⟩
      cases e : reachI a (n - ((qs[l]'(by omega)).2 : Int)) with
      | true => exact iteF ⟨_, rfl, _, rfl, pa, _, _, _, rfl, rfl, SqL.of hpa, ab, q b l _ hql e no hb⟩
      | false =>
        have ne : l ≠ j0 := fun z => by
          subst z
          rw [hql] at hj
          rw [Option.some.inj hj, hr0] at e
          cases e
        refine iteT ⟨_, rfl, _, _, rfl, rfl, ⟨rfl, l + 1, rfl, by omega, fun j q2 hm h2 => ?_⟩, ?_⟩
        · by_cases z : j = l
          · subst z
            rw [hql] at h2
            rw [← Option.some.inj h2]
            exact e
          · exact no j q2 (by omega) h2
        · show j0 - ((l : Int) + 1).toNat < j0 - ((l : Int)).toNat
          omega
    · rintro σ H4 Q1 Q2 hQ ⟨v1, e1, v2, e2, v3, e3, v4, e4, b1, b2, b3, b4, b5, b6, b7, b8, c1, c2, c3, c4, c5, c6, c7, c8, d1, d2, d3, d4, f1, f2, f3, f4, f5, bb, eb, z⟩
      exact ⟨v1, e1, v2, e2, v3, e3, v4, e4, b1, b2, b3, b4, b5, b6, b7, b8, c1, c2, c3, c4, c5, c6, c7, c8, d1, d2, d3, d4, f1, f2, f3, f4, f5, bb, eb, hQ _ _ z⟩
end
end Ov
namespace Ov
open PySem PySem.Spec PyProof.Rows L2
/-! ### which keys a dict of pairs has -/
def hasK (kvs : List (Key × V)) (k : Key) : Bool := kvs.any fun kv => decide (kv.1 = k)
theorem valV_some (kvs : List (Key × V)) (k : Key) : (valV kvs k).isSome = hasK kvs k := by
  unfold valV hasK
  rw [Option.isSome_map]
  cases e : kvs.any (fun kv => decide (kv.1 = k)) with
  | true =>
    obtain ⟨x, hx, hk⟩ := List.any_eq_true.mp e
    exact List.find?_isSome.mpr ⟨x, hx, hk⟩
  | false =>
    rw [List.find?_eq_none.mpr fun x hx z => by
      have := List.any_eq_false.mp e x hx
      exact this z]
    rfl
theorem hasK_put (kvs : List (Key × V)) (k k' : Key) (v : V) : hasK (putK kvs k v) k' = (hasK kvs k' || decide (k = k')) := by
  unfold putK
  split
  · rename_i h
    have e : hasK (kvs.map fun kv => if kv.1 = k then (kv.1, v) else kv) k' = hasK kvs k' := by
      unfold hasK
      rw [List.any_map]
      congr 1
      funext kv
      show decide ((if kv.1 = k then (kv.1, v) else kv).1 = k') = _
      split <;> rfl
    rw [e]
    by_cases z : k = k'
    · subst z
      show hasK kvs k = _
      have : hasK kvs k = true := h
      rw [this]; rfl
    · rw [decide_eq_false z, Bool.or_false]
  · unfold hasK
    rw [List.any_append, List.any_cons, List.any_nil, Bool.or_false]
theorem hasK_merge : ∀ (more kvs : List (Key × V)) (k : Key), hasK (mergeK kvs more) k = (hasK kvs k || hasK more k)
  | [], kvs, k => by show hasK kvs k = _; simp [hasK]
  | kv :: more, kvs, k => by
    show hasK (mergeK (putK kvs kv.1 kv.2) more) k = _
    rw [hasK_merge more, hasK_put, Bool.or_assoc]
    rfl
def padOp (is : List I4) (b : Int) : Bool := (pads is).any fun q => decide ((q.1 : Int) = b)
def padKV (is : List I4) : List (Key × V) := (pads is).map fun q => (Sum.inl (q.1 : Int), V.int (q.2 : Int))
theorem padKV_has (is : List I4) (b : Int) : (valV (mergeK [] (padKV is)) (Sum.inl b)).isSome = padOp is b := by
  rw [valV_some, hasK_merge]
  show (false || _) = _
  rw [Bool.false_or]
  unfold hasK padKV padOp
  rw [List.any_map]
  congr 1
  funext q
  exact decide_eq_decide.mpr ⟨fun z => Sum.inl.inj z, fun z => by show Sum.inl (q.1 : Int) = Sum.inl b; rw [z]⟩
end Ov
namespace Ov
open PySem PySem.Spec PyProof.Rows L2
section
variable {P : Program} {w : World} {K : PySem.W.Frag} {mg : Str → Option Value} {base : Heap}
/-! ### is_padded_from -/
def padFrom (is : List I4) (bs : List Int) (begun : List Nat) (fol : Nat) : Bool := decide (fol = bs.length) && begun.all fun o => padOp is (bs.getD o 0)
def spPadF (K : PySem.W.Frag) (C : Addr) : Sp := fun vs H Q _ => ∃ (p it c : Addr) (cnt lg : Nat) (is : List I4) (rs : List Addr) (bs : List Int) (e : Nat), vs = [.ref p, .ref c, .int (e : Int)] ∧ Mach C H p cnt lg it is rs ∧ SqT K H c (bs.map V.int) ∧ bs.length ≤ 100000 ∧
  ∀ H' begun fol, Same H H' → Ended (laOf is) bs e begun fol → Q (.bl (padFrom is bs begun fol)) H'
theorem scPadF : FnScope ["instruction_set", "code", "entry", "length_of_padding", "begun", "following", "offset"] ["instruction_set", "code", "entry"] (defScope s_is_padded_from) := ⟨rfl, rfl, rfl, by decide +kernel, rfl, by decide +kernel, by decide +kernel⟩
theorem pair_of : ∀ {H : Hp} {ps : List Addr} {qs : List (Nat × Nat)}, PadP H ps qs → Paired (fun p kv => SqT K H p [kV kv.1, kv.2]) ps (qs.map fun q => ((Sum.inl (q.1 : Int) : Key), V.int (q.2 : Int)))
  | H, [], [], _ => .nil
  | H, [], q :: qs, h => absurd h.1 (by simp)
  | H, p :: ps, [], h => absurd h.1 (by simp)
  | H, p :: ps, q :: qs, h => .cons (SqT.of (h.2 0 p q rfl rfl)) (pair_of ⟨by have := h.1; simpa using this, fun i a x h1 h2 => h.2 (i + 1) a x h1 h2⟩)
theorem ok_padF {f fI fW C : Addr} {fd fdI fdW : FuncData} {k : Nat} (F : Fun K "is_padded_from" "is_padded_from" s_is_padded_from f fd) (T : Bi mg)
    (Pi : Def K mg "padding_instructions" s_padding_instructions fI fdI ["instruction_set"]) (GI : FnOk P w K mg base CX0 k fI fdI ["instruction_set"] (spPadI C))
    (Wa : Def K mg "walk" sWalk fW fdW ["instruction_set", "code", "entry"]) (GW : FnOk P w K mg base CX0 k fW fdW ["instruction_set", "code", "entry"] (spWalk K C)) :
    FnOk P w K mg base CX0 (k + 1) f fd ["instruction_set", "code", "entry"] (spPadF K C) := by
  refine F.ok scPadF (fun vs H Q E h => ?_) (fun cdv A' outer s H vs Q E hr h => ?_)
  · obtain ⟨p, it, c, cnt, lg, is, rs, bs, e, rfl, _⟩ := h
    rfl
  · obtain ⟨p, it, c, cnt, lg, is, rs, bs, e, rfl, M, hc, hb, q⟩ := h
    refine ⟨_, pss_cons (ps_set (i := 3) scPadF.nd rfl (.inr rfl) (pe_callTy (call_dictP rfl) (by rfl) T.dict (by decide +kernel) (pa_cons (pe_call GI hr (by rfl) Pi.gl Pi.fn.kp Pi.bi .nil pass0 (pa_cons (pv 0) pa_nil)) pa_nil)))
      (pss_cons (ps_asg (pe_call GW hr (by rfl) Wa.gl Wa.fn.kp Wa.bi .nil pass0 (pa_cons (pv 0) (pa_cons (pv 1) (pa_cons (pv 2) pa_nil)))) (pg_tup rfl (pgs_cons (pg_name (i := 4) scPadF.nd rfl (.inl rfl)) (pgs_cons (pg_name (i := 5) scPadF.nd rfl (.inl rfl)) pgs_nil))))
      (pss_one (ps_ret (pe_and (pe_cmpR op_eq (pv 5) (pe_callB call_len_seq (by rfl) T.len PySem.boot_len (pa_cons (pv 1) pa_nil)) (nomark _)) (pe_one (pe_callB (cr_all rfl) (by rfl) T.all (by decide +kernel) (pa_cons
        (pe_lc (own := [("offset", 6)]) (g := gName 6) (tt := tYes) (by rfl) scPadF.nd (pi_list (pv 4))
          (blkOk_by (own := [("offset", 6)]) (N := ["instruction_set", "code", "entry", "length_of_padding", "begun", "following", "offset"]) (sc := defScope s_is_padded_from) (by decide +kernel))
          (fun _ _ _ _ _ => pg_name (i := 6) scPadF.nd rfl (Or.inl rfl)) (fun _ _ _ _ _ => pts_nil)
          (fun _ _ _ _ _ => pe_cmp (pc_din (hu_of hr) (pe_ix (r := rIxT K) ix_tup (pv 1) (pv 6) (fun _ _ => rfl)) (pv 3)))) pa_nil))))))), ?_⟩
    refine ⟨_, rfl, p, it, cnt, lg, is, rs, rfl, M, fun H1 r1 ps s1 nr1 h1 pp => ?_⟩
    refine ⟨r1, ps, padKV is, rfl, SqL.of h1, pair_of pp, fun d nd => ?_⟩
    have sd := same_upd (o := HO.dK (mergeK [] (padKV is))) nd
    have s2 := s1.trans sd
    have hd : upd H1 d (HO.dK (mergeK [] (padKV is))) d = some (.dK (mergeK [] (padKV is))) := upd_same
    generalize upd H1 d (HO.dK (mergeK [] (padKV is))) = H2 at *
    refine ⟨_, rfl, _, rfl, _, rfl, p, it, c, cnt, is, bs, e, rfl, (M.same s2).at_, s2.tup hc, hb, fun H3 r l begun fol s3 en nr hr3 hl bl => ?_⟩
    have s03 := s2.trans s3
    refine ⟨r, _, rfl, SqT.of hr3, rfl, _, _, rfl, _, _, rfl, rfl, ?_⟩
    refine ⟨_, rfl, _, rfl, c, _, rfl, .inr (s03.tup hc), rfl, _, rfl, ?_⟩
    rw [List.length_map]
    by_cases ef : fol = bs.length
    · rw [decide_eq_true (show V.int (fol : Int) = V.int (bs.length : Int) by rw [ef])]
      refine iteT ⟨_, rfl, l, rfl, ⟨_, SqL.of hl⟩, fun D nD => lc_list (K := K) (a := l) (xs := begun.map natV) (fun i G => Mk H3 G D (((begun.take i).map fun o => padOp is (bs.getD o 0)).map V.bl)) (.start nD) (fun i G _ mk => SqL.of (mk.same _ _ hl)) ?_ ?_⟩
      · intro i x G hx mk
        rw [List.getElem?_map] at hx
        obtain ⟨o, ho, rfl⟩ := Option.map_eq_some_iff.mp hx
        have hi := (List.getElem?_eq_some_iff.mp ho).1
        obtain ⟨ol, b, eb, _⟩ := en.lt o (List.mem_of_getElem? ho)
        have ev : bs.getD o 0 = b := by rw [List.getD_eq_getElem?_getD, eb]; rfl
        refine ⟨rfl, _, rfl, _, rfl, c, _, _, V.int b, rfl, rfl, (s03.trans mk.same).tup hc, atI_nat (by rw [List.getElem?_map, eb]; rfl), _, rfl, d, _, rfl, DGet.k (k := Sum.inl b) ((s3.trans mk.same) _ _ hd), _, mk.at_, by rw [List.length_map, List.length_map, List.length_take, sizeLine_eq]; omega, ?_⟩
        rw [padKV_has, take_more ho, List.map_append, List.map_append, ← ev]
        exact mk.put (Same.refl _)
      · intro G mk
        rw [List.length_map, List.take_length] at mk
        refine ⟨D, _, rfl, SqL.of mk.at_, ?_⟩
        have z := q G begun fol (s03.trans mk.same) en
        unfold padFrom at z
        rw [decide_eq_true ef, Bool.true_and] at z
        rw [List.all_map]
        exact z
    · rw [decide_eq_false (fun z => ef (by have : (fol : Int) = (bs.length : Int) := V.int.inj z; omega))]
      have z := q H3 begun fol s03 en
      unfold padFrom at z
      rw [decide_eq_false ef, Bool.false_and] at z
      exact iteF z
end
end Ov
namespace Ov
open PySem PySem.Spec PyProof.Rows L2
section
variable {P : Program} {w : World} {K : PySem.W.Frag} {mg : Str → Option Value} {base : Heap}
/-! ### is_code of a code -/
def spCodeY (K : PySem.W.Frag) (C : Addr) : Sp := fun vs H Q _ => ∃ (p it c : Addr) (cnt : Nat) (is : List I4) (bs : List Int), vs = [.ref p, .ref c] ∧ SetAt C H p cnt it is ∧ SqT K H c (bs.map V.int) ∧ bs.length ≤ 100000 ∧ (∀ b ∈ bs, 0 ≤ b ∧ b < (cnt : Int)) ∧ ∀ H', Same H H' → Q (.bl true) H'
theorem scCodeY : FnScope ["instruction_set", "value", "greatest", "byte"] ["instruction_set", "value"] (defScope sIsCode) := ⟨rfl, rfl, rfl, by decide +kernel, rfl, by decide +kernel, by decide +kernel⟩
theorem ok_codeY {f fB C : Addr} {fd fdB : FuncData} {k : Nat} (F : Fun K "is_code" "is_code" sIsCode f fd) (T : Bi mg) (S : SetTxt K mg C)
    (B : Def K mg "is_integer_between" sBetween fB fdB ["value", "least", "most"]) (GB : FnOk P w K mg base CX0 k fB fdB ["value", "least", "most"] spBetween) : FnOk P w K mg base CX0 (k + 1) f fd ["instruction_set", "value"] (spCodeY K C) := by
  refine F.ok scCodeY (fun vs H Q E h => ?_) (fun cdv A' outer s H vs Q E hr h => ?_)
  · obtain ⟨p, it, c, cnt, is, bs, rfl, _⟩ := h
    rfl
  · obtain ⟨p, it, c, cnt, is, bs, rfl, SA, hc, hb, low, q⟩ := h
    refine ⟨_, pss_cons (ps_if (pt_not (pt_val (pe_callB call_isi (by rfl) T.isi (by decide +kernel) (pa_cons (pv 1) (pa_cons (pe_bltn (v := .ty "tuple") (u := .type "tuple") (by rfl) T.tuple (by decide +kernel) rfl) pa_nil))))) (pss_one (ps_ret pe_bl)) pss_nil)
      (pss_cons (ps_set (i := 2) scCodeY.nd rfl (.inr rfl) (pe_op op_sub (pe_fld (pv 0) rfl) pe_int))
      (pss_one (ps_ret (pe_callB (cr_all rfl) (by rfl) T.all (by decide +kernel) (pa_cons
        (pe_lc (own := [("byte", 3)]) (g := gName 3) (tt := tYes) (by rfl) scCodeY.nd (pi_tup (pv 1)) (blkOk_by (own := [("byte", 3)]) (N := ["instruction_set", "value", "greatest", "byte"]) (sc := defScope sIsCode) (by decide +kernel))
          (fun _ _ _ _ _ => pg_name (i := 3) scCodeY.nd rfl (Or.inl rfl)) (fun _ _ _ _ _ => pts_nil)
          (fun _ _ _ _ _ => pe_call GB hr (by rfl) B.gl B.fn.kp B.bi .nil pass0 (pa_cons (pv 3) (pa_cons pe_int (pa_cons (pv 2) pa_nil))))) pa_nil))))), ?_⟩
    have Dc : Dx K H (.ref c) (.tuple (bs.map PyData.int)) := .tup hc (dx_ints bs)
    obtain ⟨dx, d1, d2, hp, _, _⟩ := SA.ob
    refine ⟨_, rfl, _, _, _, _, _, rfl, .ty _, Dc.ty, kit_ty (kit_t _), _, rfl, iteF ?_⟩
    refine ⟨_, rfl, p, C, dx, _, _, rfl, hp, S.cl, S.nB, flds_cnt _ _ _ _, _, _, rfl, rfl, ?_⟩
    refine ⟨_, rfl, c, rfl, ⟨_, hc⟩, fun D nD => lc_tup (K := K) (a := c) (xs := bs.map V.int) (fun i H2 => Mk H H2 D ((List.replicate i true).map V.bl)) (.start nD) (fun i H2 _ p => p.same.tup hc) ?_ ?_⟩
    · intro i x H2 hx mk
      rw [List.getElem?_map] at hx
      obtain ⟨b, hbx, rfl⟩ := Option.map_eq_some_iff.mp hx
      have hi := (List.getElem?_eq_some_iff.mp hbx).1
      have lo := low b (List.mem_of_getElem? hbx)
      refine ⟨rfl, _, rfl, _, rfl, _, _, _, rfl, by omega, by omega, _, mk.at_, by rw [List.length_map, List.length_replicate, sizeLine_eq]; omega, ?_⟩
      rw [List.replicate_succ', List.map_append]
      exact mk.put (Same.refl _)
    intro H2 mk
    refine ⟨D, _, rfl, SqL.of mk.at_, ?_⟩
    rw [all_true]
    exact q H2 mk.same
/-! ### is_filler of a code -/
/-- what each decoder's walk tells -/
def Told (is : List I4) (bs cs : List Int) (fs : List Bool) : Prop := fs.length = cs.length ∧ ∀ (i : Nat) (x : Int) (b : Bool), cs[i]? = some x → fs[i]? = some b → ∃ begun fol, Ended (laOf is) bs x.toNat begun fol ∧ b = padFrom is bs begun fol
def spIsF (K : PySem.W.Frag) (C : Addr) : Sp := fun vs H Q _ => ∃ (p it c d : Addr) (cnt lg : Nat) (is : List I4) (rs : List Addr) (cs bs : List Int), vs = [.ref p, .ref c, .ref d] ∧ Mach C H p cnt lg it is rs ∧ SqT K H c (cs.map V.int) ∧ Cds (lonOf is) cs ∧ SqT K H d (bs.map V.int) ∧ bs.length ≤ 100000 ∧ (∀ b ∈ bs, 0 ≤ b ∧ b < (cnt : Int)) ∧
  ∀ H' (fs : List Bool), Same H H' → Told is bs cs fs → Q (.bl (fs.all id)) H'
theorem scIsF : FnScope ["instruction_set", "countdowns", "value", "countdown"] ["instruction_set", "countdowns", "value"] (defScope s_is_filler) := ⟨rfl, rfl, rfl, by decide +kernel, rfl, by decide +kernel, by decide +kernel⟩
theorem ok_isF {f fC fY fP C : Addr} {fd fdC fdY fdP : FuncData} {k : Nat} (F : Fun K "is_filler" "is_filler" s_is_filler f fd) (T : Bi mg)
    (Ch : Def K mg "check_countdowns" s_check_countdowns fC fdC ["instruction_set", "countdowns"]) (GC : FnOk P w K mg base CX0 k fC fdC ["instruction_set", "countdowns"] (spChkC K C))
    (Ic : Def K mg "is_code" sIsCode fY fdY ["instruction_set", "value"]) (GY : FnOk P w K mg base CX0 k fY fdY ["instruction_set", "value"] (spCodeY K C))
    (Pf : Def K mg "is_padded_from" s_is_padded_from fP fdP ["instruction_set", "code", "entry"]) (GP : FnOk P w K mg base CX0 k fP fdP ["instruction_set", "code", "entry"] (spPadF K C)) :
    FnOk P w K mg base CX0 (k + 1) f fd ["instruction_set", "countdowns", "value"] (spIsF K C) := by
  refine F.ok scIsF (fun vs H Q E h => ?_) (fun cdv A' outer s H vs Q E hr h => ?_)
  · obtain ⟨p, it, c, d, cnt, lg, is, rs, cs, bs, rfl, _⟩ := h
    rfl
  · obtain ⟨p, it, c, d, cnt, lg, is, rs, cs, bs, rfl, M, hc, hcs, hd, hb, low, q⟩ := h
    refine ⟨_, pss_cons (ps_expr (pe_call GC hr (by rfl) Ch.gl Ch.fn.kp Ch.bi .nil pass0 (pa_cons (pv 0) (pa_cons (pv 1) pa_nil))))
      (pss_cons (ps_if (pt_not (pt_val (pe_call GY hr (by rfl) Ic.gl Ic.fn.kp Ic.bi .nil pass0 (pa_cons (pv 0) (pa_cons (pv 2) pa_nil))))) (pss_one (ps_ret pe_bl)) pss_nil)
      (pss_one (ps_ret (pe_callB (cr_all rfl) (by rfl) T.all (by decide +kernel) (pa_cons
        (pe_lc (own := [("countdown", 3)]) (g := gName 3) (tt := tYes) (by rfl) scIsF.nd (pi_tup (pv 1)) (blkOk_by (own := [("countdown", 3)]) (N := ["instruction_set", "countdowns", "value", "countdown"]) (sc := defScope s_is_filler) (by decide +kernel))
          (fun _ _ _ _ _ => pg_name (i := 3) scIsF.nd rfl (Or.inl rfl)) (fun _ _ _ _ _ => pts_nil)
          (fun _ _ _ _ _ => pe_call GP hr (by rfl) Pf.gl Pf.fn.kp Pf.bi .nil pass0 (pa_cons (pv 0) (pa_cons (pv 2) (pa_cons (pv 3) pa_nil))))) pa_nil))))), ?_⟩
    refine ⟨_, rfl, _, rfl, p, it, c, cnt, lg, is, rs, cs, rfl, M, hc, hcs, fun H1 s1 => ?_⟩
    refine ⟨_, rfl, _, rfl, p, it, d, cnt, is, bs, rfl, (M.same s1).at_, s1.tup hd, hb, low, fun H2 s2 => ⟨_, rfl, iteF ?_⟩⟩
    have s02 := s1.trans s2
    have hc2 := s02.tup hc
    refine ⟨_, rfl, c, rfl, ⟨_, hc2⟩, fun D nD => lc_tup (K := K) (a := c) (xs := cs.map V.int) (fun i G => ∃ fs : List Bool, Mk H2 G D (fs.map V.bl) ∧ Told is bs (cs.take i) fs) ⟨[], .start nD, ⟨rfl, fun i x b h => by simp at h⟩⟩ (fun i G _ ⟨_, mk, _⟩ => mk.same.tup hc2) ?_ ?_⟩
    · rintro i x G hx ⟨fs, mk, fl, fv⟩
      rw [List.getElem?_map] at hx
      obtain ⟨cd, hcd, rfl⟩ := Option.map_eq_some_iff.mp hx
      have hi := (List.getElem?_eq_some_iff.mp hcd).1
      have lo := hcs.low cd (List.mem_of_getElem? hcd)
      have fw := hcs.few
      obtain ⟨e, rfl⟩ : ∃ e : Nat, cd = (e : Int) := ⟨cd.toNat, by omega⟩
      rw [List.length_take] at fl
      have sG := s02.trans mk.same
      refine ⟨rfl, _, rfl, _, rfl, _, rfl, p, it, d, cnt, lg, is, rs, bs, e, rfl, M.same sG, sG.tup hd, hb, fun G2 begun fol s3 en => ?_⟩
      refine ⟨_, s3 _ _ mk.at_, by rw [List.length_map, sizeLine_eq]; omega, fs ++ [padFrom is bs begun fol], by rw [List.map_append]; exact mk.put s3, ?_, fun j x b h1 h2 => ?_⟩
      · rw [List.length_append, fl, List.length_take]; show _ + 1 = _; omega
      · rw [take_more hcd] at h1
        have tl : (cs.take i).length = fs.length := by rw [List.length_take, fl]
        by_cases cj : j < fs.length
        · rw [List.getElem?_append_left (by rw [tl]; exact cj)] at h1
          rw [List.getElem?_append_left cj] at h2
          exact fv j x b h1 h2
        · have jl := (List.getElem?_eq_some_iff.mp h2).1
          rw [List.length_append, List.length_singleton] at jl
          have ej : j = fs.length := by omega
          subst ej
          rw [List.getElem?_append_right (by rw [tl]; exact Nat.le_refl _), tl, Nat.sub_self] at h1
          rw [List.getElem?_append_right (Nat.le_refl _), Nat.sub_self] at h2
          have e1 : (e : Int) = x := Option.some.inj h1
          have e2 : padFrom is bs begun fol = b := Option.some.inj h2
          subst e1 e2
          exact ⟨begun, fol, by rw [Int.toNat_natCast]; exact en, rfl⟩
    · rintro G ⟨fs, mk, told⟩
      rw [List.length_map, List.take_length] at told
      exact ⟨D, fs, rfl, SqL.of mk.at_, q G fs (s02.trans mk.same) told⟩
end
end Ov
namespace Ov
open PySem PySem.Spec PyProof.Rows L2
/-! ### the least filler, from left to right -/
def bStep (fit : Nat → Option (Nat × Nat)) (o : Nat) (s : List Int × (Nat → Bool)) : List Int × (Nat → Bool) :=
  if s.2 o = true then match fit o with
    | some q => (s.1 ++ [(q.1 : Int)], fun k => s.2 k || decide (k = o + q.2))
    | none => (s.1 ++ [0], s.2)
  else (s.1 ++ [0], s.2)
def bld (fit : Nat → Option (Nat × Nat)) (B0 : Nat → Bool) : Nat → List Int × (Nat → Bool)
  | 0 => ([], B0)
  | o + 1 => bStep fit o (bld fit B0 o)
theorem bStep_len (fit : Nat → Option (Nat × Nat)) (o : Nat) (s : List Int × (Nat → Bool)) : (bStep fit o s).1.length = s.1.length + 1 := by
  unfold bStep
  split
  · cases fit o with
    | none => simp
    | some q => simp
  · simp
theorem bld_len (fit : Nat → Option (Nat × Nat)) (B0 : Nat → Bool) : ∀ o, (bld fit B0 o).1.length = o
  | 0 => rfl
  | o + 1 => by show (bStep fit o (bld fit B0 o)).1.length = o + 1; rw [bStep_len, bld_len fit B0 o]
def fitF (a : List (Option Nat)) (qs : List (Nat × Nat)) (n : Nat) (o : Nat) : Option (Nat × Nat) := qs.find? fun q => reachI a ((n : Int) - (o : Int) - (q.2 : Int))
theorem fit_some {ns : List Int} {is : List I4} (PL : PadL is ns) (Ln : Lens ns) {n o : Nat} (h : reachI (leasts (ns.map Int.toNat)) ((n : Int) - (o : Int)) = true) (lt : o < n) : ∃ q ∈ pads is, reachI (leasts (ns.map Int.toNat)) ((n : Int) - (o : Int) - (q.2 : Int)) = true := by
  unfold reachI at h
  rw [if_pos (by omega), isSum_iff _ (lens_pos Ln)] at h
  rcases Sum.step.mp h with z | ⟨l, hl, le, hs⟩
  · omega
  · obtain ⟨m, hm, rfl⟩ := List.mem_map.mp hl
    have lo := Ln.low m hm
    obtain ⟨x, hx, pd, ex⟩ := (PL.mem m).mp hm
    refine ⟨(x.op, x.ln), List.mem_map.mpr ⟨x, List.mem_filter.mpr ⟨hx, pd⟩, rfl⟩, ?_⟩
    unfold reachI
    show (if 0 ≤ (n : Int) - (o : Int) - (x.ln : Int) then _ else false) = true
    rw [if_pos (by omega), isSum_iff _ (lens_pos Ln)]
    rw [show ((n : Int) - (o : Int) - (x.ln : Int)).toNat = ((n : Int) - (o : Int)).toNat - m.toNat by omega]
    exact hs
theorem reach_le {a : List (Option Nat)} {t : Int} (h : reachI a t = true) : 0 ≤ t := by
  unfold reachI at h
  by_cases z : 0 ≤ t
  · exact z
  · rw [if_neg z] at h; cases h
theorem set_range {n j : Nat} {f : Nat → Bool} (hj : j < n) : (((List.range n).map fun k => V.bl (f k)).set j (V.bl true)) = (List.range n).map fun k => V.bl (f k || decide (k = j)) := by
  refine List.ext_getElem? fun k => ?_
  rw [List.getElem?_set, List.length_map, List.length_range, List.getElem?_map, List.getElem?_map]
  by_cases e : j = k
  · subst e
    rw [if_pos rfl, if_pos hj, List.getElem?_range hj]
    simp
  · rw [if_neg e]
    by_cases hk : k < n
    · rw [List.getElem?_range hk]
      have : decide (k = j) = false := decide_eq_false (fun z => e z.symm)
      simp [this]
    · rw [List.getElem?_eq_none (by rw [List.length_range]; omega)]
      rfl
theorem ixN_nat {n j : Nat} (h : j < n) : ixN n (j : Int) = some j := ixN_at h
section
variable {P : Program} {w : World} {K : PySem.W.Frag} {mg : Str → Option Value} {base : Heap}
def spLeastF (K : PySem.W.Frag) : Sp := fun vs H Q _ => ∃ (pa la c : Addr) (ps : List Addr) (is : List I4) (ns cs : List Int) (n : Nat), vs = [.ref pa, .ref la, .ref c, .int (n : Int)] ∧ H pa = some (.lst (ps.map V.ref)) ∧ PadP H ps (pads is) ∧ H la = some (.tup ((leasts (ns.map Int.toNat)).map optV)) ∧ SqT K H c (cs.map V.int) ∧ PadL is ns ∧ Lens ns ∧ (∀ x ∈ cs, 0 ≤ x) ∧ n ≤ 100000 ∧ hasF (leasts (ns.map Int.toNat)) cs (n : Int) = true ∧
  ∀ H' r, Same H H' → H r = none → H' r = some (.tup ((bld (fitF (leasts (ns.map Int.toNat)) (pads is) n) (fun (k : Nat) => decide ((k : Int) ∈ cs)) n).1.map V.int)) → Q (.ref r) H'
theorem scLeastF : FnScope ["padding", "least", "countdowns", "length", "code", "begins", "countdown", "offset", "opcode", "size"] ["padding", "least", "countdowns", "length"] (defScope s_least_filler) := ⟨rfl, rfl, rfl, by decide +kernel, rfl, by decide +kernel, by decide +kernel⟩
theorem ok_leastF {f fF : Addr} {fd fdF : FuncData} {k : Nat} (F : Fun K "least_filler" "least_filler" s_least_filler f fd) (T : Bi mg) (Ff : Def K mg "first_fitting" s_first_fitting fF fdF ["padding", "least", "left"]) (GF : FnOk P w K mg base CX0 k fF fdF ["padding", "least", "left"] spFirst) :
    FnOk P w K mg base CX0 (k + 1) f fd ["padding", "least", "countdowns", "length"] (spLeastF K) := by
  refine F.ok scLeastF (fun vs H Q E h => ?_) (fun cdv A' outer s H vs Q E hr h => ?_)
  · obtain ⟨pa, la, c, ps, is, ns, cs, n, rfl, _⟩ := h
    rfl
  · obtain ⟨pa, la, c, ps, is, ns, cs, n, rfl, hpa, pp, hla, hc, PL, Ln, c0, hn, hf, q⟩ := h
    refine ⟨_, pss_cons (ps_set (i := 4) scLeastF.nd rfl (.inl rfl) (pe_op op_rep (pe_lst (pa_cons pe_int pa_nil)) (pv 3)))
      (pss_cons (ps_set (i := 5) scLeastF.nd rfl (.inl rfl) (pe_op op_rep (pe_lst (pa_cons pe_bl pa_nil)) (pe_op op_add (pv 3) pe_int)))
      (pss_cons (ps_for PassesOwn.never rfl (pi_tup (pv 2)) (pg_name (i := 6) scLeastF.nd rfl (.inl rfl)) (pss_one (ps_asg pe_bl (pg_sub (pv 5) (pv 6) set_list))))
      (pss_cons (ps_for PassesOwn.never rfl (pi_range1 (by rfl) T.range (pa_cons (pv 3) pa_nil)) (pg_name (i := 7) scLeastF.nd rfl (.inl rfl))
        (pss_one (ps_if (pt_val (pe_ix ix_list (pv 5) (pv 7) (fun _ _ => rfl)))
          (pss_cons (ps_asg (pe_call GF hr (by rfl) Ff.gl Ff.fn.kp Ff.bi .nil pass0 (pa_cons (pv 0) (pa_cons (pv 1) (pa_cons (pe_op op_sub (pv 3) (pv 7)) pa_nil)))) (pg_tup rfl (pgs_cons (pg_name (i := 8) scLeastF.nd rfl (.inl rfl)) (pgs_cons (pg_name (i := 9) scLeastF.nd rfl (.inl rfl)) pgs_nil))))
          (pss_cons (ps_asg (pv 8) (pg_sub (pv 4) (pv 7) set_list))
          (pss_one (ps_asg pe_bl (pg_sub (pv 5) (pe_op op_add (pv 7) (pv 9)) set_list))))) pss_nil)))
      (pss_one (ps_ret (pe_callTy call_tuple_of (by rfl) T.tuple (by decide +kernel) (pa_cons (pv 4) pa_nil))))))), ?_⟩
    have cle : ∀ x ∈ cs, x ≤ (n : Int) := fun x hx => ((hasF_iff Ln cs n).mp hf x hx).1
    -- the code, all 0
    refine ⟨by show 1 ≤ sizeLine; decide, fun l1 n1 => ⟨_, rfl, l1, (n : Int), [V.int 0], rfl, rfl, upd_same, by omega, by omega, by rw [sizeLine_eq]; show 1 * (n : Int).toNat ≤ _; omega, fun cl ncl => ?_⟩⟩
    rw [flat_rep, Int.toNat_natCast]
    have s1 := (same_upd (o := HO.lst [V.int 0]) n1).trans (same_upd (o := HO.lst (List.replicate n (V.int 0))) ncl)
    have hcl : upd (upd H l1 (HO.lst [V.int 0])) cl (HO.lst (List.replicate n (V.int 0))) cl = some (.lst (List.replicate n (V.int 0))) := upd_same
    have ncl0 : H cl = none := (same_upd (o := HO.lst [V.int 0]) n1).free ncl
    generalize upd (upd H l1 (HO.lst [V.int 0])) cl (HO.lst (List.replicate n (V.int 0))) = H1 at *
    refine ⟨by show 1 ≤ sizeLine; decide, fun l2 n2 => ⟨_, rfl, _, _, rfl, rfl, l2, (n : Int) + 1, [V.bl false], rfl, rfl, upd_same, by omega, by omega, by rw [sizeLine_eq]; show 1 * ((n : Int) + 1).toNat ≤ _; omega, fun bl nbl => ?_⟩⟩
    rw [flat_rep, show ((n : Int) + 1).toNat = n + 1 by omega]
    have s2a := same_upd (o := HO.lst [V.bl false]) n2
    have s2b := same_upd (o := HO.lst (List.replicate (n + 1) (V.bl false))) nbl
    have s2 := s2a.trans s2b
    have hbl : upd (upd H1 l2 (HO.lst [V.bl false])) bl (HO.lst (List.replicate (n + 1) (V.bl false))) bl = some (.lst ((List.range (n + 1)).map fun k => V.bl ((fun _ => false) k))) := by
      rw [upd_same]
      congr 2
      refine List.ext_getElem? fun k => ?_
      rw [List.getElem?_map]
      by_cases hk : k < n + 1
      · rw [List.getElem?_range hk, List.getElem?_replicate, if_pos hk]; rfl
      · rw [List.getElem?_eq_none (by rw [List.length_replicate]; omega), List.getElem?_eq_none (by rw [List.length_range]; omega)]; rfl
    have nbl1 : H1 bl = none := s2a.free nbl
    have nbl0 : H bl = none := s1.free nbl1
    have cb : cl ≠ bl := fun z => by rw [z, nbl1] at hcl; cases hcl
    replace hcl := s2 _ _ hcl
    have s02 := s1.trans s2
    generalize upd (upd H1 l2 (HO.lst [V.bl false])) bl (HO.lst (List.replicate (n + 1) (V.bl false))) = H2 at *
    -- where decoders begin
    refine ⟨_, rfl, c, rfl, ⟨_, s02.tup hc⟩, for_tup (K := K) (a := c) (xs := cs.map V.int) (fun i σ G => Same H G ∧ G cl = some (.lst (List.replicate n (V.int 0))) ∧ G bl = some (.lst ((List.range (n + 1)).map fun (k : Nat) => V.bl (decide ((k : Int) ∈ cs.take i)))) ∧ ∃ y6, σ = [some (.ref pa), some (.ref la), some (.ref c), some (.int (n : Int)), some (.ref cl), some (.ref bl), y6, none, none, none])
      ⟨s02, hcl, by rw [hbl]; simp, _, rfl⟩ (fun i σ G _ ⟨sG, _⟩ => sG.tup hc) ?_ ?_⟩
    · rintro i x σ G hx ⟨sG, gcl, gbl, y6, rfl⟩
      rw [List.getElem?_map] at hx
      obtain ⟨cd, hcd, rfl⟩ := Option.map_eq_some_iff.mp hx
      have m := List.mem_of_getElem? hcd
      have lo := c0 cd m
      have hi := cle cd m
      obtain ⟨j, rfl⟩ : ∃ j : Nat, cd = (j : Int) := ⟨cd.toNat, by omega⟩
      refine ⟨_, rfl, _, rfl, bl, _, (j : Int), j, rfl, rfl, gbl, ixN_nat (by rw [List.length_map, List.length_range]; omega), fun b o e => by rw [upd_ne (ne_of_none e nbl0)]; exact sG b o e, by rw [upd_ne cb]; exact gcl, ?_, _, rfl⟩
      rw [upd_same, set_range (by omega)]
      congr 3
      funext k
      rw [take_more hcd]
      congr 1
      by_cases e1 : (k : Int) ∈ cs.take i
      · simp [e1]
      · by_cases e2 : k = j
        · subst e2; simp
        · have : ¬ (k : Int) = (j : Int) := by omega
          simp [e1, e2, this]
    rintro σ H3 ⟨s03, h3cl, h3bl, y6, rfl⟩
    rw [List.length_map, List.take_length] at h3bl
    -- byte by byte
    generalize hfit : fitF (leasts (ns.map Int.toNat)) (pads is) n = fit at *
    refine ⟨_, rfl, _, rfl, by omega, by omega, for_range (lo := 0) (fun o σ G => Same H G ∧ G cl = some (.lst ((bld fit (fun (k : Nat) => decide ((k : Int) ∈ cs)) o).1.map V.int ++ List.replicate (n - o) (V.int 0))) ∧ G bl = some (.lst ((List.range (n + 1)).map fun k => V.bl ((bld fit (fun (k : Nat) => decide ((k : Int) ∈ cs)) o).2 k))) ∧ (∀ k, (bld fit (fun (k : Nat) => decide ((k : Int) ∈ cs)) o).2 k = true → k ≤ n ∧ reachI (leasts (ns.map Int.toNat)) ((n : Int) - (k : Int)) = true) ∧ ∃ y6 y7 y8 y9, σ = [some (.ref pa), some (.ref la), some (.ref c), some (.int (n : Int)), some (.ref cl), some (.ref bl), y6, y7, y8, y9])
      ⟨s03, by rw [h3cl]; rfl, h3bl, fun k hk => ?_, _, _, _, _, rfl⟩ ?_ ?_⟩
    · have m : (k : Int) ∈ cs := of_decide_eq_true hk
      have z := (hasF_iff Ln cs n).mp hf _ m
      refine ⟨by omega, ?_⟩
      unfold reachI
      rw [if_pos (by omega), isSum_iff _ (lens_pos Ln)]
      exact z.2
    · rintro o σ G ho ⟨sG, gcl, gbl, inv, y6, y7, y8, y9, rfl⟩
      rw [Int.toNat_natCast] at ho
      have e0 : (0 : Int) + (o : Int) = (o : Int) := by omega
      rw [e0]
      have bo : atI ((List.range (n + 1)).map fun k => V.bl ((bld fit (fun (k : Nat) => decide ((k : Int) ∈ cs)) o).2 k)) (o : Int) = some (V.bl ((bld fit (fun (k : Nat) => decide ((k : Int) ∈ cs)) o).2 o)) := atI_nat (by rw [List.getElem?_map, List.getElem?_range (by omega)]; rfl)
      refine ⟨_, rfl, _, rfl, bl, _, _, _, rfl, rfl, SqL.of gbl, bo, _, rfl, ?_⟩
      have len := bld_len fit (fun (k : Nat) => decide ((k : Int) ∈ cs)) o
      show if (bld fit (fun (k : Nat) => decide ((k : Int) ∈ cs)) o).2 o = true then _ else _
      have estep : bld fit (fun (k : Nat) => decide ((k : Int) ∈ cs)) (o + 1) = bStep fit o (bld fit (fun (k : Nat) => decide ((k : Int) ∈ cs)) o) := rfl
      rw [estep]
      generalize bld fit (fun (k : Nat) => decide ((k : Int) ∈ cs)) o = st at *
      have zero : st.1.map V.int ++ List.replicate (n - o) (V.int 0) = (st.1 ++ [0]).map V.int ++ List.replicate (n - (o + 1)) (V.int 0) := by
        rw [List.map_append, List.append_assoc, show n - o = n - (o + 1) + 1 by omega, List.replicate_succ]
        rfl
      cases eb : st.2 o with
      | false =>
        have es : bStep fit o st = (st.1 ++ [0], st.2) := by unfold bStep; rw [eb, if_neg (by decide)]
        rw [es]
        exact iteF ⟨sG, by rw [gcl, zero], gbl, inv, _, _, _, _, rfl⟩
      | true =>
        have rc := (inv o eb).2
        obtain ⟨q0, hq0, hr0⟩ := fit_some PL Ln rc ho
        obtain ⟨j0, hj0⟩ := List.mem_iff_getElem?.mp hq0
        refine iteT ⟨_, rfl, _, rfl, _, rfl, _, rfl, _, _, rfl, rfl, pa, la, ps, pads is, _, (n : Int) - (o : Int), j0, q0, rfl, sG _ _ hpa, pp.same sG, sG _ _ hla, hj0, hr0, fun r i q1 hq1 hr1 first hr => ?_⟩
        have hfo : fit o = some q1 := by
          rw [← hfit]
          unfold fitF
          rw [List.find?_eq_some_iff_getElem]
          obtain ⟨hl, eq⟩ := List.getElem?_eq_some_iff.mp hq1
          refine ⟨hr1, i, hl, eq, fun j hj => ?_⟩
          rw [first j _ hj (List.getElem?_eq_getElem (by omega))]
          rfl
        have es : bStep fit o st = (st.1 ++ [(q1.1 : Int)], fun k => st.2 k || decide (k = o + q1.2)) := by unfold bStep; rw [eb, if_pos rfl, hfo]
        rw [es]
        have le := reach_le hr1
        refine ⟨r, _, rfl, SqT.of hr, rfl, _, _, rfl, _, _, rfl, rfl, ?_⟩
        refine ⟨_, rfl, _, rfl, _, rfl, cl, _, (o : Int), o, rfl, rfl, gcl, ixN_nat (by rw [List.length_append, List.length_map, len, List.length_replicate]; omega), ?_⟩
        refine ⟨_, rfl, _, rfl, _, rfl, _, _, rfl, rfl, bl, _, (o : Int) + (q1.2 : Int), o + q1.2, rfl, rfl, by rw [upd_ne (Ne.symm cb)]; exact gbl, by rw [show (o : Int) + (q1.2 : Int) = ((o + q1.2 : Nat) : Int) by omega]; exact ixN_nat (by rw [List.length_map, List.length_range]; omega), fun b x e => ?_, ?_, ?_, fun k hk => ?_, _, _, _, _, rfl⟩
        · rw [upd_ne (ne_of_none e nbl0), upd_ne (ne_of_none e ncl0)]
          exact sG b x e
        · rw [upd_ne cb, upd_same, zero, List.map_append, List.append_assoc, List.set_append_right _ _ (by rw [List.length_map, len]; exact Nat.le_refl _), List.length_map, len, Nat.sub_self, List.map_append, List.append_assoc]
          rfl
        · rw [upd_same, set_range (by omega)]
        · rcases Bool.or_eq_true_iff.mp hk with z | z
          · exact inv k z
          · have : k = o + q1.2 := of_decide_eq_true z
            subst this
            refine ⟨by omega, ?_⟩
            rw [show (n : Int) - ((o + q1.2 : Nat) : Int) = (n : Int) - (o : Int) - (q1.2 : Int) by omega]
            exact hr1
    · rintro σ G ⟨sG, gcl, gbl, inv, y6, y7, y8, y9, rfl⟩
      rw [Int.toNat_natCast, Nat.sub_self, List.replicate_zero, List.append_nil] at gcl
      refine ⟨_, rfl, cl, _, rfl, .inl ⟨SqL.of gcl, fun r nr => ?_⟩⟩
      have sr := same_upd (o := HO.tup ((bld fit (fun (k : Nat) => decide ((k : Int) ∈ cs)) n).1.map V.int)) nr
      exact q _ r (sG.trans sr) (sG.free nr) upd_same
end
end Ov
namespace Ov
open PySem PySem.Spec PyProof.Rows L2
def nV (n : Nat) : V := .int (n : Int)
theorem padL_le {cnt lg : Nat} {is : List I4} {ns : List Int} (ok : TabOk cnt lg is) (PL : PadL is ns) : ∀ l ∈ ns.map Int.toNat, 0 < l ∧ l ≤ 12 := fun l hl => by
  obtain ⟨n, hn, rfl⟩ := List.mem_map.mp hl
  obtain ⟨x, hx, _, rfl⟩ := (PL.mem n).mp hn
  have := ok.len x hx
  have := ok.lb
  omega
theorem short_le {cnt lg : Nat} {is : List I4} {ns cs : List Int} {n : Nat} (ok : TabOk cnt lg is) (PL : PadL is ns) (Ln : Lens ns) (hc : Cds (lonOf is) cs) (nc : NoConf (gcdAll (ns.map Int.toNat)) cs) (mn : ∀ m : Nat, m < n → hasF (leasts (ns.map Int.toNat)) cs (m : Int) = false) : n ≤ 180 := by
  have lo := (lon_le ok).2
  have key : ∃ N : Nat, N ≤ 180 ∧ hasF (leasts (ns.map Int.toNat)) cs (N : Int) = true := by
    cases cs with
    | nil => exact ⟨0, by omega, rfl⟩
    | cons c0 r =>
      have h0 := hc.low c0 List.mem_cons_self
      obtain ⟨N, hN, h1, h2, h3⟩ := far_fill_le (padL_le ok PL) (c0 := c0) (cs := r) ⟨h0.1, by omega⟩ (fun c hm => by have := hc.low c (List.mem_cons_of_mem _ hm); omega) (fun c hm => nc c0 c rfl hm)
      refine ⟨N, hN, (hasF_iff Ln _ _).mpr fun c hm => ?_⟩
      rcases List.mem_cons.mp hm with rfl | hm
      · exact ⟨h1, h2⟩
      · exact h3 c hm
  obtain ⟨N, hN, hf⟩ := key
  by_cases z : n ≤ N
  · omega
  · rw [mn N (by omega)] at hf; cases hf
end Ov
namespace Ov
open PySem PySem.Spec PyProof.Rows L2
section
variable {P : Program} {w : World} {K : PySem.W.Frag} {mg : Str → Option Value} {base : Heap}
/-! ### filler_lengths -/
def spFLens (K : PySem.W.Frag) (C : Addr) : Sp := fun vs H Q _ => ∃ (p it c : Addr) (cnt lg : Nat) (is : List I4) (rs : List Addr) (cs : List Int) (mo : Nat), vs = [.ref p, .ref c, .int (mo : Int)] ∧ mo ≤ 100000 ∧ Mach C H p cnt lg it is rs ∧ SqT K H c (cs.map V.int) ∧ Cds (lonOf is) cs ∧
  ∀ H' r ns, Same H H' → H r = none → PadL is ns → Lens ns → H' r = some (.tup (((List.range (mo + 1)).filter fun n => hasF (leasts (ns.map Int.toNat)) cs ((n : Nat) : Int)).map nV)) → Q (.ref r) H'
theorem scFLens : FnScope ["instruction_set", "countdowns", "most", "least", "length"] ["instruction_set", "countdowns", "most"] (defScope s_filler_lengths) := ⟨rfl, rfl, rfl, by decide +kernel, rfl, by decide +kernel, by decide +kernel⟩
theorem ok_fLens {f fC fP fS fH C : Addr} {fd fdC fdP fdS fdH : FuncData} {k : Nat} (F : Fun K "filler_lengths" "filler_lengths" s_filler_lengths f fd) (T : Bi mg) (S : SetTxt K mg C)
    (Ch : Def K mg "check_countdowns" s_check_countdowns fC fdC ["instruction_set", "countdowns"]) (GC : FnOk P w K mg base CX0 k fC fdC ["instruction_set", "countdowns"] (spChkC K C))
    (MP : Meth K C "padding_lengths" fP) (bP : Binds K fdP ["self"] []) (GP : FnOk P w K mg base CX0 k fP fdP ["self"] (spPadLens C))
    (Ls : Def K mg "least_sums" sLeast fS fdS ["lengths"]) (GS : FnOk P w K mg base CX0 k fS fdS ["lengths"] spLeast)
    (Hf : Def K mg "has_filler" s_has_filler fH fdH ["least", "countdowns", "length"]) (GH : FnOk P w K mg base CX0 k fH fdH ["least", "countdowns", "length"] (spHasF K)) :
    FnOk P w K mg base CX0 (k + 1) f fd ["instruction_set", "countdowns", "most"] (spFLens K C) := by
  refine F.ok scFLens (fun vs H Q E h => ?_) (fun cdv A' outer s H vs Q E hr h => ?_)
  · obtain ⟨p, it, c, cnt, lg, is, rs, cs, mo, rfl, _⟩ := h
    rfl
  · obtain ⟨p, it, c, cnt, lg, is, rs, cs, mo, rfl, hmo, M, hc, hcs, q⟩ := h
    refine ⟨_, pss_cons (ps_expr (pe_call GC hr (by rfl) Ch.gl Ch.fn.kp Ch.bi .nil pass0 (pa_cons (pv 0) (pa_cons (pv 1) pa_nil))))
      (pss_cons (ps_set (i := 3) scFLens.nd rfl (.inr rfl) (pe_call GS hr (by rfl) Ls.gl Ls.fn.kp Ls.bi .nil pass0 (pa_cons (pe_meth0 (pv 0) S.cl MP GP hr bP .nil pass0) pa_nil)))
      (pss_one (ps_ret (pe_callTy call_tuple_of (by rfl) T.tuple (by decide +kernel) (pa_cons (pe_lc (own := [("length", 4)]) (g := gName 4) (by rfl) scFLens.nd (pi_range1 (by rfl) T.range (pa_cons (pe_op op_add (pv 2) pe_int) pa_nil))
        (blkOk_by (own := [("length", 4)]) (N := ["instruction_set", "countdowns", "most", "least", "length"]) (sc := defScope s_filler_lengths) (by decide +kernel))
        (fun _ _ _ _ _ => pg_name (i := 4) scFLens.nd rfl (Or.inl rfl)) (fun _ _ _ _ _ => pts_one (pt_val (pe_call GH hr (by rfl) Hf.gl Hf.fn.kp Hf.bi .nil pass0 (pa_cons (pv 3) (pa_cons (pv 1) (pa_cons (pv 4) pa_nil))))))
        (fun _ _ _ _ _ => pv 4)) pa_nil))))), ?_⟩
    refine ⟨_, rfl, _, rfl, p, it, c, cnt, lg, is, rs, cs, rfl, M, hc, hcs, fun H1 s1 => ?_⟩
    have M1 := M.same s1
    obtain ⟨dx, d1, d2, hp, _, _⟩ := M1.at_.ob
    refine ⟨_, rfl, p, dx, _, rfl, hp, no_meth3 _ _ _ _, p, it, cnt, lg, is, rs, rfl, M1, fun H2 r2 ns s2 nr2 PL few hr2 => ?_⟩
    have Ln := PL.lens M.ok few
    refine ⟨r2, ns, rfl, hr2, Ln, fun H3 l3 s3 nl3 hl3 => ?_⟩
    have s03 := s1.trans (s2.trans s3)
    refine ⟨_, rfl, _, _, rfl, rfl, _, rfl, by omega, by omega, fun D nD => lc_range (lo := 0) (fun i G => Mk H3 G D (((List.range i).filter fun n => hasF (leasts (ns.map Int.toNat)) cs ((n : Nat) : Int)).map nV)) (.start nD) ?_ ?_⟩
    · intro i G hi mk
      rw [show (0 : Int) + (i : Int) = (i : Int) by omega]
      refine ⟨rfl, _, rfl, _, rfl, _, rfl, l3, c, _, cs, (i : Int), rfl, mk.same _ _ hl3, (s03.trans mk.same).tup hc, hcs.few, fun H5 s5 => ⟨_, rfl, ?_⟩⟩
      rw [List.range_succ, List.filter_append]
      cases e : hasF (leasts (ns.map Int.toNat)) cs (i : Int) with
      | true =>
        have el : (((List.range i).filter fun n => hasF (leasts (ns.map Int.toNat)) cs ((n : Nat) : Int)).map nV).length ≤ i := by
          rw [List.length_map]
          exact Nat.le_trans (List.length_filter_le _ _) (by rw [List.length_range]; exact Nat.le_refl _)
        refine iteT ⟨_, rfl, _, s5 _ _ mk.at_, by rw [sizeLine_eq]; omega, ?_⟩
        rw [List.filter_cons_of_pos (p := fun n : Nat => hasF (leasts (ns.map Int.toNat)) cs (n : Int)) e, List.map_append]
        exact mk.put s5
      | false =>
        refine iteF ?_
        rw [List.filter_cons_of_neg (p := fun n : Nat => hasF (leasts (ns.map Int.toNat)) cs (n : Int)) (by rw [e]; decide), List.filter_nil, List.append_nil]
        exact ⟨mk.same.trans s5, nD, s5 _ _ mk.at_⟩
    · intro G mk
      rw [show ((mo : Int) + 1).toNat = mo + 1 by omega] at mk
      refine ⟨D, _, rfl, .inl ⟨SqL.of mk.at_, fun r nr => ?_⟩⟩
      have sr := same_upd (o := HO.tup (((List.range (mo + 1)).filter fun n => hasF (leasts (ns.map Int.toNat)) cs ((n : Nat) : Int)).map nV)) nr
      exact q _ r ns (s03.trans (mk.same.trans sr)) (s03.free (mk.same.free nr)) PL Ln upd_same
/-! ### filler -/
end
end Ov
namespace Ov
open PySem PySem.Spec PyProof.Rows L2
section
variable {P : Program} {w : World} {K : PySem.W.Frag} {mg : Str → Option Value} {base : Heap}
def FilV (is : List I4) (ns cs : List Int) (x : V) (H' : Hp) (v : V) : Prop :=
  (v = .non ∧ ((x = .non ∧ ¬ NoConf (gcdAll (ns.map Int.toNat)) cs) ∨ ∃ n : Nat, x = .int (n : Int) ∧ hasF (leasts (ns.map Int.toNat)) cs (n : Int) = false)) ∨
  ∃ (r : Addr) (n : Nat), v = .ref r ∧ hasF (leasts (ns.map Int.toNat)) cs (n : Int) = true ∧ H' r = some (.tup ((bld (fitF (leasts (ns.map Int.toNat)) (pads is) n) (fun k : Nat => decide ((k : Int) ∈ cs)) n).1.map V.int)) ∧ n ≤ 100000 ∧
    (x = .int (n : Int) ∨ (x = .non ∧ NoConf (gcdAll (ns.map Int.toNat)) cs ∧ ∀ m : Nat, m < n → hasF (leasts (ns.map Int.toNat)) cs (m : Int) = false))
def spFiller (K : PySem.W.Frag) (C : Addr) : Sp := fun vs H Q _ => ∃ (p it c : Addr) (cnt lg : Nat) (is : List I4) (rs : List Addr) (cs : List Int) (x : V), vs = [.ref p, .ref c, x] ∧ (x = .non ∨ ∃ n : Nat, x = .int (n : Int) ∧ n ≤ 100000) ∧ Mach C H p cnt lg it is rs ∧ SqT K H c (cs.map V.int) ∧ Cds (lonOf is) cs ∧
  ∀ H' v ns, Same H H' → PadL is ns → Lens ns → FilV is ns cs x H' v → Q v H'
theorem scFiller : FnScope ["instruction_set", "countdowns", "length", "size", "least"] ["instruction_set", "countdowns", "length"] (defScope s_filler) := ⟨rfl, rfl, rfl, by decide +kernel, rfl, by decide +kernel, by decide +kernel⟩
theorem ok_filler {f fC fL fP fS fH fI fF C : Addr} {fd fdC fdL fdP fdS fdH fdI fdF : FuncData} {k : Nat} (F : FunD K "filler" "filler" (defArgs s_filler) (defBody s_filler) (defScope s_filler) [.non] [] f fd) (S : SetTxt K mg C)
    (Ch : Def K mg "check_countdowns" s_check_countdowns fC fdC ["instruction_set", "countdowns"]) (GC : FnOk P w K mg base CX0 k fC fdC ["instruction_set", "countdowns"] (spChkC K C))
    (Fl : Def K mg "filler_length" s_filler_length fL fdL ["instruction_set", "countdowns"]) (GL : FnOk P w K mg base CX0 k fL fdL ["instruction_set", "countdowns"] (spFLen K C))
    (MP : Meth K C "padding_lengths" fP) (bP : Binds K fdP ["self"] []) (GP : FnOk P w K mg base CX0 k fP fdP ["self"] (spPadLens C))
    (Ls : Def K mg "least_sums" sLeast fS fdS ["lengths"]) (GS : FnOk P w K mg base CX0 k fS fdS ["lengths"] spLeast)
    (Hf : Def K mg "has_filler" s_has_filler fH fdH ["least", "countdowns", "length"]) (GH : FnOk P w K mg base CX0 k fH fdH ["least", "countdowns", "length"] (spHasF K))
    (Pi : Def K mg "padding_instructions" s_padding_instructions fI fdI ["instruction_set"]) (GI : FnOk P w K mg base CX0 k fI fdI ["instruction_set"] (spPadI C))
    (Lf : Def K mg "least_filler" s_least_filler fF fdF ["padding", "least", "countdowns", "length"]) (GF : FnOk P w K mg base CX0 k fF fdF ["padding", "least", "countdowns", "length"] (spLeastF K)) :
    FnOk P w K mg base CX0 (k + 1) f fd ["instruction_set", "countdowns", "length"] (spFiller K C) := by
  refine F.ok scFiller (fun vs H Q E h => ?_) (fun cdv A' outer s H vs Q E hr h => ?_)
  · obtain ⟨p, it, c, cnt, lg, is, rs, cs, x, rfl, _⟩ := h
    rfl
  · obtain ⟨p, it, c, cnt, lg, is, rs, cs, x, rfl, hx, M, hc, hcs, q⟩ := h
    refine ⟨_, pss_cons (ps_expr (pe_call GC hr (by rfl) Ch.gl Ch.fn.kp Ch.bi .nil pass0 (pa_cons (pv 0) (pa_cons (pv 1) pa_nil))))
      (pss_cons (ps_set (i := 3) scFiller.nd rfl (.inl rfl) (pe_ifExp (pt_cmpR op_isN (pv 2) pe_non (nomark _)) (pe_call GL hr (by rfl) Fl.gl Fl.fn.kp Fl.bi .nil pass0 (pa_cons (pv 0) (pa_cons (pv 1) pa_nil))) (pv 2)))
      (pss_cons (ps_set (i := 4) scFiller.nd rfl (.inl rfl) (pe_call GS hr (by rfl) Ls.gl Ls.fn.kp Ls.bi .nil pass0 (pa_cons (pe_meth0 (pv 0) S.cl MP GP hr bP .nil pass0) pa_nil)))
      (pss_cons (ps_if (PW.pt (pw_or (pt_cmpR op_isN (pv 3) pe_non (nomark _)) (pw_or1 (pt_not (pt_val (pe_call GH hr (by rfl) Hf.gl Hf.fn.kp Hf.bi .nil pass0 (pa_cons (pv 4) (pa_cons (pv 1) (pa_cons (pv 3) pa_nil))))))))) (pss_one (ps_ret pe_non)) pss_nil)
      (pss_one (ps_ret (pe_call GF hr (by rfl) Lf.gl Lf.fn.kp Lf.bi .nil pass0 (pa_cons (pe_call GI hr (by rfl) Pi.gl Pi.fn.kp Pi.bi .nil pass0 (pa_cons (pv 0) pa_nil)) (pa_cons (pv 4) (pa_cons (pv 1) (pa_cons (pv 3) pa_nil)))))))))), ?_⟩
    refine ⟨_, rfl, _, rfl, p, it, c, cnt, lg, is, rs, cs, rfl, M, hc, hcs, fun H1 s1 => ?_⟩
    have M1 := M.same s1
    have hc1 := s1.tup hc
    refine ⟨_, rfl, rfl, _, rfl, ?_⟩
    rcases hx with rfl | ⟨n, rfl, hn⟩
    · refine iteT ⟨_, rfl, _, rfl, p, it, c, cnt, lg, is, rs, cs, rfl, M1, hc1, hcs, fun H2 v ns0 s2 PL0 Ln0 hv => ?_⟩
      have s02 := s1.trans s2
      rcases hv with ⟨rfl, nc⟩ | ⟨n, rfl, nc, hf, mn⟩
      · have M2 := M.same s02
        obtain ⟨dx, d1, d2, hp, _, _⟩ := M2.at_.ob
        refine ⟨_, rfl, p, dx, _, rfl, hp, no_meth3 _ _ _ _, p, it, cnt, lg, is, rs, rfl, M2, fun H3 r3 ns s3 nr3 PL few hr3 => ?_⟩
        have Ln := PL.lens M.ok few
        refine ⟨r3, ns, rfl, hr3, Ln, fun H4 l4 s4 nl4 hl4 => ?_⟩
        have s04 := s02.trans (s3.trans s4)
        refine ⟨_, rfl, rfl, _, rfl, iteT (iteT (q H4 _ ns s04 PL Ln (.inl ⟨rfl, .inl ⟨rfl, ?_⟩⟩)))⟩
        rw [PL.uniq PL0]
        exact nc
      · have hn : n ≤ 100000 := Nat.le_trans (short_le M.ok PL0 Ln0 hcs nc mn) (by decide)
        have src : ∀ ns, PadL is ns → (V.non = .int (n : Int) ∨ (V.non = .non ∧ NoConf (gcdAll (ns.map Int.toNat)) cs ∧ hasF (leasts (ns.map Int.toNat)) cs (n : Int) = true ∧ ∀ m : Nat, m < n → hasF (leasts (ns.map Int.toNat)) cs (m : Int) = false)) := fun ns PL => by
          rw [PL.uniq PL0]
          exact .inr ⟨rfl, nc, hf, mn⟩
        have M2 := M.same s02
        obtain ⟨dx, d1, d2, hp, _, _⟩ := M2.at_.ob
        refine ⟨_, rfl, p, dx, _, rfl, hp, no_meth3 _ _ _ _, p, it, cnt, lg, is, rs, rfl, M2, fun H3 r3 ns s3 nr3 PL few hr3 => ?_⟩
        have Ln := PL.lens M.ok few
        refine ⟨r3, ns, rfl, hr3, Ln, fun H4 l4 s4 nl4 hl4 => ?_⟩
        have s04 := s02.trans (s3.trans s4)
        refine ⟨_, rfl, rfl, _, rfl, ?_⟩
        rw [decide_eq_false (fun z => nomatch z)]
        refine iteF ⟨_, rfl, _, rfl, _, rfl, l4, c, _, cs, (n : Int), rfl, hl4, s04.tup hc, hcs.few, fun H5 s5 => ⟨_, rfl, ?_⟩⟩
        have s05 := s04.trans s5
        have src' := src ns PL
        cases e : hasF (leasts (ns.map Int.toNat)) cs (n : Int) with
        | false =>
          refine iteT (q H5 _ ns s05 PL Ln (.inl ⟨rfl, ?_⟩))
          rcases src' with z | ⟨_, _, z, _⟩
          · exact .inr ⟨n, z, e⟩
          · rw [z] at e; cases e
        | true =>
          refine iteF ⟨_, rfl, p, it, cnt, lg, is, rs, rfl, M.same s05, fun H6 r6 ps s6 nr6 h6 pp => ?_⟩
          refine ⟨_, rfl, _, rfl, _, rfl, r6, l4, c, ps, is, ns, cs, n, rfl, h6, pp, (s5.trans s6) _ _ hl4, (s05.trans s6).tup hc, PL, Ln, fun y hy => (hcs.low y hy).1, hn, e, fun H7 r7 s7 nr7 h7 => ?_⟩
          refine q H7 _ ns (s05.trans (s6.trans s7)) PL Ln (.inr ⟨r7, n, rfl, e, h7, hn, ?_⟩)
          rcases src' with z | ⟨z1, z2, _, z3⟩
          · exact .inl z
          · exact .inr ⟨z1, z2, z3⟩
    · refine iteF ⟨_, rfl, ?_⟩
      have s02 := s1
      have src : ∀ ns, PadL is ns → (V.int (n : Int) = .int (n : Int) ∨ (V.int (n : Int) = .non ∧ NoConf (gcdAll (ns.map Int.toNat)) cs ∧ hasF (leasts (ns.map Int.toNat)) cs (n : Int) = true ∧ ∀ m : Nat, m < n → hasF (leasts (ns.map Int.toNat)) cs (m : Int) = false)) := fun _ _ => .inl rfl
      have M2 := M.same s02
      obtain ⟨dx, d1, d2, hp, _, _⟩ := M2.at_.ob
      refine ⟨_, rfl, p, dx, _, rfl, hp, no_meth3 _ _ _ _, p, it, cnt, lg, is, rs, rfl, M2, fun H3 r3 ns s3 nr3 PL few hr3 => ?_⟩
      have Ln := PL.lens M.ok few
      refine ⟨r3, ns, rfl, hr3, Ln, fun H4 l4 s4 nl4 hl4 => ?_⟩
      have s04 := s02.trans (s3.trans s4)
      refine ⟨_, rfl, rfl, _, rfl, ?_⟩
      rw [decide_eq_false (fun z => nomatch z)]
      refine iteF ⟨_, rfl, _, rfl, _, rfl, l4, c, _, cs, (n : Int), rfl, hl4, s04.tup hc, hcs.few, fun H5 s5 => ⟨_, rfl, ?_⟩⟩
      have s05 := s04.trans s5
      have src' := src ns PL
      cases e : hasF (leasts (ns.map Int.toNat)) cs (n : Int) with
      | false =>
        refine iteT (q H5 _ ns s05 PL Ln (.inl ⟨rfl, ?_⟩))
        rcases src' with z | ⟨_, _, z, _⟩
        · exact .inr ⟨n, z, e⟩
        · rw [z] at e; cases e
      | true =>
        refine iteF ⟨_, rfl, p, it, cnt, lg, is, rs, rfl, M.same s05, fun H6 r6 ps s6 nr6 h6 pp => ?_⟩
        refine ⟨_, rfl, _, rfl, _, rfl, r6, l4, c, ps, is, ns, cs, n, rfl, h6, pp, (s5.trans s6) _ _ hl4, (s05.trans s6).tup hc, PL, Ln, fun y hy => (hcs.low y hy).1, hn, e, fun H7 r7 s7 nr7 h7 => ?_⟩
        refine q H7 _ ns (s05.trans (s6.trans s7)) PL Ln (.inr ⟨r7, n, rfl, e, h7, hn, ?_⟩)
        rcases src' with z | ⟨z1, z2, _, z3⟩
        · exact .inl z
        · exact .inr ⟨z1, z2, z3⟩
end
end Ov
namespace Ov
open PySem PySem.Spec PyProof.Rows L2
section
variable {P : Program} {w : World} {K : PySem.W.Frag} {mg : Str → Option Value} {base : Heap}
/-! ### all_countdowns -/
theorem rg_nat (b : Nat) : rgV 0 (b : Int) = ((List.range b).map fun k => ((k : Nat) : Int)).map V.int := by
  unfold rgV
  rw [List.map_map, show ((b : Int) - 0).toNat = b by omega]
  refine List.map_congr_left fun k _ => ?_
  show V.int (0 + (k : Int)) = V.int (k : Int)
  rw [Int.zero_add]
def spAllC (C : Addr) : Sp := fun vs H Q _ => ∃ (p it : Addr) (cnt lg : Nat) (is : List I4) (rs : List Addr), vs = [.ref p] ∧ Mach C H p cnt lg it is rs ∧
  ∀ H' r, Same H H' → H r = none → H' r = some (.tup (((List.range (lonOf is)).map fun k => ((k : Nat) : Int)).map V.int)) → Q (.ref r) H'
theorem scAllC : FnScope ["instruction_set"] ["instruction_set"] (defScope s_all_countdowns) := ⟨rfl, rfl, rfl, by decide +kernel, rfl, by decide +kernel, by decide +kernel⟩
theorem no_methL (cnt : Nat) (it d1 d2 : Addr) : (flds cnt it d1 d2).lookup ("longest" : Str) = none := by
  unfold flds
  rw [lookup_putF, if_neg (by decide +kernel), lookup_putF, if_neg (by decide +kernel), lookup_putF, if_neg (by decide +kernel), lookup_putF, if_neg (by decide +kernel)]
  rfl
theorem ok_allC {f fL C : Addr} {fd fdL : FuncData} {k : Nat} (F : Fun K "all_countdowns" "all_countdowns" s_all_countdowns f fd) (T : Bi mg) (S : SetTxt K mg C)
    (ML : Meth K C "longest" fL) (bL : Binds K fdL ["self"] []) (GL : FnOk P w K mg base CX0 k fL fdL ["self"] (spLongest C)) :
    FnOk P w K mg base CX0 (k + 1) f fd ["instruction_set"] (spAllC C) := by
  refine F.ok scAllC (fun vs H Q E h => ?_) (fun cdv A' outer s H vs Q E hr h => ?_)
  · obtain ⟨p, it, cnt, lg, is, rs, rfl, _⟩ := h
    rfl
  · obtain ⟨p, it, cnt, lg, is, rs, rfl, M, q⟩ := h
    refine ⟨_, pss_one (ps_ret (pe_tupRg (by rfl) (by rfl) T.tuple (prg_1 (by rfl) T.range (pe_meth0 (pv 0) S.cl ML GL hr bL .nil pass0)))), ?_⟩
    obtain ⟨dx, d1, d2, hp, _, _⟩ := M.at_.ob
    have lo := lon_le M.ok
    refine ⟨_, rfl, p, dx, _, rfl, hp, no_methL _ _ _ _, p, it, cnt, lg, is, rs, rfl, M, fun H1 s1 => ⟨_, rfl, RgOk.of_le (by omega) (by omega) (by omega) (by omega), fun r nr => ?_⟩⟩
    rw [rg_nat]
    exact q _ r (s1.trans (same_upd nr)) (s1.free nr) upd_same
end
end Ov
namespace Ov
open PySem PySem.Spec PyProof.Rows L2
abbrev sOpc : Stmt := inClass cInstructionSet 5
/-! ### opcode -/
def opV (is : List I4) : PyData → V
  | .str x => (valV (nameKV is) (Sum.inr x : Key)).getD .non
  | _ => .non
theorem op_hit {is : List I4} (nd : (is.map I4.nm).Nodup) {x : I4} (hx : x ∈ is) : opV is (.str (txt x.nm)) = .int (x.op : Int) := by
  show (valV (nameKV is) (Sum.inr (txt x.nm) : Key)).getD .non = _
  induction is with
  | nil => cases hx
  | cons y is ih =>
    rw [List.map_cons, List.nodup_cons] at nd
    have e : nameKV (y :: is) = ((Sum.inr (txt y.nm) : Key), V.int (y.op : Int)) :: nameKV is := rfl
    rw [e]
    rcases List.mem_cons.mp hx with rfl | hx
    · rw [valV_pos rfl]; rfl
    · rw [valV_neg, ih nd.2 hx]
      intro z
      have z1 : txt y.nm = txt x.nm := Sum.inr.inj z
      have z2 : y.nm = x.nm := by
        have := congrArg (fun s : Str => s.cps.toList) z1
        simpa [txt] using this
      exact nd.1 (by rw [z2]; exact List.mem_map.mpr ⟨x, hx, rfl⟩)
theorem op_miss {is : List I4} {z : Str} (h : ∀ x ∈ is, txt x.nm ≠ z) : opV is (.str z) = .non := by
  show (valV (nameKV is) (Sum.inr z : Key)).getD .non = _
  induction is with
  | nil => rfl
  | cons y is ih =>
    have e : nameKV (y :: is) = ((Sum.inr (txt y.nm) : Key), V.int (y.op : Int)) :: nameKV is := rfl
    rw [e, valV_neg (fun y' => h y List.mem_cons_self (Sum.inr.inj y')), ih fun x hx => h x (List.mem_cons_of_mem _ hx)]
section
variable {P : Program} {w : World} {K : PySem.W.Frag} {mg : Str → Option Value} {base : Heap}
def spOpc (K : PySem.W.Frag) (C : Addr) : Sp := fun vs H Q _ => ∃ (p it : Addr) (cnt : Nat) (is : List I4) (v : V) (d : PyData), vs = [.ref p, v] ∧ SetAt C H p cnt it is ∧ Dx K H v d ∧ Q (opV is d) H
theorem scOpc : FnScope ["self", "name"] ["self", "name"] (defScope sOpc) := ⟨rfl, rfl, rfl, by decide +kernel, rfl, by decide +kernel, by decide +kernel⟩
theorem ok_opc {f C : Addr} {fd : FuncData} {k : Nat} (F : Fun K "opcode" "InstructionSet.opcode" sOpc f fd) (T : Bi mg) (S : SetTxt K mg C) : FnOk P w K mg base CX0 (k + 1) f fd ["self", "name"] (spOpc K C) := by
  refine F.ok scOpc (fun vs H Q E h => ?_) (fun cdv A' outer s H vs Q E hr h => ?_)
  · obtain ⟨p, it, cnt, is, v, d, rfl, _⟩ := h
    rfl
  · obtain ⟨p, it, cnt, is, v, d, rfl, SA, D, q⟩ := h
    refine ⟨_, pss_cons (ps_if (pt_not (pt_val (pe_callB call_isi (by rfl) T.isi (by decide +kernel) (pa_cons (pv 1) (pa_cons (pe_bltn (v := .ty "str") (u := .type "str") (by rfl) T.str (by decide +kernel) rfl) pa_nil))))) (pss_one (ps_ret pe_non)) pss_nil)
      (pss_one (ps_ret (pe_dget1 (hu_of hr) (pe_fld (pv 0) rfl) (pv 1) ⟨rfl, rfl, rfl, rfl⟩))), ?_⟩
    refine ⟨_, rfl, _, _, _, _, _, rfl, .ty _, D.ty, kit_ty (kit_s d), _, rfl, ?_⟩
    obtain ⟨dx, d1, d2, hp, h1, h2⟩ := SA.ob
    cases D with
    | non => exact iteT q
    | bl b => exact iteT q
    | int i => exact iteT q
    | dct h => exact iteT q
    | lst h a => exact iteT q
    | tup h a => exact iteT q
    | str x => exact iteF ⟨_, rfl, p, C, dx, _, _, rfl, hp, S.cl, S.nO, flds_nms _ _ _ _, d2, rfl, .inl ⟨_, .inl h2⟩, _, rfl, _, DGet.k (k := Sum.inr x) h2, q⟩
end
theorem no_methO (cnt : Nat) (it d1 d2 : Addr) : (flds cnt it d1 d2).lookup ("opcode" : Str) = none := by
  unfold flds
  rw [lookup_putF, if_neg (by decide +kernel), lookup_putF, if_neg (by decide +kernel), lookup_putF, if_neg (by decide +kernel), lookup_putF, if_neg (by decide +kernel)]
  rfl
end Ov
namespace Ov
open PySem PySem.Spec PyProof.Rows L2
/-- B holds where an instruction begins: at each of them padding, and at the end -/
structure Padded (is : List I4) (cs bs : List Int) (B : Nat → Bool) : Prop where
  at0 : ∀ x ∈ cs, 0 ≤ x ∧ x ≤ (bs.length : Int) ∧ B x.toNat = true
  go : ∀ o, o < bs.length → B o = true → ∃ q ∈ pads is, bs[o]? = some (q.1 : Int) ∧ o + q.2 ≤ bs.length ∧ B (o + q.2) = true ∧ 0 < q.2
end Ov
namespace Ov
open PySem PySem.Spec PyProof.Rows L2
/-! ### what is built is padding alone -/
section
variable {fit : Nat → Option (Nat × Nat)} {B0 : Nat → Bool}
theorem bld_cases (o : Nat) : ((bld fit B0 o).2 o = true ∧ ∃ q, fit o = some q ∧ bld fit B0 (o + 1) = ((bld fit B0 o).1 ++ [(q.1 : Int)], fun k => (bld fit B0 o).2 k || decide (k = o + q.2))) ∨ (((bld fit B0 o).2 o = true → fit o = none) ∧ bld fit B0 (o + 1) = ((bld fit B0 o).1 ++ [0], (bld fit B0 o).2)) := by
  have e : bld fit B0 (o + 1) = bStep fit o (bld fit B0 o) := rfl
  unfold bStep at e
  cases hb : (bld fit B0 o).2 o with
  | false =>
    rw [hb, if_neg (by decide)] at e
    exact .inr ⟨fun z => Bool.noConfusion z, e⟩
  | true =>
    rw [hb, if_pos rfl] at e
    cases hf : fit o with
    | none => rw [hf] at e; exact .inr ⟨fun _ => rfl, e⟩
    | some q => rw [hf] at e; exact .inl ⟨rfl, q, rfl, e⟩
theorem bld_up {o k : Nat} (h : (bld fit B0 o).2 k = true) : (bld fit B0 (o + 1)).2 k = true := by
  rcases bld_cases (fit := fit) (B0 := B0) o with ⟨_, q, _, e⟩ | ⟨_, e⟩
  · rw [e]; show ((bld fit B0 o).2 k || _) = true; rw [h]; rfl
  · rw [e]; exact h
theorem bld_mono {o k : Nat} : ∀ m, o ≤ m → (bld fit B0 o).2 k = true → (bld fit B0 m).2 k = true
  | 0, h, z => by rw [show o = 0 by omega] at z; exact z
  | m + 1, h, z => by
    by_cases e : o = m + 1
    · rw [← e]; exact z
    · exact bld_up (bld_mono m (by omega) z)
theorem bld_old (pos : ∀ o q, fit o = some q → 0 < q.2) {o k : Nat} (hk : k ≤ o) : ∀ m, o ≤ m → (bld fit B0 m).2 k = (bld fit B0 o).2 k
  | 0, h => by rw [show o = 0 by omega]
  | m + 1, h => by
    by_cases e : o = m + 1
    · rw [← e]
    · have ih := bld_old pos hk m (by omega)
      rcases bld_cases (fit := fit) (B0 := B0) m with ⟨_, q, hq, e2⟩ | ⟨no, e2⟩
      · have := pos m q hq
        rw [e2]
        show ((bld fit B0 m).2 k || _) = _
        rw [ih, decide_eq_false (by omega), Bool.or_false]
      · rw [e2]; exact ih
theorem bld_pre {o : Nat} : ∀ m, o < m → (bld fit B0 m).1[o]? = (bld fit B0 (o + 1)).1[o]?
  | 0, h => absurd h (Nat.not_lt_zero _)
  | m + 1, h => by
    by_cases e : o = m
    · rw [e]
    · have ih := bld_pre (o := o) m (by omega)
      have len := bld_len fit B0 m
      rcases bld_cases (fit := fit) (B0 := B0) m with ⟨_, q, hq, e2⟩ | ⟨no, e2⟩
      · rw [e2]; show ((bld fit B0 m).1 ++ _)[o]? = _; rw [List.getElem?_append_left (by omega), ih]
      · rw [e2]; show ((bld fit B0 m).1 ++ _)[o]? = _; rw [List.getElem?_append_left (by omega), ih]
theorem bld_low {cnt : Nat} (hc : 0 < cnt) (low : ∀ o q, fit o = some q → q.1 < cnt) : ∀ m, ∀ b ∈ (bld fit B0 m).1, 0 ≤ b ∧ b < (cnt : Int)
  | 0, b, h => nomatch h
  | m + 1, b, h => by
    rcases bld_cases (fit := fit) (B0 := B0) m with ⟨_, q, hq, e2⟩ | ⟨no, e2⟩
    · rw [e2] at h
      rcases List.mem_append.mp h with h | h
      · exact bld_low hc low m b h
      · have := low m q hq
        rw [List.mem_singleton.mp h]
        omega
    · rw [e2] at h
      rcases List.mem_append.mp h with h | h
      · exact bld_low hc low m b h
      · rw [List.mem_singleton.mp h]
        omega
end
theorem fit_in {a : List (Option Nat)} {is : List I4} {n o : Nat} {q : Nat × Nat} (h : fitF a (pads is) n o = some q) : q ∈ pads is ∧ reachI a ((n : Int) - (o : Int) - (q.2 : Int)) = true := by
  unfold fitF at h
  have z := List.find?_some h
  exact ⟨List.mem_of_find?_eq_some h, z⟩
theorem pads_in {is : List I4} {q : Nat × Nat} (h : q ∈ pads is) : ∃ x ∈ is, x.pad = true ∧ q = (x.op, x.ln) := by
  unfold pads at h
  obtain ⟨x, hx, rfl⟩ := List.mem_map.mp h
  have := List.mem_filter.mp hx
  exact ⟨x, this.1, this.2, rfl⟩
theorem bld_padded {cnt lg : Nat} {is : List I4} {ns cs : List Int} {n : Nat} (ok : TabOk cnt lg is) (PL : PadL is ns) (Ln : Lens ns) (c0 : ∀ x ∈ cs, 0 ≤ x) (hf : hasF (leasts (ns.map Int.toNat)) cs (n : Int) = true) :
    Padded is cs (bld (fitF (leasts (ns.map Int.toNat)) (pads is) n) (fun k : Nat => decide ((k : Int) ∈ cs)) n).1 (bld (fitF (leasts (ns.map Int.toNat)) (pads is) n) (fun k : Nat => decide ((k : Int) ∈ cs)) n).2 := by
  generalize hfit : fitF (leasts (ns.map Int.toNat)) (pads is) n = fit
  generalize hB0 : (fun k : Nat => decide ((k : Int) ∈ cs)) = B0
  have hin : ∀ o q, fit o = some q → q ∈ pads is ∧ reachI (leasts (ns.map Int.toNat)) ((n : Int) - (o : Int) - (q.2 : Int)) = true := fun o q h => by
    rw [← hfit] at h; exact fit_in h
  have pos : ∀ o q, fit o = some q → 0 < q.2 := fun o q h => by
    obtain ⟨x, hx, _, rfl⟩ := pads_in (hin o q h).1
    exact (ok.len x hx).1
  have inv : ∀ o, ∀ k, (bld fit B0 o).2 k = true → k ≤ n ∧ reachI (leasts (ns.map Int.toNat)) ((n : Int) - (k : Int)) = true := by
    intro o
    induction o with
    | zero =>
      intro k hk
      have m : (k : Int) ∈ cs := by rw [← hB0] at hk; exact of_decide_eq_true hk
      have r : reachI (leasts (ns.map Int.toNat)) ((n : Int) - (k : Int)) = true := by
        unfold hasF at hf
        exact List.all_eq_true.mp hf _ m
      exact ⟨by have := reach_le r; omega, r⟩
    | succ o ih =>
      intro k hk
      rcases bld_cases (fit := fit) (B0 := B0) o with ⟨_, q, hq, e2⟩ | ⟨no, e2⟩
      · rw [e2] at hk
        rcases Bool.or_eq_true_iff.mp hk with z | z
        · exact ih k z
        · have ek := of_decide_eq_true z
          have xr := (hin o q hq).2
          have r2 := reach_le xr
          refine ⟨by omega, ?_⟩
          rw [ek, show (n : Int) - ((o + q.2 : Nat) : Int) = (n : Int) - (o : Int) - (q.2 : Int) by omega]
          exact xr
      · rw [e2] at hk; exact ih k hk
  have len := bld_len fit B0 n
  refine ⟨fun x hx => ?_, fun o ho hB => ?_⟩
  · have z := (hasF_iff Ln cs n).mp hf x hx
    have x0 := c0 x hx
    refine ⟨x0, by rw [len]; exact z.1, bld_mono (o := 0) n (Nat.zero_le _) ?_⟩
    show B0 x.toNat = true
    rw [← hB0]
    exact decide_eq_true (by rw [show ((x.toNat : Nat) : Int) = x by omega]; exact hx)
  · rw [len] at ho ⊢
    have hBo : (bld fit B0 o).2 o = true := by rw [← bld_old pos (Nat.le_refl o) n (Nat.le_of_lt ho)]; exact hB
    obtain ⟨on, ro⟩ := inv o o hBo
    obtain ⟨qq, hq, hr3⟩ := fit_some PL Ln ro ho
    rcases bld_cases (fit := fit) (B0 := B0) o with ⟨_, q, hq, e2⟩ | ⟨no, e2⟩
    · obtain ⟨h1, h2⟩ := hin o q hq
      have r2 := reach_le h2
      refine ⟨q, h1, ?_, by omega, bld_mono (o := o + 1) n ho ?_, pos o q hq⟩
      · rw [bld_pre n ho, e2]
        show ((bld fit B0 o).1 ++ [(q.1 : Int)])[o]? = _
        rw [List.getElem?_append_right (by rw [bld_len]; exact Nat.le_refl _), bld_len, Nat.sub_self]
        rfl
      · rw [e2]
        show (_ || decide (o + q.2 = o + q.2)) = true
        rw [decide_eq_true rfl, Bool.or_true]
    · exfalso
      have : ∃ q, fit o = some q := by
        rw [← hfit]
        exact Option.isSome_iff_exists.mp (List.find?_isSome.mpr ⟨qq, hq, hr3⟩)
      obtain ⟨q, hq2⟩ := this
      rw [no hBo] at hq2
      cases hq2
end Ov
namespace Ov
open PySem PySem.Spec PyProof.Rows L2
/-! ### a padded code is a filler -/
theorem la_pad {cnt lg : Nat} {is : List I4} (ok : TabOk cnt lg is) {q : Nat × Nat} (h : q ∈ pads is) : laOf is (q.1 : Int) = q.2 ∧ padOp is (q.1 : Int) = true := by
  refine ⟨?_, by unfold padOp; exact List.any_eq_true.mpr ⟨q, h, decide_eq_true rfl⟩⟩
  unfold pads at h
  obtain ⟨x, hx, rfl⟩ := List.mem_map.mp h
  have xin := (List.mem_filter.mp hx).1
  have uniq : ∀ y ∈ is, (y.op : Int) = (x.op : Int) → y = x := fun y hy e => by
    have a := ok.asc
    rw [List.pairwise_map] at a
    obtain ⟨i, hi, ei⟩ := List.getElem_of_mem hy
    obtain ⟨j, hj, ej⟩ := List.getElem_of_mem xin
    rcases Nat.lt_trichotomy i j with z | z | z
    · have := List.pairwise_iff_getElem.mp a i j hi hj z
      rw [ei, ej] at this; omega
    · subst z; exact ei.symm.trans ej
    · have := List.pairwise_iff_getElem.mp a j i hj hi z
      rw [ei, ej] at this; omega
  unfold laOf
  cases e : is.find? (fun y => decide ((y.op : Int) = (x.op : Int))) with
  | none => exact absurd (List.find?_eq_none.mp e x xin) (by simp)
  | some y =>
    have z := List.find?_some e
    have h1 := uniq y (List.mem_of_find?_eq_some e) (of_decide_eq_true z)
    rw [h1]
theorem padded_goes {cnt lg : Nat} {is : List I4} {cs bs : List Int} {B : Nat → Bool} (ok : TabOk cnt lg is) (Pd : Padded is cs bs B) {e : Nat} : ∀ (k o : Nat) (begun : List Nat), bs.length - o ≤ k → o ≤ bs.length → B o = true → Going (laOf is) bs e begun o → (∀ z ∈ begun, padOp is (bs.getD z 0) = true) → ∃ bg, Going (laOf is) bs e bg bs.length ∧ ∀ z ∈ bg, padOp is (bs.getD z 0) = true
  | 0, o, begun, hk, ho, hB, g, al => by
    have : o = bs.length := by omega
    subst this
    exact ⟨begun, g, al⟩
  | k + 1, o, begun, hk, ho, hB, g, al => by
    by_cases c : o = bs.length
    · subst c; exact ⟨begun, g, al⟩
    · obtain ⟨q, hq, eb, le, hB2, pos⟩ := Pd.go o (by omega) hB
      obtain ⟨l1, l2⟩ := la_pad ok hq
      have g2 := g.step eb (by rw [l1]; exact pos)
      rw [l1] at g2
      refine padded_goes ok Pd k (o + q.2) (begun ++ [o]) (by omega) le hB2 g2 fun z hz => ?_
      rcases List.mem_append.mp hz with hz | hz
      · exact al z hz
      · rw [List.mem_singleton.mp hz, List.getD_eq_getElem?_getD, eb]
        exact l2
theorem told_true {cnt lg : Nat} {is : List I4} {cs bs : List Int} {B : Nat → Bool} {fs : List Bool} (ok : TabOk cnt lg is) (Pd : Padded is cs bs B) (h : Told is bs cs fs) : fs.all id = true := by
  rw [List.all_eq_true]
  intro b hb
  obtain ⟨i, hi⟩ := List.mem_iff_getElem?.mp hb
  have il := (List.getElem?_eq_some_iff.mp hi).1
  have hc : cs[i]? = some (cs[i]'(by rw [← h.1]; exact il)) := List.getElem?_eq_getElem _
  obtain ⟨begun, fol, en, eb⟩ := h.2 i _ b hc hi
  obtain ⟨x0, xl, hB⟩ := Pd.at0 _ (List.mem_of_getElem? hc)
  obtain ⟨bg, g, al⟩ := padded_goes ok Pd (e := (cs[i]'(by rw [← h.1]; exact il)).toNat) bs.length _ [] (by omega) (by omega) hB (Going.start bs _) (fun _ z => nomatch z)
  obtain ⟨e1, e2⟩ := en.same (g.over (Nat.le_refl _))
  subst e1 e2
  rw [eb]
  unfold padFrom
  rw [decide_eq_true rfl, Bool.true_and]
  show (begun.all fun o => padOp is (bs.getD o 0)) = true
  rw [List.all_eq_true]
  exact al
end Ov
namespace Ov
open PySem PySem.Spec PyProof.Rows L2
/-! ### all codes of a length, in their order -/
def allC (cnt : Nat) : Nat → List (List Int)
  | 0 => [[]]
  | n + 1 => (allC cnt n).flatMap fun c => (List.range cnt).map fun b => c ++ [((b : Nat) : Int)]
def Lx (c d : List Int) : Prop := ∃ (o : Nat) (a b : Int), (∀ j, j < o → c[j]? = d[j]?) ∧ c[o]? = some a ∧ d[o]? = some b ∧ a < b
theorem Lx.no {c d : List Int} (h : Lx c d) (h2 : Lx d c) : False := by
  obtain ⟨o, a, b, e, h1, h2', h3⟩ := h
  obtain ⟨o', a', b', e', k1, k2, k3⟩ := h2
  rcases Nat.lt_trichotomy o o' with z | z | z
  · have := e' o z
    rw [h1, h2'] at this
    have := Option.some.inj this
    omega
  · subst z
    rw [h2'] at k1
    rw [h1] at k2
    have := Option.some.inj k1
    have := Option.some.inj k2
    omega
  · have := e o' z
    rw [k1, k2] at this
    have := Option.some.inj this
    omega
theorem allC_mem (cnt : Nat) : ∀ (n : Nat) (c : List Int), c ∈ allC cnt n ↔ c.length = n ∧ ∀ b ∈ c, 0 ≤ b ∧ b < (cnt : Int)
  | 0, c => by
    show c ∈ [[]] ↔ _
    rw [List.mem_singleton]
    constructor
    · rintro rfl; exact ⟨rfl, fun _ h => nomatch h⟩
    · rintro ⟨h, _⟩; exact List.length_eq_zero_iff.mp h
  | n + 1, c => by
    show c ∈ (allC cnt n).flatMap _ ↔ _
    rw [List.mem_flatMap]
    constructor
    · rintro ⟨d, hd, hc⟩
      obtain ⟨b, hb, rfl⟩ := List.mem_map.mp hc
      obtain ⟨l, low⟩ := (allC_mem cnt n d).mp hd
      refine ⟨by rw [List.length_append, l]; rfl, fun x hx => ?_⟩
      rcases List.mem_append.mp hx with hx | hx
      · exact low x hx
      · have := List.mem_range.mp hb
        rw [List.mem_singleton.mp hx]
        omega
    · rintro ⟨l, low⟩
      have ne : c ≠ [] := fun z => by rw [z] at l; cases l
      have low1 := low (c.getLast ne) (List.getLast_mem ne)
      refine ⟨c.dropLast, (allC_mem cnt n _).mpr ⟨by rw [List.length_dropLast, l]; rfl, fun b hb => low b (List.dropLast_subset _ hb)⟩, List.mem_map.mpr ⟨(c.getLast ne).toNat, List.mem_range.mpr (by omega), ?_⟩⟩
      rw [show (((c.getLast ne).toNat : Nat) : Int) = c.getLast ne by omega]
      exact List.dropLast_concat_getLast ne
theorem lx_more {c d : List Int} {x y : List Int} (h : Lx c d) : Lx (c ++ x) (d ++ y) := by
  obtain ⟨o, a, b, e, h1, h2, h3⟩ := h
  have l1 := (List.getElem?_eq_some_iff.mp h1).1
  have l2 := (List.getElem?_eq_some_iff.mp h2).1
  refine ⟨o, a, b, fun j hj => ?_, by rw [List.getElem?_append_left l1]; exact h1, by rw [List.getElem?_append_left l2]; exact h2, h3⟩
  rw [List.getElem?_append_left (by omega), List.getElem?_append_left (by omega)]
  exact e j hj
theorem allC_asc (cnt : Nat) : ∀ n : Nat, (allC cnt n).Pairwise Lx
  | 0 => List.pairwise_singleton _ _
  | n + 1 => by
    show ((allC cnt n).flatMap _).Pairwise Lx
    rw [List.pairwise_flatMap]
    refine ⟨fun c hc => ?_, (allC_asc cnt n).imp fun {c d} h x hx y hy => ?_⟩
    · rw [List.pairwise_map]
      refine List.pairwise_lt_range.imp fun {a b} h => ⟨c.length, (a : Int), (b : Int), fun j hj => ?_, ?_, ?_, by omega⟩
      · rw [List.getElem?_append_left hj, List.getElem?_append_left hj]
      · rw [List.getElem?_append_right (Nat.le_refl _), Nat.sub_self]; rfl
      · rw [List.getElem?_append_right (Nat.le_refl _), Nat.sub_self]; rfl
    · obtain ⟨a, _, rfl⟩ := List.mem_map.mp hx
      obtain ⟨b, _, rfl⟩ := List.mem_map.mp hy
      exact lx_more h
theorem flat_len {α β : Type} (f : α → List β) (k : Nat) (h : ∀ a, (f a).length = k) : ∀ l : List α, (l.flatMap f).length = l.length * k
  | [] => by simp
  | a :: l => by rw [List.flatMap_cons, List.length_append, h, flat_len f k h l, List.length_cons, Nat.succ_mul]; omega
theorem allC_len (cnt : Nat) : ∀ n : Nat, (allC cnt n).length = cnt ^ n
  | 0 => rfl
  | n + 1 => by
    show ((allC cnt n).flatMap _).length = _
    rw [flat_len _ cnt (fun a => by rw [List.length_map, List.length_range]), allC_len cnt n, Nat.pow_succ]
/-! ### a decoder reads padding alone, and is complete -/
inductive Runs (is : List I4) (bs : List Int) : Nat → Prop
  | done {o : Nat} : o = bs.length → Runs is bs o
  | go {o : Nat} {q : Nat × Nat} : q ∈ pads is → bs[o]? = some (q.1 : Int) → Runs is bs (o + q.2) → Runs is bs o
theorem pads_asc {cnt lg : Nat} {is : List I4} (ok : TabOk cnt lg is) : (pads is).Pairwise fun q r => q.1 < r.1 := by
  have a := ok.asc
  rw [List.pairwise_map] at a
  unfold pads
  rw [List.pairwise_map]
  exact a.sublist List.filter_sublist
theorem pads_one {cnt lg : Nat} {is : List I4} (ok : TabOk cnt lg is) {q r : Nat × Nat} (hq : q ∈ pads is) (hr : r ∈ pads is) (e : q.1 = r.1) : q = r := by
  have a := pads_asc ok
  obtain ⟨i, hi, ei⟩ := List.getElem_of_mem hq
  obtain ⟨j, hj, ej⟩ := List.getElem_of_mem hr
  rcases Nat.lt_trichotomy i j with z | z | z
  · have := List.pairwise_iff_getElem.mp a i j hi hj z
    rw [ei, ej] at this; omega
  · subst z; exact ei.symm.trans ej
  · have := List.pairwise_iff_getElem.mp a j i hj hi z
    rw [ei, ej] at this; omega
theorem pads_pos {cnt lg : Nat} {is : List I4} (ok : TabOk cnt lg is) {q : Nat × Nat} (hq : q ∈ pads is) : 0 < q.2 := by
  obtain ⟨x, hx, _, rfl⟩ := pads_in hq
  exact (ok.len x hx).1
theorem Runs.le {cnt lg : Nat} {is : List I4} (ok : TabOk cnt lg is) {bs : List Int} {o : Nat} (h : Runs is bs o) : o ≤ bs.length := by
  induction h with
  | done e => omega
  | go hq hb _ ih => omega
theorem Runs.inv {is : List I4} {bs : List Int} {o : Nat} (h : Runs is bs o) (lt : o < bs.length) : ∃ q ∈ pads is, bs[o]? = some (q.1 : Int) ∧ Runs is bs (o + q.2) := by
  cases h with
  | done e => omega
  | go hq hb hr => exact ⟨_, hq, hb, hr⟩
theorem Runs.sum {cnt lg : Nat} {is : List I4} {ns bs : List Int} {o : Nat} (ok : TabOk cnt lg is) (PL : PadL is ns) (h : Runs is bs o) : Sum (ns.map Int.toNat) (bs.length - o) := by
  induction h with
  | done e => rw [e, Nat.sub_self]; exact .zero
  | go hq hb hr ih =>
    have le := hr.le ok
    obtain ⟨x, hx, px, e⟩ := pads_in hq
    rename_i o q
    have hm : q.2 ∈ ns.map Int.toNat := List.mem_map.mpr ⟨(x.ln : Int), (PL.mem _).mpr ⟨x, hx, px, rfl⟩, by rw [e]; rfl⟩
    have z := Sum.add hm ih
    rwa [show bs.length - (o + q.2) + q.2 = bs.length - o by omega] at z
def Fills (is : List I4) (cs bs : List Int) : Prop := ∀ x ∈ cs, Runs is bs x.toNat
theorem fills_has {cnt lg : Nat} {is : List I4} {ns cs bs : List Int} (ok : TabOk cnt lg is) (PL : PadL is ns) (Ln : Lens ns) (c0 : ∀ x ∈ cs, 0 ≤ x) (h : Fills is cs bs) : hasF (leasts (ns.map Int.toNat)) cs (bs.length : Int) = true :=
  (hasF_iff Ln cs _).mpr fun c hc => by
    have r := h c hc
    have le := r.le ok
    have c1 := c0 c hc
    refine ⟨by omega, ?_⟩
    have z := r.sum ok PL
    rwa [show ((bs.length : Int) - c).toNat = bs.length - c.toNat by omega]
theorem padded_runs {is : List I4} {cs bs : List Int} {B : Nat → Bool} (Pd : Padded is cs bs B) : ∀ (k o : Nat), bs.length - o ≤ k → o ≤ bs.length → B o = true → Runs is bs o
  | 0, o, hk, ho, _ => .done (by omega)
  | k + 1, o, hk, ho, hB => by
    by_cases c : o = bs.length
    · exact .done c
    · obtain ⟨q, hq, eb, le, hB2, pos⟩ := Pd.go o (by omega) hB
      exact .go hq eb (padded_runs Pd k (o + q.2) (by omega) le hB2)
theorem padded_fills {is : List I4} {cs bs : List Int} {B : Nat → Bool} (Pd : Padded is cs bs B) : Fills is cs bs := fun x hx => by
  obtain ⟨h0, h1, h2⟩ := Pd.at0 x hx
  exact padded_runs Pd bs.length x.toNat (by omega) (by omega) h2
theorem find_le {α : Type} {p : α → Bool} {R : α → α → Prop} {l : List α} {q r : α} (a : l.Pairwise R) (h : l.find? p = some q) (hr : r ∈ l) (pr : p r = true) : q = r ∨ R q r := by
  induction l with
  | nil => cases hr
  | cons x l ih =>
    rw [List.pairwise_cons] at a
    rw [List.find?_cons] at h
    cases px : p x with
    | true =>
      rw [px] at h
      have e : x = q := Option.some.inj h
      subst e
      rcases List.mem_cons.mp hr with rfl | hr
      · exact .inl rfl
      · exact .inr (a.1 r hr)
    | false =>
      rw [px] at h
      rcases List.mem_cons.mp hr with rfl | hr
      · rw [px] at pr; cases pr
      · exact ih a.2 h hr
theorem bld_next {fit : Nat → Option (Nat × Nat)} {B0 : Nat → Bool} {o n : Nat} (lt : o < n) : ((bld fit B0 o).2 o = true ∧ ∃ q, fit o = some q ∧ (bld fit B0 n).1[o]? = some (q.1 : Int)) ∨ (((bld fit B0 o).2 o = true → fit o = none) ∧ (bld fit B0 n).1[o]? = some 0) := by
  rcases bld_cases (fit := fit) (B0 := B0) o with ⟨hb, q, hq, e2⟩ | ⟨no, e2⟩
  · refine .inl ⟨hb, q, hq, ?_⟩
    rw [bld_pre n lt, e2]
    show ((bld fit B0 o).1 ++ [(q.1 : Int)])[o]? = _
    rw [List.getElem?_append_right (by rw [bld_len]; exact Nat.le_refl _), bld_len, Nat.sub_self]
    rfl
  · refine .inr ⟨no, ?_⟩
    rw [bld_pre n lt, e2]
    show ((bld fit B0 o).1 ++ [(0 : Int)])[o]? = _
    rw [List.getElem?_append_right (by rw [bld_len]; exact Nat.le_refl _), bld_len, Nat.sub_self]
    rfl
/-- where both agree so far, what is marked is where a decoder begins -/
theorem bld_marks {cnt lg : Nat} {is : List I4} {cs c : List Int} {a : List (Option Nat)} {n : Nat} (ok : TabOk cnt lg is) (hc : c.length = n) (F : Fills is cs c) : ∀ o, o ≤ n → (∀ j, j < o → (bld (fitF a (pads is) n) (fun k : Nat => decide ((k : Int) ∈ cs)) n).1[j]? = c[j]?) →
    ∀ k, (bld (fitF a (pads is) n) (fun k : Nat => decide ((k : Int) ∈ cs)) o).2 k = true → Runs is c k
  | 0, _, _, k, h => by
    have m : (k : Int) ∈ cs := of_decide_eq_true h
    have := F _ m
    rwa [Int.toNat_natCast] at this
  | o + 1, ho, e, k, h => by
    have ih := bld_marks (a := a) ok hc F o (by omega) (fun j hj => e j (by omega))
    rcases bld_cases (fit := fitF a (pads is) n) (B0 := fun k : Nat => decide ((k : Int) ∈ cs)) o with ⟨hb, q, hq, e2⟩ | ⟨no, e2⟩
    · rw [e2] at h
      rcases Bool.or_eq_true_iff.mp h with z | z
      · exact ih k z
      · have ek := of_decide_eq_true z
        obtain ⟨r, hr, er, rr⟩ := (ih o hb).inv (by omega)
        have eo := e o (by omega)
        rcases bld_next (fit := fitF a (pads is) n) (B0 := fun k : Nat => decide ((k : Int) ∈ cs)) (o := o) (n := n) (by omega) with ⟨_, q2, hq2, e3⟩ | ⟨no, _⟩
        · rw [hq] at hq2
          have eq2 := Option.some.inj hq2
          subst eq2
          rw [e3, er] at eo
          have e4 : (q.1 : Int) = (r.1 : Int) := Option.some.inj eo
          have e5 := pads_one ok (fit_in hq).1 hr (by omega)
          rw [ek, e5]
          exact rr
        · rw [no hb] at hq; cases hq
    · rw [e2] at h; exact ih k h
/-- what is built is the least filler -/
theorem bld_least {cnt lg : Nat} {is : List I4} {ns cs c : List Int} {n : Nat} (ok : TabOk cnt lg is) (PL : PadL is ns) (Ln : Lens ns) (hc : c.length = n) (low : ∀ b ∈ c, 0 ≤ b) (F : Fills is cs c) :
    c = (bld (fitF (leasts (ns.map Int.toNat)) (pads is) n) (fun k : Nat => decide ((k : Int) ∈ cs)) n).1 ∨ Lx (bld (fitF (leasts (ns.map Int.toNat)) (pads is) n) (fun k : Nat => decide ((k : Int) ∈ cs)) n).1 c := by
  have blen := bld_len (fitF (leasts (ns.map Int.toNat)) (pads is) n) (fun k : Nat => decide ((k : Int) ∈ cs)) n
  have key : ∀ o, o ≤ n → (∀ j, j < o → (bld (fitF (leasts (ns.map Int.toNat)) (pads is) n) (fun k : Nat => decide ((k : Int) ∈ cs)) n).1[j]? = c[j]?) ∨ Lx (bld (fitF (leasts (ns.map Int.toNat)) (pads is) n) (fun k : Nat => decide ((k : Int) ∈ cs)) n).1 c := by
    intro o
    induction o with
    | zero => exact fun _ => .inl fun j hj => absurd hj (Nat.not_lt_zero _)
    | succ o ih =>
      intro ho
      rcases ih (by omega) with e | l
      · have co : c[o]? = some (c[o]'(by omega)) := List.getElem?_eq_getElem _
        generalize (c[o]'(by omega)) = y at co
        have y0 := low y (List.mem_of_getElem? co)
        have fin : ∀ x : Int, (bld (fitF (leasts (ns.map Int.toNat)) (pads is) n) (fun k : Nat => decide ((k : Int) ∈ cs)) n).1[o]? = some x → x ≤ y → (∀ j, j < o + 1 → (bld (fitF (leasts (ns.map Int.toNat)) (pads is) n) (fun k : Nat => decide ((k : Int) ∈ cs)) n).1[j]? = c[j]?) ∨ Lx (bld (fitF (leasts (ns.map Int.toNat)) (pads is) n) (fun k : Nat => decide ((k : Int) ∈ cs)) n).1 c := fun x hx le => by
          by_cases exy : x = y
          · refine .inl fun j hj => ?_
            by_cases jo : j = o
            · subst jo; rw [hx, co, exy]
            · exact e j (by omega)
          · exact .inr ⟨o, x, y, e, hx, co, by omega⟩
        rcases bld_next (fit := fitF (leasts (ns.map Int.toNat)) (pads is) n) (B0 := fun k : Nat => decide ((k : Int) ∈ cs)) (o := o) (n := n) (by omega) with ⟨hb, q, hq, e3⟩ | ⟨_, e3⟩
        · obtain ⟨r, hr, er, rr⟩ := (bld_marks (a := leasts (ns.map Int.toNat)) ok hc F o (by omega) e o hb).inv (by omega)
          have le := rr.le ok
          have sm := rr.sum ok PL
          have pr : reachI (leasts (ns.map Int.toNat)) ((n : Int) - (o : Int) - (r.2 : Int)) = true := by
            unfold reachI
            rw [if_pos (by omega), isSum_iff _ (lens_pos Ln), show ((n : Int) - (o : Int) - (r.2 : Int)).toNat = c.length - (o + r.2) by omega]
            exact sm
          rw [co] at er
          have ey : y = (r.1 : Int) := Option.some.inj er
          refine fin _ e3 ?_
          unfold fitF at hq
          rcases find_le (pads_asc ok) hq hr pr with rfl | z
          · omega
          · omega
        · exact fin _ e3 y0
      · exact .inr l
  rcases key n (Nat.le_refl _) with e | l
  · refine .inl (List.ext_getElem? fun j => ?_)
    by_cases hj : j < n
    · exact (e j hj).symm
    · rw [List.getElem?_eq_none (by omega), List.getElem?_eq_none (by omega)]
  · exact .inr l
/-- the first filler of all codes, in their order, is the built one -/
theorem first_filler {cnt lg : Nat} {is : List I4} {ns cs c : List Int} {n i : Nat} (ok : TabOk cnt lg is) (PL : PadL is ns) (Ln : Lens ns) (c0 : ∀ x ∈ cs, 0 ≤ x) (hi : (allC cnt n)[i]? = some c) (F : Fills is cs c) (no : ∀ d ∈ (allC cnt n).take i, ¬ Fills is cs d) :
    c = (bld (fitF (leasts (ns.map Int.toNat)) (pads is) n) (fun k : Nat => decide ((k : Int) ∈ cs)) n).1 := by
  obtain ⟨cl, low⟩ := (allC_mem cnt n c).mp (List.mem_of_getElem? hi)
  rcases bld_least ok PL Ln cl (fun b hb => (low b hb).1) F with e | l
  · exact e
  · exfalso
    have hf := fills_has ok PL Ln c0 F
    rw [cl] at hf
    have low2 := bld_low (fit := fitF (leasts (ns.map Int.toNat)) (pads is) n) (B0 := fun k : Nat => decide ((k : Int) ∈ cs)) (cnt := cnt) (by have := ok.cb; omega) (fun o q h => by
      obtain ⟨x, hx, _, rfl⟩ := pads_in (fit_in h).1
      exact ok.ops x hx) n
    have Pd := bld_padded ok PL Ln c0 hf
    have blen := bld_len (fitF (leasts (ns.map Int.toNat)) (pads is) n) (fun k : Nat => decide ((k : Int) ∈ cs)) n
    have F2 := padded_fills Pd
    generalize (bld (fitF (leasts (ns.map Int.toNat)) (pads is) n) (fun k : Nat => decide ((k : Int) ∈ cs)) n).1 = code at *
    obtain ⟨j, hj, ej⟩ := List.getElem_of_mem ((allC_mem cnt n code).mpr ⟨blen, low2⟩)
    have il := (List.getElem?_eq_some_iff.mp hi)
    obtain ⟨il, ei⟩ := il
    rcases Nat.lt_trichotomy i j with z | z | z
    · have := List.pairwise_iff_getElem.mp (allC_asc cnt n) i j il hj z
      rw [ei, ej] at this
      exact l.no this
    · subst z
      rw [ei] at ej
      subst ej
      exact l.no l
    · refine no code (List.mem_of_getElem? (i := j) ?_) F2
      rw [List.getElem?_take, if_pos z, List.getElem?_eq_getElem hj, ej]
theorem no_filler {cnt lg : Nat} {is : List I4} {ns cs : List Int} {n : Nat} (ok : TabOk cnt lg is) (PL : PadL is ns) (Ln : Lens ns) (c0 : ∀ x ∈ cs, 0 ≤ x) (no : ∀ d ∈ allC cnt n, ¬ Fills is cs d) : hasF (leasts (ns.map Int.toNat)) cs (n : Int) = false := by
  cases hf : hasF (leasts (ns.map Int.toNat)) cs (n : Int) with
  | false => rfl
  | true =>
    exfalso
    refine no _ ((allC_mem cnt n _).mpr ⟨bld_len (fitF (leasts (ns.map Int.toNat)) (pads is) n) (fun k : Nat => decide ((k : Int) ∈ cs)) n, bld_low (by have := ok.cb; omega) (fun o q h => by
      obtain ⟨x, hx, _, rfl⟩ := pads_in (fit_in h).1
      exact ok.ops x hx) n⟩) (padded_fills (bld_padded ok PL Ln c0 hf))
end Ov
namespace Ov
open PySem PySem.Spec PyProof.Rows L2
/-! ### integers and codes among things of any kind -/
def btw (lo hi : Int) : PyData → Bool
  | .int i => decide (lo ≤ i) && decide (i ≤ hi)
  | _ => false
section
variable {P : Program} {w : World} {K : PySem.W.Frag} {mg : Str → Option Value} {base : Heap}
def isInt : PyData → Bool
  | .int _ => true
  | _ => false
def spIsIntX (K : PySem.W.Frag) : Sp := fun vs H Q _ => ∃ (v : V) (d : PyData), vs = [v] ∧ Dx K H v d ∧ Q (.bl (isInt d)) H
theorem ok_isIntX {f : Addr} {fd : FuncData} {k : Nat} (F : Fun K "is_integer" "is_integer" sIsInt f fd) (T : Bi mg) : FnOk P w K mg base CX0 (k + 1) f fd ["value"] (spIsIntX K) := by
  refine F.ok scIsInt (fun vs H Q E h => ?_) (fun cdv A outer s H vs Q E hr h => ?_)
  · obtain ⟨v, d, rfl, _⟩ := h
    rfl
  · obtain ⟨v, d, rfl, D, q⟩ := h
    refine ⟨_, pss_one (ps_ret (pe_and (pe_callB call_isi (by rfl) T.isi (by decide +kernel) (pa_cons (pv 0) (pa_cons (pe_bltn (v := .ty "int") (u := .type "int") (by rfl) T.int (by decide +kernel) rfl) pa_nil)))
      (pe_one (pe_not (pe_callB call_isi (by rfl) T.isi (by decide +kernel) (pa_cons (pv 0) (pa_cons (pe_bltn (v := .ty "bool") (u := .type "bool") (by rfl) T.bool (by decide +kernel) rfl) pa_nil))))))), ?_⟩
    refine ⟨_, rfl, _, _, _, _, _, rfl, .ty _, D.ty, kit_ty (kit_i d), _, rfl, ?_⟩
    have D0 := D
    cases D with
    | non => exact iteF q
    | str x => exact iteF q
    | dct h => exact iteF q
    | lst h a => exact iteF q
    | tup h a => exact iteF q
    | bl b => exact iteT ⟨_, rfl, _, _, _, _, _, rfl, .ty _, D0.ty, kit_ty (kit_b _), _, rfl, q⟩
    | int i => exact iteT ⟨_, rfl, _, _, _, _, _, rfl, .ty _, D0.ty, kit_ty (kit_b _), _, rfl, q⟩
def spBetweenX (K : PySem.W.Frag) : Sp := fun vs H Q _ => ∃ (v : V) (d : PyData) (lo hi : Int), vs = [v, .int lo, .int hi] ∧ Dx K H v d ∧ Q (.bl (btw lo hi d)) H
theorem ok_betweenX {f fI : Addr} {fd fdI : FuncData} {k : Nat} (F : Fun K "is_integer_between" "is_integer_between" sBetween f fd) (T : Bi mg) (I : Def K mg "is_integer" sIsInt fI fdI ["value"]) : FnOk P w K mg base CX0 (k + 2) f fd ["value", "least", "most"] (spBetweenX K) := by
  have GI : FnOk P w K mg base CX0 (k + 1) fI fdI ["value"] (spIsIntX K) := ok_isIntX I.fn T
  refine F.ok scBetween (fun vs H Q E h => ?_) (fun cdv A outer s H vs Q E hr h => ?_)
  · obtain ⟨v, d, lo, hi, rfl, _⟩ := h
    rfl
  · obtain ⟨v, d, lo, hi, rfl, D, q⟩ := h
    refine ⟨_, pss_one (ps_ret (pe_and (pe_call GI hr (by rfl) I.gl I.fn.kp I.bi .nil pass0 (pa_cons (pv 0) pa_nil))
        (pe_one (pe_chain op_le op_le (pv 1) (pv 0) (pv 2))))), ?_⟩
    refine ⟨_, rfl, v, d, rfl, D, _, rfl, ?_⟩
    cases D with
    | non => exact iteF q
    | str x => exact iteF q
    | dct h => exact iteF q
    | lst h a => exact iteF q
    | tup h a => exact iteF q
    | bl b => exact iteF q
    | int i =>
      refine iteT ?_
      refine ⟨_, rfl, _, rfl, _, _, rfl, rfl, _, rfl, ?_⟩
      have q' : Q (.bl (decide (lo ≤ i) && decide (i ≤ hi))) H := q
      by_cases h1 : lo ≤ i
      · rw [decide_eq_true h1] at q' ⊢
        refine iteT ⟨_, rfl, _, _, rfl, rfl, ?_⟩
        rw [Bool.true_and] at q'
        exact q'
      · rw [decide_eq_false h1] at q' ⊢
        rw [Bool.false_and] at q'
        exact iteF q'
/-! ### is_code -/
def isCode (cnt : Nat) : PyData → Bool
  | .tuple ds => ds.all (btw 0 ((cnt : Int) - 1))
  | _ => false
def spIsCode (K : PySem.W.Frag) (C : Addr) : Sp := fun vs H Q _ => ∃ (p it : Addr) (cnt : Nat) (is : List I4) (v : V) (d : PyData), vs = [.ref p, v] ∧ SetAt C H p cnt it is ∧ Dx K H v d ∧ (∀ ds, d = .tuple ds → ds.length ≤ 1000) ∧ ∀ H', Same H H' → Q (.bl (isCode cnt d)) H'
theorem scIsCode : FnScope ["instruction_set", "value", "greatest", "byte"] ["instruction_set", "value"] (defScope sIsCode) := ⟨rfl, rfl, rfl, by decide +kernel, rfl, by decide +kernel, by decide +kernel⟩
theorem ok_isCode {f fB C : Addr} {fd fdB : FuncData} {k : Nat} (F : Fun K "is_code" "is_code" sIsCode f fd) (T : Bi mg) (S : SetTxt K mg C)
    (B : Def K mg "is_integer_between" sBetween fB fdB ["value", "least", "most"]) (GB : FnOk P w K mg base CX0 k fB fdB ["value", "least", "most"] (spBetweenX K)) : FnOk P w K mg base CX0 (k + 1) f fd ["instruction_set", "value"] (spIsCode K C) := by
  refine F.ok scIsCode (fun vs H Q E h => ?_) (fun cdv A' outer s H vs Q E hr h => ?_)
  · obtain ⟨p, it, cnt, is, v, d, rfl, _⟩ := h
    rfl
  · obtain ⟨p, it, cnt, is, v, d, rfl, SA, D, hl, q⟩ := h
    refine ⟨_, pss_cons (ps_if (pt_not (pt_val (pe_callB call_isi (by rfl) T.isi (by decide +kernel) (pa_cons (pv 1) (pa_cons (pe_bltn (v := .ty "tuple") (u := .type "tuple") (by rfl) T.tuple (by decide +kernel) rfl) pa_nil))))) (pss_one (ps_ret pe_bl)) pss_nil)
      (pss_cons (ps_set (i := 2) scIsCode.nd rfl (.inr rfl) (pe_op op_sub (pe_fld (pv 0) rfl) pe_int))
      (pss_one (ps_ret (pe_callB (cr_all rfl) (by rfl) T.all (by decide +kernel) (pa_cons
        (pe_lc (own := [("byte", 3)]) (g := gName 3) (tt := tYes) (by rfl) scIsCode.nd (pi_tup (pv 1)) (blkOk_by (own := [("byte", 3)]) (N := ["instruction_set", "value", "greatest", "byte"]) (sc := defScope sIsCode) (by decide +kernel))
          (fun _ _ _ _ _ => pg_name (i := 3) scIsCode.nd rfl (Or.inl rfl)) (fun _ _ _ _ _ => pts_nil)
          (fun _ _ _ _ _ => pe_call GB hr (by rfl) B.gl B.fn.kp B.bi .nil pass0 (pa_cons (pv 3) (pa_cons pe_int (pa_cons (pv 2) pa_nil))))) pa_nil))))), ?_⟩
    refine ⟨_, rfl, _, _, _, _, _, rfl, .ty _, D.ty, kit_ty (kit_t d), _, rfl, ?_⟩
    cases D with
    | non => exact iteT (q H (Same.refl _))
    | str x => exact iteT (q H (Same.refl _))
    | dct h => exact iteT (q H (Same.refl _))
    | lst h a => exact iteT (q H (Same.refl _))
    | bl b => exact iteT (q H (Same.refl _))
    | int i => exact iteT (q H (Same.refl _))
    | @tup a xs ds hs ha =>
      have h1000 := hl ds rfl
      have el := ha.len
      obtain ⟨dx, d1, d2, hp, _⟩ := SA.ob
      refine iteF ⟨_, rfl, p, C, dx, _, _, rfl, hp, S.cl, S.nB, flds_cnt _ _ _ _, _, _, rfl, rfl, ?_⟩
      refine ⟨_, rfl, a, rfl, ⟨_, hs⟩, fun D nD => lc_tup (K := K) (a := a) (xs := xs) (fun i H2 => Mk H H2 D (((ds.take i).map (btw 0 ((cnt : Int) - 1))).map V.bl)) (.start nD) (fun i H2 _ p => p.same.tup hs) ?_ ?_⟩
      · intro i x H2 hx mk
        obtain ⟨d, hd, D2⟩ := ha.at hx
        refine ⟨rfl, _, rfl, _, rfl, x, d, 0, (cnt : Int) - 1, rfl, D2.same mk.same, _, mk.at_, (by rw [List.length_map, List.length_map, List.length_take]; exact small1000 (by omega)), ?_⟩
        rw [take_more hd, List.map_append, List.map_append]
        exact mk.put (Same.refl _)
      intro H2 mk
      refine ⟨D, _, rfl, SqL.of mk.at_, ?_⟩
      rw [el, List.take_length, List.all_map]
      exact q H2 mk.same
end
end Ov
namespace Ov
open PySem PySem.Spec PyProof.Rows L2
/-! ### a walk that tells whether a decoder reads padding alone -/
theorem pad_of {is : List I4} {b : Int} : padOp is b = true ↔ ∃ q ∈ pads is, (q.1 : Int) = b := by
  unfold padOp
  rw [List.any_eq_true]
  exact ⟨fun ⟨q, hq, e⟩ => ⟨q, hq, of_decide_eq_true e⟩, fun ⟨q, hq, e⟩ => ⟨q, hq, decide_eq_true e⟩⟩
theorem good_runs {cnt lg : Nat} {is : List I4} (ok : TabOk cnt lg is) (bs : List Int) : ∀ (k e : Nat), bs.length - e ≤ k → ((decide (cdEnd (laOf is) (some e) bs = some 0) && (stF (laOf is) 0 (some e) bs).all fun o => padOp is (bs.getD o 0)) = true ↔ Runs is bs e) := by
  intro k
  induction k with
  | zero =>
    intro e hk
    have le : bs.length ≤ e := by omega
    rw [cd_over le, st_over le, Bool.and_eq_true, decide_eq_true_eq]
    constructor
    · rintro ⟨h, _⟩
      have := Option.some.inj h
      exact .done (by omega)
    · intro h
      have := h.le ok
      exact ⟨by rw [show e - bs.length = 0 by omega], rfl⟩
  | succ k ih =>
    intro e hk
    by_cases le : bs.length ≤ e
    · exact ih e (by omega)
    · have lt : e < bs.length := by omega
      have eb : bs[e]? = some bs[e] := List.getElem?_eq_getElem lt
      generalize bs[e] = b at eb
      by_cases l0 : laOf is b = 0
      · rw [cd_stop eb l0]
        constructor
        · intro h
          have := (Bool.and_eq_true_iff.mp h).1
          exact nomatch of_decide_eq_true this
        · intro h
          obtain ⟨q, hq, er, _⟩ := h.inv lt
          rw [eb] at er
          have e1 := (la_pad ok hq).1
          rw [← Option.some.inj er, l0] at e1
          have := pads_pos ok hq
          omega
      · have lp : 0 < laOf is b := by omega
        have gd : bs.getD (0 + e) 0 = b := by rw [Nat.zero_add, List.getD_eq_getElem?_getD, eb]; rfl
        rw [cd_step eb lp, st_step eb lp, List.all_cons, gd]
        have ih2 := ih (e + laOf is b) (by omega)
        constructor
        · intro h
          obtain ⟨h1, h2⟩ := Bool.and_eq_true_iff.mp h
          obtain ⟨h2, h3⟩ := Bool.and_eq_true_iff.mp h2
          obtain ⟨q, hq, e1⟩ := pad_of.mp h2
          have la := (la_pad ok hq).1
          rw [e1] at la
          refine .go hq (by rw [eb, e1]) ?_
          rw [← la]
          exact ih2.mp (Bool.and_eq_true_iff.mpr ⟨h1, h3⟩)
        · intro h
          obtain ⟨q, hq, er, rr⟩ := h.inv lt
          rw [eb] at er
          have e1 : b = (q.1 : Int) := Option.some.inj er
          have la := (la_pad ok hq).1
          rw [← e1] at la
          rw [← la] at rr
          obtain ⟨h1, h3⟩ := Bool.and_eq_true_iff.mp (ih2.mpr rr)
          exact Bool.and_eq_true_iff.mpr ⟨h1, Bool.and_eq_true_iff.mpr ⟨pad_of.mpr ⟨q, hq, e1.symm⟩, h3⟩⟩
theorem told_iff {cnt lg : Nat} {is : List I4} {cs bs : List Int} {fs : List Bool} (ok : TabOk cnt lg is) (h : Told is bs cs fs) : fs.all id = true ↔ Fills is cs bs := by
  have one : ∀ (i : Nat) (x : Int) (b : Bool), cs[i]? = some x → fs[i]? = some b → (b = true ↔ Runs is bs x.toNat) := fun i x b hx hb => by
    obtain ⟨begun, fol, en, eb⟩ := h.2 i x b hx hb
    rw [← good_runs ok bs bs.length x.toNat (by omega), eb]
    unfold padFrom
    have e1 : decide (fol = bs.length) = decide (cdEnd (laOf is) (some x.toNat) bs = some 0) := by
      rw [en.cd, Bool.eq_iff_iff, decide_eq_true_eq, decide_eq_true_eq]
      by_cases z : fol < bs.length
      · rw [if_pos z]; exact ⟨fun e => by omega, fun e => nomatch e⟩
      · rw [if_neg z]
        exact ⟨fun e => by rw [show fol - bs.length = 0 by omega], fun e => by have := Option.some.inj e; omega⟩
    rw [e1, en.st]
  rw [List.all_eq_true]
  constructor
  · intro al x hx
    obtain ⟨i, hi⟩ := List.mem_iff_getElem?.mp hx
    have il : i < fs.length := by rw [h.1]; exact (List.getElem?_eq_some_iff.mp hi).1
    exact (one i x _ hi (List.getElem?_eq_getElem il)).mp (al _ (List.getElem_mem il))
  · intro F b hb
    obtain ⟨i, hi⟩ := List.mem_iff_getElem?.mp hb
    have il : i < cs.length := by rw [← h.1]; exact (List.getElem?_eq_some_iff.mp hi).1
    exact (one i _ b (List.getElem?_eq_getElem il) hi).mpr (F _ (List.getElem_mem il))
/-! ### codes among things -/
def FillD (is : List I4) (cnt : Nat) (cs : List Int) (d : PyData) : Prop := ∃ bs : List Int, d = .tuple (bs.map PyData.int) ∧ (∀ b ∈ bs, 0 ≤ b ∧ b < (cnt : Int)) ∧ Fills is cs bs
theorem code_ints {cnt : Nat} : ∀ {ds : List PyData}, ds.all (btw 0 ((cnt : Int) - 1)) = true → ∃ bs : List Int, ds = bs.map PyData.int ∧ ∀ b ∈ bs, 0 ≤ b ∧ b < (cnt : Int)
  | [], _ => ⟨[], rfl, fun _ h => nomatch h⟩
  | d :: ds, h => by
    rw [List.all_cons] at h
    obtain ⟨h1, h2⟩ := Bool.and_eq_true_iff.mp h
    obtain ⟨bs, rfl, low⟩ := code_ints h2
    cases d with
    | int i =>
      obtain ⟨a, b⟩ := Bool.and_eq_true_iff.mp (show (decide (0 ≤ i) && decide (i ≤ (cnt : Int) - 1)) = true from h1)
      have a := of_decide_eq_true a
      have b := of_decide_eq_true b
      refine ⟨i :: bs, rfl, fun x hx => ?_⟩
      rcases List.mem_cons.mp hx with rfl | hx
      · omega
      · exact low x hx
    | none => cases h1
    | bool _ => cases h1
    | str _ => cases h1
    | list _ => cases h1
    | tuple _ => cases h1
    | dict _ => cases h1
theorem ints_inj : ∀ {a b : List Int}, a.map PyData.int = b.map PyData.int → a = b
  | [], [], _ => rfl
  | [], _ :: _, h => nomatch h
  | _ :: _, [], h => nomatch h
  | x :: a, y :: b, h => by
    injection h with h1 h2
    injection h1 with h1
    rw [h1, ints_inj h2]
theorem dxall_ints {K : PySem.W.Frag} {H : Hp} : ∀ {xs : List V} {bs : List Int}, DxAll K H xs (bs.map PyData.int) → xs = bs.map V.int
  | _, [], h => by cases h; rfl
  | _, b :: bs, h => by
    cases h with
    | cons h1 h2 =>
      cases h1
      rw [dxall_ints h2]
      rfl
theorem fillD_iff {is : List I4} {cnt : Nat} {cs bs : List Int} (low : ∀ b ∈ bs, 0 ≤ b ∧ b < (cnt : Int)) : FillD is cnt cs (.tuple (bs.map PyData.int)) ↔ Fills is cs bs := by
  constructor
  · rintro ⟨bs', e, _, F⟩
    injection e with e
    rw [ints_inj e]
    exact F
  · exact fun F => ⟨bs, rfl, low, F⟩
theorem fillD_code {is : List I4} {cnt : Nat} {cs : List Int} {d : PyData} (h : FillD is cnt cs d) : isCode cnt d = true := by
  obtain ⟨bs, rfl, low, _⟩ := h
  show (bs.map PyData.int).all (btw 0 ((cnt : Int) - 1)) = true
  rw [List.all_map, List.all_eq_true]
  intro b hb
  have := low b hb
  show (decide (0 ≤ b) && decide (b ≤ (cnt : Int) - 1)) = true
  rw [decide_eq_true (by omega), decide_eq_true (by omega)]
  rfl
section
variable {P : Program} {w : World} {K : PySem.W.Frag} {mg : Str → Option Value} {base : Heap}
/-! ### is_filler of anything -/
def spIsFX (K : PySem.W.Frag) (C : Addr) : Sp := fun vs H Q _ => ∃ (p it c : Addr) (cnt lg : Nat) (is : List I4) (rs : List Addr) (cs : List Int) (v : V) (d : PyData), vs = [.ref p, .ref c, v] ∧ Mach C H p cnt lg it is rs ∧ SqT K H c (cs.map V.int) ∧ Cds (lonOf is) cs ∧ Dx K H v d ∧ (∀ ds, d = .tuple ds → ds.length ≤ 1000) ∧
  ∀ H' (b : Bool), Same H H' → (b = true ↔ FillD is cnt cs d) → Q (.bl b) H'
theorem ok_isFX {f fC fY fP C : Addr} {fd fdC fdY fdP : FuncData} {k : Nat} (F : Fun K "is_filler" "is_filler" s_is_filler f fd) (T : Bi mg)
    (Ch : Def K mg "check_countdowns" s_check_countdowns fC fdC ["instruction_set", "countdowns"]) (GC : FnOk P w K mg base CX0 k fC fdC ["instruction_set", "countdowns"] (spChkC K C))
    (Ic : Def K mg "is_code" sIsCode fY fdY ["instruction_set", "value"]) (GY : FnOk P w K mg base CX0 k fY fdY ["instruction_set", "value"] (spIsCode K C))
    (Pf : Def K mg "is_padded_from" s_is_padded_from fP fdP ["instruction_set", "code", "entry"]) (GP : FnOk P w K mg base CX0 k fP fdP ["instruction_set", "code", "entry"] (spPadF K C)) :
    FnOk P w K mg base CX0 (k + 1) f fd ["instruction_set", "countdowns", "value"] (spIsFX K C) := by
  refine F.ok scIsF (fun vs H Q E h => ?_) (fun cdv A' outer s H vs Q E hr h => ?_)
  · obtain ⟨p, it, c, cnt, lg, is, rs, cs, v, d, rfl, _⟩ := h
    rfl
  · obtain ⟨p, it, c, cnt, lg, is, rs, cs, v, d, rfl, M, hc, hcs, D, few, q⟩ := h
    refine ⟨_, pss_cons (ps_expr (pe_call GC hr (by rfl) Ch.gl Ch.fn.kp Ch.bi .nil pass0 (pa_cons (pv 0) (pa_cons (pv 1) pa_nil))))
      (pss_cons (ps_if (pt_not (pt_val (pe_call GY hr (by rfl) Ic.gl Ic.fn.kp Ic.bi .nil pass0 (pa_cons (pv 0) (pa_cons (pv 2) pa_nil))))) (pss_one (ps_ret pe_bl)) pss_nil)
      (pss_one (ps_ret (pe_callB (cr_all rfl) (by rfl) T.all (by decide +kernel) (pa_cons
        (pe_lc (own := [("countdown", 3)]) (g := gName 3) (tt := tYes) (by rfl) scIsF.nd (pi_tup (pv 1)) (blkOk_by (own := [("countdown", 3)]) (N := ["instruction_set", "countdowns", "value", "countdown"]) (sc := defScope s_is_filler) (by decide +kernel))
          (fun _ _ _ _ _ => pg_name (i := 3) scIsF.nd rfl (Or.inl rfl)) (fun _ _ _ _ _ => pts_nil)
          (fun _ _ _ _ _ => pe_call GP hr (by rfl) Pf.gl Pf.fn.kp Pf.bi .nil pass0 (pa_cons (pv 0) (pa_cons (pv 2) (pa_cons (pv 3) pa_nil))))) pa_nil))))), ?_⟩
    refine ⟨_, rfl, _, rfl, p, it, c, cnt, lg, is, rs, cs, rfl, M, hc, hcs, fun H1 s1 => ?_⟩
    refine ⟨_, rfl, _, rfl, p, it, cnt, is, v, d, rfl, (M.same s1).at_, D.same s1, few, fun H2 s2 => ⟨_, rfl, ?_⟩⟩
    have s02 := s1.trans s2
    cases hcode : isCode cnt d with
    | false => exact iteT (q H2 false s02 ⟨fun z => Bool.noConfusion z, fun z => by rw [fillD_code z] at hcode; cases hcode⟩)
    | true =>
      refine iteF ?_
      obtain ⟨bs, rfl, low⟩ : ∃ bs : List Int, d = .tuple (bs.map PyData.int) ∧ ∀ b ∈ bs, 0 ≤ b ∧ b < (cnt : Int) := by
        cases d with
        | tuple ds =>
          obtain ⟨bs, e, low⟩ := code_ints (show ds.all (btw 0 ((cnt : Int) - 1)) = true from hcode)
          exact ⟨bs, by rw [e], low⟩
        | none => cases hcode
        | bool _ => cases hcode
        | int _ => cases hcode
        | str _ => cases hcode
        | list _ => cases hcode
        | dict _ => cases hcode
      have bl : bs.length ≤ 1000 := by have := few _ rfl; rwa [List.length_map] at this
      obtain ⟨a, rfl, ha⟩ : ∃ a, v = .ref a ∧ SqT K H a (bs.map V.int) := by
        cases D with
        | tup hs al => rw [dxall_ints al] at hs; exact ⟨_, rfl, hs⟩
      have hc2 := s02.tup hc
      refine ⟨_, rfl, c, rfl, ⟨_, hc2⟩, fun D nD => lc_tup (K := K) (a := c) (xs := cs.map V.int) (fun i G => ∃ fs : List Bool, Mk H2 G D (fs.map V.bl) ∧ Told is bs (cs.take i) fs) ⟨[], .start nD, rfl, fun i x b h => by simp at h⟩ (fun i G _ ⟨_, mk, _⟩ => mk.same.tup hc2) ?_ ?_⟩
      · rintro i x G hx ⟨fs, mk, told⟩
        rw [List.getElem?_map] at hx
        obtain ⟨z, hz, rfl⟩ := Option.map_eq_some_iff.mp hx
        have z0 := (hcs.low z (List.mem_of_getElem? hz)).1
        have il : i < cs.length := (List.getElem?_eq_some_iff.mp hz).1
        have tl : (cs.take i).length = i := by rw [List.length_take]; omega
        have fl : fs.length = i := by rw [told.1, tl]
        have c1000 := hcs.few
        refine ⟨rfl, _, rfl, _, rfl, _, rfl, p, it, a, cnt, lg, is, rs, bs, z.toNat, by rw [show ((z.toNat : Nat) : Int) = z by omega]; rfl, M.same (s02.trans mk.same), (s02.trans mk.same).tup ha, by omega, fun G2 begun fol s3 en => ?_⟩
        refine ⟨_, s3 _ _ mk.at_, by rw [List.length_map, sizeLine_eq]; omega, fs ++ [padFrom is bs begun fol], by rw [List.map_append]; exact mk.put s3, by rw [List.length_append, take_more hz, List.length_append, told.1]; rfl, fun j y b hy hb => ?_⟩
        rw [take_more hz] at hy
        rcases Nat.lt_or_ge j i with lt | ge
        · rw [List.getElem?_append_left (by omega)] at hy hb
          exact told.2 j y b hy hb
        · have jl := (List.getElem?_eq_some_iff.mp hb).1
          rw [List.length_append] at jl
          have ej : j = i := by have : j < fs.length + 1 := jl; omega
          subst ej
          rw [List.getElem?_append_right (by omega), tl, Nat.sub_self] at hy
          rw [List.getElem?_append_right (by omega), fl, Nat.sub_self] at hb
          rw [← Option.some.inj hy, ← Option.some.inj hb]
          exact ⟨begun, fol, en, rfl⟩
      · rintro G ⟨fs, mk, told⟩
        rw [List.length_map, List.take_length] at told
        refine ⟨D, _, rfl, SqL.of mk.at_, ?_⟩
        exact q G _ (s02.trans mk.same) ((told_iff M.ok told).trans (fillD_iff low).symm)
end
end Ov
namespace Ov
open PySem PySem.Spec PyProof.Rows L2
section
variable {P : Program} {w : World} {K : PySem.W.Frag} {mg : Str → Option Value} {base : Heap}
/-! ### is_sum -/
def spIsSum : Sp := fun vs H Q _ => ∃ (a : Addr) (ns : List Int) (t : Nat), vs = [.ref a, .int t] ∧ H a = some (.tup (ns.map V.int)) ∧ Lens ns ∧ ∀ H', Same H H' → Q (.bl (reached (leasts (ns.map Int.toNat)) t)) H'
theorem scIsSum : FnScope ["lengths", "total"] ["lengths", "total"] (defScope sIsSum) := ⟨rfl, rfl, rfl, by decide +kernel, rfl, by decide +kernel, by decide +kernel⟩
theorem ok_issum {f fR fL : Addr} {fd fdR fdL : FuncData} {k : Nat} (F : Fun K "is_sum" "is_sum" sIsSum f fd)
    (R : Def K mg "is_reached" sReached fR fdR ["least", "total"]) (GR : FnOk P w K mg base CX0 k fR fdR ["least", "total"] spReached)
    (Le : Def K mg "least_sums" sLeast fL fdL ["lengths"]) (GL : FnOk P w K mg base CX0 k fL fdL ["lengths"] spLeast) : FnOk P w K mg base CX0 (k + 1) f fd ["lengths", "total"] spIsSum := by
  refine F.ok scIsSum (fun vs H Q E h => ?_) (fun cdv A' outer s H vs Q E hr h => ?_)
  · obtain ⟨a, ns, t, rfl, _⟩ := h
    rfl
  · obtain ⟨a, ns, t, rfl, hS, L, q⟩ := h
    refine ⟨_, pss_one (ps_ret (pe_call GR hr (by rfl) R.gl R.fn.kp R.bi .nil pass0 (pa_cons (pe_call GL hr (by rfl) Le.gl Le.fn.kp Le.bi .nil pass0 (pa_cons (pv 0) pa_nil)) (pa_cons (pv 1) pa_nil)))), ?_⟩
    exact ⟨_, rfl, a, ns, rfl, hS, L, fun H1 p s1 n1 h1 => ⟨_, rfl, p, _, t, rfl, h1, q H1 s1⟩⟩
end
end Ov
namespace Ov
open PySem PySem.Spec PyProof.Rows L2
/-! ### the least sums of lengths, told of lists of ints -/
theorem lens_rep {n0 : Int} {rest : List Int} (L : Lens (n0 :: rest)) : Rep (Sum ((n0 :: rest).map Int.toNat)) (leasts ((n0 :: rest).map Int.toNat)) ∧ (leasts ((n0 :: rest).map Int.toNat)).length = n0.toNat := by
  have := L.low n0 List.mem_cons_self
  exact leasts_rep (by omega) (rest.map Int.toNat)
theorem asc_last {ns : List Int} (h : ns.Pairwise (· < ·)) (hne : ns ≠ []) : ∀ y ∈ ns, y ≤ ns.getLast hne := by
  intro y hy
  obtain ⟨i, hi, rfl⟩ := List.mem_iff_getElem.mp hy
  rw [List.getLast_eq_getElem]
  by_cases e : i = ns.length - 1
  · subst e; exact Int.le_refl _
  · exact Int.le_of_lt (List.pairwise_iff_getElem.mp h i (ns.length - 1) hi (by omega) (by omega))
/-! ### least sums as data -/
def optD : Option Nat → PyData
  | none => .none
  | some x => .int x
theorem dp_opts {K : PySem.W.Frag} {H : Hp} : ∀ a : List (Option Nat), DpAll K H (a.map optV) (a.map optD)
  | [] => .nil
  | none :: a => .cons .non (dp_opts a)
  | some x :: a => .cons (.int x) (dp_opts a)
theorem leasts_small {ns : List Int} (L : Lens ns) : (leasts (ns.map Int.toNat)).length ≤ 1000 ∧ ∀ o ∈ leasts (ns.map Int.toNat), ∀ x, o = some x → x ≤ 1000000 := by
  cases ns with
  | nil => exact ⟨Nat.zero_le _, fun o h => nomatch h⟩
  | cons n0 rest =>
    obtain ⟨hR, hlen⟩ := lens_rep L
    have hn := L.low n0 List.mem_cons_self
    refine ⟨by omega, fun o ho x e => ?_⟩
    subst e
    obtain ⟨r, hr⟩ := List.mem_iff_getElem?.mp ho
    have hb := least_le hR (M := 1000) (fun l hl => by
      obtain ⟨z, hz, rfl⟩ := List.mem_map.mp hl
      have := L.low z hz
      omega) (r := r) (x := x) (by rw [List.getD_eq_getElem?_getD, hr]; rfl)
    rw [hlen] at hb
    have : (n0.toNat - 1) * 1000 ≤ 1000 * 1000 := Nat.mul_le_mul_right _ (by omega)
    omega
theorem small_nat {x : Nat} (h : x ≤ 1000000) : ((x : Int)).natAbs < 2 ^ 1000 := by
  rw [Int.natAbs_natCast]
  exact Nat.lt_of_lt_of_le (show x < 2 ^ 20 by omega) (Nat.pow_le_pow_right (by decide) (by decide))
theorem flat_opts {a : List (Option Nat)} (h : ∀ o ∈ a, ∀ x, o = some x → x ≤ 1000000) : Flat (a.map optD) := flat_of fun d hd => by
  obtain ⟨o, ho, rfl⟩ := List.mem_map.mp hd
  cases o with
  | none => exact .non
  | some x => exact .small (small_nat (h _ ho x rfl))
/-- one value by its keyword -/
def one1 {α : Type} : List α → List α → List α
  | [], [a] => [a]
  | _, _ => []
theorem one1_len {α : Type} {us ws : List α} (h : (one1 us ws).length = 1) : ∃ a, us = [] ∧ ws = [a] := by
  match us, ws, h with
  | [], [a], _ => exact ⟨a, rfl, rfl⟩
  | [], [], h => cases h
  | [], _ :: _ :: _, h => cases h
  | _ :: _, _, h => cases h
theorem one1_rel {vs : List V} {us : List Value} {zs : List V} {ws : List Value} (r : Vals vs us) (rz : Vals zs ws) : Vals (one1 vs zs) (one1 us ws) := by
  cases r with
  | nil =>
    cases rz with
    | nil => exact .nil
    | cons r1 rz =>
      cases rz with
      | nil => exact .cons r1 .nil
      | cons r2 rz => exact .nil
  | cons r1 r => exact .nil
theorem same_but {p : Addr} {H H1 H2 : Hp} (hp : H p = none) (s : Same H H1) (b : But p H1 H2) : Same H H2 := fun c o e => b c o (s c o e) (ne_of_none e hp)
end Ov
namespace Ov
open PySem PySem.Spec PyProof.Rows L2
/-- the least sums, where all are numbers -/
def lx (ns : List Int) : List Nat := (leasts (ns.map Int.toNat)).map fun o => o.getD 0
def condV (ns : List Int) : V := if gcdAll (ns.map Int.toNat) = 1 then .int ((top' (lx ns) : Int) - ((lx ns).length : Int) + 1) else .non
def gapV (ns : List Int) : V := if gcdAll (ns.map Int.toNat) = 1 then .int ((((lx ns).map fun x => x / (lx ns).length).sum : Nat) : Int) else .non
/-- what is known of the least sums of lengths without a common divisor -/
structure Full (ns : List Int) (m : Nat) (rest : List Nat) : Prop where
  cons : ns.map Int.toNat = m :: rest
  pos : 0 < m
  small : m ≤ 1000
  all : leasts (ns.map Int.toNat) = (lx ns).map some
  len : (lx ns).length = m
  rep : Rep (Sum (m :: rest)) ((lx ns).map some)
  mod : ∀ (r : Nat) (hr : r < (lx ns).length), (lx ns)[r] % m = r
theorem full_of {ns : List Int} (L : Lens ns) (hg : gcdAll (ns.map Int.toNat) = 1) : ∃ m rest, Full ns m rest := by
  cases ns with
  | nil => exact absurd hg (by decide)
  | cons n0 r =>
    have hn := L.low n0 List.mem_cons_self
    obtain ⟨hR, hlen⟩ := lens_rep L
    obtain ⟨xs, e, hl, hx⟩ := rep_full (m := n0.toNat) (rest := r.map Int.toNat) (by omega) hg hR hlen
    have ex : lx (n0 :: r) = xs := by
      unfold lx
      rw [e, List.map_map]
      exact List.map_id _
    refine ⟨n0.toNat, r.map Int.toNat, rfl, by omega, by omega, by rw [ex]; exact e, by rw [ex]; exact hl, by rw [ex, ← e]; exact hR, ?_⟩
    rw [ex]
    exact fun r hr => (hx r hr).1
theorem optV_some (xs : List Nat) : (xs.map some).map optV = (xs.map fun x : Nat => (x : Int)).map V.int := by
  rw [List.map_map, List.map_map]
  rfl
theorem foldl_max_cast : ∀ (l : List Nat) (n : Nat), (l.map fun x : Nat => (x : Int)).foldl max (n : Int) = ((l.foldl max n : Nat) : Int)
  | [], _ => rfl
  | x :: l, n => by
    rw [List.map_cons, List.foldl_cons, List.foldl_cons, ← foldl_max_cast l (max n x)]
    congr 1
    omega
theorem sum_cast : ∀ l : List Nat, (l.map fun x : Nat => (x : Int)).sum = ((l.sum : Nat) : Int)
  | [] => rfl
  | x :: l => by rw [List.map_cons, List.sum_cons, List.sum_cons, sum_cast l, Int.natCast_add]
section
variable {P : Program} {w : World} {K : PySem.W.Frag} {mg : Str → Option Value} {base : Heap}
/-! ### conductor -/
def spCond : Sp := fun vs H Q _ => ∃ (a : Addr) (ns : List Int), vs = [.ref a] ∧ H a = some (.tup (ns.map V.int)) ∧ Lens ns ∧ ∀ H', Same H H' → Q (condV ns) H'
theorem scCond : FnScope ["lengths", "least"] ["lengths"] (defScope sConductor) := ⟨rfl, rfl, rfl, by decide +kernel, rfl, by decide +kernel, by decide +kernel⟩
theorem ok_cond {f fC fL : Addr} {fd fdC fdL : FuncData} {k : Nat} (F : Fun K "conductor" "conductor" sConductor f fd) (T : Bi mg)
    (C : Def K mg "common_divisor" sCommon fC fdC ["lengths"]) (GC : FnOk P w K mg base CX0 k fC fdC ["lengths"] spCommon)
    (Le : Def K mg "least_sums" sLeast fL fdL ["lengths"]) (GL : FnOk P w K mg base CX0 k fL fdL ["lengths"] spLeast) : FnOk P w K mg base CX0 (k + 1) f fd ["lengths"] spCond := by
  refine F.ok scCond (fun vs H Q E h => ?_) (fun cdv A' outer s H vs Q E hr h => ?_)
  · obtain ⟨a, ns, rfl, _⟩ := h
    rfl
  · obtain ⟨a, ns, rfl, hS, L, q⟩ := h
    refine ⟨_, pss_cons (ps_if (pt_cmpR op_ne (pe_call GC hr (by rfl) C.gl C.fn.kp C.bi .nil pass0 (pa_cons (pv 0) pa_nil)) pe_int (nomark _)) (pss_one (ps_ret pe_non)) pss_nil)
      (pss_cons (ps_set (i := 1) scCond.nd rfl (.inl rfl) (pe_call GL hr (by rfl) Le.gl Le.fn.kp Le.bi .nil pass0 (pa_cons (pv 0) pa_nil)))
      (pss_one (ps_ret (pe_op op_add (pe_op op_sub (pe_callB (cr_maxT rfl hr) (by rfl) T.max (by decide +kernel) (pa_cons (pv 1) pa_nil)) (pe_callB call_len_seq (by rfl) T.len PySem.boot_len (pa_cons (pv 1) pa_nil))) pe_int)))), ?_⟩
    refine ⟨_, rfl, a, ns, rfl, hS, L, fun H1 s1 => ⟨rfl, _, rfl, ?_⟩⟩
    by_cases hg : gcdAll (ns.map Int.toNat) = 1
    · rw [decide_eq_true (show V.int ((gcdAll (ns.map Int.toNat) : Nat) : Int) = V.int 1 by rw [hg]; rfl)]
      refine iteF ⟨_, rfl, a, ns, rfl, s1 _ _ hS, L, fun H2 p s2 n2 h2 => ?_⟩
      obtain ⟨m, rest, Fu⟩ := full_of L hg
      rw [Fu.all, optV_some] at h2
      have hlen := Fu.len
      have hpos := Fu.pos
      have q' := q
      unfold condV at q'
      rw [if_pos hg] at q'
      generalize lx ns = xs at *
      cases xs with
      | nil => simp at hlen; omega
      | cons x xs =>
        refine ⟨_, rfl, p, (x : Int), xs.map fun x : Nat => (x : Int), rfl, SqT.of h2, ?_⟩
        rw [foldl_max_cast]
        refine ⟨_, rfl, p, _, rfl, .inr (SqT.of h2), _, _, rfl, rfl, _, _, rfl, rfl, ?_⟩
        rw [List.length_map, List.length_map]
        exact q' H2 (s1.trans s2)
    · rw [decide_eq_false (show ¬ V.int ((gcdAll (ns.map Int.toNat) : Nat) : Int) = V.int 1 from fun z => hg (by have := V.int.inj z; omega))]
      have q' := q
      unfold condV at q'
      rw [if_neg hg] at q'
      exact iteT (q' H1 s1)
/-! ### gap_count -/
def spGap : Sp := fun vs H Q _ => ∃ (a : Addr) (ns : List Int), vs = [.ref a] ∧ H a = some (.tup (ns.map V.int)) ∧ Lens ns ∧ ∀ H', Same H H' → Q (gapV ns) H'
theorem scGap : FnScope ["lengths", "least", "reached"] ["lengths"] (defScope sGap) := ⟨rfl, rfl, rfl, by decide +kernel, rfl, by decide +kernel, by decide +kernel⟩
theorem ok_gap {f fC fL : Addr} {fd fdC fdL : FuncData} {k : Nat} (F : Fun K "gap_count" "gap_count" sGap f fd) (T : Bi mg)
    (C : Def K mg "common_divisor" sCommon fC fdC ["lengths"]) (GC : FnOk P w K mg base CX0 k fC fdC ["lengths"] spCommon)
    (Le : Def K mg "least_sums" sLeast fL fdL ["lengths"]) (GL : FnOk P w K mg base CX0 k fL fdL ["lengths"] spLeast) : FnOk P w K mg base CX0 (k + 1) f fd ["lengths"] spGap := by
  refine F.ok scGap (fun vs H Q E h => ?_) (fun cdv A' outer s H vs Q E hr h => ?_)
  · obtain ⟨a, ns, rfl, _⟩ := h
    rfl
  · obtain ⟨a, ns, rfl, hS, L, q⟩ := h
    refine ⟨_, pss_cons (ps_if (pt_cmpR op_ne (pe_call GC hr (by rfl) C.gl C.fn.kp C.bi .nil pass0 (pa_cons (pv 0) pa_nil)) pe_int (nomark _)) (pss_one (ps_ret pe_non)) pss_nil)
      (pss_cons (ps_set (i := 1) scGap.nd rfl (.inr rfl) (pe_call GL hr (by rfl) Le.gl Le.fn.kp Le.bi .nil pass0 (pa_cons (pv 0) pa_nil)))
      (pss_one (ps_ret (pe_callB (cr_sum rfl) (by rfl) T.sum (by decide +kernel) (pa_cons
        (pe_lc (own := [("reached", 2)]) (g := gName 2) (tt := tYes) (te := tOp (rI CDiv fun i j => .int (i / j)) (tVar 2) (tCB (fun xs H Q => ∃ p ys, xs = [V.ref p] ∧ (SqL K H p ys ∨ SqT K H p ys) ∧ Q (.int ys.length) H) (tCons (tVar 1) tNil))) (by rfl) scGap.nd (pi_tup (pv 1))
          (blkOk_by (own := [("reached", 2)]) (N := ["lengths", "least", "reached"]) (sc := defScope sGap) (by decide +kernel))
          (fun _ _ _ _ _ => pg_name (i := 2) scGap.nd rfl (Or.inl rfl)) (fun _ _ _ _ _ => pts_nil)
          (fun _ _ _ _ _ => pe_op op_fdiv (pv 2) (pe_callB call_len_seq (by rfl) T.len PySem.boot_len (pa_cons (pv 1) pa_nil)))) pa_nil))))), ?_⟩
    refine ⟨_, rfl, a, ns, rfl, hS, L, fun H1 s1 => ⟨rfl, _, rfl, ?_⟩⟩
    by_cases hg : gcdAll (ns.map Int.toNat) = 1
    · rw [decide_eq_true (show V.int ((gcdAll (ns.map Int.toNat) : Nat) : Int) = V.int 1 by rw [hg]; rfl)]
      refine iteF ⟨_, rfl, a, ns, rfl, s1 _ _ hS, L, fun H2 p s2 n2 h2 => ?_⟩
      obtain ⟨m, rest, Fu⟩ := full_of L hg
      rw [Fu.all, optV_some] at h2
      have hlen := Fu.len
      have hpos := Fu.pos
      have hsm := Fu.small
      have q' := q
      unfold gapV at q'
      rw [if_pos hg] at q'
      generalize lx ns = xs at *
      rw [hlen] at q'
      refine ⟨_, rfl, p, rfl, ⟨_, SqT.of h2⟩, fun D nD => lc_tup (K := K) (a := p) (xs := (xs.map fun x : Nat => (x : Int)).map V.int) (fun i H3 => Mk H2 H3 D ((((xs.take i).map fun x => x / m).map fun x : Nat => (x : Int)).map V.int)) (.start nD) (fun i H3 _ mk => mk.same.tup (SqT.of h2)) ?_ ?_⟩
      · intro i x H3 hx mk
        have hi : i < xs.length := by
          have := (List.getElem?_eq_some_iff.mp hx).1
          rwa [List.length_map, List.length_map] at this
        have ex : x = .int ((xs[i] : Nat) : Int) := by
          rw [List.getElem?_map, List.getElem?_map, List.getElem?_eq_getElem hi] at hx
          exact (Option.some.inj hx).symm
        subst ex
        refine ⟨rfl, _, rfl, _, rfl, p, _, rfl, .inr (SqT.of (mk.same _ _ h2)), _, _, rfl, rfl, ⟨?_, ?_⟩, _, mk.at_, ?_, ?_⟩
        · rw [List.length_map, List.length_map, hlen]; omega
        · rw [List.length_map, List.length_map, hlen]; omega
        · rw [List.length_map, List.length_map, List.length_map, List.length_take]
          exact small1000 (by omega)
        · rw [take_more (List.getElem?_eq_getElem hi), List.map_append, List.map_append, List.map_append]
          have e : V.int (((xs[i] : Nat) : Int) / ((((xs.map fun x : Nat => (x : Int)).map V.int).length : Nat) : Int)) = V.int (((xs[i] / m : Nat)) : Int) := by
            rw [List.length_map, List.length_map, hlen]; simp
          show Mk H2 (upd H3 D (.lst (_ ++ [V.int (((xs[i] : Nat) : Int) / ((((xs.map fun x : Nat => (x : Int)).map V.int).length : Nat) : Int))]))) D _
          rw [e]
          exact mk.put (Same.refl H3)
      · intro H3 mk
        rw [List.length_map, List.length_map, List.take_length] at mk
        refine ⟨D, _, rfl, SqL.of mk.at_, ?_⟩
        rw [sum_cast]
        exact q' H3 ((s1.trans s2).trans mk.same)
    · rw [decide_eq_false (show ¬ V.int ((gcdAll (ns.map Int.toNat) : Nat) : Int) = V.int 1 from fun z => hg (by have := V.int.inj z; omega))]
      have q' := q
      unfold gapV at q'
      rw [if_neg hg] at q'
      exact iteT (q' H1 s1)
end
end Ov
namespace Ov
open PySem PySem.Spec PyProof.Rows L2
/-! ### a last part of a least sum -/
theorem part_ex {ls : List Nat} {a : List (Option Nat)} (h : Rep (Sum ls) a) {x r : Nat} (hr : a.getD r none = some x) (h0 : 0 < x) : ∃ l ∈ ls, l ≤ x ∧ a.getD ((x - l) % a.length) none = some (x - l) := by
  obtain ⟨sx, rx⟩ := h.sound r x hr
  rcases Sum.step.mp sx with h1 | ⟨l, hl, hlx, sy⟩
  · omega
  obtain ⟨z, hz, hzy⟩ := h.least _ sy
  obtain ⟨sz, rz⟩ := h.sound _ z hz
  have ezy : z = x - l := by
    rcases Nat.lt_or_ge z (x - l) with c | c
    · exfalso
      obtain ⟨x', hx', hle⟩ := h.least (z + l) (.add hl sz)
      have em : (z + l) % a.length = r := by
        rw [Nat.add_mod, rz, ← Nat.add_mod, Nat.sub_add_cancel hlx, rx]
      rw [em, hr] at hx'
      have : x = x' := Option.some.inj hx'
      omega
    · omega
  rw [ezy] at hz
  exact ⟨l, hl, hlx, hz⟩
/-- whether n leads from another least sum to x -/
def isPart (a : List (Option Nat)) (x : Nat) (n : Int) : Bool := decide (optV (a.getD (((x : Int) - n) % (a.length : Int)).toNat none) = V.int ((x : Int) - n))
theorem isPart_of {a : List (Option Nat)} {x : Nat} {n : Int} (h : isPart a x n = true) (hn : 0 ≤ n) : ∃ l : Nat, n = (l : Int) ∧ l ≤ x ∧ a.getD ((x - l) % a.length) none = some (x - l) := by
  have e := of_decide_eq_true h
  obtain ⟨l, rfl⟩ : ∃ l : Nat, n = (l : Int) := ⟨n.toNat, by omega⟩
  cases ho : a.getD (((x : Int) - (l : Int)) % (a.length : Int)).toNat none with
  | none => rw [ho] at e; cases e
  | some y =>
    rw [ho] at e
    have e' : (y : Int) = (x : Int) - (l : Int) := V.int.inj e
    have hl : l ≤ x := by omega
    refine ⟨l, rfl, hl, ?_⟩
    have em : (((x : Int) - (l : Int)) % (a.length : Int)).toNat = (x - l) % a.length := by
      rw [show (x : Int) - (l : Int) = ((x - l : Nat) : Int) by omega]
      omega
    rw [em] at ho
    rw [ho]
    congr 1
    omega
theorem isPart_ex {ns : List Int} (L : Lens ns) {a : List (Option Nat)} (h : Rep (Sum (ns.map Int.toNat)) a) {x r : Nat} (hr : a.getD r none = some x) (h0 : 0 < x) : ns.filter (isPart a x) ≠ [] := by
  obtain ⟨l, hl, hlx, e⟩ := part_ex h hr h0
  obtain ⟨n, hn, rfl⟩ := List.mem_map.mp hl
  have n1 := (L.low n hn).1
  have : n ∈ ns.filter (isPart a x) := by
    rw [List.mem_filter]
    refine ⟨hn, decide_eq_true ?_⟩
    have em : (((x : Int) - n) % (a.length : Int)).toNat = (x - n.toNat) % a.length := by
      rw [show (x : Int) - n = ((x - n.toNat : Nat) : Int) by omega]
      omega
    rw [em, e]
    show V.int _ = V.int _
    congr 1
    omega
  intro z
  rw [z] at this
  cases this
def rLenL (K : PySem.W.Frag) : List V → Hp → VK → Prop := fun args G R => ∃ a items, args = [.ref a] ∧ (SqL K G a items ∨ SqT K G a items) ∧ R (.int items.length) G
theorem cr_lenL {X : Cx} : CallR X (.builtin "len") (rLenL X.K) := call_len_seq
section
variable {P : Program} {w : World} {K : PySem.W.Frag} {mg : Str → Option Value} {base : Heap}
def spLast (K : PySem.W.Frag) : Sp := fun vs H Q _ => ∃ (p q : Addr) (ns : List Int) (a : List (Option Nat)) (x : Nat), vs = [.ref p, .ref q, .int (x : Int)] ∧ SqT K H p (ns.map V.int) ∧ SqT K H q (a.map optV) ∧ Lens ns ∧ Rep (Sum (ns.map Int.toNat)) a ∧ a.getD (x % a.length) none = some x ∧ 0 < x ∧
  ∀ H' (l : Nat), Same H H' → (ns.filter (isPart a x)).head? = some (l : Int) → (l : Int) ∈ ns → l ≤ x → a.getD ((x - l) % a.length) none = some (x - l) → Q (.int (l : Int)) H'
abbrev nLast : List Str := ["lengths", "least", "reached", "parts", "length"]
theorem scLast : FnScope nLast ["lengths", "least", "reached"] (defScope sLast) := ⟨rfl, rfl, rfl, by decide +kernel, rfl, by decide +kernel, by decide +kernel⟩
theorem ok_last {f : Addr} {fd : FuncData} {k : Nat} (F : Fun K "last_part" "last_part" sLast f fd) (T : Bi mg) : FnOk P w K mg base CX0 (k + 1) f fd ["lengths", "least", "reached"] (spLast K) := by
  refine F.ok scLast (fun vs H Q E h => ?_) (fun cdv A' outer s H vs Q E hr h => ?_)
  · obtain ⟨p, q, ns, a, x, rfl, _⟩ := h
    rfl
  · obtain ⟨p, c, ns, a, x, rfl, hp, hc, L, R, hx, h0, q⟩ := h
    refine ⟨_, pss_cons (ps_setLc (i := 3) (own := [("length", 4)]) (g := gName 4)
        (tt := tTest (tOp rEq (tOp (rIxT K) (tVar 1) (tOp (rI (fun _ j => 0 < j) fun i j => .int (i % j)) (tOp (rI0 fun i j => .int (i - j)) (tVar 2) (tVar 4)) (tCB (rLenL K) (tCons (tVar 1) tNil)))) (tOp (rI0 fun i j => .int (i - j)) (tVar 2) (tVar 4)))) (by rfl) scLast.nd rfl rfl (sw_true rfl rfl rfl (by decide +kernel)) (pi_tup (pv 0))
        (blkOk_by (own := [("length", 4)]) (N := nLast) (sc := defScope sLast) (by decide +kernel))
        (fun _ _ _ _ _ => pg_name (i := 4) scLast.nd rfl (Or.inl rfl))
        (fun _ _ _ _ _ => pts_one (pt_cmpR op_eq (pe_ix (r := rIxT K) ix_tup (pv 1) (pe_op op_mod (pe_op op_sub (pv 2) (pv 4)) (pe_callB (r := rLenL K) cr_lenL (by rfl) T.len PySem.boot_len (pa_cons (pv 1) pa_nil))) (fun _ _ => rfl)) (pe_op op_sub (pv 2) (pv 4)) (nomark _)))
        (fun _ _ _ _ _ => pv 4))
      (pss_one (ps_ret (pe_ix ix_list (pv 3) pe_int (fun _ _ => rfl)))), ?_⟩
    have apos := R.pos
    have few := L.few
    refine ⟨_, rfl, p, rfl, ⟨_, hp⟩, fun D nD => lc_tup (K := K) (a := p) (xs := ns.map V.int) (fun i H2 => Mk H H2 D (((ns.take i).filter (isPart a x)).map V.int)) (.start nD) (fun i H2 _ mk => mk.same.tup hp) ?_ ?_⟩
    · intro i v H2 hv mk
      rw [List.getElem?_map] at hv
      obtain ⟨n, hn, rfl⟩ := Option.map_eq_some_iff.mp hv
      have n1 := (L.low n (List.mem_of_getElem? hn)).1
      have lp : (0 : Int) < (a.length : Int) := by omega
      have hlt : (((x : Int) - n) % (a.length : Int)).toNat < a.length := by
        have := Int.emod_lt_of_pos ((x : Int) - n) lp
        have := Int.emod_nonneg ((x : Int) - n) (show (a.length : Int) ≠ 0 by omega)
        omega
      have at_ : atI (a.map optV) (((x : Int) - n) % (((a.map optV).length : Nat) : Int)) = some (optV (a.getD (((x : Int) - n) % (a.length : Int)).toNat none)) := by
        rw [List.length_map]
        have e : ((x : Int) - n) % (a.length : Int) = (((((x : Int) - n) % (a.length : Int)).toNat : Nat) : Int) := by
          have := Int.emod_nonneg ((x : Int) - n) (show (a.length : Int) ≠ 0 by omega)
          omega
        rw [e]
        exact atI_nat (at_opt hlt rfl)
      have sc : scal (optV (a.getD (((x : Int) - n) % (a.length : Int)).toNat none)) (.int ((x : Int) - n)) = true := by
        cases a.getD (((x : Int) - n) % (a.length : Int)).toNat none <;> rfl
      refine ⟨rfl, _, rfl, _, rfl, _, rfl, _, _, rfl, rfl, _, rfl, c, _, rfl, .inr (mk.same.tup hc), _, _, rfl, rfl, (by rw [List.length_map]; exact lp), c, _, _, _, rfl, rfl, mk.same.tup hc, at_, _, rfl, _, rfl, _, _, rfl, rfl, sc, _, rfl, ?_⟩
      have tk : (ns.take (i + 1)).filter (isPart a x) = (ns.take i).filter (isPart a x) ++ (if isPart a x n = true then [n] else []) := by
        rw [take_more hn, List.filter_append, List.filter_cons]
        rfl
      rw [tk]
      show (if isPart a x n = true then _ else _)
      cases hb : isPart a x n with
      | true =>
        refine iteT ⟨_, rfl, _, mk.at_, ?_, ?_⟩
        · rw [List.length_map]
          have := List.length_filter_le (isPart a x) (ns.take i)
          rw [List.length_take] at this
          exact small1000 (by omega)
        · rw [if_pos rfl, List.map_append]
          exact mk.put (Same.refl _)
      | false =>
        refine iteF ?_
        rw [if_neg (by decide), List.append_nil]
        exact mk
    · intro H2 mk
      rw [List.length_map, List.take_length] at mk
      have ne := isPart_ex L R hx h0
      cases hf : ns.filter (isPart a x) with
      | nil => exact absurd hf ne
      | cons n rest =>
        have hin : n ∈ ns.filter (isPart a x) := by rw [hf]; exact List.mem_cons_self
        obtain ⟨hn, hp'⟩ := List.mem_filter.mp hin
        obtain ⟨l, rfl, hlx, e⟩ := isPart_of hp' (by have := (L.low n hn).1; omega)
        rw [hf] at mk
        exact ⟨_, rfl, D, _, _, _, rfl, rfl, SqL.of mk.at_, atI_nat (j := 0) rfl, q H2 l mk.same (by rw [hf]; rfl) hn hlx e⟩
end
end Ov
namespace Ov
open PySem PySem.Spec PyProof.Rows L2
/-! ### part_counts -/
def cKV (ns : List Int) (cnt : Int → Nat) : List (Key × V) := ns.map fun n => (Sum.inl n, V.int ((cnt n : Nat) : Int))
theorem cKV_get {cnt : Int → Nat} {l : Int} : ∀ {ns : List Int}, l ∈ ns → valV (cKV ns cnt) (Sum.inl l) = some (.int ((cnt l : Nat) : Int)) := by
  intro ns h
  unfold valV cKV
  induction ns with
  | nil => cases h
  | cons n ns ih =>
    rw [List.map_cons, List.find?_cons]
    by_cases e : n = l
    · subst e
      simp
    · have z : (decide ((Sum.inl n : Key) = Sum.inl l)) = false := decide_eq_false fun w => e (Sum.inl.inj w)
      simp only [z]
      exact ih ((List.mem_cons.mp h).resolve_left fun w => e w.symm)
theorem cKV_put {cnt : Int → Nat} {l : Int} {ns : List Int} (h : l ∈ ns) : putK (cKV ns cnt) (Sum.inl l) (.int (((cnt l + 1 : Nat)) : Int)) = cKV ns (fun n => if n = l then cnt l + 1 else cnt n) := by
  have any : ((cKV ns cnt).any fun kv => decide (kv.1 = (Sum.inl l : Key))) = true := by
    rw [List.any_eq_true]
    exact ⟨_, List.mem_map.mpr ⟨l, h, rfl⟩, decide_eq_true rfl⟩
  unfold putK
  rw [if_pos any]
  unfold cKV
  rw [List.map_map]
  refine List.map_congr_left fun n _ => ?_
  show (if (Sum.inl n : Key) = Sum.inl l then _ else _) = _
  by_cases e : n = l
  · subst e
    rw [if_pos rfl]
    simp
  · rw [if_neg fun w => e (Sum.inl.inj w)]
    simp [e]
theorem put_freshC {kvs : List (Key × V)} {k : Key} {v : V} (h : k ∉ kvs.map (·.1)) : putK kvs k v = kvs ++ [(k, v)] := by
  unfold putK
  refine if_neg fun z => h ?_
  obtain ⟨x, hx, e⟩ := List.any_eq_true.mp z
  exact List.mem_map.mpr ⟨x, hx, of_decide_eq_true e⟩
theorem cKV_more {cnt : Int → Nat} {ns : List Int} (L : Lens ns) {i : Nat} {n : Int} (h : ns[i]? = some n) : putK (cKV (ns.take i) cnt) (Sum.inl n) (.int ((cnt n : Nat) : Int)) = cKV (ns.take (i + 1)) cnt := by
  rw [put_freshC, take_more h]
  · unfold cKV
    rw [List.map_append]
    rfl
  · intro z
    unfold cKV at z
    rw [List.map_map] at z
    obtain ⟨y, hy, e⟩ := List.mem_map.mp z
    have e' : y = n := Sum.inl.inj e
    obtain ⟨j, hj, ej⟩ := List.mem_take_iff_getElem.mp hy
    obtain ⟨hi, ei⟩ := List.getElem?_eq_some_iff.mp h
    have := List.pairwise_iff_getElem.mp L.asc j i (by omega) hi (by omega)
    omega
/-- one step of the walk from a least sum to 0: what is left, how often each length was met -/
def stepC (ns : List Int) (a : List (Option Nat)) (p : Nat × (Int → Nat)) : Nat × (Int → Nat) :=
  if p.1 = 0 then p else match (ns.filter (isPart a p.1)).head? with
    | none => p
    | some l => (p.1 - l.toNat, fun n => if n = l then p.2 l + 1 else p.2 n)
def walkC (ns : List Int) (a : List (Option Nat)) : Nat → Nat × (Int → Nat) → Nat × (Int → Nat)
  | 0, p => p
  | k + 1, p => stepC ns a (walkC ns a k p)
theorem walkC_done {ns : List Int} {a : List (Option Nat)} {p : Nat × (Int → Nat)} {k : Nat} {c : Int → Nat} (h : walkC ns a k p = (0, c)) : ∀ m, walkC ns a (k + m) p = (0, c)
  | 0 => h
  | m + 1 => by
    show stepC ns a (walkC ns a (k + m) p) = _
    rw [walkC_done h m]
    unfold stepC
    rw [if_pos rfl]
theorem walkC_one {ns : List Int} {a : List (Option Nat)} {p : Nat × (Int → Nat)} {k m : Nat} {c d : Int → Nat} (h : walkC ns a k p = (0, c)) (h2 : walkC ns a m p = (0, d)) : c = d := by
  have e1 := walkC_done h m
  have e2 := walkC_done h2 k
  rw [Nat.add_comm m k, e1] at e2
  exact (Prod.mk.inj e2).2
section
variable {P : Program} {w : World} {K : PySem.W.Frag} {mg : Str → Option Value} {base : Heap}
def spCounts (K : PySem.W.Frag) : Sp := fun vs H Q _ => ∃ (p q : Addr) (ns : List Int) (a : List (Option Nat)) (x : Nat), vs = [.ref p, .ref q, .int (x : Int)] ∧ SqT K H p (ns.map V.int) ∧ SqT K H q (a.map optV) ∧ Lens ns ∧ Rep (Sum (ns.map Int.toNat)) a ∧ (x = 0 ∨ a.getD (x % a.length) none = some x) ∧
  ∀ H' D (cnt : Int → Nat), Same H H' → H D = none → (∃ k, walkC ns a k (x, fun _ => 0) = (0, cnt)) → (∀ n, cnt n ≤ x) → H' D = some (.dK (cKV ns cnt)) → Q (.ref D) H'
abbrev nCounts : List Str := ["lengths", "least", "reached", "counts", "length"]
theorem scCounts : FnScope nCounts ["lengths", "least", "reached"] (defScope sCounts) := ⟨rfl, rfl, rfl, by decide +kernel, rfl, by decide +kernel, by decide +kernel⟩
def leftOf : L2.St → Nat := fun σ => match σ with
  | [_, _, some (.int n), _, _] => n.toNat
  | _ => 0
theorem ok_counts {f fL : Addr} {fd fdL : FuncData} {k : Nat} (F : Fun K "part_counts" "part_counts" sCounts f fd) (T : Bi mg) (La : Def K mg "last_part" sLast fL fdL ["lengths", "least", "reached"]) (GL : FnOk P w K mg base CX0 k fL fdL ["lengths", "least", "reached"] (spLast K)) :
    FnOk P w K mg base CX0 (k + 1) f fd ["lengths", "least", "reached"] (spCounts K) := by
  refine F.ok scCounts (fun vs H Q E h => ?_) (fun cdv A' outer s H vs Q E hr h => ?_)
  · obtain ⟨p, q, ns, a, x, rfl, _⟩ := h
    rfl
  · obtain ⟨p, c, ns, a, x, rfl, hp, hc, L, R, hx, q⟩ := h
    refine ⟨_, pss_cons (ps_setDc (i := 3) (own := [("length", 4)]) (g := gName 4) (tt := tYes) (by rfl) scCounts.nd rfl rfl (sw_dict rfl rfl rfl (by decide +kernel)) (pi_tup (pv 0))
          (blkOk_by (own := [("length", 4)]) (N := nCounts) (sc := defScope sCounts) (by decide +kernel))
          (fun _ _ _ _ _ => pg_name (i := 4) scCounts.nd rfl (Or.inl rfl)) (fun _ _ _ _ _ => pts_nil) (fun _ _ _ _ _ => pv 4) (fun _ _ _ _ _ => pe_int))
      (pss_cons (ps_while PassesOwn.never (pt_cmpR op_gt (pv 2) pe_int (nomark _))
        (pss_cons (ps_set (i := 4) scCounts.nd rfl (.inl rfl) (pe_call GL hr (by rfl) La.gl La.fn.kp La.bi .nil pass0 (pa_cons (pv 0) (pa_cons (pv 1) (pa_cons (pv 2) pa_nil)))))
        (pss_cons (ps_daug (hu_of hr) (pv 3) (pv 4) pe_int iop_add (fun _ _ _ => rfl))
        (pss_one (ps_aug scCounts.nd (i := 2) rfl (.inl rfl) (pv 4) ip_sub))))) 
      (pss_one (ps_ret (pv 3)))), ?_⟩
    have few := L.few
    refine ⟨_, rfl, p, rfl, ⟨_, hp⟩, fun D nD => dc_tup (K := K) (a := p) (xs := ns.map V.int) (fun i H4 => Same H H4 ∧ H4 D = some (.dK (cKV (ns.take i) fun _ => 0))) ⟨same_upd nD, upd_same⟩ (fun i H4 _ p => p.1.tup hp) ?_ ?_⟩
    · rintro i v H4 hv ⟨s4, hD⟩
      rw [List.getElem?_map] at hv
      obtain ⟨n, hn, rfl⟩ := Option.map_eq_some_iff.mp hv
      refine ⟨rfl, _, rfl, _, Sum.inl n, rfl, hD, ?_, fun b o e => ?_, ?_⟩
      · unfold cKV
        rw [List.length_map, List.length_take]
        exact small1000 (by omega)
      · rw [upd_ne (ne_of_none e nD)]
        exact s4 b o e
      · rw [upd_same, ← cKV_more L hn]
        rfl
    rintro H1 ⟨s1, hD1⟩
    rw [List.length_map, List.take_length] at hD1
    refine while_by (fun σ G => ∃ (y : Nat) (cnt : Int → Nat) (y4 : Option V), σ = [some (.ref p), some (.ref c), some (.int (y : Int)), some (.ref D), y4] ∧ Same H G ∧ G D = some (.dK (cKV ns cnt)) ∧ (y = 0 ∨ a.getD (y % a.length) none = some y) ∧ (∃ k, walkC ns a k (x, fun _ => 0) = (y, cnt)) ∧ ∀ n, cnt n + y ≤ x) (fun σ _ => leftOf σ)
      ⟨x, fun _ => 0, _, rfl, s1, hD1, hx, ⟨0, rfl⟩, fun n => by show 0 + x ≤ x; omega⟩ ?_ ?_
    · rintro σ G ⟨y, cnt, y4, rfl, sG, hD, hy, ⟨kk, hk⟩, hb⟩
      refine ⟨_, rfl, _, _, rfl, rfl, _, rfl, ?_⟩
      by_cases h0 : y = 0
      · rw [decide_eq_false (show ¬ (0 : Int) < (y : Int) by omega)]
        subst h0
        exact iteF ⟨_, rfl, q G D cnt sG nD ⟨kk, hk⟩ (fun n => by have := hb n; omega) hD⟩
      · rw [decide_eq_true (show (0 : Int) < (y : Int) by omega)]
        have hy' := hy.resolve_left h0
        refine iteT ⟨_, rfl, _, rfl, _, rfl, p, c, ns, a, y, rfl, sG.tup hp, sG.tup hc, L, R, hy', by omega, fun G2 l s2 hf hl hle e => ?_⟩
        have l1 := (L.low _ hl).1
        have hD2 := s2 _ _ hD
        refine ⟨_, rfl, _, rfl, D, _, rfl, (cKV_get (cnt := cnt) hl) ▸ DGet.k (k := Sum.inl (l : Int)) hD2, _, _, rfl, rfl, _, DPut.k (k := Sum.inl (l : Int)) hD2 (by unfold cKV; rw [List.length_map]; exact small1000 (by omega)), ?_⟩
        have ey : V.int ((y : Int) - (l : Int)) = V.int ((y - l : Nat) : Int) := by congr 1; omega
        have e2 : putK (cKV ns cnt) (Sum.inl (l : Int)) (V.int (((cnt (l : Int) : Nat) : Int) + 1)) = cKV ns (fun n => if n = (l : Int) then cnt (l : Int) + 1 else cnt n) := cKV_put hl
        refine ⟨_, rfl, _, rfl, _, _, rfl, rfl, ⟨y - l, fun n => if n = (l : Int) then cnt (l : Int) + 1 else cnt n, some (.int (l : Int)), ?_, ?_, ?_, .inr e, ⟨kk + 1, ?_⟩, fun n => ?_⟩, ?_⟩
        · rw [ey]
          rfl
        · intro b o eb
          rw [upd_ne (ne_of_none eb nD)]
          exact s2 _ _ (sG _ _ eb)
        · rw [upd_same, ← e2]
        · show stepC ns a (walkC ns a kk (x, fun _ => 0)) = _
          rw [hk]
          unfold stepC
          rw [if_neg h0]
          dsimp only
          rw [hf]
          rfl
        · have h1 := hb n
          have h2 := hb (l : Int)
          dsimp only
          split <;> omega
        · show ((y : Int) - (l : Int)).toNat < (y : Int).toNat
          omega
    · rintro σ H2 Q1 Q2 hQ ⟨v, h1, i, j, h5, h6, b, h7, h8⟩
      exact ⟨v, h1, i, j, h5, h6, b, h7, hQ _ _ h8⟩
end
end Ov
namespace Ov
open PySem PySem.Spec PyProof.Rows L2
/-! ### sum_parts: that it returns -/
theorem cKV_aug {cnt : Int → Nat} {l : Int} {c : Nat} {ns : List Int} (h : l ∈ ns) : putK (cKV ns cnt) (Sum.inl l) (.int (((cnt l + c : Nat)) : Int)) = cKV ns (fun n => if n = l then cnt l + c else cnt n) := by
  have any : ((cKV ns cnt).any fun kv => decide (kv.1 = (Sum.inl l : Key))) = true := by
    rw [List.any_eq_true]
    exact ⟨_, List.mem_map.mpr ⟨l, h, rfl⟩, decide_eq_true rfl⟩
  unfold putK
  rw [if_pos any]
  unfold cKV
  rw [List.map_map]
  refine List.map_congr_left fun n _ => ?_
  show (if (Sum.inl n : Key) = Sum.inl l then _ else _) = _
  by_cases e : n = l
  · subst e
    rw [if_pos rfl]
    simp
  · rw [if_neg fun w => e (Sum.inl.inj w)]
    simp [e]
/-- the pairs of lengths with counts above 0 -/
def pairsC (ns : List Int) (c : Int → Nat) : List PyData := (ns.filter fun n => decide ((0 : Int) < ((c n : Nat) : Int))).map fun n => .tuple [.int n, .int ((c n : Nat) : Int)]
/-- the counts with what the smallest length is used for more -/
def moreC (ns : List Int) (c : Int → Nat) (t x : Nat) : Int → Nat := fun n => if n = ns.headD 0 then c (ns.headD 0) + (((t : Int) - (x : Int)) / ns.headD 0).toNat else c n
def PairsAt (G : Hp) (cn : Int → Nat) : List Addr → List Int → Prop
  | [], [] => True
  | r :: rs, n :: ns => G r = some (.tup [.int n, .int ((cn n : Nat) : Int)]) ∧ PairsAt G cn rs ns
  | _, _ => False
theorem PairsAt.len {G : Hp} {cn : Int → Nat} : ∀ {rs : List Addr} {ns : List Int}, PairsAt G cn rs ns → rs.length = ns.length
  | [], [], _ => rfl
  | _ :: _, _ :: _, h => by rw [List.length_cons, List.length_cons, PairsAt.len h.2]
theorem PairsAt.keep {G G' : Hp} {cn : Int → Nat} (k : ∀ (r : Addr) (o : List V), G r = some (.tup o) → G' r = some (.tup o)) : ∀ {rs : List Addr} {ns : List Int}, PairsAt G cn rs ns → PairsAt G' cn rs ns
  | [], [], _ => trivial
  | _ :: _, _ :: _, h => ⟨k _ _ h.1, PairsAt.keep k h.2⟩
theorem PairsAt.snoc {G : Hp} {cn : Int → Nat} {r : Addr} {n : Int} (e : G r = some (.tup [.int n, .int ((cn n : Nat) : Int)])) : ∀ {rs : List Addr} {ns : List Int}, PairsAt G cn rs ns → PairsAt G cn (rs ++ [r]) (ns ++ [n])
  | [], [], _ => ⟨e, trivial⟩
  | _ :: _, _ :: _, h => ⟨h.1, PairsAt.snoc e h.2⟩
theorem PairsAt.dx {K : PySem.W.Frag} {G : Hp} {cn : Int → Nat} : ∀ {rs : List Addr} {ns : List Int}, PairsAt G cn rs ns → DxAll K G (rs.map V.ref) (ns.map fun n => .tuple [.int n, .int ((cn n : Nat) : Int)])
  | [], [], _ => .nil
  | _ :: _, _ :: _, h => .cons (.tup (SqT.of h.1) (.cons (.int _) (.cons (.int _) .nil))) (PairsAt.dx h.2)
/-- what sum_parts tells -/
def PartsD (ns : List Int) (t : Nat) (d : PyData) : Prop :=
  (reached (leasts (ns.map Int.toNat)) t = false ∧ d = .none) ∨ (reached (leasts (ns.map Int.toNat)) t = true ∧ t = 0 ∧ d = .tuple []) ∨
  (reached (leasts (ns.map Int.toNat)) t = true ∧ t ≠ 0 ∧ ∃ (x k : Nat) (c : Int → Nat), (leasts (ns.map Int.toNat)).getD (t % (leasts (ns.map Int.toNat)).length) none = some x ∧ walkC ns (leasts (ns.map Int.toNat)) k (x, fun _ => 0) = (0, c) ∧ (∀ n, c n ≤ t) ∧ d = .tuple (pairsC ns (moreC ns c t x)))
theorem PartsD.one {ns : List Int} {t : Nat} {d e : PyData} (h : PartsD ns t d) (g : PartsD ns t e) : d = e := by
  rcases h with ⟨h1, rfl⟩ | ⟨h1, h2, rfl⟩ | ⟨h1, h2, x, k, c, hx, hw, _, rfl⟩
  · rcases g with ⟨_, rfl⟩ | ⟨g1, _⟩ | ⟨g1, _⟩
    · rfl
    · rw [h1] at g1; cases g1
    · rw [h1] at g1; cases g1
  · rcases g with ⟨g1, _⟩ | ⟨_, _, rfl⟩ | ⟨_, g2, _⟩
    · rw [h1] at g1; cases g1
    · rfl
    · exact absurd h2 g2
  · rcases g with ⟨g1, _⟩ | ⟨_, g2, _⟩ | ⟨_, _, x', k', c', hx', hw', _, rfl⟩
    · rw [h1] at g1; cases g1
    · exact absurd g2 h2
    · rw [hx] at hx'
      cases hx'
      rw [walkC_one hw hw']
section
variable {P : Program} {w : World} {K : PySem.W.Frag} {mg : Str → Option Value} {base : Heap}
theorem scParts : FnScope ["lengths", "total", "least", "reached", "counts", "length"] ["lengths", "total"] (defScope sParts) := ⟨rfl, rfl, rfl, by decide +kernel, rfl, by decide +kernel, by decide +kernel⟩
def spPartsX (K : PySem.W.Frag) : Sp := fun vs H Q _ => ∃ (p : Addr) (ns : List Int) (t : Nat), vs = [.ref p, .int (t : Int)] ∧ H p = some (.tup (ns.map V.int)) ∧ Lens ns ∧ t < 10 ^ 12 ∧ ∀ H' v d, Same H H' → Dx K H' v d → PartsD ns t d → Q v H'
theorem ok_partsW {f fL fR fC : Addr} {fd fdL fdR fdC : FuncData} {k : Nat} (F : Fun K "sum_parts" "sum_parts" sParts f fd) (T : Bi mg)
    (Le : Def K mg "least_sums" sLeast fL fdL ["lengths"]) (GL : FnOk P w K mg base CX0 k fL fdL ["lengths"] spLeast)
    (Re : Def K mg "is_reached" sReached fR fdR ["least", "total"]) (GR : FnOk P w K mg base CX0 k fR fdR ["least", "total"] spReached)
    (Co : Def K mg "part_counts" sCounts fC fdC ["lengths", "least", "reached"]) (GC : FnOk P w K mg base CX0 k fC fdC ["lengths", "least", "reached"] (spCounts K)) :
    FnOk P w K mg base CX0 (k + 1) f fd ["lengths", "total"] (spPartsX K) := by
  refine F.ok scParts (fun vs H Q E h => ?_) (fun cdv A' outer s H vs Q E hr h => ?_)
  · obtain ⟨p, ns, t, rfl, _⟩ := h
    rfl
  · obtain ⟨p, ns, t, rfl, hp, L, ht, q⟩ := h
    refine ⟨_, pss_cons (ps_set (i := 2) scParts.nd rfl (.inl rfl) (pe_call GL hr (by rfl) Le.gl Le.fn.kp Le.bi .nil pass0 (pa_cons (pv 0) pa_nil)))
      (pss_cons (ps_if (pt_not (pt_val (pe_call GR hr (by rfl) Re.gl Re.fn.kp Re.bi .nil pass0 (pa_cons (pv 2) (pa_cons (pv 1) pa_nil))))) (pss_one (ps_ret pe_non)) pss_nil)
      (pss_cons (ps_if (pt_cmpR op_eq (pv 1) pe_int (nomark _)) (pss_one (ps_ret (pe_tup pa_nil))) pss_nil)
      (pss_cons (ps_set (i := 3) scParts.nd rfl (.inl rfl) (pe_ix ix_tup (pv 2) (pe_op op_mod (pv 1) (pe_callB call_len_seq (by rfl) T.len PySem.boot_len (pa_cons (pv 2) pa_nil))) (fun _ _ => rfl)))
      (pss_cons (ps_set (i := 4) scParts.nd rfl (.inr rfl) (pe_call GC hr (by rfl) Co.gl Co.fn.kp Co.bi .nil pass0 (pa_cons (pv 0) (pa_cons (pv 2) (pa_cons (pv 3) pa_nil)))))
      (pss_cons (ps_daug (hu_of hr) (pv 4) (pe_ix ix_tup (pv 0) pe_int (fun _ _ => rfl)) (pe_op op_fdiv (pe_op op_sub (pv 1) (pv 3)) (pe_ix ix_tup (pv 0) pe_int (fun _ _ => rfl))) iop_add (fun _ _ _ => rfl))
      (pss_one (ps_ret (pe_callTy call_tuple_of (by rfl) T.tuple (by decide +kernel) (pa_cons
        (pe_lc (own := [("length", 5)]) (g := gName 5) (tt := tTest (tOp (rI0 fun i j => .bl (decide (j < i))) (tDGet (tVar 4) (tVar 5)) (tC (.int 0)))) (by rfl) scParts.nd (pi_tup (pv 0))
          (blkOk_by (own := [("length", 5)]) (N := ["lengths", "total", "least", "reached", "counts", "length"]) (sc := defScope sParts) (by decide +kernel))
          (fun _ _ _ _ _ => pg_name (i := 5) scParts.nd rfl (Or.inl rfl))
          (fun _ _ _ _ _ => pts_one (pt_cmpR op_gt (pe_dget (hu_of hr) (pv 4) (pv 5) (fun _ _ => rfl)) pe_int (nomark _)))
          (fun _ _ _ _ _ => pe_tup (pa_cons (pv 5) (pa_cons (pe_dget (hu_of hr) (pv 4) (pv 5) (fun _ _ => rfl)) pa_nil)))) pa_nil))))))))), ?_⟩
    have few := L.few
    refine ⟨_, rfl, p, ns, rfl, hp, L, fun H1 c s1 nc hc => ?_⟩
    refine ⟨_, rfl, _, rfl, c, _, t, rfl, hc, _, rfl, ?_⟩
    cases hrch : reached (leasts (ns.map Int.toNat)) t with
    | false => exact iteT (q H1 _ _ s1 .non (.inl ⟨hrch, rfl⟩))
    | true =>
      refine iteF ⟨_, rfl, rfl, _, rfl, ?_⟩
      by_cases h0 : t = 0
      · rw [decide_eq_true (show V.int (t : Int) = V.int 0 by rw [h0]; rfl)]
        exact iteT ⟨Nat.zero_le _, fun r nr => q _ _ _ (s1.trans (same_upd nr)) (.tup (SqT.of upd_same) .nil) (.inr (.inl ⟨hrch, h0, rfl⟩))⟩
      rw [decide_eq_false (show ¬ V.int (t : Int) = V.int 0 from fun z => h0 (by have := V.int.inj z; omega))]
      obtain ⟨n0, rest, rfl⟩ : ∃ n0 rest, ns = n0 :: rest := by
        cases ns with
        | nil =>
          exfalso
          have z : (t == 0) = true := hrch
          exact h0 (by simpa using z)
        | cons n0 rest => exact ⟨_, _, rfl⟩
      obtain ⟨R, hl⟩ := lens_rep L
      have q3 : ∀ (x k : Nat) (c : Int → Nat) (H' : Hp) (v : V), (leasts ((n0 :: rest).map Int.toNat)).getD (t % (leasts ((n0 :: rest).map Int.toNat)).length) none = some x → walkC (n0 :: rest) (leasts ((n0 :: rest).map Int.toNat)) k (x, fun _ => 0) = (0, c) → (∀ n, c n ≤ t) → Same H H' →
          Dx K H' v (.tuple (pairsC (n0 :: rest) (moreC (n0 :: rest) c t x))) → Q v H' := fun x k c H' v e1 e2 e3 s' D => q H' v _ s' D (.inr (.inr ⟨hrch, h0, x, k, c, e1, e2, e3, rfl⟩))
      have hb := L.low n0 List.mem_cons_self
      have mem0 : n0 ∈ n0 :: rest := List.mem_cons_self
      generalize leasts ((n0 :: rest).map Int.toNat) = a at *
      have apos := R.pos
      have hm : t % a.length < a.length := Nat.mod_lt _ apos
      have em : ((t : Int) % (((a.map optV).length : Nat) : Int)) = ((t % a.length : Nat) : Int) := by rw [List.length_map]; simp
      have unf : reached a t = (match a.getD (t % a.length) none with | none => false | some x => decide (x ≤ t)) := by
        unfold reached
        rw [if_neg (by omega)]
        all_goals (cases a.getD (t % a.length) none <;> rfl)
      rw [unf] at hrch
      cases hx : a.getD (t % a.length) none with
      | none =>
        rw [hx] at hrch
        cases hrch
      | some x =>
        rw [hx] at hrch
        have hxt : x ≤ t := of_decide_eq_true hrch
        have rx := (R.sound _ x hx).2
        have at0 : atI ((n0 :: rest).map V.int) 0 = some (.int n0) := atI_nat (j := 0) rfl
        refine iteF ⟨_, rfl, _, rfl, _, rfl, c, _, rfl, .inr (SqT.of hc), _, _, rfl, rfl, (by rw [List.length_map]; omega), c, _, _, _, rfl, rfl, SqT.of hc, (by rw [em]; exact atI_nat (at_opt hm hx)), ?_⟩
        refine ⟨_, rfl, _, rfl, _, rfl, p, c, n0 :: rest, a, x, rfl, SqT.of (s1 _ _ hp), SqT.of hc, L, R, .inr (by rw [rx]; exact hx), fun H2 D cnt s2 nD ⟨kk, hk⟩ hcx hD => ?_⟩
        have s02 := s1.trans s2
        have hp2 := s02 _ _ hp
        have ln : (cKV (n0 :: rest) cnt).length ≤ 1000 := by
          unfold cKV
          rw [List.length_map]
          omega
        refine ⟨_, rfl, _, rfl, p, _, _, _, rfl, rfl, SqT.of hp2, at0, D, _, rfl, (cKV_get (cnt := cnt) mem0) ▸ DGet.k (k := Sum.inl n0) hD, ?_⟩
        refine ⟨_, rfl, _, rfl, _, _, rfl, rfl, _, rfl, p, _, _, _, rfl, rfl, SqT.of hp2, at0, _, _, rfl, rfl, ⟨by omega, by omega⟩, _, _, rfl, rfl, _, DPut.k (k := Sum.inl n0) hD (small1000 ln), ?_⟩
        have e3 : putK (cKV (n0 :: rest) cnt) (Sum.inl n0) (V.int (((cnt n0 : Nat) : Int) + ((t : Int) - (x : Int)) / n0)) = cKV (n0 :: rest) (fun n => if n = n0 then cnt n0 + (((t : Int) - (x : Int)) / n0).toNat else cnt n) := by
          have hq : 0 ≤ ((t : Int) - (x : Int)) / n0 := Int.ediv_nonneg (by omega) (by omega)
          rw [show V.int (((cnt n0 : Nat) : Int) + ((t : Int) - (x : Int)) / n0) = V.int ((cnt n0 + (((t : Int) - (x : Int)) / n0).toNat : Nat) : Int) by congr 1; omega]
          exact cKV_aug mem0
        rw [e3]
        have q4 : ∀ (H' : Hp) (v : V), Same H H' → Dx K H' v (.tuple (pairsC (n0 :: rest) (fun n => if n = n0 then cnt n0 + (((t : Int) - (x : Int)) / n0).toNat else cnt n))) → Q v H' := fun H' v s' D => q3 x kk cnt H' v hx hk (fun n => by have := hcx n; omega) s' D
        generalize (fun n => if n = n0 then cnt n0 + (((t : Int) - (x : Int)) / n0).toNat else cnt n) = cn at q4 ⊢
        have s3 : Same H (upd H2 D (.dK (cKV (n0 :: rest) cn))) := fun b o e => by
          rw [upd_ne (ne_of_none (s1 _ _ e) nD)]
          exact s02 _ _ e
        have hD3 := @upd_same H2 D (HO.dK (cKV (n0 :: rest) cn))
        generalize upd H2 D (HO.dK (cKV (n0 :: rest) cn)) = H3 at *
        have hp3 := s3 _ _ hp
        refine ⟨_, rfl, p, rfl, ⟨_, SqT.of hp3⟩, fun M nM => lc_tup (K := K) (a := p) (xs := (n0 :: rest).map V.int) (fun i G => ∃ rs : List Addr, Mk H3 G M (rs.map V.ref) ∧ PairsAt G cn rs (((n0 :: rest).take i).filter fun n => decide ((0 : Int) < ((cn n : Nat) : Int)))) ⟨[], .start nM, trivial⟩ (fun i G _ ⟨_, mk, _⟩ => mk.same.tup (SqT.of hp3)) ?_ ?_⟩
        · rintro i v G hv ⟨rs, mk, pa⟩
          have hi : i < (n0 :: rest).length := by
            have := (List.getElem?_eq_some_iff.mp hv).1
            rwa [List.length_map] at this
          have rl := pa.len
          have fl := List.length_filter_le (fun n => decide ((0 : Int) < ((cn n : Nat) : Int))) ((n0 :: rest).take i)
          rw [List.length_take] at fl
          rw [List.getElem?_map] at hv
          obtain ⟨n, hn, rfl⟩ := Option.map_eq_some_iff.mp hv
          have mn := List.mem_of_getElem? hn
          have g : DGet G D (.int n) (some (.int ((cn n : Nat) : Int))) := (cKV_get (cnt := cn) mn) ▸ DGet.k (k := Sum.inl n) (mk.same _ _ hD3)
          have tk : (((n0 :: rest).take (i + 1)).filter fun n => decide ((0 : Int) < ((cn n : Nat) : Int))) = (((n0 :: rest).take i).filter fun n => decide ((0 : Int) < ((cn n : Nat) : Int))) ++ (if (decide ((0 : Int) < ((cn n : Nat) : Int))) = true then [n] else []) := by
            rw [take_more hn, List.filter_append, List.filter_cons]
            rfl
          rw [tk]
          refine ⟨rfl, _, rfl, _, rfl, D, _, rfl, g, _, _, rfl, rfl, _, rfl, ?_⟩
          by_cases hc0 : (0 : Int) < ((cn n : Nat) : Int)
          · rw [decide_eq_true hc0]
            refine iteT ⟨_, rfl, _, rfl, _, rfl, D, _, rfl, g, by show 2 ≤ sizeLine; decide, fun tp ntp => ⟨rs.map V.ref, by rw [upd_ne (ne_of_none mk.at_ ntp)]; exact mk.at_, by rw [List.length_map]; exact small1000 (by omega), rs ++ [tp], by rw [List.map_append]; exact mk.put (same_upd ntp), ?_⟩⟩
            rw [if_pos rfl]
            have ne : tp ≠ M := fun z => by rw [z, mk.at_] at ntp; cases ntp
            refine PairsAt.snoc ?_ (pa.keep fun r o e => ?_)
            · rw [upd_ne ne, upd_same]
            · rw [upd_ne (fun z => by rw [z, mk.at_] at e; cases e), upd_ne (ne_of_none e ntp)]
              exact e
          · rw [decide_eq_false hc0]
            refine iteF ⟨rs, mk, ?_⟩
            rw [if_neg (by decide), List.append_nil]
            exact pa
        · rintro G ⟨rs, mk, pa⟩
          rw [List.length_map, List.take_length] at pa
          refine ⟨M, rs.map V.ref, rfl, .inl ⟨SqL.of mk.at_, fun r nr => q4 _ _ (s3.trans (mk.same.trans (same_upd nr))) (.tup (SqT.of upd_same) ?_)⟩⟩
          exact PairsAt.dx (pa.keep fun b o e => by rw [upd_ne (ne_of_none e nr)]; exact e)
end
end Ov
namespace Ov
open PySem PySem.Spec PyProof.Rows L2
/-! ### things bent: sizes -/
structure Fine (D N : Nat) (d : PyData) : Prop where
  sh : d.showable = true
  dep : d.depth ≤ D
  nd : nodes d ≤ N
theorem Fine.mono {D N D' N' : Nat} {d : PyData} (h : Fine D N d) (a : D ≤ D') (b : N ≤ N') : Fine D' N' d := ⟨h.sh, Nat.le_trans h.dep a, Nat.le_trans h.nd b⟩
theorem Fine.shz {D N k : Nat} {d : PyData} (h : Fine D N d) (a : D ≤ k) (b : N ≤ 8000) : Shz d k := ⟨h.sh, Nat.le_trans h.dep a, Nat.le_trans h.nd b⟩
theorem Shows.fine {d : PyData} (s : Shows d) : Fine d.depth (nodes d) d := ⟨s.sh, Nat.le_refl _, Nat.le_refl _⟩
theorem fine_int {i : Int} (h : i.natAbs < 2 ^ 1000) : Fine 0 1 (.int i) := ⟨(shows_int h).sh, by simp [PyData.depth], by simp [nodes]⟩
theorem fine_bool (b : Bool) : Fine 0 1 (.bool b) := ⟨(shows_bool b).sh, by simp [PyData.depth], by simp [nodes]⟩
theorem fine_none : Fine 0 1 .none := ⟨shows_none.sh, by simp [PyData.depth], by simp [nodes]⟩
theorem fine_str {x : Str} (h : (reprText x).length ≤ 100) : Fine 0 101 (.str x) := ⟨(shows_str h).sh, by simp [PyData.depth], by simp only [nodes]; omega⟩
theorem fine_dict : Fine 1 100 (.dict []) := ⟨shows_dict.sh, by simp [PyData.depth, PyData.depthKv], dict0_nodes⟩
structure FineA (D N : Nat) (ds : List PyData) : Prop where
  sh : PyData.showableAll ds = true
  dep : PyData.depthAll ds ≤ D
  nd : nodesAll ds ≤ N
theorem FineA.nil : FineA 0 0 [] := ⟨by simp [PyData.showableAll], by simp [PyData.depthAll], by simp [nodesAll]⟩
theorem FineA.cons {D N M : Nat} {d : PyData} {ds : List PyData} (h : Fine D N d) (t : FineA D M ds) : FineA D (N + M) (d :: ds) := by
  refine ⟨?_, ?_, ?_⟩
  · simp only [PyData.showableAll]; rw [h.sh, t.sh]; rfl
  · simp only [PyData.depthAll]; exact Nat.max_le.mpr ⟨h.dep, t.dep⟩
  · simp only [nodesAll]; exact Nat.add_le_add h.nd t.nd
theorem FineA.app {D N M : Nat} {a b : List PyData} (h : FineA D N a) (t : FineA D M b) : FineA D (N + M) (a ++ b) := by
  refine ⟨by rw [showableAll_app, h.sh, t.sh]; rfl, ?_, by rw [nodesAll_app]; exact Nat.add_le_add h.nd t.nd⟩
  rw [depthAll_app]
  exact Nat.max_le.mpr ⟨h.dep, t.dep⟩
theorem FineA.mono {D N D' N' : Nat} {d : List PyData} (h : FineA D N d) (a : D ≤ D') (b : N ≤ N') : FineA D' N' d := ⟨h.sh, Nat.le_trans h.dep a, Nat.le_trans h.nd b⟩
theorem FineA.tup {D N : Nat} {ds : List PyData} (h : FineA D N ds) : Fine (D + 1) (N + 1) (.tuple ds) := ⟨by simp only [PyData.showable]; exact h.sh, by simp only [PyData.depth]; have := h.dep; omega, by simp only [nodes]; have := h.nd; omega⟩
theorem FineA.lst {D N : Nat} {ds : List PyData} (h : FineA D N ds) : Fine (D + 1) (N + 1) (.list ds) := ⟨by simp only [PyData.showable]; exact h.sh, by simp only [PyData.depth]; have := h.dep; omega, by simp only [nodes]; have := h.nd; omega⟩
theorem FineA.all {D N : Nat} {ds : List PyData} (h : ∀ d ∈ ds, Fine D N d) : FineA D (ds.length * N) ds := by
  induction ds with
  | nil => exact FineA.nil.mono (Nat.zero_le _) (Nat.zero_le _)
  | cons d ds ih =>
    have := FineA.cons (h d List.mem_cons_self) (ih fun x hx => h x (List.mem_cons_of_mem _ hx))
    exact this.mono (Nat.le_refl _) (by rw [List.length_cons, Nat.succ_mul]; omega)
theorem parts_of {ds : List PyData} (h : PyData.showableAll ds = true) {j : Nat} {e : PyData} (he : ds[j]? = some e) :
    e.showable = true ∧ PyData.showableAll (ds.take j) = true ∧ PyData.showableAll (ds.drop (j + 1)) = true ∧ e.depth ≤ PyData.depthAll ds ∧ PyData.depthAll (ds.take j) ≤ PyData.depthAll ds ∧ PyData.depthAll (ds.drop (j + 1)) ≤ PyData.depthAll ds ∧ nodesAll ds = nodesAll (ds.take j) + nodes e + nodesAll (ds.drop (j + 1)) := by
  have e1 : ds = ds.take j ++ e :: ds.drop (j + 1) := by
    obtain ⟨hj, ej⟩ := List.getElem?_eq_some_iff.mp he
    rw [← ej, List.getElem_cons_drop, List.take_append_drop]
  generalize ds.take j = A, ds.drop (j + 1) = B at *
  subst e1
  rw [showableAll_app] at h
  simp only [PyData.showableAll, Bool.and_eq_true] at h
  rw [depthAll_app, nodesAll_app]
  simp only [PyData.depthAll, nodesAll]
  exact ⟨h.2.1, h.1, h.2.2, by omega, by omega, by omega, by omega⟩
theorem nodes_pos : ∀ d : PyData, 1 ≤ nodes d
  | .none => by simp [nodes]
  | .bool _ => by simp [nodes]
  | .int _ => by simp [nodes]
  | .str _ => by simp [nodes]
  | .list _ => by simp [nodes]
  | .tuple _ => by simp [nodes]
  | .dict _ => by simp [nodes]
theorem len_nodes : ∀ ds : List PyData, ds.length ≤ nodesAll ds
  | [] => Nat.zero_le _
  | d :: ds => by
    have := nodes_pos d
    have := len_nodes ds
    simp only [nodesAll, List.length_cons]
    omega
theorem DzAll.mem {H : Hp} : ∀ {vs : List V} {ds : List PyData}, DzAll H vs ds → ∀ {v : V}, v ∈ vs → ∃ d, d ∈ ds ∧ Dz H v d
  | _, _, .nil, v, h => by cases h
  | _, _, .cons a t, v, h => by
    rcases List.mem_cons.mp h with rfl | h
    · exact ⟨_, List.mem_cons_self, a⟩
    · obtain ⟨d, hd, D⟩ := t.mem h
      exact ⟨d, List.mem_cons_of_mem _ hd, D⟩
theorem cutF1 (k : Nat) (xs : List V) : cutV xs (some ((k : Int) + 1)) none = xs.drop (k + 1) := by
  rw [show (k : Int) + 1 = ((k + 1 : Nat) : Int) by omega]
  exact cut_from (k + 1) xs
theorem cutM1 (k : Nat) (xs : List V) : cutV xs (some (k : Int)) (some ((k : Int) + 1)) = (xs.drop k).take 1 := by
  rw [show (k : Int) + 1 = ((k + 1 : Nat) : Int) by omega]
  unfold cutV
  rw [show HT.sIx xs.length 0 (some (k : Int)) = min k xs.length from HT.sIx_nat xs.length 0 k, show HT.sIx xs.length xs.length (some ((k + 1 : Nat) : Int)) = min (k + 1) xs.length from HT.sIx_nat xs.length xs.length (k + 1)]
  rcases Nat.le_total xs.length k with c | c
  · rw [Nat.min_eq_right c, List.drop_of_length_le c, List.drop_of_length_le (Nat.le_refl _), List.take_nil, List.take_nil]
  · rw [Nat.min_eq_left c]
    rcases Nat.lt_or_ge k xs.length with d | d
    · rw [Nat.min_eq_left (by omega), show k + 1 - k = 1 by omega]
    · rw [List.drop_of_length_le d, List.take_nil, List.take_nil]
section
variable {K : PySem.W.Frag} {T H : Hp} {Q : VK}
theorem cat_z {a b : Addr} {xs ys : List V} (st : Same T H) (ha : T a = some (.tup xs)) (hb : T b = some (.tup ys)) (hl : xs.length + ys.length ≤ sizeLine) (q : ∀ l H' T', Grow T H T' H' → T' l = some (.tup (xs ++ ys)) → Q (.ref l) H') : rCatA K (.ref a) (.ref b) H Q := by
  refine ⟨a, b, xs, ys, rfl, rfl, SqT.of (st _ _ ha), SqT.of (st _ _ hb), hl, fun e => ?_, fun _ e => ?_, fun _ _ p np => ?_⟩
  · subst e
    exact q b H T (.refl st) hb
  · subst e
    exact q a H T (.refl st) (by rw [List.append_nil]; exact ha)
  · exact q p _ _ ((Grow.refl st).put _ np) upd_same
theorem cut_z {a : Addr} {xs : List V} {lo hi : Option Int} (st : Same T H) (ha : T a = some (.tup xs)) (q : ∀ l H' T', Grow T H T' H' → T' l = some (.tup (cutV xs lo hi)) → Q (.ref l) H') : rSlA K (.ref a) lo hi H Q := by
  refine ⟨a, xs, rfl, SqT.of (st _ _ ha), fun e => ?_, fun _ p np => ?_⟩
  · exact q a H T (.refl st) (by rw [cut_all e]; exact ha)
  · exact q p _ _ ((Grow.refl st).put _ np) upd_same
end
theorem Grow.lay {T H T' H' : Hp} (g : Grow T H T' H') {a : Addr} (o : HO) (n : H' a = none) : Grow T H T' (upd H' a o) := ⟨g.hh.trans (same_upd n), g.tt, g.th.trans (same_upd n), g.new⟩
theorem Grow.set {T H T' H' : Hp} (g : Grow T H T' H') {L : Addr} (o : HO) (nH : H L = none) (nT : T' L = none) : Grow T H T' (upd H' L o) :=
  ⟨fun b x e => by rw [upd_ne (ne_of_none e nH)]; exact g.hh b x e, g.tt, fun b x e => by rw [upd_ne (ne_of_none e nT)]; exact g.th b x e, g.new⟩
theorem dz_map {α : Type} {H : Hp} {f : α → V} {g : α → PyData} : ∀ {l : List α}, (∀ x ∈ l, Dz H (f x) (g x)) → DzAll H (l.map f) (l.map g)
  | [], _ => .nil
  | x :: l, h => .cons (h x List.mem_cons_self) (dz_map fun y hy => h y (List.mem_cons_of_mem _ hy))
theorem lvl_up {P : Program} {w : World} {K : PySem.W.Frag} {mg : Str → Option Value} {base : Heap} {CX : CXT} {k k' : Nat} {f : Addr} {fd : FuncData} {ps : List Str} {sp : Sp} (F : FnOk P w K mg base CX k f fd ps sp) (h : k ≤ k') : FnOk P w K mg base CX k' f fd ps sp := ⟨F.len, fun A outer s H args us vs Q E room => F.run A outer s H args us vs Q E (room.mono h)⟩
end Ov
namespace Ov
open PySem PySem.Spec PyProof.Rows L2
/-! ### what is shown without dicts -/
structure Ok36 (D N : Nat) (d : PyData) : Prop where
  fine : Fine D N d
  nod : d.hasDict = false
structure Ok36A (D N : Nat) (ds : List PyData) : Prop where
  fine : FineA D N ds
  nod : PyData.hasDictAll ds = false
theorem Ok36.mono {D N D' N' : Nat} {d : PyData} (h : Ok36 D N d) (a : D ≤ D') (b : N ≤ N') : Ok36 D' N' d := ⟨h.fine.mono a b, h.nod⟩
theorem Ok36A.nil {D N : Nat} : Ok36A D N [] := ⟨FineA.nil.mono (Nat.zero_le _) (Nat.zero_le _), rfl⟩
theorem Ok36A.cons {D N M : Nat} {d : PyData} {ds : List PyData} (h : Ok36 D N d) (t : Ok36A D M ds) : Ok36A D (N + M) (d :: ds) := ⟨FineA.cons h.fine t.fine, by simp [PyData.hasDictAll, h.nod, t.nod]⟩
theorem Ok36A.tup {D N : Nat} {ds : List PyData} (h : Ok36A D N ds) : Ok36 (D + 1) (N + 1) (.tuple ds) := ⟨h.fine.tup, by simp only [PyData.hasDict]; exact h.nod⟩
theorem Ok36A.lst {D N : Nat} {ds : List PyData} (h : Ok36A D N ds) : Ok36 (D + 1) (N + 1) (.list ds) := ⟨h.fine.lst, by simp only [PyData.hasDict]; exact h.nod⟩
theorem Ok36A.all {D N : Nat} {ds : List PyData} (h : ∀ d ∈ ds, Ok36 D N d) : Ok36A D (ds.length * N) ds := by
  refine ⟨FineA.all fun d hd => (h d hd).fine, ?_⟩
  induction ds with
  | nil => rfl
  | cons d ds ih => simp [PyData.hasDictAll, (h d List.mem_cons_self).nod, ih fun x hx => h x (List.mem_cons_of_mem _ hx)]
theorem Ok36.shows {D N : Nat} {d : PyData} (h : Ok36 D N d) (a : D ≤ 60) (b : N ≤ 8000) : Shows d := ⟨h.fine.sh, (fun z => by rw [h.nod] at z; cases z), Nat.le_trans h.fine.dep a, Nat.le_trans h.fine.nd b⟩
theorem ok_int {i : Int} (h : i.natAbs < 2 ^ 200) : Ok36 0 1 (.int i) := ⟨fine_int (Nat.lt_of_lt_of_le h (Nat.pow_le_pow_right (by decide) (by decide))), by simp [PyData.hasDict]⟩
theorem ok_nat {n : Nat} (h : n ≤ 10 ^ 12) : Ok36 0 1 (.int (n : Int)) := ok_int (Nat.lt_of_lt_of_le (show ((n : Nat) : Int).natAbs < 2 ^ 60 by omega) (Nat.pow_le_pow_right (by decide) (by decide)))
theorem ok_none : Ok36 0 1 .none := ⟨fine_none, by simp [PyData.hasDict]⟩
theorem ok_bool (b : Bool) : Ok36 0 1 (.bool b) := ⟨fine_bool b, by simp [PyData.hasDict]⟩
theorem ok_ints {ns : List Int} (h : ∀ x ∈ ns, x.natAbs < 2 ^ 200) : Ok36 1 (ns.length + 1) (.tuple (ns.map PyData.int)) := by
  have z := (Ok36A.all (D := 0) (N := 1) (ds := ns.map PyData.int) fun d hd => by
    obtain ⟨x, hx, rfl⟩ := List.mem_map.mp hd
    exact ok_int (h x hx)).tup
  rw [List.length_map, Nat.mul_one] at z
  exact z
theorem nodup_sub : ∀ (zs ds : List Int), ds.Nodup → (∀ d ∈ ds, d ∈ zs) → ds.length ≤ zs.length
  | [], [], _, _ => Nat.le_refl _
  | [], d :: ds, _, h => absurd (h d List.mem_cons_self) (by simp)
  | z :: zs, ds, nd, h => by
    have ih := nodup_sub zs (ds.erase z) (nd.erase z) fun d hd => by
      have := (List.Nodup.mem_erase_iff nd).mp hd
      exact (List.mem_cons.mp (h d this.2)).resolve_left this.1
    rw [List.length_erase] at ih
    rw [List.length_cons]
    split at ih <;> omega
theorem sum_le_mul {B : Nat} : ∀ {l : List Nat}, (∀ x ∈ l, x ≤ B) → l.sum ≤ l.length * B
  | [], _ => Nat.zero_le _
  | x :: l, h => by
    have h1 := h x List.mem_cons_self
    have h2 := sum_le_mul (l := l) fun y hy => h y (List.mem_cons_of_mem _ hy)
    rw [List.sum_cons, List.length_cons, Nat.succ_mul]
    omega
theorem lx_small {ns : List Int} (L : Lens ns) : (lx ns).length ≤ 1000 ∧ ∀ x ∈ lx ns, x ≤ 1000000 := by
  obtain ⟨h1, h2⟩ := leasts_small L
  unfold lx
  refine ⟨by rw [List.length_map]; exact h1, fun x hx => ?_⟩
  obtain ⟨o, ho, rfl⟩ := List.mem_map.mp hx
  cases o with
  | none => exact Nat.zero_le _
  | some y => exact h2 _ ho y rfl
theorem cond_ok {ns : List Int} (L : Lens ns) : ∃ d, Ok36 0 1 d ∧ ∀ (K : PySem.W.Frag) (H : Hp), Dx K H (condV ns) d := by
  unfold condV
  by_cases hg : gcdAll (ns.map Int.toNat) = 1
  · rw [if_pos hg]
    obtain ⟨h1, h2⟩ := lx_small L
    have ht : top' (lx ns) ≤ 1000000 := by
      by_cases e : lx ns = []
      · rw [e]; exact Nat.zero_le _
      · exact h2 _ (top_mem e)
    exact ⟨_, ok_int (Nat.lt_of_lt_of_le (show _ < 2 ^ 21 by omega) (Nat.pow_le_pow_right (by decide) (by decide))), fun _ _ => .int _⟩
  · rw [if_neg hg]
    exact ⟨_, ok_none, fun _ _ => .non⟩
theorem gap_ok {ns : List Int} (L : Lens ns) : ∃ d, Ok36 0 1 d ∧ ∀ (K : PySem.W.Frag) (H : Hp), Dx K H (gapV ns) d := by
  unfold gapV
  by_cases hg : gcdAll (ns.map Int.toNat) = 1
  · rw [if_pos hg]
    obtain ⟨h1, h2⟩ := lx_small L
    have ht : ((lx ns).map fun x => x / (lx ns).length).sum ≤ 1000 * 1000000 := by
      refine Nat.le_trans (sum_le_mul (B := 1000000) fun x hx => ?_) ?_
      · obtain ⟨y, hy, rfl⟩ := List.mem_map.mp hx
        exact Nat.le_trans (Nat.div_le_self _ _) (h2 y hy)
      · rw [List.length_map]
        exact Nat.mul_le_mul_right _ h1
    exact ⟨_, ok_int (Nat.lt_of_lt_of_le (show _ < 2 ^ 31 by omega) (Nat.pow_le_pow_right (by decide) (by decide))), fun _ _ => .int _⟩
  · rw [if_neg hg]
    exact ⟨_, ok_none, fun _ _ => .non⟩
theorem parts_ok {ns : List Int} {t : Nat} {d : PyData} (L : Lens ns) (ht : t ≤ 10 ^ 5) (h : PartsD ns t d) : Ok36 2 200 d := by
  rcases h with ⟨_, rfl⟩ | ⟨_, _, rfl⟩ | ⟨_, _, x, k, c, _, _, hc, rfl⟩
  · exact ok_none.mono (by decide) (by decide)
  · exact (Ok36A.nil (D := 0) (N := 0)).tup.mono (by decide) (by decide)
  · have z := (Ok36A.all (D := 1) (N := 3) (ds := pairsC ns (moreC ns c t x)) fun d hd => by
      unfold pairsC at hd
      obtain ⟨n, hn, rfl⟩ := List.mem_map.mp hd
      have hm := L.low n (List.mem_filter.mp hn).1
      have hq : (((t : Int) - (x : Int)) / ns.headD 0).toNat ≤ t := by
        by_cases hp : ns.headD 0 < 1
        · have e : (((t : Int) - (x : Int)) / ns.headD 0).toNat = 0 ∨ True := .inr trivial
          cases ns with
          | nil => show (((t : Int) - (x : Int)) / 0).toNat ≤ t; simp
          | cons m ms =>
            have := L.low m List.mem_cons_self
            exact absurd hp (by show ¬ m < 1; omega)
        · have h1 : ((t : Int) - (x : Int)) / ns.headD 0 ≤ (t : Int) := by
            rcases Int.lt_or_le ((t : Int) - (x : Int)) 0 with h | h
            · have := Int.ediv_neg_of_neg_of_pos h (show 0 < ns.headD 0 by omega)
              omega
            · have := Int.ediv_le_self (ns.headD 0) h
              omega
          omega
      have hb : moreC ns c t x n ≤ 10 ^ 12 := by
        unfold moreC
        have := hc n
        have := hc (ns.headD 0)
        split <;> omega
      exact ((Ok36A.cons (ok_int (i := n) (Nat.lt_of_lt_of_le (show n.natAbs < 2 ^ 20 by omega) (Nat.pow_le_pow_right (by decide) (by decide)))) (Ok36A.cons (ok_nat hb) (Ok36A.nil (D := 0) (N := 0)))).tup).mono (by decide) (by decide)).tup
    refine z.mono (by decide) ?_
    have l1 : (pairsC ns (moreC ns c t x)).length ≤ ns.length := by
      unfold pairsC
      rw [List.length_map]
      exact List.length_filter_le _ _
    have := L.few
    omega
theorem leasts_ok {ns : List Int} (L : Lens ns) : Ok36 1 1001 (.tuple ((leasts (ns.map Int.toNat)).map optD)) ∧ ∀ (K : PySem.W.Frag) (H : Hp), DxAll K H ((leasts (ns.map Int.toNat)).map optV) ((leasts (ns.map Int.toNat)).map optD) := by
  obtain ⟨h1, h2⟩ := leasts_small L
  refine ⟨?_, fun K H => ?_⟩
  · have z := (Ok36A.all (D := 0) (N := 1) (ds := (leasts (ns.map Int.toNat)).map optD) fun d hd => by
      obtain ⟨o, ho, rfl⟩ := List.mem_map.mp hd
      cases o with
      | none => exact ok_none
      | some y =>
        have := h2 _ ho y rfl
        exact ok_nat (by omega)).tup
    rw [List.length_map] at z
    exact z.mono (by decide) (by omega)
  · generalize leasts (ns.map Int.toNat) = a
    induction a with
    | nil => exact .nil
    | cons o a ih =>
      cases o with
      | none => exact .cons .non ih
      | some y => exact .cons (.int _) ih
end Ov
namespace Ov
open PySem PySem.Spec PyProof.Rows L2
/-! ### what is laid beside a part of the heap while the box is used -/
structure GB (p : Addr) (T H T' H' : Hp) : Prop where
  hh : But p H H'
  tt : Same T T'
  th : Same T' H'
  new : ∀ b, T b = none → H b ≠ none → T' b = none
  up : ∀ b, H b ≠ none → H' b ≠ none
section
variable {p : Addr} {T H T' H' T2 H2 : Hp}
theorem GB.refl (st : Same T H) : GB p T H T H := ⟨But.refl _ _, Same.refl _, st, fun _ e _ => e, fun _ e => e⟩
theorem GB.of (g : Grow T H T' H') : GB p T H T' H' := ⟨But.of g.hh, g.tt, g.th, g.new, fun b e => by
  cases h : H b with
  | none => exact absurd h e
  | some o => rw [g.hh b o h]; exact fun z => nomatch z⟩
theorem GB.trans (g : GB p T H T' H') (g2 : GB p T' H' T2 H2) : GB p T H T2 H2 := ⟨g.hh.trans g2.hh, g.tt.trans g2.tt, g2.th, fun b e n => g2.new b (g.new b e n) (g.up b n), fun b n => g2.up b (g.up b n)⟩
theorem GB.box {n : Nat} (st : Same T H) (tp : T p = none) (b : But p H H') (B : BoxAt H' p n) : GB p T H T H' := ⟨b, Same.refl _, fun c o e => b _ _ (st _ _ e) (ne_of_none e tp), fun _ e _ => e, fun c e => by
  by_cases z : c = p
  · rw [z]; exact B.ne
  · cases h : H c with
    | none => exact absurd h e
    | some o => rw [b c o h z]; exact fun y => nomatch y⟩
theorem GB.lay (g : GB p T H T' H') {a : Addr} (o : HO) (n : H' a = none) : GB p T H T' (upd H' a o) := ⟨g.hh.trans (But.of (same_upd n)), g.tt, g.th.trans (same_upd n), g.new, fun b e => by
  have z := g.up b e
  by_cases y : b = a
  · rw [y, upd_same]; exact fun w => nomatch w
  · rw [upd_ne y]; exact z⟩
theorem GB.put (g : GB p T H T' H') {a : Addr} (o : HO) (n : H' a = none) : GB p T H (upd T' a o) (upd H' a o) := g.trans (.of ((Grow.refl g.th).put o n))
end
end Ov
namespace Ov
open PySem PySem.Spec PyProof.Rows L2
theorem GB.set {p : Addr} {T H T' H' : Hp} (g : GB p T H T' H') {L : Addr} (o : HO) (nH : H L = none) (nT : T' L = none) : GB p T H T' (upd H' L o) :=
  ⟨fun b x e n => by rw [upd_ne (ne_of_none e nH)]; exact g.hh b x e n, g.tt, fun b x e => by rw [upd_ne (ne_of_none e nT)]; exact g.th b x e, g.new, fun b e => by
    by_cases y : b = L
    · rw [y, upd_same]; exact fun w => nomatch w
    · rw [upd_ne y]; exact g.up b e⟩
/-- things in a list in the making, beside the box -/
structure HoldZ (T0 T H : Hp) (p D : Addr) (n : Nat) (vs : List V) (ds : List PyData) : Prop where
  tt : Same T0 T
  ht : Same T H
  tp : T p = none
  tD : T D = none
  ne : D ≠ p
  at_ : H D = some (.lst vs)
  all : DzAll T vs ds
  box : BoxAt H p n
theorem HoldZ.mono {T0 T H : Hp} {p D : Addr} {n m : Nat} {vs : List V} {ds : List PyData} (h : HoldZ T0 T H p D n vs ds) (l : n ≤ m) : HoldZ T0 T H p D m vs ds := { h with box := h.box.mono l }
theorem HoldZ.gb {T0 T H T' G : Hp} {p D : Addr} {n m : Nat} {vs : List V} {ds : List PyData} (h : HoldZ T0 T H p D n vs ds) (g : GB p T H T' G) (B : BoxAt G p m) : HoldZ T0 T' G p D m vs ds :=
  ⟨h.tt.trans g.tt, g.th, g.new _ h.tp h.box.ne, g.new _ h.tD (by rw [h.at_]; exact fun z => nomatch z), h.ne, g.hh _ _ h.at_ h.ne, h.all.same g.tt, B⟩
theorem HoldZ.grow {T0 T H T' G : Hp} {p D : Addr} {n : Nat} {vs : List V} {ds : List PyData} (h : HoldZ T0 T H p D n vs ds) (g : Grow T H T' G) : HoldZ T0 T' G p D n vs ds := h.gb (.of g) (h.box.same g.hh)
theorem BoxAt.upd {H : Hp} {p D : Addr} {n : Nat} {o : HO} (B : BoxAt H p n) (ne : D ≠ p) : BoxAt (L2.upd H D o) p n := by
  obtain ⟨z1, z2, z3, e, r⟩ := B
  exact ⟨z1, z2, z3, by rw [upd_ne (Ne.symm ne)]; exact e, r⟩
theorem HoldZ.push {T0 T H : Hp} {p D : Addr} {n : Nat} {vs us : List V} {ds es : List PyData} (h : HoldZ T0 T H p D n vs ds) (A : DzAll T us es) : HoldZ T0 T (upd H D (.lst (vs ++ us))) p D n (vs ++ us) (ds ++ es) :=
  ⟨h.tt, fun b o e => by rw [upd_ne (ne_of_none e h.tD)]; exact h.ht _ _ e, h.tp, h.tD, h.ne, upd_same, h.all.app A, h.box.upd h.ne⟩
theorem HoldZ.start {T H : Hp} {p D : Addr} {n : Nat} (st : Same T H) (tp : T p = none) (B : BoxAt H p n) (nD : H D = none) : HoldZ T T (upd H D (.lst [])) p D n [] [] :=
  ⟨Same.refl _, st.trans (same_upd nD), tp, st.free nD, fun z => B.ne (z ▸ nD), upd_same, .nil, B.same (same_upd nD)⟩
/-- a heap without p -/
def hide (p : Addr) (H : Hp) : Hp := fun b => if b = p then none else H b
theorem hide_same {p : Addr} {H : Hp} : Same (hide p H) H := fun b o e => by
  unfold hide at e
  by_cases h : b = p
  · rw [if_pos h] at e; cases e
  · rw [if_neg h] at e; exact e
theorem hide_at {p b : Addr} {H : Hp} {o : HO} (e : H b = some o) (h : b ≠ p) : hide p H b = some o := by
  unfold hide
  rw [if_neg h]
  exact e
theorem hide_none {p : Addr} {H : Hp} : hide p H p = none := if_pos rfl
theorem but_hide {p : Addr} {H : Hp} : But p H (hide p H) := fun _ _ e h => hide_at e h
end Ov
namespace Ov
open PySem PySem.Spec PyProof.Rows L2
section
variable {P : Program} {w : World} {K : PySem.W.Frag} {mg : Str → Option Value} {base : Heap}
/-! ### _law_sums_right -/
def spPartR : Sp := fun vs H Q _ => ∃ (p : Addr) (n : Nat), vs = [.ref p] ∧ BoxAt H p n ∧ n ≤ 2 ^ 36 ∧ ∀ H', But p H H' → BoxAt H' p (n + 20) → (∀ b, H' b = none → H b = none) → Q (.bl true) H'
abbrev nSumsR : List Str := ["_law_box_here", "_law_lot", "_law_whole", "_law_told", "_law_due", "_law_turn"]
theorem scSumsR : FnScope nSumsR ["_law_box_here"] (defScope s_law_sums_right) := ⟨rfl, rfl, rfl, by decide +kernel, rfl, by decide +kernel, by decide +kernel⟩
theorem ok_sumsR {f fT f1 f2 f3 f4 f5 f6 : Addr} {fd fdT fd1 fd2 fd3 fd4 fd5 fd6 : FuncData} {k : Nat} (F : Fun K "_law_sums_right" "_law_sums_right" s_law_sums_right f fd) (T : Bi mg)
    (Tk : Def K mg "_law_take" sTake fT fdT ["_law_box_here", "_law_many"]) (GT : FnOk P w K mg base CX0 k fT fdT ["_law_box_here", "_law_many"] spTake)
    (D1 : Def K mg "common_divisor" sCommon f1 fd1 ["lengths"]) (G1 : FnOk P w K mg base CX0 k f1 fd1 ["lengths"] spCommon) (K1 : KBinds K fd1 ["lengths"] ["lengths"] one1 one1)
    (D2 : Def K mg "is_sum" sIsSum f2 fd2 ["lengths", "total"]) (G2 : FnOk P w K mg base CX0 k f2 fd2 ["lengths", "total"] spIsSum) (K2 : KBinds K fd2 ["lengths", "total"] ["total", "lengths"] swap2 swap2)
    (D3 : Def K mg "least_sums" sLeast f3 fd3 ["lengths"]) (G3 : FnOk P w K mg base CX0 k f3 fd3 ["lengths"] spLeast) (K3 : KBinds K fd3 ["lengths"] ["lengths"] one1 one1)
    (D4 : Def K mg "conductor" sConductor f4 fd4 ["lengths"]) (G4 : FnOk P w K mg base CX0 k f4 fd4 ["lengths"] spCond) (K4 : KBinds K fd4 ["lengths"] ["lengths"] one1 one1)
    (D5 : Def K mg "gap_count" sGap f5 fd5 ["lengths"]) (G5 : FnOk P w K mg base CX0 k f5 fd5 ["lengths"] spGap) (K5 : KBinds K fd5 ["lengths"] ["lengths"] one1 one1)
    (D6 : Def K mg "sum_parts" sParts f6 fd6 ["lengths", "total"]) (G6 : FnOk P w K mg base CX0 k f6 fd6 ["lengths", "total"] (spPartsX K)) (K6 : KBinds K fd6 ["lengths", "total"] ["total", "lengths"] swap2 swap2) :
    FnG P w K mg base (k + 1) f fd ["_law_box_here"] spPartR := by
  refine okG F scSumsR (fun vs H Q E h => ?_) (fun cdv A' outer s H vs Q E gd hr h => ?_)
  · obtain ⟨p, n, rfl, _⟩ := h
    rfl
  · obtain ⟨p, n, rfl, B, hn, q⟩ := h
    refine ⟨_, C8.pss_cut (ps_set (i := 1) scSumsR.nd rfl (.inl rfl) (pe_callTy call_tuple_of (by rfl) T.tuple (by decide +kernel) (pa_cons (pe_callB (cr_sortedSet rfl) (by rfl) T.sorted (by decide +kernel) (pa_cons (pe_callTy (cr_setI rfl) (by rfl) T.set (by decide +kernel) (pa_cons
          (pe_lc (own := [("_law_turn", 5)]) (g := gName 5) (tt := tYes) (by rfl) scSumsR.nd (pi_range1 (by rfl) T.range (pa_cons pe_int pa_nil)) (blkOk_by (own := [("_law_turn", 5)]) (N := nSumsR) (sc := defScope s_law_sums_right) (by decide +kernel))
            (fun _ _ _ _ _ => pg_name (i := 5) scSumsR.nd rfl (Or.inl rfl)) (fun _ _ _ _ _ => pts_nil)
            (fun _ _ _ _ _ => pe_op op_add pe_int (pe_call GT hr (by rfl) Tk.gl Tk.fn.kp Tk.bi .nil pass0 (pa_cons (pv 0) (pa_cons pe_int pa_nil))))) pa_nil)) pa_nil)) pa_nil)))
      (C8.pss_cut (ps_set (i := 2) scSumsR.nd rfl (.inl rfl) (pe_call GT hr (by rfl) Tk.gl Tk.fn.kp Tk.bi .nil pass0 (pa_cons (pv 0) (pa_cons pe_int pa_nil))))
      (C8.pss_cut (ps_set (i := 3) scSumsR.nd rfl (.inl rfl) (pe_lst (pa_cons (pe_callK0 G1 hr (by rfl) D1.gl D1.fn.kp K1 pass0 (pk_cons (pv 1) pk_nil)) (pa_cons (pe_callK0 G2 hr (by rfl) D2.gl D2.fn.kp K2 pass0 (pk_cons (pv 2) (pk_cons (pv 1) pk_nil))) (pa_cons (pe_callK0 G3 hr (by rfl) D3.gl D3.fn.kp K3 pass0 (pk_cons (pv 1) pk_nil)) pa_nil)))))
      (C8.pss_cut (ps_set (i := 3) scSumsR.nd rfl (.inl rfl) (pe_op op_cat (pv 3) (pe_lst (pa_cons (pe_callK0 G4 hr (by rfl) D4.gl D4.fn.kp K4 pass0 (pk_cons (pv 1) pk_nil)) (pa_cons (pe_callK0 G5 hr (by rfl) D5.gl D5.fn.kp K5 pass0 (pk_cons (pv 1) pk_nil)) (pa_cons (pe_callK0 G6 hr (by rfl) D6.gl D6.fn.kp K6 pass0 (pk_cons (pv 2) (pk_cons (pv 1) pk_nil))) pa_nil))))))
      (C8.pss_cut (ps_set (i := 4) scSumsR.nd rfl (.inl rfl) (pe_lst (pa_cons (pe_call G1 hr (by rfl) D1.gl D1.fn.kp D1.bi .nil pass0 (pa_cons (pv 1) pa_nil)) (pa_cons (pe_call G2 hr (by rfl) D2.gl D2.fn.kp D2.bi .nil pass0 (pa_cons (pv 1) (pa_cons (pv 2) pa_nil))) (pa_cons (pe_call G3 hr (by rfl) D3.gl D3.fn.kp D3.bi .nil pass0 (pa_cons (pv 1) pa_nil))
          (pa_cons (pe_call G4 hr (by rfl) D4.gl D4.fn.kp D4.bi .nil pass0 (pa_cons (pv 1) pa_nil)) (pa_cons (pe_call G5 hr (by rfl) D5.gl D5.fn.kp D5.bi .nil pass0 (pa_cons (pv 1) pa_nil)) pa_nil)))))))
      (pss_one (ps_ret (pe_cmpR op_eq (pe_callB (call_repr_x gd hr) (by rfl) T.repr (by decide +kernel) (pa_cons (pv 3) pa_nil)) (pe_callB (call_repr_x gd hr) (by rfl) T.repr (by decide +kernel) (pa_cons (pe_op op_cat (pv 4) (pe_lst (pa_cons (pe_call G6 hr (by rfl) D6.gl D6.fn.kp D6.bi .nil pass0 (pa_cons (pv 1) (pa_cons (pv 2) pa_nil))) pa_nil))) pa_nil)) (nomark _)))))))), ?_⟩
    -- the lengths
    refine ⟨fun σ G => ∃ (a : Addr) (ns : List Int), σ = [some (.ref p), some (.ref a), none, none, none, none] ∧ But p H G ∧ BoxAt G p (n + 3) ∧ (∀ b, G b = none → H b = none) ∧ a ≠ p ∧ G a = some (.tup (ns.map V.int)) ∧ Lens ns, ?_, ?_⟩
    · refine ⟨3, rfl, by decide, by decide, fun D nD => lc_range (lo := 0) (n := 3) (fun j G => ∃ zs : List Int, zs.length = j ∧ G D = some (.lst (zs.map V.int)) ∧ (∀ z ∈ zs, 2 ≤ z ∧ z ≤ 60) ∧ BoxAt G p (n + j) ∧ But p H G ∧ ∀ b, G b = none → H b = none) ⟨[], rfl, upd_same, (fun _ h => nomatch h), B.same (same_upd nD), But.of (same_upd nD), fun b e => (same_upd nD).free e⟩ ?_ ?_⟩
      · rintro j G hj ⟨zs, zl, hD, low, BG, bG, fG⟩
        have hDp : D ≠ p := fun z => B.ne (z ▸ nD)
        refine ⟨rfl, _, rfl, p, 59, _, rfl, BG, by omega, by decide, by decide, fun G2 z b2 B2 z0 z1 f2 => ⟨_, _, rfl, rfl, _, b2 _ _ hD hDp, by rw [List.length_map]; exact small1000 (by omega), zs ++ [2 + z], by rw [List.length_append, zl]; rfl, by rw [upd_same, List.map_append]; rfl, fun y hy => ?_, B2.upd hDp, fun b o e ne => ?_, fun b e => ?_⟩⟩
        · rcases List.mem_append.mp hy with hy | hy
          · exact low y hy
          · rw [List.mem_singleton.mp hy]
            omega
        · rw [upd_ne (ne_of_none e nD)]
          exact b2 _ _ (bG b o e ne) ne
        · by_cases hb : b = D
          · rw [hb]; exact nD
          · rw [upd_ne hb] at e
            exact fG b (b2.free BG.ne e B2.ne)
      rintro G ⟨zs, zl, hD, low, BG, bG, fG⟩
      refine ⟨D, zs, rfl, SqL.of hD, by omega, fun a ds na nd sub => ?_⟩
      have dl := nodup_sub zs ds nd sub
      refine ⟨a, _, ds.length, rfl, upd_same, by omega, fun ns p1 asc mem len np => ⟨p1, _, rfl, .inl ⟨SqL.of upd_same, fun t nt => ?_⟩⟩⟩
      have x1 := same_upd (o := SetO w a (fun j => decide (j ∈ zs)) ds.length) na
      have x2 := x1.trans ((same_upd (o := HO.lst (ns.map V.int)) np).trans (same_upd (o := HO.tup (ns.map V.int)) nt))
      have Bt := BG.same x2
      refine ⟨t, ns, rfl, bG.trans (But.of x2), Bt, fun b e => fG b (x2.free e), fun z => ?_, upd_same, by omega, fun y hy => ?_, asc⟩
      · obtain ⟨_, _, _, e, _⟩ := Bt
        rw [← z, upd_same] at e
        cases e
      · have hy2 := (mem y).mp hy
        have := low y (of_decide_eq_true hy2)
        omega
    rintro σ H1 ⟨a, ns, rfl, b1, B1, f1, ne_a, ha, L⟩
    -- the total
    refine ⟨fun σ G => ∃ t : Nat, σ = [some (.ref p), some (.ref a), some (.int (t : Int)), none, none, none] ∧ t < 4000 ∧ But p H G ∧ BoxAt G p (n + 4) ∧ (∀ b, G b = none → H b = none) ∧ G a = some (.tup (ns.map V.int)), ?_, ?_⟩
    · refine ⟨_, rfl, p, 4000, _, rfl, B1, by omega, by decide, by decide, fun G2 z b2 B2 z0 z1 f2 => ?_⟩
      obtain ⟨t, rfl⟩ : ∃ t : Nat, z = (t : Int) := ⟨z.toNat, by omega⟩
      exact ⟨t, rfl, by omega, b1.trans b2, B2, fun b e => f1 b (b2.free B1.ne e B2.ne), b2 _ _ ha ne_a⟩
    clear B1 b1 f1 ha
    rintro σ H2 ⟨t, rfl, ht, b2, B2, f2, ha⟩
    obtain ⟨d4, O4, x4⟩ := cond_ok L
    obtain ⟨d5, O5, x5⟩ := gap_ok L
    obtain ⟨O3, x3⟩ := leasts_ok L
    have O1 : Ok36 0 1 (.int ((gcdAll (ns.map Int.toNat) : Nat) : Int)) := ok_nat (by
      cases hns : ns with
      | nil => decide
      | cons n0 r =>
        have h0 := L.low n0 (by rw [hns]; exact List.mem_cons_self)
        have h1 : gcdAll ((n0 :: r).map Int.toNat) ≤ n0.toNat := Nat.le_of_dvd (by omega) (gcdAll_dvd (List.mem_cons_self ..))
        omega)
    -- told by names
    refine ⟨fun σ G => ∃ (l : Addr) (v3 : V), σ = [some (.ref p), some (.ref a), some (.int (t : Int)), some (.ref l), none, none] ∧ Same H2 G ∧ G l = some (.lst [.int ((gcdAll (ns.map Int.toNat) : Nat) : Int), .bl (reached (leasts (ns.map Int.toNat)) t), v3]) ∧ Dx K G v3 (.tuple ((leasts (ns.map Int.toNat)).map optD)), ?_, ?_⟩
    · refine ⟨_, rfl, a, ns, rfl, ha, L, fun G1 s1 => ⟨_, rfl, _, rfl, a, ns, t, rfl, s1 _ _ ha, L, fun G2 s2 => ⟨_, rfl, a, ns, rfl, s2 _ _ (s1 _ _ ha), L, fun G3 r s3 nr hr3 => ⟨by show 3 ≤ sizeLine; decide, fun l nl => ?_⟩⟩⟩⟩
      have x := same_upd (o := HO.lst [V.int ((gcdAll (ns.map Int.toNat) : Nat) : Int), .bl (reached (leasts (ns.map Int.toNat)) t), .ref r]) nl
      exact ⟨l, _, rfl, s1.trans (s2.trans (s3.trans x)), upd_same, .tup (SqT.of (x _ _ hr3)) (x3 K _)⟩
    rintro σ H3 ⟨l, v3, rfl, s3, hl, D3'⟩
    refine ⟨fun σ G => ∃ (l : Addr) (v3 v6 : V) (d6 : PyData), σ = [some (.ref p), some (.ref a), some (.int (t : Int)), some (.ref l), none, none] ∧ Same H2 G ∧ G l = some (.lst [.int ((gcdAll (ns.map Int.toNat) : Nat) : Int), .bl (reached (leasts (ns.map Int.toNat)) t), v3, condV ns, gapV ns, v6]) ∧ Dx K G v3 (.tuple ((leasts (ns.map Int.toNat)).map optD)) ∧ Dx K G v6 d6 ∧ PartsD ns t d6, ?_, ?_⟩
    · refine ⟨_, rfl, _, rfl, a, ns, rfl, s3 _ _ ha, L, fun G1 s4 => ⟨_, rfl, a, ns, rfl, (s3.trans s4) _ _ ha, L, fun G2 s5 => ⟨_, rfl, _, rfl, a, ns, t, rfl, (s3.trans (s4.trans s5)) _ _ ha, L, by omega, fun G3 v6 d6 s6 D6' P6 => ⟨by show 3 ≤ sizeLine; decide, fun l2 nl2 => ?_⟩⟩⟩⟩
      have y := (s4.trans (s5.trans s6)).trans (same_upd (o := HO.lst [condV ns, gapV ns, v6]) nl2)
      have hl2 := @upd_same G3 l2 (HO.lst [condV ns, gapV ns, v6])
      have D6'' := D6'.same (same_upd (o := HO.lst [condV ns, gapV ns, v6]) nl2)
      generalize upd G3 l2 (HO.lst [condV ns, gapV ns, v6]) = G4 at *
      refine ⟨l, l2, _, _, rfl, rfl, y _ _ hl, hl2, by show 3 + 3 ≤ sizeLine; decide, fun c nc => ?_⟩
      have z := same_upd (o := HO.lst ([V.int ((gcdAll (ns.map Int.toNat) : Nat) : Int), .bl (reached (leasts (ns.map Int.toNat)) t), v3] ++ [condV ns, gapV ns, v6])) nc
      exact ⟨c, v3, v6, d6, rfl, s3.trans (y.trans z), upd_same, D3'.same (y.trans z), D6''.same z, P6⟩
    clear hl D3' s3
    rintro σ H4 ⟨l, v3, v6, d6, rfl, s4, hl, D3', D6', P6⟩
    -- due by position
    refine ⟨fun σ G => ∃ (l2 : Addr) (u3 : V), σ = [some (.ref p), some (.ref a), some (.int (t : Int)), some (.ref l), some (.ref l2), none] ∧ Same H4 G ∧ G l2 = some (.lst [.int ((gcdAll (ns.map Int.toNat) : Nat) : Int), .bl (reached (leasts (ns.map Int.toNat)) t), u3, condV ns, gapV ns]) ∧ Dx K G u3 (.tuple ((leasts (ns.map Int.toNat)).map optD)), ?_, ?_⟩
    · have ha4 := s4 _ _ ha
      refine ⟨_, rfl, a, ns, rfl, ha4, L, fun G1 s1 => ⟨_, rfl, _, rfl, a, ns, t, rfl, s1 _ _ ha4, L, fun G2 s2 => ⟨_, rfl, a, ns, rfl, (s1.trans s2) _ _ ha4, L, fun G3 r s3 nr hr3 => ⟨_, rfl, a, ns, rfl, (s1.trans (s2.trans s3)) _ _ ha4, L, fun G5 s5 => ⟨_, rfl, a, ns, rfl, (s1.trans (s2.trans (s3.trans s5))) _ _ ha4, L, fun G6 s6 => ⟨by show 5 ≤ sizeLine; decide, fun l2 nl2 => ?_⟩⟩⟩⟩⟩⟩
      have x := same_upd (o := HO.lst [V.int ((gcdAll (ns.map Int.toNat) : Nat) : Int), .bl (reached (leasts (ns.map Int.toNat)) t), .ref r, condV ns, gapV ns]) nl2
      have y := (s5.trans s6).trans x
      exact ⟨l2, _, rfl, (s1.trans (s2.trans s3)).trans y, upd_same, .tup (SqT.of (y _ _ hr3)) (x3 K _)⟩
    rintro σ H5 ⟨l2, u3, rfl, s5, hl2, U3⟩
    have six : ∀ {G : Hp} {m : Addr} {v3 v6 : V} {d6 : PyData}, G m = some (.lst [.int ((gcdAll (ns.map Int.toNat) : Nat) : Int), .bl (reached (leasts (ns.map Int.toNat)) t), v3, condV ns, gapV ns, v6]) → Dx K G v3 (.tuple ((leasts (ns.map Int.toNat)).map optD)) → Dx K G v6 d6 →
        Dx K G (.ref m) (.list [.int ((gcdAll (ns.map Int.toNat) : Nat) : Int), .bool (reached (leasts (ns.map Int.toNat)) t), .tuple ((leasts (ns.map Int.toNat)).map optD), d4, d5, d6]) := fun h e3 e6 => .lst (SqL.of h) (.cons (.int _) (.cons (.bl _) (.cons e3 (.cons (x4 K _) (.cons (x5 K _) (.cons e6 .nil))))))
    have O6 := parts_ok L (by omega) P6
    have S6 : Shows (.list [.int ((gcdAll (ns.map Int.toNat) : Nat) : Int), .bool (reached (leasts (ns.map Int.toNat)) t), .tuple ((leasts (ns.map Int.toNat)).map optD), d4, d5, d6]) :=
      (Ok36A.cons (O1.mono (show 0 ≤ 2 by decide) (Nat.le_refl _)) (Ok36A.cons ((ok_bool _).mono (by decide) (Nat.le_refl _)) (Ok36A.cons (O3.mono (by decide) (Nat.le_refl _)) (Ok36A.cons (O4.mono (by decide) (Nat.le_refl _)) (Ok36A.cons (O5.mono (by decide) (Nat.le_refl _)) (Ok36A.cons O6 (Ok36A.nil (N := 0)))))))).lst.shows (by decide) (by decide)
    refine ⟨_, rfl, _, _, rfl, six (s5 _ _ hl) (D3'.same s5) (D6'.same s5), S6, _, rfl, _, rfl, _, rfl, a, ns, t, rfl, (s4.trans s5) _ _ ha, L, by omega, fun G6 w6 e6 s6 W6 P6' => ⟨by show 1 ≤ sizeLine; decide, fun l3 nl3 => ?_⟩⟩
    have ee : e6 = d6 := P6'.one P6
    subst ee
    have y := s6.trans (same_upd (o := HO.lst [w6]) nl3)
    have hl3 := @upd_same G6 l3 (HO.lst [w6])
    have W6' := W6.same (same_upd (o := HO.lst [w6]) nl3)
    generalize upd G6 l3 (HO.lst [w6]) = G7 at *
    refine ⟨l2, l3, _, _, rfl, rfl, y _ _ hl2, hl3, by show 5 + 1 ≤ sizeLine; decide, fun c nc => ?_⟩
    have z := same_upd (o := HO.lst ([V.int ((gcdAll (ns.map Int.toNat) : Nat) : Int), .bl (reached (leasts (ns.map Int.toNat)) t), u3, condV ns, gapV ns] ++ [w6])) nc
    refine ⟨_, _, rfl, six upd_same (U3.same (y.trans z)) (W6'.same z), S6, rfl, ?_⟩
    rw [decide_eq_true rfl]
    have all := s4.trans (s5.trans (y.trans z))
    exact q _ (b2.trans (But.of all)) ((B2.same all).mono (by omega)) fun b e => f2 b (all.free e)
end
end Ov
namespace Ov
open PySem PySem.Spec PyProof.Rows L2
/-! ### the law's own sets of instructions -/
def setA (s : Nat) : List I4 := [⟨0, [110, 111, 112], 1, true⟩, ⟨1, [115, 107, 105, 112], s, true⟩, ⟨2, [108, 111, 97, 100], 3, false⟩]
theorem setA_ok {s : Nat} (h1 : 2 ≤ s) (h2 : s ≤ 4) : TabOk 4 12 (setA s) := by
  have hs : s = 2 ∨ s = 3 ∨ s = 4 := by omega
  rcases hs with rfl | rfl | rfl
  all_goals exact ⟨by decide, by decide, by decide, by decide, by decide +kernel, by decide +kernel, by decide +kernel, by decide +kernel, by decide +kernel⟩
theorem setA_lon {s : Nat} (h1 : 2 ≤ s) (h2 : s ≤ 4) : ((lonOf (setA s) : Nat) : Int) = (if (s : Int) > 3 then (s : Int) else 3) := by
  have hs : s = 2 ∨ s = 3 ∨ s = 4 := by omega
  rcases hs with rfl | rfl | rfl <;> decide +kernel
theorem setA_la1 {s : Nat} (h1 : 2 ≤ s) (h2 : s ≤ 4) : laOf (setA s) 1 = s := by
  have hs : s = 2 ∨ s = 3 ∨ s = 4 := by omega
  rcases hs with rfl | rfl | rfl <;> decide +kernel
theorem setA_la3 {s : Nat} (h1 : 2 ≤ s) (h2 : s ≤ 4) : laOf (setA s) 3 = 0 := by
  have hs : s = 2 ∨ s = 3 ∨ s = 4 := by omega
  rcases hs with rfl | rfl | rfl <;> decide +kernel
theorem eqvAll_ints : ∀ ns : List Int, PyData.eqvAll (ns.map PyData.int) (ns.map PyData.int) = true
  | [] => by simp [PyData.eqvAll]
  | n :: ns => by rw [List.map_cons]; simp only [PyData.eqvAll]; rw [eqvAll_ints ns]; simp [PyData.eqv]
theorem eqv_intsL (ns : List Int) : PyData.eqv (.list (ns.map PyData.int)) (.list (ns.map PyData.int)) = true := by simp only [PyData.eqv]; exact eqvAll_ints ns
theorem eqv_intsT (ns : List Int) : PyData.eqv (.tuple (ns.map PyData.int)) (.tuple (ns.map PyData.int)) = true := by simp only [PyData.eqv]; exact eqvAll_ints ns
theorem setA_load (s : Nat) : opV (setA s) (.str "load") = .int 2 := rfl
theorem setA_x (s : Nat) : opV (setA s) (.str "x") = .non := rfl
theorem rows3 {H : Hp} {r0 r1 r2 : Addr} {x0 x1 x2 : I4} (h0 : H r0 = some (.tup x0.vs)) (h1 : H r1 = some (.tup x1.vs)) (h2 : H r2 = some (.tup x2.vs)) : Rows H [r0, r1, r2] [x0, x1, x2] :=
  ⟨rfl, fun i r x e1 e2 => match i, e1, e2 with
    | 0, e1, e2 => by cases e1; cases e2; exact h0
    | 1, e1, e2 => by cases e1; cases e2; exact h1
    | 2, e1, e2 => by cases e1; cases e2; exact h2
    | n + 3, e1, e2 => by simp at e1⟩
section
variable {P : Program} {w : World} {K : PySem.W.Frag} {mg : Str → Option Value} {base : Heap}
def spSetR : Sp := fun vs H Q _ => ∃ s : Nat, vs = [.int (s : Int)] ∧ 2 ≤ s ∧ s ≤ 4 ∧ ∀ H', Same H H' → Q (.bl true) H'
abbrev nSetR : List Str := ["_law_size", "_law_some", "_law_made", "_law_wide", "_law_told"]
theorem scSetR : FnScope nSetR ["_law_size"] (defScope s_law_set_right) := ⟨rfl, rfl, rfl, by decide +kernel, rfl, by decide +kernel, by decide +kernel⟩
theorem ok_setR {f fI fLo fLA fOp fAl fIc C : Addr} {fd fdI fdLo fdLA fdOp fdAl fdIc : FuncData} {k : Nat} (F : Fun K "_law_set_right" "_law_set_right" s_law_set_right f fd) (T : Bi mg) (S : SetTxt K mg C)
    (M : L2.Mk K C fI) (GI : FnOk P w K mg base CX0 k fI fdI ["self", "byte_count", "instructions"] (spInitI C)) (KI : KBn K fdI ["self", "byte_count", "instructions"] 1 ["instructions", "byte_count"] selfSwap selfSwap)
    (MLo : Meth K C "longest" fLo) (bLo : Binds K fdLo ["self"] []) (GLo : FnOk P w K mg base CX0 (k + 1) fLo fdLo ["self"] (spLongest C))
    (MLA : Meth K C "length_at" fLA) (KLA : KBinds K fdLA ["self", "byte"] ["byte"] self1 self1) (GLA : FnOk P w K mg base CX0 (k + 1) fLA fdLA ["self", "byte"] (spLenAt C))
    (MOp : Meth K C "opcode" fOp) (KOp : KBinds K fdOp ["self", "name"] ["name"] self1 self1) (GOp : FnOk P w K mg base CX0 (k + 1) fOp fdOp ["self", "name"] (spOpc K C))
    (Al : Def K mg "all_countdowns" s_all_countdowns fAl fdAl ["instruction_set"]) (GAl : FnOk P w K mg base CX0 (k + 1) fAl fdAl ["instruction_set"] (spAllC C)) (KAl : KBinds K fdAl ["instruction_set"] ["instruction_set"] one1 one1)
    (Ic : Def K mg "is_code" sIsCode fIc fdIc ["instruction_set", "value"]) (GIc : FnOk P w K mg base CX0 (k + 1) fIc fdIc ["instruction_set", "value"] (spIsCode K C)) (KIc : KBinds K fdIc ["instruction_set", "value"] ["value", "instruction_set"] swap2 swap2) :
    FnOk P w K mg base CX0 (k + 2) f fd ["_law_size"] spSetR := by
  refine F.ok scSetR (fun vs H Q E h => ?_) (fun cdv A' outer s H vs Q E hr h => ?_)
  · obtain ⟨s, rfl, _⟩ := h
    rfl
  · obtain ⟨z, rfl, z1, z2, q⟩ := h
    refine ⟨_, C8.pss_cut (ps_set (i := 1) scSetR.nd rfl (.inl rfl) (pe_tup (pa_cons (pe_tup (pa_cons pe_int (pa_cons pe_str (pa_cons pe_int (pa_cons pe_bl pa_nil))))) (pa_cons (pe_tup (pa_cons pe_int (pa_cons pe_str (pa_cons (pv 0) (pa_cons pe_bl pa_nil))))) (pa_cons (pe_tup (pa_cons pe_int (pa_cons pe_str (pa_cons pe_int (pa_cons pe_bl pa_nil))))) pa_nil)))))
      (C8.pss_cut (ps_set (i := 2) scSetR.nd rfl (.inl rfl) (pe_makeK0 M GI hr (by rfl) S.mgC KI pass0 (pk_cons (pv 1) (pk_cons pe_int pk_nil))))
      (pss_cons (ps_set (i := 3) scSetR.nd rfl (.inl rfl) (pe_callB (call_max2 rfl) (by rfl) T.max (by decide +kernel) (pa_cons pe_int (pa_cons (pv 0) pa_nil))))
      (C8.pss_cut (ps_set (i := 4) scSetR.nd rfl (.inl rfl) (pe_lst (pa_cons (pe_meth0 (pv 2) S.cl MLo GLo hr bLo .nil pass0) (pa_cons (pe_methK (pv 2) S.cl MLA GLA hr KLA pass0 (pk_cons pe_int pk_nil)) (pa_cons (pe_methK (pv 2) S.cl MLA GLA hr KLA pass0 (pk_cons pe_int pk_nil)) (pa_cons (pe_methK (pv 2) S.cl MOp GOp hr KOp pass0 (pk_cons pe_str pk_nil)) pa_nil))))))
      (C8.pss_cut (ps_if (PW.pt (pw_or (pt_cmpR (op_neD hr.units) (pv 4) (pe_lst (pa_cons (pv 3) (pa_cons (pv 0) (pa_cons pe_int (pa_cons pe_int pa_nil))))) (nomark _)) (pw_or1 (pt_cmpR op_notN (pe_methK (pv 2) S.cl MOp GOp hr KOp pass0 (pk_cons pe_str pk_nil)) pe_non (nomark _))))) (pss_one (ps_ret pe_bl)) pss_nil)
      (C8.pss_cut (ps_if (pt_cmpR (op_neD hr.units) (pe_callK0 GAl hr (by rfl) Al.gl Al.fn.kp KAl pass0 (pk_cons (pv 2) pk_nil)) (pe_tupRg (by rfl) (by rfl) T.tuple (prg_1 (by rfl) T.range (pv 3))) (nomark _)) (pss_one (ps_ret pe_bl)) pss_nil)
      (pss_one (ps_ret (pe_and (pe_cmpR op_isBl (pe_callK0 GIc hr (by rfl) Ic.gl Ic.fn.kp KIc pass0 (pk_cons (pe_tup (pa_cons pe_int (pa_cons pe_int pa_nil))) (pk_cons (pv 2) pk_nil))) pe_bl (nomark _)) (pe_one (pe_cmpR op_isBl (pe_callK0 GIc hr (by rfl) Ic.gl Ic.fn.kp KIc pass0 (pk_cons (pe_tup (pa_cons pe_int pa_nil)) (pk_cons (pv 2) pk_nil))) pe_bl (nomark _))))))))))), ?_⟩
    have hlo := setA_lon z1 z2
    have ok := setA_ok z1 z2
    -- the rows
    refine ⟨fun σ G => ∃ (it : Addr) (rs : List Addr), σ = [some (.int (z : Int)), some (.ref it), none, none, none] ∧ Same H G ∧ G it = some (.tup (rs.map V.ref)) ∧ Rows G rs (setA z), ?_, ?_⟩
    · refine ⟨by show 4 ≤ sizeLine; decide, fun r0 n0 => ⟨_, rfl, by show 4 ≤ sizeLine; decide, fun r1 n1 => ⟨by show 4 ≤ sizeLine; decide, fun r2 n2 => ⟨by show 3 ≤ sizeLine; decide, fun it nit => ?_⟩⟩⟩⟩
      have x0 := same_upd (o := HO.tup [V.int 0, V.str "nop", V.int 1, V.bl true]) n0
      have x1 := same_upd (o := HO.tup [V.int 1, V.str "skip", V.int (z : Int), V.bl true]) n1
      have x2 := same_upd (o := HO.tup [V.int 2, V.str "load", V.int 3, V.bl false]) n2
      have x3 := same_upd (o := HO.tup [V.ref r0, V.ref r1, V.ref r2]) nit
      refine ⟨it, [r0, r1, r2], rfl, x0.trans (x1.trans (x2.trans x3)), upd_same, rows3 ?_ ?_ ?_⟩
      · exact x3 _ _ (x2 _ _ (x1 _ _ upd_same))
      · exact x3 _ _ (x2 _ _ upd_same)
      · exact x3 _ _ upd_same
    rintro σ H1 ⟨it, rs, rfl, s1, hit, hrs⟩
    -- the set
    refine ⟨fun σ G => ∃ x : Addr, σ = [some (.int (z : Int)), some (.ref it), some (.ref x), none, none] ∧ Same H G ∧ Mach C G x 4 12 it (setA z) rs, ?_, ?_⟩
    · refine ⟨_, rfl, rfl, rfl, fun x dx nx ndx hne => ?_⟩
      have s4x : Same H1 (upd (upd H1 dx (.own x)) x (.ins C dx [])) := fun b o e => by
        rw [upd_ne (ne_of_none e nx), upd_ne (ne_of_none e ndx)]
        exact e
      refine ⟨x, dx, 4, 12, it, rs, setA z, rfl, upd_same, s4x _ _ hit, hrs.same s4x, ok, fun H5 SA kp => ⟨rfl, ?_⟩⟩
      have s5 : Same H1 H5 := fun b o e => kp b o (s4x b o e) (ne_of_none e nx)
      exact ⟨x, rfl, s1.trans s5, SA, s5 _ _ hit, hrs.same s5, ok⟩
    clear s1 hit hrs
    rintro σ H2 ⟨x, rfl, s2, M2⟩
    obtain ⟨dx, d1, d2, hx, _, _⟩ := M2.at_.ob
    have wd : (if (z : Int) > 3 then (z : Int) else 3) = ((lonOf (setA z) : Nat) : Int) := hlo.symm
    refine ⟨_, rfl, 3, _, rfl, ?_⟩
    -- told
    refine ⟨fun σ G => ∃ l : Addr, σ = [some (.int (z : Int)), some (.ref it), some (.ref x), some (.int ((lonOf (setA z) : Nat) : Int)), some (.ref l)] ∧ Same H2 G ∧ G l = some (.lst [.int ((lonOf (setA z) : Nat) : Int), .int (z : Int), .int 0, .int 2]), ?_, ?_⟩
    · refine ⟨_, rfl, x, dx, _, rfl, hx, no_methL _ _ _ _, x, it, 4, 12, _, rs, rfl, M2, fun H3 s3 => ?_⟩
      have M3 := M2.same s3
      refine ⟨_, rfl, x, dx, _, rfl, s3 _ _ hx, no_meth _ _ _ _, x, it, 4, _, 1, rfl, M3.at_, ?_⟩
      refine ⟨_, rfl, x, dx, _, rfl, s3 _ _ hx, no_meth _ _ _ _, x, it, 4, _, 3, rfl, M3.at_, ?_⟩
      refine ⟨_, rfl, x, dx, _, rfl, s3 _ _ hx, no_methO _ _ _ _, x, it, 4, _, .str "load", .str "load", rfl, M3.at_, .str _, ?_⟩
      refine ⟨by show 4 ≤ sizeLine; decide, fun l nl => ⟨l, ?_, s3.trans (same_upd nl), ?_⟩⟩
      · exact congrArg (fun v => [some (V.int (z : Int)), some (V.ref it), some (V.ref x), some (V.int v), some (V.ref l)]) wd
      · rw [upd_same, setA_la1 z1 z2, setA_la3 z1 z2]
        rfl
    rintro σ H3 ⟨l, rfl, s3, hl⟩
    have M3 := M2.same s3
    -- told right
    refine ⟨fun σ G => σ = [some (.int (z : Int)), some (.ref it), some (.ref x), some (.int ((lonOf (setA z) : Nat) : Int)), some (.ref l)] ∧ Same H3 G, ?_, ?_⟩
    · refine ⟨_, rfl, _, rfl, _, rfl, by show 4 ≤ sizeLine; decide, fun l2 nl2 => ?_⟩
      have s4 := same_upd (o := HO.lst [V.int ((lonOf (setA z) : Nat) : Int), V.int (z : Int), V.int 0, V.int 2]) nl2
      have nn : ∀ n ∈ ([((lonOf (setA z) : Nat) : Int), (z : Int), 0, 2] : List Int), n.natAbs < 2 ^ 1000 := by
        intro n hn
        simp only [List.mem_cons, List.not_mem_nil, or_false] at hn
        rcases hn with rfl | rfl | rfl | rfl
        · exact small_nat (by have := (lon_le ok).2; omega)
        · exact small_nat (by omega)
        · exact small_nat (x := 0) (by omega)
        · exact small_nat (x := 2) (by omega)
      refine ⟨_, _, .lst (SqL.of (s4 _ _ hl)) (dp_ints [((lonOf (setA z) : Nat) : Int), (z : Int), 0, 2]), .lst (SqL.of upd_same) (dp_ints [((lonOf (setA z) : Nat) : Int), (z : Int), 0, 2]), shaped_lst (flat_ints nn), shaped_lst (flat_ints nn), _, rfl, ?_⟩
      rw [eqv_intsL]
      refine iteF ⟨_, rfl, x, dx, _, rfl, (s3.trans s4) _ _ hx, no_methO _ _ _ _, x, it, 4, _, .str "x", .str "x", rfl, (M3.same s4).at_, .str _, ?_⟩
      exact ⟨rfl, _, rfl, iteF ⟨rfl, s4⟩⟩
    rintro σ H4 ⟨rfl, s4⟩
    have M4 := M3.same s4
    -- the countdowns
    refine ⟨fun σ G => σ = [some (.int (z : Int)), some (.ref it), some (.ref x), some (.int ((lonOf (setA z) : Nat) : Int)), some (.ref l)] ∧ Same H4 G, ?_, ?_⟩
    · refine ⟨_, rfl, x, it, 4, 12, _, rs, rfl, M4, fun H5 c s5 nc hc => ?_⟩
      refine ⟨_, rfl, _, rfl, RgOk.of_le (by omega) (by omega) (by omega) (by omega), fun r nr => ?_⟩
      have s6 := same_upd (o := HO.tup (rgV 0 ((lonOf (setA z) : Nat) : Int))) nr
      have nn : ∀ n ∈ ((List.range (lonOf (setA z))).map fun k => ((k : Nat) : Int)), n.natAbs < 2 ^ 1000 := by
        intro n hn
        obtain ⟨k, hk, rfl⟩ := List.mem_map.mp hn
        have := List.mem_range.mp hk
        exact small_nat (by have := (lon_le ok).2; omega)
      refine ⟨_, _, .tup (SqT.of (s6 _ _ hc)) (dp_ints _), .tup (SqT.of (by rw [upd_same, rg_nat])) (dp_ints _), shaped_tup (flat_ints nn), shaped_tup (flat_ints nn), _, rfl, ?_⟩
      rw [eqv_intsT]
      exact iteF ⟨rfl, s5.trans s6⟩
    rintro σ H5 ⟨rfl, s5⟩
    have M5 := M4.same s5
    refine ⟨by show 2 ≤ sizeLine; decide, fun c nc => ⟨_, rfl, x, it, 4, _, .ref c, _, rfl, M5.at_.same (same_upd nc), .tup (SqT.of upd_same) (dx_ints [3, 0]), fun ds e => ?_, fun H6 s6 => ⟨_, _, rfl, rfl, ?_⟩⟩⟩
    · cases e
      show 2 ≤ 1000
      decide
    rw [show decide (isCode 4 (.tuple (([3, 0] : List Int).map PyData.int)) = true) = true by decide]
    refine ⟨_, rfl, iteT ⟨by show 1 ≤ sizeLine; decide, fun c2 nc2 => ⟨_, rfl, x, it, 4, _, .ref c2, _, rfl, (M5.same ((same_upd nc).trans s6)).at_.same (same_upd nc2), .tup (SqT.of upd_same) (dx_ints [4]), fun ds e => ?_, fun H7 s7 => ⟨_, _, rfl, rfl, ?_⟩⟩⟩⟩
    · cases e
      show 1 ≤ 1000
      decide
    rw [show decide (isCode 4 (.tuple (([4] : List Int).map PyData.int)) = false) = true by decide]
    exact q _ (s2.trans (s3.trans (s4.trans (s5.trans ((same_upd nc).trans (s6.trans ((same_upd nc2).trans s7)))))))
end
end Ov
namespace Ov
open PySem PySem.Spec PyProof.Rows L2
/-! ### what the functions of fillers.py return, as data: one each -/
def ConfD (g : Nat) (cs : List Int) (d : PyData) : Prop := (d = .none ∧ NoConf g cs) ∨ ∃ (s t : Int) (i : Nat), d = .tuple (([s, t] : List Int).map .int) ∧ cs[0]? = some s ∧ (cs.drop 1)[i]? = some t ∧ congN g s t = false ∧ ∀ u ∈ (cs.drop 1).take i, congN g s u = true
theorem ConfD.one {g : Nat} {cs : List Int} {d e : PyData} (h : ConfD g cs d) (h2 : ConfD g cs e) : d = e := by
  rcases h with ⟨rfl, a⟩ | ⟨s, t, i, rfl, h0, h1, hn, hl⟩
  · rcases h2 with ⟨rfl, _⟩ | ⟨s, t, i, rfl, h0, h1, hn, hl⟩
    · rfl
    · rw [a s t h0 (List.mem_of_getElem? h1)] at hn
      cases hn
  · rcases h2 with ⟨rfl, a⟩ | ⟨s2, t2, j, rfl, k0, k1, kn, kl⟩
    · rw [a s t h0 (List.mem_of_getElem? h1)] at hn
      cases hn
    · rw [h0] at k0
      cases k0
      have key : ∀ {i j : Nat} {t u : Int}, (cs.drop 1)[i]? = some t → congN g s t = false → (∀ u ∈ (cs.drop 1).take j, congN g s u = true) → ¬ i < j := fun {i j t u} a b c lt => by
        have z := c t (List.mem_of_getElem? (i := i) (by rw [List.getElem?_take_of_lt lt]; exact a))
        rw [z] at b
        cases b
      have e : i = j := by
        have a := key (u := 0) h1 hn kl
        have b := key (u := 0) k1 kn hl
        omega
      subst e
      rw [h1] at k1
      cases k1
      rfl
def FLenD (ns cs : List Int) (d : PyData) : Prop := (d = .none ∧ ¬ NoConf (gcdAll (ns.map Int.toNat)) cs) ∨ ∃ n : Nat, d = .int (n : Int) ∧ NoConf (gcdAll (ns.map Int.toNat)) cs ∧ hasF (leasts (ns.map Int.toNat)) cs (n : Int) = true ∧ ∀ m : Nat, m < n → hasF (leasts (ns.map Int.toNat)) cs (m : Int) = false
theorem least_one {p : Nat → Bool} {n m : Nat} (a : p n = true) (b : ∀ k, k < n → p k = false) (c : p m = true) (d : ∀ k, k < m → p k = false) : n = m := by
  rcases Nat.lt_trichotomy n m with h | h | h
  · rw [d n h] at a; cases a
  · exact h
  · rw [b m h] at c; cases c
theorem FLenD.one {ns cs : List Int} {d e : PyData} (h : FLenD ns cs d) (h2 : FLenD ns cs e) : d = e := by
  rcases h with ⟨rfl, a⟩ | ⟨n, rfl, nc, hf, mn⟩
  · rcases h2 with ⟨rfl, _⟩ | ⟨n, rfl, nc, hf, mn⟩
    · rfl
    · exact absurd nc a
  · rcases h2 with ⟨rfl, a⟩ | ⟨m, rfl, nc2, hf2, mn2⟩
    · exact absurd nc a
    · rw [least_one (p := fun k : Nat => hasF (leasts (ns.map Int.toNat)) cs (k : Int)) hf mn hf2 mn2]
abbrev bldI (is : List I4) (ns cs : List Int) (n : Nat) : List Int := (bld (fitF (leasts (ns.map Int.toNat)) (pads is) n) (fun k : Nat => decide ((k : Int) ∈ cs)) n).1
def FilD (is : List I4) (ns cs : List Int) (x : Option Nat) (d : PyData) : Prop :=
  (d = .none ∧ ((x = none ∧ ¬ NoConf (gcdAll (ns.map Int.toNat)) cs) ∨ ∃ n : Nat, x = some n ∧ hasF (leasts (ns.map Int.toNat)) cs (n : Int) = false)) ∨
  ∃ n : Nat, hasF (leasts (ns.map Int.toNat)) cs (n : Int) = true ∧ d = .tuple ((bldI is ns cs n).map .int) ∧ (x = some n ∨ (x = none ∧ NoConf (gcdAll (ns.map Int.toNat)) cs ∧ ∀ m : Nat, m < n → hasF (leasts (ns.map Int.toNat)) cs (m : Int) = false))
theorem FilD.one {is : List I4} {ns cs : List Int} {x : Option Nat} {d e : PyData} (h : FilD is ns cs x d) (h2 : FilD is ns cs x e) : d = e := by
  have no : ∀ {n : Nat}, ((x = none ∧ ¬ NoConf (gcdAll (ns.map Int.toNat)) cs) ∨ ∃ n : Nat, x = some n ∧ hasF (leasts (ns.map Int.toNat)) cs (n : Int) = false) → hasF (leasts (ns.map Int.toNat)) cs (n : Int) = true →
      (x = some n ∨ (x = none ∧ NoConf (gcdAll (ns.map Int.toNat)) cs ∧ ∀ m : Nat, m < n → hasF (leasts (ns.map Int.toNat)) cs (m : Int) = false)) → False := fun {n} a b c => by
    rcases a with ⟨x0, a⟩ | ⟨m, x1, a⟩
    · rcases c with c | ⟨_, c, _⟩
      · rw [x0] at c; cases c
      · exact a c
    · rcases c with c | ⟨c, _⟩
      · rw [x1] at c
        cases c
        rw [a] at b
        cases b
      · rw [x1] at c; cases c
  rcases h with ⟨rfl, a⟩ | ⟨n, hf, rfl, hx⟩
  · rcases h2 with ⟨rfl, _⟩ | ⟨n, hf, rfl, hx⟩
    · rfl
    · exact (no a hf hx).elim
  · rcases h2 with ⟨rfl, a⟩ | ⟨m, hf2, rfl, hx2⟩
    · exact (no a hf hx).elim
    · have e : n = m := by
        rcases hx with x1 | ⟨x1, _, mn⟩
        · rcases hx2 with x2 | ⟨x2, _⟩
          · rw [x1] at x2; cases x2; rfl
          · rw [x1] at x2; cases x2
        · rcases hx2 with x2 | ⟨x2, _, mn2⟩
          · rw [x1] at x2; cases x2
          · exact least_one (p := fun k : Nat => hasF (leasts (ns.map Int.toNat)) cs (k : Int)) hf mn hf2 mn2
      rw [e]
/-! ### fine -/
theorem ok_low {ns : List Int} {N : Nat} (h : ∀ x ∈ ns, 0 ≤ x ∧ x < 1000) (l : ns.length ≤ N) : Ok36 1 (N + 1) (.tuple (ns.map PyData.int)) :=
  (ok_ints fun x hx => Nat.lt_of_lt_of_le (show x.natAbs < 2 ^ 10 by have := h x hx; omega) (Nat.pow_le_pow_right (by decide) (by decide))).mono (Nat.le_refl _) (by omega)
theorem ConfD.ok {g L : Nat} {cs : List Int} {d : PyData} (h : ConfD g cs d) (c : Cds L cs) (hL : L ≤ 1000) : Ok36 1 3 d := by
  rcases h with ⟨rfl, _⟩ | ⟨s, t, i, rfl, h0, h1, _⟩
  · exact ok_none.mono (by decide) (by decide)
  · have a := c.low s (List.mem_of_getElem? h0)
    have b := c.low t (List.drop_subset 1 cs (List.mem_of_getElem? h1))
    refine ok_low (N := 2) (fun x hx => ?_) (Nat.le_refl _)
    rcases List.mem_cons.mp hx with rfl | hx
    · omega
    · rw [List.mem_singleton.mp hx]; omega
theorem FLenD.ok {cnt lg : Nat} {is : List I4} {ns cs : List Int} {d : PyData} (h : FLenD ns cs d) (ok : TabOk cnt lg is) (PL : PadL is ns) (Ln : Lens ns) (hc : Cds (lonOf is) cs) : Ok36 0 1 d := by
  rcases h with ⟨rfl, _⟩ | ⟨n, rfl, nc, hf, mn⟩
  · exact ok_none
  · exact ok_nat (by have := short_le ok PL Ln hc nc mn; omega)
theorem bldI_low {cnt lg : Nat} {is : List I4} {ns cs : List Int} {n : Nat} (ok : TabOk cnt lg is) : ∀ b ∈ bldI is ns cs n, 0 ≤ b ∧ b < (cnt : Int) := by
  have cb := ok.cb
  exact bld_low (fit := fitF (leasts (ns.map Int.toNat)) (pads is) n) (B0 := fun k : Nat => decide ((k : Int) ∈ cs)) (cnt := cnt) (by omega) (fun o q h => by
    obtain ⟨x, hx, _, rfl⟩ := pads_in (fit_in h).1
    exact ok.ops x hx) n
theorem FilD.short {cnt lg : Nat} {is : List I4} {ns cs : List Int} {x : Option Nat} {d : PyData} (h : FilD is ns cs x d) (ok : TabOk cnt lg is) (PL : PadL is ns) (Ln : Lens ns) (hc : Cds (lonOf is) cs) (hx : ∀ n, x = some n → n ≤ 180) :
    d = .none ∨ ∃ n : Nat, n ≤ 180 ∧ hasF (leasts (ns.map Int.toNat)) cs (n : Int) = true ∧ d = .tuple ((bldI is ns cs n).map .int) := by
  rcases h with ⟨rfl, _⟩ | ⟨n, hf, rfl, h⟩
  · exact .inl rfl
  · refine .inr ⟨n, ?_, hf, rfl⟩
    rcases h with h | ⟨_, nc, mn⟩
    · exact hx n h
    · exact short_le ok PL Ln hc nc mn
theorem FilD.ok {cnt lg : Nat} {is : List I4} {ns cs : List Int} {x : Option Nat} {d : PyData} (h : FilD is ns cs x d) (ok : TabOk cnt lg is) (PL : PadL is ns) (Ln : Lens ns) (hc : Cds (lonOf is) cs) (hx : ∀ n, x = some n → n ≤ 180) : Ok36 1 181 d := by
  have cb := ok.cb
  rcases h.short ok PL Ln hc hx with rfl | ⟨n, hn, _, rfl⟩
  · exact ok_none.mono (by decide) (by decide)
  · refine ok_low (N := 180) (fun b hb => ?_) ?_
    · have := bldI_low ok b hb
      omega
    · rw [bld_len]; exact hn
theorem FilD.fill {cnt lg : Nat} {is : List I4} {ns cs : List Int} {x : Option Nat} {d : PyData} (h : FilD is ns cs x d) (ok : TabOk cnt lg is) (PL : PadL is ns) (Ln : Lens ns) (hc : Cds (lonOf is) cs) (hx : ∀ n, x = some n → n ≤ 180) :
    (FillD is cnt cs d ↔ d ≠ .none) ∧ ∀ ds, d = .tuple ds → ds.length ≤ 1000 := by
  rcases h.short ok PL Ln hc hx with rfl | ⟨n, hn, hf, rfl⟩
  · exact ⟨⟨fun ⟨bs, e, _⟩ => (by cases e), fun z => absurd rfl z⟩, fun ds e => by cases e⟩
  · refine ⟨⟨fun _ z => (by cases z), fun _ => ⟨_, rfl, bldI_low ok, padded_fills (bld_padded ok PL Ln (fun x hx => (hc.low x hx).1) hf)⟩⟩, fun ds e => ?_⟩
    cases e
    rw [List.length_map, bld_len]
    omega
/-! ### a flat thing: none, an int, a tuple of ints -/
def FlE (H : Hp) (v : V) (d : PyData) : Prop := (v = .non ∧ d = .none) ∨ (∃ i : Int, v = .int i ∧ d = .int i) ∨ ∃ (r : Addr) (ns : List Int), v = .ref r ∧ H r = some (.tup (ns.map V.int)) ∧ d = .tuple (ns.map .int)
theorem FlE.same {H G : Hp} {v : V} {d : PyData} (h : FlE H v d) (s : Same H G) : FlE G v d := by
  rcases h with h | h | ⟨r, ns, a, b, c⟩
  · exact .inl h
  · exact .inr (.inl h)
  · exact .inr (.inr ⟨r, ns, a, s _ _ b, c⟩)
theorem FlE.upd {H : Hp} {v : V} {d : PyData} {l : Addr} {xs : List V} {o : HO} (h : FlE H v d) (hl : H l = some (.lst xs)) : FlE (upd H l o) v d := by
  rcases h with h | h | ⟨r, ns, a, b, c⟩
  · exact .inl h
  · exact .inr (.inl h)
  · refine .inr (.inr ⟨r, ns, a, ?_, c⟩)
    rw [upd_ne (fun z => by rw [z, hl] at b; cases b)]
    exact b
theorem FlE.dx {K : PySem.W.Frag} {H : Hp} {v : V} {d : PyData} (h : FlE H v d) : Dx K H v d := by
  rcases h with ⟨rfl, rfl⟩ | ⟨i, rfl, rfl⟩ | ⟨r, ns, rfl, b, rfl⟩
  · exact .non
  · exact .int _
  · exact .tup (SqT.of b) (dx_ints _)
theorem FlE.non {H : Hp} {v : V} {d : PyData} (h : FlE H v d) : v = .non ↔ d = .none := by
  rcases h with ⟨rfl, rfl⟩ | ⟨i, rfl, rfl⟩ | ⟨r, ns, rfl, b, rfl⟩
  · exact ⟨fun _ => rfl, fun _ => rfl⟩
  · exact ⟨(fun z => nomatch z), fun z => (by cases z)⟩
  · exact ⟨(fun z => nomatch z), fun z => (by cases z)⟩
theorem conf_fle {g : Nat} {cs : List Int} {H : Hp} {v : V} (h : ConfV g cs H v) : ∃ d, FlE H v d ∧ ConfD g cs d := by
  rcases h with ⟨rfl, h⟩ | ⟨r, s, t, i, rfl, hr, h⟩
  · exact ⟨_, .inl ⟨rfl, rfl⟩, .inl ⟨rfl, h⟩⟩
  · exact ⟨_, .inr (.inr ⟨r, [s, t], rfl, hr, rfl⟩), .inr ⟨s, t, i, rfl, h⟩⟩
theorem flen_fle {ns cs : List Int} {H : Hp} {v : V} (h : (v = .non ∧ ¬ NoConf (gcdAll (ns.map Int.toNat)) cs) ∨ ∃ n : Nat, v = .int (n : Int) ∧ NoConf (gcdAll (ns.map Int.toNat)) cs ∧ hasF (leasts (ns.map Int.toNat)) cs (n : Int) = true ∧ ∀ m : Nat, m < n → hasF (leasts (ns.map Int.toNat)) cs (m : Int) = false) : ∃ d, FlE H v d ∧ FLenD ns cs d := by
  rcases h with ⟨rfl, h⟩ | ⟨n, rfl, h⟩
  · exact ⟨_, .inl ⟨rfl, rfl⟩, .inl ⟨rfl, h⟩⟩
  · exact ⟨_, .inr (.inl ⟨_, rfl, rfl⟩), .inr ⟨n, rfl, h⟩⟩
def optO : Option Nat → V
  | none => .non
  | some n => .int (n : Int)
theorem fil_fle {is : List I4} {ns cs : List Int} {x : Option Nat} {H : Hp} {v : V} (h : FilV is ns cs (optO x) H v) : ∃ d, FlE H v d ∧ FilD is ns cs x d := by
  have e0 : optO x = .non → x = none := fun e => by
    cases x with
    | none => rfl
    | some n => cases e
  have e1 : ∀ n : Nat, optO x = .int (n : Int) → x = some n := fun n e => by
    cases x with
    | none => cases e
    | some m => have := Int.ofNat_inj.mp (V.int.inj e); rw [this]
  rcases h with ⟨rfl, h⟩ | ⟨r, n, rfl, hf, hr, _, h⟩
  · refine ⟨_, .inl ⟨rfl, rfl⟩, .inl ⟨rfl, ?_⟩⟩
    rcases h with ⟨a, b⟩ | ⟨n, a, b⟩
    · exact .inl ⟨e0 a, b⟩
    · exact .inr ⟨n, e1 n a, b⟩
  · refine ⟨_, .inr (.inr ⟨r, _, rfl, hr, rfl⟩), .inr ⟨n, hf, rfl, ?_⟩⟩
    rcases h with a | ⟨a, b⟩
    · exact .inl (e1 n a)
    · exact .inr ⟨e0 a, b⟩
end Ov
namespace Ov
open PySem PySem.Spec PyProof.Rows L2
/-- three values by keywords, in the turned order -/
def rev3 {α : Type} : List α → List α → List α
  | [], [a, b, c] => [c, b, a]
  | _, _ => []
theorem rev3_len {α : Type} {us ws : List α} (h : (rev3 us ws).length = 3) : ∃ a b c, us = [] ∧ ws = [a, b, c] := by
  match us, ws, h with
  | [], [a, b, c], _ => exact ⟨a, b, c, rfl, rfl⟩
  | [], [], h => cases h
  | [], [_], h => cases h
  | [], [_, _], h => cases h
  | [], _ :: _ :: _ :: _ :: _, h => cases h
  | _ :: _, _, h => cases h
theorem rev3_rel {vs : List V} {us : List Value} {zs : List V} {ws : List Value} (r : Vals vs us) (rz : Vals zs ws) : Vals (rev3 vs zs) (rev3 us ws) := by
  cases r with
  | nil =>
    cases rz with
    | nil => exact .nil
    | cons r1 rz =>
      cases rz with
      | nil => exact .nil
      | cons r2 rz =>
        cases rz with
        | nil => exact .nil
        | cons r3 rz =>
          cases rz with
          | nil => exact .cons r3 (.cons r2 (.cons r1 .nil))
          | cons r4 rz => exact .nil
  | cons r1 r => exact .nil
/-- repr of a text of any length that fits -/
theorem call_repr_text {X : Cx} : CallR X (.builtin "repr") (fun xs H Q => ∃ y, xs = [.str y] ∧ (reprText y).length ≤ sizeLine ∧ Q (.str (reprText y)) H) := by
  intro pins s σ H xs us Q I r h
  obtain ⟨y, rfl, hz, q⟩ := h
  obtain ⟨u, rfl, t, rfl⟩ := vals1 r
  exact PySem.P.repr_of_str ⟨.str _, H, I.tok _, ⟨_, rfl⟩, q⟩ hz
theorem box_tup {K : PySem.W.Frag} {H H' : Hp} {l d : Addr} {n : Nat} {ys : List V} (b : But l H H') (B : BoxAt H l n) (h : SqT K H d ys) : SqT K H' d ys := by
  obtain ⟨_, _, _, hl, _⟩ := B
  rcases h with (h | ⟨o, h⟩) | h
  · exact .inl (.inl (b _ _ h (fun z => by rw [z, hl] at h; cases h)))
  · exact .inl (.inr ⟨o, b _ _ h (fun z => by rw [z, hl] at h; cases h)⟩)
  · exact .inr h
end Ov
namespace Ov
open PySem PySem.Spec PyProof.Rows L2
/-! ### _law_fillers_right -/
inductive FlA (H : Hp) : List V → List PyData → Prop
  | nil : FlA H [] []
  | cons {v : V} {d : PyData} {vs : List V} {ds : List PyData} : FlE H v d → FlA H vs ds → FlA H (v :: vs) (d :: ds)
theorem FlA.same {H G : Hp} {vs : List V} {ds : List PyData} (h : FlA H vs ds) (s : Same H G) : FlA G vs ds := by
  induction h with
  | nil => exact .nil
  | cons a _ ih => exact .cons (a.same s) ih
theorem FlA.upd {H : Hp} {vs : List V} {ds : List PyData} {l : Addr} {xs : List V} {o : HO} (h : FlA H vs ds) (hl : H l = some (.lst xs)) : FlA (upd H l o) vs ds := by
  induction h with
  | nil => exact .nil
  | cons a _ ih => exact .cons (a.upd hl) ih
theorem FlA.dx {K : PySem.W.Frag} {H : Hp} {vs : List V} {ds : List PyData} (h : FlA H vs ds) : DxAll K H vs ds := by
  induction h with
  | nil => exact .nil
  | cons a _ ih => exact .cons a.dx ih
theorem FlA.snoc {H : Hp} {vs : List V} {ds : List PyData} {v : V} {d : PyData} (h : FlA H vs ds) (e : FlE H v d) : FlA H (vs ++ [v]) (ds ++ [d]) := by
  induction h with
  | nil => exact .cons e .nil
  | cons a _ ih => exact .cons a ih
/-- a list that grows -/
structure TL (B G : Hp) (l : Addr) (vs : List V) (ds : List PyData) : Prop where
  base : Same B G
  new : B l = none
  at_ : G l = some (.lst vs)
  all : FlA G vs ds
theorem TL.same {B G G2 : Hp} {l : Addr} {vs : List V} {ds : List PyData} (h : TL B G l vs ds) (s : Same G G2) : TL B G2 l vs ds := ⟨h.base.trans s, h.new, s _ _ h.at_, h.all.same s⟩
theorem TL.push {B G : Hp} {l : Addr} {vs : List V} {ds : List PyData} {v : V} {d : PyData} (h : TL B G l vs ds) (e : FlE G v d) : TL B (upd G l (.lst (vs ++ [v]))) l (vs ++ [v]) (ds ++ [d]) :=
  ⟨fun b o x => by rw [upd_ne (ne_of_none x h.new)]; exact h.base b o x, h.new, upd_same, (h.all.upd h.at_).snoc (e.upd h.at_)⟩
/-- two values by keywords in the turned order, and a default -/
def swapD (us ws : List Value) : List Value := swap2 us ws ++ [Value.none]
def swapV (us ws : List V) : List V := swap2 us ws ++ [V.non]
theorem kb_fil {K : PySem.W.Frag} {f : Addr} {fd : FuncData} (F : FunD K "filler" "filler" (defArgs s_filler) (defBody s_filler) (defScope s_filler) [.non] [] f fd) : KBinds K fd ["instruction_set", "countdowns", "length"] ["length", "countdowns", "instruction_set"] rev3 rev3 := by
  obtain ⟨oc, od, dV, kV, doc, pm, an, cdv, ct, osl, rfl, lk, hcd, hD, hK⟩ := F.ex
  rcases hD with ⟨e, _⟩ | ⟨_, T, o, its, m, rfl, lT, oT, rT⟩
  · cases e
  · refine ⟨fun s us ws X hl => ?_, rev3_rel⟩
    obtain ⟨a, b, c, rfl, rfl⟩ := rev3_len hl
    obtain ⟨u, rfl⟩ : ∃ u, its = [u] := by cases rT with | cons h1 h2 => cases h2; exact ⟨_, rfl⟩
    obtain ⟨k, e1, e2⟩ : ∃ k, bindArgs (PySem.W.fnOf "filler" "filler" (defArgs s_filler) (defBody s_filler) (defScope s_filler) (.ref T) kV doc pm an cdv ct) ⟨[], (["length", "countdowns", "instruction_set"] : List Str).zip [a, b, c]⟩ = seqItems? (.ref T) >>= k ∧
        k (some [u].toArray) = pure ((["instruction_set", "countdowns", "length"] : List Str).zip (rev3 [] [a, b, c])) := ⟨_, rfl, rfl⟩
    refine BindsTo.of_looks fun M => ?_
    rw [e1]
    exact looks_items X lT oT (.of_pure e2)
theorem kb_filD {K : PySem.W.Frag} {f : Addr} {fd : FuncData} (F : FunD K "filler" "filler" (defArgs s_filler) (defBody s_filler) (defScope s_filler) [.non] [] f fd) : KBinds K fd ["instruction_set", "countdowns", "length"] ["countdowns", "instruction_set"] swapD swapV := by
  obtain ⟨oc, od, dV, kV, doc, pm, an, cdv, ct, osl, rfl, lk, hcd, hD, hK⟩ := F.ex
  rcases hD with ⟨e, _⟩ | ⟨_, T, o, its, m, rfl, lT, oT, rT⟩
  · cases e
  · refine ⟨fun s us ws X hl => ?_, fun r rz => (swap2_rel r rz).append (.cons rfl .nil)⟩
    obtain ⟨a, b, rfl, rfl⟩ := swap2_len (us := us) (ws := ws) (by
      unfold swapD at hl
      rw [List.length_append] at hl
      exact Nat.succ.inj hl)
    obtain rfl : its = [Value.none] := by
      cases rT with
      | cons h1 h2 => cases h2; cases (show _ = Value.none from h1); rfl
    obtain ⟨k, e1, e2⟩ : ∃ k, bindArgs (PySem.W.fnOf "filler" "filler" (defArgs s_filler) (defBody s_filler) (defScope s_filler) (.ref T) kV doc pm an cdv ct) ⟨[], (["countdowns", "instruction_set"] : List Str).zip [a, b]⟩ = seqItems? (.ref T) >>= k ∧
        k (some [Value.none].toArray) = pure ((["instruction_set", "countdowns", "length"] : List Str).zip (swapD [] [a, b])) := ⟨_, rfl, rfl⟩
    refine BindsTo.of_looks fun M => ?_
    rw [e1]
    exact looks_items X lT oT (.of_pure e2)
def setF (s w : Nat) : List I4 := [⟨0, [112, 97, 100], s, true⟩, ⟨1, [108, 111, 97, 100], 5, false⟩, ⟨3, [119, 105, 100, 101], w, true⟩]
theorem setF_ok {s w : Nat} (h1 : 2 ≤ s) (h2 : s ≤ 4) (h3 : 2 ≤ w) (h4 : w ≤ 5) : TabOk 5 12 (setF s w) := by
  have hs : s = 2 ∨ s = 3 ∨ s = 4 := by omega
  have hw : w = 2 ∨ w = 3 ∨ w = 4 ∨ w = 5 := by omega
  rcases hs with rfl | rfl | rfl <;> rcases hw with rfl | rfl | rfl | rfl
  all_goals exact ⟨by decide, by decide, by decide, by decide, by decide +kernel, by decide +kernel, by decide +kernel, by decide +kernel, by decide +kernel⟩
theorem setF_lon {s w : Nat} (h1 : 2 ≤ s) (h2 : s ≤ 4) (h3 : 2 ≤ w) (h4 : w ≤ 5) : lonOf (setF s w) = 5 := by
  have hs : s = 2 ∨ s = 3 ∨ s = 4 := by omega
  have hw : w = 2 ∨ w = 3 ∨ w = 4 ∨ w = 5 := by omega
  rcases hs with rfl | rfl | rfl <;> rcases hw with rfl | rfl | rfl | rfl <;> decide +kernel
/-- lengths of fillers, as ints -/
def fitsI (ns cs : List Int) (mo : Nat) : List Int := ((List.range (mo + 1)).filter fun n => hasF (leasts (ns.map Int.toNat)) cs ((n : Nat) : Int)).map fun n => ((n : Nat) : Int)
theorem fits_fle {ns cs : List Int} {mo : Nat} {H : Hp} {r : Addr} (h : H r = some (.tup (((List.range (mo + 1)).filter fun n => hasF (leasts (ns.map Int.toNat)) cs ((n : Nat) : Int)).map nV))) : FlE H (.ref r) (.tuple ((fitsI ns cs mo).map .int)) := by
  refine .inr (.inr ⟨r, fitsI ns cs mo, rfl, ?_, rfl⟩)
  rw [h]
  unfold fitsI
  rw [List.map_map]
  rfl
theorem fits_ok {ns cs : List Int} {mo : Nat} (h : mo ≤ 180) : Ok36 1 182 (.tuple ((fitsI ns cs mo).map .int)) := by
  refine ok_low (N := 181) (fun x hx => ?_) ?_
  · unfold fitsI at hx
    obtain ⟨n, hn, rfl⟩ := List.mem_map.mp hx
    have := List.mem_range.mp (List.mem_filter.mp hn).1
    omega
  · unfold fitsI
    rw [List.length_map]
    have := List.length_filter_le (fun n => hasF (leasts (ns.map Int.toNat)) cs ((n : Nat) : Int)) (List.range (mo + 1))
    rw [List.length_range] at this
    omega
end Ov
namespace Ov
open PySem PySem.Spec PyProof.Rows L2
section
variable {P : Program} {w : World} {K : PySem.W.Frag} {mg : Str → Option Value} {base : Heap}
def spFillR : Sp := fun vs H Q _ => ∃ (p : Addr) (n s : Nat), vs = [.ref p, .int (s : Int)] ∧ BoxAt H p n ∧ n ≤ 2 ^ 36 ∧ 2 ≤ s ∧ s ≤ 4 ∧ ∀ H', But p H H' → BoxAt H' p (n + 20) → Q (.bl true) H'
abbrev nFillR : List Str := ["_law_box_here", "_law_size", "_law_some", "_law_made", "_law_lot", "_law_far", "_law_told", "_law_due", "_law_at"]
theorem scFillR : FnScope nFillR ["_law_box_here", "_law_size"] (defScope s_law_fillers_right) := ⟨rfl, rfl, rfl, by decide +kernel, rfl, by decide +kernel, by decide +kernel⟩
theorem ok_fillR {f fI fO fT fCf fFl fFs fFi fIf C : Addr} {fd fdI fdO fdT fdCf fdFl fdFs fdFi fdIf : FuncData} {k : Nat} (F : Fun K "_law_fillers_right" "_law_fillers_right" s_law_fillers_right f fd) (T : Bi mg) (S : SetTxt K mg C)
    (M : L2.Mk K C fI) (bI : Binds K fdI ["self", "byte_count", "instructions"] []) (GI : FnOk P w K mg base CX0 k fI fdI ["self", "byte_count", "instructions"] (spInitI C))
    (O : Def K mg "_law_of" sOf fO fdO ["_law_box_here", "_law_some"]) (GO : FnOk P w K mg base CX0 (k + 1) fO fdO ["_law_box_here", "_law_some"] spOf)
    (Tk : Def K mg "_law_take" sTake fT fdT ["_law_box_here", "_law_many"]) (GT : FnOk P w K mg base CX0 (k + 1) fT fdT ["_law_box_here", "_law_many"] spTake)
    (Cf : Def K mg "conflict" s_conflict fCf fdCf ["instruction_set", "countdowns"]) (GCf : FnOk P w K mg base CX0 (k + 1) fCf fdCf ["instruction_set", "countdowns"] (spConf K C)) (KCf : KBinds K fdCf ["instruction_set", "countdowns"] ["countdowns", "instruction_set"] swap2 swap2)
    (Fl : Def K mg "filler_length" s_filler_length fFl fdFl ["instruction_set", "countdowns"]) (GFl : FnOk P w K mg base CX0 (k + 1) fFl fdFl ["instruction_set", "countdowns"] (spFLen K C)) (KFl : KBinds K fdFl ["instruction_set", "countdowns"] ["countdowns", "instruction_set"] swap2 swap2)
    (Fs : Def K mg "filler_lengths" s_filler_lengths fFs fdFs ["instruction_set", "countdowns", "most"]) (GFs : FnOk P w K mg base CX0 (k + 1) fFs fdFs ["instruction_set", "countdowns", "most"] (spFLens K C)) (KFs : KBinds K fdFs ["instruction_set", "countdowns", "most"] ["most", "countdowns", "instruction_set"] rev3 rev3)
    (gF : mg "filler" = some (.ref fFi)) (kF : PySem.W.keepIn K (.ref fFi) = true) {ds0 : List Value} (vF : Vals [.non] ds0) (bF0 : Binds K fdFi ["instruction_set", "countdowns", "length"] ds0) (bF : Binds K fdFi ["instruction_set", "countdowns", "length"] [])
    (KF : KBinds K fdFi ["instruction_set", "countdowns", "length"] ["length", "countdowns", "instruction_set"] rev3 rev3) (KFD : KBinds K fdFi ["instruction_set", "countdowns", "length"] ["countdowns", "instruction_set"] swapD swapV)
    (GFi : FnOk P w K mg base CX0 (k + 1) fFi fdFi ["instruction_set", "countdowns", "length"] (spFiller K C))
    (If : Def K mg "is_filler" s_is_filler fIf fdIf ["instruction_set", "countdowns", "value"]) (GIf : FnOk P w K mg base CX0 (k + 1) fIf fdIf ["instruction_set", "countdowns", "value"] (spIsFX K C)) (KIf : KBinds K fdIf ["instruction_set", "countdowns", "value"] ["value", "countdowns", "instruction_set"] rev3 rev3) :
    FnG P w K mg base (k + 2) f fd ["_law_box_here", "_law_size"] spFillR := by
  refine okG F scFillR (fun vs H Q E h => ?_) (fun cdv A' outer s H vs Q E gd hr h => ?_)
  · obtain ⟨p, n, s, rfl, _⟩ := h
    rfl
  · obtain ⟨p, n, z, rfl, B, hn, z1, z2, q⟩ := h
    refine ⟨_, C8.pss_cut (ps_set (i := 2) scFillR.nd rfl (.inl rfl) (pe_tup (pa_cons (pe_tup (pa_cons pe_int (pa_cons pe_str (pa_cons (pv 1) (pa_cons pe_bl pa_nil))))) (pa_cons (pe_tup (pa_cons pe_int (pa_cons pe_str (pa_cons pe_int (pa_cons pe_bl pa_nil)))))
        (pa_cons (pe_tup (pa_cons pe_int (pa_cons pe_str (pa_cons (pe_call GO hr (by rfl) O.gl O.fn.kp O.bi .nil pass0 (pa_cons (pv 0) (pa_cons (pe_lst (pa_cons (pv 1) (pa_cons (pe_op op_add (pv 1) pe_int) (pa_cons pe_int pa_nil)))) pa_nil))) (pa_cons pe_bl pa_nil))))) pa_nil)))))
      (C8.pss_cut (ps_set (i := 3) scFillR.nd rfl (.inl rfl) (pe_make M GI hr (by rfl) S.mgC bI .nil pass0 (pa_cons pe_int (pa_cons (pv 2) pa_nil))))
      (C8.pss_cut (ps_set (i := 4) scFillR.nd rfl (.inl rfl) (pe_callTy call_tuple_of (by rfl) T.tuple (by decide +kernel) (pa_cons
          (pe_lc (own := [("_law_at", 8)]) (g := gName 8) (by rfl) scFillR.nd (pi_range1 (by rfl) T.range (pa_cons pe_int pa_nil)) (blkOk_by (own := [("_law_at", 8)]) (N := nFillR) (sc := defScope s_law_fillers_right) (by decide +kernel))
            (fun _ _ _ _ _ => pg_name (i := 8) scFillR.nd rfl (Or.inl rfl)) (fun _ _ _ _ _ => pts_one (pt_cmpR op_eq (pe_call GT hr (by rfl) Tk.gl Tk.fn.kp Tk.bi .nil pass0 (pa_cons (pv 0) (pa_cons pe_int pa_nil))) pe_int (nomark _)))
            (fun _ _ _ _ _ => pv 8)) pa_nil)))
      (C8.pss_cut (ps_set (i := 5) scFillR.nd rfl (.inl rfl) (pe_op op_add pe_int (pe_call GT hr (by rfl) Tk.gl Tk.fn.kp Tk.bi .nil pass0 (pa_cons (pv 0) (pa_cons pe_int pa_nil)))))
      (C8.pss_cut (ps_set (i := 6) scFillR.nd rfl (.inl rfl) (pe_lst (pa_cons (pe_callK0 GCf hr (by rfl) Cf.gl Cf.fn.kp KCf pass0 (pk_cons (pv 4) (pk_cons (pv 3) pk_nil))) (pa_cons (pe_callK0 GFl hr (by rfl) Fl.gl Fl.fn.kp KFl pass0 (pk_cons (pv 4) (pk_cons (pv 3) pk_nil))) pa_nil))))
      (C8.pss_cut (ps_expr (pe_bm PySem.F.plainAttrs_list PySem.F.slot_list_append PySem.F.type_list_append mt_append (pv 6) (pa_cons (pe_callK0 GFs hr (by rfl) Fs.gl Fs.fn.kp KFs pass0 (pk_cons (pv 5) (pk_cons (pv 4) (pk_cons (pv 3) pk_nil)))) pa_nil)))
      (C8.pss_cut (ps_expr (pe_bm PySem.F.plainAttrs_list PySem.F.slot_list_append PySem.F.type_list_append mt_append (pv 6) (pa_cons (pe_callK0 GFi hr (by rfl) gF kF KF pass0 (pk_cons (pv 5) (pk_cons (pv 4) (pk_cons (pv 3) pk_nil)))) pa_nil)))
      (C8.pss_cut (ps_expr (pe_bm PySem.F.plainAttrs_list PySem.F.slot_list_append PySem.F.type_list_append mt_append (pv 6) (pa_cons (pe_callK0 GFi hr (by rfl) gF kF KFD pass0 (pk_cons (pv 4) (pk_cons (pv 3) pk_nil))) pa_nil)))
      (C8.pss_cut (ps_set (i := 7) scFillR.nd rfl (.inl rfl) (pe_lst (pa_cons (pe_call GCf hr (by rfl) Cf.gl Cf.fn.kp Cf.bi .nil pass0 (pa_cons (pv 3) (pa_cons (pv 4) pa_nil))) (pa_cons (pe_call GFl hr (by rfl) Fl.gl Fl.fn.kp Fl.bi .nil pass0 (pa_cons (pv 3) (pa_cons (pv 4) pa_nil)))
          (pa_cons (pe_call GFs hr (by rfl) Fs.gl Fs.fn.kp Fs.bi .nil pass0 (pa_cons (pv 3) (pa_cons (pv 4) (pa_cons (pv 5) pa_nil)))) (pa_cons (pe_call GFi hr (by rfl) gF kF bF .nil pass0 (pa_cons (pv 3) (pa_cons (pv 4) (pa_cons (pv 5) pa_nil)))) pa_nil))))))
      (C8.pss_cut (ps_expr (pe_bm PySem.F.plainAttrs_list PySem.F.slot_list_append PySem.F.type_list_append mt_append (pv 7) (pa_cons (pe_call GFi hr (by rfl) gF kF bF0 vF pass0 (pa_cons (pv 3) (pa_cons (pv 4) pa_nil))) pa_nil)))
      (C8.pss_cut (ps_if (pt_cmpR op_ne (pe_callB (call_repr_x gd hr) (by rfl) T.repr (by decide +kernel) (pa_cons (pv 6) pa_nil)) (pe_callB (call_repr_x gd hr) (by rfl) T.repr (by decide +kernel) (pa_cons (pv 7) pa_nil)) (nomark _)) (pss_one (ps_ret pe_bl)) pss_nil)
      (pss_one (ps_ret (pe_cmpR op_eq (pe_callK0 GIf hr (by rfl) If.gl If.fn.kp KIf pass0 (pk_cons (pe_ix ix_list (pv 6) (pe_un un_neg pe_int) (fun _ _ => rfl)) (pk_cons (pv 4) (pk_cons (pv 3) pk_nil))))
          (pe_cmpR op_notN (pe_ix ix_list (pv 6) (pe_un un_neg pe_int) (fun _ _ => rfl)) pe_non (nomark _)) (nomark _)))))))))))))), ?_⟩
    -- the rows
    refine ⟨fun σ G => ∃ (it : Addr) (rs : List Addr) (y : Nat), σ = [some (.ref p), some (.int (z : Int)), some (.ref it), none, none, none, none, none, none] ∧ But p H G ∧ BoxAt G p (n + 1) ∧ 2 ≤ y ∧ y ≤ 5 ∧ G it = some (.tup (rs.map V.ref)) ∧ Rows G rs (setF z y), ?_, ?_⟩
    · refine ⟨_, rfl, by show 4 ≤ sizeLine; decide, fun r0 n0 => ⟨by show 4 ≤ sizeLine; decide, fun r1 n1 => ⟨_, rfl, _, rfl, _, rfl, _, _, rfl, rfl, by show 3 ≤ sizeLine; decide, fun l0 nl0 => ?_⟩⟩⟩
      have x0 := same_upd (o := HO.tup [V.int 0, V.str "pad", V.int (z : Int), V.bl true]) n0
      have x1 := same_upd (o := HO.tup [V.int 1, V.str "load", V.int 5, V.bl false]) n1
      have x2 := same_upd (o := HO.lst [V.int (z : Int), V.int ((z : Int) + 1), V.int 4]) nl0
      have B3 := ((B.same x0).same x1).same x2
      refine ⟨p, l0, n, _, rfl, B3, by omega, upd_same, fun e => ((B.same x0).same x1).ne (e ▸ nl0), by show 0 < 3; decide, by show 3 ≤ 1000; decide, fun H3 v mv b3 B4 f3 => ⟨by show 4 ≤ sizeLine; decide, fun r2 n2 => ⟨by show 3 ≤ sizeLine; decide, fun it nit => ?_⟩⟩⟩
      obtain ⟨y, rfl, y1, y2⟩ : ∃ y : Nat, v = .int (y : Int) ∧ 2 ≤ y ∧ y ≤ 5 := by
        rcases List.mem_cons.mp mv with rfl | mv
        · exact ⟨z, rfl, by omega, by omega⟩
        rcases List.mem_cons.mp mv with rfl | mv
        · exact ⟨z + 1, rfl, by omega, by omega⟩
        · exact ⟨4, List.mem_singleton.mp mv, by decide, by decide⟩
      have x3 := same_upd (o := HO.tup [V.int 3, V.str "wide", V.int (y : Int), V.bl true]) n2
      have x4 := same_upd (o := HO.tup [V.ref r0, V.ref r1, V.ref r2]) nit
      have np0 : r0 ≠ p := fun e => B.ne (e ▸ n0)
      have np1 : r1 ≠ p := fun e => (B.same x0).ne (e ▸ n1)
      refine ⟨it, [r0, r1, r2], y, rfl, (But.of (x0.trans (x1.trans x2))).trans (b3.trans (But.of (x3.trans x4))), (B4.same x3).same x4, y1, y2, upd_same, rows3 ?_ ?_ ?_⟩
      · exact x4 _ _ (x3 _ _ (b3 _ _ (x2 _ _ (x1 _ _ upd_same)) np0))
      · exact x4 _ _ (x3 _ _ (b3 _ _ (x2 _ _ upd_same) np1))
      · exact x4 _ _ upd_same
    rintro σ H1 ⟨it, rs, y, rfl, b1, B1, y1, y2, hit, hrs⟩
    have ok := setF_ok z1 z2 y1 y2
    have l5 := setF_lon z1 z2 y1 y2
    -- the set
    refine ⟨fun σ G => ∃ x : Addr, σ = [some (.ref p), some (.int (z : Int)), some (.ref it), some (.ref x), none, none, none, none, none] ∧ But p H G ∧ BoxAt G p (n + 1) ∧ Mach C G x 5 12 it (setF z y) rs, ?_, ?_⟩
    · refine ⟨_, rfl, fun x dx nx ndx hne => ?_⟩
      have s4x : Same H1 (upd (upd H1 dx (.own x)) x (.ins C dx [])) := fun b o e => by
        rw [upd_ne (ne_of_none e nx), upd_ne (ne_of_none e ndx)]
        exact e
      refine ⟨x, dx, 5, 12, it, rs, setF z y, rfl, upd_same, s4x _ _ hit, hrs.same s4x, ok, fun H5 SA kp => ⟨rfl, ?_⟩⟩
      have s5 : Same H1 H5 := fun b o e => kp b o (s4x b o e) (ne_of_none e nx)
      exact ⟨x, rfl, b1.trans (But.of s5), B1.same s5, SA, s5 _ _ hit, hrs.same s5, ok⟩
    clear b1 B1 hit hrs
    rintro σ H2 ⟨x, rfl, b2, B2, M2⟩
    -- the countdowns
    refine ⟨fun σ G => ∃ (c : Addr) (cs : List Int) (v8 : Option V), σ = [some (.ref p), some (.int (z : Int)), some (.ref it), some (.ref x), some (.ref c), none, none, none, v8] ∧ But p H G ∧ BoxAt G p (n + 6) ∧ Mach C G x 5 12 it (setF z y) rs ∧ G c = some (.tup (cs.map V.int)) ∧ c ≠ p ∧ Cds 5 cs, ?_, ?_⟩
    · refine ⟨5, rfl, by decide, by decide, fun D nD => lc_range (lo := 0) (n := 5) (fun i G => ∃ cs : List Int, But p H2 G ∧ BoxAt G p (n + 1 + i) ∧ G D = some (.lst (cs.map V.int)) ∧ cs.length ≤ i ∧ cs.Pairwise (· < ·) ∧ ∀ x ∈ cs, 0 ≤ x ∧ x < (i : Int))
          ⟨[], But.of (same_upd nD), B2.same (same_upd nD), upd_same, by simp, List.Pairwise.nil, by simp⟩ ?_ ?_⟩
      · rintro i G hi ⟨cs, bG, BG, hD, cl, asc, low⟩
        rw [show (0 : Int) + (i : Int) = (i : Int) by omega]
        have Dp : D ≠ p := fun z => B2.ne (z ▸ nD)
        refine ⟨rfl, _, rfl, p, 2, n + 1 + i, rfl, BG, by omega, by decide, by decide, fun G2 d bb BB d0 d1 f2 => ?_⟩
        have hD2 := bb _ _ hD Dp
        refine ⟨rfl, _, rfl, ?_⟩
        by_cases dz : d = 0
        · subst dz
          refine iteT ⟨_, rfl, _, hD2, by rw [List.length_map, sizeLine_eq]; omega, cs ++ [(i : Int)], fun b o e ne => ?_, BB.upd Dp, ?_, ?_, ?_, ?_⟩
          · rw [upd_ne (ne_of_none e nD)]
            exact bb _ _ (bG b o e ne) ne
          · rw [upd_same, List.map_append]; rfl
          · rw [List.length_append]; show _ + 1 ≤ _; omega
          · rw [List.pairwise_append]
            exact ⟨asc, List.pairwise_singleton _ _, fun x hx y hy => by rw [List.mem_singleton.mp hy]; exact (low x hx).2⟩
          · intro x hx
            rcases List.mem_append.mp hx with z | z
            · have := low x z; omega
            · rw [List.mem_singleton.mp z]; omega
        · rw [decide_eq_false (fun z => dz (V.int.inj z))]
          exact iteF ⟨cs, bG.trans bb, BB.mono (by omega), hD2, by omega, asc, fun x hx => by have := low x hx; omega⟩
      · rintro G ⟨cs, bG, BG, hD, cl, asc, low⟩
        refine ⟨D, _, rfl, .inl ⟨SqL.of hD, fun r nr => ?_⟩⟩
        have sr := same_upd (o := HO.tup (cs.map V.int)) nr
        exact ⟨r, cs, _, rfl, b2.trans (bG.trans (But.of sr)), (BG.same sr).mono (by omega), (M2.but bG B2).same sr, upd_same, fun z => BG.ne (z ▸ nr), low, asc, by omega⟩
    clear b2 B2 M2
    rintro σ H3 ⟨c, cs, v8, rfl, b3, B3, M3, hc3, cp, C5⟩
    have Cc : Cds (lonOf (setF z y)) cs := by rw [l5]; exact C5
    -- the length
    refine ⟨fun σ G => ∃ m : Nat, σ = [some (.ref p), some (.int (z : Int)), some (.ref it), some (.ref x), some (.ref c), some (.int (m : Int)), none, none, v8] ∧ m ≤ 40 ∧ But p H G ∧ BoxAt G p (n + 7) ∧ Mach C G x 5 12 it (setF z y) rs ∧ G c = some (.tup (cs.map V.int)), ?_, ?_⟩
    · refine ⟨_, rfl, p, 30, n + 6, rfl, B3, by omega, by decide, by decide, fun G2 d b4 B4 d0 d1 f4 => ⟨_, _, rfl, rfl, ?_⟩⟩
      obtain ⟨e, rfl⟩ : ∃ e : Nat, d = (e : Int) := ⟨d.toNat, by omega⟩
      exact ⟨8 + e, rfl, by omega, b3.trans b4, B4, M3.but b4 B3, b4 _ _ hc3 cp⟩
    clear b3 B3 M3 hc3
    rintro σ H4 ⟨m, rfl, m40, b4, B4, M4, hc4⟩
    -- told by names
    refine ⟨fun σ G => ∃ (l : Addr) (Z : Hp) (v1 v2 : V) (d1 d2 : PyData) (ns : List Int), σ = [some (.ref p), some (.int (z : Int)), some (.ref it), some (.ref x), some (.ref c), some (.int (m : Int)), some (.ref l), none, v8] ∧ Same H4 Z ∧ TL Z G l [v1, v2] [d1, d2] ∧ PadL (setF z y) ns ∧ Lens ns ∧ ConfD (gcdAll (ns.map Int.toNat)) cs d1 ∧ FLenD ns cs d2, ?_, ?_⟩
    · refine ⟨_, rfl, _, rfl, x, it, c, 5, 12, _, rs, cs, rfl, M4, SqT.of hc4, Cc, fun G1 v1 ns s1 PL Ln V1 => ⟨_, rfl, _, rfl, x, it, c, 5, 12, _, rs, cs, rfl, M4.same s1, SqT.of (s1 _ _ hc4), Cc, fun G2 v2 ns2 s2 PL2 Ln2 V2 => ⟨by show 2 ≤ sizeLine; decide, fun l nl => ?_⟩⟩⟩
      obtain rfl := PL2.uniq PL
      obtain ⟨d1, f1, c1⟩ := conf_fle V1
      obtain ⟨d2, f2, c2⟩ := flen_fle (H := G2) V2
      have x1 := same_upd (o := HO.lst [v1, v2]) nl
      exact ⟨l, G2, v1, v2, d1, d2, _, rfl, s1.trans s2, ⟨x1, nl, upd_same, .cons (f1.same (s2.trans x1)) (.cons (f2.same x1) .nil)⟩, PL, Ln, c1, c2⟩
    rintro σ H5 ⟨l, Z, v1, v2, d1, d2, ns, rfl, s5, L5, PL, Ln, c1, c2⟩
    have MZ := M4.same s5
    have hcZ := s5 _ _ hc4
    -- the lengths
    refine ⟨fun σ G => ∃ (v3 : V), σ = [some (.ref p), some (.int (z : Int)), some (.ref it), some (.ref x), some (.ref c), some (.int (m : Int)), some (.ref l), none, v8] ∧ TL Z G l [v1, v2, v3] [d1, d2, .tuple ((fitsI ns cs m).map .int)], ?_, ?_⟩
    · refine ⟨_, rfl, .inl ⟨rfl, _, SqL.of L5.at_⟩, _, rfl, _, rfl, _, rfl, x, it, c, 5, 12, _, rs, cs, m, rfl, by omega, MZ.same L5.base, SqT.of (L5.base _ _ hcZ), Cc, fun G1 r ns2 s1 nr PL2 Ln2 V3 => ?_⟩
      obtain rfl := PL2.uniq PL
      have L6 := L5.same s1
      exact ⟨l, _, _, rfl, rfl, L6.at_, by show 2 < sizeLine; decide, _, rfl, L6.push (fits_fle V3)⟩
    rintro σ H6 ⟨v3, rfl, L6⟩
    -- a filler of that length
    refine ⟨fun σ G => ∃ (v4 : V) (d4 : PyData), σ = [some (.ref p), some (.int (z : Int)), some (.ref it), some (.ref x), some (.ref c), some (.int (m : Int)), some (.ref l), none, v8] ∧ TL Z G l [v1, v2, v3, v4] [d1, d2, .tuple ((fitsI ns cs m).map .int), d4] ∧ FilD (setF z y) ns cs (some m) d4, ?_, ?_⟩
    · refine ⟨_, rfl, .inl ⟨rfl, _, SqL.of L6.at_⟩, _, rfl, _, rfl, _, rfl, x, it, c, 5, 12, _, rs, cs, optO (some m), rfl, .inr ⟨m, rfl, by omega⟩, MZ.same L6.base, SqT.of (L6.base _ _ hcZ), Cc, fun G1 v4 ns2 s1 PL2 Ln2 V4 => ?_⟩
      obtain rfl := PL2.uniq PL
      obtain ⟨d4, f4, c4⟩ := fil_fle V4
      have L7 := L6.same s1
      exact ⟨l, _, _, rfl, rfl, L7.at_, by show 3 < sizeLine; decide, _, d4, rfl, L7.push f4, c4⟩
    rintro σ H7 ⟨v4, d4, rfl, L7, c4⟩
    -- the shortest filler
    refine ⟨fun σ G => ∃ (v5 : V) (d5 : PyData), σ = [some (.ref p), some (.int (z : Int)), some (.ref it), some (.ref x), some (.ref c), some (.int (m : Int)), some (.ref l), none, v8] ∧ TL Z G l [v1, v2, v3, v4, v5] [d1, d2, .tuple ((fitsI ns cs m).map .int), d4, d5] ∧ FilD (setF z y) ns cs none d5, ?_, ?_⟩
    · refine ⟨_, rfl, .inl ⟨rfl, _, SqL.of L7.at_⟩, _, rfl, _, rfl, x, it, c, 5, 12, _, rs, cs, optO none, rfl, .inl rfl, MZ.same L7.base, SqT.of (L7.base _ _ hcZ), Cc, fun G1 v5 ns2 s1 PL2 Ln2 V5 => ?_⟩
      obtain rfl := PL2.uniq PL
      obtain ⟨d5, f5, c5⟩ := fil_fle V5
      have L8 := L7.same s1
      exact ⟨l, _, _, rfl, rfl, L8.at_, by show 4 < sizeLine; decide, _, d5, rfl, L8.push f5, c5⟩
    rintro σ H8 ⟨v5, d5, rfl, L8, c5⟩
    clear L5 L6 L7
    have M8 := MZ.same L8.base
    have hc8 := L8.base _ _ hcZ
    have b8 := b4.trans ((But.of s5).trans (But.of L8.base))
    have B8 := (B4.same s5).same L8.base
    -- due by position
    refine ⟨fun σ G => ∃ (l2 : Addr) (Y : Hp) (w1 w2 w3 w4 : V) , σ = [some (.ref p), some (.int (z : Int)), some (.ref it), some (.ref x), some (.ref c), some (.int (m : Int)), some (.ref l), some (.ref l2), v8] ∧ Same H8 Y ∧ TL Y G l2 [w1, w2, w3, w4] [d1, d2, .tuple ((fitsI ns cs m).map .int), d4], ?_, ?_⟩
    · refine ⟨_, rfl, _, rfl, x, it, c, 5, 12, _, rs, cs, rfl, M8, SqT.of hc8, Cc, fun G1 w1 n1 s1 P1 N1 V1 => ?_⟩
      obtain rfl := P1.uniq PL
      refine ⟨_, rfl, _, rfl, x, it, c, 5, 12, _, rs, cs, rfl, M8.same s1, SqT.of (s1 _ _ hc8), Cc, fun G2 w2 n2 s2 P2 N2 V2 => ?_⟩
      obtain rfl := P2.uniq PL
      refine ⟨_, rfl, _, rfl, _, rfl, x, it, c, 5, 12, _, rs, cs, m, rfl, by omega, (M8.same s1).same s2, SqT.of (s2 _ _ (s1 _ _ hc8)), Cc, fun G3 r n3 s3 nr P3 N3 V3 => ?_⟩
      obtain rfl := P3.uniq PL
      refine ⟨_, rfl, _, rfl, _, rfl, x, it, c, 5, 12, _, rs, cs, optO (some m), rfl, .inr ⟨m, rfl, by omega⟩, ((M8.same s1).same s2).same s3, SqT.of (s3 _ _ (s2 _ _ (s1 _ _ hc8))), Cc, fun G4 w4 n4 s4 P4 N4 V4 => ⟨by show 4 ≤ sizeLine; decide, fun l2 nl2 => ?_⟩⟩
      obtain rfl := P4.uniq PL
      obtain ⟨e1, f1, g1⟩ := conf_fle V1
      obtain ⟨e2, f2, g2⟩ := flen_fle (H := G2) V2
      obtain ⟨e4, f4, g4⟩ := fil_fle V4
      obtain rfl := g1.one c1
      obtain rfl := g2.one c2
      obtain rfl := g4.one c4
      have x5 := same_upd (o := HO.lst [w1, w2, V.ref r, w4]) nl2
      exact ⟨l2, G4, w1, w2, .ref r, w4, rfl, s1.trans (s2.trans (s3.trans s4)), ⟨x5, nl2, upd_same, .cons (f1.same (s2.trans (s3.trans (s4.trans x5)))) (.cons (f2.same (s3.trans (s4.trans x5))) (.cons ((fits_fle V3).same (s4.trans x5)) (.cons (f4.same x5) .nil)))⟩⟩
    rintro σ H9 ⟨l2, Y, w1, w2, w3, w4, rfl, s9, L9⟩
    have sY := s9.trans L9.base
    refine ⟨fun σ G => ∃ (w5 : V), σ = [some (.ref p), some (.int (z : Int)), some (.ref it), some (.ref x), some (.ref c), some (.int (m : Int)), some (.ref l), some (.ref l2), v8] ∧ TL Y G l2 [w1, w2, w3, w4, w5] [d1, d2, .tuple ((fitsI ns cs m).map .int), d4, d5], ?_, ?_⟩
    · refine ⟨_, rfl, .inl ⟨rfl, _, SqL.of L9.at_⟩, _, rfl, _, rfl, x, it, c, 5, 12, _, rs, cs, optO none, rfl, .inl rfl, M8.same sY, SqT.of (sY _ _ hc8), Cc, fun G1 w5 n5 s1 P5 N5 V5 => ?_⟩
      obtain rfl := P5.uniq PL
      obtain ⟨e5, f5, g5⟩ := fil_fle V5
      obtain rfl := g5.one c5
      have L10 := L9.same s1
      exact ⟨l2, _, _, rfl, rfl, L10.at_, by show 4 < sizeLine; decide, _, rfl, L10.push f5⟩
    clear L9 sY
    rintro σ H10 ⟨w5, rfl, L10⟩
    have sT := s9.trans L10.base
    have LT := L8.same sT
    have x180 : ∀ n : Nat, (none : Option Nat) = some n → n ≤ 180 := fun n e => nomatch e
    have S5 : Shows (.list [d1, d2, .tuple ((fitsI ns cs m).map .int), d4, d5]) :=
      (Ok36A.cons (c1.ok C5 (by decide)) (Ok36A.cons ((c2.ok ok PL Ln Cc).mono (by decide) (Nat.le_refl _)) (Ok36A.cons (fits_ok (by omega)) (Ok36A.cons (c4.ok ok PL Ln Cc (fun n e => by cases e; omega)) (Ok36A.cons (c5.ok ok PL Ln Cc x180) (Ok36A.nil (N := 0))))))).lst.shows (by decide) (by decide)
    -- the same
    refine ⟨fun σ G => σ = [some (.ref p), some (.int (z : Int)), some (.ref it), some (.ref x), some (.ref c), some (.int (m : Int)), some (.ref l), some (.ref l2), v8] ∧ Same H10 G, ?_, ?_⟩
    · refine ⟨_, rfl, _, _, rfl, .lst (SqL.of LT.at_) LT.all.dx, S5, _, rfl, _, _, rfl, .lst (SqL.of L10.at_) L10.all.dx, S5, rfl, _, rfl, ?_⟩
      rw [decide_eq_true rfl]
      exact iteF ⟨rfl, Same.refl _⟩
    rintro σ H11 ⟨rfl, s11⟩
    have L11 := LT.same s11
    have M11 := (M8.same sT).same s11
    have hc11 := s11 _ _ (sT _ _ hc8)
    have F5 := c5.fill ok PL Ln Cc x180
    have E5 : FlE H11 v5 d5 := by
      cases L11.all with
      | cons _ h => cases h with | cons _ h => cases h with | cons _ h => cases h with | cons _ h => cases h with | cons e _ => exact e
    refine ⟨_, rfl, _, rfl, l, _, _, v5, rfl, rfl, SqL.of L11.at_, atI_last [v1, v2, v3, v4] v5, _, rfl, _, rfl, x, it, c, 5, 12, _, rs, cs, v5, d5, rfl, M11, SqT.of hc11, Cc, E5.dx, F5.2, fun H12 b s12 hb => ?_⟩
    refine ⟨_, rfl, _, rfl, l, _, _, v5, rfl, rfl, SqL.of (s12 _ _ L11.at_), atI_last [v1, v2, v3, v4] v5, rfl, rfl, ?_⟩
    have e : decide (V.bl b = V.bl (!decide (v5 = V.non))) = true := by
      refine decide_eq_true (congrArg V.bl ?_)
      by_cases z : v5 = .non
      · rw [decide_eq_true z]
        cases b with
        | false => rfl
        | true => exact absurd (E5.non.mp z) (F5.1.mp (hb.mp rfl))
      · rw [decide_eq_false z]
        exact hb.mpr (F5.1.mpr fun y => z (E5.non.mpr y))
    rw [e]
    have all := sT.trans (s11.trans s12)
    exact q _ (b8.trans (But.of all)) ((B8.same all).mono (by omega))
end
end Ov
namespace Ov
open PySem PySem.Spec PyProof.Rows L2
section
variable {P : Program} {w : World} {K : PySem.W.Frag} {mg : Str → Option Value} {base : Heap}
/-! ### law -/
def spLaw (K : PySem.W.Frag) : Sp := fun vs H Q _ => ∃ (a : Addr) (ns : List Int), vs = [.ref a] ∧ SqL K H a (ns.map V.int) ∧ ns.length ≤ 63 ∧ ∀ H', Q (.bl true) H'
theorem scLaw : FnScope ["_law_script", "_law_k", "_law_box_here", "_law_size"] ["_law_script"] (defScope sLaw) := ⟨rfl, rfl, rfl, by decide +kernel, rfl, by decide +kernel, by decide +kernel⟩
theorem ok_law {f fB fT fA fF fS : Addr} {fd fdB fdT fdA fdF fdS : FuncData} {k : Nat} (F : Fun K "law" "law" sLaw f fd) (T : Bi mg)
    (B : Def K mg "_law_box" sBox fB fdB ["_law_script", "_law_k"]) (GB : FnOk P w K mg base CX0 k fB fdB ["_law_script", "_law_k"] (spBox K))
    (Tk : Def K mg "_law_take" sTake fT fdT ["_law_box_here", "_law_many"]) (GT : FnOk P w K mg base CX0 k fT fdT ["_law_box_here", "_law_many"] spTake)
    (A : Def K mg "_law_set_right" s_law_set_right fA fdA ["_law_size"]) (GA : FnOk P w K mg base CX0 k fA fdA ["_law_size"] spSetR)
    (Fr : Def K mg "_law_fillers_right" s_law_fillers_right fF fdF ["_law_box_here", "_law_size"]) (GF : FnG P w K mg base k fF fdF ["_law_box_here", "_law_size"] spFillR)
    (Sr : Def K mg "_law_sums_right" s_law_sums_right fS fdS ["_law_box_here"]) (GS : FnG P w K mg base k fS fdS ["_law_box_here"] spPartR) :
    FnG P w K mg base (k + 1) f fd ["_law_script"] (spLaw K) := by
  refine okG F scLaw (fun vs H Q E h => ?_) (fun cdv A' outer s H vs Q E gd hr h => ?_)
  · obtain ⟨a, ns, rfl, _⟩ := h
    rfl
  · obtain ⟨a, ns, rfl, hS, hlen, q⟩ := h
    refine ⟨_, pss_cons (ps_for PassesOwn.never rfl (pi_range1 (by rfl) T.range (pa_cons (pe_op op_add pe_int (pe_callB (call_min2 rfl) (by rfl) T.min (by decide +kernel) (pa_cons pe_int (pa_cons (pe_callB call_len_seq (by rfl) T.len PySem.boot_len (pa_cons (pv 0) pa_nil)) pa_nil)))) pa_nil)) (pg_name (i := 1) scLaw.nd rfl (.inl rfl))
        (pss_cons (ps_set (i := 2) scLaw.nd rfl (.inl rfl) (pe_call GB hr (by rfl) B.gl B.fn.kp B.bi .nil pass0 (pa_cons (pv 0) (pa_cons (pv 1) pa_nil))))
        (pss_cons (ps_set (i := 3) scLaw.nd rfl (.inl rfl) (pe_op op_add pe_int (pe_call GT hr (by rfl) Tk.gl Tk.fn.kp Tk.bi .nil pass0 (pa_cons (pv 2) (pa_cons pe_int pa_nil)))))
        (pss_one (ps_if (PW.pt (pw_or (pt_not (pt_val (pe_call GA hr (by rfl) A.gl A.fn.kp A.bi .nil pass0 (pa_cons (pv 3) pa_nil))))
            (pw_or (pt_not (pt_val (pe_callG GF gd hr (by rfl) Fr.gl Fr.fn.kp Fr.bi (pa_cons (pv 2) (pa_cons (pv 3) pa_nil))))) (pw_or1 (pt_not (pt_val (pe_callG GS gd hr (by rfl) Sr.gl Sr.fn.kp Sr.bi (pa_cons (pv 2) pa_nil))))))))
          (pss_one (ps_ret pe_bl)) pss_nil)))))
      (pss_one (ps_ret pe_bl)), ?_⟩
    refine ⟨_, rfl, a, _, rfl, .inl hS, _, _, rfl, _, _, rfl, rfl, _, rfl, ?_, ?_, for_range (lo := 0) (fun i σ H2 => ∃ y1 y2 y3, σ = [some (.ref a), y1, y2, y3] ∧ Same H H2)
      ⟨none, none, none, rfl, Same.refl _⟩ ?_ (fun σ H2 ⟨_, _, _, _, _⟩ => q H2)⟩
    · split <;> omega
    · split <;> omega
    rintro i σ H2 hi ⟨y1, y2, y3, rfl, s2⟩
    have hi4 : i < 4 := by
      revert hi
      split <;> omega
    refine ⟨_, rfl, _, rfl, a, ns, i, (by rw [Int.zero_add]; rfl), s2.seq hS, by omega, fun H3 p s3 np B3 => ?_⟩
    refine ⟨_, rfl, p, 3, 0, rfl, B3, by omega, by decide, by decide, fun H4 d b4 B4 d0 d1 f4 => ⟨_, _, rfl, rfl, ?_⟩⟩
    obtain ⟨e, rfl⟩ : ∃ e : Nat, d = (e : Int) := ⟨d.toNat, by omega⟩
    have es : (2 : Int) + (e : Int) = ((2 + e : Nat) : Int) := by omega
    refine ⟨_, rfl, 2 + e, congrArg (fun v => [V.int v]) es, by omega, by omega, fun H5 s5 => ⟨_, rfl, iteF ?_⟩⟩
    refine ⟨_, rfl, _, rfl, p, 1, 2 + e, congrArg (fun v => [V.ref p, V.int v]) es, B4.same s5, by decide, by omega, by omega, fun H6 b6 B6 => ⟨_, rfl, iteF ?_⟩⟩
    refine ⟨_, rfl, p, 21, rfl, B6, by decide, fun H7 b7 B7 f7 => ⟨_, rfl, iteF ?_⟩⟩
    have all := b4.trans ((But.of s5).trans (b6.trans b7))
    exact ⟨_, _, _, rfl, fun b o x => all b o (s3 b o (s2 b o x)) (ne_of_none (s2 b o x) np)⟩
end
end Ov
namespace Ov
open PySem PySem.Spec PyProof.Rows L2
theorem up {P : Program} {w : World} {K : PySem.W.Frag} {mg : Str → Option Value} {base : Heap} {CX : CXT} {k k' : Nat} {f : Addr} {fd : FuncData} {ps : List Str} {sp : Sp} (F : FnOk P w K mg base CX k f fd ps sp) (h : k ≤ k') : FnOk P w K mg base CX k' f fd ps sp := ⟨F.len, fun A outer s H args us vs Q E room => F.run A outer s H args us vs Q E (room.mono h)⟩
/-! ### what the top has written, and the law's own head -/
theorem all_mk {P : Program} {w : World} {K : PySem.W.Frag} {h : Heap} {mg : Str → Option Value} {fa f0 f1 f2 f3 f4 f5 f6 f7 f8 f9 f10 f11 f12 f13 f14 f15 f16 f17 f18 f19 f20 f21 f22 f23 f24 f25 f26 f27 f28 f29 f30 f31 f32 f33 f34 f35 f36 f37 f38 f39 f40 f41 : Addr} (X : K.In h) (G : h.Ns mainGlobals mg) (hfa : mg "law" = some (.ref fa))
    {od0 an0 od1 an1 od2 an2 od3 an3 od4 an4 od5 an5 od6 an6 od7 an7 od8 an8 od9 an9 od10 an10 od11 an11 od12 an12 od13 an13 od14 an14 od15 an15 od16 an16 od17 an17 od18 an18 od19 an19 od20 an20 od21 an21 od22 an22 od23 an23 od24 an24 od25 an25 od26 an26 od27 an27 od28 an28 od29 an29 od30 an30 od31 an31 od32 an32 od33 an33 od34 an34 od35 an35 od36 an36 od37 an37 od38 an38 od39 an39 od40 an40 od41 an41 : Option Addr} {sl0 sl1 sl2 sl3 sl4 sl5 sl6 sl7 sl8 sl9 sl10 sl11 sl12 sl13 sl14 sl15 sl16 sl17 sl18 sl19 sl20 sl21 sl22 sl23 sl24 sl25 sl26 sl27 sl28 sl29 sl30 sl31 sl32 sl33 sl34 sl35 sl36 sl37 sl38 sl39 sl40 sl41 : Array (Option Value)} {oc0 kV0 dc0 pm0 cd0 ct0 oc1 kV1 dc1 pm1 cd1 ct1 oc2 kV2 dc2 pm2 cd2 ct2 oc3 kV3 dc3 pm3 cd3 ct3 oc4 kV4 dc4 pm4 cd4 ct4 oc5 kV5 dc5 pm5 cd5 ct5 oc6 kV6 dc6 pm6 cd6 ct6 oc7 kV7 dc7 pm7 cd7 ct7 oc8 kV8 dc8 pm8 cd8 ct8 oc9 kV9 dc9 pm9 cd9 ct9 oc10 kV10 dc10 pm10 cd10 ct10 oc11 kV11 dc11 pm11 cd11 ct11 oc12 kV12 dc12 pm12 cd12 ct12 oc13 kV13 dc13 pm13 cd13 ct13 oc14 kV14 dc14 pm14 cd14 ct14 oc15 kV15 dc15 pm15 cd15 ct15 oc16 kV16 dc16 pm16 cd16 ct16 oc17 kV17 dc17 pm17 cd17 ct17 oc18 kV18 dc18 pm18 cd18 ct18 oc19 kV19 dc19 pm19 cd19 ct19 oc20 kV20 dc20 pm20 cd20 ct20 oc21 kV21 dc21 pm21 cd21 ct21 oc22 kV22 dc22 pm22 cd22 ct22 oc23 kV23 dc23 pm23 cd23 ct23 oc24 kV24 dc24 pm24 cd24 ct24 oc25 kV25 dc25 pm25 cd25 ct25 oc26 kV26 dc26 pm26 cd26 ct26 oc27 kV27 dc27 pm27 cd27 ct27 oc28 kV28 dc28 pm28 cd28 ct28 oc29 kV29 dc29 pm29 cd29 ct29 oc30 kV30 dc30 pm30 cd30 ct30 oc31 kV31 dc31 pm31 cd31 ct31 oc32 kV32 dc32 pm32 cd32 ct32 oc33 kV33 dc33 pm33 cd33 ct33 oc34 kV34 dc34 pm34 cd34 ct34 oc35 kV35 dc35 pm35 cd35 ct35 oc36 kV36 dc36 pm36 cd36 ct36 oc37 kV37 dc37 pm37 cd37 ct37 oc38 kV38 dc38 pm38 cd38 ct38 oc39 kV39 dc39 pm39 cd39 ct39 oc40 kV40 dc40 pm40 cd40 ct40 oc41 kV41 dc41 pm41 cd41 ct41 : Value}
    {tk0 tk1 tk2 tk3 tk4 tk5 : Tok}
    (a0 : PySem.W.nsIn K mainGlobals "is_integer" = some (some (.ref f0))) (l0 : K.lookup f0 = some ⟨oc0, od0, .func (PySem.W.fnOf "is_integer" "is_integer" (defArgs sIsInt) (defBody sIsInt) (defScope sIsInt) .none kV0 dc0 pm0 an0 cd0 ct0), sl0⟩) (c0 : PySem.W.codeIn K cd0 "is_integer" = true) (k0 : PySem.W.keepIn K (.ref f0) = true)
    (a1 : PySem.W.nsIn K mainGlobals "is_integer_between" = some (some (.ref f1))) (l1 : K.lookup f1 = some ⟨oc1, od1, .func (PySem.W.fnOf "is_integer_between" "is_integer_between" (defArgs sBetween) (defBody sBetween) (defScope sBetween) .none kV1 dc1 pm1 an1 cd1 ct1), sl1⟩) (c1 : PySem.W.codeIn K cd1 "is_integer_between" = true) (k1 : PySem.W.keepIn K (.ref f1) = true)
    (a2 : PySem.W.nsIn K mainGlobals "is_ascending" = some (some (.ref f2))) (l2 : K.lookup f2 = some ⟨oc2, od2, .func (PySem.W.fnOf "is_ascending" "is_ascending" (defArgs sAscending) (defBody sAscending) (defScope sAscending) .none kV2 dc2 pm2 an2 cd2 ct2), sl2⟩) (c2 : PySem.W.codeIn K cd2 "is_ascending" = true) (k2 : PySem.W.keepIn K (.ref f2) = true)
    (a3 : PySem.W.nsIn K mainGlobals "is_name" = some (some (.ref f3))) (l3 : K.lookup f3 = some ⟨oc3, od3, .func (PySem.W.fnOf "is_name" "is_name" (defArgs sIsName) (defBody sIsName) (defScope sIsName) .none kV3 dc3 pm3 an3 cd3 ct3), sl3⟩) (c3 : PySem.W.codeIn K cd3 "is_name" = true) (k3 : PySem.W.keepIn K (.ref f3) = true)
    (a4 : PySem.W.nsIn K mainGlobals "is_instruction" = some (some (.ref f4))) (l4 : K.lookup f4 = some ⟨oc4, od4, .func (PySem.W.fnOf "is_instruction" "is_instruction" (defArgs sIsInstr) (defBody sIsInstr) (defScope sIsInstr) .none kV4 dc4 pm4 an4 cd4 ct4), sl4⟩) (c4 : PySem.W.codeIn K cd4 "is_instruction" = true) (k4 : PySem.W.keepIn K (.ref f4) = true)
    (a5 : PySem.W.nsIn K mainGlobals "are_instructions" = some (some (.ref f5))) (l5 : K.lookup f5 = some ⟨oc5, od5, .func (PySem.W.fnOf "are_instructions" "are_instructions" (defArgs sAreInstr) (defBody sAreInstr) (defScope sAreInstr) .none kV5 dc5 pm5 an5 cd5 ct5), sl5⟩) (c5 : PySem.W.codeIn K cd5 "are_instructions" = true) (k5 : PySem.W.keepIn K (.ref f5) = true)
    (a6 : PySem.W.nsIn K mainGlobals "common_divisor" = some (some (.ref f6))) (l6 : K.lookup f6 = some ⟨oc6, od6, .func (PySem.W.fnOf "common_divisor" "common_divisor" (defArgs sCommon) (defBody sCommon) (defScope sCommon) .none kV6 dc6 pm6 an6 cd6 ct6), sl6⟩) (c6 : PySem.W.codeIn K cd6 "common_divisor" = true) (k6 : PySem.W.keepIn K (.ref f6) = true)
    (a7 : PySem.W.nsIn K mainGlobals "least_sums" = some (some (.ref f7))) (l7 : K.lookup f7 = some ⟨oc7, od7, .func (PySem.W.fnOf "least_sums" "least_sums" (defArgs sLeast) (defBody sLeast) (defScope sLeast) .none kV7 dc7 pm7 an7 cd7 ct7), sl7⟩) (c7 : PySem.W.codeIn K cd7 "least_sums" = true) (k7 : PySem.W.keepIn K (.ref f7) = true)
    (a8 : PySem.W.nsIn K mainGlobals "check_lengths" = some (some (.ref f8))) (l8 : K.lookup f8 = some ⟨oc8, od8, .func (PySem.W.fnOf "check_lengths" "check_lengths" (defArgs sCheck) (defBody sCheck) (defScope sCheck) .none kV8 dc8 pm8 an8 cd8 ct8), sl8⟩) (c8 : PySem.W.codeIn K cd8 "check_lengths" = true) (k8 : PySem.W.keepIn K (.ref f8) = true)
    (a9 : PySem.W.nsIn K mainGlobals "are_lengths" = some (some (.ref f9))) (l9 : K.lookup f9 = some ⟨oc9, od9, .func (PySem.W.fnOf "are_lengths" "are_lengths" (defArgs sAre) (defBody sAre) (defScope sAre) .none kV9 dc9 pm9 an9 cd9 ct9), sl9⟩) (c9 : PySem.W.codeIn K cd9 "are_lengths" = true) (k9 : PySem.W.keepIn K (.ref f9) = true)
    (a10 : PySem.W.nsIn K mainGlobals "divisor_of_two" = some (some (.ref f10))) (l10 : K.lookup f10 = some ⟨oc10, od10, .func (PySem.W.fnOf "divisor_of_two" "divisor_of_two" (defArgs sGcd) (defBody sGcd) (defScope sGcd) .none kV10 dc10 pm10 an10 cd10 ct10), sl10⟩) (c10 : PySem.W.codeIn K cd10 "divisor_of_two" = true) (k10 : PySem.W.keepIn K (.ref f10) = true)
    (a11 : PySem.W.nsIn K mainGlobals "with_length" = some (some (.ref f11))) (l11 : K.lookup f11 = some ⟨oc11, od11, .func (PySem.W.fnOf "with_length" "with_length" (defArgs sWith) (defBody sWith) (defScope sWith) .none kV11 dc11 pm11 an11 cd11 ct11), sl11⟩) (c11 : PySem.W.codeIn K cd11 "with_length" = true) (k11 : PySem.W.keepIn K (.ref f11) = true)
    (a12 : PySem.W.nsIn K mainGlobals "is_reached" = some (some (.ref f12))) (l12 : K.lookup f12 = some ⟨oc12, od12, .func (PySem.W.fnOf "is_reached" "is_reached" (defArgs sReached) (defBody sReached) (defScope sReached) .none kV12 dc12 pm12 an12 cd12 ct12), sl12⟩) (c12 : PySem.W.codeIn K cd12 "is_reached" = true) (k12 : PySem.W.keepIn K (.ref f12) = true)
    (a13 : PySem.W.nsIn K mainGlobals "is_sum" = some (some (.ref f13))) (l13 : K.lookup f13 = some ⟨oc13, od13, .func (PySem.W.fnOf "is_sum" "is_sum" (defArgs sIsSum) (defBody sIsSum) (defScope sIsSum) .none kV13 dc13 pm13 an13 cd13 ct13), sl13⟩) (c13 : PySem.W.codeIn K cd13 "is_sum" = true) (k13 : PySem.W.keepIn K (.ref f13) = true)
    (a14 : PySem.W.nsIn K mainGlobals "conductor" = some (some (.ref f14))) (l14 : K.lookup f14 = some ⟨oc14, od14, .func (PySem.W.fnOf "conductor" "conductor" (defArgs sConductor) (defBody sConductor) (defScope sConductor) .none kV14 dc14 pm14 an14 cd14 ct14), sl14⟩) (c14 : PySem.W.codeIn K cd14 "conductor" = true) (k14 : PySem.W.keepIn K (.ref f14) = true)
    (a15 : PySem.W.nsIn K mainGlobals "gap_count" = some (some (.ref f15))) (l15 : K.lookup f15 = some ⟨oc15, od15, .func (PySem.W.fnOf "gap_count" "gap_count" (defArgs sGap) (defBody sGap) (defScope sGap) .none kV15 dc15 pm15 an15 cd15 ct15), sl15⟩) (c15 : PySem.W.codeIn K cd15 "gap_count" = true) (k15 : PySem.W.keepIn K (.ref f15) = true)
    (a16 : PySem.W.nsIn K mainGlobals "sum_parts" = some (some (.ref f16))) (l16 : K.lookup f16 = some ⟨oc16, od16, .func (PySem.W.fnOf "sum_parts" "sum_parts" (defArgs sParts) (defBody sParts) (defScope sParts) .none kV16 dc16 pm16 an16 cd16 ct16), sl16⟩) (c16 : PySem.W.codeIn K cd16 "sum_parts" = true) (k16 : PySem.W.keepIn K (.ref f16) = true)
    (a17 : PySem.W.nsIn K mainGlobals "part_counts" = some (some (.ref f17))) (l17 : K.lookup f17 = some ⟨oc17, od17, .func (PySem.W.fnOf "part_counts" "part_counts" (defArgs sCounts) (defBody sCounts) (defScope sCounts) .none kV17 dc17 pm17 an17 cd17 ct17), sl17⟩) (c17 : PySem.W.codeIn K cd17 "part_counts" = true) (k17 : PySem.W.keepIn K (.ref f17) = true)
    (a18 : PySem.W.nsIn K mainGlobals "last_part" = some (some (.ref f18))) (l18 : K.lookup f18 = some ⟨oc18, od18, .func (PySem.W.fnOf "last_part" "last_part" (defArgs sLast) (defBody sLast) (defScope sLast) .none kV18 dc18 pm18 an18 cd18 ct18), sl18⟩) (c18 : PySem.W.codeIn K cd18 "last_part" = true) (k18 : PySem.W.keepIn K (.ref f18) = true)
    (a19 : PySem.W.nsIn K mainGlobals "walk" = some (some (.ref f19))) (l19 : K.lookup f19 = some ⟨oc19, od19, .func (PySem.W.fnOf "walk" "walk" (defArgs sWalk) (defBody sWalk) (defScope sWalk) .none kV19 dc19 pm19 an19 cd19 ct19), sl19⟩) (c19 : PySem.W.codeIn K cd19 "walk" = true) (k19 : PySem.W.keepIn K (.ref f19) = true)
    (a20 : PySem.W.nsIn K mainGlobals "is_code" = some (some (.ref f20))) (l20 : K.lookup f20 = some ⟨oc20, od20, .func (PySem.W.fnOf "is_code" "is_code" (defArgs sIsCode) (defBody sIsCode) (defScope sIsCode) .none kV20 dc20 pm20 an20 cd20 ct20), sl20⟩) (c20 : PySem.W.codeIn K cd20 "is_code" = true) (k20 : PySem.W.keepIn K (.ref f20) = true)
    (a21 : PySem.W.nsIn K mainGlobals "all_countdowns" = some (some (.ref f21))) (l21 : K.lookup f21 = some ⟨oc21, od21, .func (PySem.W.fnOf "all_countdowns" "all_countdowns" (defArgs s_all_countdowns) (defBody s_all_countdowns) (defScope s_all_countdowns) .none kV21 dc21 pm21 an21 cd21 ct21), sl21⟩) (c21 : PySem.W.codeIn K cd21 "all_countdowns" = true) (k21 : PySem.W.keepIn K (.ref f21) = true)
    (a22 : PySem.W.nsIn K mainGlobals "conflict" = some (some (.ref f22))) (l22 : K.lookup f22 = some ⟨oc22, od22, .func (PySem.W.fnOf "conflict" "conflict" (defArgs s_conflict) (defBody s_conflict) (defScope s_conflict) .none kV22 dc22 pm22 an22 cd22 ct22), sl22⟩) (c22 : PySem.W.codeIn K cd22 "conflict" = true) (k22 : PySem.W.keepIn K (.ref f22) = true)
    (a23 : PySem.W.nsIn K mainGlobals "filler_length" = some (some (.ref f23))) (l23 : K.lookup f23 = some ⟨oc23, od23, .func (PySem.W.fnOf "filler_length" "filler_length" (defArgs s_filler_length) (defBody s_filler_length) (defScope s_filler_length) .none kV23 dc23 pm23 an23 cd23 ct23), sl23⟩) (c23 : PySem.W.codeIn K cd23 "filler_length" = true) (k23 : PySem.W.keepIn K (.ref f23) = true)
    (a24 : PySem.W.nsIn K mainGlobals "filler_lengths" = some (some (.ref f24))) (l24 : K.lookup f24 = some ⟨oc24, od24, .func (PySem.W.fnOf "filler_lengths" "filler_lengths" (defArgs s_filler_lengths) (defBody s_filler_lengths) (defScope s_filler_lengths) .none kV24 dc24 pm24 an24 cd24 ct24), sl24⟩) (c24 : PySem.W.codeIn K cd24 "filler_lengths" = true) (k24 : PySem.W.keepIn K (.ref f24) = true)
    {dT25 : Addr} {xoc25 : Value} {xod25 : Option Addr} {xn25 : Nat} {xsl25 : Array (Option Value)}
    (a25 : PySem.W.nsIn K mainGlobals "filler" = some (some (.ref f25))) (l25 : K.lookup f25 = some ⟨oc25, od25, .func (PySem.W.fnOf "filler" "filler" (defArgs s_filler) (defBody s_filler) (defScope s_filler) (.ref dT25) kV25 dc25 pm25 an25 cd25 ct25), sl25⟩) (c25 : PySem.W.codeIn K cd25 "filler" = true) (k25 : PySem.W.keepIn K (.ref f25) = true)
    (ld25 : K.lookup dT25 = some ⟨xoc25, xod25, .seq #[.none] xn25, xsl25⟩)
    (a26 : PySem.W.nsIn K mainGlobals "is_filler" = some (some (.ref f26))) (l26 : K.lookup f26 = some ⟨oc26, od26, .func (PySem.W.fnOf "is_filler" "is_filler" (defArgs s_is_filler) (defBody s_is_filler) (defScope s_is_filler) .none kV26 dc26 pm26 an26 cd26 ct26), sl26⟩) (c26 : PySem.W.codeIn K cd26 "is_filler" = true) (k26 : PySem.W.keepIn K (.ref f26) = true)
    (a27 : PySem.W.nsIn K mainGlobals "check_countdowns" = some (some (.ref f27))) (l27 : K.lookup f27 = some ⟨oc27, od27, .func (PySem.W.fnOf "check_countdowns" "check_countdowns" (defArgs s_check_countdowns) (defBody s_check_countdowns) (defScope s_check_countdowns) .none kV27 dc27 pm27 an27 cd27 ct27), sl27⟩) (c27 : PySem.W.codeIn K cd27 "check_countdowns" = true) (k27 : PySem.W.keepIn K (.ref f27) = true)
    (a28 : PySem.W.nsIn K mainGlobals "are_countdowns" = some (some (.ref f28))) (l28 : K.lookup f28 = some ⟨oc28, od28, .func (PySem.W.fnOf "are_countdowns" "are_countdowns" (defArgs s_are_countdowns) (defBody s_are_countdowns) (defScope s_are_countdowns) .none kV28 dc28 pm28 an28 cd28 ct28), sl28⟩) (c28 : PySem.W.codeIn K cd28 "are_countdowns" = true) (k28 : PySem.W.keepIn K (.ref f28) = true)
    (a29 : PySem.W.nsIn K mainGlobals "are_congruent" = some (some (.ref f29))) (l29 : K.lookup f29 = some ⟨oc29, od29, .func (PySem.W.fnOf "are_congruent" "are_congruent" (defArgs s_are_congruent) (defBody s_are_congruent) (defScope s_are_congruent) .none kV29 dc29 pm29 an29 cd29 ct29), sl29⟩) (c29 : PySem.W.codeIn K cd29 "are_congruent" = true) (k29 : PySem.W.keepIn K (.ref f29) = true)
    (a30 : PySem.W.nsIn K mainGlobals "has_filler" = some (some (.ref f30))) (l30 : K.lookup f30 = some ⟨oc30, od30, .func (PySem.W.fnOf "has_filler" "has_filler" (defArgs s_has_filler) (defBody s_has_filler) (defScope s_has_filler) .none kV30 dc30 pm30 an30 cd30 ct30), sl30⟩) (c30 : PySem.W.codeIn K cd30 "has_filler" = true) (k30 : PySem.W.keepIn K (.ref f30) = true)
    (a31 : PySem.W.nsIn K mainGlobals "least_filler" = some (some (.ref f31))) (l31 : K.lookup f31 = some ⟨oc31, od31, .func (PySem.W.fnOf "least_filler" "least_filler" (defArgs s_least_filler) (defBody s_least_filler) (defScope s_least_filler) .none kV31 dc31 pm31 an31 cd31 ct31), sl31⟩) (c31 : PySem.W.codeIn K cd31 "least_filler" = true) (k31 : PySem.W.keepIn K (.ref f31) = true)
    (a32 : PySem.W.nsIn K mainGlobals "padding_instructions" = some (some (.ref f32))) (l32 : K.lookup f32 = some ⟨oc32, od32, .func (PySem.W.fnOf "padding_instructions" "padding_instructions" (defArgs s_padding_instructions) (defBody s_padding_instructions) (defScope s_padding_instructions) .none kV32 dc32 pm32 an32 cd32 ct32), sl32⟩) (c32 : PySem.W.codeIn K cd32 "padding_instructions" = true) (k32 : PySem.W.keepIn K (.ref f32) = true)
    (a33 : PySem.W.nsIn K mainGlobals "first_fitting" = some (some (.ref f33))) (l33 : K.lookup f33 = some ⟨oc33, od33, .func (PySem.W.fnOf "first_fitting" "first_fitting" (defArgs s_first_fitting) (defBody s_first_fitting) (defScope s_first_fitting) .none kV33 dc33 pm33 an33 cd33 ct33), sl33⟩) (c33 : PySem.W.codeIn K cd33 "first_fitting" = true) (k33 : PySem.W.keepIn K (.ref f33) = true)
    (a34 : PySem.W.nsIn K mainGlobals "is_padded_from" = some (some (.ref f34))) (l34 : K.lookup f34 = some ⟨oc34, od34, .func (PySem.W.fnOf "is_padded_from" "is_padded_from" (defArgs s_is_padded_from) (defBody s_is_padded_from) (defScope s_is_padded_from) .none kV34 dc34 pm34 an34 cd34 ct34), sl34⟩) (c34 : PySem.W.codeIn K cd34 "is_padded_from" = true) (k34 : PySem.W.keepIn K (.ref f34) = true)
    (a35 : PySem.W.nsIn K mainGlobals "_law_box" = some (some (.ref f35))) (l35 : K.lookup f35 = some ⟨oc35, od35, .func (PySem.W.fnOf "_law_box" "_law_box" (defArgs sBox) (defBody sBox) (defScope sBox) .none kV35 dc35 pm35 an35 cd35 ct35), sl35⟩) (c35 : PySem.W.codeIn K cd35 "_law_box" = true) (k35 : PySem.W.keepIn K (.ref f35) = true)
    (a36 : PySem.W.nsIn K mainGlobals "_law_take" = some (some (.ref f36))) (l36 : K.lookup f36 = some ⟨oc36, od36, .func (PySem.W.fnOf "_law_take" "_law_take" (defArgs sTake) (defBody sTake) (defScope sTake) .none kV36 dc36 pm36 an36 cd36 ct36), sl36⟩) (c36 : PySem.W.codeIn K cd36 "_law_take" = true) (k36 : PySem.W.keepIn K (.ref f36) = true)
    (a37 : PySem.W.nsIn K mainGlobals "_law_of" = some (some (.ref f37))) (l37 : K.lookup f37 = some ⟨oc37, od37, .func (PySem.W.fnOf "_law_of" "_law_of" (defArgs sOf) (defBody sOf) (defScope sOf) .none kV37 dc37 pm37 an37 cd37 ct37), sl37⟩) (c37 : PySem.W.codeIn K cd37 "_law_of" = true) (k37 : PySem.W.keepIn K (.ref f37) = true)
    (a38 : PySem.W.nsIn K mainGlobals "_law_set_right" = some (some (.ref f38))) (l38 : K.lookup f38 = some ⟨oc38, od38, .func (PySem.W.fnOf "_law_set_right" "_law_set_right" (defArgs s_law_set_right) (defBody s_law_set_right) (defScope s_law_set_right) .none kV38 dc38 pm38 an38 cd38 ct38), sl38⟩) (c38 : PySem.W.codeIn K cd38 "_law_set_right" = true) (k38 : PySem.W.keepIn K (.ref f38) = true)
    (a39 : PySem.W.nsIn K mainGlobals "_law_fillers_right" = some (some (.ref f39))) (l39 : K.lookup f39 = some ⟨oc39, od39, .func (PySem.W.fnOf "_law_fillers_right" "_law_fillers_right" (defArgs s_law_fillers_right) (defBody s_law_fillers_right) (defScope s_law_fillers_right) .none kV39 dc39 pm39 an39 cd39 ct39), sl39⟩) (c39 : PySem.W.codeIn K cd39 "_law_fillers_right" = true) (k39 : PySem.W.keepIn K (.ref f39) = true)
    (a40 : PySem.W.nsIn K mainGlobals "_law_sums_right" = some (some (.ref f40))) (l40 : K.lookup f40 = some ⟨oc40, od40, .func (PySem.W.fnOf "_law_sums_right" "_law_sums_right" (defArgs s_law_sums_right) (defBody s_law_sums_right) (defScope s_law_sums_right) .none kV40 dc40 pm40 an40 cd40 ct40), sl40⟩) (c40 : PySem.W.codeIn K cd40 "_law_sums_right" = true) (k40 : PySem.W.keepIn K (.ref f40) = true)
    (a41 : PySem.W.nsIn K mainGlobals "law" = some (some (.ref f41))) (l41 : K.lookup f41 = some ⟨oc41, od41, .func (PySem.W.fnOf "law" "law" (defArgs sLaw) (defBody sLaw) (defScope sLaw) .none kV41 dc41 pm41 an41 cd41 ct41), sl41⟩) (c41 : PySem.W.codeIn K cd41 "law" = true) (k41 : PySem.W.keepIn K (.ref f41) = true)
    {C0 m0_0 m0_1 m0_2 m0_3 m0_4 : Addr} {mod0_0 man0_0 mod0_1 man0_1 mod0_2 man0_2 mod0_3 man0_3 mod0_4 man0_4 : Option Addr} {msl0_0 msl0_1 msl0_2 msl0_3 msl0_4 : Array (Option Value)} {moc0_0 mkV0_0 mdc0_0 mpm0_0 mcd0_0 mct0_0 moc0_1 mkV0_1 mdc0_1 mpm0_1 mcd0_1 mct0_1 moc0_2 mkV0_2 mdc0_2 mpm0_2 mcd0_2 mct0_2 moc0_3 mkV0_3 mdc0_3 mpm0_3 mcd0_3 mct0_3 moc0_4 mkV0_4 mdc0_4 mpm0_4 mcd0_4 mct0_4 : Value}
    (clA0 : PySem.W.nsIn K mainGlobals "InstructionSet" = some (some (.ref C0)))
    (ma0_0 : PySem.W.findIn K (.ref C0) "__init__" = some (some (.ref m0_0))) (mi0_0 : PySem.W.isFn K (.ref m0_0) = true) (ml0_0 : K.lookup m0_0 = some ⟨moc0_0, mod0_0, .func (PySem.W.fnOf "__init__" "InstructionSet.__init__" (defArgs sInitI) (defBody sInitI) (defScope sInitI) .none mkV0_0 mdc0_0 mpm0_0 man0_0 mcd0_0 mct0_0), msl0_0⟩) (mc0_0 : PySem.W.codeIn K mcd0_0 "InstructionSet.__init__" = true) (mk0_0 : PySem.W.keepIn K (.ref m0_0) = true)
    (ma0_1 : PySem.W.findIn K (.ref C0) "longest" = some (some (.ref m0_1))) (mi0_1 : PySem.W.isFn K (.ref m0_1) = true) (ml0_1 : K.lookup m0_1 = some ⟨moc0_1, mod0_1, .func (PySem.W.fnOf "longest" "InstructionSet.longest" (defArgs sLongest) (defBody sLongest) (defScope sLongest) .none mkV0_1 mdc0_1 mpm0_1 man0_1 mcd0_1 mct0_1), msl0_1⟩) (mc0_1 : PySem.W.codeIn K mcd0_1 "InstructionSet.longest" = true) (mk0_1 : PySem.W.keepIn K (.ref m0_1) = true)
    (ma0_2 : PySem.W.findIn K (.ref C0) "padding_lengths" = some (some (.ref m0_2))) (mi0_2 : PySem.W.isFn K (.ref m0_2) = true) (ml0_2 : K.lookup m0_2 = some ⟨moc0_2, mod0_2, .func (PySem.W.fnOf "padding_lengths" "InstructionSet.padding_lengths" (defArgs sPadLens) (defBody sPadLens) (defScope sPadLens) .none mkV0_2 mdc0_2 mpm0_2 man0_2 mcd0_2 mct0_2), msl0_2⟩) (mc0_2 : PySem.W.codeIn K mcd0_2 "InstructionSet.padding_lengths" = true) (mk0_2 : PySem.W.keepIn K (.ref m0_2) = true)
    (ma0_3 : PySem.W.findIn K (.ref C0) "length_at" = some (some (.ref m0_3))) (mi0_3 : PySem.W.isFn K (.ref m0_3) = true) (ml0_3 : K.lookup m0_3 = some ⟨moc0_3, mod0_3, .func (PySem.W.fnOf "length_at" "InstructionSet.length_at" (defArgs sLenAt) (defBody sLenAt) (defScope sLenAt) .none mkV0_3 mdc0_3 mpm0_3 man0_3 mcd0_3 mct0_3), msl0_3⟩) (mc0_3 : PySem.W.codeIn K mcd0_3 "InstructionSet.length_at" = true) (mk0_3 : PySem.W.keepIn K (.ref m0_3) = true)
    (ma0_4 : PySem.W.findIn K (.ref C0) "opcode" = some (some (.ref m0_4))) (mi0_4 : PySem.W.isFn K (.ref m0_4) = true) (ml0_4 : K.lookup m0_4 = some ⟨moc0_4, mod0_4, .func (PySem.W.fnOf "opcode" "InstructionSet.opcode" (defArgs sOpc) (defBody sOpc) (defScope sOpc) .none mkV0_4 mdc0_4 mpm0_4 man0_4 mcd0_4 mct0_4), msl0_4⟩) (mc0_4 : PySem.W.codeIn K mcd0_4 "InstructionSet.opcode" = true) (mk0_4 : PySem.W.keepIn K (.ref m0_4) = true)
    (pg0 : PySem.W.plainGet K C0 Str.empty = true) (hd0 : PySem.W.hasDictIn K C0 = true) (po0 : PySem.W.plainOver K C0 = true) (sa0 : PySem.W.findIn K (.ref C0) "__setattr__" = some (some (.builtin "object.__setattr__"))) (mks0 : PySem.W.makesIn K C0 = true) (kc0 : PySem.W.keepIn K (.ref C0) = true)
    (na0_0 : PySem.W.findIn K (.ref C0) "byte_count" = some none)
    (na0_1 : PySem.W.findIn K (.ref C0) "instructions" = some none)
    (na0_2 : PySem.W.findIn K (.ref C0) "length_of_opcode" = some none)
    (na0_3 : PySem.W.findIn K (.ref C0) "opcode_of_name" = some none)
    (cst0 : PySem.W.nsIn K mainGlobals "LEAST_BYTE_COUNT" = some (some (.int 2 tk0)))
    (cst1 : PySem.W.nsIn K mainGlobals "MOST_BYTE_COUNT" = some (some (.int 256 tk1)))
    (cst2 : PySem.W.nsIn K mainGlobals "MOST_LETTERS" = some (some (.int 8 tk2)))
    (cst3 : PySem.W.nsIn K mainGlobals "MOST_LENGTH" = some (some (.int 12 tk3)))
    (cst4 : PySem.W.nsIn K mainGlobals "MOST_LENGTHS" = some (some (.int 50 tk4)))
    (cst5 : PySem.W.nsIn K mainGlobals "GREATEST_LENGTH" = some (some (.int 1000 tk5)))
    (bz0 : PySem.W.nsIn K mainGlobals "isinstance" = some none)
    (bz1 : PySem.W.nsIn K mainGlobals "int" = some none)
    (bz2 : PySem.W.nsIn K mainGlobals "bool" = some none)
    (bz3 : PySem.W.nsIn K mainGlobals "tuple" = some none)
    (bz4 : PySem.W.nsIn K mainGlobals "list" = some none)
    (bz5 : PySem.W.nsIn K mainGlobals "all" = some none)
    (bz6 : PySem.W.nsIn K mainGlobals "any" = some none)
    (bz7 : PySem.W.nsIn K mainGlobals "zip" = some none)
    (bz8 : PySem.W.nsIn K mainGlobals "len" = some none)
    (bz9 : PySem.W.nsIn K mainGlobals "range" = some none)
    (bz10 : PySem.W.nsIn K mainGlobals "abs" = some none)
    (bz11 : PySem.W.nsIn K mainGlobals "sorted" = some none)
    (bz12 : PySem.W.nsIn K mainGlobals "min" = some none)
    (bz13 : PySem.W.nsIn K mainGlobals "repr" = some none)
    (bz14 : PySem.W.nsIn K mainGlobals "max" = some none)
    (bz15 : PySem.W.nsIn K mainGlobals "sum" = some none)
    (bz16 : PySem.W.nsIn K mainGlobals "enumerate" = some none)
    (bz17 : PySem.W.nsIn K mainGlobals "str" = some none)
    (bz18 : PySem.W.nsIn K mainGlobals "set" = some none)
    (bz19 : PySem.W.nsIn K mainGlobals "dict" = some none)
    (bz20 : PySem.W.nsIn K mainGlobals "ValueError" = some none)
    : ∃ fd : FuncData, (∀ (s : Shared) (v : Value), BindsTo s fd ⟨[v], []⟩ [("_law_script", v)]) ∧ ∀ base : Heap, K.In base → base.Ns mainGlobals mg → FnG P w K mg base 10 fa fd ["_law_script"] (spLaw K) := by
  have e := hfa.symm.trans (PySem.W.mg_of X G a41)
  cases e
  have T : Bi mg := ⟨PySem.W.mg_none_of X G bz0, PySem.W.mg_none_of X G bz1, PySem.W.mg_none_of X G bz2, PySem.W.mg_none_of X G bz3, PySem.W.mg_none_of X G bz4, PySem.W.mg_none_of X G bz5, PySem.W.mg_none_of X G bz6, PySem.W.mg_none_of X G bz7, PySem.W.mg_none_of X G bz8, PySem.W.mg_none_of X G bz9, PySem.W.mg_none_of X G bz10, PySem.W.mg_none_of X G bz11, PySem.W.mg_none_of X G bz12, PySem.W.mg_none_of X G bz13, PySem.W.mg_none_of X G bz14, PySem.W.mg_none_of X G bz15, PySem.W.mg_none_of X G bz16, PySem.W.mg_none_of X G bz17, PySem.W.mg_none_of X G bz18, PySem.W.mg_none_of X G bz19, PySem.W.mg_none_of X G bz20⟩
  have FIz := fun_mk (st := sIsInt) l0 c0 k0
  have DIz : Def K mg "is_integer" sIsInt f0 _ ["value"] := ⟨FIz, PySem.W.mg_of X G a0, FIz.binds (ps := ["value"]) fun _ _ _ _ _ _ us hl => match us, hl with | [_], _ => rfl⟩
  have FBt := fun_mk (st := sBetween) l1 c1 k1
  have DBt : Def K mg "is_integer_between" sBetween f1 _ ["value", "least", "most"] := ⟨FBt, PySem.W.mg_of X G a1, FBt.binds (ps := ["value", "least", "most"]) fun _ _ _ _ _ _ us hl => match us, hl with | [_, _, _], _ => rfl⟩
  have FAs := fun_mk (st := sAscending) l2 c2 k2
  have DAs : Def K mg "is_ascending" sAscending f2 _ ["numbers"] := ⟨FAs, PySem.W.mg_of X G a2, FAs.binds (ps := ["numbers"]) fun _ _ _ _ _ _ us hl => match us, hl with | [_], _ => rfl⟩
  have FNm := fun_mk (st := sIsName) l3 c3 k3
  have DNm : Def K mg "is_name" sIsName f3 _ ["value"] := ⟨FNm, PySem.W.mg_of X G a3, FNm.binds (ps := ["value"]) fun _ _ _ _ _ _ us hl => match us, hl with | [_], _ => rfl⟩
  have FIn := fun_mk (st := sIsInstr) l4 c4 k4
  have DIn : Def K mg "is_instruction" sIsInstr f4 _ ["byte_count", "value"] := ⟨FIn, PySem.W.mg_of X G a4, FIn.binds (ps := ["byte_count", "value"]) fun _ _ _ _ _ _ us hl => match us, hl with | [_, _], _ => rfl⟩
  have FAI := fun_mk (st := sAreInstr) l5 c5 k5
  have DAI : Def K mg "are_instructions" sAreInstr f5 _ ["byte_count", "value"] := ⟨FAI, PySem.W.mg_of X G a5, FAI.binds (ps := ["byte_count", "value"]) fun _ _ _ _ _ _ us hl => match us, hl with | [_, _], _ => rfl⟩
  have FCo := fun_mk (st := sCommon) l6 c6 k6
  have DCo : Def K mg "common_divisor" sCommon f6 _ ["lengths"] := ⟨FCo, PySem.W.mg_of X G a6, FCo.binds (ps := ["lengths"]) fun _ _ _ _ _ _ us hl => match us, hl with | [_], _ => rfl⟩
  have FLe := fun_mk (st := sLeast) l7 c7 k7
  have DLe : Def K mg "least_sums" sLeast f7 _ ["lengths"] := ⟨FLe, PySem.W.mg_of X G a7, FLe.binds (ps := ["lengths"]) fun _ _ _ _ _ _ us hl => match us, hl with | [_], _ => rfl⟩
  have FCh := fun_mk (st := sCheck) l8 c8 k8
  have DCh : Def K mg "check_lengths" sCheck f8 _ ["lengths"] := ⟨FCh, PySem.W.mg_of X G a8, FCh.binds (ps := ["lengths"]) fun _ _ _ _ _ _ us hl => match us, hl with | [_], _ => rfl⟩
  have FAr := fun_mk (st := sAre) l9 c9 k9
  have DAr : Def K mg "are_lengths" sAre f9 _ ["value"] := ⟨FAr, PySem.W.mg_of X G a9, FAr.binds (ps := ["value"]) fun _ _ _ _ _ _ us hl => match us, hl with | [_], _ => rfl⟩
  have FGc := fun_mk (st := sGcd) l10 c10 k10
  have DGc : Def K mg "divisor_of_two" sGcd f10 _ ["first", "second"] := ⟨FGc, PySem.W.mg_of X G a10, FGc.binds (ps := ["first", "second"]) fun _ _ _ _ _ _ us hl => match us, hl with | [_, _], _ => rfl⟩
  have FWi := fun_mk (st := sWith) l11 c11 k11
  have DWi : Def K mg "with_length" sWith f11 _ ["least", "length"] := ⟨FWi, PySem.W.mg_of X G a11, FWi.binds (ps := ["least", "length"]) fun _ _ _ _ _ _ us hl => match us, hl with | [_, _], _ => rfl⟩
  have FRe := fun_mk (st := sReached) l12 c12 k12
  have DRe : Def K mg "is_reached" sReached f12 _ ["least", "total"] := ⟨FRe, PySem.W.mg_of X G a12, FRe.binds (ps := ["least", "total"]) fun _ _ _ _ _ _ us hl => match us, hl with | [_, _], _ => rfl⟩
  have FIs := fun_mk (st := sIsSum) l13 c13 k13
  have DIs : Def K mg "is_sum" sIsSum f13 _ ["lengths", "total"] := ⟨FIs, PySem.W.mg_of X G a13, FIs.binds (ps := ["lengths", "total"]) fun _ _ _ _ _ _ us hl => match us, hl with | [_, _], _ => rfl⟩
  have FCd := fun_mk (st := sConductor) l14 c14 k14
  have DCd : Def K mg "conductor" sConductor f14 _ ["lengths"] := ⟨FCd, PySem.W.mg_of X G a14, FCd.binds (ps := ["lengths"]) fun _ _ _ _ _ _ us hl => match us, hl with | [_], _ => rfl⟩
  have FGa := fun_mk (st := sGap) l15 c15 k15
  have DGa : Def K mg "gap_count" sGap f15 _ ["lengths"] := ⟨FGa, PySem.W.mg_of X G a15, FGa.binds (ps := ["lengths"]) fun _ _ _ _ _ _ us hl => match us, hl with | [_], _ => rfl⟩
  have FSp := fun_mk (st := sParts) l16 c16 k16
  have DSp : Def K mg "sum_parts" sParts f16 _ ["lengths", "total"] := ⟨FSp, PySem.W.mg_of X G a16, FSp.binds (ps := ["lengths", "total"]) fun _ _ _ _ _ _ us hl => match us, hl with | [_, _], _ => rfl⟩
  have FPC := fun_mk (st := sCounts) l17 c17 k17
  have DPC : Def K mg "part_counts" sCounts f17 _ ["lengths", "least", "reached"] := ⟨FPC, PySem.W.mg_of X G a17, FPC.binds (ps := ["lengths", "least", "reached"]) fun _ _ _ _ _ _ us hl => match us, hl with | [_, _, _], _ => rfl⟩
  have FLp := fun_mk (st := sLast) l18 c18 k18
  have DLp : Def K mg "last_part" sLast f18 _ ["lengths", "least", "reached"] := ⟨FLp, PySem.W.mg_of X G a18, FLp.binds (ps := ["lengths", "least", "reached"]) fun _ _ _ _ _ _ us hl => match us, hl with | [_, _, _], _ => rfl⟩
  have FWa := fun_mk (st := sWalk) l19 c19 k19
  have DWa : Def K mg "walk" sWalk f19 _ ["instruction_set", "code", "entry"] := ⟨FWa, PySem.W.mg_of X G a19, FWa.binds (ps := ["instruction_set", "code", "entry"]) fun _ _ _ _ _ _ us hl => match us, hl with | [_, _, _], _ => rfl⟩
  have FIc := fun_mk (st := sIsCode) l20 c20 k20
  have DIc : Def K mg "is_code" sIsCode f20 _ ["instruction_set", "value"] := ⟨FIc, PySem.W.mg_of X G a20, FIc.binds (ps := ["instruction_set", "value"]) fun _ _ _ _ _ _ us hl => match us, hl with | [_, _], _ => rfl⟩
  have FAcF := fun_mk (st := s_all_countdowns) l21 c21 k21
  have DAcF : Def K mg "all_countdowns" s_all_countdowns f21 _ ["instruction_set"] := ⟨FAcF, PySem.W.mg_of X G a21, FAcF.binds (ps := ["instruction_set"]) fun _ _ _ _ _ _ us hl => match us, hl with | [_], _ => rfl⟩
  have FCfF := fun_mk (st := s_conflict) l22 c22 k22
  have DCfF : Def K mg "conflict" s_conflict f22 _ ["instruction_set", "countdowns"] := ⟨FCfF, PySem.W.mg_of X G a22, FCfF.binds (ps := ["instruction_set", "countdowns"]) fun _ _ _ _ _ _ us hl => match us, hl with | [_, _], _ => rfl⟩
  have FFlF := fun_mk (st := s_filler_length) l23 c23 k23
  have DFlF : Def K mg "filler_length" s_filler_length f23 _ ["instruction_set", "countdowns"] := ⟨FFlF, PySem.W.mg_of X G a23, FFlF.binds (ps := ["instruction_set", "countdowns"]) fun _ _ _ _ _ _ us hl => match us, hl with | [_, _], _ => rfl⟩
  have FFlsF := fun_mk (st := s_filler_lengths) l24 c24 k24
  have DFlsF : Def K mg "filler_lengths" s_filler_lengths f24 _ ["instruction_set", "countdowns", "most"] := ⟨FFlsF, PySem.W.mg_of X G a24, FFlsF.binds (ps := ["instruction_set", "countdowns", "most"]) fun _ _ _ _ _ _ us hl => match us, hl with | [_, _, _], _ => rfl⟩
  have FFiF : FunD K "filler" "filler" (defArgs s_filler) (defBody s_filler) (defScope s_filler) [.non] [] f25 _ := ⟨⟨_, _, .ref dT25, _, _, _, _, _, _, _, rfl, l25, c25, .inr ⟨by simp, dT25, _, [.none], _, rfl, ld25, rfl, .cons rfl (.nil)⟩, .inl rfl⟩, k25⟩
  obtain ⟨dsFiF_0, vFiF_0, bFiF_0⟩ := FFiF.binds1 (ps := ["instruction_set", "countdowns", "length"]) 2 0 (by simp) rfl (fun T kV doc pm an cdv ct us its h1 h2 => match us, its, h1, h2 with | [_, _], [_], _, _ => ⟨_, rfl, rfl⟩)
  obtain ⟨dsFiF_1, vFiF_1, bFiF_1⟩ := FFiF.binds1 (ps := ["instruction_set", "countdowns", "length"]) 3 1 (by simp) rfl (fun T kV doc pm an cdv ct us its h1 h2 => match us, its, h1, h2 with | [_, _, _], [_], _, _ => ⟨_, rfl, rfl⟩)
  cases vFiF_1
  have gFiF := PySem.W.mg_of X G a25
  have FIfF := fun_mk (st := s_is_filler) l26 c26 k26
  have DIfF : Def K mg "is_filler" s_is_filler f26 _ ["instruction_set", "countdowns", "value"] := ⟨FIfF, PySem.W.mg_of X G a26, FIfF.binds (ps := ["instruction_set", "countdowns", "value"]) fun _ _ _ _ _ _ us hl => match us, hl with | [_, _, _], _ => rfl⟩
  have FCkF := fun_mk (st := s_check_countdowns) l27 c27 k27
  have DCkF : Def K mg "check_countdowns" s_check_countdowns f27 _ ["instruction_set", "countdowns"] := ⟨FCkF, PySem.W.mg_of X G a27, FCkF.binds (ps := ["instruction_set", "countdowns"]) fun _ _ _ _ _ _ us hl => match us, hl with | [_, _], _ => rfl⟩
  have FArF := fun_mk (st := s_are_countdowns) l28 c28 k28
  have DArF : Def K mg "are_countdowns" s_are_countdowns f28 _ ["instruction_set", "value"] := ⟨FArF, PySem.W.mg_of X G a28, FArF.binds (ps := ["instruction_set", "value"]) fun _ _ _ _ _ _ us hl => match us, hl with | [_, _], _ => rfl⟩
  have FCgF := fun_mk (st := s_are_congruent) l29 c29 k29
  have DCgF : Def K mg "are_congruent" s_are_congruent f29 _ ["first", "second", "divisor"] := ⟨FCgF, PySem.W.mg_of X G a29, FCgF.binds (ps := ["first", "second", "divisor"]) fun _ _ _ _ _ _ us hl => match us, hl with | [_, _, _], _ => rfl⟩
  have FHsF := fun_mk (st := s_has_filler) l30 c30 k30
  have DHsF : Def K mg "has_filler" s_has_filler f30 _ ["least", "countdowns", "length"] := ⟨FHsF, PySem.W.mg_of X G a30, FHsF.binds (ps := ["least", "countdowns", "length"]) fun _ _ _ _ _ _ us hl => match us, hl with | [_, _, _], _ => rfl⟩
  have FLfF := fun_mk (st := s_least_filler) l31 c31 k31
  have DLfF : Def K mg "least_filler" s_least_filler f31 _ ["padding", "least", "countdowns", "length"] := ⟨FLfF, PySem.W.mg_of X G a31, FLfF.binds (ps := ["padding", "least", "countdowns", "length"]) fun _ _ _ _ _ _ us hl => match us, hl with | [_, _, _, _], _ => rfl⟩
  have FPiF := fun_mk (st := s_padding_instructions) l32 c32 k32
  have DPiF : Def K mg "padding_instructions" s_padding_instructions f32 _ ["instruction_set"] := ⟨FPiF, PySem.W.mg_of X G a32, FPiF.binds (ps := ["instruction_set"]) fun _ _ _ _ _ _ us hl => match us, hl with | [_], _ => rfl⟩
  have FFfF := fun_mk (st := s_first_fitting) l33 c33 k33
  have DFfF : Def K mg "first_fitting" s_first_fitting f33 _ ["padding", "least", "left"] := ⟨FFfF, PySem.W.mg_of X G a33, FFfF.binds (ps := ["padding", "least", "left"]) fun _ _ _ _ _ _ us hl => match us, hl with | [_, _, _], _ => rfl⟩
  have FPfF := fun_mk (st := s_is_padded_from) l34 c34 k34
  have DPfF : Def K mg "is_padded_from" s_is_padded_from f34 _ ["instruction_set", "code", "entry"] := ⟨FPfF, PySem.W.mg_of X G a34, FPfF.binds (ps := ["instruction_set", "code", "entry"]) fun _ _ _ _ _ _ us hl => match us, hl with | [_, _, _], _ => rfl⟩
  have FBo := fun_mk (st := sBox) l35 c35 k35
  have DBo : Def K mg "_law_box" sBox f35 _ ["_law_script", "_law_k"] := ⟨FBo, PySem.W.mg_of X G a35, FBo.binds (ps := ["_law_script", "_law_k"]) fun _ _ _ _ _ _ us hl => match us, hl with | [_, _], _ => rfl⟩
  have FTa := fun_mk (st := sTake) l36 c36 k36
  have DTa : Def K mg "_law_take" sTake f36 _ ["_law_box_here", "_law_many"] := ⟨FTa, PySem.W.mg_of X G a36, FTa.binds (ps := ["_law_box_here", "_law_many"]) fun _ _ _ _ _ _ us hl => match us, hl with | [_, _], _ => rfl⟩
  have FOf := fun_mk (st := sOf) l37 c37 k37
  have DOf : Def K mg "_law_of" sOf f37 _ ["_law_box_here", "_law_some"] := ⟨FOf, PySem.W.mg_of X G a37, FOf.binds (ps := ["_law_box_here", "_law_some"]) fun _ _ _ _ _ _ us hl => match us, hl with | [_, _], _ => rfl⟩
  have FSR := fun_mk (st := s_law_set_right) l38 c38 k38
  have DSR : Def K mg "_law_set_right" s_law_set_right f38 _ ["_law_size"] := ⟨FSR, PySem.W.mg_of X G a38, FSR.binds (ps := ["_law_size"]) fun _ _ _ _ _ _ us hl => match us, hl with | [_], _ => rfl⟩
  have FFR := fun_mk (st := s_law_fillers_right) l39 c39 k39
  have DFR : Def K mg "_law_fillers_right" s_law_fillers_right f39 _ ["_law_box_here", "_law_size"] := ⟨FFR, PySem.W.mg_of X G a39, FFR.binds (ps := ["_law_box_here", "_law_size"]) fun _ _ _ _ _ _ us hl => match us, hl with | [_, _], _ => rfl⟩
  have FSuR := fun_mk (st := s_law_sums_right) l40 c40 k40
  have DSuR : Def K mg "_law_sums_right" s_law_sums_right f40 _ ["_law_box_here"] := ⟨FSuR, PySem.W.mg_of X G a40, FSuR.binds (ps := ["_law_box_here"]) fun _ _ _ _ _ _ us hl => match us, hl with | [_], _ => rfl⟩
  have FLa := fun_mk (st := sLaw) l41 c41 k41
  have FIi := fun_mk (st := sInitI) ml0_0 mc0_0 mk0_0
  have bIi := FIi.binds (ps := ["self", "byte_count", "instructions"]) fun _ _ _ _ _ _ us hl => match us, hl with | [_, _, _], _ => rfl
  have FLo := fun_mk (st := sLongest) ml0_1 mc0_1 mk0_1
  have bLo := FLo.binds (ps := ["self"]) fun _ _ _ _ _ _ us hl => match us, hl with | [_], _ => rfl
  have FPL := fun_mk (st := sPadLens) ml0_2 mc0_2 mk0_2
  have bPL := FPL.binds (ps := ["self"]) fun _ _ _ _ _ _ us hl => match us, hl with | [_], _ => rfl
  have FLA := fun_mk (st := sLenAt) ml0_3 mc0_3 mk0_3
  have bLA := FLA.binds (ps := ["self", "byte"]) fun _ _ _ _ _ _ us hl => match us, hl with | [_, _], _ => rfl
  have FOp := fun_mk (st := sOpc) ml0_4 mc0_4 mk0_4
  have bOp := FOp.binds (ps := ["self", "name"]) fun _ _ _ _ _ _ us hl => match us, hl with | [_, _], _ => rfl
  have CLb : ∃ t, mg "LEAST_BYTE_COUNT" = some (.int 2 t) := ⟨_, PySem.W.mg_of X G cst0⟩
  have CMb : ∃ t, mg "MOST_BYTE_COUNT" = some (.int 256 t) := ⟨_, PySem.W.mg_of X G cst1⟩
  have CMt : ∃ t, mg "MOST_LETTERS" = some (.int 8 t) := ⟨_, PySem.W.mg_of X G cst2⟩
  have CMn : ∃ t, mg "MOST_LENGTH" = some (.int 12 t) := ⟨_, PySem.W.mg_of X G cst3⟩
  have CMl : ∃ t, mg "MOST_LENGTHS" = some (.int 50 t) := ⟨_, PySem.W.mg_of X G cst4⟩
  have CGl : ∃ t, mg "GREATEST_LENGTH" = some (.int 1000 t) := ⟨_, PySem.W.mg_of X G cst5⟩
  have KCo : KBinds K (PySem.W.fnOf "common_divisor" "common_divisor" (defArgs sCommon) (defBody sCommon) (defScope sCommon) .none kV6 dc6 pm6 an6 cd6 ct6) ["lengths"] ["lengths"] one1 one1 := ⟨fun s us ws _ hl => by
      obtain ⟨x, rfl, rfl⟩ := one1_len hl
      exact .of_eq rfl, one1_rel⟩
  have KLe : KBinds K (PySem.W.fnOf "least_sums" "least_sums" (defArgs sLeast) (defBody sLeast) (defScope sLeast) .none kV7 dc7 pm7 an7 cd7 ct7) ["lengths"] ["lengths"] one1 one1 := ⟨fun s us ws _ hl => by
      obtain ⟨x, rfl, rfl⟩ := one1_len hl
      exact .of_eq rfl, one1_rel⟩
  have KCd : KBinds K (PySem.W.fnOf "conductor" "conductor" (defArgs sConductor) (defBody sConductor) (defScope sConductor) .none kV14 dc14 pm14 an14 cd14 ct14) ["lengths"] ["lengths"] one1 one1 := ⟨fun s us ws _ hl => by
      obtain ⟨x, rfl, rfl⟩ := one1_len hl
      exact .of_eq rfl, one1_rel⟩
  have KGa : KBinds K (PySem.W.fnOf "gap_count" "gap_count" (defArgs sGap) (defBody sGap) (defScope sGap) .none kV15 dc15 pm15 an15 cd15 ct15) ["lengths"] ["lengths"] one1 one1 := ⟨fun s us ws _ hl => by
      obtain ⟨x, rfl, rfl⟩ := one1_len hl
      exact .of_eq rfl, one1_rel⟩
  have KIs : KBinds K (PySem.W.fnOf "is_sum" "is_sum" (defArgs sIsSum) (defBody sIsSum) (defScope sIsSum) .none kV13 dc13 pm13 an13 cd13 ct13) ["lengths", "total"] ["total", "lengths"] swap2 swap2 := ⟨fun s us ws _ hl => by
      obtain ⟨x, y, rfl, rfl⟩ := swap2_len hl
      exact .of_eq rfl, swap2_rel⟩
  have KSp : KBinds K (PySem.W.fnOf "sum_parts" "sum_parts" (defArgs sParts) (defBody sParts) (defScope sParts) .none kV16 dc16 pm16 an16 cd16 ct16) ["lengths", "total"] ["total", "lengths"] swap2 swap2 := ⟨fun s us ws _ hl => by
      obtain ⟨x, y, rfl, rfl⟩ := swap2_len hl
      exact .of_eq rfl, swap2_rel⟩
  have KAc : KBinds K (PySem.W.fnOf "all_countdowns" "all_countdowns" (defArgs s_all_countdowns) (defBody s_all_countdowns) (defScope s_all_countdowns) .none kV21 dc21 pm21 an21 cd21 ct21) ["instruction_set"] ["instruction_set"] one1 one1 := ⟨fun s us ws _ hl => by
      obtain ⟨x, rfl, rfl⟩ := one1_len hl
      exact .of_eq rfl, one1_rel⟩
  have KIc : KBinds K (PySem.W.fnOf "is_code" "is_code" (defArgs sIsCode) (defBody sIsCode) (defScope sIsCode) .none kV20 dc20 pm20 an20 cd20 ct20) ["instruction_set", "value"] ["value", "instruction_set"] swap2 swap2 := ⟨fun s us ws _ hl => by
      obtain ⟨x, y, rfl, rfl⟩ := swap2_len hl
      exact .of_eq rfl, swap2_rel⟩
  have KCf : KBinds K (PySem.W.fnOf "conflict" "conflict" (defArgs s_conflict) (defBody s_conflict) (defScope s_conflict) .none kV22 dc22 pm22 an22 cd22 ct22) ["instruction_set", "countdowns"] ["countdowns", "instruction_set"] swap2 swap2 := ⟨fun s us ws _ hl => by
      obtain ⟨x, y, rfl, rfl⟩ := swap2_len hl
      exact .of_eq rfl, swap2_rel⟩
  have KFl : KBinds K (PySem.W.fnOf "filler_length" "filler_length" (defArgs s_filler_length) (defBody s_filler_length) (defScope s_filler_length) .none kV23 dc23 pm23 an23 cd23 ct23) ["instruction_set", "countdowns"] ["countdowns", "instruction_set"] swap2 swap2 := ⟨fun s us ws _ hl => by
      obtain ⟨x, y, rfl, rfl⟩ := swap2_len hl
      exact .of_eq rfl, swap2_rel⟩
  have KFs : KBinds K (PySem.W.fnOf "filler_lengths" "filler_lengths" (defArgs s_filler_lengths) (defBody s_filler_lengths) (defScope s_filler_lengths) .none kV24 dc24 pm24 an24 cd24 ct24) ["instruction_set", "countdowns", "most"] ["most", "countdowns", "instruction_set"] rev3 rev3 := ⟨fun s us ws _ hl => by
      obtain ⟨x, y, z, rfl, rfl⟩ := rev3_len hl
      exact .of_eq rfl, rev3_rel⟩
  have KIf : KBinds K (PySem.W.fnOf "is_filler" "is_filler" (defArgs s_is_filler) (defBody s_is_filler) (defScope s_is_filler) .none kV26 dc26 pm26 an26 cd26 ct26) ["instruction_set", "countdowns", "value"] ["value", "countdowns", "instruction_set"] rev3 rev3 := ⟨fun s us ws _ hl => by
      obtain ⟨x, y, z, rfl, rfl⟩ := rev3_len hl
      exact .of_eq rfl, rev3_rel⟩
  have KLA : KBinds K (PySem.W.fnOf "length_at" "InstructionSet.length_at" (defArgs sLenAt) (defBody sLenAt) (defScope sLenAt) .none mkV0_3 mdc0_3 mpm0_3 man0_3 mcd0_3 mct0_3) ["self", "byte"] ["byte"] self1 self1 := ⟨fun s us ws _ hl => by
      obtain ⟨x, y, rfl, rfl⟩ := self1_len hl
      exact .of_eq rfl, self1_rel⟩
  have KOp : KBinds K (PySem.W.fnOf "opcode" "InstructionSet.opcode" (defArgs sOpc) (defBody sOpc) (defScope sOpc) .none mkV0_4 mdc0_4 mpm0_4 man0_4 mcd0_4 mct0_4) ["self", "name"] ["name"] self1 self1 := ⟨fun s us ws _ hl => by
      obtain ⟨x, y, rfl, rfl⟩ := self1_len hl
      exact .of_eq rfl, self1_rel⟩
  have KI : KBn K (PySem.W.fnOf "__init__" "InstructionSet.__init__" (defArgs sInitI) (defBody sInitI) (defScope sInitI) .none mkV0_0 mdc0_0 mpm0_0 man0_0 mcd0_0 mct0_0) ["self", "byte_count", "instructions"] 1 ["instructions", "byte_count"] selfSwap selfSwap := ⟨fun s us ws _ hu hw => by
      match us, ws, hu, hw with
      | [x], [y, z], _, _ => exact .of_eq rfl, selfSwap_rel⟩
  refine ⟨PySem.W.fnOf "law" "law" (defArgs sLaw) (defBody sLaw) (defScope sLaw) .none kV41 dc41 pm41 an41 cd41 ct41, fun s v => .of_eq rfl, fun base _ _ => ?_⟩
  have S : SetTxt K mg C0 := ⟨⟨pg0, hd0, po0, sa0⟩, na0_0, na0_1, na0_2, na0_3, PySem.W.mg_of X G clA0⟩
  have GBt : FnOk P w K mg base CX0 2 _ _ ["value", "least", "most"] spBetween := ok_between FBt T DIz
  have GIn : FnOk P w K mg base CX0 3 _ _ ["byte_count", "value"] spInstr := ok_instr FIn T DBt GBt DNm CMt CMn
  have GAI : FnOk P w K mg base CX0 4 _ _ ["byte_count", "value"] spAreI := ok_areI FAI T DIn GIn DAs (ok_ascL FAs T)
  have GIi : FnOk P w K mg base CX0 5 _ _ ["self", "byte_count", "instructions"] (spInitI C0) := ok_initI FIi T S DBt (up GBt (by decide)) DAI GAI CLb CMb
  have GAr : FnOk P w K mg base CX0 3 _ _ ["value"] spAre := ok_are FAr T DBt GBt DAs CMl CGl
  have GCh : FnOk P w K mg base CX0 4 _ _ ["lengths"] spCheck := ok_check FCh DAr GAr
  have GWi : FnOk P w K mg base CX0 4 _ _ ["least", "length"] spWith := ok_with FWi T DGc
  have GLe : FnOk P w K mg base CX0 5 _ _ ["lengths"] spLeast := ok_least FLe T DCh GCh DWi GWi
  have GCo : FnOk P w K mg base CX0 5 _ _ ["lengths"] spCommon := ok_common FCo DCh GCh DGc
  have GLo : FnOk P w K mg base CX0 2 _ _ ["self"] (spLongest C0) := ok_longest FLo T S
  have GPL : FnOk P w K mg base CX0 2 _ _ ["self"] (spPadLens C0) := ok_padLens FPL T S
  have GAc : FnOk P w K mg base CX0 3 _ _ ["instruction_set", "value"] (spAreC K C0) := ok_areC FArF T S DBt GBt DAs (ok_ascending FAs T) ⟨ma0_1, mi0_1, mk0_1⟩ bLo GLo
  have GCk : FnOk P w K mg base CX0 4 _ _ ["instruction_set", "countdowns"] (spChkC K C0) := ok_chkC FCkF DArF GAc
  have GCf : FnOk P w K mg base CX0 6 _ _ ["instruction_set", "countdowns"] (spConf K C0) := ok_conf FCfF S DCkF (up GCk (by decide)) ⟨ma0_2, mi0_2, mk0_2⟩ bPL (up GPL (by decide)) DCo GCo DCgF (ok_cong FCgF)
  have GHs : FnOk P w K mg base CX0 2 _ _ ["least", "countdowns", "length"] (spHasF K) := ok_hasF FHsF T DRe (ok_reachI FRe T)
  have GFl : FnOk P w K mg base CX0 7 _ _ ["instruction_set", "countdowns"] (spFLen K C0) := ok_fLen FFlF S DCfF GCf ⟨ma0_2, mi0_2, mk0_2⟩ bPL (up GPL (by decide)) DLe (up GLe (by decide)) DHsF (up GHs (by decide))
  have GPi : FnOk P w K mg base CX0 2 _ _ ["instruction_set"] (spPadI C0) := ok_padI FPiF S
  have GFf : FnOk P w K mg base CX0 2 _ _ ["padding", "least", "left"] spFirst := ok_first FFfF DRe (ok_reachI FRe T)
  have GLf : FnOk P w K mg base CX0 3 _ _ ["padding", "least", "countdowns", "length"] (spLeastF K) := ok_leastF FLfF T DFfF GFf
  have GFi : FnOk P w K mg base CX0 8 _ _ ["instruction_set", "countdowns", "length"] (spFiller K C0) := ok_filler FFiF S DCkF (up GCk (by decide)) DFlF GFl ⟨ma0_2, mi0_2, mk0_2⟩ bPL (up GPL (by decide)) DLe (up GLe (by decide)) DHsF (up GHs (by decide)) DPiF (up GPi (by decide)) DLfF (up GLf (by decide))
  have GLA : FnOk P w K mg base CX0 2 _ _ ["self", "byte"] (spLenAt C0) := ok_lenAt FLA S
  have GOp : FnOk P w K mg base CX0 2 _ _ ["self", "name"] (spOpc K C0) := ok_opc FOp T S
  have GBx : FnOk P w K mg base CX0 2 _ _ ["value", "least", "most"] (spBetweenX K) := ok_betweenX FBt T DIz
  have GIc : FnOk P w K mg base CX0 3 _ _ ["instruction_set", "value"] (spIsCode K C0) := ok_isCode FIc T S DBt GBx
  have GWa : FnOk P w K mg base CX0 3 _ _ ["instruction_set", "code", "entry"] (spWalk K C0) := ok_walk FWa T S ⟨ma0_3, mi0_3, mk0_3⟩ bLA GLA
  have GPf : FnOk P w K mg base CX0 4 _ _ ["instruction_set", "code", "entry"] (spPadF K C0) := ok_padF FPfF T DPiF (up GPi (by decide)) DWa GWa
  have GIf : FnOk P w K mg base CX0 5 _ _ ["instruction_set", "countdowns", "value"] (spIsFX K C0) := ok_isFX FIfF T DCkF GCk DIc (up GIc (by decide)) DPfF GPf
  have GAl : FnOk P w K mg base CX0 3 _ _ ["instruction_set"] (spAllC C0) := ok_allC FAcF T S ⟨ma0_1, mi0_1, mk0_1⟩ bLo GLo
  have GFs : FnOk P w K mg base CX0 6 _ _ ["instruction_set", "countdowns", "most"] (spFLens K C0) := ok_fLens FFlsF T S DCkF (up GCk (by decide)) ⟨ma0_2, mi0_2, mk0_2⟩ bPL (up GPL (by decide)) DLe GLe DHsF (up GHs (by decide))
  have GRe : FnOk P w K mg base CX0 5 _ _ ["least", "total"] spReached := ok_reached FRe T
  have GIs : FnOk P w K mg base CX0 6 _ _ ["lengths", "total"] spIsSum := ok_issum FIs DRe GRe DLe GLe
  have GCd : FnOk P w K mg base CX0 6 _ _ ["lengths"] spCond := ok_cond FCd T DCo GCo DLe GLe
  have GGa : FnOk P w K mg base CX0 6 _ _ ["lengths"] spGap := ok_gap FGa T DCo GCo DLe GLe
  have GLp : FnOk P w K mg base CX0 4 _ _ ["lengths", "least", "reached"] (spLast K) := ok_last FLp T
  have GPC : FnOk P w K mg base CX0 5 _ _ ["lengths", "least", "reached"] (spCounts K) := ok_counts FPC T DLp GLp
  have GSp : FnOk P w K mg base CX0 6 _ _ ["lengths", "total"] (spPartsX K) := ok_partsW FSp T DLe GLe DRe GRe DPC GPC
  have GTa : FnOk P w K mg base CX0 1 _ _ ["_law_box_here", "_law_many"] spTake := ok_take FTa
  have GOf : FnOk P w K mg base CX0 2 _ _ ["_law_box_here", "_law_some"] spOf := ok_of FOf T DTa
  have GSR : FnOk P w K mg base CX0 7 _ _ ["_law_size"] spSetR := ok_setR (k := 5) FSR T S ⟨mks0, ma0_0, mi0_0, kc0⟩ GIi KI ⟨ma0_1, mi0_1, mk0_1⟩ bLo (up GLo (by decide)) ⟨ma0_3, mi0_3, mk0_3⟩ KLA (up GLA (by decide)) ⟨ma0_4, mi0_4, mk0_4⟩ KOp (up GOp (by decide)) DAcF (up GAl (by decide)) KAc DIc (up GIc (by decide)) KIc
  have GFR : FnG P w K mg base 9 _ _ ["_law_box_here", "_law_size"] spFillR := ok_fillR (k := 7) FFR T S ⟨mks0, ma0_0, mi0_0, kc0⟩ bIi (up GIi (by decide)) DOf (up GOf (by decide)) DTa (up GTa (by decide)) DCfF (up GCf (by decide)) KCf DFlF (up GFl (by decide)) KFl DFlsF (up GFs (by decide)) KFs gFiF FFiF.kp vFiF_0 bFiF_0 bFiF_1 (kb_fil FFiF) (kb_filD FFiF) (up GFi (by decide)) DIfF (up GIf (by decide)) KIf
  have GSuR : FnG P w K mg base 9 _ _ ["_law_box_here"] spPartR := ok_sumsR (k := 8) FSuR T DTa (up GTa (by decide)) DCo (up GCo (by decide)) KCo DIs (up GIs (by decide)) KIs DLe (up GLe (by decide)) KLe DCd (up GCd (by decide)) KCd DGa (up GGa (by decide)) KGa DSp (up GSp (by decide)) KSp
  exact ok_law (k := 9) FLa T DBo (ok_box FBo T) DTa (up GTa (by decide)) DSR (up GSR (by decide)) DFR GFR DSuR GSuR
end Ov
open PySem PySem.W PyProof.Rows
set_option maxRecDepth 100000 in
set_option maxHeartbeats 0 in
theorem PySem.Challenge.cw_overlapcode_k36_called_by_names_holds : PySem.Challenge.rw_overlapcode_k36_called_by_names.Holds := by
  w_on; o_law; k_head; (case hw => w_witness2)
  k_fill
  refine Ov.walkG (l := PySem.Challenge.rw_overlapcode_k36_called_by_names) (n := 63) (k := 10) (x := "_law_script") (sp := fun K => Ov.spLaw K) rfl (by decide) rfl ⟨rfl, by decide, by decide⟩ (fun w h Y => PySem.W.kIn_of Y) ?F (fun _ _ a ns hl hS => ⟨a, ns, rfl, hS, hl, fun _ => rfl⟩)
  case F =>
    intro w mg fa h KX G hmg
    refine' Ov.all_mk KX G hmg ?a0 ?l0 ?c0 ?k0 ?a1 ?l1 ?c1 ?k1 ?a2 ?l2 ?c2 ?k2 ?a3 ?l3 ?c3 ?k3 ?a4 ?l4 ?c4 ?k4 ?a5 ?l5 ?c5 ?k5 ?a6 ?l6 ?c6 ?k6 ?a7 ?l7 ?c7 ?k7 ?a8 ?l8 ?c8 ?k8 ?a9 ?l9 ?c9 ?k9 ?a10 ?l10 ?c10 ?k10 ?a11 ?l11 ?c11 ?k11 ?a12 ?l12 ?c12 ?k12 ?a13 ?l13 ?c13 ?k13 ?a14 ?l14 ?c14 ?k14 ?a15 ?l15 ?c15 ?k15 ?a16 ?l16 ?c16 ?k16 ?a17 ?l17 ?c17 ?k17 ?a18 ?l18 ?c18 ?k18 ?a19 ?l19 ?c19 ?k19 ?a20 ?l20 ?c20 ?k20 ?a21 ?l21 ?c21 ?k21 ?a22 ?l22 ?c22 ?k22 ?a23 ?l23 ?c23 ?k23 ?a24 ?l24 ?c24 ?k24 ?a25 ?l25 ?c25 ?k25 ?ld25 ?a26 ?l26 ?c26 ?k26 ?a27 ?l27 ?c27 ?k27 ?a28 ?l28 ?c28 ?k28 ?a29 ?l29 ?c29 ?k29 ?a30 ?l30 ?c30 ?k30 ?a31 ?l31 ?c31 ?k31 ?a32 ?l32 ?c32 ?k32 ?a33 ?l33 ?c33 ?k33 ?a34 ?l34 ?c34 ?k34 ?a35 ?l35 ?c35 ?k35 ?a36 ?l36 ?c36 ?k36 ?a37 ?l37 ?c37 ?k37 ?a38 ?l38 ?c38 ?k38 ?a39 ?l39 ?c39 ?k39 ?a40 ?l40 ?c40 ?k40 ?a41 ?l41 ?c41 ?k41 ?clA0 ?ma0_0 ?mi0_0 ?ml0_0 ?mc0_0 ?mk0_0 ?ma0_1 ?mi0_1 ?ml0_1 ?mc0_1 ?mk0_1 ?ma0_2 ?mi0_2 ?ml0_2 ?mc0_2 ?mk0_2 ?ma0_3 ?mi0_3 ?ml0_3 ?mc0_3 ?mk0_3 ?ma0_4 ?mi0_4 ?ml0_4 ?mc0_4 ?mk0_4 ?pg0 ?hd0 ?po0 ?sa0 ?mks0 ?kc0 ?na0_0 ?na0_1 ?na0_2 ?na0_3 ?cst0 ?cst1 ?cst2 ?cst3 ?cst4 ?cst5 ?bz0 ?bz1 ?bz2 ?bz3 ?bz4 ?bz5 ?bz6 ?bz7 ?bz8 ?bz9 ?bz10 ?bz11 ?bz12 ?bz13 ?bz14 ?bz15 ?bz16 ?bz17 ?bz18 ?bz19 ?bz20
    (case a0 => k_is)
    (case l0 => k_is)
    (case c0 => k_is)
    (case k0 => k_is)
    (case a1 => k_is)
    (case l1 => k_is)
    (case c1 => k_is)
    (case k1 => k_is)
    (case a2 => k_is)
    (case l2 => k_is)
    (case c2 => k_is)
    (case k2 => k_is)
    (case a3 => k_is)
    (case l3 => k_is)
    (case c3 => k_is)
    (case k3 => k_is)
    (case a4 => k_is)
    (case l4 => k_is)
    (case c4 => k_is)
    (case k4 => k_is)
    (case a5 => k_is)
    (case l5 => k_is)
    (case c5 => k_is)
    (case k5 => k_is)
    (case a6 => k_is)
    (case l6 => k_is)
    (case c6 => k_is)
    (case k6 => k_is)
    (case a7 => k_is)
    (case l7 => k_is)
    (case c7 => k_is)
    (case k7 => k_is)
    (case a8 => k_is)
    (case l8 => k_is)
    (case c8 => k_is)
    (case k8 => k_is)
    (case a9 => k_is)
    (case l9 => k_is)
    (case c9 => k_is)
    (case k9 => k_is)
    (case a10 => k_is)
    (case l10 => k_is)
    (case c10 => k_is)
    (case k10 => k_is)
    (case a11 => k_is)
    (case l11 => k_is)
    (case c11 => k_is)
    (case k11 => k_is)
    (case a12 => k_is)
    (case l12 => k_is)
    (case c12 => k_is)
    (case k12 => k_is)
    (case a13 => k_is)
    (case l13 => k_is)
    (case c13 => k_is)
    (case k13 => k_is)
    (case a14 => k_is)
    (case l14 => k_is)
    (case c14 => k_is)
    (case k14 => k_is)
    (case a15 => k_is)
    (case l15 => k_is)
    (case c15 => k_is)
    (case k15 => k_is)
    (case a16 => k_is)
    (case l16 => k_is)
    (case c16 => k_is)
    (case k16 => k_is)
    (case a17 => k_is)
    (case l17 => k_is)
    (case c17 => k_is)
    (case k17 => k_is)
    (case a18 => k_is)
    (case l18 => k_is)
    (case c18 => k_is)
    (case k18 => k_is)
    (case a19 => k_is)
    (case l19 => k_is)
    (case c19 => k_is)
    (case k19 => k_is)
    (case a20 => k_is)
    (case l20 => k_is)
    (case c20 => k_is)
    (case k20 => k_is)
    (case a21 => k_is)
    (case l21 => k_is)
    (case c21 => k_is)
    (case k21 => k_is)
    (case a22 => k_is)
    (case l22 => k_is)
    (case c22 => k_is)
    (case k22 => k_is)
    (case a23 => k_is)
    (case l23 => k_is)
    (case c23 => k_is)
    (case k23 => k_is)
    (case a24 => k_is)
    (case l24 => k_is)
    (case c24 => k_is)
    (case k24 => k_is)
    (case a25 => k_is)
    (case l25 => k_is)
    (case c25 => k_is)
    (case k25 => k_is)
    (case ld25 => k_is)
    (case a26 => k_is)
    (case l26 => k_is)
    (case c26 => k_is)
    (case k26 => k_is)
    (case a27 => k_is)
    (case l27 => k_is)
    (case c27 => k_is)
    (case k27 => k_is)
    (case a28 => k_is)
    (case l28 => k_is)
    (case c28 => k_is)
    (case k28 => k_is)
    (case a29 => k_is)
    (case l29 => k_is)
    (case c29 => k_is)
    (case k29 => k_is)
    (case a30 => k_is)
    (case l30 => k_is)
    (case c30 => k_is)
    (case k30 => k_is)
    (case a31 => k_is)
    (case l31 => k_is)
    (case c31 => k_is)
    (case k31 => k_is)
    (case a32 => k_is)
    (case l32 => k_is)
    (case c32 => k_is)
    (case k32 => k_is)
    (case a33 => k_is)
    (case l33 => k_is)
    (case c33 => k_is)
    (case k33 => k_is)
    (case a34 => k_is)
    (case l34 => k_is)
    (case c34 => k_is)
    (case k34 => k_is)
    (case a35 => k_is)
    (case l35 => k_is)
    (case c35 => k_is)
    (case k35 => k_is)
    (case a36 => k_is)
    (case l36 => k_is)
    (case c36 => k_is)
    (case k36 => k_is)
    (case a37 => k_is)
    (case l37 => k_is)
    (case c37 => k_is)
    (case k37 => k_is)
    (case a38 => k_is)
    (case l38 => k_is)
    (case c38 => k_is)
    (case k38 => k_is)
    (case a39 => k_is)
    (case l39 => k_is)
    (case c39 => k_is)
    (case k39 => k_is)
    (case a40 => k_is)
    (case l40 => k_is)
    (case c40 => k_is)
    (case k40 => k_is)
    (case a41 => k_is)
    (case l41 => k_is)
    (case c41 => k_is)
    (case k41 => k_is)
    (case clA0 => k_is)
    (case ma0_0 => k_is)
    (case mi0_0 => k_is)
    (case ml0_0 => k_is)
    (case mc0_0 => k_is)
    (case mk0_0 => k_is)
    (case ma0_1 => k_is)
    (case mi0_1 => k_is)
    (case ml0_1 => k_is)
    (case mc0_1 => k_is)
    (case mk0_1 => k_is)
    (case ma0_2 => k_is)
    (case mi0_2 => k_is)
    (case ml0_2 => k_is)
    (case mc0_2 => k_is)
    (case mk0_2 => k_is)
    (case ma0_3 => k_is)
    (case mi0_3 => k_is)
    (case ml0_3 => k_is)
    (case mc0_3 => k_is)
    (case mk0_3 => k_is)
    (case ma0_4 => k_is)
    (case mi0_4 => k_is)
    (case ml0_4 => k_is)
    (case mc0_4 => k_is)
    (case mk0_4 => k_is)
    (case pg0 => k_is)
    (case hd0 => k_is)
    (case po0 => k_is)
    (case sa0 => k_is)
    (case mks0 => k_is)
    (case kc0 => k_is)
    (case na0_0 => k_is)
    (case na0_1 => k_is)
    (case na0_2 => k_is)
    (case na0_3 => k_is)
    (case cst0 => k_is)
    (case cst1 => k_is)
    (case cst2 => k_is)
    (case cst3 => k_is)
    (case cst4 => k_is)
    (case cst5 => k_is)
    (case bz0 => k_is)
    (case bz1 => k_is)
    (case bz2 => k_is)
    (case bz3 => k_is)
    (case bz4 => k_is)
    (case bz5 => k_is)
    (case bz6 => k_is)
    (case bz7 => k_is)
    (case bz8 => k_is)
    (case bz9 => k_is)
    (case bz10 => k_is)
    (case bz11 => k_is)
    (case bz12 => k_is)
    (case bz13 => k_is)
    (case bz14 => k_is)
    (case bz15 => k_is)
    (case bz16 => k_is)
    (case bz17 => k_is)
    (case bz18 => k_is)
    (case bz19 => k_is)
    (case bz20 => k_is)
