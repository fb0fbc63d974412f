import PyProof.Rows.All
import Wide.All
import OpenK.AllK
import Wide.FinOn
import HandS.ForMost
import HandS.IsInst
import HandS.Zip
import HandS.TupAny
import HandS.Wide
import HandS.More
import HandS.Walk
import HandS.RaiseMore
import HandS.Flow
import HandS.Conv
import HandS.MakeKwOnly
import KE.DataMinMax
import HandS.Small
import HandS.Text
import HandS.Strs
import HandS.Codes
import HandS.ExcInit
import HandS.ExcField
import HandS.ExcIs
import HandS.ExcOwn
import HandS.ExcValue
import KE.KExcIs
import HandS.DictComp
import HandS.TupMul
import PyProof.AutoSeq1
import HandS.SetBool
import HandS.SetFor
import KE.GoesMore
import KE.KRevSl
import HandS.Dict
import PyProof.NeData
import HandS.TryOnly
import HandS.Lambda
import HandS.WordsExc
import HandS.Style
import HandS.TupLe
import PySem.Challenge.RW_overlapcode_k05_lengths_of_any_values
set_option Elab.async false
set_option linter.all false
set_option maxRecDepth 100000
set_option maxHeartbeats 4000000
/-! Sums of lengths: the mathematics -/
namespace Ov
/-- a sum of the lengths -/
inductive Sum (ls : List Nat) : Nat → Prop
  | zero : Sum ls 0
  | add {l s : Nat} : l ∈ ls → Sum ls s → Sum ls (s + l)

theorem Sum.mono {ls ks : List Nat} (h : ∀ l ∈ ls, l ∈ ks) {s : Nat} (a : Sum ls s) : Sum ks s := by
  induction a with
  | zero => exact .zero
  | add hl _ ih => exact .add (h _ hl) ih

theorem Sum.plus {ls : List Nat} {s t : Nat} (a : Sum ls s) (b : Sum ls t) : Sum ls (s + t) := by
  induction b with
  | zero => exact a
  | add hl _ ih => rw [← Nat.add_assoc]; exact .add hl ih

theorem Sum.times {ls : List Nat} {l : Nat} (h : l ∈ ls) : ∀ (j : Nat), Sum ls (j * l)
  | 0 => by rw [Nat.zero_mul]; exact .zero
  | j + 1 => by rw [Nat.succ_mul]; exact .add h (Sum.times h j)

theorem Sum.step {ls : List Nat} {w : Nat} : Sum ls w ↔ w = 0 ∨ ∃ l ∈ ls, l ≤ w ∧ Sum ls (w - l) := by
  constructor
  · intro a
    cases a with
    | zero => exact .inl rfl
    | @add l s hl hs => exact .inr ⟨l, hl, Nat.le_add_left _ _, by rw [Nat.add_sub_cancel]; exact hs⟩
  · rintro (rfl | ⟨l, hl, hw, hs⟩)
    · exact .zero
    · have := Sum.add hl hs
      rwa [Nat.sub_add_cancel hw] at this

/-- one more length: a sum of the others and so many of it -/
theorem Sum.snoc {ls : List Nat} {L s : Nat} : Sum (ls ++ [L]) s ↔ ∃ j t, Sum ls t ∧ s = t + j * L := by
  constructor
  · intro a
    induction a with
    | zero => exact ⟨0, 0, .zero, by simp⟩
    | @add l s hl _ ih =>
      obtain ⟨j, t, ht, rfl⟩ := ih
      rcases List.mem_append.mp hl with h | h
      · exact ⟨j, t + l, .add h ht, by omega⟩
      · have : l = L := by simpa using h
        subst this
        exact ⟨j + 1, t, ht, by rw [Nat.succ_mul]; omega⟩
  · rintro ⟨j, t, ht, rfl⟩
    exact (ht.mono fun l h => List.mem_append_left _ h).plus (Sum.times (List.mem_append_right _ (List.mem_singleton.mpr rfl)) j)

theorem Sum.single {m s : Nat} : Sum [m] s ↔ ∃ j, s = j * m := by
  have := @Sum.snoc [] m s
  rw [List.nil_append] at this
  rw [this]
  constructor
  · rintro ⟨j, t, ht, rfl⟩
    have : t = 0 := by
      cases ht with
      | zero => rfl
      | add h _ => cases h
    exact ⟨j, by omega⟩
  · rintro ⟨j, rfl⟩
    exact ⟨j, 0, .zero, by omega⟩

/-! ### least sums by remainder -/
/-- a is at most b, where none is above all -/
def leO (a b : Option Nat) : Prop := ∀ y, b = some y → ∃ x, a = some x ∧ x ≤ y
theorem leO.rfl {a : Option Nat} : leO a a := fun y h => ⟨y, h, Nat.le_refl _⟩
theorem leO.trans {a b c : Option Nat} (h : leO a b) (k : leO b c) : leO a c := fun z hz => by
  obtain ⟨y, hy, hyz⟩ := k z hz
  obtain ⟨x, hx, hxy⟩ := h y hy
  exact ⟨x, hx, Nat.le_trans hxy hyz⟩
def leL (a b : List (Option Nat)) : Prop := a.length = b.length ∧ ∀ r, leO (a.getD r none) (b.getD r none)
theorem leL.rfl {a : List (Option Nat)} : leL a a := ⟨_root_.rfl, fun _ => leO.rfl⟩
theorem leL.trans {a b c : List (Option Nat)} (h : leL a b) (k : leL b c) : leL a c := ⟨h.1.trans k.1, fun r => (h.2 r).trans (k.2 r)⟩

/-- one step of the walk: what is reached at r, and the length, at the remainder that follows -/
def relax (L r f : Nat) (a : List (Option Nat)) : List (Option Nat) :=
  match a.getD r none with
  | none => a
  | some x => match a.getD f none with
    | none => a.set f (some (x + L))
    | some y => if x + L < y then a.set f (some (x + L)) else a

theorem getD_set {α : Type} (a : List α) (f r : Nat) (v d : α) : (a.set f v).getD r d = if f = r ∧ r < a.length then v else a.getD r d := by
  simp only [List.getD_eq_getElem?_getD, List.getElem?_set]
  by_cases h : f = r
  · subst h
    by_cases h2 : f < a.length
    · simp [h2]
    · simp [h2, List.getElem?_eq_none (Nat.le_of_not_lt h2)]
  · simp [h]

theorem relax_len (L r f : Nat) (a : List (Option Nat)) : (relax L r f a).length = a.length := by
  unfold relax
  split
  · rfl
  · split
    · simp
    · split <;> simp

theorem relax_le (L r f : Nat) (a : List (Option Nat)) : leL (relax L r f a) a := by
  refine ⟨relax_len .., fun q => ?_⟩
  unfold relax
  split
  · exact leO.rfl
  · rename_i x _
    split
    · rename_i hf
      rw [getD_set]
      by_cases c : f = q ∧ q < a.length
      · rw [if_pos c, ← c.1, hf]
        intro y h; cases h
      · rw [if_neg c]; exact leO.rfl
    · rename_i y hf
      split
      · rename_i hlt
        rw [getD_set]
        by_cases c : f = q ∧ q < a.length
        · rw [if_pos c, ← c.1, hf]
          intro z h
          cases h
          exact ⟨_, rfl, Nat.le_of_lt hlt⟩
        · rw [if_neg c]; exact leO.rfl
      · exact leO.rfl

theorem relax_at (L r f : Nat) (a : List (Option Nat)) (hf : f < a.length) : leO ((relax L r f a).getD f none) ((a.getD r none).map (· + L)) := by
  unfold relax
  split
  · rename_i h
    rw [h]
    intro y h; cases h
  · rename_i x h
    rw [h]
    split
    · rw [getD_set, if_pos ⟨rfl, hf⟩]
      exact leO.rfl
    · rename_i y hy
      split
      · rw [getD_set, if_pos ⟨rfl, hf⟩]
        exact leO.rfl
      · rename_i hn
        rw [hy]
        intro z hz
        have : x + L = z := Option.some.inj hz
        exact ⟨y, rfl, by omega⟩

/-- every entry is of S and has its remainder -/
def Sound (S : Nat → Prop) (m : Nat) (a : List (Option Nat)) : Prop := ∀ r x, a.getD r none = some x → S x ∧ x % m = r

theorem relax_sound {S : Nat → Prop} {m L r : Nat} {a : List (Option Nat)} (hS : ∀ x, S x → S (x + L)) (h : Sound S m a) : Sound S m (relax L r ((r + L) % m) a) := by
  have key : ∀ x, a.getD r none = some x → S (x + L) ∧ (x + L) % m = (r + L) % m := fun x hx => by
    obtain ⟨h1, h2⟩ := h r x hx
    refine ⟨hS x h1, ?_⟩
    rw [← h2, Nat.add_mod (x % m), Nat.mod_mod, ← Nat.add_mod]
  intro q z hz
  unfold relax at hz
  split at hz
  · exact h q z hz
  · rename_i x hx
    obtain ⟨k1, k2⟩ := key x hx
    split at hz
    · rw [getD_set] at hz
      by_cases c : (r + L) % m = q ∧ q < a.length
      · rw [if_pos c] at hz
        cases hz
        exact ⟨k1, k2.trans c.1⟩
      · rw [if_neg c] at hz; exact h q z hz
    · split at hz
      · rw [getD_set] at hz
        by_cases c : (r + L) % m = q ∧ q < a.length
        · rw [if_pos c] at hz
          cases hz
          exact ⟨k1, k2.trans c.1⟩
        · rw [if_neg c] at hz; exact h q z hz
      · exact h q z hz

/-- so many steps from r on: the list, and where the walk stands -/
def steps (L m : Nat) : Nat → Nat → List (Option Nat) → List (Option Nat) × Nat
  | 0, r, a => (a, r)
  | t + 1, r, a => let q := steps L m t r a; (relax L q.2 ((q.2 + L) % m) q.1, (q.2 + L) % m)

theorem steps_at (L m : Nat) (r : Nat) (a : List (Option Nat)) (hr : r < m) : ∀ t, (steps L m t r a).2 = (r + t * L) % m
  | 0 => by simp [steps, Nat.mod_eq_of_lt hr]
  | t + 1 => by
    show ((steps L m t r a).2 + L) % m = _
    rw [steps_at L m r a hr t, Nat.add_mod ((r + t * L) % m), Nat.mod_mod, ← Nat.add_mod, Nat.succ_mul, Nat.add_assoc]

theorem steps_le (L m : Nat) (r : Nat) (a : List (Option Nat)) : ∀ t, leL (steps L m t r a).1 a
  | 0 => leL.rfl
  | t + 1 => (relax_le ..).trans (steps_le L m r a t)

theorem steps_le' (L m : Nat) (r : Nat) (a : List (Option Nat)) (t : Nat) : ∀ d, leL (steps L m (t + d) r a).1 (steps L m t r a).1
  | 0 => leL.rfl
  | d + 1 => (relax_le ..).trans (steps_le' L m r a t d)

theorem steps_sound {S : Nat → Prop} {m L : Nat} {r : Nat} {a : List (Option Nat)} (hS : ∀ x, S x → S (x + L)) (h : Sound S m a) : ∀ t, Sound S m (steps L m t r a).1
  | 0 => h
  | t + 1 => relax_sound hS (steps_sound hS h t)

/-- what stands at the p-th place goes j steps on -/
theorem steps_far {L m : Nat} {r : Nat} {a : List (Option Nat)} (hm : 0 < m) (hl : a.length = m) (hr : r < m) (p : Nat) {y : Nat} (hy : a.getD ((r + p * L) % m) none = some y) :
    ∀ j, ∃ x, ((steps L m (p + j) r a).1).getD ((r + (p + j) * L) % m) none = some x ∧ x ≤ y + j * L
  | 0 => by
    obtain ⟨x, hx, hxy⟩ := (steps_le L m r a p).2 _ y hy
    exact ⟨x, hx, by omega⟩
  | j + 1 => by
    obtain ⟨x, hx, hxy⟩ := steps_far hm hl hr p hy j
    have hp := steps_at L m r a hr (p + j)
    have hlen : (steps L m (p + j) r a).1.length = m := (steps_le L m r a (p + j)).1.trans hl
    have e : (r + (p + (j + 1)) * L) % m = ((steps L m (p + j) r a).2 + L) % m := by
      rw [hp, Nat.add_mod ((r + (p + j) * L) % m), Nat.mod_mod, ← Nat.add_mod, ← Nat.add_assoc p j 1, Nat.succ_mul, Nat.add_assoc]
    rw [e]
    show ∃ x', (relax L (steps L m (p + j) r a).2 (((steps L m (p + j) r a).2 + L) % m) (steps L m (p + j) r a).1).getD _ none = some x' ∧ _
    have := relax_at L (steps L m (p + j) r a).2 (((steps L m (p + j) r a).2 + L) % m) (steps L m (p + j) r a).1 (by rw [hlen]; exact Nat.mod_lt _ hm)
    obtain ⟨x', hx', h2⟩ := this (x + L) (by rw [hp, hx]; rfl)
    exact ⟨x', hx', by rw [Nat.succ_mul]; omega⟩

/-! ### Bezout -/
theorem bezout (a b : Nat) : ∃ x y : Int, x * a + y * b = (Nat.gcd a b : Int) := by
  induction a, b using Nat.gcd.induction with
  | H0 n => exact ⟨0, 1, by simp⟩
  | H1 m n hm ih =>
    obtain ⟨x, y, h⟩ := ih
    refine ⟨y - x * ((n / m : Nat) : Int), x, ?_⟩
    rw [Nat.gcd_rec m n, ← h]
    have e : (n : Int) = (m : Int) * ((n / m : Nat) : Int) + ((n % m : Nat) : Int) := by
      have := Nat.div_add_mod n m
      exact_mod_cast this.symm
    conv => lhs; rw [e]
    rw [Int.sub_mul, Int.mul_add, Int.mul_assoc x, Int.mul_comm (m : Int) ((n / m : Nat) : Int)]
    omega

theorem bezout_mod (m L : Nat) (hm : 0 < m) : ∃ u : Nat, (u * L) % m = Nat.gcd m L % m := by
  obtain ⟨x, y, h⟩ := bezout m L
  refine ⟨(y % m).toNat, ?_⟩
  have hm' : (m : Int) ≠ 0 := by omega
  have hy : 0 ≤ y % (m : Int) := Int.emod_nonneg _ hm'
  have e : ((((y % (m : Int)).toNat * L : Nat) : Int)) % (m : Int) = ((Nat.gcd m L : Nat) : Int) % (m : Int) := by
    rw [Int.natCast_mul, Int.toNat_of_nonneg hy, ← h, Int.mul_emod, Int.emod_emod_of_dvd _ (Int.dvd_refl _), ← Int.mul_emod, Int.add_comm, Int.add_mul_emod_self_right]
  exact_mod_cast e

/-- from the class of r the walk comes by r -/
theorem comes_by (m L r : Nat) (hm : 0 < m) (hr : r < m) : ∃ p, p < m / Nat.gcd m L ∧ (r % Nat.gcd m L + p * L) % m = r := by
  obtain ⟨u, hu⟩ := bezout_mod m L hm
  have hg : 0 < Nat.gcd m L := Nat.gcd_pos_of_pos_left _ hm
  obtain ⟨c, hc⟩ := Nat.gcd_dvd_left m L
  obtain ⟨k, hk⟩ := Nat.gcd_dvd_right m L
  generalize hgg : Nat.gcd m L = g at *
  have hcd : m / g = c := by rw [hc]; exact Nat.mul_div_cancel_left _ hg
  have hcpos : 0 < c := by
    rcases Nat.eq_zero_or_pos c with h | h
    · rw [h] at hc; omega
    · exact h
  refine ⟨(u * (r / g)) % c, by rw [hcd]; exact Nat.mod_lt _ hcpos, ?_⟩
  -- ((u (r/g)) % c) L ≡ u (r/g) L
  have e1 : ((u * (r / g)) % c * L) % m = (u * (r / g) * L) % m := by
    have d := Nat.div_add_mod (u * (r / g)) c
    have : u * (r / g) * L = (u * (r / g)) % c * L + m * ((u * (r / g)) / c * k) := by
      calc u * (r / g) * L = (c * (u * (r / g) / c) + u * (r / g) % c) * L := by rw [d]
        _ = (u * (r / g)) % c * L + c * (u * (r / g) / c) * L := by rw [Nat.add_mul, Nat.add_comm]
        _ = (u * (r / g)) % c * L + m * ((u * (r / g)) / c * k) := by
          congr 1
          conv => lhs; rw [hk]
          conv => rhs; rw [hc]
          simp only [Nat.mul_comm, Nat.mul_left_comm]
    rw [this, Nat.add_mul_mod_self_left]
  have e2 : (u * (r / g) * L) % m = (g * (r / g)) % m := by
    rw [Nat.mul_right_comm, Nat.mul_mod, hu, ← Nat.mul_mod]
  rw [Nat.add_mod, e1, e2, ← Nat.add_mod, Nat.mod_add_div, Nat.mod_eq_of_lt hr]
end Ov
namespace Ov
/-- the walks from the first k places, one behind another -/
def walks (L m T : Nat) : Nat → List (Option Nat) → List (Option Nat)
  | 0, a => a
  | k + 1, a => (steps L m T k (walks L m T k a)).1
def withLen (L : Nat) (a : List (Option Nat)) : List (Option Nat) :=
  walks L a.length (2 * (a.length / Nat.gcd a.length L)) (Nat.gcd a.length L) a

theorem walks_le (L m T : Nat) (a : List (Option Nat)) : ∀ k, leL (walks L m T k a) a
  | 0 => leL.rfl
  | k + 1 => (steps_le ..).trans (walks_le L m T a k)
theorem walks_le' (L m T : Nat) (a : List (Option Nat)) (k : Nat) : ∀ d, leL (walks L m T (k + d) a) (walks L m T k a)
  | 0 => leL.rfl
  | d + 1 => (steps_le ..).trans (walks_le' L m T a k d)
theorem walks_sound {S : Nat → Prop} {m L T : Nat} {a : List (Option Nat)} (hS : ∀ x, S x → S (x + L)) (h : Sound S m a) : ∀ k, Sound S m (walks L m T k a)
  | 0 => h
  | k + 1 => steps_sound hS (walks_sound hS h k) T

theorem withLen_len (L : Nat) (a : List (Option Nat)) : (withLen L a).length = a.length := (walks_le ..).1

/-- what stands at r goes j steps on, j less than a whole round -/
theorem withLen_far {L : Nat} {a : List (Option Nat)} (hm : 0 < a.length) {r y j : Nat} (hr : r < a.length) (hy : a.getD r none = some y) (hj : j < a.length / Nat.gcd a.length L) :
    ∃ x, (withLen L a).getD ((r + j * L) % a.length) none = some x ∧ x ≤ y + j * L := by
  obtain ⟨p, hp, e⟩ := comes_by a.length L r hm hr
  have hg : 0 < Nat.gcd a.length L := Nat.gcd_pos_of_pos_left _ hm
  unfold withLen
  generalize hT : 2 * (a.length / Nat.gcd a.length L) = T
  have hk : r % Nat.gcd a.length L < Nat.gcd a.length L := Nat.mod_lt _ hg
  generalize hk0 : r % Nat.gcd a.length L = k at *
  obtain ⟨d, hd⟩ : ∃ d, Nat.gcd a.length L = (k + 1) + d := ⟨Nat.gcd a.length L - (k + 1), by omega⟩
  have hkm : k < a.length := Nat.lt_of_lt_of_le hk (Nat.le_of_dvd hm (Nat.gcd_dvd_left _ _))
  have hb : (walks L a.length T k a).length = a.length := (walks_le ..).1
  obtain ⟨y', hy', hle⟩ := (walks_le L a.length T a k).2 r y hy
  obtain ⟨x, hx, hxy⟩ := steps_far (L := L) (m := a.length) (r := k) (a := walks L a.length T k a) hm hb hkm p (y := y') (by rw [e]; exact hy') j
  have ej : (k + (p + j) * L) % a.length = (r + j * L) % a.length := by
    rw [Nat.add_mul, ← Nat.add_assoc, Nat.add_mod, e]
    conv => rhs; rw [Nat.add_mod, Nat.mod_eq_of_lt hr]
  rw [ej] at hx
  have l1 := steps_le' L a.length k (walks L a.length T k a) (p + j) (T - (p + j))
  rw [show p + j + (T - (p + j)) = T by omega] at l1
  have l2 := walks_le' L a.length T a (k + 1) d
  rw [← hd] at l2
  obtain ⟨x2, h2, h2'⟩ := (l2.trans l1).2 _ x hx
  exact ⟨x2, h2, by omega⟩

/-- a list tells the least members of S by their remainders -/
structure Rep (S : Nat → Prop) (a : List (Option Nat)) : Prop where
  pos : 0 < a.length
  sound : Sound S a.length a
  least : ∀ s, S s → ∃ x, a.getD (s % a.length) none = some x ∧ x ≤ s

theorem Rep.one {m : Nat} (hm : 0 < m) : Rep (Sum [m]) (some 0 :: List.replicate (m - 1) none) := by
  have hl : (some 0 :: List.replicate (m - 1) (none : Option Nat)).length = m := by simp; omega
  refine ⟨by simp, fun r x h => ?_, fun s hs => ?_⟩
  · rw [hl]
    cases r with
    | zero =>
      have : some 0 = some x := h
      cases this
      exact ⟨.zero, Nat.zero_mod _⟩
    | succ r =>
      exfalso
      rw [List.getD_eq_getElem?_getD, List.getElem?_cons_succ, List.getElem?_replicate] at h
      split at h <;> simp at h
  · obtain ⟨j, rfl⟩ := Sum.single.mp hs
    rw [hl, Nat.mul_mod_left]
    exact ⟨0, rfl, Nat.zero_le _⟩

theorem Rep.more {ls : List Nat} {L m : Nat} {a : List (Option Nat)} (h : Rep (Sum ls) a) (hm : a.length = m) (hin : m ∈ ls) : Rep (Sum (ls ++ [L])) (withLen L a) := by
  have hl := withLen_len L a
  have hp := h.pos
  refine ⟨by rw [hl]; exact hp, ?_, fun s hs => ?_⟩
  · rw [hl]
    refine walks_sound (fun x hx => .add (List.mem_append_right _ (List.mem_singleton.mpr rfl)) hx) (fun r x e => ?_) _
    obtain ⟨h1, h2⟩ := h.sound r x e
    exact ⟨h1.mono fun l hl => List.mem_append_left _ hl, h2⟩
  · rw [hl]
    obtain ⟨j, t, ht, rfl⟩ := Sum.snoc.mp hs
    -- less than a whole round of L's
    have hg : 0 < Nat.gcd a.length L := Nat.gcd_pos_of_pos_left _ hp
    obtain ⟨c, hc⟩ := Nat.gcd_dvd_left a.length L
    obtain ⟨k, hk⟩ := Nat.gcd_dvd_right a.length L
    have hcd : a.length / Nat.gcd a.length L = c := by
      generalize Nat.gcd a.length L = g at *
      rw [hc]
      exact Nat.mul_div_cancel_left _ hg
    have hcpos : 0 < c := by
      rcases Nat.eq_zero_or_pos c with h | h
      · rw [h] at hc; omega
      · exact h
    have ecL : c * L = k * a.length := by
      generalize Nat.gcd a.length L = g at *
      rw [hk, hc]
      simp only [Nat.mul_comm, Nat.mul_left_comm]
    have e : t + j * L = (t + (j / c * k) * a.length) + (j % c) * L := by
      have d := Nat.div_add_mod j c
      calc t + j * L = t + (c * (j / c) + j % c) * L := by rw [d]
        _ = t + (j / c * (c * L) + j % c * L) := by
          rw [Nat.add_mul]; congr 2; rw [Nat.mul_comm c, Nat.mul_assoc]
        _ = _ := by rw [ecL]; rw [Nat.mul_assoc]; omega
    have ht' : Sum ls (t + (j / c * k) * a.length) := ht.plus (by rw [hm]; exact Sum.times hin _)
    obtain ⟨y, hy, hyt⟩ := h.least _ ht'
    obtain ⟨x, hx, hxy⟩ := withLen_far (L := L) hp (Nat.mod_lt _ hp) hy (j := j % c) (by rw [hcd]; exact Nat.mod_lt _ hcpos)
    refine ⟨x, ?_, by rw [e]; omega⟩
    rw [e]
    rw [Nat.add_mod, Nat.mod_mod, ← Nat.add_mod] at hx
    exact hx

/-- the least sums of lengths -/
def leasts : List Nat → List (Option Nat)
  | [] => []
  | m :: ls => ls.foldl (fun a L => withLen L a) (some 0 :: List.replicate (m - 1) none)

theorem fold_rep : ∀ (ls pre : List Nat) (a : List (Option Nat)) (m : Nat), Rep (Sum pre) a → a.length = m → m ∈ pre → Rep (Sum (pre ++ ls)) (ls.foldl (fun a L => withLen L a) a) ∧ (ls.foldl (fun a L => withLen L a) a).length = m
  | [], pre, a, m, h, hm, _ => by simpa using ⟨h, hm⟩
  | L :: ls, pre, a, m, h, hm, hin => by
    have := fold_rep ls (pre ++ [L]) (withLen L a) m (h.more hm hin) ((withLen_len L a).trans hm) (List.mem_append_left _ hin)
    rw [List.append_assoc] at this
    exact this

theorem leasts_rep {m : Nat} (hm : 0 < m) (ls : List Nat) : Rep (Sum (m :: ls)) (leasts (m :: ls)) ∧ (leasts (m :: ls)).length = m :=
  fold_rep ls [m] _ m (Rep.one hm) (by simp; omega) (List.mem_singleton.mpr rfl)

/-- whether a total is a sum, by the least sums -/
def reached (a : List (Option Nat)) (t : Nat) : Bool :=
  if a.length = 0 then t == 0 else match a.getD (t % a.length) none with
    | none => false
    | some x => decide (x ≤ t)

theorem Rep.iff {S : Nat → Prop} {a : List (Option Nat)} (h : Rep S a) (hc : ∀ x, S x → S (x + a.length)) (t : Nat) : reached a t = true ↔ S t := by
  unfold reached
  rw [if_neg (by have := h.pos; omega)]
  have many : ∀ (k x : Nat), S x → S (x + k * a.length) := by
    intro k
    induction k with
    | zero => intro x hx; simpa using hx
    | succ k ih => intro x hx; rw [Nat.succ_mul, ← Nat.add_assoc]; exact hc _ (ih x hx)
  constructor
  · intro e
    split at e
    · cases e
    · rename_i x hx
      obtain ⟨h1, h2⟩ := h.sound _ x hx
      have hle : x ≤ t := of_decide_eq_true e
      have : t = x + (t / a.length - x / a.length) * a.length := by
        have d1 := Nat.div_add_mod t a.length
        have d2 := Nat.div_add_mod x a.length
        rw [h2] at d2
        have hd : x / a.length ≤ t / a.length := Nat.div_le_div_right hle
        rw [Nat.sub_mul, Nat.mul_comm (t / a.length), Nat.mul_comm (x / a.length)]
        have : a.length * (x / a.length) ≤ a.length * (t / a.length) := Nat.mul_le_mul_left _ hd
        omega
      rw [this]
      exact many _ _ h1
  · intro hs
    obtain ⟨x, hx, hxt⟩ := h.least t hs
    rw [hx]
    exact decide_eq_true hxt

theorem isSum_iff (ls : List Nat) (hpos : ∀ l ∈ ls, 0 < l) (t : Nat) : reached (leasts ls) t = true ↔ Sum ls t := by
  cases ls with
  | nil =>
    show (t == 0) = true ↔ _
    constructor
    · intro h
      have : t = 0 := by simpa using h
      rw [this]; exact .zero
    · intro h
      cases h with
      | zero => rfl
      | add h _ => cases h
  | cons m ls =>
    have hm : 0 < m := hpos m List.mem_cons_self
    obtain ⟨h, hl⟩ := leasts_rep hm ls
    exact h.iff (fun x hx => by rw [hl]; exact .add List.mem_cons_self hx) t
end Ov
/-! Least sums: how great they are, and how they are found one by one; the greatest common divisor -/
namespace Ov
theorem countP_le {α : Type} {p q : α → Bool} : ∀ {l : List α}, (∀ x ∈ l, p x = true → q x = true) → l.countP p ≤ l.countP q
  | [], _ => Nat.le_refl _
  | x :: l, h => by
    have ih := countP_le (l := l) fun y hy => h y (List.mem_cons_of_mem _ hy)
    have hx := h x List.mem_cons_self
    rw [List.countP_cons, List.countP_cons]
    cases hp : p x
    · simp only [Bool.false_eq_true, if_false]
      omega
    · rw [hx hp]; omega
theorem countP_lt {α : Type} {p q : α → Bool} : ∀ {l : List α} (x : α), x ∈ l → p x = false → q x = true → (∀ x ∈ l, p x = true → q x = true) → l.countP p < l.countP q
  | [], _, hx, _, _, _ => by cases hx
  | y :: l, x, hx, h1, h2, h => by
    rw [List.countP_cons, List.countP_cons]
    have hy := h y List.mem_cons_self
    rcases List.mem_cons.mp hx with e | hx
    · subst e
      have ih := countP_le (l := l) fun y hy => h y (List.mem_cons_of_mem _ hy)
      rw [h1, h2]
      simp only [Bool.false_eq_true, if_false, if_true]
      omega
    · have ih := countP_lt x hx h1 h2 fun y hy => h y (List.mem_cons_of_mem _ hy)
      cases hp : p y
      · simp only [Bool.false_eq_true, if_false]
        omega
      · rw [hy hp]; omega
/-- an entry below x -/
def below (x : Nat) : Option Nat → Bool
  | some y => decide (y < x)
  | none => false
theorem mem_of_getD {a : List (Option Nat)} {r x : Nat} (h : a.getD r none = some x) : some x ∈ a := by
  rw [List.getD_eq_getElem?_getD] at h
  cases e : a[r]? with
  | none => rw [e] at h; cases h
  | some o =>
    rw [e] at h
    have : o = some x := h
    rw [← this]
    exact List.mem_of_getElem? e
theorem rank_bound {ls : List Nat} {a : List (Option Nat)} (h : Rep (Sum ls) a) {M : Nat} (hM : ∀ l ∈ ls, 0 < l ∧ l ≤ M) : ∀ (x r : Nat), a.getD r none = some x → x ≤ a.countP (below x) * M := by
  intro x
  induction x using Nat.strongRecOn with
  | ind x ih =>
    intro r hr
    rcases Nat.eq_zero_or_pos x with h0 | h0
    · omega
    obtain ⟨sx, rx⟩ := h.sound r x hr
    rcases Sum.step.mp sx with h1 | ⟨l, hl, hlx, sy⟩
    · omega
    obtain ⟨l0, lM⟩ := hM l hl
    obtain ⟨z, hz, hzy⟩ := h.least _ sy
    obtain ⟨sz, rz⟩ := h.sound _ z hz
    have ezy : z = x - l := by
      rcases Nat.lt_or_ge z (x - l) with c | c
      · exfalso
        obtain ⟨x', hx', hle⟩ := h.least (z + l) (.add hl sz)
        have em : (z + l) % a.length = r := by
          rw [Nat.add_mod, rz, ← Nat.add_mod, Nat.sub_add_cancel hlx, rx]
        rw [em, hr] at hx'
        have : x = x' := Option.some.inj hx'
        omega
      · omega
    subst ezy
    have hy := ih (x - l) (by omega) _ hz
    have hlt : a.countP (below (x - l)) < a.countP (below x) := by
      refine countP_lt (some (x - l)) (mem_of_getD hz) ?_ ?_ ?_
      · exact decide_eq_false (Nat.lt_irrefl _)
      · exact decide_eq_true (by omega)
      · intro o _ ho
        cases o with
        | none => cases ho
        | some y =>
          have := of_decide_eq_true ho
          exact decide_eq_true (by omega)
    have := Nat.mul_le_mul_right M (Nat.succ_le_of_lt hlt)
    rw [Nat.succ_mul] at this
    omega
theorem least_le {ls : List Nat} {a : List (Option Nat)} (h : Rep (Sum ls) a) {M : Nat} (hM : ∀ l ∈ ls, 0 < l ∧ l ≤ M) {x r : Nat} (hr : a.getD r none = some x) : x ≤ (a.length - 1) * M := by
  have h1 := rank_bound h hM x r hr
  have h2 : a.countP (below x) < a.length := by
    have : a.countP (below x) < a.countP (fun _ => true) := countP_lt (some x) (mem_of_getD hr) (decide_eq_false (Nat.lt_irrefl _)) rfl fun _ _ _ => rfl
    rwa [List.countP_true] at this
  exact Nat.le_trans h1 (Nat.mul_le_mul_right M (by omega))
/-! ### found one by one -/
def cutO (i : Nat) : Option Nat → Option Nat
  | some x => if x < i then some x else none
  | none => none
theorem cutO_lt {i x : Nat} (h : x < i) : cutO i (some x) = some x := if_pos h
theorem cutO_ge {i x : Nat} (h : ¬ x < i) : cutO i (some x) = none := if_neg h
def seen (i : Nat) (a : List (Option Nat)) : List (Option Nat) := a.map (cutO i)
theorem seen_len (i : Nat) (a : List (Option Nat)) : (seen i a).length = a.length := List.length_map ..
theorem seen_zero (a : List (Option Nat)) : seen 0 a = List.replicate a.length none := by
  unfold seen
  rw [List.eq_replicate_iff]
  refine ⟨List.length_map .., fun o ho => ?_⟩
  obtain ⟨x, _, rfl⟩ := List.mem_map.mp ho
  cases x with
  | none => rfl
  | some x => exact cutO_ge (Nat.not_lt_zero _)
theorem seen_at (i : Nat) (a : List (Option Nat)) (r : Nat) : (seen i a).getD r none = cutO i (a.getD r none) := by
  unfold seen
  rw [List.getD_eq_getElem?_getD, List.getD_eq_getElem?_getD, List.getElem?_map]
  cases a[r]? <;> rfl
theorem ext_getD {a b : List (Option Nat)} (hl : a.length = b.length) (h : ∀ r, r < a.length → a.getD r none = b.getD r none) : a = b := by
  refine List.ext_getElem hl fun i h1 h2 => ?_
  have := h i h1
  rw [List.getD_eq_getElem?_getD, List.getD_eq_getElem?_getD, List.getElem?_eq_getElem h1, List.getElem?_eq_getElem h2] at this
  exact this
theorem seen_set {S : Nat → Prop} {a : List (Option Nat)} (h : Rep S a) {i : Nat} (hs : S i) (hn : (seen i a).getD (i % a.length) none = none) : (seen i a).set (i % a.length) (some i) = seen (i + 1) a := by
  obtain ⟨x, hx, hxi⟩ := h.least i hs
  rw [seen_at, hx] at hn
  have ex : x = i := by
    by_cases c : x < i
    · rw [cutO_lt c] at hn; cases hn
    · omega
  subst ex
  refine ext_getD (by rw [List.length_set, seen_len, seen_len]) fun r hr => ?_
  rw [List.length_set, seen_len] at hr
  rw [getD_set, seen_at, seen_at, seen_len]
  by_cases c : x % a.length = r
  · subst c
    rw [if_pos ⟨rfl, hr⟩, hx]
    exact (cutO_lt (Nat.lt_succ_self _)).symm
  · rw [if_neg fun z => c z.1]
    cases e : a.getD r none with
    | none => rfl
    | some y =>
      have hy := (h.sound r y e).2
      have : y ≠ x := fun z => c (by rw [← z]; exact hy)
      by_cases d : y < x
      · rw [cutO_lt d, cutO_lt (show y < x + 1 by omega)]
      · rw [cutO_ge d, cutO_ge (show ¬ y < x + 1 by omega)]
theorem seen_keep {S : Nat → Prop} {a : List (Option Nat)} (h : Rep S a) {i : Nat} (hn : S i → (seen i a).getD (i % a.length) none ≠ none) : seen i a = seen (i + 1) a := by
  refine ext_getD (by rw [seen_len, seen_len]) fun r hr => ?_
  rw [seen_at, seen_at]
  cases e : a.getD r none with
  | none => rfl
  | some y =>
    obtain ⟨sy, ry⟩ := h.sound r y e
    have : y ≠ i := fun z => by
      subst z
      refine hn sy ?_
      rw [seen_at, ry, e]
      exact cutO_ge (Nat.lt_irrefl _)
    by_cases d : y < i
    · rw [cutO_lt d, cutO_lt (show y < i + 1 by omega)]
    · rw [cutO_ge d, cutO_ge (show ¬ y < i + 1 by omega)]
theorem seen_all {a : List (Option Nat)} {M : Nat} (h : ∀ r x, a.getD r none = some x → x ≤ M) : seen (M + 1) a = a := by
  refine ext_getD (seen_len ..) fun r hr => ?_
  rw [seen_at]
  cases e : a.getD r none with
  | none => rfl
  | some y => exact cutO_lt (Nat.lt_succ_of_le (h r y e))
/-! ### the greatest common divisor -/
def gcdAll (ls : List Nat) : Nat := ls.foldl Nat.gcd 0
theorem foldl_gcd_dvd : ∀ (ls : List Nat) (g : Nat), ls.foldl Nat.gcd g ∣ g ∧ ∀ l ∈ ls, ls.foldl Nat.gcd g ∣ l
  | [], g => ⟨Nat.dvd_refl _, (fun _ h => nomatch h)⟩
  | l :: ls, g => by
    obtain ⟨h1, h2⟩ := foldl_gcd_dvd ls (Nat.gcd g l)
    refine ⟨Nat.dvd_trans h1 (Nat.gcd_dvd_left g l), fun x hx => ?_⟩
    rcases List.mem_cons.mp hx with rfl | hx
    · exact Nat.dvd_trans h1 (Nat.gcd_dvd_right _ _)
    · exact h2 x hx
theorem dvd_foldl_gcd {d : Nat} : ∀ (ls : List Nat) (g : Nat), d ∣ g → (∀ l ∈ ls, d ∣ l) → d ∣ ls.foldl Nat.gcd g
  | [], g, h, _ => h
  | l :: ls, g, h, k => dvd_foldl_gcd ls (Nat.gcd g l) (Nat.dvd_gcd h (k l List.mem_cons_self)) fun x hx => k x (List.mem_cons_of_mem _ hx)
theorem gcdAll_dvd {ls : List Nat} {l : Nat} (h : l ∈ ls) : gcdAll ls ∣ l := (foldl_gcd_dvd ls 0).2 l h
theorem dvd_gcdAll {ls : List Nat} {d : Nat} (h : ∀ l ∈ ls, d ∣ l) : d ∣ gcdAll ls := dvd_foldl_gcd ls 0 (Nat.dvd_zero d) h
/-- those below n that pass, where the greatest that passes is g -/
theorem filter_top {p : Nat → Bool} {g : Nat} (hg : p g = true) (hno : ∀ i, g < i → p i = false) : ∀ n, g < n → (List.range n).filter p = (List.range g).filter p ++ [g]
  | 0, h => by omega
  | n + 1, h => by
    rw [List.range_succ, List.filter_append]
    by_cases e : g = n
    · subst e
      rw [List.filter_cons, hg]
      rfl
    · rw [filter_top hg hno n (by omega), List.filter_cons, hno n (by omega)]
      simp
end Ov
/-! Conductors and gaps -/
namespace Ov
theorem res_step {all : List Nat} {m : Nat} (hm : 0 < m) : ∀ (rest : List Nat) (g A : Nat), Sum all A → A % m = g % m → (∀ l ∈ rest, l ∈ all) → ∃ B, Sum all B ∧ B % m = (rest.foldl Nat.gcd g) % m
  | [], g, A, hA, e, _ => ⟨A, hA, e⟩
  | l :: rest, g, A, hA, e, hl => by
    obtain ⟨x, y, h⟩ := bezout g l
    have hm' : (m : Int) ≠ 0 := by omega
    have hx : 0 ≤ x % (m : Int) := Int.emod_nonneg _ hm'
    have hy : 0 ≤ y % (m : Int) := Int.emod_nonneg _ hm'
    have many : ∀ (k s : Nat), Sum all s → Sum all (k * s) := fun k s hs => by
      induction k with
      | zero => rw [Nat.zero_mul]; exact .zero
      | succ k ih => rw [Nat.succ_mul]; exact ih.plus hs
    refine res_step hm rest (Nat.gcd g l) ((x % (m : Int)).toNat * A + (y % (m : Int)).toNat * l) ((many _ _ hA).plus (Sum.times (hl l List.mem_cons_self) _)) ?_ fun z hz => hl z (List.mem_cons_of_mem _ hz)
    have e' : (A : Int) % (m : Int) = (g : Int) % (m : Int) := by exact_mod_cast e
    have key : ((((x % (m : Int)).toNat * A + (y % (m : Int)).toNat * l : Nat) : Int)) % (m : Int) = ((Nat.gcd g l : Nat) : Int) % (m : Int) := by
      rw [Int.natCast_add, Int.natCast_mul, Int.natCast_mul, Int.toNat_of_nonneg hx, Int.toNat_of_nonneg hy, ← h]
      rw [Int.add_emod, Int.mul_emod (x % m), Int.emod_emod_of_dvd _ (Int.dvd_refl _), e', ← Int.mul_emod, Int.mul_emod (y % m), Int.emod_emod_of_dvd _ (Int.dvd_refl _), ← Int.mul_emod, ← Int.add_emod]
    exact_mod_cast key
theorem res_all {m : Nat} {rest : List Nat} (hm : 0 < m) (hg : gcdAll (m :: rest) = 1) (r : Nat) : ∃ s, Sum (m :: rest) s ∧ s % m = r % m := by
  have e0 : gcdAll (m :: rest) = rest.foldl Nat.gcd m := by
    unfold gcdAll
    rw [List.foldl_cons, Nat.gcd_zero_left]
  obtain ⟨B, hB, eB⟩ := res_step (all := m :: rest) hm rest m m (by have := Sum.times (ls := m :: rest) (List.mem_cons_self (a := m) (l := rest)) 1; rwa [Nat.one_mul] at this) rfl fun l hl => List.mem_cons_of_mem _ hl
  rw [← e0, hg] at eB
  refine ⟨r * B, ?_, ?_⟩
  · induction r with
    | zero => rw [Nat.zero_mul]; exact .zero
    | succ r ih => rw [Nat.succ_mul]; exact ih.plus hB
  · rw [Nat.mul_mod, eB, ← Nat.mul_mod, Nat.mul_one]
/-- every remainder is reached: the list holds numbers alone -/
theorem rep_full {m : Nat} {rest : List Nat} (hm : 0 < m) (hg : gcdAll (m :: rest) = 1) {a : List (Option Nat)} (h : Rep (Sum (m :: rest)) a) (hl : a.length = m) : ∃ xs : List Nat, a = xs.map some ∧ xs.length = m ∧ ∀ (r : Nat) (hr : r < xs.length), xs[r] % m = r ∧ Sum (m :: rest) xs[r] := by
  have hall : ∀ (r : Nat) (hr : r < a.length), ∃ x, a[r] = some x := fun r hr => by
    obtain ⟨s, hs, e⟩ := res_all hm hg r
    obtain ⟨x, hx, _⟩ := h.least s hs
    rw [hl, e, Nat.mod_eq_of_lt (by omega), List.getD_eq_getElem?_getD, List.getElem?_eq_getElem hr] at hx
    exact ⟨x, hx⟩
  have e : a = (a.map fun o => o.getD 0).map some := by
    refine List.ext_getElem (by simp) fun i h1 h2 => ?_
    obtain ⟨x, hx⟩ := hall i h1
    simp [hx]
  refine ⟨a.map fun o => o.getD 0, e, by rw [List.length_map, hl], fun r hr => ?_⟩
  rw [List.length_map] at hr
  obtain ⟨x, hx⟩ := hall r hr
  obtain ⟨s1, s2⟩ := h.sound r x (by rw [List.getD_eq_getElem?_getD, List.getElem?_eq_getElem hr, hx]; rfl)
  rw [hl] at s2
  have ex : (a.map fun o => o.getD 0)[r]'(by rw [List.length_map]; exact hr) = x := by simp [hx]
  rw [ex]
  exact ⟨s2, s1⟩
theorem sum_iff_le {m : Nat} {rest : List Nat} (hm : 0 < m) {xs : List Nat} (h : Rep (Sum (m :: rest)) (xs.map some)) (hl : xs.length = m) (w : Nat) (hw : w % m < xs.length) : Sum (m :: rest) w ↔ xs[w % m] ≤ w := by
  have := h.iff (fun x hx => by rw [List.length_map, hl]; exact .add List.mem_cons_self hx) w
  rw [← this]
  unfold reached
  rw [List.length_map, hl, if_neg (by omega), List.getD_eq_getElem?_getD, List.getElem?_map, List.getElem?_eq_getElem hw]
  show decide (xs[w % m] ≤ w) = true ↔ _
  exact decide_eq_true_iff
/-! ### the greatest -/
theorem foldl_max_ge : ∀ (l : List Nat) (n : Nat), n ≤ l.foldl max n ∧ ∀ x ∈ l, x ≤ l.foldl max n
  | [], n => ⟨Nat.le_refl _, (fun _ h => nomatch h)⟩
  | y :: l, n => by
    obtain ⟨h1, h2⟩ := foldl_max_ge l (max n y)
    refine ⟨Nat.le_trans (Nat.le_max_left n y) h1, fun x hx => ?_⟩
    rcases List.mem_cons.mp hx with rfl | hx
    · exact Nat.le_trans (Nat.le_max_right n x) h1
    · exact h2 x hx
theorem foldl_max_mem : ∀ (l : List Nat) (n : Nat), l.foldl max n = n ∨ l.foldl max n ∈ l
  | [], n => .inl rfl
  | y :: l, n => by
    rcases foldl_max_mem l (max n y) with h | h
    · rw [List.foldl_cons, h]
      rcases Nat.le_total n y with c | c
      · rw [Nat.max_eq_right c]; exact .inr List.mem_cons_self
      · rw [Nat.max_eq_left c]; exact .inl rfl
    · exact .inr (List.mem_cons_of_mem _ h)
def top' : List Nat → Nat
  | [] => 0
  | x :: l => l.foldl max x
theorem top_ge {l : List Nat} {x : Nat} (h : x ∈ l) : x ≤ top' l := by
  cases l with
  | nil => cases h
  | cons y l =>
    rcases List.mem_cons.mp h with rfl | h
    · exact (foldl_max_ge l _).1
    · exact (foldl_max_ge l _).2 x h
theorem top_mem {l : List Nat} (h : l ≠ []) : top' l ∈ l := by
  cases l with
  | nil => exact absurd rfl h
  | cons y l =>
    rcases foldl_max_mem l y with e | e
    · show l.foldl max y ∈ _
      rw [e]; exact List.mem_cons_self
    · exact List.mem_cons_of_mem _ e
/-! ### gaps -/
/-- so many below N, of those with remainder r, are below x -/
def cnt (m N r x : Nat) : Nat := (min N x + (m - 1 - r)) / m
theorem cnt_step {m N r x : Nat} (hm : 0 < m) (hr : r < m) (hx : x % m = r) : cnt m (N + 1) r x = cnt m N r x + (if N % m = r ∧ N < x then 1 else 0) := by
  unfold cnt
  by_cases c : N < x
  · rw [Nat.min_eq_left (show N + 1 ≤ x from c), Nat.min_eq_left (Nat.le_of_lt c), show N + 1 + (m - 1 - r) = (N + (m - 1 - r)) + 1 by omega, Nat.succ_div]
    have e : m ∣ N + (m - 1 - r) + 1 ↔ N % m = r := by
      rw [show N + (m - 1 - r) + 1 = N + (m - r) by omega]
      constructor
      · intro ⟨k, hk⟩
        have h1 : N = (k - 1) * m + r := by
          have hk0 : 0 < k := by
            rcases Nat.eq_zero_or_pos k with z | z
            · rw [z] at hk; omega
            · exact z
          have : m * k = m * (k - 1) + m := by
            rw [← Nat.mul_succ]
            congr 1
            omega
          rw [Nat.mul_comm (k - 1) m]
          omega
        rw [h1, Nat.add_comm, Nat.add_mul_mod_self_right, Nat.mod_eq_of_lt hr]
      · intro h
        refine ⟨N / m + 1, ?_⟩
        have d := Nat.div_add_mod N m
        rw [h] at d
        rw [Nat.mul_succ]
        omega
    by_cases d : N % m = r
    · rw [if_pos (e.mpr d), if_pos ⟨d, c⟩]
    · rw [if_neg (fun z => d (e.mp z)), if_neg (fun z => d z.1)]
  · rw [Nat.min_eq_right (show x ≤ N + 1 by omega), Nat.min_eq_right (show x ≤ N by omega), if_neg (fun z => c z.2)]
    rfl
theorem cnt_end {m N r x : Nat} (hm : 0 < m) (hr : r < m) (hx : x % m = r) (hN : x ≤ N) : cnt m N r x = x / m := by
  unfold cnt
  rw [Nat.min_eq_right hN]
  have d := Nat.div_add_mod x m
  rw [hx] at d
  rw [show x + (m - 1 - r) = (m - 1) + x / m * m by rw [Nat.mul_comm]; omega, Nat.add_mul_div_right _ _ hm, Nat.div_eq_of_lt (by omega), Nat.zero_add]
theorem cnt_zero {m r x : Nat} (hm : 0 < m) : cnt m 0 r x = 0 := by
  unfold cnt
  rw [Nat.zero_min, Nat.zero_add]
  exact Nat.div_eq_of_lt (by omega)
theorem sum_zero : ∀ {l : List Nat}, (∀ x ∈ l, x = 0) → l.sum = 0
  | [], _ => rfl
  | x :: l, h => by
    rw [List.sum_cons, h x List.mem_cons_self, sum_zero fun y hy => h y (List.mem_cons_of_mem _ hy)]
theorem sum_one (j y : Nat) (f : Nat → Bool) : ∀ n, j < n → ((List.range n).map fun r => if j = r ∧ f r = true then 1 else 0).sum = if f j = true then 1 else 0
  | 0, h => by omega
  | n + 1, h => by
    rw [List.range_succ, List.map_append, List.sum_append]
    by_cases e : j = n
    · subst e
      have z : ((List.range j).map fun r => if j = r ∧ f r = true then 1 else 0).sum = 0 := by
        apply sum_zero
        intro x hx
        obtain ⟨r, hr, rfl⟩ := List.mem_map.mp hx
        have := List.mem_range.mp hr
        rw [if_neg (fun z => by omega)]
      rw [z]
      by_cases c : f j = true <;> simp [c]
    · rw [sum_one j y f n (by omega)]
      simp [e]
theorem map_sum_add (f g : Nat → Nat) : ∀ l : List Nat, (l.map fun r => f r + g r).sum = (l.map f).sum + (l.map g).sum
  | [] => rfl
  | x :: l => by
    rw [List.map_cons, List.map_cons, List.map_cons, List.sum_cons, List.sum_cons, List.sum_cons, map_sum_add f g l]
    omega
/-- the gaps below N, counted by remainders -/
theorem gaps_cnt {m : Nat} (hm : 0 < m) {xs : List Nat} (hl : xs.length = m) (hx : ∀ (r : Nat) (hr : r < xs.length), xs[r] % m = r) (p : Nat → Bool) (hp : ∀ w (h : w % m < xs.length), p w = decide (w < xs[w % m])) :
    ∀ N, ((List.range N).filter p).length = ((List.range m).map fun r => cnt m N r (xs.getD r 0)).sum
  | 0 => by
    have : ((List.range m).map fun r => cnt m 0 r (xs.getD r 0)).sum = 0 := by
      apply sum_zero
      intro x hx
      obtain ⟨r, _, rfl⟩ := List.mem_map.mp hx
      exact cnt_zero hm
    rw [this]; rfl
  | N + 1 => by
    have ih := gaps_cnt hm hl hx p hp N
    rw [List.range_succ, List.filter_append, List.length_append, ih]
    have e1 : ((List.range m).map fun r => cnt m (N + 1) r (xs.getD r 0)) = (List.range m).map fun r => cnt m N r (xs.getD r 0) + (if N % m = r ∧ decide (N < xs.getD r 0) = true then 1 else 0) := by
      refine List.map_congr_left fun r hr => ?_
      have hrm := List.mem_range.mp hr
      have hg : xs.getD r 0 = xs[r]'(by omega) := by rw [List.getD_eq_getElem?_getD, List.getElem?_eq_getElem (by omega)]; rfl
      rw [cnt_step hm hrm (by rw [hg]; exact hx r (by omega))]
      simp only [decide_eq_true_eq]
    rw [e1, map_sum_add, sum_one (N % m) 0 (fun r => decide (N < xs.getD r 0)) m (Nat.mod_lt _ hm)]
    congr 1
    have hw : N % m < xs.length := by rw [hl]; exact Nat.mod_lt _ hm
    have hg : xs.getD (N % m) 0 = xs[N % m] := by rw [List.getD_eq_getElem?_getD, List.getElem?_eq_getElem hw]; rfl
    rw [List.filter_cons, hp N hw, hg]
    by_cases c : N < xs[N % m] <;> simp [c]
theorem range_getD (xs : List Nat) (f : Nat → Nat) : ((List.range xs.length).map fun r => f (xs.getD r 0)) = xs.map f := by
  refine List.ext_getElem (by simp) fun i h1 h2 => ?_
  have hi : i < xs.length := by simpa using h2
  simp [hi]
theorem gaps_len {m : Nat} (hm : 0 < m) {xs : List Nat} (hl : xs.length = m) (hx : ∀ (r : Nat) (hr : r < xs.length), xs[r] % m = r) (p : Nat → Bool) (hp : ∀ w (h : w % m < xs.length), p w = decide (w < xs[w % m])) {N : Nat} (hN : ∀ x ∈ xs, x ≤ N) :
    ((List.range N).filter p).length = (xs.map (· / m)).sum := by
  rw [gaps_cnt hm hl hx p hp N]
  have : ((List.range m).map fun r => cnt m N r (xs.getD r 0)) = (List.range xs.length).map fun r => (xs.getD r 0) / m := by
    rw [hl]
    refine List.map_congr_left fun r hr => ?_
    have hrm := List.mem_range.mp hr
    have hg : xs.getD r 0 = xs[r]'(by omega) := by rw [List.getD_eq_getElem?_getD, List.getElem?_eq_getElem (by omega)]; rfl
    rw [hg]
    exact cnt_end hm hrm (hx r (by omega)) (hN _ (List.getElem_mem _))
  rw [this, range_getD xs (· / m)]
/-- the last gap, or none -/
theorem gaps_last {m : Nat} (hm : 0 < m) {xs : List Nat} (hl : xs.length = m) (hx : ∀ (r : Nat) (hr : r < xs.length), xs[r] % m = r) (p : Nat → Bool) (hp : ∀ w (h : w % m < xs.length), p w = decide (w < xs[w % m])) {N : Nat} (hN : ∀ x ∈ xs, x ≤ N) :
    (top' xs < m ∧ top' xs + 1 = m ∧ (List.range N).filter p = []) ∨ (m ≤ top' xs ∧ (List.range N).filter p = (List.range (top' xs - m)).filter p ++ [top' xs - m]) := by
  have hne : xs ≠ [] := fun z => by rw [z] at hl; exact absurd hl (by simp; omega)
  have htm := top_mem hne
  obtain ⟨r, hr, er⟩ := List.mem_iff_getElem.mp htm
  have hmod : top' xs % m = r := by rw [← er]; exact hx r hr
  have gap : ∀ w, p w = true → w + m ≤ top' xs := fun w hw => by
    have hwm : w % m < xs.length := by rw [hl]; exact Nat.mod_lt _ hm
    rw [hp w hwm] at hw
    have h1 := of_decide_eq_true hw
    have h2 := hx (w % m) hwm
    have h3 := top_ge (List.getElem_mem hwm)
    have d1 := Nat.div_add_mod w m
    have d2 := Nat.div_add_mod xs[w % m] m
    rw [h2] at d2
    have h4 : w / m < xs[w % m] / m := by
      rcases Nat.lt_or_ge (w / m) (xs[w % m] / m) with c | c
      · exact c
      · have := Nat.mul_le_mul_left m c
        omega
    have h5 : m * (w / m + 1) ≤ m * (xs[w % m] / m) := Nat.mul_le_mul_left m h4
    rw [Nat.mul_succ] at h5
    omega
  rcases Nat.lt_or_ge (top' xs) m with c | c
  · refine .inl ⟨c, ?_, ?_⟩
    · have h1 := hx (m - 1) (by omega)
      have h2 := top_ge (List.getElem_mem (show m - 1 < xs.length by omega))
      have h3 : m - 1 ≤ xs[m - 1]'(by omega) := by
        have h4 := Nat.mod_le (xs[m - 1]'(by omega)) m
        omega
      omega
    · rw [List.filter_eq_nil_iff]
      intro w _ hw
      have := gap w hw
      omega
  · refine .inr ⟨c, filter_top ?_ (fun i hi => ?_) N ?_⟩
    · have hw : (top' xs - m) % m = r := by
        rw [← hmod]
        conv => rhs; rw [← Nat.sub_add_cancel c, Nat.add_mod_right]
      rw [hp _ (by rw [hw]; exact hr)]
      refine decide_eq_true ?_
      have same : ∀ (i : Nat) (hi : i < xs.length), i = r → xs[i] = top' xs := fun i hi e => by subst e; exact er
      have := same _ (by rw [hw]; exact hr) hw
      omega
    · cases e : p i with
      | false => rfl
      | true =>
        have := gap i e
        omega
    · have := hN _ htm
      omega
end Ov
/-! ### decoding: countdowns and starts, byte by byte -/
namespace Ov
section
variable (la : Int → Nat)
/-- what a byte makes of a countdown -/
def cdStep : Option Nat → Int → Option Nat
  | none, _ => none
  | some 0, b => if la b = 0 then none else some (la b - 1)
  | some (l + 1), _ => some l
def cdEnd (s : Option Nat) (bs : List Int) : Option Nat := bs.foldl (cdStep la) s
def stF (k : Nat) (s : Option Nat) : List Int → List Nat
  | [] => []
  | b :: bs => (if s = some 0 ∧ 0 < la b then [k] else []) ++ stF (k + 1) (cdStep la s b) bs
/-- the offset of the invalid byte -/
def spF (k : Nat) (s : Option Nat) : List Int → Option Nat
  | [] => none
  | b :: bs => if s = some 0 ∧ la b = 0 then some k else spF (k + 1) (cdStep la s b) bs
variable {la}
theorem cdEnd_nil (s : Option Nat) : cdEnd la s [] = s := rfl
theorem cdEnd_cons (s : Option Nat) (b : Int) (bs : List Int) : cdEnd la s (b :: bs) = cdEnd la (cdStep la s b) bs := rfl
theorem cdEnd_app (s : Option Nat) (as bs : List Int) : cdEnd la s (as ++ bs) = cdEnd la (cdEnd la s as) bs := by
  unfold cdEnd; rw [List.foldl_append]
theorem stF_app (k : Nat) (s : Option Nat) (as bs : List Int) : stF la k s (as ++ bs) = stF la k s as ++ stF la (k + as.length) (cdEnd la s as) bs := by
  induction as generalizing k s with
  | nil => rfl
  | cons a as ih =>
    show _ ++ stF la (k + 1) _ (as ++ bs) = (_ ++ stF la (k + 1) _ as) ++ _
    rw [ih, List.append_assoc, List.length_cons, cdEnd_cons, show k + 1 + as.length = k + (as.length + 1) by omega]
theorem stF_one (k : Nat) (s : Option Nat) (b : Int) : stF la k s [b] = if s = some 0 ∧ 0 < la b then [k] else [] := by
  show (if s = some 0 ∧ 0 < la b then [k] else []) ++ [] = _
  rw [List.append_nil]
theorem stF_snoc (k : Nat) (s : Option Nat) (as : List Int) (b : Int) : stF la k s (as ++ [b]) = stF la k s as ++ if cdEnd la s as = some 0 ∧ 0 < la b then [k + as.length] else [] := by
  rw [stF_app, stF_one]
theorem cdEnd_snoc (s : Option Nat) (as : List Int) (b : Int) : cdEnd la s (as ++ [b]) = cdStep la (cdEnd la s as) b := cdEnd_app s as [b]
/-- bytes of an instruction that is being read -/
theorem cdEnd_pass (m : Nat) (pre post : List Int) : cdEnd la (some (pre.length + m)) (pre ++ post) = cdEnd la (some m) post := by
  induction pre with
  | nil => rw [List.length_nil, Nat.zero_add]; rfl
  | cons a pre ih =>
    rw [List.length_cons, show pre.length + 1 + m = pre.length + m + 1 by omega]
    show cdEnd la (some (pre.length + m)) (pre ++ post) = _
    exact ih
theorem stF_pass (k m : Nat) (pre post : List Int) : stF la k (some (pre.length + m)) (pre ++ post) = stF la (k + pre.length) (some m) post := by
  induction pre generalizing k with
  | nil => rw [List.length_nil, Nat.zero_add]; rfl
  | cons a pre ih =>
    rw [List.length_cons, show pre.length + 1 + m = pre.length + m + 1 by omega]
    show (if some (pre.length + m + 1) = some 0 ∧ 0 < la a then [k] else []) ++ stF la (k + 1) (some (pre.length + m)) (pre ++ post) = _
    rw [if_neg (by rintro ⟨e, _⟩; cases e), List.nil_append, ih, show k + 1 + pre.length = k + (pre.length + 1) by omega]
theorem cdEnd_none (bs : List Int) : cdEnd la none bs = none := by
  induction bs with
  | nil => rfl
  | cons b bs ih => exact ih
theorem stF_none (k : Nat) (bs : List Int) : stF la k none bs = [] := by
  induction bs generalizing k with
  | nil => rfl
  | cons b bs ih =>
    show (if (none : Option Nat) = some 0 ∧ 0 < la b then [k] else []) ++ stF la (k + 1) none bs = []
    rw [if_neg (by rintro ⟨e, _⟩; cases e), List.nil_append, ih]
theorem cd_over {o : Nat} {bs : List Int} (h : bs.length ≤ o) : cdEnd la (some o) bs = some (o - bs.length) := by
  have := cdEnd_pass (la := la) (o - bs.length) bs []
  rw [List.append_nil, show bs.length + (o - bs.length) = o by omega] at this
  exact this
theorem st_over {k o : Nat} {bs : List Int} (h : bs.length ≤ o) : stF la k (some o) bs = [] := by
  have := stF_pass (la := la) k (o - bs.length) bs []
  rw [List.append_nil, show bs.length + (o - bs.length) = o by omega] at this
  exact this
theorem split_at {bs : List Int} {o : Nat} {b : Int} (h : bs[o]? = some b) : bs = bs.take o ++ b :: bs.drop (o + 1) ∧ (bs.take o).length = o := by
  obtain ⟨hl, e⟩ := List.getElem?_eq_some_iff.mp h
  refine ⟨?_, by rw [List.length_take]; omega⟩
  rw [← e, List.getElem_cons_drop, List.take_append_drop]
theorem cd_step {bs : List Int} {o : Nat} {b : Int} (h : bs[o]? = some b) (hl : 0 < la b) : cdEnd la (some o) bs = cdEnd la (some (o + la b)) bs := by
  obtain ⟨e, l⟩ := split_at h
  have h1 := cdEnd_pass (la := la) 0 (bs.take o) (b :: bs.drop (o + 1))
  have h2 := cdEnd_pass (la := la) (la b) (bs.take o) (b :: bs.drop (o + 1))
  rw [← e, l] at h1 h2
  rw [h2, show o + 0 = o from rfl] at *
  rw [h1]
  obtain ⟨n, en⟩ : ∃ n, la b = n + 1 := ⟨la b - 1, by omega⟩
  rw [cdEnd_cons, cdEnd_cons, en]
  show cdEnd la (if la b = 0 then none else some (la b - 1)) _ = cdEnd la (some n) _
  rw [if_neg (by omega), en]
  rfl
theorem st_step {bs : List Int} {k o : Nat} {b : Int} (h : bs[o]? = some b) (hl : 0 < la b) : stF la k (some o) bs = (k + o) :: stF la k (some (o + la b)) bs := by
  obtain ⟨e, l⟩ := split_at h
  have h1 := stF_pass (la := la) k 0 (bs.take o) (b :: bs.drop (o + 1))
  have h2 := stF_pass (la := la) k (la b) (bs.take o) (b :: bs.drop (o + 1))
  rw [← e, l] at h1 h2
  rw [show o + 0 = o from rfl] at h1
  rw [h1, h2]
  obtain ⟨n, en⟩ : ∃ n, la b = n + 1 := ⟨la b - 1, by omega⟩
  show (if some 0 = some 0 ∧ 0 < la b then [k + o] else []) ++ stF la (k + o + 1) (if la b = 0 then none else some (la b - 1)) _ = (k + o) :: ((if some (la b) = some 0 ∧ 0 < la b then [k + o] else []) ++ stF la (k + o + 1) (cdStep la (some (la b)) b) _)
  rw [if_pos ⟨rfl, hl⟩, if_neg (by omega), if_neg (by rintro ⟨e, _⟩; rw [en] at e; cases e), en]
  rfl
theorem cd_stop {bs : List Int} {o : Nat} {b : Int} (h : bs[o]? = some b) (hl : la b = 0) : cdEnd la (some o) bs = none := by
  obtain ⟨e, l⟩ := split_at h
  have h1 := cdEnd_pass (la := la) 0 (bs.take o) (b :: bs.drop (o + 1))
  rw [← e, l, show o + 0 = o from rfl] at h1
  rw [h1, cdEnd_cons]
  show cdEnd la (if la b = 0 then none else some (la b - 1)) _ = none
  rw [if_pos hl, cdEnd_none]
theorem st_stop {bs : List Int} {k o : Nat} {b : Int} (h : bs[o]? = some b) (hl : la b = 0) : stF la k (some o) bs = [] := by
  obtain ⟨e, l⟩ := split_at h
  have h1 := stF_pass (la := la) k 0 (bs.take o) (b :: bs.drop (o + 1))
  rw [← e, l, show o + 0 = o from rfl] at h1
  rw [h1]
  show (if some 0 = some 0 ∧ 0 < la b then [k + o] else []) ++ stF la (k + o + 1) (if la b = 0 then none else some (la b - 1)) _ = []
  rw [if_neg (by omega), if_pos hl, stF_none]
  rfl
theorem spF_pass (k m : Nat) (pre post : List Int) : spF la k (some (pre.length + m)) (pre ++ post) = spF la (k + pre.length) (some m) post := by
  induction pre generalizing k with
  | nil => rw [List.length_nil, Nat.zero_add]; rfl
  | cons a pre ih =>
    rw [List.length_cons, show pre.length + 1 + m = pre.length + m + 1 by omega]
    show (if some (pre.length + m + 1) = some 0 ∧ la a = 0 then some k else spF la (k + 1) (some (pre.length + m)) (pre ++ post)) = _
    rw [if_neg (by rintro ⟨e, _⟩; cases e), ih, show k + 1 + pre.length = k + (pre.length + 1) by omega]
theorem sp_step {bs : List Int} {k o : Nat} {b : Int} (h : bs[o]? = some b) (hl : 0 < la b) : spF la k (some o) bs = spF la k (some (o + la b)) bs := by
  obtain ⟨e, l⟩ := split_at h
  have h1 := spF_pass (la := la) k 0 (bs.take o) (b :: bs.drop (o + 1))
  have h2 := spF_pass (la := la) k (la b) (bs.take o) (b :: bs.drop (o + 1))
  rw [← e, l] at h1 h2
  rw [show o + 0 = o from rfl] at h1
  rw [h1, h2]
  obtain ⟨n, en⟩ : ∃ n, la b = n + 1 := ⟨la b - 1, by omega⟩
  show (if some 0 = some 0 ∧ la b = 0 then some (k + o) else spF la (k + o + 1) (if la b = 0 then none else some (la b - 1)) _) = (if some (la b) = some 0 ∧ la b = 0 then some (k + o) else spF la (k + o + 1) (cdStep la (some (la b)) b) _)
  rw [if_neg (by omega), if_neg (by omega), if_neg (by rintro ⟨e, _⟩; rw [en] at e; cases e), en]
  rfl
theorem sp_stop {bs : List Int} {k o : Nat} {b : Int} (h : bs[o]? = some b) (hl : la b = 0) : spF la k (some o) bs = some (k + o) := by
  obtain ⟨e, l⟩ := split_at h
  have h1 := spF_pass (la := la) k 0 (bs.take o) (b :: bs.drop (o + 1))
  rw [← e, l, show o + 0 = o from rfl] at h1
  rw [h1]
  show (if some 0 = some 0 ∧ la b = 0 then some (k + o) else _) = _
  rw [if_pos ⟨rfl, hl⟩]
/-- an entry within the code -/
theorem cd_entry {e : Nat} {bs : List Int} (h : e ≤ bs.length) : cdEnd la (some e) bs = cdEnd la (some 0) (bs.drop e) := by
  have := cdEnd_pass (la := la) 0 (bs.take e) (bs.drop e)
  rw [List.take_append_drop, List.length_take, show min e bs.length + 0 = e by omega] at this
  exact this
theorem st_entry {e : Nat} {bs : List Int} (h : e ≤ bs.length) : stF la 0 (some e) bs = stF la e (some 0) (bs.drop e) := by
  have := stF_pass (la := la) 0 0 (bs.take e) (bs.drop e)
  rw [List.take_append_drop, List.length_take, show min e bs.length + 0 = e by omega, show 0 + min e bs.length = e by omega] at this
  exact this
/-- how a walk ends -/
structure Ended (la : Int → Nat) (bs : List Int) (e : Nat) (begun : List Nat) (fol : Nat) : Prop where
  st : begun = stF la 0 (some e) bs
  cd : cdEnd la (some e) bs = if fol < bs.length then none else some (fol - bs.length)
  stop : fol < bs.length → ∃ b, bs[fol]? = some b ∧ la b = 0
  last : bs.length < fol → e ≤ bs.length → ∃ o b, begun.getLast? = some o ∧ bs[o]? = some b ∧ fol = o + la b
  lt : ∀ o ∈ begun, o < bs.length ∧ ∃ b, bs[o]? = some b ∧ 0 < la b
  sp : fol < bs.length → spF la 0 (some e) bs = some fol
/-- a walk under way -/
structure Going (la : Int → Nat) (bs : List Int) (e : Nat) (begun : List Nat) (o : Nat) : Prop where
  st : stF la 0 (some e) bs = begun ++ stF la 0 (some o) bs
  cd : cdEnd la (some e) bs = cdEnd la (some o) bs
  last : bs.length < o → e ≤ bs.length → ∃ q b, begun.getLast? = some q ∧ bs[q]? = some b ∧ o = q + la b
  lt : ∀ q ∈ begun, q < bs.length ∧ ∃ b, bs[q]? = some b ∧ 0 < la b
  few : begun.length ≤ bs.length - e ∧ (bs.length - o) + begun.length ≤ bs.length - e
  sp : spF la 0 (some e) bs = spF la 0 (some o) bs
theorem Going.start (bs : List Int) (e : Nat) : Going la bs e [] e :=
  ⟨rfl, rfl, fun h1 h2 => absurd h1 (by omega), (fun _ h => nomatch h), by simp, rfl⟩
theorem Going.step {bs : List Int} {e o : Nat} {begun : List Nat} (g : Going la bs e begun o) {b : Int} (h : bs[o]? = some b) (hl : 0 < la b) : Going la bs e (begun ++ [o]) (o + la b) := by
  have ho := (List.getElem?_eq_some_iff.mp h).1
  refine ⟨?_, ?_, fun _ _ => ⟨o, b, by simp, h, rfl⟩, fun q hq => ?_, ?_, by rw [g.sp, sp_step h hl]⟩
  · rw [g.st, st_step h hl, Nat.zero_add, List.append_assoc]; rfl
  · rw [g.cd, cd_step h hl]
  · rcases List.mem_append.mp hq with hq | hq
    · exact g.lt q hq
    · rw [List.mem_singleton.mp hq]
      exact ⟨ho, b, h, hl⟩
  · have := g.few
    rw [List.length_append, List.length_singleton]
    omega
theorem Going.over {bs : List Int} {e o : Nat} {begun : List Nat} (g : Going la bs e begun o) (h : bs.length ≤ o) : Ended la bs e begun o :=
  ⟨by rw [g.st, st_over h, List.append_nil], by rw [g.cd, cd_over h, if_neg (by omega)], fun z => absurd z (by omega), g.last, g.lt, fun z => absurd z (by omega)⟩
theorem Going.stop {bs : List Int} {e o : Nat} {begun : List Nat} (g : Going la bs e begun o) {b : Int} (h : bs[o]? = some b) (hl : la b = 0) : Ended la bs e begun o := by
  have ho := (List.getElem?_eq_some_iff.mp h).1
  exact ⟨by rw [g.st, st_stop h hl, List.append_nil], by rw [g.cd, cd_stop h hl, if_pos ho], fun _ => ⟨b, h, hl⟩, g.last, g.lt, fun _ => by rw [g.sp, sp_stop h hl, Nat.zero_add]⟩
theorem Ended.same {bs : List Int} {e : Nat} {b1 b2 : List Nat} {f1 f2 : Nat} (h1 : Ended la bs e b1 f1) (h2 : Ended la bs e b2 f2) : b1 = b2 ∧ f1 = f2 := by
  refine ⟨h1.st.trans h2.st.symm, ?_⟩
  have c := h1.cd.symm.trans h2.cd
  by_cases p1 : f1 < bs.length
  · by_cases p2 : f2 < bs.length
    · exact Option.some.inj ((h1.sp p1).symm.trans (h2.sp p2))
    · rw [if_pos p1, if_neg p2] at c; cases c
  · by_cases p2 : f2 < bs.length
    · rw [if_neg p1, if_pos p2] at c; cases c
    · rw [if_neg p1, if_neg p2] at c
      have := Option.some.inj c
      omega
/-! ### the countdowns of all offsets -/
variable (la)
def cds (s : Option Nat) (bs : List Int) : List (Option Nat) := (List.range (bs.length + 1)).map fun i => cdEnd la s (bs.take i)
variable {la}
theorem cds_len (s : Option Nat) (bs : List Int) : (cds la s bs).length = bs.length + 1 := by
  unfold cds; rw [List.length_map, List.length_range]
theorem cds_at {s : Option Nat} {bs : List Int} {i : Nat} (h : i ≤ bs.length) : (cds la s bs)[i]? = some (cdEnd la s (bs.take i)) := by
  unfold cds
  rw [List.getElem?_map, List.getElem?_range (by omega)]
  rfl
theorem cds_one (s : Option Nat) : cds la s [] = [s] := rfl
theorem cds_snoc (s : Option Nat) (bs : List Int) (b : Int) : cds la s (bs ++ [b]) = cds la s bs ++ [cdStep la (cdEnd la s bs) b] := by
  unfold cds
  rw [List.length_append, List.length_singleton, List.range_succ, List.map_append, List.map_singleton, ← List.length_singleton (a := b), ← List.length_append, List.take_length, cdEnd_snoc]
  congr 1
  refine List.map_congr_left fun i hi => ?_
  have := List.mem_range.mp hi
  rw [List.take_append_of_le_length (by rw [List.length_append, List.length_singleton] at this; omega)]
end
end Ov
namespace Ov
open PySem PySem.Spec PyProof.Rows L2
/-! ### heaps -/
theorem same_upd {H : Hp} {p : Addr} {o : HO} (h : H p = none) : Same H (upd H p o) := fun b x e => by
  rw [upd_ne (ne_of_none e h)]
  exact e
theorem _root_.L2.Same.tup {K : PySem.W.Frag} {H H' : Hp} {a : Addr} {xs : List V} (e : Same H H') (h : SqT K H a xs) : SqT K H' a xs := by
  rcases h with (h | ⟨o, h⟩) | h
  · exact .inl (.inl (e _ _ h))
  · exact .inl (.inr ⟨o, e _ _ h⟩)
  · exact .inr h
/-- a new list in the making at D: all that stood before stands, D is new and holds acc -/
structure Mk (H H' : Hp) (D : Addr) (acc : List V) : Prop where
  same : Same H H'
  new : H D = none
  at_ : H' D = some (.lst acc)
theorem Mk.start {H : Hp} {D : Addr} (h : H D = none) : Mk H (upd H D (.lst [])) D [] := ⟨same_upd h, h, upd_same⟩
theorem Mk.put {H H' H4 : Hp} {D : Addr} {acc acc' : List V} (m : Mk H H' D acc) (s : Same H' H4) : Mk H (upd H4 D (.lst acc')) D acc' :=
  ⟨fun b o e => by rw [upd_ne (ne_of_none e m.new)]; exact s _ _ (m.same _ _ e), m.new, upd_same⟩
/-- two tuples walked abreast -/
theorem walk_zipT {K : PySem.W.Frag} {a b : Addr} {xs ys : List V} {n : Nat} (hn : n = min xs.length ys.length) : Walk (RZ.ItzT K a b) n (fun H => SqT K H a xs ∧ SqT K H b ys) (YPair (fun i => xs[i]?) (fun i => ys[i]?)) := by
  subst hn
  refine ⟨fun i _ hi q => ?_, fun _ q => ⟨xs, ys, q.1, q.2, by omega⟩, fun i H v H' _ q y => ?_⟩
  · have h1 : i < xs.length := by omega
    have h2 : i < ys.length := by omega
    exact ⟨xs, ys, xs[i], ys[i], q.1, q.2, by simp [h1], by simp [h2]⟩
  · obtain ⟨T, x, z, h1, h2, h3, h4, h5⟩ := y
    exact ⟨T, x, z, h1, h2, h3, h4 xs q.1, h5 ys q.2⟩
theorem cut1 (xs : List V) : cutV xs (some 1) none = xs.drop 1 := by
  unfold cutV
  rw [show HT.sIx xs.length 0 (some 1) = min 1 xs.length from HT.sIx_nat xs.length 0 1, HT.sIx_none]
  cases xs with
  | nil => rfl
  | cons x r =>
    rw [show min 1 (x :: r).length = 1 by
      rw [List.length_cons]
      omega]
    show (List.take ((x :: r).length - 1) r) = r
    rw [List.length_cons, Nat.add_sub_cancel]
    exact List.take_length
theorem cut1_whole {xs : List V} (h : HT.sIx xs.length 0 (some 1) = 0 ∧ HT.sIx xs.length xs.length none = xs.length) : xs = [] := by
  have h1 := h.1
  rw [show HT.sIx xs.length 0 (some 1) = min 1 xs.length from HT.sIx_nat xs.length 0 1] at h1
  cases xs with
  | nil => rfl
  | cons x r => rw [List.length_cons] at h1; omega
/-! ### targets: two names -/
theorem pg_two {X : Cx} {x y : Str} {p1 p2 pos : Pos} {kk i j : Nat} (hc : X.calm = true) (hN : X.N.Nodup) (hi : X.N[i]? = some x) (hx : Loc X.env.scope x) (hfx : X.fn x = true ∨ X.env.scope.names.lookup x = some .local) (hj : X.N[j]? = some y) (hy : Loc X.env.scope y) (hfy : X.fn y = true ∨ X.env.scope.names.lookup y = some .local) :
    PG X (.Tuple [.Name x p1, .Name y p2] kk pos) (gTup X.K 2 (gCons (gName i) (gCons (gName j) gNil))) :=
  pg_tup hc (pgs_cons (pg_name hN hi hx hfx) (pgs_cons (pg_name hN hj hy hfy) pgs_nil))
/-! ### repr of a bool, a call by keywords alone -/
section
variable {X : Cx}
def boolText (b : Bool) : Str := if b then "True" else "False"
theorem call_repr_bool : CallR X (.builtin "repr") (fun xs H Q => ∃ b, xs = [.bl b] ∧ Q (.str (boolText b)) H) := by
  intro pins s σ H xs us Q I r h
  obtain ⟨b, rfl, q⟩ := h
  obtain ⟨u, rfl, rx⟩ := vals1 r
  cases (show u = Value.bool b from rx)
  exact PySem.P.repr_of_bool ⟨.str _, H, I.tok _, ⟨_, rfl⟩, q⟩
theorem boolText_inj {a b : Bool} : boolText a = boolText b ↔ a = b := by
  cases a <;> cases b <;> decide
variable {k : Nat} {f : Addr} {fd : FuncData} {ps ks : List Str} {sp : Sp} {CX : CXT} {E : XK} {x : Str} {p pos : Pos} {kws : List PySem.Keyword} {tk : TA} {g : List Value → List Value → List Value} {gV : List V → List V → List V}
theorem pe_callK0 (F : FnOk X.prog X.w X.K X.mg X.base CX k f fd ps sp) (hr : Room k X.A) (hg : Gl X x) (hm : X.mg x = some (.ref f)) (hk : PySem.W.keepIn X.K (.ref f) = true) (hb : KBinds X.K fd ps ks g gV) (hx : Passes CX X E)
    (hkw : PK X kws tk) (hall : (backToKw pos (keywordEach kws X.env)).all (·.1.isSome) = true := by rfl) (hks : (backToKw pos (keywordEach kws X.env)).filterMap (·.1) = ks := by rfl)
    (hdb : (x == ("__debug__" : Str)) = false := by decide)
    (hpl : ((backTo pos (starEach [] X.env)).any (·.1) || (backToKw pos (keywordEach kws X.env)).any (·.1.isNone)) = false := by rfl) :
    PE X (.Call (.Name x p) [] kws pos) (tCallK sp gV E tNil tk) := by
  refine ⟨fun pins s σ H Q I h => ?_⟩
  refine wpAny_Call_Name_kw (ld_glob I hg hm ?_ hdb)
  refine PySem.W.callWith_KW0 (h₀ := X.base) I.ok.mod.kin hk hall ?_ hpl
  refine thn (hkw.run pos pins s σ H _ I h) fun ws s2 ⟨zs, H2, I2, rz, q2⟩ => ⟨I2.kIn, ?_⟩
  rw [hks]
  exact run_fnk F hr hb hx I2 .nil rz q2
end
/-- two values by keywords, in the other order -/
def swap2 {α : Type} : List α → List α → List α
  | [], [a, b] => [b, a]
  | _, _ => []
theorem swap2_len {α : Type} {us ws : List α} (h : (swap2 us ws).length = 2) : ∃ a b, us = [] ∧ ws = [a, b] := by
  match us, ws, h with
  | [], [a, b], _ => exact ⟨a, b, rfl, rfl⟩
  | [], [], h => cases h
  | [], [_], h => cases h
  | [], _ :: _ :: _ :: _, h => cases h
  | _ :: _, _, h => cases h
theorem swap2_rel {vs : List V} {us : List Value} {zs : List V} {ws : List Value} (r : Vals vs us) (rz : Vals zs ws) : Vals (swap2 vs zs) (swap2 us ws) := by
  cases r with
  | nil =>
    cases rz with
    | nil => exact .nil
    | cons r1 rz =>
      cases rz with
      | nil => exact .nil
      | cons r2 rz =>
        cases rz with
        | nil => exact .cons r2 (.cons r1 .nil)
        | cons r3 rz => exact .nil
  | cons r1 r => exact .nil
/-- the built-in names that the text leaves alone -/
structure Bi (mg : Str → Option Value) : Prop where
  isi : mg "isinstance" = none
  int : mg "int" = none
  bool : mg "bool" = none
  tuple : mg "tuple" = none
  list : mg "list" = none
  all : mg "all" = none
  any : mg "any" = none
  zip : mg "zip" = none
  len : mg "len" = none
  range : mg "range" = none
  abs : mg "abs" = none
  sorted : mg "sorted" = none
  min : mg "min" = none
  repr : mg "repr" = none
  max : mg "max" = none
  sum : mg "sum" = none
  enumerate : mg "enumerate" = none
  str : mg "str" = none
  set : mg "set" = none
  dict : mg "dict" = none
  vErr : mg "ValueError" = none
/-! ### small things -/
/-- where a def stands, and that its name tells it -/
structure Def (K : PySem.W.Frag) (mg : Str → Option Value) (x : Str) (st : Stmt) (f : Addr) (fd : FuncData) (ps : List Str) : Prop where
  fn : Fun K x x st f fd
  gl : mg x = some (.ref f)
  bi : Binds K fd ps []
theorem ixN_at {n j : Nat} (hj : j < n) : ixN n (j : Int) = some j := by
  unfold ixN
  rw [if_pos (by omega), if_pos (by omega)]
  simp
theorem flat_rep {α : Type} (x : α) : ∀ n : Nat, (List.replicate n [x]).flatten = List.replicate n x
  | 0 => rfl
  | n + 1 => by rw [List.replicate_succ, List.flatten_cons, flat_rep x n, List.replicate_succ]; rfl
theorem take_more {α : Type} {l : List α} {i : Nat} {x : α} (h : l[i]? = some x) : l.take (i + 1) = l.take i ++ [x] := by
  rw [List.take_add_one, h]; rfl
theorem all_true (n : Nat) : (List.replicate n true).all id = true := by
  rw [List.all_eq_true]
  intro x hx
  exact (List.mem_replicate.mp hx).2
end Ov
namespace Ov
open PySem PySem.Spec PyProof.Rows L2
/-! ### defs that are called where no repr is under way: what they show of lists and tuples is then known -/
/-- the promise of a def, for calls under no guard -/
structure FnG (P : Program) (w : World) (K : PySem.W.Frag) (mg : Str → Option Value) (base : Heap) (k : Nat) (f : Addr) (fd : FuncData) (ps : List Str) (sp : Sp) : Prop where
  len : ∀ vs H Q E, sp vs H Q E → vs.length = ps.length
  run : ∀ (A : Around) (outer : List Env) (s : Shared) (H : Hp) (args : Args) (us : List Value) (vs : List V) (Q : VK) (E : XK),
    A.guards = some [] → Room k A → Env0 P w K mg base A outer s H → BindsTo s fd args (ps.zip us) → Vals vs us → sp vs H Q E →
    codeAny (model P w) A (.call (.ref f) args) (CR CX0 outer P w H s Q E) s
section
variable {P : Program} {w : World} {K : PySem.W.Frag} {mg : Str → Option Value} {base : Heap}
theorem okG {x qual : Str} {st : Stmt} {f : Addr} {fd : FuncData} {N ps : List Str} {k : Nat} {sp : Sp} (F : Fun K x qual st f fd) (S : FnScope N ps (defScope st)) (len : ∀ vs H Q E, sp vs H Q E → vs.length = ps.length)
    (body : ∀ (cdv : Value) (A : Around) (outer : List Env) (s : Shared) (H : Hp) (vs : List V) (Q : VK) (E : XK), A.guards = some [] → Room k (A.deeper (envOfC qual (defScope st) s.heap.objs.size f cdv)) → sp vs H Q E →
      ∃ t, PSs (cxOf CX0 P w K mg base N qual (defScope st) f cdv A outer s H E).nox (defBody st) t ∧ t { nx := fun _ H' => Q .non H', rt := Q } (start N vs) H) :
    FnG P w K mg base (k + 1) f fd ps sp := by
  obtain ⟨oc, od, kV, doc, pm, an, cdv, ct, osl, rfl, lk, hcd⟩ := F.ex
  constructor
  · exact len
  intro A outer s H args us vs Q E gd room env bnd rel pr
  obtain ⟨t, walk, reads⟩ := body cdv A outer s H vs Q E gd (room.deeper _) pr
  have down : ∀ b o, base.get? b = some o → s.heap.get? b = some o := fun b o e => (env.bs b o e).1
  have kin := env.mod.kin.keeps down
  have kinds : ∀ y ∈ ps.zip us, (defScope st).names.lookup y.1 = some .local ∨ ((defScope st).names.lookup y.1 = some .cell ∧ ((cellsFrom (s.heap.objs.size + 1) (defScope st).names []).lookup y.1).isSome = true) := by
    rintro ⟨y, v⟩ hy
    have hm := (List.of_mem_zip hy).1
    exact (S.par y hm).imp id fun q => ⟨q, PySem.W.cellsFrom_some _ _ _ (.inl q)⟩
  refine codeAny_call_function room.depth (kin _ _ lk) rfl S.co S.gen rfl (PySem.W.codeRec_of kin hcd) (bnd _ _ _ _ (wpAny_newFunctionEnv_cells S.kind kinds ?_))
  rintro env' rfl s1 ic
  refine ⟨(env.mod.nolimit.keeps down).keeps ic.toInCall.keep, codeAny_func (wpAny_mono (walk.nox.run [] s1 (start N vs) H _ (inv_start S room.hd env (len _ _ _ _ pr) rel ic) reads) ?_ fun _ _ h => h)⟩
  intro fl s' h
  cases fl with
  | brk => obtain ⟨_, _, _, q⟩ := h; exact q.elim
  | cont => obtain ⟨_, _, _, q⟩ := h; exact q.elim
  | next => obtain ⟨_, H', J, q⟩ := h; exact ⟨.non, H', J.os, J.bare, J.base, J.hok, rfl, q⟩
  | ret u => obtain ⟨v, _, H', J, rv, q⟩ := h; exact ⟨v, H', J.os, J.bare, J.base, J.hok, rv, q⟩
/-- a def that keeps its promise anywhere keeps it there -/
theorem FnG.of {k : Nat} {f : Addr} {fd : FuncData} {ps : List Str} {sp : Sp} (F : FnOk P w K mg base CX0 k f fd ps sp) : FnG P w K mg base k f fd ps sp :=
  ⟨F.len, fun A outer s H args us vs Q E _ => F.run A outer s H args us vs Q E⟩
end
section
variable {X : Cx} {k : Nat} {f : Addr} {fd : FuncData} {ps : List Str} {sp : Sp} {x : Str} {p pos : Pos} {e : Expr} {es : List Expr} {t : TA} {ds : List Value} {dvs : List V}
/-- such a def called by its name -/
theorem pe_callG (F : FnG X.prog X.w X.K X.mg X.base k f fd ps sp) (gd : X.A.guards = some []) (room : Room k X.A) (hg : Gl X x) (hm : X.mg x = some (.ref f)) (hk : PySem.W.keepIn X.K (.ref f) = true) (bi : Binds X.K fd ps [])
    (ha : PA X (e :: es) t) (hdb : (x == ("__debug__" : Str)) = false := by decide) (he : starEach (e :: es) X.env = (false, eval e X.env) :: starEach es X.env := by rfl) (hpl : (backTo pos (starEach es X.env)).any (·.1) = false := by rfl) :
    PE X (.Call (.Name x p) (e :: es) [] pos) (tCall sp [] E0 t) := by
  constructor
  intro pins s σ H Q I h
  refine wpAny_Call_Name_kw (ld_glob I hg hm (PySem.W.callWith_K (h₀ := X.base) I.ok.mod.kin hk (thn (ha.run pos pins s σ H _ I h) ?_) he hpl) hdb)
  rintro us s1 ⟨vs, H1, I1, r, q⟩
  have pr : sp vs H1 Q E0 := by
    have z : sp (vs ++ []) H1 Q E0 := q
    rwa [List.append_nil] at z
  have hl : us.length = ps.length := by rw [← r.length]; exact F.len _ _ _ _ pr
  have bt := bi s1 us I1.kIn (by simpa using hl)
  rw [List.append_nil] at bt
  refine ⟨I1.kIn, wpAny_call (codeAny_mono (F.run X.A X.stack s1 H1 ⟨us, []⟩ us vs Q E0 gd room I1.env0 bt r pr) ?_)⟩
  intro rs s' hq
  match rs, hq with
  | .error e, hq => exact (show False from hq).elim
  | .ok (.ret u), hq => exact I1.after hq
  | .ok .next, hq => exact (show False from hq).elim
  | .ok .brk, hq => exact (show False from hq).elim
  | .ok .cont, hq => exact (show False from hq).elim
/-- what is shown of lists and tuples of any depth -/
theorem call_repr_data (gd : X.A.guards = some []) (room : Room k X.A) : CallR X (.builtin "repr") (fun xs H Q => ∃ a d, xs = [.ref a] ∧ Dp X.K H (.ref a) d ∧ d.showable = true ∧ d.hasDict = false ∧ d.depth ≤ 60 ∧ d.shown.length ≤ sizeLine ∧ Q (.str d.shown) H) := by
  intro pins s σ H xs us Q I r h
  obtain ⟨a, d, rfl, hd, sh, nod, dep, sz, q⟩ := h
  obtain ⟨u, rfl, rx⟩ := vals1 r
  cases (show u = Value.ref a from rx)
  obtain ⟨as, rd⟩ := Dp.reads I d _ _ hd rx
  have un := room.un
  refine repr_of_reads' (h₀ := s.heap) rd sh (fun z => by rw [nod] at z; cases z) gd (by omega) (fun _ _ e => e) ?_ sz
  intro h' u tk kp
  exact ⟨.str d.shown, H, I.kept (t' := tk) kp, ⟨u, rfl⟩, q⟩
end
end Ov
namespace Ov
open PySem PySem.Spec PyProof.Rows L2
/-- the law's call, from its promise under no guard -/
theorem callG {P : Program} {w : World} {K : PySem.W.Frag} {mg mb : Str → Option Value} {k : Nat} {fa a : Addr} {fd : FuncData} {x : Str} {sp : Sp} {s : Shared} {vs : List Value} {ns : List Int}
    (KX : K.In s.heap) (hns : s.heap.Ns mainGlobals mg) (hb : s.heap.Ns builtinsNs mb) (hbb : ∀ x : Str, x ≠ "__name__" → mb x = bootBuiltins x) (hlim : s.heap.NoLimit) (hg : s.gens = #[])
    (ha : s.heap.get? a = some { cls := .type "list", data := .seq vs.toArray }) (hi : IntsAre vs ns) (hl : ns.length ≤ sizeLine) (room : Room k callerA)
    (F : ∀ base : Heap, K.In base → base.Ns mainGlobals mg → FnG P w K mg base k fa fd [x] sp) (bind : ∀ (s : Shared) (u : Value), BindsTo s fd ⟨[u], []⟩ [(x, u)])
    (pr : ∀ H : Hp, SqL K H a (ns.map V.int) → sp [.ref a] H (fun v _ => v = .bl true) fun _ _ _ => False) :
    codeAny (model P w) callerA (.call (.ref fa) ⟨[.ref a], []⟩) (fun r s' => r = .ok (.ret (.bool true)) ∧ OldK s.heap s'.heap ∧ s'.os = s.os ∧ AllBare s'.gens) s := by
  have rv : Vals (ns.map V.int) vs := vals_ints hi
  -- what is tracked: the script, unless it is the module's own
  obtain ⟨H, seq, hok, only, sep, froz⟩ : ∃ H : Hp, SqL K H a (ns.map V.int) ∧ HOk P w H s.heap ∧ (∀ b, H b ≠ none → b = a) ∧ (H a ≠ none → K.lookup a = none) ∧ (∀ b u, H b = some u → ∃ o xs, u = .frz o (.lst xs)) := by
    cases hk : K.lookup a with
    | some o =>
      have e : o = { cls := .type "list", data := .seq vs.toArray } := Option.some.inj ((KX a o hk).symm.trans ha)
      subst e
      exact ⟨fun _ => none, .inr ⟨_, vs.toArray, _, hk, rfl, rfl, rfl, by rw [List.size_toArray, hi.length]; exact hl, by simpa using rv⟩, (fun _ _ z => nomatch z), (fun _ z => absurd rfl z), (fun z => absurd rfl z), (fun _ _ z => nomatch z)⟩
    | none =>
      refine ⟨fun b => if b = a then some (.frz { cls := .type "list", data := .seq vs.toArray } (.lst (ns.map V.int))) else none, .inl (.inr ⟨_, if_pos rfl⟩), ?_, ?_, fun _ => rfl, ?_⟩
      · intro b u z
        by_cases e : b = a
        · subst e
          have z' : HO.frz { cls := .type "list", data := .seq vs.toArray } (.lst (ns.map V.int)) = u := Option.some.inj ((if_pos rfl).symm.trans z)
          subst z'
          exact ⟨ha, by rw [List.length_map]; exact hl, vs, _, rv, ha⟩
        · exact absurd ((if_neg e).symm.trans z) (fun y => nomatch y)
      · intro b z
        by_cases e : b = a
        · exact e
        · exact absurd (if_neg e) z
      · intro b u z
        by_cases e : b = a
        · exact ⟨_, _, (Option.some.inj ((if_pos e).symm.trans z)).symm⟩
        · exact absurd ((if_neg e).symm.trans z) (fun y => nomatch y)
  -- the base: all the rest
  have rest : ∀ {b : Addr} {o : Obj}, s.heap.get? b = some o → H b = none → (hidT s.heap H).get? b = some o := fun e n => hidT_get e n
  have gone : ∀ {b : Addr}, b ≠ a → H b = none := fun {b} n => by
    cases z : H b with
    | none => rfl
    | some u => exact absurd (only b (by rw [z]; exact fun y => nomatch y)) n
  have spaces : ∀ {b : Addr} {m : Str → Option Value}, s.heap.Ns b m → (hidT s.heap H).Ns b m := by
    rintro b m ⟨o, es, ep, e, d, r⟩
    refine ⟨o, es, ep, rest e (gone ?_), d, r⟩
    rintro rfl
    have eo : o = { cls := .type "list", data := .seq vs.toArray } := Option.some.inj (e.symm.trans ha)
    rw [eo] at d
    cases (show Data.seq vs.toArray _ = Data.dict es ep from d)
  have kin : K.In (hidT s.heap H) := fun b o e => rest (KX b o e) (by
    cases z : H b with
    | none => rfl
    | some u =>
      have eb := only b (by rw [z]; exact fun y => nomatch y)
      subst eb
      rw [sep (by rw [z]; exact fun y => nomatch y)] at e
      cases e)
  obtain ⟨mc, lim1, lim2⟩ := hlim
  have env : Env0 P w K mg (hidT s.heap H) callerA [] s H :=
    ⟨rfl, ⟨kin, spaces hns, ⟨mb, spaces hb, hbb⟩, ⟨mc, spaces lim1, lim2⟩⟩, fun b o e => of_hidT e, Nat.le_of_eq (hidT_size _ _), trivial, fun b hb => absurd (show b ∈ ([] : List Addr) from hb) (by simp), hok, .of_eq hg⟩
  refine codeAny_mono ((F _ kin (spaces hns)).run callerA [] s H ⟨[.ref a], []⟩ [.ref a] [.ref a] _ _ rfl room env (bind s (.ref a)) (.cons rfl .nil) (pr H seq)) ?_
  intro r s' h
  match r, h with
  | .error e, h => exact (show False from h).elim
  | .ok .next, h => exact (show False from h).elim
  | .ok .brk, h => exact (show False from h).elim
  | .ok .cont, h => exact (show False from h).elim
  | .ok (.ret u), ⟨v, H', os, bare, un, hok', rel, q⟩ =>
    have ev : v = .bl true := q
    subst ev
    obtain rfl : u = Value.bool true := rel
    refine ⟨rfl, OldK.of_keep fun b o e => ?_, os, bare⟩
    cases z : H b with
    | none => exact un.keep b o e z (fun y => absurd (show b ∈ ([] : List Addr) from y) (by simp)) (by simp)
    | some u =>
      obtain ⟨ob, xs, rfl⟩ := froz b u z
      have h1 := (hok b _ z).1
      have h2 := (hok' b _ (un.frzs b ob _ z)).1
      have eo : o = ob := Option.some.inj (e.symm.trans h1)
      rw [eo]
      exact h2
theorem walkG {l : PySem.W.OpenLaw} {n k : Nat} {q : Program} {loose : List Str} {XP : (Str → Option Value) → Heap → Prop} {YP : World → Heap → Prop} {d : DefRec} {K : Params → PySem.W.Frag} {sp : PySem.W.Frag → Sp} {x : Str}
    (hn : l.most = some n) (hn2 : n ≤ sizeLine) (hdf : d.params.defaults = []) (room : Room k callerA) (hY : ∀ (w : World) (h : Heap), YP w h → (K w.params).In h)
    (F : ∀ (w : World) (mg : Str → Option Value) (fa : Addr) (h : Heap), (K w.params).In h → h.Ns mainGlobals mg → mg d.name = some (.ref fa) →
      ∃ fd : FuncData, (∀ (s : Shared) (u : Value), BindsTo s fd ⟨[u], []⟩ [(x, u)]) ∧ ∀ base : Heap, (K w.params).In base → base.Ns mainGlobals mg → FnG l.prog w (K w.params) mg base k fa fd [x] (sp (K w.params)))
    (pr : ∀ (K : PySem.W.Frag) (H : Hp) (a : Addr) (ns : List Int), ns.length ≤ n → SqL K H a (ns.map V.int) → sp K [.ref a] H (fun v _ => v = .bl true) fun _ _ _ => False) :
    PySem.W.WalkO q loose XP YP l.row.toRowW d [] (fun f vs => PySem.call f vs) := by
  refine Att.attach_call hn hdf ?_
  intro w s₀ s₁ mg mb fa o pm cd doc a vs ns G Y ho hd hcd hmg hobj hints hlen hg
  have kin := hY w _ Y
  obtain ⟨fd, bind, okF⟩ := F w mg fa _ kin G.T.g hmg
  exact callG kin G.T.g G.T.b G.T.builtins G.T.nolimit hg hobj hints (Nat.le_trans hlen hn2) room okF bind fun H seq => pr (K w.params) H a ns hlen seq
end Ov
namespace Ov
open PySem PySem.Spec PyProof.Rows L2
/-! ### how long a shown value may be -/
mutual
def nodes : PyData → Nat
  | .str x => 1 + (reprText x).length
  | .list xs => 1 + nodesAll xs
  | .tuple xs => 1 + nodesAll xs
  | .none => 1
  | .bool _ => 1
  | .int _ => 1
  | .dict kvs => 1 + (dictText (PyData.shownKv kvs)).length
def nodesAll : List PyData → Nat
  | [] => 0
  | x :: xs => nodes x + nodesAll xs
end
theorem strLen0 : (Str.ofString "None").length = 4 := by decide +kernel
theorem listText_le (ts : List Str) : (listText ts).length ≤ piled ts + 2 := by
  rw [listText_eq_join, strLen_append, strLen_append]
  have a : (Str.ofString "[").length = 1 := by decide +kernel
  have b : (Str.ofString "]").length = 1 := by decide +kernel
  cases ts with
  | nil =>
    have : (Str.join (Str.ofString ", ") []).length = 0 := by decide +kernel
    rw [a, b, this]; omega
  | cons t ts =>
    have := join_length_add (t :: ts) (List.cons_ne_nil _ _)
    rw [a, b]; omega
theorem tupleText_le (ts : List Str) : (tupleText ts).length ≤ piled ts + 3 := by
  unfold tupleText
  rw [strLen_append, strLen_append]
  have a : (Str.ofString "(").length = 1 := by decide +kernel
  have b : (Str.ofString (if (ts.length == 1) = true then ",)" else ")" : String)).length ≤ 2 := by
    by_cases h : (ts.length == 1) = true
    · rw [if_pos h]; decide +kernel
    · rw [if_neg h]; decide +kernel
  cases ts with
  | nil =>
    have : (Str.join (Str.ofString ", ") []).length = 0 := by decide +kernel
    rw [a, this]
    exact Nat.le_trans (Nat.add_le_add_left b _) (by omega)
  | cons t ts =>
    have := join_length_add (t :: ts) (List.cons_ne_nil _ _)
    rw [a]
    omega
mutual
theorem shown_le : ∀ d : PyData, d.showable = true → d.shown.length + 10 ≤ 2000 * nodes d
  | .none, _ => by
    simp only [PyData.shown, nodes]
    rw [strLen0]; decide
  | .bool b, _ => by
    simp only [PyData.shown, nodes]
    cases b <;> decide +kernel
  | .int i, h => by
    simp only [PyData.shown, nodes]
    have := int_text_len_1921 (i := i) (by simpa [PyData.showable] using h)
    omega
  | .str x, _ => by
    simp only [PyData.shown, nodes]
    omega
  | .list xs, h => by
    simp only [PyData.shown, nodes]
    have := shownAll_le xs (by simpa [PyData.showable] using h)
    have := listText_le (PyData.shownAll xs)
    omega
  | .tuple xs, h => by
    simp only [PyData.shown, nodes]
    have := shownAll_le xs (by simpa [PyData.showable] using h)
    have := tupleText_le (PyData.shownAll xs)
    omega
  | .dict kvs, _ => by
    simp only [PyData.shown, nodes]
    omega
theorem shownAll_le : ∀ xs : List PyData, PyData.showableAll xs = true → piled (PyData.shownAll xs) ≤ 2000 * nodesAll xs
  | [], _ => by
    simp only [PyData.shownAll, nodesAll]
    decide +kernel
  | x :: xs, h => by
    have h' : x.showable = true ∧ PyData.showableAll xs = true := by simpa [PyData.showableAll] using h
    have h1 := shown_le x h'.1
    have h2 := shownAll_le xs h'.2
    simp only [PyData.shownAll, nodesAll]
    rw [piled_cons]
    omega
end
theorem fits_shown {d : PyData} (h : d.showable = true) (n : nodes d ≤ 8000) : d.shown.length ≤ sizeLine := by
  have := shown_le d h
  rw [sizeLine_eq]
  omega
/-! ### ints and least sums as data -/
theorem dp_ints {K : PySem.W.Frag} {H : Hp} : ∀ ns : List Int, DpAll K H (ns.map V.int) (ns.map PyData.int)
  | [] => .nil
  | n :: ns => .cons (.int n) (dp_ints ns)
/-- a plain value: None, a bool, an int that is not too great to be shown -/
inductive Sc : PyData → Prop
  | non : Sc .none
  | bl (b : Bool) : Sc (.bool b)
  | int (i : Int) (h : i.natAbs.log2 < 1920) : Sc (.int i)
theorem Sc.small {i : Int} (h : i.natAbs < 2 ^ 1000) : Sc (.int i) := by
  refine .int i ?_
  by_cases e : i.natAbs = 0
  · rw [e]; decide
  · exact Nat.lt_of_lt_of_le ((Nat.log2_lt e).mpr h) (by decide)
structure Flat (ds : List PyData) : Prop where
  lay : PyData.canLayAll0 ds = true
  dep : PyData.depthAll ds = 0
  sh : PyData.showableAll ds = true
  nod : PyData.hasDictAll ds = false
  nds : nodesAll ds = ds.length
theorem flat_of : ∀ {ds : List PyData}, (∀ d ∈ ds, Sc d) → Flat ds
  | [], _ => ⟨by simp [PyData.canLayAll0], by simp [PyData.depthAll], by simp [PyData.showableAll], by simp [PyData.hasDictAll], by simp [nodesAll]⟩
  | d :: ds, h => by
    obtain ⟨h1, h2, h3, h4, h5⟩ := flat_of (ds := ds) fun x hx => h x (List.mem_cons_of_mem _ hx)
    have hd := h d List.mem_cons_self
    refine ⟨?_, ?_, ?_, ?_, ?_⟩
    · cases hd <;> simp [PyData.canLayAll0, PyData.canLay0, h1]
    · cases hd <;> simp [PyData.depthAll, PyData.depth, h2]
    · cases hd <;> simp_all [PyData.showableAll, PyData.showable]
    · cases hd <;> simp [PyData.hasDictAll, PyData.hasDict, h4]
    · cases hd <;> simp [nodesAll, nodes, h5] <;> omega
theorem shaped_tup {ds : List PyData} (f : Flat ds) : SeqAt.shaped (.tuple ds) = true := by
  unfold SeqAt.shaped
  simp [PyData.canLay0, PyData.depth, f.lay, f.dep]
theorem shaped_lst {ds : List PyData} (f : Flat ds) : SeqAt.shaped (.list ds) = true := by
  unfold SeqAt.shaped
  simp [PyData.canLay0, PyData.depth, f.lay, f.dep]
theorem flat_ints {ns : List Int} (h : ∀ n ∈ ns, n.natAbs < 2 ^ 1000) : Flat (ns.map PyData.int) := flat_of fun d hd => by
  obtain ⟨n, hn, rfl⟩ := List.mem_map.mp hd
  exact .small (h n hn)
theorem eqv_nil : ∀ ds : List PyData, PyData.eqv (.tuple ds) (.tuple []) = ds.isEmpty
  | [] => by simp [PyData.eqv, PyData.eqvAll]
  | d :: ds => by simp [PyData.eqv, PyData.eqvAll]
end Ov
namespace Ov
open PySem PySem.Spec PyProof.Rows L2
section
variable {X : Cx} {k : Nat}
/-- max of a tuple of ints -/
theorem cr_maxT (hc : X.calm = true) (room : Room k X.A) : CallR X (.builtin "max") (fun vs H Q => ∃ (a : Addr) (n : Int) (ns : List Int), vs = [.ref a] ∧ SqT X.K H a ((n :: ns).map V.int) ∧ Q (.int (ns.foldl max n)) H) := by
  intro pins s σ H vs us Q I r h
  obtain ⟨a, n, ns, rfl, hs, q⟩ := h
  obtain ⟨its, rv, pl, _⟩ := I.tuple hs
  obtain ⟨as, rd⟩ := Dp.readsAll I ((n :: ns).map PyData.int) _ its (dp_ints (n :: ns)) rv
  rw [Vals.ref1 r]
  have un := room.un
  have dep : PyData.depthAll ((n :: ns).map PyData.int) = 0 := by
    generalize n :: ns = l
    induction l with
    | nil => simp [PyData.depthAll]
    | cons x l ih => simp [PyData.depthAll, PyData.depth, ih]
  have ali : PySem.W.AlikeAll ((n :: ns).map PyData.int) := by
    constructor
    · intro x hx y hy
      obtain ⟨i, _, rfl⟩ := List.mem_map.mp hx
      obtain ⟨j, _, rfl⟩ := List.mem_map.mp hy
      simp [PySem.W.alike]
    · intro x hx
      obtain ⟨i, _, rfl⟩ := List.mem_map.mp hx
      exact fun z => nomatch z
  rw [List.map_cons] at rd ali dep
  refine PySem.W.max_tuple_data (I.ok.hd hc) pl (by simpa using rd) ali (by rw [dep]; omega) ?_
  intro i v h' tk bs hi hr kp
  rw [PySem.W.maxD_ints] at hr
  cases hr with
  | int => exact ⟨.int _, H, I.kept kp, ⟨_, rfl⟩, q⟩
end
end Ov
namespace Ov
open PySem PySem.Spec PyProof.Rows L2
/-! ### texts by their codes; a text so many times; list(range(n)) -/
def txt (l : List Nat) : Str := ⟨l.toArray⟩
theorem txt_inj {a b : List Nat} (h : txt a = txt b) : a = b := by
  have : a.toArray = b.toArray := congrArg Str.cps h
  simpa using congrArg Array.toList this
theorem txt_len (l : List Nat) : (txt l).length = l.length := by
  show l.toArray.size = _
  simp
theorem fold_reps : ∀ (k : Nat) (l : List Nat) (acc : Array Nat), (List.replicate k l.toArray).foldl (· ++ ·) acc = acc ++ (List.replicate k l).flatten.toArray
  | 0, l, acc => by simp
  | k + 1, l, acc => by
    rw [List.replicate_succ, List.foldl_cons, fold_reps k l, List.replicate_succ, List.flatten_cons]
    simp
section
variable {X : Cx}
/-- a text times a small number -/
theorem op_mulS : OpR X (binaryOp .Mult) (fun x y H Q => ∃ (l : List Nat) (n : Int), x = .str (txt l) ∧ y = .int n ∧ 0 ≤ n ∧ n ≤ 1000 ∧ l.length ≤ 1000 ∧ Q (.str (txt (List.replicate n.toNat l).flatten)) H) := by
  intro pins s σ H x y v u Q I rx ry h
  obtain ⟨l, n, rfl, rfl, h0, h1, hl, q⟩ := h
  obtain ⟨t, rfl⟩ := rx
  obtain ⟨t', rfl⟩ := ry
  have hlen := txt_len l
  have fin : ∀ (tk tk' : Nat), EP X pins σ Q (.str (txt (List.replicate n.toNat l).flatten) tk) { s with toks := tk' } := fun tk tk' => ⟨.str _, H, I.tok _, ⟨_, rfl⟩, q⟩
  refine PySem.P.mul_str ?_ ?_ ?_ ?_
  · rw [decide_eq_false (show ¬ n < -(2 ^ 63 : Int) by omega), decide_eq_false (show ¬ n ≥ 2 ^ 63 by omega)]
    rfl
  · intro a b
    rw [hlen]
    have hn : 1 ≤ n := by omega
    have : (1000 : Int) ≤ (2 ^ 63 - 1) / n := by
      rw [Int.le_ediv_iff_mul_le (by omega)]
      omega
    omega
  · intro a b
    rw [hlen]
    refine decide_eq_false ?_
    rw [sizeLine_eq]
    have : l.length * n.toNat ≤ 1000 * 1000 := Nat.mul_le_mul hl (by omega)
    omega
  · by_cases c : n < 1
    · rw [if_pos c]
      have hn : n.toNat = 0 := by omega
      have := fin s.toks (s.toks + 1)
      rw [hn] at this
      exact ⟨Nat.zero_le _, this⟩
    · rw [if_neg c]
      by_cases d : (n == 1 || (txt l).length == 0) = true
      · rw [if_pos d]
        have e : txt (List.replicate n.toNat l).flatten = txt l := by
          rcases Bool.or_eq_true_iff.mp d with d | d
          · have : n = 1 := eq_of_beq d
            subst this
            simp
          · have hz : l.length = 0 := by rw [← hlen]; exact eq_of_beq d
            have : l = [] := List.eq_nil_of_length_eq_zero hz
            subst this
            simp
        have := fin t s.toks
        rw [e] at this
        exact this
      · rw [if_neg d]
        have e : (⟨(List.replicate n.toNat (txt l).cps).foldl (· ++ ·) #[]⟩ : Str) = txt (List.replicate n.toNat l).flatten := by
          show (⟨(List.replicate n.toNat l.toArray).foldl (· ++ ·) #[]⟩ : Str) = _
          rw [fold_reps]
          simp [txt]
        rw [e]
        refine ⟨?_, fin s.toks (s.toks + 1)⟩
        rw [txt_len, sizeLine_eq]
        have h2 : (List.replicate n.toNat l).flatten.length = n.toNat * l.length := by simp
        rw [h2]
        have : n.toNat * l.length ≤ 1000 * 1000 := Nat.mul_le_mul (by omega) hl
        omega
/-- list(range(n)) -/
theorem pe_listRange {a : Expr} {ta : TE} {p p2 q pos : Pos} (hg : Gl X "list") (hm : X.mg "list" = none) (hg2 : Gl X "range") (hm2 : X.mg "range" = none) (ha : PE X a ta) (hc : X.calm = true := by rfl)
    (na : starEach [a] X.env = (false, eval a X.env) :: starEach [] X.env := by rfl) :
    PE X (.Call (.Name "list" p) [.Call (.Name "range" p2) [a] [] q] [] pos) (fun σ H Q => ta σ H fun x H1 => ∃ n : Nat, x = .int (n : Int) ∧ n ≤ 100000 ∧ ∀ l, H1 l = none → Q (.ref l) (upd H1 l (.lst ((List.range n).map fun i : Nat => V.int (i : Int))))) := by
  constructor
  intro pins s σ H Q I h
  have bl : bootBuiltins "list" = some (.type "list") := by decide +kernel
  refine Call_ (ld_blt I hg hm bl (PyProof.Rows.callWith_type1 (PyProof.Rows.args_cons ?_ rfl) rfl rfl))
  refine Call_ (ld_blt I hg2 hm2 boot_range (PyProof.Rows.callWith_type1 (PyProof.Rows.args_cons (thn (ha.run pins s σ H _ I h) ?_) na) na rfl))
  rintro v s1 ⟨x, H1, I1, r1, n, rfl, hn, q1⟩
  obtain ⟨t, rfl⟩ := r1
  refine PyProof.Rows.args_nil (call_range_1 (PyProof.Rows.args_nil ?_))
  have hsmall : Builtin.Range.small 0 (n : Int) 1 = true := small_one (by omega) (by omega) (by omega) (by omega)
  refine call_list_range (n := n) (I1.ok.hd hc) (Heap.get?_push_size _ rfl) hsmall ?_ (by omega) ?_
  · rw [rangeSize_nat]
    simp
  · intro h' tk acc c kp hat hit
    have vals : Vals ((List.range n).map fun i : Nat => V.int (i : Int)) acc.toList := by
      obtain ⟨hz, hv⟩ := hit
      have key : ∀ (l : List Value) (k : Nat), (∀ j v, l[j]? = some v → ∃ t, v = Value.int (0 + ((k + j : Nat) : Int) * 1) t) → Vals ((List.range' k l.length).map fun i : Nat => V.int (i : Int)) l := by
        intro l
        induction l with
        | nil => intro k _; exact .nil
        | cons v l ih =>
          intro k hk
          rw [List.length_cons, List.range'_succ, List.map_cons]
          refine .cons ?_ (ih (k + 1) fun j w hj => ?_)
          · obtain ⟨t, e⟩ := hk 0 v rfl
            exact ⟨t, by rw [e, show (0 + ((k + 0 : Nat) : Int) * 1) = (k : Int) by omega]⟩
          · obtain ⟨t, e⟩ := hk (j + 1) w hj
            exact ⟨t, by rw [e, show (0 + ((k + (j + 1) : Nat) : Int) * 1) = (0 + ((k + 1 + j : Nat) : Int) * 1) by omega]⟩
      have := key acc.toList 0 (fun j v hj => by
        obtain ⟨t, e⟩ := hv j v (by simpa using hj)
        exact ⟨t, by rw [e, show (0 + ((0 + j : Nat) : Int) * 1) = (0 + ((j : Nat) : Int) * 1) by omega]⟩)
      rw [Array.length_toList, hz, ← List.range_eq_range'] at this
      exact this
    have old : ∀ b o, s1.heap.get? b = some o → h'.get? b = some o := fun b o e => kp b o (Heap.get?_push_of_some _ e)
    have ez : ∀ (o : Obj), (s1.heap.push o).objs.size = s1.heap.objs.size + 1 := fun o => Heap.size_push _ _
    rw [ez] at hat ⊢
    have fit : ((List.range n).map fun i : Nat => V.int (i : Int)).length ≤ sizeLine := by
      rw [List.length_map, List.length_range, sizeLine_eq]
      omega
    exact ⟨.ref _, upd H1 (s1.heap.objs.size + 1) (.lst _), I1.laid (t' := tk) old (Nat.le_succ _) ⟨fit, acc.toList, c, vals, hat⟩, rfl, q1 _ (I1.hok.fresh (Nat.le_succ _))⟩
end
end Ov
namespace Ov
open PySem PySem.Spec PyProof.Rows L2
/-! ### a set of texts, made of a list of unlike ones: how many it holds -/
/-- the empty set as it is made -/
abbrev noText (led : Bool) : Obj := { cls := .type "set", dict := none, data := .set #[] 0 (.fresh 0 0 led) }
section
variable {prog : Program} {w : World} {A : Around} {R : Result → Shared → Prop} {it : Addr} {fp wr : List Addr} {G : Array GenState → Array GenState → Prop} {n : Nat} {P : Nat → Value → Prop} {St : Nat → Shared → Prop}
theorem has_next {xs : List Str} (nd : xs.Nodup) {i : Nat} (hi : i < xs.length) : (xs.take i).any (· == xs[i]) = false := by
  rw [List.any_eq_false]
  intro y hy e
  have ey : y = xs[i] := eq_of_beq e
  obtain ⟨j, hj, ej⟩ := List.mem_take_iff_getElem.mp hy
  have hlt : j < i := by omega
  exact (List.pairwise_iff_getElem.mp nd j i (by omega) hi hlt) (ej.trans ey)
/-- texts put into it, one behind another -/
theorem texts_in (W : WalksS prog w A.in1 it fp wr G n P St) (S : Addr) (out : S ∉ fp) {xs : List Str} (len : xs.length = n) (nd : xs.Nodup) (few : n + 1 < scanBound)
    (val : ∀ (i : Nat) (hi : i < xs.length) (v : Value), P i v → ∃ t, v = .str xs[i] t) :
    ∀ (left i : Nat) (s : Shared), i + left = n → St i s → s.heap.SetOf (PySem.strKind prog w) S (fun k => (xs.take i).any (· == k)) i →
      (∀ s', Moved (S :: wr) G s s' → s'.heap.SetOf (PySem.strKind prog w) S (fun k => xs.any (· == k)) n → R (.ok (.ret .none)) s') →
      codeAny (model prog w) A (.builtin "set.update.loop" ⟨[.ref S, .ref it], []⟩) R s := by
  have outw : S ∉ wr := fun z => out (W.sub _ z)
  have wide : ∀ b ∈ wr, b ∈ S :: wr := fun b z => List.mem_cons_of_mem _ z
  have carry : ∀ {s s' : Shared} {f : Str → Bool} {c : Nat}, Moved wr G s s' → s.heap.SetOf (PySem.strKind prog w) S f c → s'.heap.SetOf (PySem.strKind prog w) S f c := by
    rintro s s' f c mv ⟨o, es, ep, t, ho, more⟩
    exact ⟨o, es, ep, t, mv.heap S _ outw ho, more⟩
  intro left
  induction left with
  | zero =>
    intro i s e st hS fin
    obtain rfl : i = n := by omega
    refine codeAny_builtin PyProof.Rows.F.entry_set_update_loop ?_
    rw [Around.under_plainId PyProof.Rows.F.plain_set_update_loop _]
    refine wpAny_bind (W.done s _ _ st fun s' mv => wpAny_pure (fin s' (mv.mono wide) ?_))
    have := carry mv hS
    rwa [← len, List.take_length, len] at this
  | succ left ih =>
    intro i s e st hS fin
    have hi : i < xs.length := by omega
    refine codeAny_builtin PyProof.Rows.F.entry_set_update_loop ?_
    rw [Around.under_plainId PyProof.Rows.F.plain_set_update_loop _]
    refine wpAny_bind (W.item i s _ _ (by omega) st ?_)
    intro v s' pv st' mv
    obtain ⟨t, rfl⟩ := val i hi v pv
    refine wpAny_bind (wpAny_holding ?_)
    unfold setAdd
    refine wpAny_holding (wpAny_bind ((PySem.strKind prog w).pyHash (k := xs[i]) (strKind_is _ _ _ _) ?_))
    have held := carry mv hS
    refine wpAny_setAddHashed_of (knd := PySem.strKind prog w) (s := { s' with toks := s'.toks + 1 }) (strKind_is _ _ _ _) rfl held (by omega) ?_
    intro h' but hS2
    rw [has_next nd hi] at hS2
    have grown : h'.SetOf (PySem.strKind prog w) S (fun k => (xs.take (i + 1)).any (· == k)) (i + 1) := by
      refine SetOf_congr hS2 (fun k => ?_) rfl
      rw [List.take_add_one, List.getElem?_eq_getElem hi, List.any_append]
      congr 1
      show decide (k = xs[i]) = ([xs[i]].any (· == k))
      by_cases z : k = xs[i]
      · subst z; simp
      · have : (xs[i] == k) = false := beq_eq_false_iff_ne.mpr fun y => z y.symm
        simp [z, this]
    refine wpAny_pure ⟨plainId_quiet PyProof.Rows.F.plain_set_update_loop _, ih (i + 1) _ (by omega) (W.frame _ s' _ _ st' (Nat.le_succ _) ?_) grown ?_⟩
    · intro b hb o eb
      rw [but.2 b fun z => out (z ▸ hb)]
      exact eb
    · intro s'' mv'' hS''
      refine fin s'' (Moved.trans W.gtrans ((mv.mono wide).then_heap (Nat.le_succ _) ?_) mv'') hS''
      intro b o hb eb
      rw [but.2 b fun z => hb (z ▸ List.mem_cons_self)]
      exact eb
end
section
variable {prog : Program} {w : World} {A : Around} {E : Value → Shared → Prop} {s : Shared}
theorem set_texts {l : Addr} {items : Array Value} {xs : List Str} {Q : Value → Shared → Prop} (hh : A.handled = none) (hl : s.heap.IsList l items) (hi : StrsAre items.toList xs) (nd : xs.Nodup) (few : xs.length + 1 < scanBound)
    (h : ∀ (h' : Heap) (tk : Nat), h'.SetOf (PySem.strKind prog w) s.heap.objs.size (fun k => xs.any (· == k)) xs.length → (∀ b o, b < s.heap.objs.size → s.heap.get? b = some o → h'.get? b = some o) → Q (.ref s.heap.objs.size) { s with heap := h', toks := tk }) :
    wpAny (model prog w) A (call (.type "set") [.ref l]) Q E s := by
  obtain ⟨c, tl, hmro⟩ := PySem.F.called_set.mro
  have q1 := PySem.F.called_set.made
  have q2 := PySem.F.called_set.sub
  have q3 := PySem.F.called_set.notType
  have q4 := PySem.F.called_set.canCreate
  have q5 := PySem.F.typeCall_set_1 (.ref l)
  refine wpAny_call (codeAny_of_tree ?_)
  show wpAny _ _ (callAny (.type "set") _) _ _ _
  refine wpAny_pure ⟨Code.quiet_builtin _ (by decide +kernel), codeAny_builtin PySem.F.entry_type_call ?_⟩
  rw [Around.under_plain (weight_type_call_type "set" [.ref l] []) rfl]
  repeat (any_goals (first | assumption | wp_step))
  refine codeAny_mono (code_set_new_1 (.ref l) (E := E) (Q₁ := fun obj s₁ => ∃ led : Bool, obj = .ref s.heap.objs.size ∧ s₁ = { s with heap := s.heap.push (noText led) }) fun led => ⟨led, rfl, rfl⟩) ?_
  intro r s₁ hr
  match r, hr with
  | .error e, hr => exact hr
  | .ok .next, hr => exact hr.elim
  | .ok .brk, hr => exact hr.elim
  | .ok .cont, hr => exact hr.elim
  | .ok (.ret obj), ⟨led, e1, e2⟩ =>
    subst e1 e2
    have at_ : (s.heap.push (noText led)).get? s.heap.objs.size = some (noText led) := Heap.get?_push_size _ rfl
    have ty : Shared.TypeIs { s with heap := s.heap.push (noText led) } (.ref s.heap.objs.size) "set" := ⟨_, at_, rfl⟩
    have q6 := PySem.F.called_set.init.lookup
    have q7 := PySem.F.called_set.init.bind (.ref s.heap.objs.size)
    repeat (any_goals (first | assumption | wp_step))
    refine codeAny_mono (codeAny_call_builtin (R := wants (fun r s₂ => r = .none ∧ ∃ h' tk, s₂ = { s with heap := h', toks := tk } ∧ h'.SetOf (PySem.strKind prog w) s.heap.objs.size (fun k => xs.any (· == k)) xs.length ∧
        (∀ b o, b < s.heap.objs.size → s.heap.get? b = some o → h'.get? b = some o)) E) PySem.F.called_set.init.plain PySem.F.entry_set_init (check_set_init_1 ty ?_)) ?_
    · obtain ⟨⟨cl, dc, dt, sl⟩, hol, hcl, nl, hdl⟩ := hl
      dsimp only at hcl hdl
      subst hcl hdl
      have below := Heap.lt_size hol
      have hol' : (s.heap.push (noText led)).get? l = some { cls := .type "list", dict := dc, data := .seq items nl, slots := sl } := Heap.get?_push_of_some _ hol
      have hl1 : (s.heap.push (noText led)).IsList l items := ⟨_, hol', rfl, nl, rfl⟩
      have q8 := PySem.F.sub_list_set
      have q9 := PySem.F.sub_list_frozenset
      have q0 : (Value.type "list" == Value.type "dict") = false := by decide
      unfold Builtin.«set.__init__» noKeywords Builtin.Frozenset.updateFrom
      generalize hPI : pyIter = PI
      wp_walk
      subst hPI
      have sz : (s.heap.push (noText led)).objs.size = s.heap.objs.size + 1 := Heap.size_push _ _
      have calm3 : A.in1.in1.in1.handled = none := by simp [hh]
      have apart : l ≠ (s.heap.push (noText led)).objs.size := by rw [sz]; exact Nat.ne_of_lt (Nat.lt_succ_of_lt below)
      have far : s.heap.objs.size ∉ [(s.heap.push (noText led)).objs.size, l] := by
        rw [sz]
        simp only [List.mem_cons, List.not_mem_nil, or_false, not_or]
        exact ⟨Nat.ne_of_lt (Nat.lt_succ_self _), Nat.ne_of_gt below⟩
      have len : xs.length = items.size := by rw [← StrsAre.len_eq hi, Array.length_toList]
      refine wpAny_pyIter_list hl1 (wpAny_bind (wpAny_runValue ?_))
      refine texts_in ((Walks.list calm3 _ l apart items).toS) s.heap.objs.size far len nd (by rw [← len]; exact few) (fun i hlt v hv => ?_) items.size 0 _ (by omega) ⟨⟨_, Heap.get?_push_size _ rfl, rfl, rfl⟩, hl1.push _⟩ ?_ ?_
      · obtain ⟨t, e⟩ := SS.strs_at hi i v (by rw [Array.getElem?_toList]; exact hv)
        refine ⟨t, ?_⟩
        rw [e, List.getD_eq_getElem?_getD, List.getElem?_eq_getElem hlt]
        rfl
      · exact SetOf_congr ((setObjOf_fresh (knd := PySem.strKind prog w) led).setOf (Heap.get?_push_of_some _ at_) (by unfold scanBound; omega)) (fun _ => rfl) rfl
      · rintro ⟨h', g', d', tk', os'⟩ mv hS'
        have eg : g' = s.gens := mv.gens
        have ed : d' = s.drawn := mv.drawn
        have eo : os' = s.os := mv.os
        subst eg ed eo
        refine wpAny_pure (wpAny_pure ⟨rfl, h', tk', rfl, by rw [len]; exact hS', ?_⟩)
        intro b o hb eb
        refine mv.heap b o ?_ (Heap.get?_push_of_some _ (Heap.get?_push_of_some _ eb))
        rw [sz]
        simp only [List.mem_cons, List.not_mem_nil, or_false, not_or]
        exact ⟨Nat.ne_of_lt hb, Nat.ne_of_lt (Nat.lt_succ_of_lt hb)⟩
    · intro r₂ s₂ hr₂
      match r₂, hr₂ with
      | .error e, hr₂ => exact hr₂
      | .ok .next, hr₂ => exact hr₂.elim
      | .ok .brk, hr₂ => exact hr₂.elim
      | .ok .cont, hr₂ => exact hr₂.elim
      | .ok (.ret r), ⟨e1, h', tk, e2, hS', kp⟩ =>
        subst e1 e2
        repeat (any_goals (first | assumption | wp_step))
        exact h _ _ hS' kp
end
section
variable {X : Cx}
/-- len(set(xs)), xs a list of unlike texts -/
theorem pe_lenSetT {a : Expr} {ta : TE} {p p2 q pos : Pos} (hc : X.calm = true) (hg : Gl X "len") (hm : X.mg "len" = none) (hg2 : Gl X "set") (hm2 : X.mg "set" = none) (ha : PE X a ta)
    (na : starEach [a] X.env = (false, eval a X.env) :: starEach [] X.env := by rfl) :
    PE X (.Call (.Name "len" p) [.Call (.Name "set" p2) [a] [] q] [] pos) (fun σ H Q => ta σ H fun x H1 => ∃ (l : Addr) (xs : List Str), x = .ref l ∧ SqL X.K H1 l (xs.map V.str) ∧ xs.Nodup ∧ xs.length ≤ 4000 ∧ Q (.int (xs.length : Int)) H1) := by
  constructor
  intro pins s σ H Q I h
  refine Call_ (ld_blt I hg hm boot_len (PyProof.Rows.callWith_builtin1 (PyProof.Rows.args_cons ?_ rfl) rfl rfl))
  refine Call_ (ld_blt I hg2 hm2 boot_set (PyProof.Rows.callWith_type1 (PyProof.Rows.args_cons (thn (ha.run pins s σ H _ I h) ?_) na) na rfl))
  rintro v s1 ⟨x, H1, I1, r1, l, xs, rfl, hq, nd, few, q1⟩
  cases r1
  refine PyProof.Rows.args_nil ?_
  obtain ⟨its, r, pl, hz⟩ := I1.list hq
  refine set_texts (I1.ok.hd hc) pl.isList (by simpa using strsAre_of r) nd (by unfold scanBound; omega) ?_
  intro h' tk hS kp
  refine PyProof.Rows.args_nil ?_
  obtain ⟨o, es, ep, t, ho, hex, hd, _, _, _, hf, hn⟩ := hS
  have I2 : Inv X pins σ H1 { s1 with heap := h', toks := tk } := I1.kept fun b o e => kp b o (Heap.lt_size e) e
  exact call_len_set ho hex hd hf (by rw [hn]; omega) ⟨.int xs.length, H1, I2.tok _, ⟨_, by rw [hn]⟩, q1⟩
end
end Ov
namespace Ov
open PySem PySem.Spec PyProof.Rows L2
/-! ### things of any kind: None, bools, ints, texts, lists, tuples and empty dicts, of any depth -/
mutual
inductive Dx (K : PySem.W.Frag) (H : Hp) : V → PyData → Prop
  | non : Dx K H .non .none
  | bl (b : Bool) : Dx K H (.bl b) (.bool b)
  | int (i : Int) : Dx K H (.int i) (.int i)
  | str (x : Str) : Dx K H (.str x) (.str x)
  | dct {a : Addr} : H a = some (.dK []) → Dx K H (.ref a) (.dict [])
  | lst {a : Addr} {xs : List V} {ds : List PyData} : SqL K H a xs → DxAll K H xs ds → Dx K H (.ref a) (.list ds)
  | tup {a : Addr} {xs : List V} {ds : List PyData} : SqT K H a xs → DxAll K H xs ds → Dx K H (.ref a) (.tuple ds)
inductive DxAll (K : PySem.W.Frag) (H : Hp) : List V → List PyData → Prop
  | nil : DxAll K H [] []
  | cons {v : V} {vs : List V} {d : PyData} {ds : List PyData} : Dx K H v d → DxAll K H vs ds → DxAll K H (v :: vs) (d :: ds)
end
theorem sqL_same {K : PySem.W.Frag} {H H' : Hp} {a : Addr} {xs : List V} (e : Same H H') (h : SqL K H a xs) : SqL K H' a xs := by
  rcases h with (h | ⟨o, h⟩) | h
  · exact .inl (.inl (e _ _ h))
  · exact .inl (.inr ⟨o, e _ _ h⟩)
  · exact .inr h
mutual
theorem Dx.same {K : PySem.W.Frag} {H H' : Hp} (e : Same H H') : ∀ {v : V} {d : PyData}, Dx K H v d → Dx K H' v d
  | _, _, .non => .non
  | _, _, .bl b => .bl b
  | _, _, .int i => .int i
  | _, _, .str x => .str x
  | _, _, .dct h => .dct (e _ _ h)
  | _, _, .lst h a => .lst (sqL_same e h) (DxAll.same e a)
  | _, _, .tup h a => .tup (e.tup h) (DxAll.same e a)
theorem DxAll.same {K : PySem.W.Frag} {H H' : Hp} (e : Same H H') : ∀ {vs : List V} {ds : List PyData}, DxAll K H vs ds → DxAll K H' vs ds
  | _, _, .nil => .nil
  | _, _, .cons h a => .cons (Dx.same e h) (DxAll.same e a)
end
theorem DxAll.at {K : PySem.W.Frag} {H : Hp} : ∀ {vs : List V} {ds : List PyData}, DxAll K H vs ds → ∀ {i : Nat} {v : V}, vs[i]? = some v → ∃ d, ds[i]? = some d ∧ Dx K H v d
  | _, _, .nil, i, v, e => by simp at e
  | _, _, .cons h a, 0, v, e => by cases e; exact ⟨_, rfl, h⟩
  | _, _, .cons h a, i + 1, v, e => a.at (i := i) e
theorem DxAll.len {K : PySem.W.Frag} {H : Hp} : ∀ {vs : List V} {ds : List PyData}, DxAll K H vs ds → vs.length = ds.length
  | _, _, .nil => rfl
  | _, _, .cons _ a => by rw [List.length_cons, List.length_cons, a.len]
theorem DxAll.app {K : PySem.W.Frag} {H : Hp} : ∀ {vs us : List V} {ds es : List PyData}, DxAll K H vs ds → DxAll K H us es → DxAll K H (vs ++ us) (ds ++ es)
  | _, _, _, _, .nil, b => b
  | _, _, _, _, .cons h a, b => .cons h (a.app b)
theorem dx_ints {K : PySem.W.Frag} {H : Hp} : ∀ ns : List Int, DxAll K H (ns.map V.int) (ns.map PyData.int)
  | [] => .nil
  | n :: ns => .cons (.int n) (dx_ints ns)
/-- the name of a thing's type -/
def tyN : PyData → String
  | .none => "NoneType" | .bool _ => "bool" | .int _ => "int" | .str _ => "str" | .list _ => "list" | .tuple _ => "tuple" | .dict _ => "dict"
theorem Dx.ty {K : PySem.W.Frag} {H : Hp} {v : V} {d : PyData} (h : Dx K H v d) : TyX K H v (.type (tyN d)) := by
  cases h with
  | non => exact .base .non
  | bl b => exact .base (.bl b)
  | int i => exact .base (.int i)
  | str x => exact .base (.str x)
  | dct h => exact .base (.dK h)
  | lst h _ =>
    rcases h with (h | ⟨o, h⟩) | ⟨o, its, n, h, c, _⟩
    · exact .base (.lst h)
    · exact .base (.frz h)
    · exact .kList h c
  | tup h _ =>
    rcases h with (h | ⟨o, h⟩) | ⟨o, its, n, h, c, _⟩
    · exact .base (.tup h)
    · exact .fTuple h
    · exact .kTuple h c
def isT : PyData → Bool | .tuple _ => true | _ => false
def isI : PyData → Bool | .int _ => true | .bool _ => true | _ => false
def isB : PyData → Bool | .bool _ => true | _ => false
def isL : PyData → Bool | .list _ => true | _ => false
def isS : PyData → Bool | .str _ => true | _ => false
theorem kit_t : ∀ d : PyData, kitB (tyN d) "tuple" = some (isT d)
  | .none => (by decide +kernel : kitB "NoneType" "tuple" = some false)
  | .bool _ => (by decide +kernel : kitB "bool" "tuple" = some false)
  | .int _ => (by decide +kernel : kitB "int" "tuple" = some false)
  | .str _ => (by decide +kernel : kitB "str" "tuple" = some false)
  | .list _ => (by decide +kernel : kitB "list" "tuple" = some false)
  | .tuple _ => (by decide +kernel : kitB "tuple" "tuple" = some true)
  | .dict _ => (by decide +kernel : kitB "dict" "tuple" = some false)
theorem kit_i : ∀ d : PyData, kitB (tyN d) "int" = some (isI d)
  | .none => (by decide +kernel : kitB "NoneType" "int" = some false)
  | .bool _ => (by decide +kernel : kitB "bool" "int" = some true)
  | .int _ => (by decide +kernel : kitB "int" "int" = some true)
  | .str _ => (by decide +kernel : kitB "str" "int" = some false)
  | .list _ => (by decide +kernel : kitB "list" "int" = some false)
  | .tuple _ => (by decide +kernel : kitB "tuple" "int" = some false)
  | .dict _ => (by decide +kernel : kitB "dict" "int" = some false)
theorem kit_b : ∀ d : PyData, kitB (tyN d) "bool" = some (isB d)
  | .none => (by decide +kernel : kitB "NoneType" "bool" = some false)
  | .bool _ => (by decide +kernel : kitB "bool" "bool" = some true)
  | .int _ => (by decide +kernel : kitB "int" "bool" = some false)
  | .str _ => (by decide +kernel : kitB "str" "bool" = some false)
  | .list _ => (by decide +kernel : kitB "list" "bool" = some false)
  | .tuple _ => (by decide +kernel : kitB "tuple" "bool" = some false)
  | .dict _ => (by decide +kernel : kitB "dict" "bool" = some false)
theorem kit_l : ∀ d : PyData, kitB (tyN d) "list" = some (isL d)
  | .none => (by decide +kernel : kitB "NoneType" "list" = some false)
  | .bool _ => (by decide +kernel : kitB "bool" "list" = some false)
  | .int _ => (by decide +kernel : kitB "int" "list" = some false)
  | .str _ => (by decide +kernel : kitB "str" "list" = some false)
  | .list _ => (by decide +kernel : kitB "list" "list" = some true)
  | .tuple _ => (by decide +kernel : kitB "tuple" "list" = some false)
  | .dict _ => (by decide +kernel : kitB "dict" "list" = some false)
theorem kit_s : ∀ d : PyData, kitB (tyN d) "str" = some (isS d)
  | .none => (by decide +kernel : kitB "NoneType" "str" = some false)
  | .bool _ => (by decide +kernel : kitB "bool" "str" = some false)
  | .int _ => (by decide +kernel : kitB "int" "str" = some false)
  | .str _ => (by decide +kernel : kitB "str" "str" = some true)
  | .list _ => (by decide +kernel : kitB "list" "str" = some false)
  | .tuple _ => (by decide +kernel : kitB "tuple" "str" = some false)
  | .dict _ => (by decide +kernel : kitB "dict" "str" = some false)
/-! ### what is shown of them -/
mutual
def noList : PyData → Bool
  | .list _ => false
  | .tuple ds => noListAll ds
  | _ => true
def noListAll : List PyData → Bool
  | [] => true
  | d :: ds => noList d && noListAll ds
end
section
variable {X : Cx} {pins : List (Addr × Obj)} {σ : L2.St} {H : Hp} {s : Shared}
mutual
theorem Dx.reads (I : Inv X pins σ H s) : ∀ (d : PyData) (v : V) (u : Value), Dx X.K H v d → RelV v u → ∃ as, Reads s.heap u d as ∧ (noList d = true → sysModules ∉ as)
  | .none, _, _, h, r => by
    cases h
    cases r
    exact ⟨_, Reads.none, fun _ z => nomatch z⟩
  | .bool b, _, _, h, r => by
    cases h
    cases r
    exact ⟨_, Reads.bool b, fun _ z => nomatch z⟩
  | .int i, _, _, h, r => by
    cases h
    obtain ⟨t, rfl⟩ := r
    exact ⟨_, Reads.int i t, fun _ z => nomatch z⟩
  | .str x, _, _, h, r => by
    cases h
    obtain ⟨t, rfl⟩ := r
    exact ⟨_, Reads.str x t, fun _ z => nomatch z⟩
  | .list ds, _, _, h, r => by
    cases h with
    | lst hs ha =>
      cases r
      obtain ⟨its, rv, ⟨o, n, ho, hc, _, hd⟩, _⟩ := I.list hs
      obtain ⟨as, hr, _⟩ := Dx.readsAll I ds _ its ha rv
      exact ⟨_, Reads.list ho hc hd hr, fun z => by simp [noList] at z⟩
  | .tuple ds, _, _, h, r => by
    cases h with
    | tup hs ha =>
      cases r
      obtain ⟨its, rv, ⟨o, ho, hc, n, hd⟩, _⟩ := I.tuple hs
      obtain ⟨as, hr, f⟩ := Dx.readsAll I ds _ its ha rv
      exact ⟨_, Reads.tuple ho hc hd hr, fun z => f (by simpa [noList] using z)⟩
  | .dict kvs, _, _, h, r => by
    cases h with
    | dct hs =>
      cases r
      obtain ⟨_, ns, vs, kv, o, es, ep, ho, hc, hd, hv⟩ := dk_of I.hok hs
      cases kv
      have e0 : es.toList = [] := by
        have z := hv.2.1
        revert z
        generalize es.toList = l
        intro z
        cases z
        rfl
      refine ⟨_, Reads.dict ho hc.1 hd (by rw [e0]; exact .nil) (by rw [e0]; exact .nil), fun _ z => ?_⟩
      rcases List.mem_cons.mp z with z | z
      · rw [← z] at ns
        cases ns
      · cases z
theorem Dx.readsAll (I : Inv X pins σ H s) : ∀ (ds : List PyData) (vs : List V) (us : List Value), DxAll X.K H vs ds → Vals vs us → ∃ as, ReadsAll s.heap us ds as ∧ (noListAll ds = true → sysModules ∉ as)
  | [], _, _, h, r => by
    cases h
    cases r
    exact ⟨_, ReadsAll.nil, fun _ z => nomatch z⟩
  | d :: ds, _, _, h, r => by
    cases h with
    | cons h1 h2 =>
      cases r with
      | cons r1 r2 =>
        obtain ⟨as, q1, f1⟩ := Dx.reads I d _ _ h1 r1
        obtain ⟨bs, q2, f2⟩ := Dx.readsAll I ds _ _ h2 r2
        refine ⟨_, ReadsAll.cons q1 q2, fun z m => ?_⟩
        have z' : noList d = true ∧ noListAll ds = true := by simpa [noListAll] using z
        exact (List.mem_append.mp m).elim (f1 z'.1) (f2 z'.2)
end
end
/-- what can be shown -/
structure Shows (d : PyData) : Prop where
  sh : d.showable = true
  nl : d.hasDict = true → noList d = true
  dep : d.depth ≤ 60
  nd : nodes d ≤ 8000
section
variable {X : Cx} {k : Nat}
theorem call_repr_x (gd : X.A.guards = some []) (room : Room k X.A) : CallR X (.builtin "repr") (fun xs H Q => ∃ v d, xs = [v] ∧ Dx X.K H v d ∧ Shows d ∧ Q (.str d.shown) H) := by
  intro pins s σ H xs us Q I r h
  obtain ⟨v, d, rfl, hd, S, q⟩ := h
  obtain ⟨u, rfl, rx⟩ := vals1 r
  have un := room.un
  have sz := fits_shown S.sh S.nd
  have ref : ∀ a : Addr, u = .ref a → wpAny (model X.prog X.w) X.A (call (.builtin "repr") [u]) (fun u' s' => ∃ v' H', Inv X pins σ H' s' ∧ RelV v' u' ∧ Q v' H') X.xe s := by
    intro a ha
    subst ha
    obtain ⟨as, rd, f⟩ := Dx.reads I d _ _ hd rx
    have dep := S.dep
    refine repr_of_reads' (h₀ := s.heap) rd S.sh (fun z => f (S.nl z)) gd (by omega) (fun _ _ e => e) ?_ sz
    intro h' u tk kp
    exact ⟨.str d.shown, H, I.kept (t' := tk) kp, ⟨u, rfl⟩, q⟩
  cases hd with
  | non =>
    cases (show u = Value.none from rx)
    exact PySem.P.repr_of_none ⟨.str _, H, I.tok _, ⟨_, rfl⟩, q⟩
  | bl b =>
    cases (show u = Value.bool b from rx)
    exact PySem.P.repr_of_bool ⟨.str _, H, I.tok _, ⟨_, rfl⟩, q⟩
  | int i =>
    obtain ⟨t, rfl⟩ := (show ∃ t, u = Value.int i t from rx)
    exact PySem.P.repr_of_int (by simpa [PyData.showable] using S.sh) ⟨.str _, H, I.tok _, ⟨_, rfl⟩, q⟩
  | str x =>
    obtain ⟨t, rfl⟩ := (show ∃ t, u = Value.str x t from rx)
    exact PySem.P.repr_of_str ⟨.str _, H, I.tok _, ⟨_, rfl⟩, q⟩ sz
  | dct h => exact ref _ rx
  | lst h a => exact ref _ rx
  | tup h a => exact ref _ rx
end
end Ov
namespace Ov
open PySem PySem.Spec PyProof.Rows L2
/-! ### exceptions of the program's classes as values: made, read, asked for their class -/
/-- C(e, ..) as a value, C's own __init__ keeping sp -/
def tMkV (C : Addr) (sp : Sp) (ta : TA) : TE := fun σ H Q => ta σ H fun vs H1 => vs.length ≤ 1000 ∧ ∀ a, H1 a = none → sp (.ref a :: vs) (upd H1 a (exo a C none)) (fun v H2 => v = .non ∧ Q (.ref a) H2) (fun _ _ _ => False)
section
variable {X : Cx} {o e : Expr} {es : List Expr} {to te : TE} {ta : TA} {f : Str} {p p' p1 p2 pos : Pos}
theorem pe_oexV {CX : CXT} {x : Str} {C fI : Addr} {k : Nat} {fd : FuncData} {ps : List Str} {sp : Sp} (T : OexC X.K C) (iC : PySem.W.findIn X.K (.ref C) "__init__" = some (some (.ref fI))) (tI : PySem.W.typeIn X.K (.ref fI) = some (.type "function"))
    (F1 : FnOk X.prog X.w X.K X.mg X.base CX k fI fd ps sp) (hr : Room (k + 1) X.A) (hb : Binds X.K fd ps []) (hx : Passes CX X (fun _ _ _ => False)) (hg : Gl X x) (hm : X.mg x = some (.ref C)) (ha : PA X (e :: es) ta)
    (hdb : (x == ("__debug__" : Str)) = false := by decide) (he : starEach (e :: es) X.env = (false, eval e X.env) :: starEach es X.env := by rfl) (hpl : (backTo pos (starEach es X.env)).any (·.1) = false := by rfl) :
    PE X (.Call (.Name x p) (e :: es) [] pos) (tMkV C sp ta) := by
  refine ⟨fun pins s σ H Q I h => ?_⟩
  obtain ⟨nm, q, N, bs, bm, sn, sub, ab, col, dd, k0, k1, k2, k3, k5, hC, hbm⟩ := T.cls
  refine wpAny_Call_Name_kw (ld_glob I hg hm ?_ hdb)
  refine PySem.W.callWith_K (h₀ := X.base) I.ok.mod.kin T.kC (thn (ha.run pos pins s σ H _ I h) fun us s1 ⟨vs, H1, I1, r1, hz, q1⟩ => ⟨I1.kIn, ?_⟩) he hpl
  show wpAny _ _ (call (.ref C) us) _ _ _
  obtain ⟨hp, g, dr, tk, os⟩ := s1
  have hsz : hp.objs.size ≤ hp.objs.size + 1 := Nat.le_succ _
  have hn : H1 (hp.objs.size + 1) = none := I1.hok.fresh hsz
  have hq := q1 (hp.objs.size + 1) hn
  have kk : ∀ b o, hp.get? b = some o → ((hp.push (PySem.W.kdv_tup us)).push (PySem.HandSPX.excO C hp.objs.size)).get? b = some o := fun b o e => Heap.get?_push_of_some _ (Heap.get?_push_of_some _ e)
  have hget : ((hp.push (PySem.W.kdv_tup us)).push (PySem.HandSPX.excO C hp.objs.size)).get? (hp.objs.size + 1) = some (PySem.HandSPX.excO C hp.objs.size) := by heap_get
  have I2 : Inv X pins σ (upd H1 (hp.objs.size + 1) (exo (hp.objs.size + 1) C none)) ⟨(hp.push (PySem.W.kdv_tup us)).push (PySem.HandSPX.excO C hp.objs.size), g, dr, tk, os⟩ :=
    I1.laid (t' := tk) (a := hp.objs.size + 1) (o := exo (hp.objs.size + 1) C none) (h' := (hp.push (PySem.W.kdv_tup us)).push (PySem.HandSPX.excO C hp.objs.size)) kk hsz (exo_ok hget)
  have r2 : Vals (V.ref (hp.objs.size + 1) :: vs) (Value.ref (hp.objs.size + 1) :: us) := .cons rfl r1
  have hl : (Value.ref (hp.objs.size + 1) :: us).length = ps.length := by
    have e := r2.length
    rw [F1.len _ _ _ _ hq] at e
    exact e.symm
  have hus : us.length ≤ sizeLine := by
    rw [← Paired.length r1, sizeLine_eq]
    omega
  have bt := hb _ (Value.ref (hp.objs.size + 1) :: us) I2.kIn (by simpa using hl)
  rw [List.append_nil] at bt
  refine wpAny_call (PySem.HandSPX.call_own F.excBase_ValueError (fun Y => PySem.HandSPX.refsVE_contains Y bm hbm) (I1.kIn _ _ hC) (PySem.W.looks_findIn I1.kIn iC) (fun self => PySem.W.bind_fn I1.kIn self tI) hus
    (codeAny_mono (F1.run _ X.stack _ _ ⟨Value.ref (hp.objs.size + 1) :: us, []⟩ (Value.ref (hp.objs.size + 1) :: us) _ _ (fun _ _ _ => False) (hr.make C us []) (I2.env0.make C us []) bt r2 hq) fun r s' hq' => ?_))
  cases r with
  | error er => exact hx pins σ _ _ er s' I2 hq'
  | ok fl =>
    cases fl with
    | ret u =>
      obtain ⟨v, H', I3, rv, ev, q3⟩ := I2.after hq'
      subst ev
      exact ⟨rv, ⟨V.ref (hp.objs.size + 1), H', I3, rfl, q3⟩⟩
    | next => exact False.elim hq'
    | brk => exact False.elim hq'
    | cont => exact False.elim hq'
/-- C() as a value, no own __init__ -/
theorem pe_exc0V {C : Addr} {bmB : List Value} {B newId initId : String} {x : Str} (F : ExcBaseFacts B newId initId bmB) (q : PySem.W.excIn X.K C bmB newId = true) (gC : X.mg x = some (.ref C)) (kC : PySem.W.keepIn X.K (.ref C) = true) (hg : Gl X x)
    (hdb : (x == ("__debug__" : Str)) = false := by decide) :
    PE X (.Call (.Name x p) [] [] pos) (fun σ H Q => ∀ a, H a = none → Q (.ref a) (upd H a (exo a C none))) := by
  refine ⟨fun pins s σ H Q I h => ?_⟩
  refine wpAny_Call_Name_kw (ld_glob I hg gC ?_ hdb)
  refine PySem.W.callWith_K0 I.kIn kC ?_
  obtain ⟨bm, N, nm, qn, bs, hdct, sn, sub, ab, col, dd, k0, k1, k2, k3, k5, mN, hC, hN, hni, T⟩ := exc_obj I.kIn q
  refine wpAny_call_exc_subT F T hC hN hni (fun h' a hm => ?_) (by show 0 ≤ sizeLine; exact Nat.zero_le _)
  have hn : H a = none := I.hok.gone hm.new
  obtain ⟨t, ht, _, _⟩ := hm.there
  exact ⟨.ref a, upd H a (exo a C none), I.laidN hm.keeps hm.new hn (exo_ok ht), rfl, h a hn⟩
/-- e.f, e an exception that stands in H -/
def tExf (K : PySem.W.Frag) (n : Str) (te : TE) : TE := fun σ H Q => te σ H fun x H1 => ∃ (a C dx : Addr) (fs : List (Str × V)) (v : V), x = .ref a ∧ XfC K C ∧ PySem.W.findIn K (.ref C) n = some none ∧ H1 a = some (exo a C (some dx)) ∧ H1 dx = some (exd dx fs) ∧ fs.lookup n = some v ∧ Q v H1
theorem pe_exf {n : Str} (he : PE X e te) (hb : attributeBase e n X.env (eval e X.env) = eval e X.env := by rfl) : PE X (.Attribute e n pos) (tExf X.K n te) := by
  refine ⟨fun pins s σ H Q I h => ?_⟩
  refine attr_of hb (thn (he.run pins s σ H _ I h) fun u s1 hh => ?_)
  obtain ⟨x, H1, I1, rx, a, C, dx, fs, v, ex, T, hno, ea, ed, l, q⟩ := hh
  subst ex
  obtain rfl : u = Value.ref a := rx
  obtain ⟨t1, ha⟩ := exo_at I1.hok ea
  obtain ⟨mA, hns, hr⟩ := exd_at I1.hok ed
  obtain ⟨od, ho, hl⟩ := lookIn_ns hns
  obtain ⟨u, hu, ru⟩ := RelO.some_of (v := v) (o := mA n) (by rw [← l]; exact hr n)
  have J : PySem.W.InstAt s1.heap a _ C (some od) := ⟨ha, rfl, rfl, ho⟩
  exact HandSPX.exc_get I1.kIn J T.ga T.gg T.exC (PySem.W.findObj_own T.hdC hno rfl (by rw [hl, hu])) (handed_of ru) ⟨v, H1, I1.tok _, ru, q⟩
/-- isinstance(e, c), e an exception that stands in H -/
def rIsX (K : PySem.W.Frag) : List V → Hp → VK → Prop := fun xs H Q => ∃ (a C : Addr) (d : Option Addr) (c : V) (cv : Value) (b : Bool), xs = [.ref a, c] ∧ ExcC K C ∧ H a = some (exo a C d) ∧ (∀ dx, d = some dx → ∃ fs, H dx = some (exd dx fs)) ∧ (∀ u, RelV c u → u = cv) ∧ PySem.W.kitOne K (.ref C) cv = some b ∧ Q (.bl b) H
theorem call_isX : CallR X (.builtin "isinstance") (rIsX X.K) := by
  intro pins s σ H xs us Q I r h
  obtain ⟨a, C, d, c, cv, b, rfl, E, ea, hd, hcv, e, q⟩ := h
  obtain ⟨u1, u2, rfl, r1, r2⟩ := vals2 r
  cases (show u1 = Value.ref a from r1)
  have ec := hcv _ r2
  subst ec
  obtain ⟨t1, ha⟩ := exo_at I.hok ea
  have hc : (PySem.W.clsIn X.K C).isSome = true := by
    obtain ⟨cd, z, _⟩ := PySem.W.any_some E.hd
    rw [z]
    rfl
  cases d with
  | none =>
    have J : PySem.W.InstAt s.heap a _ C none := ⟨ha, rfl, rfl, trivial⟩
    exact PySem.W.kia_one (PySem.W.kitx_exc hc E.hg E.hk E.hs E.ha E.hn E.ht E.hm) I.kIn J e (fun z => nomatch z) fun tk => ⟨.bl b, H, I.tok tk, rfl, q⟩
  | some dx =>
    obtain ⟨fs, ed⟩ := hd dx rfl
    obtain ⟨mA, hns, hr⟩ := exd_at I.hok ed
    obtain ⟨od, ho, hl⟩ := lookIn_ns hns
    have J : PySem.W.InstAt s.heap a _ C (some od) := ⟨ha, rfl, rfl, ho⟩
    exact PySem.W.kia_one (PySem.W.kitx_exc hc E.hg E.hk E.hs E.ha E.hn E.ht E.hm) I.kIn J e (fun z => nomatch z) fun tk => ⟨.bl b, H, I.tok tk, rfl, q⟩
end
end Ov
namespace Ov
open PySem PySem.Spec PyProof.Rows L2
section
variable {X : Cx}
/-- in every block of a comprehension -/
abbrev Blk (X : Cx) (sc : Scope) (R : Cx → Prop) : Prop := ∀ (s : Shared) (H : Hp) (C : Addr) (cl : List (Str × Addr)) (fp : List Addr), R (X.blk s H sc (compEnvC sc cl C X.env) fp)
/-- a local name that is given a new dict by a comprehension on its own row -/
theorem ps_setDc {i : Nat} {y : Str} {py pos ps : Pos} {kx vx tg it : Expr} {ifs : List Expr} {sc : Scope} {own : List (Str × Nat)} {wi : TI} {g : TG} {tt : TT} {tk tv : TE} (hc : X.calm = true) (nd : X.N.Nodup) (hy : X.N[i]? = some y) (loc : X.env.scope.names.lookup y = some .local)
    (sw : swapsWith (.DictComp kx vx [⟨tg, it, ifs, 0⟩] sc pos) (some (.Name y py)) ps.line X.env = pure true) (hi : PI X tg it wi) (ok : BlkOk X.N X.env.scope sc own) (hg : Blk X sc fun Y => PG Y tg g) (ht : Blk X sc fun Y => PTs Y ifs tt)
    (hk : Blk X sc fun Y => PE Y kx tk) (hv : Blk X sc fun Y => PE Y vx tv) (fs : ∀ x, foldedSetIterable it X.env x = pure x := by intro _; rfl) :
    PS X (.Assign [.Name y py] (.DictComp kx vx [⟨tg, it, ifs, 0⟩] sc pos) ps) (tAsg (tDc wi g tt tk tv (own.map (·.2))) (gName i)) := by
  constructor
  intro pins s σ H D I h
  rw [exec_Assign_Name_used _ _ _ _ sw]
  have core := dc_core (pos := pos) (pos' := firstIterPos [⟨tg, it, ifs, 0⟩] pos) (use := some (assign (.Name y py) X.env)) (Qf := fun _ t => SP X pins D .next t) (Q := fun x H1 => gName i x σ H1 D.nx) hc nd I hi ok hg ht hk hv fs h ?key
  · exact wpAny_bind (wpAny_standAt (wpAny_bind (wpAny_bind (thn core fun _ _ z => wpAny_pure (wpAny_pure z)))))
  case key =>
    intro L C t m G J q ns fp
    obtain ⟨p0, p1, _, p3, p4, p5⟩ := fp
    refine wpAny_assign_Name (store_ok2 (v := V.ref L) J nd hy (Or.inl loc) rfl ?_ (Or.inr loc))
    rintro t2 J2 ⟨a, sb, ha⟩
    have away : C ≠ a := ha.elim (fun z => z ▸ p1) (fun z w => p4 y a z w.symm)
    exact ⟨m, ns.sameBut sb away, fun _ sb3 => ⟨_, G, J2.turned (t' := t2.toks) (fun b _ hb e => (sb3.2 b hb).trans e) p0 p1 p3 p4 p5, q⟩⟩
theorem sw_dict {kx vx : Expr} {gs : List Comprehension} {sc : Scope} {pos py : Pos} {y : Str} {l : Nat} {env : Env} (kd : env.scope.kind = .function) (loc : env.scope.names.lookup y = some .local) (row : (py.line == pos.line) = true)
    (no : (sc.names.any fun (n, k) => n == y && (k == .local || k == .cell)) = false) : swapsWith (.DictComp kx vx gs sc pos) (some (.Name y py)) l env = pure true := by
  have h1 : env.blockKind = .function := by rw [Env.blockKind, kd]; rfl
  have h2 : env.kindOf y = some .local := loc
  rw [swapsWith]
  simp only [h1, h2, no, Expr.pos, row]
  rfl
end
end Ov
namespace Ov
open PySem PySem.Spec PyProof.Rows L2
/-! ### tuple * int where nothing new is made, or nothing is left -/
theorem mul_same (l : Addr) (it : Array Value) (n : Nat) (dd : Option Addr) (sl : Array (Option Value)) (x : Int) (u : Tok) (c0 : (decide (x < -(2 ^ 63)) || decide (x ≥ 2 ^ 63)) = false) (c1 : (it.isEmpty || x == 1) = true) :
    Meets (Builtin.«tuple.__mul__» ⟨[.ref l, .int x u], []⟩) (fun _ R s => s.heap.get? l = some { cls := .type "tuple", dict := dd, data := .seq it n, slots := sl } ∧ R (.ok (.ret (Value.ref l))) s) := by
  refine .of_wp fun prog w A R s h => ?_
  rcases s with ⟨hp, g, d, tk, os⟩
  rcases h with ⟨at_, hR⟩
  have ix := AutoSeq1.idx_int
  wp_walk using wpAny_loadPart' at_
  refine wpAny_ite_false (decide_eq_false fun z => by rw [c0] at z; cases z) ?_
  wp_walk using wpAny_loadPart' at_
  exact ⟨_, rfl, hR⟩
theorem mul_none (l : Addr) (it : Array Value) (n : Nat) (dd : Option Addr) (sl : Array (Option Value)) (x : Int) (u : Tok) (c0 : (decide (x < -(2 ^ 63)) || decide (x ≥ 2 ^ 63)) = false) (c1 : (it.isEmpty || x == 1) = false) (c2 : (decide (x ≤ 0) || it.isEmpty) = true) :
    Meets (Builtin.«tuple.__mul__» ⟨[.ref l, .int x u], []⟩) (fun _ R s => s.heap.get? l = some { cls := .type "tuple", dict := dd, data := .seq it n, slots := sl } ∧ R (.ok (.ret (Value.ref s.heap.objs.size))) { s with heap := s.heap.push { cls := Value.type "tuple", data := Data.seq #[] } }) := by
  refine .of_wp fun prog w A R s h => ?_
  rcases s with ⟨hp, g, d, tk, os⟩
  rcases h with ⟨at_, hR⟩
  have ix := AutoSeq1.idx_int
  wp_walk using wpAny_loadPart' at_
  refine wpAny_ite_false (decide_eq_false fun z => by rw [c0] at z; cases z) ?_
  wp_walk using wpAny_loadPart' at_
  exact ⟨_, rfl, hR⟩
/-- tuple * int, 0 to 1000 times -/
def rRepA (K : PySem.W.Frag) : R2 := fun x y H Q => ∃ (l : Addr) (k : Nat) (xs : List V), x = .ref l ∧ y = .int (k : Int) ∧ SqT K H l xs ∧ k ≤ 1000 ∧ xs.length ≤ 1000 ∧ (xs = [] ∨ k = 1 → Q (.ref l) H) ∧ (xs ≠ [] → k ≠ 1 → ∀ p, H p = none → Q (.ref p) (upd H p (.tup (List.replicate k xs).flatten)))
theorem op_repA {X : Cx} : OpR X (binaryOp .Mult) (rRepA X.K) := by
  intro pins s σ H x y v u Q I rx ry h
  have h0 := h
  obtain ⟨l, k, xs, ex, ey, hT, hk, hz, q1, q2⟩ := h
  by_cases big : xs ≠ [] ∧ 2 ≤ k
  · refine op_repT pins s σ H x y v u Q I rx ry ⟨l, (k : Int), xs, ex, ey, hT, big.1, by omega, by omega, hz, fun p np => ?_⟩
    rw [Int.toNat_natCast]
    exact q2 big.1 (by omega) p np
  subst ex ey
  cases rx
  obtain ⟨t, rfl⟩ := ry
  obtain ⟨its, r, ⟨⟨cls, dd, data, sl⟩, ho, hc, n, hd⟩, hs⟩ := I.tuple hT
  dsimp only at hc hd
  subst hc hd
  have le : its.length = xs.length := r.length.symm
  have c0 : (decide ((k : Int) < -(2 ^ 63)) || decide ((k : Int) ≥ 2 ^ 63)) = false := by
    rw [Bool.or_eq_false_iff]
    exact ⟨decide_eq_false (by omega), decide_eq_false (by omega)⟩
  by_cases one : xs = [] ∨ k = 1
  · have c1 : (its.toArray.isEmpty || (k : Int) == 1) = true := by
      rcases one with e | e
      · have : its = [] := List.eq_nil_of_length_eq_zero (by rw [le, e]; rfl)
        rw [this]
        rfl
      · rw [e, Bool.or_eq_true]
        exact .inr rfl
    exact wpAny_binaryOp_repeat_ref (T := "tuple") (U := "int") (by decide) ⟨_, ho, rfl⟩ (fun s' => typeIs_int s' _ t) noFill_tuple_mul F.fills_int_mul F.slot_int_rmul repeat_tuple F.slot_int_index.lookup
      (call_meets F.slot_int_rmul (typeIs_int s _ t) F.entry_int_rmul (F.args_int_rmul_2 _ _) (int_rmul_tuple _ t l its.toArray n dd sl)
        ⟨ho, rfl, ⟨_, ho, rfl⟩, call_meets F.slot_tuple_mul ⟨_, ho, rfl⟩ F.entry_tuple_mul (F.args_tuple_mul_2 _ _) (mul_same l its.toArray n dd sl _ t c0 c1) ⟨ho, .ref l, H, I, rfl, q1 one⟩⟩)
  · have k0 : k = 0 := by
      rcases Nat.lt_or_ge k 2 with z | z
      · have : k ≠ 1 := fun e => one (.inr e)
        omega
      · exact absurd ⟨fun e => one (.inl e), z⟩ big
    subst k0
    have ne : xs ≠ [] := fun e => one (.inl e)
    have c1 : (its.toArray.isEmpty || ((0 : Nat) : Int) == 1) = false := by
      cases its with
      | nil => exact absurd (List.eq_nil_of_length_eq_zero le.symm) ne
      | cons a b => rfl
    have hq := q2 ne (by decide) s.heap.objs.size (I.hok.fresh (Nat.le_refl _))
    refine wpAny_binaryOp_repeat_ref (T := "tuple") (U := "int") (by decide) ⟨_, ho, rfl⟩ (fun s' => typeIs_int s' _ t) noFill_tuple_mul F.fills_int_mul F.slot_int_rmul repeat_tuple F.slot_int_index.lookup
      (call_meets F.slot_int_rmul (typeIs_int s _ t) F.entry_int_rmul (F.args_int_rmul_2 _ _) (int_rmul_tuple _ t l its.toArray n dd sl)
        ⟨ho, rfl, ⟨_, ho, rfl⟩, call_meets F.slot_tuple_mul ⟨_, ho, rfl⟩ F.entry_tuple_mul (F.args_tuple_mul_2 _ _) (mul_none l its.toArray n dd sl _ t c0 c1 rfl) ⟨ho, .ref s.heap.objs.size, _, ?_, rfl, hq⟩⟩)
    exact I.laid (t' := s.toks) (o := .tup []) (fun b ob z => Heap.get?_push_of_some _ z) (Nat.le_refl _) ⟨Nat.zero_le _, [], .nil, IsTup.new _ _⟩
end Ov
namespace Ov
open PySem PySem.Spec PyProof.Rows L2
/-! ### sets of ints made by a comprehension -/
/-- an int that goes into the set at D -/
def PutI (w : World) (D : Addr) (y : V) (H : Hp) (N : Hp → Prop) : Prop := ∃ (c : Int) (S : Int → Bool) (n : Nat), y = .int c ∧ H D = some (SetO w D S n) ∧ n + 1 < scanBound ∧ N (upd H D (SetO w D (fun j => S j || decide (j = c)) (if S c = true then n else n + 1)))
/-- a turn: the item x, the test, the member -/
def TurnI (w : World) (D : Addr) (g : TG) (tt : TT) (te : TE) (σ0 : L2.St) (vs : List Nat) (x : V) (H : Hp) (N : Hp → Prop) : Prop := g x σ0 H fun σ2 H2 => wipe σ2 vs = σ0 ∧ tt σ2 H2 fun b H3 => if b = true then te σ2 H3 fun y H4 => PutI w D y H4 N else N H3
def tScI (w : World) (wi : TI) (g : TG) (tt : TT) (te : TE) (vs : List Nat) : TE := fun σ H Q => wi σ H fun J H1 => ∀ D, H1 D = none → ∃ W : Nat → Nat → Hp → Prop, (∃ m, W 0 m (upd H1 D (SetO w D (fun _ => false) 0))) ∧
  ∀ i m G, W i m G → (J.stop i G ∧ Q (.ref D) G) ∨ (J.go i G ∧ ∃ N : Hp → Prop, (∀ G', N G' → ∃ m', m' < m ∧ W (i + 1) m' G') ∧ ∀ x G', J.yld i G x G' → TurnI w D g tt te (wipe σ vs) vs x G' N)
section
variable {X : Cx}
theorem addI_ok {pins : List (Addr × Obj)} {σ : L2.St} {H : Hp} {s : Shared} {E : Value → Shared → Prop} {D : Addr} {S : Int → Bool} {n : Nat} {y : Int} {u : Value} {Q : Value → Shared → Prop} (I : Inv X pins σ H s) (hD : H D = some (SetO X.w D S n)) (room : n + 1 < scanBound) (ru : RelV (.int y) u)
    (h : ∀ t, Inv X pins σ (upd H D (SetO X.w D (fun j => S j || decide (j = y)) (if S y = true then n else n + 1))) t → Q .none t) : wpAny (model X.prog X.w) X.A (call (.builtin "set.add") [.ref D, u]) Q E s := by
  obtain ⟨tk, rfl⟩ := ru
  refine setR_add (setO_get I hD) room fun g sb nw => h _ ?_
  obtain ⟨o, _, _, _, ho, _⟩ := id nw
  exact I.write (e := D) (t' := s.toks + 1) (by rw [hD]; trivial) (.inl rfl) (fun b _ hb z => (sb.2 b hb).trans z) ⟨o, ho⟩ (setO_new nw)
/-- the object of a new set -/
abbrev set0 (w : World) : Obj := { cls := .type "set", dict := none, data := .set #[] 0 (.fresh 0 0 (!w.params.followText "set-order")) }
theorem pe_scI {el tg it : Expr} {ifs : List Expr} {sc : Scope} {own : List (Str × Nat)} {pos : Pos} {wi : TI} {g : TG} {tt : TT} {te : TE} (hc : X.calm = true) (nd : X.N.Nodup) (hi : PI X tg it wi) (ok : BlkOk X.N X.env.scope sc own)
    (hg : Blk X sc fun Y => PG Y tg g) (ht : Blk X sc fun Y => PTs Y ifs tt) (he : Blk X sc fun Y => PE Y el te) (fs : ∀ x, foldedSetIterable it X.env x = pure x := by intro _; rfl) :
    PE X (.SetComp el [⟨tg, it, ifs, 0⟩] sc pos) (tScI X.w wi g tt te (own.map (·.2))) := by
  constructor
  intro pins s σ H Q I h
  rw [PpSet.eval_SetComp]
  have cells : ∀ y ∈ sc.names, y.2 = .free → ∃ c, X.env.cells.lookup y.1 = some c := fun y hy e => (ok.free y hy e).elim (fun z => I.ok.has _ (Or.inl z)) (fun z => I.ok.has _ (Or.inr z))
  refine wpAny_comprehension_free (use := none) rfl fs (closure_ok cells) ok.kind (fun y hy e => by rw [ok.uniq y hy, e]) (thn (hi.run pins s σ H _ I h) fun _ _ z1 => thn z1 fun _ t2 z2 => ?_)
  obtain ⟨a, fp, tn, J, G2, rfl, I2, T, st2, f2, q⟩ := z2
  refine PpSet.newSet_ok (newEnv_comp ?_)
  obtain ⟨D, eD⟩ : ∃ D, D = t2.heap.objs.size := ⟨_, rfl⟩
  rw [← eD]
  obtain ⟨W, ⟨m0, w0⟩, turn⟩ := q D (I2.hok.fresh (Nat.le_of_eq eD.symm))
  obtain ⟨t3, e3⟩ : ∃ t3 : Shared, t3 = { t2 with heap := t2.heap.push (set0 X.w) } := ⟨_, rfl⟩
  have hp3 : t3.heap = t2.heap.push (set0 X.w) := by rw [e3]
  have I3 : Inv X pins σ (upd G2 D (SetO X.w D (fun _ => false) 0)) t3 := by
    rw [e3]
    refine I2.laid (t' := t2.toks) (fun _ _ z => Heap.get?_push_of_some _ z) (Nat.le_of_eq eD.symm) ?_
    rw [eD]
    exact setO_new (setR_fresh X.w)
  have low : ∀ b ∈ fp, b < t2.heap.objs.size := fun b hb => (T.obj _ _ st2 b hb).elim fun _ z => Heap.lt_size z.1
  have f3 : ∀ b ∈ fp, FpOk X pins (upd G2 D (SetO X.w D (fun _ => false) 0)) b ∧ b < t3.heap.objs.size := fun b hb =>
    ⟨⟨by rw [upd_ne (by rw [eD]; exact Nat.ne_of_lt (low b hb))]; exact (f2 b hb).1, (f2 b hb).2⟩, by rw [hp3, Heap.size_push]; exact Nat.lt_succ_of_lt (low b hb)⟩
  have st3 : tn 0 t3.heap := T.keep _ _ _ st2 fun _ _ _ z => by rw [hp3]; exact Heap.get?_push_of_some _ z
  have I4 := block_start I3 ok nd f3
  generalize hG3 : upd G2 D (SetO X.w D (fun _ => false) 0) = G3 at *
  obtain ⟨C, eC⟩ : ∃ C, C = t3.heap.objs.size := ⟨_, rfl⟩
  obtain ⟨ce, ece⟩ : ∃ ce, ce = compEnvC sc (cellsFrom (t3.heap.objs.size + 1) sc.names (cloFrom X.env.cells sc.names [])) t3.heap.objs.size X.env := ⟨_, rfl⟩
  have pg := hg t3 G3 t3.heap.objs.size (cellsFrom (t3.heap.objs.size + 1) sc.names (cloFrom X.env.cells sc.names [])) fp
  have pt := ht t3 G3 t3.heap.objs.size (cellsFrom (t3.heap.objs.size + 1) sc.names (cloFrom X.env.cells sc.names [])) fp
  have pe := he t3 G3 t3.heap.objs.size (cellsFrom (t3.heap.objs.size + 1) sc.names (cloFrom X.env.cells sc.names [])) fp
  rw [← ece] at pg pt pe I4
  have loc : ce.locals = C := by rw [ece, eC]; rfl
  obtain ⟨t4, e4⟩ : ∃ t4 : Shared, t4 = { t3 with heap := pushCells (t3.heap.push { cls := .type "dict", data := .dict #[] }) sc.names } := ⟨_, rfl⟩
  rw [← e4] at I4
  have st4 : tn 0 t4.heap := T.keep _ _ _ st3 fun _ _ _ z => by rw [e4]; exact pushCells_keeps _ _ _ _ (Heap.get?_push_of_some _ z)
  have nfp : ∀ b ∈ fp, G3 b = none := fun b hb => (f3 b hb).1.1
  have still : ∀ {σ' : L2.St} {G : Hp} {t : Shared}, Inv (X.blk t3 G3 sc ce fp) [] σ' G t → (∀ b ∈ fp, G b = none) → ∀ b ∈ fp, FpOk (X.blk t3 G3 sc ce fp) [] G b := fun {σ' G t} K hn b hb =>
    ⟨hn b hb, (K.ok.exf b hb).1, K.ok.exfs b hb, .inl hb, fun x c z => (K.ok.exf b hb).2 x c z, fun p hp => absurd (show p ∈ ([] : List (Addr × Obj)) ++ [] from hp) (by simp)⟩
  have loop : codeAny (model X.prog X.w) X.A (.compLoop (.SetComp el [⟨tg, it, ifs, 0⟩] sc pos) 0 (.ref a) (.ref D) ce) (compPost (model X.prog X.w) X.A X.xe none (EP X pins σ Q) (.ref D) C) t4 := by
    refine PpSet.compLoopS_any (fun n t => ∃ i G, Inv (X.blk t3 G3 sc ce fp) [] (wipe σ (own.map (·.2))) G t ∧ tn i t.heap ∧ (∀ b ∈ fp, G b = none) ∧ W i n G) ?_ m0 ⟨0, G3, I4, st4, nfp, w0⟩
    rintro n t5 ⟨i, G5, I5, st5, n5, w5⟩
    rcases turn i n G5 w5 with ⟨stop, qq⟩ | ⟨go, N, hN, step⟩
    · refine thnF (T.done (X.blk t3 G3 sc ce fp) rfl rfl rfl hc i [] t5 _ G5 (fun _ _ => False) I5 (still I5 n5) st5 stop) fun r t6 z => ?_
      obtain ⟨rfl, I6⟩ := z
      have I7 : Inv X pins σ G5 t6 := I3.call' (ch := fp) I6.os I6.base I6.hok I6.bare fun b hb => ⟨(f3 b hb).1.2.2.2.1, (f3 b hb).1.2.1, (f3 b hb).1.2.2.2.2.1, (f3 b hb).1.2.2.2.2.2⟩
      have nC : G5 C = none := by rw [← loc]; exact I6.free
      obtain ⟨m, ns, _⟩ := I6.loc
      replace ns : t6.heap.Ns C m := by rw [← loc]; exact ns
      obtain ⟨p0, p1, _, p3, p4, p5⟩ := I3.fpOk (Nat.le_of_eq eC.symm) nC
      exact ⟨m, ns, fun _ sb => ⟨.ref D, G5, I7.turned (t' := t6.toks) (fun b _ hb z => (sb.2 b hb).trans z) p0 p1 p3 p4 p5, rfl, qq⟩⟩
    · refine thnF (T.item (X.blk t3 G3 sc ce fp) rfl rfl rfl hc i [] t5 _ G5 (fun _ _ => False) I5 (still I5 n5) st5 go) fun r t6 z => ?_
      obtain ⟨u, rfl, z⟩ := z
      refine thnF z fun _ t7 ⟨x, G7, I7, r7, y7, st7, n7⟩ => ?_
      refine thnF (pg.run _ t7 _ G7 x u _ (I7.pinned (still I7 n7) (T.obj _ _ st7)) r7 (step x G7 y7)) fun _ t8 ⟨σ8, G8, I8, w8, q8⟩ => ?_
      refine thnF (pt.run _ t8 σ8 G8 _ I8 q8) fun b t9 ⟨G9, I9, q9⟩ => ?_
      have again : ∀ {t : Shared} {G : Hp}, Inv (X.blk t3 G3 sc ce fp) ([] ++ pinsAt fp t7.heap) σ8 G t → N G → ∃ m, m < n ∧ ∃ i G, Inv (X.blk t3 G3 sc ce fp) [] (wipe σ (own.map (·.2))) G t ∧ tn i t.heap ∧ (∀ b ∈ fp, G b = none) ∧ W i m G := fun {t G} K nx => by
        obtain ⟨m', lt, w'⟩ := hN G nx
        have pin : ∀ b ∈ fp, ∀ o, t7.heap.get? b = some o → t.heap.get? b = some o ∧ G b = none := fun b hb o z => by
          have y := K.pin (b, o) (List.mem_append_right _ (List.mem_append_right _ (mem_pinsAt hb z)))
          exact ⟨y.1, y.2.1⟩
        have len : (wipe σ (own.map (·.2))).length = σ8.length := by rw [← w8, wipe_length]
        exact ⟨m', lt, i + 1, G, (K.unpinned (pins := [])).weak len (fun _ _ z => by rw [← w8] at z; exact (wipe_some z).1), T.keep _ _ _ st7 fun b hb o z => (pin b hb o z).1, fun b hb => (T.obj _ _ st7 b hb).elim fun o z => (pin b hb o z.1).2, w'⟩
      cases b with
      | false => exact again I9 q9
      | true =>
        refine thnF (pe.run _ t9 σ8 G9 _ I9 q9) fun v t10 ⟨yv, G10, I10, r10, z⟩ => ?_
        obtain ⟨c, S, k, rfl, hD, room, nx⟩ := z
        exact addI_ok (X := X.blk t3 G3 sc ce fp) I10 hD room r10 fun t11 I11 => again I11 nx
  have start := PpSet.codeAny_compStart_set loop (T.self X.A 0 _ _ _ st4 loop)
  rw [ece, e4, e3] at start
  rw [eC, e3] at start
  exact start
end
end Ov
namespace Ov
open PySem PySem.Spec PyProof.Rows L2
/-! ### set(xs), xs a list of ints -/
section
variable {P : Program} {w : World} {A : Around} {E : Value → Shared → Prop} {s : Shared}
theorem set_of_ints {l : Addr} {its : Array Value} (zs : List Int) {Q : Value → Shared → Prop} (ha : A.handled = none) (hl : s.heap.IsList l its) (hz : IntsAre its.toList zs) (few : zs.length + 1 < scanBound)
    (fin : ∀ (g : Heap) (tk c : Nat), SetR w g s.heap.objs.size (fun j => decide (j ∈ zs)) c → c ≤ zs.length → (∀ b o, s.heap.get? b = some o → g.get? b = some o) → Q (.ref s.heap.objs.size) { s with heap := g, toks := tk }) :
    wpAny (model P w) A (call (.type "set") [.ref l]) Q E s := by
  have n0 : its.size = zs.length := by have z := IntsAre.length hz; rwa [Array.length_toList] at z
  obtain ⟨c0, t0, m0⟩ := PySem.F.called_set.mro
  have m1 := PySem.F.called_set.made; have m2 := PySem.F.called_set.sub
  have m3 := PySem.F.called_set.notType; have m4 := PySem.F.called_set.canCreate
  have m5 := PySem.F.typeCall_set_1 (.ref l)
  refine wpAny_call (codeAny_of_tree ?_); show wpAny _ _ (callAny (.type "set") _) _ _ _
  refine wpAny_pure (And.intro (Code.quiet_builtin _ (by decide +kernel)) (codeAny_builtin PySem.F.entry_type_call ?_)); rewrite [Around.under_plain (weight_type_call_type "set" [Value.ref l] []) rfl]
  repeat any_goals first | assumption | wp_step
  generalize hS0 : s.heap.objs.size = D at *
  have gD : (s.heap.push (set0 w)).get? D = some (set0 w) := by rw [← hS0]; exact Heap.get?_push_size _ rfl
  have tD : Shared.TypeIs { s with heap := s.heap.push (set0 w) } (.ref D) "set" := ⟨_, gD, rfl⟩
  refine codeAny_mono (code_set_led1 (.ref l) (E := E) (Q₁ := fun o s₁ => o = .ref D ∧ s₁ = { s with heap := s.heap.push (set0 w) }) ⟨by rw [hS0], rfl⟩) fun r s₁ hr => ?_
  cases r with
  | error e => exact hr
  | ok fl =>
    cases fl with
    | ret o =>
      obtain ⟨rfl, rfl⟩ := hr
      have i1 := PySem.F.called_set.init.lookup; have i2 := PySem.F.called_set.init.bind (.ref D)
      repeat any_goals first | assumption | wp_step
      refine codeAny_mono (codeAny_call_builtin (R := wants (fun r s₂ => r = .none ∧ ∃ g tk c, s₂ = { s with heap := g, toks := tk } ∧ SetR w g D (fun j => decide (j ∈ zs)) c ∧ c ≤ zs.length ∧ ∀ b o, s.heap.get? b = some o → g.get? b = some o) E) PySem.F.called_set.init.plain PySem.F.entry_set_init (check_set_init_1 tD ?_)) fun r₂ s₂ h₂ => ?_
      · obtain ⟨lo, lg, lc, ln, ld⟩ := hl
        obtain ⟨lcls, ldict, ldata, lslots⟩ := lo
        simp only at lc ld; subst lc; subst ld
        have gl : (s.heap.push (set0 w)).get? l = some { cls := .type "list", dict := ldict, data := .seq its ln, slots := lslots } := Heap.get?_push_of_some _ lg
        have il : (s.heap.push (set0 w)).IsList l its := ⟨_, gl, rfl, ln, rfl⟩
        have x1 := PySem.F.sub_list_set; have x2 := PySem.F.sub_list_frozenset
        have x3 : (Value.type "list" == Value.type "dict") = false := by decide
        unfold Builtin.«set.__init__» noKeywords Builtin.Frozenset.updateFrom; generalize pe : pyIter = it0
        wp_walk
        subst pe; refine wpAny_pyIter_list il (wpAny_bind (wpAny_runValue ?_))
        have l0 : l < D := by rw [← hS0]; exact Heap.lt_size lg
        have sz : (s.heap.push (set0 w)).objs.size = D + 1 := by rw [Heap.size_push, hS0]
        have vals : ∀ (i : Nat) (v : Value), its[i]? = some v → ∃ k t, zs[i]? = some k ∧ v = .int k t := fun i v hv => by
          have lt : i < zs.length := by rw [← n0]; exact (Array.getElem?_eq_some_iff.mp hv).1
          obtain ⟨t, e⟩ := IntsAre.int_at hz i v (by rw [Array.getElem?_toList]; exact hv)
          exact ⟨zs[i], t, List.getElem?_eq_getElem lt, by rw [e, List.getD_eq_getElem?_getD, List.getElem?_eq_getElem lt]; rfl⟩
        refine set_update_ints ((Walks.list (by simp [ha]) _ l (by rw [sz]; exact Nat.ne_of_lt (Nat.lt_succ_of_lt l0)) its).toS) D (by rw [sz]; simp; exact Nat.ne_of_gt l0) zs n0 few vals its.size 0 _ (by omega) (Nat.zero_le _) ⟨⟨_, Heap.get?_push_size _ rfl, rfl, rfl⟩, il.push _⟩ ⟨0, Nat.le_refl 0, setR_new_at (Heap.get?_push_of_some _ gD)⟩ ?_
        rintro ⟨g, g2, d2, tk2, os2⟩ c mv cl hR
        obtain rfl : g2 = s.gens := mv.gens
        obtain rfl : d2 = s.drawn := mv.drawn
        obtain rfl : os2 = s.os := mv.os
        show wpAny _ _ _ _ _ _; refine wpAny_pure ?_; show wpAny _ _ (ret Value.none) _ _ _
        refine wpAny_pure ⟨rfl, g, tk2, c, rfl, hR, by omega, fun b o e => ?_⟩
        have bl : b < D := by rw [← hS0]; exact Heap.lt_size e
        exact mv.heap b o (by rw [sz]; simp; exact ⟨Nat.ne_of_lt bl, Nat.ne_of_lt (Nat.lt_succ_of_lt bl)⟩) (Heap.get?_push_of_some _ (Heap.get?_push_of_some _ e))
      · cases r₂ with
        | error e => exact h₂
        | ok f₂ =>
          cases f₂ with
          | ret r =>
            obtain ⟨rfl, g, tk, c, rfl, z1, z2, z3⟩ := h₂
            repeat any_goals first | assumption | wp_step
            exact fin g tk c z1 z2 z3
          | _ => exact h₂.elim
    | _ => exact hr.elim
end
section
variable {X : Cx}
theorem ints_of {zs : List Int} {us : List Value} (h : Vals (zs.map V.int) us) : IntsAre us zs := by
  induction zs generalizing us with
  | nil => cases h; exact .nil
  | cons z r ih =>
    cases h with
    | cons a b =>
      obtain ⟨t, rfl⟩ := a
      exact .cons z t (ih b)
/-- a new set of the ints of a list; ds are its members -/
def rSetI (K : PySem.W.Frag) (w : World) : List V → Hp → VK → Prop := fun xs H Q => ∃ (l : Addr) (zs : List Int), xs = [V.ref l] ∧ SqL K H l (zs.map V.int) ∧ zs.length < 4000 ∧
  ∀ (a : Addr) (ds : List Int), H a = none → ds.Nodup → (∀ d ∈ ds, d ∈ zs) → Q (.ref a) (upd H a (SetO w a (fun j => decide (j ∈ zs)) ds.length))
theorem cr_setI (hc : X.calm = true) : CallR X (.type "set") (rSetI X.K X.w) := by
  intro pins s σ H xs us Q I r h
  obtain ⟨l, zs, rfl, hl, few, q⟩ := h
  rw [Vals.ref1 r]
  obtain ⟨its, rv, pl, sz⟩ := I.list hl
  have nn : H s.heap.objs.size = none := I.hok.fresh (Nat.le_refl _)
  refine set_of_ints zs (I.ok.hd hc) pl.isList (by simpa using ints_of rv) (by show zs.length + 1 < 4096; omega) fun g tk c R le k => ?_
  obtain ⟨o, es, ep, t, _, _, _, _, z1, z2, _, _, z3, _⟩ := id R
  have len : (es.toList.map keyOf).length = c := by rw [List.length_map, Array.length_toList]; exact z3
  rw [← len] at R
  exact ⟨.ref s.heap.objs.size, _, I.laid (t' := tk) k (Nat.le_refl _) (setO_new R), rfl, q _ _ nn z1 fun d hd => of_decide_eq_true ((z2 d).mpr hd)⟩
/-! ### tuple(range(i, j, c)) -/
def rg3V (i c : Int) (n : Nat) : List V := (List.range n).map fun k => V.int (i + ((k : Nat) : Int) * c)
def tTupRg3 (ta : TA) : TE := fun σ H Q => ta σ H fun vs H1 => ∃ (i j c : Int) (n : Nat), vs = [.int i, .int j, .int c] ∧ RgC i j c n ∧ n ≤ 1000 ∧ ∀ q, H1 q = none → Q (.ref q) (upd H1 q (.tup (rg3V i c n)))
theorem vals_rg3 {i c : Int} {n : Nat} {acc : Array Value} (h : ItemsOf (fun k v => ∃ t, v = .int (i + k * c) t) acc n) : Vals (rg3V i c n) acc.toList := by
  have len : n = acc.toList.length := by rw [Array.length_toList, h.1]
  subst len
  exact vals_of_get acc.toList (fun m => V.int (i + ((m : Nat) : Int) * c)) fun m x hm => by
    obtain ⟨t, ex⟩ := h.2 m x (by rw [← Array.getElem?_toList]; exact hm)
    exact ⟨t, ex⟩
theorem pe_tupRg3 {a b c : Expr} {ta : TA} {p p2 pos pos2 : Pos} (hc : X.calm = true) (hg : Gl X "tuple") (hm : X.mg "tuple" = none) (hgR : Gl X "range") (hmR : X.mg "range" = none) (ha : PA X [a, b, c] ta)
    (na : starEach [.Call (.Name "range" p2) [a, b, c] [] pos2] X.env = (false, eval (.Call (.Name "range" p2) [a, b, c] [] pos2) X.env) :: starEach [] X.env := by rfl)
    (hs : starEach [a, b, c] X.env = (false, eval a X.env) :: starEach [b, c] X.env := by rfl) (hpl : (backTo pos2 (starEach [b, c] X.env)).any (·.1) = false := by rfl) :
    PE X (.Call (.Name "tuple" p) [.Call (.Name "range" p2) [a, b, c] [] pos2] [] pos) (tTupRg3 ta) := by
  refine ⟨fun pins s σ H Q I h => Call_ (ld_blt I hg hm boot_tuple (PyProof.Rows.callWith_type1 (args_cons (Call_ (ld_blt I hgR hmR boot_range (PyProof.Rows.callWith_type1 (thn (ha.run pos2 pins s σ H _ I h) fun us s1 ⟨vs, H1, I1, r1, q1⟩ => ?_) hs hpl))) na) na))⟩
  obtain ⟨lo, up, st, n, rfl, ⟨z0, z1, z2, z3⟩, hn, q⟩ := q1
  obtain _ | ⟨⟨t0, rfl⟩, _ | ⟨⟨t1, rfl⟩, _ | ⟨⟨t2, rfl⟩, _ | _⟩⟩⟩ := r1
  refine call_range_3 z0 (args_nil ?_) (.inl (PyProof.noPylong_small z1))
  have J : Inv X pins σ H1 { s1 with heap := s1.heap.push { cls := .type "range", data := .fields #[.int lo t0, .int up t1, .int st t2] } } := I1.kept (t' := s1.toks) fun _ _ z => Heap.get?_push_of_some _ z
  refine call_tuple_range (n := n) (J.ok.hd hc) (IsRange.new ..) z2 z3 (by omega) fun g tk acc kp its => ?_
  have J3 : Inv X pins σ H1 { s1 with heap := g, toks := tk } := J.kept kp
  have small : (rg3V lo st n).length ≤ sizeLine := by unfold rg3V; rw [List.length_map, List.length_range, sizeLine_eq]; omega
  have new : ObjOk X.prog X.w (upd H1 g.objs.size (.tup (rg3V lo st n))) (g.push { cls := .type "tuple", data := .seq acc }) g.objs.size (.tup (rg3V lo st n)) := ⟨small, acc.toList, vals_rg3 its, (by rw [Array.toArray_toList]; exact IsTup.new _ _)⟩
  exact ⟨.ref g.objs.size, _, J3.laid (t' := tk) (fun _ _ z => Heap.get?_push_of_some _ z) (Nat.le_refl _) new, rfl, q _ (J3.hok.fresh (Nat.le_refl _))⟩
end
end Ov
namespace Ov
open PySem PySem.Spec PyProof.Rows L2
/-! ### enumerate over a tuple -/
/-- the two new objects of such a call -/
theorem enumT_new {vv : Value} {oo : Obj} {HH : Heap → Prop} (BB : Begins vv oo HH) : Meets (Builtin.«enumerate.__new__» ⟨[.type "enumerate", vv], []⟩) (fun _ R st => HH st.heap ∧
    R (.ok (.ret (.ref (st.heap.push oo).objs.size))) { st with heap := (st.heap.push oo).push { cls := .type "enumerate", data := .fields #[.none, .bool false, .ref st.heap.objs.size, rawInt 0, .none, .none] } }) := by
  refine .of_wp fun pr ww AA RR st hyp => ?_
  obtain ⟨hp, gn, dd, tk, os⟩ := st
  obtain ⟨hyp1, hyp2⟩ := hyp
  have subE := sub_enumerate
  have itE : ∀ {A' : Around} {EE : Value → Shared → Prop} {QQ : Value → Shared → Prop}, QQ (.ref hp.objs.size) ⟨hp.push oo, gn, dd, tk, os⟩ → wpAny (model pr ww) A' (pyIter vv) QQ EE ⟨hp, gn, dd, tk, os⟩ := fun qq => BB.iter pr ww _ _ ⟨hp, gn, dd, tk, os⟩ _ hyp1 qq
  wp_walk using itE
  refine wpAny_stack_any fun stk => wpAny_pure ?_
  split
  · rename_i cc _ _ _ _ _
    cases (cc == Value.type "enumerate") <;> (wp_walk using itE) <;> exact ⟨_, rfl, hyp2⟩
  · wp_walk using itE
    exact ⟨_, rfl, hyp2⟩
theorem call_enumT {pr : Program} {ww : World} {AA : Around} {EE : Value → Shared → Prop} {st : Shared} {tt : Addr} {arr : Array Value} {QQ : Value → Shared → Prop} (hT : st.heap.IsTuple tt arr)
    (hyp : ∀ h2, IsEnum h2 (st.heap.objs.size + 1) st.heap.objs.size 0 .none → h2.IsTupleIter st.heap.objs.size tt 0 → (∀ b o, st.heap.get? b = some o → h2.get? b = some o) → QQ (.ref (st.heap.objs.size + 1)) { st with heap := h2 }) :
    wpAny (model pr ww) AA (call (.type "enumerate") [.ref tt]) QQ EE st := by
  refine callType_new F.called_enumerate (by decide) (F.typeCall_enumerate_1 _) (F.newCall_enumerate_1 _) (fun obj => F.args_object_init_2 obj _) F.entry_enumerate_new (enumT_new (begins_tuple tt arr)) ⟨hT, ?_⟩
  have sz : (st.heap.push { cls := .type "tuple_iterator", data := .fields #[.ref tt, .int 0 0] }).objs.size = st.heap.objs.size + 1 := Heap.size_push ..
  show _ ∧ _
  rw [sz]
  have en : IsEnum ((st.heap.push { cls := .type "tuple_iterator", data := .fields #[.ref tt, .int 0 0] }).push { cls := .type "enumerate", data := .fields #[.none, .bool false, .ref st.heap.objs.size, rawInt 0, .none, .none] }) (st.heap.objs.size + 1) st.heap.objs.size 0 .none := by
    have zz := Heap.get?_push_size (st.heap.push { cls := .type "tuple_iterator", data := .fields #[.ref tt, .int 0 0] }) (o := { cls := .type "enumerate", data := .fields #[.none, .bool false, .ref st.heap.objs.size, rawInt 0, .none, .none] }) rfl
    rwa [sz] at zz
  exact ⟨⟨_, en, rfl⟩, hyp _ en ⟨_, Heap.get?_push_of_some _ (Heap.get?_push_size _ rfl), rfl, rfl⟩ fun b o xx => Heap.get?_push_of_some _ (Heap.get?_push_of_some _ xx)⟩
theorem enumT_end {pr : Program} {ww : World} {AA : Around} {EE : Value → Shared → Prop} {st : Shared} {en it tt : Addr} {i : Nat} {arr : Array Value} {old : Value} {QQ : Option Value → Shared → Prop} (calm : AA.handled = none) (hen : IsEnum st.heap en it i old) (hti : st.heap.IsTupleIter it tt i) (ht : st.heap.IsTuple tt arr) (hx : arr[i]? = none)
    (hyp : ∀ h2, Heap.ExtBut it st.heap h2 → QQ none { st with heap := h2 }) : wpAny (model pr ww) AA (pyNext (.ref en)) QQ EE st := by
  have ty : st.TypeIs (.ref en) "enumerate" := ⟨_, hen, rfl⟩
  unfold pyNext
  refine wpAny_bind (wpAny_attempt (wpAny_callSpecial?_slot (name := Str.ofString "__next__") ty F.slot_enumerate_next (wpAny_call_entry F.slot_enumerate_next ty F.entry_enumerate_next ?_ (F.args_enumerate_next_1 _))))
  show wpAny _ _ (field (.ref en) 2 >>= _) _ _ _
  refine wpAny_bind (wpAny_field hen rfl (x := .ref it) rfl (wpAny_bind (wpAny_nextOf_tuple_end calm hti ht hx fun h2 ee ext isStop => ?_)))
  obtain ⟨oo, hoo, hcc⟩ := isStop
  exact wpAny_bind (wpAny_isInstance (T := "StopIteration") (b := true) ⟨oo, hoo, hcc⟩ isSubtype_stop (wpAny_pure (hyp _ ext)))
/-- the tuple at a as it stands, each item in a new pair with its number -/
def IteT (K : PySem.W.Frag) (a : Addr) : It where
  go := fun i H => ∃ (xs : List V) (x : V), SqT K H a xs ∧ xs[i]? = some x
  yld := fun i H v H' => ∃ pr x, v = .ref pr ∧ H pr = none ∧ H' = upd H pr (.tup [.int (i : Nat), x]) ∧ ∀ xs, SqT K H a xs → xs[i]? = some x
  stop := fun i H => ∃ xs : List V, SqT K H a xs ∧ xs.length ≤ i
theorem turn_enumT {P : Program} {w : World} {K : PySem.W.Frag} {elts : List Expr} {kk : Nat} {tpos : Pos} (a en it : Addr) (n1 : en ≠ it) (n2 : a ≠ it) (n3 : a ≠ en) :
    Turn P w K (.Tuple elts kk tpos) (IteT K a) [en, it] en (fun i h => (∃ old, IsEnum h en it ((i : Nat) : Int) old) ∧ h.IsTupleIter it a i) where
  mem := by simp
  obj := fun i h st b hb => by
    obtain ⟨⟨old, hen⟩, ⟨oi, hoi, _, hdi⟩⟩ := st
    rcases (show b = en ∨ b = it by simpa using hb) with rfl | rfl
    · exact ⟨_, hen, fun v q => nomatch q⟩
    · exact ⟨oi, hoi, fun v q => by rw [hdi] at q; cases q⟩
  keep := fun i h h' st kp => by
    obtain ⟨⟨old, hen⟩, hti⟩ := st
    exact ⟨⟨old, kp en (by simp) _ hen⟩, hti.at fun o q => kp it (by simp) o q⟩
  item := by
    intro X hP hw hK hc i pins s σ H E I hf st hg
    subst hP hw hK
    obtain ⟨⟨old, hen⟩, hti⟩ := st
    obtain ⟨xs, x, hq, hx⟩ := hg
    obtain ⟨vals, rv, ht, _⟩ := I.tuple hq
    obtain ⟨u, hu, ru⟩ := rv.get hx
    have enl := Heap.lt_size hen
    have itl : it < s.heap.objs.size := by obtain ⟨_, z, _⟩ := hti; exact Heap.lt_size z
    have ndr : en ∉ [it, a] := fun z => (show en = it ∨ en = a by simpa using z).elim n1 fun z => n3 z.symm
    have ilt : i < vals.toArray.size := by have := (List.getElem?_eq_some_iff.mp hu).1; simpa using this
    refine wpAny_pyNext_enum_itemD (Draws.tuple (A := X.A.in1) (I.ok.hd hc) it a n2 vals.toArray) hen ⟨hti, ht⟩ ilt n1 ndr fun x' h1 tk hx' hout hst2 hT hsz hk => ?_
    have ex : x' = u := by
      have z : vals[i]? = some x' := by simpa using hx'
      exact Option.some.inj (z.symm.trans hu)
    subst ex
    refine ⟨_, rfl, wpAny_letOwnedTupleGo_enum (s := { s with heap := h1, toks := tk + 1 }) hout fun h2 hen2 sb => ?_⟩
    have hT2 : h2.get? s.heap.objs.size = some { cls := .type "tuple", data := .seq #[.int i tk, x'] } := (sb.2 _ (Nat.ne_of_gt enl)).trans hT
    have fresh : ObjOk X.prog X.w (upd H s.heap.objs.size (.tup [.int (i : Nat), x])) h2 s.heap.objs.size (.tup [.int (i : Nat), x]) := ⟨by show 2 ≤ sizeLine; decide, [.int i tk, x'], .cons ⟨_, rfl⟩ (.cons ru .nil), ⟨_, hT2, rfl, _, rfl⟩⟩
    have I2 : Inv X pins σ (upd H s.heap.objs.size (.tup [.int (i : Nat), x])) { s with heap := h2, toks := tk + 1 } := I.turnedNew (ch := [en, it]) (fun b ob hb q => (sb.2 b (fun z => hb (by simp [z]))).trans (hk b ob (fun z => hb (by simp [z])) (fun z => hb (by simp [z])) q)) hf (Nat.le_refl _) fresh
    refine ⟨.ref s.heap.objs.size, _, I2, rfl, ⟨_, x, rfl, I.hok.fresh (Nat.le_refl _), rfl, fun ys hy => by rw [I.tuple_inj hy hq]; exact hx⟩, ⟨⟨x', ?_⟩, hst2.1.at fun o q => (sb.2 it (Ne.symm n1)).trans q⟩, fun b hb => ?_⟩
    · rw [show ((i + 1 : Nat) : Int) = (i : Int) + 1 by omega]; exact hen2
    · have bl : b < s.heap.objs.size := (show b = en ∨ b = it by simpa using hb).elim (fun z => by rw [z]; exact enl) fun z => by rw [z]; exact itl
      rw [upd_ne (Nat.ne_of_lt bl)]; exact (hf b hb).1
  done := by
    intro X hP hw hK hc i pins s σ H E I hf st hg
    subst hP hw hK
    obtain ⟨⟨old, hen⟩, hti⟩ := st
    obtain ⟨xs, hq, hx⟩ := hg
    obtain ⟨vals, rv, ht, _⟩ := I.tuple hq
    obtain ⟨f0, f1, f2, f3, f4, f5⟩ := hf it (by simp)
    have len := rv.length
    exact enumT_end (I.ok.hd hc) hen hti ht (by simp; omega) fun h2 ext => ⟨rfl, I.turned (t' := s.toks) (fun b o hb q => ext b o hb q) f0 f1 f3 f4 f5⟩
  self := fun A i s Q E st h => by
    obtain ⟨⟨_, hen⟩, _⟩ := st
    exact wpAny_pyIter_enum hen h
def iEnumT (K : PySem.W.Frag) (ta : TA) : TI := fun σ H R => ta σ H fun vs H1 => ∃ a xs, vs = [.ref a] ∧ SqT K H1 a xs ∧ R (IteT K a) H1
theorem pi_enumT {X : Cx} {e : Expr} {ta : TA} {p pos tpos : Pos} {elts : List Expr} {kk : Nat} (glob : Gl X "enumerate") (plain : X.mg "enumerate" = none) (arg : PA X [e] ta) (star : starEach [e] X.env = [(false, eval e X.env)] := by rfl) : PI X (.Tuple elts kk tpos) (.Call (.Name "enumerate" p) [e] [] pos) (iEnumT X.K ta) := by
  refine ⟨fun pins s σ H R I h => ?_⟩
  refine Call_ (ld_blt I glob plain boot_enumerate (PyProof.Rows.callWith_type1 (thn (arg.run pos pins s σ H _ I h) fun us s1 ⟨vs, H1, I1, r1, q1⟩ => ?_) star rfl))
  obtain ⟨a, xs, rfl, hq, q⟩ := q1
  obtain ⟨u, rfl, ru⟩ := vals1 r1
  cases (show u = Value.ref a from ru)
  obtain ⟨vals, rv, ht, _⟩ := I1.tuple hq
  have al : a < s1.heap.objs.size := by obtain ⟨_, z, _⟩ := ht; exact Heap.lt_size z
  refine call_enumT ht fun h2 hen hti hk => wpAny_pyIter_enum hen ?_
  refine ⟨s1.heap.objs.size + 1, [s1.heap.objs.size + 1, s1.heap.objs.size], _, _, H1, rfl, I1.kept (t' := s1.toks) hk, turn_enumT a (s1.heap.objs.size + 1) s1.heap.objs.size (Nat.succ_ne_self _) (Nat.ne_of_lt al) (Nat.ne_of_lt (Nat.lt_succ_of_lt al)), ⟨⟨.none, hen⟩, hti⟩, fun b hb => ?_, q⟩
  have ge : s1.heap.objs.size ≤ b := (show b = s1.heap.objs.size + 1 ∨ b = s1.heap.objs.size by simpa using hb).elim (fun z => by rw [z]; exact Nat.le_add_right _ _) fun z => Nat.le_of_eq z.symm
  exact I1.fpOk ge (I1.hok.fresh ge)
theorem walk_enumT {K : PySem.W.Frag} {a : Addr} {xs : List V} {n : Nat} (hn : n = xs.length) : Walk (IteT K a) n (fun H => SqT K H a xs) (fun i H v H' => ∃ pr x, v = .ref pr ∧ H pr = none ∧ H' = upd H pr (.tup [.int (i : Nat), x]) ∧ xs[i]? = some x) := by
  subst hn
  refine ⟨fun i _ hi q => ⟨xs, xs[i], q, List.getElem?_eq_getElem hi⟩, fun _ q => ⟨xs, q, Nat.le_refl _⟩, fun i H v H' _ q y => ?_⟩
  obtain ⟨pr, x, h1, h2, h3, h4⟩ := y
  exact ⟨pr, x, h1, h2, h3, h4 xs q⟩
end Ov
namespace Ov
open PySem PySem.Spec PyProof.Rows L2 HT
/-! ### every second item -/
def evn {α : Type} : List α → List α
  | [] => []
  | [x] => [x]
  | x :: _ :: r => x :: evn r
theorem evn_sub {α : Type} : ∀ l : List α, (evn l).Sublist l
  | [] => .slnil
  | [x] => List.Sublist.refl _
  | x :: y :: r => ((evn_sub r).cons y).cons₂ x
theorem evn_vals : ∀ (xs : List V) (us : List Value), Vals xs us → Vals (evn xs) (evn us)
  | [], _, .nil => .nil
  | [x], _, .cons a .nil => .cons a .nil
  | x :: y :: r, _, .cons a (.cons _ c) => .cons a (evn_vals r _ c)
theorem evn_pick {α : Type} : ∀ l : List α, ((List.range ((l.length + 1) / 2)).filterMap fun k => l[2 * k]?) = evn l
  | [] => by simp [evn]
  | [x] => by
    rw [show ([x].length + 1) / 2 = 1 by simp, show List.range 1 = [0] from rfl]
    simp [evn]
  | x :: y :: r => by
    have e : ((x :: y :: r).length + 1) / 2 = (r.length + 1) / 2 + 1 := by
      show (r.length + 1 + 1 + 1) / 2 = _
      omega
    rw [e, List.range_succ_eq_map, List.filterMap_cons, List.filterMap_map]
    show x :: _ = x :: evn r
    rw [← evn_pick r]
    congr 1
section
variable {prog : Program} {w : World} {A : Around} {E : Value → Shared → Prop} {s : Shared}
theorem applied_two {sl : Addr} {n : Nat} {tk : Tok} {Q : Int × Int × Nat → Shared → Prop} (hs : s.heap.IsSliceOf sl .none .none (.int 2 tk)) (h : Q (0, 2, (n + 1) / 2) s) :
    wpAny (model prog w) A (Builtin.Slice.sliceApplied (.ref sl) (pure (n : Int))) Q E s := by
  obtain ⟨os, hos, hcs, hds⟩ := id hs
  unfold Builtin.Slice.sliceApplied Builtin.Slice.sliceFields
  refine wpAny_bind (wpAny_bind (wpAny_field hos hds (x := .none) rfl (wpAny_bind (wpAny_field hos hds (x := .none) rfl (wpAny_bind (wpAny_field hos hds (x := .int 2 tk) rfl (wpAny_pure ?_)))))))
  refine wpAny_bind (slicePart_ (.int 2 tk) ?_)
  show wpAny _ _ (if ((2 : Int) == 0) = true then _ else _) _ _ s
  rw [if_neg (by decide)]
  refine wpAny_bind (slicePart_ .none (wpAny_bind (slicePart_ .none (wpAny_bind (wpAny_pure ?_)))))
  show wpAny _ _ (pure ((0 : Int), (2 : Int), Builtin.Slice.slicePlaces 0 (n : Int) 2)) _ _ s
  have e : Builtin.Slice.slicePlaces 0 (n : Int) 2 = (n + 1) / 2 := by
    unfold Builtin.Slice.slicePlaces
    simp only [show (2 : Int) > 0 by decide, if_true]
    split <;> omega
  rw [e]
  exact wpAny_pure h
theorem get_two {t sl : Addr} {items : Array Value} {tk : Tok} {Q : Value → Shared → Prop} (ht : IsTup s.heap t items) (hs : s.heap.IsSliceOf sl .none .none (.int 2 tk))
    (h : Q (.ref s.heap.objs.size) { s with heap := s.heap.push { cls := .type "tuple", data := .seq (evn items.toList).toArray } })
    (hsz : items.size ≤ sizeLine) : wpAny (model prog w) A (getItem (.ref t) (.ref sl)) Q E s := by
  have fits : sizeOk (.seq (evn items.toList).toArray) := by
    show (evn items.toList).toArray.size ≤ sizeLine
    have z := (evn_sub items.toList).length_le
    rw [Array.length_toList] at z
    rw [List.size_toArray]
    exact Nat.le_trans z hsz
  obtain ⟨os, hos, hcs, hds⟩ := id hs
  have hTs : s.TypeIs (.ref sl) "slice" := ⟨os, hos, hcs⟩
  unfold getItem
  try with_reducible refine wpAny_holding ?_
  first | refine wpAny_bind (wpAny_pure ?_) | skip
  refine wpAny_bind (wpAny_sequenceKey ht.typeIs (by decide) ?_)
  refine wpAny_bind (wpAny_callSpecial?_slot (name := Str.ofString "__getitem__") ht.typeIs PyProof.Rows.slot_tuple_getitem
    (wpAny_call_entry PyProof.Rows.slot_tuple_getitem ht.typeIs entry_tuple_getitem ?_ (args_tuple_getitem _ _)))
  show wpAny _ _ (Builtin.Tuple.tupleItemsOf (.ref t) >>= _) _ _ s
  refine wpAny_bind (tupleItemsOf_ ht ?_)
  refine wpAny_bind (wpAny_typeOf hTs ?_)
  rw [if_pos (by decide)]
  refine wpAny_bind (applied_two hs ?_)
  show wpAny _ _ (if ((0 : Int) == 0 && (2 : Int) == 1 && ((items.size + 1) / 2) == items.size) = true then _ else _) _ _ s
  rw [if_neg (by simp)]
  have pick : ((List.range ((items.size + 1) / 2)).filterMap fun (k : Nat) => items[((0 : Int) + (k : Int) * 2).toNat]?) = evn items.toList := by
    rw [← evn_pick items.toList, Array.length_toList]
    congr 1
    funext k
    rw [Array.getElem?_toList]
    congr 1
    omega
  rw [pick]
  first
    | exact wpAny_bind (m := Builtin.Tuple.tupleExact _) (wpAny_newObj_type (wpAny_pure ⟨_, rfl, wpAny_pure h⟩) fits)
    | exact wpAny_bind (m := Builtin.Tuple.tupleExact _) (wpAny_newObj_type (wpAny_bind (wpAny_pure (wpAny_pure ⟨_, rfl, wpAny_pure h⟩))) fits)
    | exact wpAny_bind (wpAny_bind (m := Builtin.Tuple.tupleExact _) (wpAny_newObj_type (wpAny_pure (wpAny_pure ⟨_, rfl, wpAny_pure h⟩)) fits))
    | exact wpAny_bind (wpAny_bind (m := Builtin.Tuple.tupleExact _) (wpAny_newObj_type (wpAny_pure ⟨_, rfl, wpAny_pure h⟩) fits))
end
section
variable {X : Cx} {e : Expr} {te : TE} {p2 pos : Pos}
/-- t[::2] -/
theorem pe_two {jj} {p3 : Pos} (he : PE X e te) : PE X (.Subscript e (.Slice none none (some (.Constant (.int 2) jj p3)) p2) pos) (fun σ H Q => te σ H fun x H1 => ∃ a xs, x = .ref a ∧ SqT X.K H1 a xs ∧ ∀ p, H1 p = none → Q (.ref p) (upd H1 p (.tup (evn xs)))) := by
  refine ⟨fun pins s σ H Q I h => ?_⟩
  refine Subscript_ (thn (he.run pins s σ H _ I h) fun v s1 ⟨x, H1, I1, r1, q1⟩ => ?_)
  refine wpAny_Slice ?_
  rw [evalPart_none]
  refine wpAny_pure (wpAny_pure ?_)
  rw [evalPart_some]
  refine wpAny_Constant_int ?_
  obtain ⟨a, xs, rfl, hx, q⟩ := q1
  cases r1
  have I4 : Inv X pins σ H1 { s1 with heap := s1.heap.push { cls := .type "slice", data := .fields #[.none, .none, .int 2 s1.toks] }, toks := s1.toks + 1 } := I1.kept (t' := s1.toks + 1) fun b ob q => Heap.get?_push_of_some _ q
  obtain ⟨its, r, ht, hz⟩ := I4.tuple hx
  have hlen : its.toArray.size = xs.length := by rw [List.size_toArray]; exact r.length.symm
  refine tail_any (ops := [.ref a, .ref s1.heap.objs.size]) ht.typeIs PyProof.Rows.slot_tuple_getitem.lookup ?_ (by with_unfolding_all rfl)
  refine get_two ht (Heap.IsSliceOf.new ..) ?_ (by rw [hlen]; exact hz)
  refine ⟨.ref _, _, I4.laid (t' := s1.toks + 1) (o := .tup (evn xs)) (fun b ob q => Heap.get?_push_of_some _ q) (Nat.le_refl _) ?_, rfl, q _ (I4.hok.fresh (Nat.le_refl _))⟩
  exact ⟨Nat.le_trans (evn_sub xs).length_le hz, _, evn_vals xs its r, IsTup.new _ _⟩
/-! ### set(t), t a tuple of ints -/
def rSetT (K : PySem.W.Frag) (w : World) : List V → Hp → VK → Prop := fun xs H Q => ∃ (l : Addr) (zs : List Int), xs = [V.ref l] ∧ SqT K H l (zs.map V.int) ∧ zs.length < 4000 ∧
  ∀ (a : Addr) (ds : List Int), H a = none → ds.Nodup → (∀ d ∈ ds, d ∈ zs) → ds.length ≤ zs.length → Q (.ref a) (upd H a (SetO w a (fun j => decide (j ∈ zs)) ds.length))
theorem cr_setT (hc : X.calm = true) : CallR X (.type "set") (rSetT X.K X.w) := by
  intro pins s σ H xs us Q I r h
  obtain ⟨l, zs, rfl, hl, few, q⟩ := h
  rw [Vals.ref1 r]
  obtain ⟨its, rv, pl, sz⟩ := I.tuple hl
  have nn : H s.heap.objs.size = none := I.hok.fresh (Nat.le_refl _)
  refine call_set_tupI zs (I.ok.hd hc) pl (by simpa using ints_of rv) (by show zs.length + 1 < 4096; omega) fun g tk c R le k => ?_
  obtain ⟨o, es, ep, t, _, _, _, _, z1, z2, _, _, z3, _⟩ := id R
  have len : (es.toList.map keyOf).length = c := by rw [List.length_map, Array.length_toList]; exact z3
  rw [← len] at R
  exact ⟨.ref s.heap.objs.size, _, I.laid (t' := tk) k (Nat.le_refl _) (setO_new R), rfl, q _ _ nn z1 (fun d hd => of_decide_eq_true ((z2 d).mpr hd)) (by omega)⟩
end
end Ov
namespace Ov
open PySem PySem.Spec PyProof.Rows L2 HT
/-! ### t[::-1] -/
theorem fmap_congr {α β : Type} {f g : α → Option β} : ∀ {l : List α}, (∀ a ∈ l, f a = g a) → l.filterMap f = l.filterMap g
  | [], _ => rfl
  | a :: l, h => by rw [List.filterMap_cons, List.filterMap_cons, h a List.mem_cons_self, fmap_congr fun b hb => h b (List.mem_cons_of_mem _ hb)]
section
variable {prog : Program} {w : World} {A : Around} {E : Value → Shared → Prop} {s : Shared}
theorem applied_rev {sl : Addr} {n : Nat} {tk : Tok} {Q : Int × Int × Nat → Shared → Prop} (hs : s.heap.IsSliceOf sl .none .none (.int (-1) tk)) (h : Q ((n : Int) - 1, -1, n) s) :
    wpAny (model prog w) A (Builtin.Slice.sliceApplied (.ref sl) (pure (n : Int))) Q E s := by
  obtain ⟨os, hos, hcs, hds⟩ := id hs
  unfold Builtin.Slice.sliceApplied Builtin.Slice.sliceFields
  refine wpAny_bind (wpAny_bind (wpAny_field hos hds (x := .none) rfl (wpAny_bind (wpAny_field hos hds (x := .none) rfl (wpAny_bind (wpAny_field hos hds (x := .int (-1) tk) rfl (wpAny_pure ?_)))))))
  refine wpAny_bind (slicePart_ (.int (-1) tk) ?_)
  show wpAny _ _ (if ((-1 : Int) == 0) = true then _ else _) _ _ s
  rw [if_neg (by decide)]
  refine wpAny_bind (slicePart_ .none (wpAny_bind (slicePart_ .none (wpAny_bind (wpAny_pure ?_)))))
  show wpAny _ _ (pure ((n : Int) - 1, (-1 : Int), Builtin.Slice.slicePlaces ((n : Int) - 1) (-1) (-1))) _ _ s
  have e : Builtin.Slice.slicePlaces ((n : Int) - 1) (-1) (-1) = n := by
    unfold Builtin.Slice.slicePlaces
    simp only [show ¬ ((-1 : Int) > 0) by decide, if_false, show (- -1 : Int) = 1 by decide, Int.ediv_one]
    split <;> omega
  rw [e]
  exact wpAny_pure h
theorem get_rev {t sl : Addr} {items : Array Value} {tk : Tok} {Q : Value → Shared → Prop} (ht : IsTup s.heap t items) (hs : s.heap.IsSliceOf sl .none .none (.int (-1) tk))
    (h : Q (.ref s.heap.objs.size) { s with heap := s.heap.push { cls := .type "tuple", data := .seq items.toList.reverse.toArray } })
    (hsz : items.size ≤ sizeLine) : wpAny (model prog w) A (getItem (.ref t) (.ref sl)) Q E s := by
  have fits : sizeOk (.seq items.toList.reverse.toArray) := by
    show items.toList.reverse.toArray.size ≤ sizeLine
    rw [List.size_toArray, List.length_reverse, Array.length_toList]
    exact hsz
  obtain ⟨os, hos, hcs, hds⟩ := id hs
  have hTs : s.TypeIs (.ref sl) "slice" := ⟨os, hos, hcs⟩
  unfold getItem
  try with_reducible refine wpAny_holding ?_
  first | refine wpAny_bind (wpAny_pure ?_) | skip
  refine wpAny_bind (wpAny_sequenceKey ht.typeIs (by decide) ?_)
  refine wpAny_bind (wpAny_callSpecial?_slot (name := Str.ofString "__getitem__") ht.typeIs PyProof.Rows.slot_tuple_getitem
    (wpAny_call_entry PyProof.Rows.slot_tuple_getitem ht.typeIs entry_tuple_getitem ?_ (args_tuple_getitem _ _)))
  show wpAny _ _ (Builtin.Tuple.tupleItemsOf (.ref t) >>= _) _ _ s
  refine wpAny_bind (tupleItemsOf_ ht ?_)
  refine wpAny_bind (wpAny_typeOf hTs ?_)
  rw [if_pos (by decide)]
  refine wpAny_bind (applied_rev hs ?_)
  show wpAny _ _ (if (((items.size : Int) - 1) == 0 && (-1 : Int) == 1 && items.size == items.size) = true then _ else _) _ _ s
  rw [if_neg (by simp)]
  have pick : ((List.range items.size).filterMap fun (k : Nat) => items[(((items.size : Int) - 1) + (k : Int) * (-1)).toNat]?) = items.toList.reverse := by
    have e : ∀ k ∈ List.range items.size, items[(((items.size : Int) - 1) + (k : Int) * (-1)).toNat]? = items[items.size - 1 - k]? := fun k hk => by
      have := List.mem_range.mp hk
      rw [show (((items.size : Int) - 1) + (k : Int) * (-1)).toNat = items.size - 1 - k by omega]
    rw [fmap_congr e]
    have z : (List.range items.size).filterMap (fun k => items[items.size - 1 - k]?) = ((List.range items.size).map (fun k => items.size - 1 - k)).filterMap (items[·]?) := by rw [List.filterMap_map]; rfl
    rw [z, PySem.W.krv_range, List.filterMap_reverse, PySem.W.krv_all]
  rw [pick]
  first
    | exact wpAny_bind (m := Builtin.Tuple.tupleExact _) (wpAny_newObj_type (wpAny_pure ⟨_, rfl, wpAny_pure h⟩) fits)
    | exact wpAny_bind (m := Builtin.Tuple.tupleExact _) (wpAny_newObj_type (wpAny_bind (wpAny_pure (wpAny_pure ⟨_, rfl, wpAny_pure h⟩))) fits)
    | exact wpAny_bind (wpAny_bind (m := Builtin.Tuple.tupleExact _) (wpAny_newObj_type (wpAny_pure (wpAny_pure ⟨_, rfl, wpAny_pure h⟩)) fits))
    | exact wpAny_bind (wpAny_bind (m := Builtin.Tuple.tupleExact _) (wpAny_newObj_type (wpAny_pure ⟨_, rfl, wpAny_pure h⟩) fits))
end
section
variable {X : Cx} {e e2 : Expr} {te t2 : TE} {p2 pos : Pos}
theorem vals_rev {xs : List V} {us : List Value} (r : Vals xs us) : Vals xs.reverse us.reverse := by
  induction r with
  | nil => exact .nil
  | cons a _ ih => rw [List.reverse_cons, List.reverse_cons]; exact ih.append (.cons a .nil)
theorem pe_rev (he : PE X e te) (h2 : PE X e2 t2) : PE X (.Subscript e (.Slice none none (some e2) p2) pos) (fun σ H Q => te σ H fun x H1 => t2 σ H1 fun y H2 => y = .int (-1) ∧ ∃ a xs, x = .ref a ∧ SqT X.K H2 a xs ∧ ∀ p, H2 p = none → Q (.ref p) (upd H2 p (.tup xs.reverse))) := by
  refine ⟨fun pins s σ H Q I h => ?_⟩
  refine Subscript_ (thn (he.run pins s σ H _ I h) fun v s1 ⟨x, H1, I1, r1, q1⟩ => ?_)
  refine wpAny_Slice ?_
  rw [evalPart_none]
  refine wpAny_pure (wpAny_pure ?_)
  rw [evalPart_some]
  refine thn (h2.run pins s1 σ H1 _ I1 q1) fun u s2 ⟨y, H2, I2, r2, q2⟩ => ?_
  obtain ⟨rfl, a, xs, rfl, hx, q⟩ := q2
  obtain ⟨tk, rfl⟩ := r2
  cases r1
  have I4 : Inv X pins σ H2 { s2 with heap := s2.heap.push { cls := .type "slice", data := .fields #[.none, .none, .int (-1) tk] } } := I2.kept (t' := s2.toks) fun b ob q => Heap.get?_push_of_some _ q
  obtain ⟨its, r, ht, hz⟩ := I4.tuple hx
  have hlen : its.toArray.size = xs.length := by rw [List.size_toArray]; exact r.length.symm
  refine tail_any (ops := [.ref a, .ref s2.heap.objs.size]) ht.typeIs PyProof.Rows.slot_tuple_getitem.lookup ?_ (by with_unfolding_all rfl)
  refine get_rev ht (Heap.IsSliceOf.new ..) ?_ (by rw [hlen]; exact hz)
  refine ⟨.ref _, _, I4.laid (t' := s2.toks) (o := .tup xs.reverse) (fun b ob q => Heap.get?_push_of_some _ q) (Nat.le_refl _) ?_, rfl, q _ (I4.hok.fresh (Nat.le_refl _))⟩
  exact ⟨by rw [List.length_reverse]; exact hz, _, vals_rev r, IsTup.new _ _⟩
end
end Ov
namespace Ov
open PySem PySem.Spec PyProof.Rows L2
/-! ### things of any kind that stand in the heap that is told of, nothing of them in the text's own part -/
mutual
inductive Dz (H : Hp) : V → PyData → Prop
  | non : Dz H .non .none
  | bl (b : Bool) : Dz H (.bl b) (.bool b)
  | int (i : Int) : Dz H (.int i) (.int i)
  | str (x : Str) : Dz H (.str x) (.str x)
  | dct {a : Addr} : H a = some (.dK []) → Dz H (.ref a) (.dict [])
  | lst {a : Addr} {xs : List V} {ds : List PyData} : H a = some (.lst xs) → a ≠ sysModules → DzAll H xs ds → Dz H (.ref a) (.list ds)
  | tup {a : Addr} {xs : List V} {ds : List PyData} : H a = some (.tup xs) → DzAll H xs ds → Dz H (.ref a) (.tuple ds)
inductive DzAll (H : Hp) : List V → List PyData → Prop
  | nil : DzAll H [] []
  | cons {v : V} {vs : List V} {d : PyData} {ds : List PyData} : Dz H v d → DzAll H vs ds → DzAll H (v :: vs) (d :: ds)
end
mutual
theorem Dz.dx {K : PySem.W.Frag} {H : Hp} : ∀ {v : V} {d : PyData}, Dz H v d → Dx K H v d
  | _, _, .non => .non
  | _, _, .bl b => .bl b
  | _, _, .int i => .int i
  | _, _, .str x => .str x
  | _, _, .dct h => .dct h
  | _, _, .lst h _ a => .lst (SqL.of h) (DzAll.dx a)
  | _, _, .tup h a => .tup (SqT.of h) (DzAll.dx a)
theorem DzAll.dx {K : PySem.W.Frag} {H : Hp} : ∀ {vs : List V} {ds : List PyData}, DzAll H vs ds → DxAll K H vs ds
  | _, _, .nil => .nil
  | _, _, .cons h a => .cons (Dz.dx h) (DzAll.dx a)
end
mutual
theorem Dz.same {H H' : Hp} (e : Same H H') : ∀ {v : V} {d : PyData}, Dz H v d → Dz H' v d
  | _, _, .non => .non
  | _, _, .bl b => .bl b
  | _, _, .int i => .int i
  | _, _, .str x => .str x
  | _, _, .dct h => .dct (e _ _ h)
  | _, _, .lst h n a => .lst (e _ _ h) n (DzAll.same e a)
  | _, _, .tup h a => .tup (e _ _ h) (DzAll.same e a)
theorem DzAll.same {H H' : Hp} (e : Same H H') : ∀ {vs : List V} {ds : List PyData}, DzAll H vs ds → DzAll H' vs ds
  | _, _, .nil => .nil
  | _, _, .cons h a => .cons (Dz.same e h) (DzAll.same e a)
end
theorem DzAll.at {H : Hp} : ∀ {vs : List V} {ds : List PyData}, DzAll H vs ds → ∀ {i : Nat} {v : V}, vs[i]? = some v → ∃ d, ds[i]? = some d ∧ Dz H v d
  | _, _, .nil, i, v, e => by simp at e
  | _, _, .cons h a, 0, v, e => by cases e; exact ⟨_, rfl, h⟩
  | _, _, .cons h a, i + 1, v, e => a.at (i := i) e
theorem DzAll.len {H : Hp} : ∀ {vs : List V} {ds : List PyData}, DzAll H vs ds → vs.length = ds.length
  | _, _, .nil => rfl
  | _, _, .cons _ a => by rw [List.length_cons, List.length_cons, a.len]
theorem DzAll.app {H : Hp} : ∀ {vs us : List V} {ds es : List PyData}, DzAll H vs ds → DzAll H us es → DzAll H (vs ++ us) (ds ++ es)
  | _, _, _, _, .nil, b => b
  | _, _, _, _, .cons h a, b => .cons h (a.app b)
theorem DzAll.take {H : Hp} : ∀ {vs : List V} {ds : List PyData} (n : Nat), DzAll H vs ds → DzAll H (vs.take n) (ds.take n)
  | _, _, 0, _ => .nil
  | _, _, n + 1, .nil => .nil
  | _, _, n + 1, .cons h a => .cons h (a.take n)
theorem DzAll.drop {H : Hp} : ∀ {vs : List V} {ds : List PyData} (n : Nat), DzAll H vs ds → DzAll H (vs.drop n) (ds.drop n)
  | _, _, 0, a => a
  | _, _, n + 1, .nil => .nil
  | _, _, n + 1, .cons h a => a.drop n
theorem dz_ints {H : Hp} : ∀ ns : List Int, DzAll H (ns.map V.int) (ns.map PyData.int)
  | [] => .nil
  | n :: ns => .cons (.int n) (dz_ints ns)
section
variable {X : Cx} {pins : List (Addr × Obj)} {σ : L2.St} {H : Hp} {s : Shared}
mutual
theorem Dz.reads (I : Inv X pins σ H s) : ∀ (d : PyData) (v : V) (u : Value), Dz H v d → RelV v u → ∃ as, Reads s.heap u d as ∧ sysModules ∉ as
  | .none, _, _, h, r => by
    cases h
    cases r
    exact ⟨_, Reads.none, fun z => nomatch z⟩
  | .bool b, _, _, h, r => by
    cases h
    cases r
    exact ⟨_, Reads.bool b, fun z => nomatch z⟩
  | .int i, _, _, h, r => by
    cases h
    obtain ⟨t, rfl⟩ := r
    exact ⟨_, Reads.int i t, fun z => nomatch z⟩
  | .str x, _, _, h, r => by
    cases h
    obtain ⟨t, rfl⟩ := r
    exact ⟨_, Reads.str x t, fun z => nomatch z⟩
  | .list ds, _, _, h, r => by
    cases h with
    | @lst a xs _ hs na ha =>
      cases r
      obtain ⟨its, rv, ⟨o, n, ho, hc, _, hd⟩, _⟩ := I.list (SqL.of hs)
      obtain ⟨as, hr, f⟩ := Dz.readsAll I ds _ its ha rv
      refine ⟨_, Reads.list ho hc hd hr, fun z => ?_⟩
      rcases List.mem_cons.mp z with z | z
      · exact na z.symm
      · exact f z
  | .tuple ds, _, _, h, r => by
    cases h with
    | tup hs ha =>
      cases r
      obtain ⟨its, rv, ⟨o, ho, hc, n, hd⟩, _⟩ := I.tuple (SqT.of hs)
      obtain ⟨as, hr, f⟩ := Dz.readsAll I ds _ its ha rv
      exact ⟨_, Reads.tuple ho hc hd hr, f⟩
  | .dict kvs, _, _, h, r => by
    cases h with
    | dct hs =>
      cases r
      obtain ⟨_, ns, vs, kv, o, es, ep, ho, hc, hd, hv⟩ := dk_of I.hok hs
      cases kv
      have e0 : es.toList = [] := by
        have z := hv.2.1
        revert z
        generalize es.toList = l
        intro z
        cases z
        rfl
      refine ⟨_, Reads.dict ho hc.1 hd (by rw [e0]; exact .nil) (by rw [e0]; exact .nil), fun z => ?_⟩
      rcases List.mem_cons.mp z with z | z
      · rw [← z] at ns
        cases ns
      · cases z
theorem Dz.readsAll (I : Inv X pins σ H s) : ∀ (ds : List PyData) (vs : List V) (us : List Value), DzAll H vs ds → Vals vs us → ∃ as, ReadsAll s.heap us ds as ∧ sysModules ∉ as
  | [], _, _, h, r => by
    cases h
    cases r
    exact ⟨_, ReadsAll.nil, fun z => nomatch z⟩
  | d :: ds, _, _, h, r => by
    cases h with
    | cons h1 h2 =>
      cases r with
      | cons r1 r2 =>
        obtain ⟨as, q1, f1⟩ := Dz.reads I d _ _ h1 r1
        obtain ⟨bs, q2, f2⟩ := Dz.readsAll I ds _ _ h2 r2
        exact ⟨_, ReadsAll.cons q1 q2, fun m => (List.mem_append.mp m).elim f1 f2⟩
end
end
section
variable {X : Cx} {pos : Pos} {es : List Expr} {t : TA}
/-- a new list, which stands where no module's table does -/
def tLow (t : TA) : TE := fun σ H Q => t σ H fun xs G => xs.length ≤ sizeLine ∧ ∀ l, G l = none → l ≠ sysModules → Q (.ref l) (upd G l (.lst xs))
theorem pe_low (h : PA X es t) : PE X (.List es pos) (tLow t) := by
  constructor
  intro pins s σ H Q I hq
  refine wpAny_List_spliced (thn (h.run pos pins s σ H _ I hq) ?_)
  rintro us s1 ⟨xs, G, J, r, z, q⟩
  have nl := Nat.ne_of_gt J.big
  have fr : G s1.heap.objs.size = none := J.hok.fresh (Nat.le_refl _)
  have z' : us.length ≤ sizeLine := r.length ▸ z
  have ob : ObjOk X.prog X.w (upd G s1.heap.objs.size (.lst xs)) (s1.heap.push { cls := .type "list", data := .seq us.toArray }) s1.heap.objs.size (.lst xs) := ⟨z, us, 0, r, Heap.get?_push_size _ rfl⟩
  exact ⟨z', .ref s1.heap.objs.size, _, J.laid (t' := s1.toks) (fun b u e => Heap.get?_push_of_some _ e) (Nat.le_refl _) ob, rfl, q _ fr nl⟩
theorem call_listLow : CallR X (.type "list") (fun xs H Q => ∃ p ys, xs = [.ref p] ∧ SqT X.K H p ys ∧ ∀ l, H l = none → l ≠ sysModules → Q (.ref l) (upd H l (.lst ys))) := by
  intro pins s σ H xs us Q I r h
  obtain ⟨p, ys, rfl, hq, q⟩ := h
  obtain ⟨u, rfl, rx⟩ := vals1 r
  cases rx
  have nl := Nat.ne_of_gt I.big
  obtain ⟨its, rr, ⟨o, ho, hc, n, hd⟩, hz⟩ := I.tuple hq
  have el := rr.length
  refine call_list_seq p (.inr rfl) ho hc hd (fun g c kp e => ?_) (by rw [List.size_toArray]; omega)
  exact ⟨.ref s.heap.objs.size, _, I.laid (t' := s.toks) kp (Nat.le_refl _) (show ObjOk X.prog X.w _ g _ (.lst ys) from ⟨hz, its, c, rr, e⟩), rfl, q _ (I.hok.fresh (Nat.le_refl _)) nl⟩
end
/-- what can be shown of such things -/
structure Shz (d : PyData) (n : Nat) : Prop where
  sh : d.showable = true
  dep : d.depth ≤ n
  nd : nodes d ≤ 8000
section
variable {X : Cx} {k : Nat}
theorem call_repr_z (gd : X.A.guards = some []) (room : Room k X.A) : CallR X (.builtin "repr") (fun xs H Q => ∃ v d, xs = [v] ∧ Dz H v d ∧ Shz d 60 ∧ Q (.str d.shown) H) := by
  intro pins s σ H xs us Q I r h
  obtain ⟨v, d, rfl, hd, S, q⟩ := h
  obtain ⟨u, rfl, rx⟩ := vals1 r
  have un := room.un
  have sz := fits_shown S.sh S.nd
  have ref : ∀ a : Addr, u = .ref a → wpAny (model X.prog X.w) X.A (call (.builtin "repr") [u]) (fun u' s' => ∃ v' H', Inv X pins σ H' s' ∧ RelV v' u' ∧ Q v' H') X.xe s := by
    intro a ha
    subst ha
    obtain ⟨as, rd, f⟩ := Dz.reads I d _ _ hd rx
    have dep := S.dep
    refine repr_of_reads' (h₀ := s.heap) rd S.sh (fun _ => f) gd (by omega) (fun _ _ e => e) ?_ sz
    intro h' u tk kp
    exact ⟨.str d.shown, H, I.kept (t' := tk) kp, ⟨u, rfl⟩, q⟩
  cases hd with
  | non =>
    cases (show u = Value.none from rx)
    exact PySem.P.repr_of_none ⟨.str _, H, I.tok _, ⟨_, rfl⟩, q⟩
  | bl b =>
    cases (show u = Value.bool b from rx)
    exact PySem.P.repr_of_bool ⟨.str _, H, I.tok _, ⟨_, rfl⟩, q⟩
  | int i =>
    obtain ⟨t, rfl⟩ := (show ∃ t, u = Value.int i t from rx)
    exact PySem.P.repr_of_int (by simpa [PyData.showable] using S.sh) ⟨.str _, H, I.tok _, ⟨_, rfl⟩, q⟩
  | str x =>
    obtain ⟨t, rfl⟩ := (show ∃ t, u = Value.str x t from rx)
    exact PySem.P.repr_of_str ⟨.str _, H, I.tok _, ⟨_, rfl⟩, q⟩ sz
  | dct h => exact ref _ rx
  | lst h a => exact ref _ rx
  | tup h a => exact ref _ rx
/-! ### a list or a tuple of anything against an empty one -/
def rNoL (K : PySem.W.Frag) (b : Bool) : R2 := fun x y H Q => ∃ p q xs, x = .ref p ∧ y = .ref q ∧ SqL K H p xs ∧ SqL K H q [] ∧ Q (.bl (xs.isEmpty == b)) H
def rNoT (K : PySem.W.Frag) (b : Bool) : R2 := fun x y H Q => ∃ p q xs, x = .ref p ∧ y = .ref q ∧ SqT K H p xs ∧ SqT K H q [] ∧ Q (.bl (xs.isEmpty == b)) H
theorem op_eqNoL (hu : X.A.units + 64 < cLine) : OpR X (compareOp .Eq) (rNoL X.K true) := by
  intro pins s σ H x y v u Q I rx ry h
  obtain ⟨p, q, xs, rfl, rfl, hp, hq, z⟩ := h
  obtain rfl : v = Value.ref p := rx
  obtain rfl : u = Value.ref q := ry
  obtain ⟨its, rv, ⟨o, n, ho, hc, _, hd⟩, _⟩ := I.list hp
  obtain ⟨jts, rw', ⟨o', n', ho', hc', _, hd'⟩, _⟩ := I.list hq
  cases rw'
  have h1 : s.heap.IsList p its.toArray := ⟨o, ho, hc, n, hd⟩
  have h2 : s.heap.IsList q (([] : List Value).toArray) := ⟨o', ho', hc', n', hd'⟩
  cases rv with
  | nil => exact SeqAt.RcAt.lists (e := fun _ => true) h1 h2 rfl (by omega) (fun j j1 j2 => absurd j2 (Nat.not_lt_zero _)) _ _ _ _ ⟨.bl _, H, I, rfl, z⟩
  | cons r1 r2 => exact SeqAt.RcAt.lists_lengths h1 h2 (by simp) (by omega) _ _ _ _ ⟨.bl _, H, I, rfl, z⟩
theorem op_neNoL (hu : X.A.units + 64 < cLine) : OpR X (compareOp .NotEq) (rNoL X.K false) := by
  intro pins s σ H x y v u Q I rx ry h
  obtain ⟨p, q, xs, rfl, rfl, hp, hq, z⟩ := h
  obtain rfl : v = Value.ref p := rx
  obtain rfl : u = Value.ref q := ry
  obtain ⟨its, rv, ⟨o, n, ho, hc, _, hd⟩, _⟩ := I.list hp
  obtain ⟨jts, rw', ⟨o', n', ho', hc', _, hd'⟩, _⟩ := I.list hq
  cases rw'
  have h1 : s.heap.IsList p its.toArray := ⟨o, ho, hc, n, hd⟩
  have h2 : s.heap.IsList q (([] : List Value).toArray) := ⟨o', ho', hc', n', hd'⟩
  cases rv with
  | nil => exact SeqAt.RcNeAt.lists (e := fun _ => true) h1 h2 rfl (by omega) (fun j j1 j2 => absurd j2 (Nat.not_lt_zero _)) _ _ _ _ ⟨.bl _, H, I, rfl, z⟩
  | cons r1 r2 => exact SeqAt.RcNeAt.lists_lengths h1 h2 (by simp) (by omega) _ _ _ _ ⟨.bl _, H, I, rfl, z⟩
theorem op_neNoT (hu : X.A.units + 64 < cLine) : OpR X (compareOp .NotEq) (rNoT X.K false) := by
  intro pins s σ H x y v u Q I rx ry h
  obtain ⟨p, q, xs, rfl, rfl, hp, hq, z⟩ := h
  obtain rfl : v = Value.ref p := rx
  obtain rfl : u = Value.ref q := ry
  obtain ⟨its, rv, h1, _⟩ := I.tuple hp
  obtain ⟨jts, rw', h2, _⟩ := I.tuple hq
  cases rw'
  have w := SeqAt.RcNeAt.tuples (A := X.A) (e := fun _ => true) h1 h2 (by omega) (fun j j1 j2 => absurd j2 (Nat.not_lt_zero _)) X.prog X.w X.xe
  refine w _ ⟨.bl _, H, I, rfl, ?_⟩
  cases rv with
  | nil => exact z
  | cons r1 r2 =>
    simp
    exact z
end
end Ov
namespace Ov
open PySem PySem.Spec PyProof.Rows L2
/-! ### a caught error, kept by a name of the def behind the suite -/
/-- at a: an error at rest, its class and its dict -/
def exz (a : Addr) (cls : Value) (d : Option Addr) : HO := .ext fun g => ∃ (ob : Obj) (us : Array Value), g.get? a = some ob ∧ Zc cls d ob ∧ ob.data = .fields us
theorem exz_ok {P : Program} {w : World} {H : Hp} {g : Heap} {a : Addr} {cls : Value} {d : Option Addr} {ob : Obj} {us : Array Value} (e : g.get? a = some ob) (z : Zc cls d ob) (hd : ob.data = .fields us) : ObjOk P w H g a (exz a cls d) :=
  ⟨⟨ob, us, e, z, hd⟩, ⟨_, e⟩, fun g1 g2 q k => by
    obtain ⟨o2, u2, e2, r⟩ := q
    exact ⟨o2, u2, k _ e2, r⟩⟩
theorem exz_at {P : Program} {w : World} {H : Hp} {g : Heap} {a : Addr} {cls : Value} {d : Option Addr} (ok : HOk P w H g) (h : H a = some (exz a cls d)) : ∃ (ob : Obj) (us : Array Value), g.get? a = some ob ∧ Zc cls d ob ∧ ob.data = .fields us := (ok a _ h).1
section
variable {X : Cx} {pins : List (Addr × Obj)} {σ : L2.St} {H : Hp} {s : Shared}
/-- what stands untracked, and did not stand at the entry, is tracked from now on -/
theorem Inv.seen {a : Addr} {ob : Obj} {us : Array Value} {o : HO} (I : Inv X pins σ H s) (ha : s.heap.get? a = some ob) (hd : ob.data = .fields us) (hn : H a = none) (h0 : X.s_0.heap.get? a = none) (nL : a ≠ X.env.locals) (np : ∀ p ∈ X.pn ++ pins, p.1 ≠ a)
    (new : ObjOk X.prog X.w (upd H a o) s.heap a o) : Inv X pins σ (upd H a o) s := by
  have nc : ∀ x c, X.env.cells.lookup x = some c → c ≠ a := fun x c e z => by
    obtain ⟨v, ho, q1, q2⟩ := I.cell x c e
    rw [z, ha] at q1
    cases q1
    rw [hd] at q2
    cases q2
  have b := I.base
  refine ⟨I.ok, I.os, I.bare, ⟨b.keep, b.slot, fun c u e m hx => ?_, b.there, fun c xs e => ?_, fun c u v e => ?_, fun c ps e => ?_⟩, I.loc, I.cell, ?_, fun x c e => ?_, fun p hp => ?_, ?_, I.len⟩
  · rw [upd_ne (fun z => by rw [z, h0] at e; cases e)]
    exact b.free c u e m hx
  · have z := b.tups c xs e
    rw [upd_ne (ne_of_none z hn)]
    exact z
  · have z := b.frzs c u v e
    rw [upd_ne (ne_of_none z hn)]
    exact z
  · obtain ⟨more, z⟩ := b.tbls c ps e
    exact ⟨more, by rw [upd_ne (ne_of_none z hn)]; exact z⟩
  · rw [upd_ne (Ne.symm nL)]
    exact I.free
  · rw [upd_ne (nc x c e)]
    exact I.freeC x c e
  · obtain ⟨q1, q2, q3⟩ := I.pin p hp
    exact ⟨q1, by rw [upd_ne (np p hp)]; exact q2, q3⟩
  · exact I.hok.laidN (fun _ _ e => e) hn new
/-- the suite's pin, kept for a while -/
theorem Inv.held {a : Addr} {q : Addr × Obj} (I : Inv (X.suite a (q :: (X.pn ++ pins))) [] σ H s) (ok : X.Ok) : Inv X (q :: pins) σ H s := by
  refine ⟨ok, I.os, I.bare, I.base, I.loc, I.cell, I.free, I.freeC, fun p hp => I.pin p ?_, I.hok, I.len⟩
  rw [List.append_nil]
  rcases List.mem_append.mp hp with m | m
  · exact List.mem_cons_of_mem _ (List.mem_append_left _ m)
  · rcases List.mem_cons.mp m with m | m
    · rw [m]
      exact List.mem_cons_self
    · exact List.mem_cons_of_mem _ (List.mem_append_right _ m)
end
/-- what such a clause wishes of an error of the body -/
def wKp (K : PySem.W.Frag) (c : Value) (i : Nat) (ts : Addr → Value → Option Addr → TS) (Wout : WX) (D : Ends) : WX := fun cls d σ H =>
  ∃ yes, PySem.W.exmOne K cls c = some yes ∧
    (yes = true → ∀ a, H a = none → ts a cls d ⟨fun σ1 H1 => D.nx (σ1.set i none) (upd H1 a (exz a cls d)), fun _ _ => False, fun _ _ => False, fun _ _ => False⟩ (σ.set i (some (.ref a))) H) ∧
    (yes = false → Wout cls d σ H)
section
variable {X : Cx} {x n : Str} {c : Value} {i : Nat} {body suite : List Stmt} {st1 : Stmt} {np pos pos' : Pos} {tb : WX → TS} {ts : Addr → Value → Option Addr → TS} {Wout : WX}
theorem ps_keep (hs : X.stack = X.env :: X.outer) (hf : X.env.frame = some X.env.locals) (hex : X.ex = []) (nd : X.N.Nodup) (hi : X.N[i]? = some n)
    (hln : X.env.kindOf n = some .local) (hc : Names X x c) (tk : Takes X Wout)
    (hb : ∀ (W : WX) (pn : List (Addr × Obj)) (xe : Value → Shared → Prop), Takes (X.tr pn xe) W →
      PassesOwn (model X.prog X.w) X.A X.env xe → PSs (X.tr pn xe) body (tb W))
    (hsu : ∀ (a : Addr) (ob : Obj) (cls : Value) (d : Option Addr) (pn : List (Addr × Obj)), Zc cls d ob →
      (∃ us, ob.data = .fields us) → PSs (X.suite a ((a, ob) :: pn)) (st1 :: suite) (ts a cls d)) :
    PS X (.Try body [.ExceptHandler (some (.Name x np)) (some n) (st1 :: suite) pos'] [] [] pos)
      (fun D σ H => tb (wKp X.K c i ts Wout D) D σ H) := by
  constructor
  intro pins s σ H D I h
  have ok := I.ok
  have frs_ : X.A.frames = some (X.env :: X.outer) := by
    rw [ok.frames, hs]
  have own : Loc X.env.scope n := Or.inl hln
  let hd0 : ExceptHandler := .ExceptHandler (some (.Name x np)) (some n) (st1 :: suite) pos'
  refine wpAny_Try_except ?_
  have run := (hb (wKp X.K c i ts Wout D) (X.pn ++ pins)
    (fun e s₁ => wpAny (model X.prog X.w) X.A (noteFrame e X.env)
      (fun _ s₂ => wpAny (model X.prog X.w) X.A (setFlight e none)
        (fun _ s₃ => wpAny (model X.prog X.w) X.A (handleBy e X.env [hd0])
          (SP X pins D) X.xe s₃) X.xe s₂) X.xe s₁) ?_ PassesOwn.looking).run [] s σ H D (I.toTry _) h
  · refine wpAny_mono run (fun fl s1 q => ?_) fun _ _ q => q
    cases fl with
    | next =>
      obtain ⟨σ1, H1, J, r⟩ := q
      exact wpAny_execs_nil ⟨σ1, H1, J.ofTry ok, r⟩
    | brk =>
      obtain ⟨σ1, H1, J, r⟩ := q
      exact ⟨σ1, H1, J.ofTry ok, r⟩
    | cont =>
      obtain ⟨σ1, H1, J, r⟩ := q
      exact ⟨σ1, H1, J.ofTry ok, r⟩
    | ret u =>
      obtain ⟨v, σ1, H1, J, r1, r2⟩ := q
      exact ⟨v, σ1, H1, J.ofTry ok, r1, r2⟩
  · intro u s1 air
    obtain ⟨a, B, sI, ps1, σ1, H1, cls, d, rfl, I1, ground, ups, sky, none1, os1, bare1, yes, hyes, w1, w0⟩ := air
    have J : Inv X pins σ1 H1 sI := I1.ofTry ok
    rw [hs] at sky
    -- the error is new
    have gone : B.get? a = none := by
      rcases sky with ⟨_, q, _⟩ | ⟨_, q, _⟩ | ⟨_, q, _⟩ <;> exact q
    show wpAny (model X.prog X.w) X.A (noteFrame (.ref a) X.env) _ _ _
    refine Sky.land Zc.steady frs_ hf sky fun g3 fl3 up3 => ?_
    have J3 : Inv X pins σ1 H1 { s1 with heap := g3 } := J.landed ground fl3.1 (ups.trans up3) os1 bare1
    obtain ⟨o3, us3, at3, z3, d3⟩ := fl3.there
    have offFrames : ∀ {g : Heap} {o : Obj} {us : Array Value}, g.FunFrames B (X.env :: X.outer) → g.get? a = some o →
        o.data = .fields us → a ∉ frs (X.env :: X.outer) := fun {g o us} ff e1 e2 hm => by
      obtain ⟨_, o', e3, q⟩ := ff.mem hm
      rw [e1] at e3
      cases e3
      exact q _ e2
    have n1 := offFrames fl3.2.2.1 at3 d3
    have nL : a ≠ X.env.locals := fun z => n1 (by
      refine List.mem_filterMap.mpr ⟨X.env, List.mem_cons_self, ?_⟩
      rw [hf, z])
    have nF : a ∉ X.fs := fun hm => by
      obtain ⟨e, e1, e2⟩ := List.mem_filterMap.mp hm
      exact n1 (List.mem_filterMap.mpr ⟨e, List.mem_cons_of_mem _ e1, e2⟩)
    have newI : sI.heap.get? a = none := by
      cases q : sI.heap.get? a with
      | none => rfl
      | some o =>
        have z := ground a o q (by rw [hs]; exact n1)
        rw [gone] at z
        cases z
    have new0 : X.s_0.heap.get? a = none := by
      cases q : X.s_0.heap.get? a with
      | none => rfl
      | some o =>
        obtain ⟨o', z⟩ := J.base.there a o q (by rw [hex]; exact List.not_mem_nil)
        rw [newI] at z
        cases z
    have noPin : ∀ p ∈ X.pn ++ pins, p.1 ≠ a := fun p hp z => by
      have q := (J.pin p hp).1
      rw [z, newI] at q
      cases q
    have S3 := J3.suite at3 d3 none1 nL nF
    refine wpAny_handleBy_cons (codeAny_handlers_test ?_) (by intro q; cases q)
    have looks : PySem.W.Looks (model X.prog X.w) g3 (typeOf (.ref a)) cls := fun A Q E s k q =>
      wpAny_typeOf_ref (k _ _ at3) (by rw [z3.1]; exact q)
    have meets := PySem.W.exm_one (M := model X.prog X.w) J3.kIn looks hyes
    have named : ∀ {Q E : Value → Shared → Prop}, Q c { s1 with heap := g3 } →
        wpAny (model X.prog X.w) (X.A.mark (some (.ref a))) (eval (.Name x np) X.env) Q E { s1 with heap := g3 } := fun {Q E} q => by
      obtain ⟨e1, e2, m | ⟨m1, m2, m3⟩⟩ := hc
      · exact ld_glob (X := X.suite a ((a, o3) :: (X.pn ++ pins))) S3 e1 m q e2
      · exact ld_blt (X := X.suite a ((a, o3) :: (X.pn ++ pins))) S3 e1 m1 m2 q m3 e2
    refine named (meets.here ?_)
    cases yes with
    | true =>
      refine codeAny_handlers_suite_as (HandSPX.lands_againZ fl3 fun g4 fl4 up4 => ?_)
      have J4 : Inv X pins σ1 H1 { s1 with heap := g4 } :=
        J.landed ground fl4.1 ((ups.trans up3).trans up4) os1 bare1
      obtain ⟨o4, us4, at4, z4, d4⟩ := fl4.there
      have S4 := J4.suite at4 d4 none1 nL nF
      refine store_ok (X := X.suite a ((a, o4) :: (X.pn ++ pins))) (v := .ref a) S4 nd hi own rfl (fun s5 S5 => ?_) (.inr hln)
      have go := (hsu a o4 cls d (X.pn ++ pins) z4 ⟨_, d4⟩).run [] s5 _ H1 _ S5 (w1 rfl a none1)
      refine wpAny_mono go (fun fl s6 q => ?_) fun _ _ z => z.elim
      cases fl with
      | next =>
        obtain ⟨σ6, H6, S6, q6⟩ := q
        refine gone_ok (Ov.Inv.held S6 ok) nd hi hln fun s7 J7 => ?_
        have pin7 := J7.pin (a, o4) (List.mem_append_right _ List.mem_cons_self)
        have J8 : Inv X pins (σ6.set i none) H6 s7 :=
          ⟨ok, J7.os, J7.bare, J7.base, J7.loc, J7.cell, J7.free, J7.freeC, fun p hp => J7.pin p (by
            rcases List.mem_append.mp hp with m | m
            · exact List.mem_append_left _ m
            · exact List.mem_append_right _ (List.mem_cons_of_mem _ m)), J7.hok, J7.len⟩
        exact ⟨_, _, Ov.Inv.seen J8 pin7.1 d4 pin7.2.1 new0 nL noPin (exz_ok pin7.1 z4 d4), q6⟩
      | brk => exact (show False from (let ⟨_, _, _, z⟩ := q; z)).elim
      | cont => exact (show False from (let ⟨_, _, _, z⟩ := q; z)).elim
      | ret u => exact (show False from (let ⟨_, _, _, _, _, z⟩ := q; z)).elim
    | false =>
      show wpAny _ X.A (handleBy (.ref a) X.env []) _ _ _
      refine wpAny_handleBy_nil ?_
      obtain ⟨k1, k2, k3, oe, vs, T, oT, ts', at_, hz, hd, h1, hr⟩ := id fl3
      unfold PySem.passOn
      refine wpAny_bind (wpAny_field at_ hd h1 ?_)
      rw [if_neg (by simp)]
      have out : wpAny (model X.prog X.w) X.A (setFlight (.ref a) X.env.frame)
          (fun _ s4 => wpAny (model X.prog X.w) X.A (throw (.ref a) : Sem Flow) (SP X pins D) X.xe s4) X.xe { s1 with heap := g3 } := by
        rw [hf]
        refine HandSPX.setFlight_upZ fl3 fun g4 held4 up4 => wpAny_throw (tk _ _ ?_)
        refine ⟨a, B, sI, pins, σ1, H1, cls, d, rfl, J, ground, (ups.trans up3).trans up4, Or.inr (Or.inr ?_), none1, os1, bare1, w0 rfl⟩
        rw [hs]
        exact held4
      first
        | exact wpAny_bind (wpAny_pure (wpAny_bind out))
        | exact wpAny_bind out
end
end Ov
namespace Ov
open PySem PySem.Spec PyProof.Rows L2
/-! ### what is asked of a kept error -/
section
variable {X : Cx}
/-- the error of class C at a, its dict at dx -/
def ErrZ (H : Hp) (a C dx : Addr) (fs : List (Str × V)) : Prop := H a = some (exz a (.ref C) (some dx)) ∧ H dx = some (.xd fs)
theorem xd_at {P : Program} {w : World} {H : Hp} {h : Heap} {dx : Addr} {fs : List (Str × V)} (ok : HOk P w H h) (e : H dx = some (.xd fs)) : ∃ mA, h.Ns1 dx mA ∧ ∀ f, RelO (fs.lookup f) (mA f) := by
  obtain ⟨mA, z, r⟩ := ok dx _ e
  exact ⟨mA, z, r⟩
theorem ErrZ.same {H H' : Hp} {a C dx : Addr} {fs : List (Str × V)} (h : ErrZ H a C dx fs) (s : Same H H') : ErrZ H' a C dx fs := ⟨s _ _ h.1, s _ _ h.2⟩
/-- isinstance(e, c) -/
def rIsZ (K : PySem.W.Frag) : List V → Hp → VK → Prop := fun xs H Q => ∃ (a C dx : Addr) (fs : List (Str × V)) (c : V) (cv : Value) (b : Bool), xs = [.ref a, c] ∧ ExcC K C ∧ ErrZ H a C dx fs ∧ (∀ u, RelV c u → u = cv) ∧ PySem.W.kitOne K (.ref C) cv = some b ∧ Q (.bl b) H
theorem call_isZ : CallR X (.builtin "isinstance") (rIsZ X.K) := by
  intro pins s σ H xs us Q I r h
  obtain ⟨a, C, dx, fs, c, cv, b, rfl, E, ⟨ea, ed⟩, hcv, e, q⟩ := h
  obtain ⟨u1, u2, rfl, r1, r2⟩ := vals2 r
  cases (show u1 = Value.ref a from r1)
  have ec := hcv _ r2
  subst ec
  obtain ⟨ob, vs, e1, ⟨z1, z2⟩, z3⟩ := exz_at I.hok ea
  have known : (PySem.W.clsIn X.K C).isSome = true := by
    obtain ⟨cd, z, _⟩ := PySem.W.any_some E.hd
    rw [z]
    rfl
  obtain ⟨mA, ns, _⟩ := xd_at I.hok ed
  obtain ⟨od, ho, _⟩ := lookIn_ns ns
  have J : PySem.W.InstAt s.heap a ob C (some od) := ⟨e1, z1, by unfold PySem.W.notCls; rw [z3], by rw [z2]; exact ho⟩
  exact PySem.W.kia_one (PySem.W.kitx_exc known E.hg E.hk E.hs E.ha E.hn E.ht E.hm) I.kIn J e (fun z => nomatch z) fun tk =>
    ⟨.bl b, H, I.tok tk, rfl, q⟩
/-- e.f -/
def tExzf (K : PySem.W.Frag) (n : Str) (te : TE) : TE := fun σ H Q => te σ H fun x H1 => ∃ (a C dx : Addr) (fs : List (Str × V)) (v : V), x = .ref a ∧ XfC K C ∧ PySem.W.findIn K (.ref C) n = some none ∧ ErrZ H1 a C dx fs ∧ fs.lookup n = some v ∧ Q v H1
theorem pe_exzf {e : Expr} {te : TE} {n : Str} {pos : Pos} (he : PE X e te) (hb : attributeBase e n X.env (eval e X.env) = eval e X.env := by rfl) : PE X (.Attribute e n pos) (tExzf X.K n te) := by
  constructor
  intro pins s σ H Q I h
  refine attr_of hb (thn (he.run pins s σ H _ I h) fun u s1 hh => ?_)
  obtain ⟨x, H1, I1, rx, a, C, dx, fs, v, ex, T, hno, ⟨ea, ed⟩, l, q⟩ := hh
  subst ex
  obtain rfl : u = Value.ref a := rx
  obtain ⟨ob, us, e1, ⟨z1, z2⟩, z3⟩ := exz_at I1.hok ea
  obtain ⟨mA, ns, hr⟩ := xd_at I1.hok ed
  obtain ⟨od, ho, hl⟩ := lookIn_ns ns
  obtain ⟨u, hu, ru⟩ := RelO.some_of (v := v) (o := mA n) (by rw [← l]; exact hr n)
  have J : PySem.W.InstAt s1.heap a ob C (some od) := ⟨e1, z1, by unfold PySem.W.notCls; rw [z3], by rw [z2]; exact ho⟩
  refine HandSPX.exc_get I1.kIn J T.ga T.gg T.exC (PySem.W.findObj_own T.hdC hno rfl (by rw [hl, hu])) (handed_of ru) ⟨v, H1, I1.tok _, ru, q⟩
end
end Ov
namespace Ov
open PySem PySem.Spec PyProof.Rows L2 LamX
/-! ### lambdas without parameters, handed to a def beside other arguments, what they raise wished for at the slots -/
abbrev lamQ (X : Cx) : Str := X.env.qual ++ "<lambda>"
abbrev lamO (X : Cx) (params : Arguments) (body : Expr) (scope : Scope) (pm : Value) (c' : Addr) (ctv : Value) : Obj :=
  PySem.W.kla_obj "<lambda>" (lamQ X) params body scope (cloFrom X.env.cells scope.names []) pm c' ctv
section
variable {X : Cx} {pins : List (Addr × Obj)} {σ : L2.St} {H : Hp} {s : Shared}
/-- a() where a is the name by which the def knows the lambda; Z is that def's context -/
theorem act_at {CXg : CXT} {Eg : XK} {Ng : List Str} {qg : Str} {sg : Scope} {g f c' : Addr} {cdg pm ctv : Value} {params : Arguments} {body : Expr} {scope : Scope} {k i : Nat} {a : Str}
    {pn : List (Addr × Obj)} {xe : Value → Shared → Prop} {W : WX} {tb : XK → TE} {p1 p2 : Pos} (I : Inv X pins σ H s) (L : LamS X.env.scope scope)
    (hf : s.heap.get? f = some (lamO X params body scope pm c' ctv)) (hfn : H f = none) (hfr : f ∉ frs X.stack)
    (hbind : bindArgs (PySem.W.kla_fn "<lambda>" (lamQ X) params body scope (cloFrom X.env.cells scope.names []) pm (.ref c') ctv) ⟨[], []⟩ = pure [])
    (tk : Takes ((cxOf CXg X.prog X.w X.K X.mg X.base Ng qg sg g cdg X.A X.stack s H Eg).tr pn xe) W)
    (hr : Room (k + 1) (X.A.deeper (envOfC qg sg s.heap.objs.size g cdg)))
    (hbody : ∀ (A : Around) (outer : List Env) (s : Shared) (H : Hp) (E : XK), Room k (A.deeper (lamEnv X scope s.heap.objs.size f c')) →
      PE (lamCx X A outer s H E scope f c') body (tb E))
    (hN : Ng[i]? = some a) (hv : Vis sg a) (h1 : (a == ("__debug__" : Str)) = false := by decide) (h2 : (a == ("__classdict__" : Str)) = false := by decide) :
    PE ((cxOf CXg X.prog X.w X.K X.mg X.base Ng qg sg g cdg X.A X.stack s H Eg).tr pn xe) (.Call (.Name a p1) [] [] p2)
      (fun τ G Q => τ[i]? = some (some (.ref f)) ∧ G c' = some (CodeO c' (lamQ X)) ∧ tb (WE W τ) σ G Q) := by
  constructor
  intro pz sz τ G Q J h
  obtain ⟨slot, known, reads⟩ := h
  have load := (pe_var (pos := p1) (i := i) hN hv h1 h2).run pz sz τ G (fun v G1 => v = .ref f ∧ G1 = G) J ⟨.ref f, slot, rfl, rfl⟩
  refine wpAny_Call_Name_kw (thn load fun u s1 ⟨v, G1, J1, rel, e1, e2⟩ => ?_)
  subst e1
  rw [e2] at J1
  obtain rfl : u = Value.ref f := rel
  have un : Un (frs X.stack) [] H G s.heap s1.heap := J1.base
  have fn1 : s1.heap.get? f = some (lamO X params body scope pm c' ctv) := un.keep f _ hf hfn hfr List.not_mem_nil
  refine PySem.W.callWith_F0 ⟨_, _, _, _, fn1⟩ ?_
  obtain ⟨⟨oc, us, tq, q1, q2, q3⟩, _, _⟩ := J1.hok c' _ known
  let Ez : Env := envOfC qg sg s.heap.objs.size g cdg
  have rc : codeAny (model X.prog X.w) (X.A.deeper Ez) (.call (.ref f) ⟨[], []⟩)
      (CR (L2.CX X.prog X.w) (Ez :: X.stack) X.prog X.w G s1 Q (WE W τ)) s1 := by
    refine PySem.W.kla_callFunE hr.depth fn1 rfl L.co L.gen rfl ⟨c', oc, us, tq, rfl, q1, q2, q3⟩ ?_
    rw [hbind]
    refine wpAny_pure (wpAny_newFunctionEnv (fun y hy => (L.own y hy).2) (fun y hy => nomatch hy) ?_ L.kind)
    intro g1 ns same
    refine ⟨J1.nolimit.fresh _ same, ?_⟩
    show codeAny _ _ (.expr body (lamEnv X scope s1.heap.objs.size f c')) _ _
    have kept : ∀ b o, s1.heap.get? b = some o → g1.get? b = some o := fun b o e =>
      same.extBut b o (Nat.ne_of_lt (Heap.lt_size e)) (Heap.get?_push_of_some _ e)
    have inner := lam_start2 (f := f) (E := WE W τ) (c' := c') (tk := s1.toks + ([] : List (Str × Value)).length) I L J1.env0 hr.hd un ns kept
    refine PySem.W.kla_codeExpr (wpAny_mono ((hbody _ _ s1 G (WE W τ) (hr.deeper _)).run [] _ _ G Q inner reads) ?_ fun _ _ z => z)
    rintro v s2 ⟨w', G2, J2, rv, q⟩
    exact ⟨w', G2, J2.os, J2.bare, J2.base, J2.hok, rv, q⟩
  refine wpAny_call (codeAny_mono rc fun r s2 q => ?_)
  match r, q with
  | .error e, q => exact passAt tk τ pz G s1 e s2 J1 q
  | .ok (.ret u), q => exact J1.after q
  | .ok .next, q => exact (show False from q).elim
  | .ok .brk, q => exact (show False from q).elim
  | .ok .cont, q => exact (show False from q).elim
end
/-- the def x (its body bg, first parameter a) makes TT of the reading of the lambda that it gets -/
def Gives (X : Cx) (Ng : List Str) (x : Str) (sg : Scope) (g : Addr) (cdg : Value) (bg : List Stmt) (a : Str) (q : Str) (TT : (XK → Hp → VK → Prop) → List V → Hp → VK → Prop) : Prop :=
  ∀ (f c' : Addr) (s : Shared) (H : Hp) (vs : List V) (Q : VK) (tl : XK → Hp → VK → Prop),
    (∀ (W : WX) (pn : List (Addr × Obj)) (xe : Value → Shared → Prop) (p1 p2 : Pos), Takes ((cxOf CX0 X.prog X.w X.K X.mg X.base Ng x sg g cdg X.A X.stack s H E0).tr pn xe) W →
      PE ((cxOf CX0 X.prog X.w X.K X.mg X.base Ng x sg g cdg X.A X.stack s H E0).tr pn xe) (.Call (.Name a p1) [] [] p2)
        (fun τ G R => τ[0]? = some (some (.ref f)) ∧ G c' = some (CodeO c' q) ∧ tl (WE W τ) G R)) →
    H c' = some (CodeO c' q) → TT tl vs H Q →
    ∃ t, PSs (cxOf CX0 X.prog X.w X.K X.mg X.base Ng x sg g cdg X.A X.stack s H E0).nox bg t ∧ t { nx := fun _ H' => Q .non H', rt := Q } (L2.start Ng (.ref f :: vs)) H
/-- x(lambda: .., ..) -/
def tLamV (T : List (Addr × Str)) (TT : (XK → Hp → VK → Prop) → List V → Hp → VK → Prop) (t : XK → TE) (ta : TA) : TE := fun σ H Q =>
  Tabs T H ∧ ∀ H1, ExtN H H1 → Tabs T H1 → ta σ H1 fun vs H2 => (∀ c', H1 c' = some (CodeO c' (T.headD (0, "")).2) → H2 c' = some (CodeO c' (T.headD (0, "")).2)) ∧ TT (fun E G R => t E σ G R) vs H2 Q
section
variable {X : Cx}
theorem pe_lamV {P : Addr} {q : Str} {TT : (XK → Hp → VK → Prop) → List V → Hp → VK → Prop} {x a : Str} {g c : Addr} {k : Nat} {pg : Arguments} {bg : List Stmt} {sg : Scope} {dV kV doc pm cdv ct oc : Value} {an od : Option Addr} {osl : Array (Option Value)} {Ng ps : List Str}
    {params : Arguments} {body : Expr} {scope : Scope} {es : List Expr} {ta : TA} {t : XK → TE} {p lpos pos : Pos} (hg : Gl X x) (hm : X.mg x = some (.ref g)) (hk : PySem.W.keepIn X.K (.ref g) = true)
    (lk : X.K.lookup g = some ⟨oc, od, .func (PySem.W.fnOf x x pg bg sg dV kV doc pm an cdv ct), osl⟩) (hcg : PySem.W.codeIn X.K cdv x = true)
    (hb : L2.Binds X.K (PySem.W.fnOf x x pg bg sg dV kV doc pm an cdv ct) (a :: ps) []) (Sg : FnScope Ng (a :: ps) sg) (hNg : Ng[0]? = some a) (hva : Vis sg a)
    (hG : Gives X Ng x sg g cdv bg a (lamQ X) TT) (TB : TabB X.base X.mg c P) (hcode : X.env.code = .ref c) (hq : lamQ X = q) (gd : ∀ vs H Q tl, TT tl vs H Q → vs.length = ps.length)
    (hr : Room (k + 2) X.A) (hs : X.stack = X.env :: X.outer) (hfm : X.env.frame = some X.env.locals) (L : LamS X.env.scope scope) (hdef : defaultsOf params X.env = ([], []))
    (hbind : ∀ (q : Str) (cl : List (Str × Addr)) (pm cv ctv : Value), bindArgs (PySem.W.kla_fn "<lambda>" q params body scope cl pm cv ctv) ⟨[], []⟩ = pure [])
    (hbody : ∀ (A : Around) (outer : List Env) (s : Shared) (H : Hp) (E : XK) (f c' : Addr), Room k (A.deeper (lamEnv X scope s.heap.objs.size f c')) →
      PE (lamCx X A outer s H E scope f c') body (t E)) (ha : PA X es ta)
    (hst : starEach (.Lambda params body scope lpos :: es) X.env = (false, eval (.Lambda params body scope lpos) X.env) :: starEach es X.env := by rfl)
    (hpl : (backTo pos (starEach es X.env)).any (·.1) = false := by rfl)
    (h0 : (x == ("__debug__" : Str)) = false := by decide) (h1 : (a == ("__debug__" : Str)) = false := by decide) (h2 : (a == ("__classdict__" : Str)) = false := by decide) :
    PE X (.Call (.Name x p) (.Lambda params body scope lpos :: es) [] pos) (tLamV [(P, q)] TT t ta) := by
  subst hq
  constructor
  intro pins s σ H Q I h
  obtain ⟨hT, h⟩ := h
  refine wpAny_Call_Name_kw (ld_glob I hg hm ?_ h0)
  refine PySem.W.callWith_K (h₀ := X.base) I.ok.mod.kin hk ?_ hst hpl
  show wpAny _ _ (spliced ((false, eval (.Lambda params body scope lpos) X.env) :: backTo pos (starEach es X.env))) _ _ s
  refine Calls.spliced_cons (lam_make2 I TB hcode List.mem_cons_self ?_ hT hdef (L.has I.ok) ?_)
  · intro p hp _
    rw [List.mem_singleton.mp hp]
  intro f c' pm' ctv H1 s1 I1 eN T1 hf hfn hfr hco
  have pinned : Inv X ((f, lamO X params body scope pm' c' ctv) :: pins) σ H1 s1 := by
    refine ⟨I1.ok, I1.os, I1.bare, I1.base, I1.loc, I1.cell, I1.free, I1.freeC, fun p hp => ?_, I1.hok, I1.len⟩
    rcases List.mem_append.mp hp with m | m
    · exact I1.pin p (List.mem_append_left _ m)
    · rcases List.mem_cons.mp m with m | m
      · rw [m]
        refine ⟨hf, hfn, fun z => ?_, fun z => ?_, fun v z => ?_⟩
        · refine hfr ?_
          have z' : f = X.env.locals := z
          rw [hs, z']
          exact List.mem_filterMap.mpr ⟨X.env, List.mem_cons_self, hfm⟩
        · obtain ⟨e, e1, e2⟩ := List.mem_filterMap.mp z
          refine hfr ?_
          rw [hs]
          exact List.mem_filterMap.mpr ⟨e, List.mem_cons_of_mem _ e1, e2⟩
        · cases z
      · exact I1.pin p (List.mem_append_right _ m)
  refine thn (ha.run pos _ s1 σ H1 _ pinned (h H1 eN T1)) fun us s2 ⟨vs, H2, I2', rv, stays, q2⟩ => ?_
  have pf := I2'.pin _ (List.mem_append_right _ List.mem_cons_self)
  have I2 : Inv X pins σ H2 s2 := ⟨I2'.ok, I2'.os, I2'.bare, I2'.base, I2'.loc, I2'.cell, I2'.free, I2'.freeC, fun p hp => I2'.pin p (by
    rcases List.mem_append.mp hp with m | m
    · exact List.mem_append_left _ m
    · exact List.mem_append_right _ (List.mem_cons_of_mem _ m)), I2'.hok, I2'.len⟩
  refine ⟨I2.kIn, ?_⟩
  have nvs := gd _ _ _ _ q2
  have rc : codeAny (model X.prog X.w) X.A (.call (.ref g) ⟨.ref f :: us, []⟩) (CR CX0 X.stack X.prog X.w H2 s2 Q E0) s2 := by
    have hl : us.length = ps.length := by rw [← rv.length]; exact nvs
    have bt := hb s2 (.ref f :: us) I2.kIn (by rw [List.append_nil, List.length_cons, List.length_cons, hl])
    rw [List.append_nil] at bt
    refine run_ofS (N := Ng) (ps := a :: ps) (us := .ref f :: us) (vs := .ref f :: vs) lk hcg Sg hr I2.env0 bt (.cons rfl rv) (by rw [List.length_cons, List.length_cons, nvs]) fun hr' => ?_
    obtain ⟨t', w1, w2⟩ := hG f c' s2 H2 vs Q (fun E G R => t E σ G R)
      (fun W pn xe p1 p2 tk => act_at (i := 0) I2 L pf.1 pf.2.1 hfr (hbind _ _ _ _ _) tk hr' (fun A outer s H E hr2 => hbody A outer s H E f c' hr2) hNg hva h1 h2)
      (stays c' hco) q2
    exact ⟨t', w1.nox, w2⟩
  refine wpAny_call (codeAny_mono rc fun r s3 z => ?_)
  match r, z with
  | .error e, z => exact (show False from z).elim
  | .ok (.ret u), z => exact I2.after z
  | .ok .next, z => exact (show False from z).elim
  | .ok .brk, z => exact (show False from z).elim
  | .ok .cont, z => exact (show False from z).elim
end
end Ov
namespace Ov
open PySem PySem.Spec PyProof.Rows L2 LamX
/-! ### defs that make lambdas: their code object and its table are known; the law's call with one table -/
section
variable {P : Program} {w : World} {K : PySem.W.Frag} {mg : Str → Option Value} {base : Heap}
theorem code_is {x qual : Str} {st : Stmt} {f c T : Addr} {oc : Value} {od : Option Addr} {kV doc pm cdv ct : Value} {an : Option Addr} {osl : Array (Option Value)}
    (a0 : PySem.W.nsIn K mainGlobals x = some (some (.ref f))) (ht : PySem.W.tabIn K x = some (c, T))
    (lk : K.lookup f = some ⟨oc, od, .func (PySem.W.fnOf x qual (defArgs st) (defBody st) (defScope st) .none kV doc pm an cdv ct), osl⟩) : cdv = .ref c := by
  unfold PySem.W.tabIn at ht
  rw [a0] at ht
  dsimp only at ht
  rw [lk] at ht
  dsimp only at ht
  cases cdv with
  | ref c2 =>
    dsimp only at ht
    split at ht
    · split at ht
      · cases ht; rfl
      · cases ht
    · cases ht
  | _ => cases ht
/-- such a def, called where no repr is under way -/
theorem okGT {x qual : Str} {st : Stmt} {f c T : Addr} {fd : FuncData} {N ps : List Str} {k : Nat} {sp : Sp} (F : Fun K x qual st f fd) (a0 : PySem.W.nsIn K mainGlobals x = some (some (.ref f))) (ht : PySem.W.tabIn K x = some (c, T))
    (S : FnScope N ps (defScope st)) (len : ∀ vs H Q E, sp vs H Q E → vs.length = ps.length)
    (body : ∀ (A : Around) (outer : List Env) (s : Shared) (H : Hp) (vs : List V) (Q : VK) (E : XK), A.guards = some [] → Room k (A.deeper (envOfC qual (defScope st) s.heap.objs.size f (.ref c))) → sp vs H Q E →
      ∃ t, PSs (cxOf CX0 P w K mg base N qual (defScope st) f (.ref c) A outer s H E).nox (defBody st) t ∧ t { nx := fun _ H' => Q .non H', rt := Q } (L2.start N vs) H) :
    FnG P w K mg base (k + 1) f fd ps sp := by
  obtain ⟨oc, od, kV, doc, pm, an, cdv, ct, osl, rfl, lk, hcd⟩ := F.ex
  have ec : cdv = .ref c := code_is a0 ht lk
  subst ec
  refine ⟨len, ?_⟩
  intro A outer s H args us vs Q E gd room env bnd rel pr
  obtain ⟨t, walk, reads⟩ := body A outer s H vs Q E gd (room.deeper _) pr
  have below : ∀ b o, base.get? b = some o → s.heap.get? b = some o := fun b o e => (env.bs b o e).1
  have kin := env.mod.kin.keeps below
  have sorts : ∀ y ∈ ps.zip us, (defScope st).names.lookup y.1 = some .local ∨ ((defScope st).names.lookup y.1 = some .cell ∧ ((cellsFrom (s.heap.objs.size + 1) (defScope st).names []).lookup y.1).isSome = true) := by
    rintro ⟨y, v⟩ hy
    rcases S.par y (List.of_mem_zip hy).1 with q | q
    · exact .inl q
    · exact .inr ⟨q, PySem.W.cellsFrom_some _ _ _ (.inl q)⟩
  refine codeAny_call_function room.depth (kin _ _ lk) rfl S.co S.gen rfl (PySem.W.codeRec_of kin hcd) (bnd _ _ _ _ (wpAny_newFunctionEnv_cells S.kind sorts ?_))
  rintro env' rfl s1 ic
  refine ⟨(env.mod.nolimit.keeps below).keeps ic.toInCall.keep, codeAny_func ?_⟩
  refine wpAny_mono (walk.nox.run [] s1 (L2.start N vs) H _ (inv_start S room.hd env (len _ _ _ _ pr) rel ic) reads) ?_ fun _ _ h => h
  intro fl s' h
  match fl, h with
  | .brk, h => obtain ⟨_, _, _, q⟩ := h; exact q.elim
  | .cont, h => obtain ⟨_, _, _, q⟩ := h; exact q.elim
  | .next, h => obtain ⟨_, H', J, q⟩ := h; exact ⟨.non, H', J.os, J.bare, J.base, J.hok, rfl, q⟩
  | .ret u, h => obtain ⟨v, _, H', J, rv, q⟩ := h; exact ⟨v, H', J.os, J.bare, J.base, J.hok, rv, q⟩
end
/-- what is tracked at the law's call: the script and the table -/
def atCall (a T : Addr) (u : Option HO) : Hp := fun b => if b = T then some (.tbl #[]) else if b = a then u else none
theorem callGT {P : Program} {w : World} {K : PySem.W.Frag} {mg mb : Str → Option Value} {k : Nat} {fa a c T : Addr} {fd : FuncData} {x : Str} {sp : Sp} {s : Shared} {vs : List Value} {ns : List Int}
    (KX : K.In s.heap) (hns : s.heap.Ns mainGlobals mg) (hb : s.heap.Ns builtinsNs mb) (hbb : ∀ x : Str, x ≠ "__name__" → mb x = bootBuiltins x) (hlim : s.heap.NoLimit) (hg : s.gens = #[])
    (hT : s.heap.get? T = some { cls := .none, data := .fields #[] }) (nT : K.lookup T = none) (hC : PySem.W.CodeHd s.heap c T)
    (hbm : ∃ bm ob, mg "__builtins__" = some (.ref bm) ∧ bm ≠ builtinsNs ∧ s.heap.get? bm = some ob ∧ ob.cls = .type "module" ∧ ob.dict = some builtinsNs ∧ ob.data = .plain)
    (ha : s.heap.get? a = some { cls := .type "list", data := .seq vs.toArray }) (hi : IntsAre vs ns) (hl : ns.length ≤ sizeLine) (room : Room k callerA)
    (F : ∀ base : Heap, K.In base → base.Ns mainGlobals mg → TabB base mg c T → FnG P w K mg base k fa fd [x] sp) (bind : ∀ (s : Shared) (u : Value), BindsTo s fd ⟨[u], []⟩ [(x, u)])
    (pr : ∀ H : Hp, H T = some (.tbl #[]) → SqL K H a (ns.map V.int) → sp [.ref a] H (fun v _ => v = .bl true) fun _ _ _ => False) :
    codeAny (model P w) callerA (.call (.ref fa) ⟨[.ref a], []⟩) (fun r s' => r = .ok (.ret (.bool true)) ∧ OldK s.heap s'.heap ∧ s'.os = s.os ∧ AllBare s'.gens) s := by
  have rv : Vals (ns.map V.int) vs := vals_ints hi
  have aT : a ≠ T := fun z => by
    rw [z, hT] at ha
    have q := congrArg Obj.data (Option.some.inj ha)
    cases q
  obtain ⟨u, seq, uok, sep, froz⟩ : ∃ u : Option HO, SqL K (atCall a T u) a (ns.map V.int) ∧ (∀ o, u = some o → ObjOk P w (atCall a T u) s.heap a o) ∧ (u ≠ none → K.lookup a = none) ∧ (∀ o, u = some o → ∃ ob xs, o = .frz ob (.lst xs)) := by
    cases hk : K.lookup a with
    | some o =>
      have e := Option.some.inj ((KX a o hk).symm.trans ha)
      subst e
      refine ⟨none, .inr ⟨_, vs.toArray, _, hk, rfl, rfl, rfl, ?_, by simpa using rv⟩, (fun _ z => nomatch z), (fun z => absurd rfl z), fun _ z => nomatch z⟩
      rw [List.size_toArray, hi.length]
      exact hl
    | none =>
      have e : atCall a T (some (.frz { cls := .type "list", data := .seq vs.toArray } (.lst (ns.map V.int)))) a = some (.frz { cls := .type "list", data := .seq vs.toArray } (.lst (ns.map V.int))) := by
        unfold atCall
        rw [if_neg aT, if_pos rfl]
      refine ⟨_, .inl (.inr ⟨_, e⟩), fun o z => ?_, fun _ => rfl, fun o z => ⟨_, _, (Option.some.inj z).symm⟩⟩
      cases z
      exact ⟨ha, by rw [List.length_map]; exact hl, vs, _, rv, ha⟩
  generalize hH : atCall a T u = H at seq uok
  have HT : H T = some (.tbl #[]) := by rw [← hH]; exact if_pos rfl
  have Ha : H a = u := by
    rw [← hH]
    unfold atCall
    rw [if_neg aT, if_pos rfl]
  have Hn : ∀ b, b ≠ T → b ≠ a → H b = none := fun b h1 h2 => by
    rw [← hH]
    unfold atCall
    rw [if_neg h1, if_neg h2]
  have hok : HOk P w H s.heap := fun b o z => by
    by_cases h1 : b = T
    · subst h1
      rw [HT] at z
      cases z
      exact hT
    · by_cases h2 : b = a
      · subst h2
        exact uok o (Ha ▸ z)
      · rw [Hn b h1 h2] at z
        cases z
  have rest : ∀ {b : Addr} {o : Obj}, s.heap.get? b = some o → H b = none → (hidT s.heap H).get? b = some o := fun e n => hidT_get e n
  -- neither the script nor the table
  have other : ∀ {b : Addr} {o : Obj}, s.heap.get? b = some o → (∀ us m, o.data ≠ .seq us m) → o.data ≠ .fields #[] → H b = none := fun {b o} e h1 h2 => by
    refine Hn b (fun z => ?_) fun z => ?_
    · rw [z, hT] at e
      cases e
      exact h2 rfl
    · rw [z, ha] at e
      cases e
      exact h1 _ _ rfl
  have spaces : ∀ {b : Addr} {m : Str → Option Value}, s.heap.Ns b m → (hidT s.heap H).Ns b m := by
    rintro b m ⟨o, es, ep, e, d, r⟩
    exact ⟨o, es, ep, rest e (other e (fun us m z => by rw [d] at z; cases z) (fun z => by rw [d] at z; cases z)), d, r⟩
  have kin : K.In (hidT s.heap H) := fun b o e => rest (KX b o e) (by
    by_cases h1 : b = T
    · rw [h1, nT] at e
      cases e
    · by_cases h2 : b = a
      · subst h2
        cases z : u with
        | none => rw [Ha, z]
        | some o' => rw [sep (by rw [z]; exact fun y => nomatch y)] at e; cases e
      · exact Hn b h1 h2)
  obtain ⟨mc, lim1, lim2⟩ := hlim
  have env : Env0 P w K mg (hidT s.heap H) callerA [] s H :=
    ⟨rfl, ⟨kin, spaces hns, ⟨mb, spaces hb, hbb⟩, ⟨mc, spaces lim1, lim2⟩⟩, fun b o e => of_hidT e, Nat.le_of_eq (hidT_size _ _), trivial, fun b hb => absurd (show b ∈ ([] : List Addr) from hb) (by simp), hok, .of_eq hg⟩
  have gT : mainGlobals ≠ T := fun z => by
    obtain ⟨o, es, ep, e, d, _⟩ := hns
    rw [z, hT] at e
    cases e
    cases d
  have TB : TabB (hidT s.heap H) mg c T := by
    refine ⟨?_, ?_, gT⟩
    · obtain ⟨o, us, file, tf, flags, tg, inF, text, tt, e, r1, r2, r3, r4⟩ := hC
      refine ⟨o, us, file, tf, flags, tg, inF, text, tt, rest e (other e (fun us m z => ?_) fun z => ?_), r1, r2, r3, r4⟩
      · rw [r2] at z
        cases z
      · rw [r2] at z
        cases z
        cases r3
    · obtain ⟨bm, ob, m1, m2, m3, m4, m5, m6⟩ := hbm
      have q1 : bm ≠ mainGlobals := fun z => by
        obtain ⟨o, es, ep, e, d, _⟩ := hns
        rw [z, e] at m3
        cases m3
        rw [d] at m6
        cases m6
      have q2 : bm ≠ T := fun z => by
        rw [z, hT] at m3
        cases m3
        cases m6
      have q3 := rest m3 (other m3 (fun us m z => by rw [m6] at z; cases z) (fun z => by rw [m6] at z; cases z))
      exact ⟨bm, ob, m1, m2, q1, q2, q3, m4, m5, m6⟩
  refine codeAny_mono ((F _ kin (spaces hns) TB).run callerA [] s H ⟨[.ref a], []⟩ [.ref a] [.ref a] _ _ rfl room env (bind s (.ref a)) (.cons rfl .nil) (pr H HT seq)) ?_
  intro r s' h
  match r, h with
  | .error e, h => exact (show False from h).elim
  | .ok .next, h => exact (show False from h).elim
  | .ok .brk, h => exact (show False from h).elim
  | .ok .cont, h => exact (show False from h).elim
  | .ok (.ret v), ⟨y, H', os, bare, un, hok', rel, q⟩ =>
    have ey : y = .bl true := q
    subst ey
    obtain rfl : v = Value.bool true := rel
    obtain ⟨more, tb⟩ := un.tbls T #[] HT
    have tb' := hok' T _ tb
    have stays : ∀ b o, b ≠ T → s.heap.get? b = some o → s'.heap.get? b = some o := fun b o nb e => by
      by_cases h2 : b = a
      · subst h2
        cases z : u with
        | none => exact un.keep b o e (by rw [Ha, z]) (fun y => nomatch y) (by simp)
        | some o2 =>
          obtain ⟨ob, xs, eo⟩ := froz o2 z
          have z2 : H b = some (.frz ob (.lst xs)) := by rw [Ha, z, eo]
          have p1 := (hok b _ z2).1
          have p2 := (hok' b _ (un.frzs b ob _ z2)).1
          rw [Option.some.inj (e.symm.trans p1)]
          exact p2
      · exact un.keep b o e (Hn b nb h2) (fun y => nomatch y) (by simp)
    refine ⟨rfl, ⟨fun b o e => ?_, fun b o e => ?_⟩, os, bare⟩
    · by_cases h1 : b = T
      · subst h1
        rw [hT] at e
        cases e
        exact .inr (.inl ⟨(hC.tab hT).isCodeTable, rfl, #[], more, rfl, tb'⟩)
      · exact .inl (stays b o h1 e)
    · by_cases h1 : b = T
      · rw [h1]
        exact ⟨_, tb'⟩
      · exact ⟨o, stays b o h1 e⟩
theorem walkGT {l : PySem.W.OpenLaw} {n k : Nat} {q : Program} {loose : List Str} {XP : (Str → Option Value) → Heap → Prop} {YP : World → Heap → Prop} {d : DefRec} {K : Params → PySem.W.Frag} {sp : PySem.W.Frag → Addr → Sp} {x y : Str}
    (hn : l.most = some n) (hn2 : n ≤ sizeLine) (hdf : d.params.defaults = []) (room : Room k callerA) (hY : ∀ (w : World) (h : Heap), YP w h → (K w.params).In h) (hrec : ((recsOf q).find? fun e => e.name == y).isSome = true)
    (F : ∀ (w : World) (mg : Str → Option Value) (fa : Addr) (h : Heap), (K w.params).In h → h.Ns mainGlobals mg → mg d.name = some (.ref fa) →
      ∃ (fd : FuncData) (c T : Addr), PySem.W.tabIn (K w.params) y = some (c, T) ∧ (K w.params).lookup T = none ∧ (∀ (s : Shared) (u : Value), BindsTo s fd ⟨[u], []⟩ [(x, u)]) ∧
        ∀ base : Heap, (K w.params).In base → base.Ns mainGlobals mg → TabB base mg c T → FnG l.prog w (K w.params) mg base k fa fd [x] (sp (K w.params) T))
    (pr : ∀ (K : PySem.W.Frag) (T : Addr) (H : Hp) (a : Addr) (ns : List Int), ns.length ≤ n → H T = some (.tbl #[]) → SqL K H a (ns.map V.int) → sp K T [.ref a] H (fun v _ => v = .bl true) fun _ _ _ => False) :
    PySem.W.WalkO q loose XP YP l.row.toRowW d [] (fun f vs => PySem.call f vs) := by
  refine Att.attach_call hn hdf ?_
  intro w s₀ s₁ mg mb fa o pm cd doc a vs ns G Y ho hd hcd hmg hobj hints hlen hg
  have kin := hY w _ Y
  obtain ⟨fd, c, T, ht, nT, bind, okF⟩ := F w mg fa _ kin G.T.g hmg
  obtain ⟨dy, hdy⟩ := Option.isSome_iff_exists.mp hrec
  obtain ⟨hC, hT⟩ := PySem.W.tab_of G.T kin hdy ht
  exact callGT kin G.T.g G.T.b G.T.builtins G.T.nolimit hg hT nT hC G.T.bmain hobj hints (Nat.le_trans hlen hn2) room okF bind fun H h1 h2 => pr (K w.params) T H a ns hlen h1 h2
end Ov
namespace Ov
open PySem PySem.Spec PyProof.Rows L2
/-! ### xs.count(y) of flat things -/
def rCntF (K : PySem.W.Frag) : V → List V → Hp → VK → Prop := fun x xs H Q => ∃ (p : Addr) (ys : List V) (y : V), x = .ref p ∧ xs = [y] ∧ SqL K H p ys ∧ flatV y = true ∧ ys.all flatV = true ∧ Q (.int (ys.countP (fun z => eqV z y) : Nat)) H
theorem countU {y : V} : ∀ {ys : List V} {us : List Value}, Vals ys us → ys.all flatV = true → us.countP (eqU y) = ys.countP (fun z => eqV z y)
  | [], _, r, _ => by cases r; rfl
  | z :: ys, _, r, h => by
    cases r with
    | cons r1 r2 =>
      rw [List.all_cons, Bool.and_eq_true] at h
      rw [List.countP_cons, List.countP_cons, countU r2 h.2, eqU_of r1 h.1]
theorem mt_countF {X : Cx} : MtR X "list.count" (rCntF X.K) := by
  intro pins s σ H x xs v us Q I rx rxs h
  obtain ⟨p, ys, y, rfl, rfl, hq, fy, fys, q⟩ := h
  cases rx
  obtain ⟨u, rfl, ru⟩ := rxs.one
  obtain ⟨its, rv, ⟨⟨cls, dd, data, sl⟩, n, ho, hc, _, hd⟩, _⟩ := I.list hq
  dsimp only at hc hd
  subst hc hd
  refine call_meets PySem.F.slot_list_count ⟨_, ho, rfl⟩ PySem.F.entry_list_count (PySem.F.args_list_count_2 _ _) (SeqAt.list_countAt p its.toArray n dd sl u (eqU y)) ⟨ho, ?_, ?_⟩
  · exact fun z hz => mem_eqAt ru fy rv fys z (by simpa using hz)
  · refine ⟨.int (ys.countP (fun z => eqV z y) : Nat), H, I.tok _, ⟨s.toks, ?_⟩, q⟩
    rw [← countU rv fys]
end Ov
namespace Ov
open PySem PySem.Spec PyProof.Rows L2
/-! ### an error asked inside its except suite, and its class asked of several at once -/
section
variable {X : Cx}
theorem isz_go {pins : List (Addr × Obj)} {σ : L2.St} {H : Hp} {s : Shared} (I : Inv X pins σ H s) {a C dx : Addr} {ob : Obj} {us : Array Value} {fs : List (Str × V)} (e1 : s.heap.get? a = some ob) (z : Zc (.ref C) (some dx) ob) (z3 : ob.data = .fields us) (E : ExcC X.K C) (ed : H dx = some (.xd fs)) :
    ∃ od, PySem.W.InstAt s.heap a ob C (some od) ∧ PySem.W.KitX X.K (.ref a) (.ref C) (fun h => PySem.W.InstAt h a ob C (some od)) := by
  have known : (PySem.W.clsIn X.K C).isSome = true := by
    obtain ⟨cd, z, _⟩ := PySem.W.any_some E.hd
    rw [z]
    rfl
  obtain ⟨mA, ns, _⟩ := xd_at I.hok ed
  obtain ⟨od, ho, _⟩ := lookIn_ns ns
  exact ⟨od, ⟨e1, z.1, by unfold PySem.W.notCls; rw [z3], by rw [z.2]; exact ho⟩, PySem.W.kitx_exc known E.hg E.hk E.hs E.ha E.hn E.ht E.hm⟩
theorem isz_tup {pins : List (Addr × Obj)} {σ : L2.St} {H : Hp} {s : Shared} {A : Around} (I : Inv X pins σ H s) {a C tp : Addr} {ob : Obj} {od : Obj} {cs : List V} {ws : List Value} {b : Bool} {Q E : Value → Shared → Prop}
    (J : PySem.W.InstAt s.heap a ob C (some od)) (Z : PySem.W.KitX X.K (.ref a) (.ref C) (fun h => PySem.W.InstAt h a ob C (some od))) (hT : H tp = some (.tup cs)) (k : Paired ClsV cs ws) (e : PySem.W.kitAny X.K (.ref C) ws = some b)
    (q : ∀ tk, Q (.bool b) { s with toks := tk }) : wpAny (model X.prog X.w) A (call (.builtin "isinstance") [.ref a, .ref tp]) Q E s := by
  obtain ⟨_, its, rv, o, h1, h2, n, h3⟩ := (show ObjOk X.prog X.w H s.heap tp (.tup cs) from I.hok tp _ hT)
  have e3 := ClsV.all k rv
  subst e3
  obtain ⟨oc, od', dt, sl⟩ := o
  simp only at h2 h3
  subst h2 h3
  exact PySem.W.kia_tup Z I.kIn J h1 e (fun z => nomatch z) q
/-- isinstance(e, (c, ..)) behind the suite -/
def rIsZT (K : PySem.W.Frag) : List V → Hp → VK → Prop := fun xs H Q => ∃ (a C dx tp : Addr) (fs : List (Str × V)) (cs : List V) (us : List Value) (b : Bool), xs = [.ref a, .ref tp] ∧ ExcC K C ∧ ErrZ H a C dx fs ∧ H tp = some (.tup cs) ∧ Paired ClsV cs us ∧ PySem.W.kitAny K (.ref C) us = some b ∧ Q (.bl b) H
theorem call_isZT : CallR X (.builtin "isinstance") (rIsZT X.K) := by
  intro pins s σ H xs us Q I r h
  obtain ⟨a, C, dx, tp, fs, cs, ws, b, rfl, E, ⟨ea, ed⟩, hT, k, e, q⟩ := h
  obtain ⟨u1, u2, rfl, r1, r2⟩ := vals2 r
  cases (show u1 = Value.ref a from r1)
  cases (show u2 = Value.ref tp from r2)
  obtain ⟨ob, vs, e1, z, z3⟩ := exz_at I.hok ea
  obtain ⟨od, J, Z⟩ := isz_go I e1 z z3 E ed
  exact isz_tup I J Z hT k e fun tk => ⟨.bl b, H, I.tok tk, rfl, q⟩
/-- isinstance(e, c) inside the suite: e is pinned there -/
def rIsP (K : PySem.W.Frag) (a : Addr) (cls : Value) (d : Option Addr) : List V → Hp → VK → Prop := fun xs H Q => ∃ (C dx : Addr) (fs : List (Str × V)) (c : V) (cv : Value) (b : Bool), xs = [.ref a, c] ∧ cls = .ref C ∧ d = some dx ∧ ExcC K C ∧ H dx = some (.xd fs) ∧ ClsV c cv ∧ PySem.W.kitOne K (.ref C) cv = some b ∧ Q (.bl b) H
theorem call_isP {a : Addr} {ob : Obj} {cls : Value} {d : Option Addr} (hm : (a, ob) ∈ X.pn) (z : Zc cls d ob) (hd : ∃ us, ob.data = .fields us) : CallR X (.builtin "isinstance") (rIsP X.K a cls d) := by
  intro pins s σ H xs us Q I r h
  obtain ⟨C, dx, fs, c, cv, b, rfl, rfl, rfl, E, ed, k, e, q⟩ := h
  obtain ⟨u1, u2, rfl, r1, r2⟩ := vals2 r
  cases (show u1 = Value.ref a from r1)
  have ec := k.eq r2
  subst ec
  obtain ⟨vs, z3⟩ := hd
  have e1 := (I.pin (a, ob) (List.mem_append_left _ hm)).1
  obtain ⟨od, J, Z⟩ := isz_go I e1 z z3 E ed
  exact PySem.W.kia_one Z I.kIn J e (fun z => nomatch z) fun tk => ⟨.bl b, H, I.tok tk, rfl, q⟩
/-- isinstance(e, (c, ..)) inside the suite -/
def rIsPT (K : PySem.W.Frag) (a : Addr) (cls : Value) (d : Option Addr) : List V → Hp → VK → Prop := fun xs H Q => ∃ (C dx tp : Addr) (fs : List (Str × V)) (cs : List V) (us : List Value) (b : Bool), xs = [.ref a, .ref tp] ∧ cls = .ref C ∧ d = some dx ∧ ExcC K C ∧ H dx = some (.xd fs) ∧ H tp = some (.tup cs) ∧ Paired ClsV cs us ∧ PySem.W.kitAny K (.ref C) us = some b ∧ Q (.bl b) H
theorem call_isPT {a : Addr} {ob : Obj} {cls : Value} {d : Option Addr} (hm : (a, ob) ∈ X.pn) (z : Zc cls d ob) (hd : ∃ us, ob.data = .fields us) : CallR X (.builtin "isinstance") (rIsPT X.K a cls d) := by
  intro pins s σ H xs us Q I r h
  obtain ⟨C, dx, tp, fs, cs, ws, b, rfl, rfl, rfl, E, ed, hT, k, e, q⟩ := h
  obtain ⟨u1, u2, rfl, r1, r2⟩ := vals2 r
  cases (show u1 = Value.ref a from r1)
  cases (show u2 = Value.ref tp from r2)
  obtain ⟨vs, z3⟩ := hd
  have e1 := (I.pin (a, ob) (List.mem_append_left _ hm)).1
  obtain ⟨od, J, Z⟩ := isz_go I e1 z z3 E ed
  exact isz_tup I J Z hT k e fun tk => ⟨.bl b, H, I.tok tk, rfl, q⟩
/-- e.f inside the suite -/
def tExpf (K : PySem.W.Frag) (a : Addr) (cls : Value) (d : Option Addr) (n : Str) (te : TE) : TE := fun σ H Q => te σ H fun x H1 => ∃ (C dx : Addr) (fs : List (Str × V)) (v : V), x = .ref a ∧ cls = .ref C ∧ d = some dx ∧ XfC K C ∧ PySem.W.findIn K (.ref C) n = some none ∧ H1 dx = some (.xd fs) ∧ fs.lookup n = some v ∧ Q v H1
theorem pe_expf {a : Addr} {ob : Obj} {cls : Value} {d : Option Addr} (hm : (a, ob) ∈ X.pn) (z : Zc cls d ob) (hd : ∃ us, ob.data = .fields us) {e : Expr} {te : TE} {n : Str} {pos : Pos} (he : PE X e te) (hb : attributeBase e n X.env (eval e X.env) = eval e X.env := by rfl) : PE X (.Attribute e n pos) (tExpf X.K a cls d n te) := by
  constructor
  intro pins s σ H Q I h
  refine attr_of hb (thn (he.run pins s σ H _ I h) fun u s1 hh => ?_)
  obtain ⟨x, H1, I1, rx, C, dx, fs, v, ex, rfl, rfl, T, hno, ed, l, q⟩ := hh
  subst ex
  obtain rfl : u = Value.ref a := rx
  obtain ⟨vs, z3⟩ := hd
  have e1 := (I1.pin (a, ob) (List.mem_append_left _ hm)).1
  obtain ⟨mA, ns, hr⟩ := xd_at I1.hok ed
  obtain ⟨od, ho, hl⟩ := lookIn_ns ns
  obtain ⟨u, hu, ru⟩ := RelO.some_of (v := v) (o := mA n) (by rw [← l]; exact hr n)
  have J : PySem.W.InstAt s1.heap a ob C (some od) := ⟨e1, z.1, by unfold PySem.W.notCls; rw [z3], by rw [z.2]; exact ho⟩
  refine HandSPX.exc_get I1.kIn J T.ga T.gg T.exC (PySem.W.findObj_own T.hdC hno rfl (by rw [hl, hu])) (handed_of ru) ⟨v, H1, I1.tok _, ru, q⟩
end
end Ov
namespace Ov
open PySem PySem.Spec PyProof.Rows L2
def top (i : Nat) : Stmt := PySem.Challenge.pw_overlapcode_k05_lengths_of_any_values.main.body.getD i (.Pass ⟨0, 0, 0, 0⟩)
abbrev sIsInt : Stmt := top 1
abbrev sBetween : Stmt := top 2
abbrev sAscending : Stmt := top 3
abbrev cOverlapError : Stmt := top 5
abbrev cInvalidEntry : Stmt := top 6
abbrev cInvalidOffset : Stmt := top 7
abbrev cInvalidLengths : Stmt := top 8
abbrev cInvalidCountdowns : Stmt := top 9
abbrev cInvalidProgram : Stmt := top 10
abbrev cInvalidEntries : Stmt := top 11
abbrev cInvalidNumber : Stmt := top 12
abbrev cInvalidCode : Stmt := top 13
abbrev cInvalidTimes : Stmt := top 14
abbrev sCommon : Stmt := top 18
abbrev sIsSum : Stmt := top 19
abbrev sLeast : Stmt := top 20
abbrev sConductor : Stmt := top 21
abbrev sGap : Stmt := top 22
abbrev sParts : Stmt := top 23
abbrev sCheck : Stmt := top 24
abbrev sAre : Stmt := top 25
abbrev sGcd : Stmt := top 26
abbrev sWith : Stmt := top 27
abbrev sReached : Stmt := top 28
abbrev sCounts : Stmt := top 29
abbrev sLast : Stmt := top 30
abbrev sBox : Stmt := top 32
abbrev sTake : Stmt := top 33
abbrev sOf : Stmt := top 34
abbrev s_law_is_valid : Stmt := top 35
abbrev sDrawn : Stmt := top 36
abbrev s_law_odd : Stmt := top 37
abbrev s_law_word : Stmt := top 38
abbrev sRight : Stmt := top 39
abbrev sLaw : Stmt := top 40
end Ov
namespace Ov
open PySem PySem.Spec PyProof.Rows L2
section
variable {P : Program} {w : World} {K : PySem.W.Frag} {mg : Str → Option Value} {base : Heap}
/-! ### is_integer, is_integer_between -/
def spIsInt : Sp := fun vs H Q _ => ∃ (v : Int), vs = [.int v] ∧ Q (.bl true) H
theorem scIsInt : FnScope ["value"] ["value"] (defScope sIsInt) := ⟨rfl, rfl, rfl, by decide +kernel, rfl, by decide +kernel, by decide +kernel⟩
theorem ok_isInt {f : Addr} {fd : FuncData} {k : Nat} (F : Fun K "is_integer" "is_integer" sIsInt f fd) (T : Bi mg) : FnOk P w K mg base CX0 (k + 1) f fd ["value"] spIsInt := by
  refine F.ok scIsInt (fun vs H Q E h => ?_) (fun cdv A outer s H vs Q E hr h => ?_)
  · obtain ⟨v, rfl, _⟩ := h
    rfl
  · obtain ⟨v, rfl, q⟩ := h
    refine ⟨_, pss_one (ps_ret (pe_and (pe_callB call_isi (by rfl) T.isi (by decide +kernel) (pa_cons (pv 0) (pa_cons (pe_bltn (v := .ty "int") (u := .type "int") (by rfl) T.int (by decide +kernel) rfl) pa_nil)))
      (pe_one (pe_not (pe_callB call_isi (by rfl) T.isi (by decide +kernel) (pa_cons (pv 0) (pa_cons (pe_bltn (v := .ty "bool") (u := .type "bool") (by rfl) T.bool (by decide +kernel) rfl) pa_nil))))))), ?_⟩
    refine ⟨_, rfl, _, _, _, _, _, rfl, .ty _, .base (.int _), kit_ty (by decide +kernel : kitB "int" "int" = some true), _, rfl, iteT ?_⟩
    exact ⟨_, rfl, _, _, _, _, _, rfl, .ty _, .base (.int _), kit_ty (by decide +kernel : kitB "int" "bool" = some false), _, rfl, q⟩
def spBetween : Sp := fun vs H Q _ => ∃ (v lo hi : Int), vs = [.int v, .int lo, .int hi] ∧ lo ≤ v ∧ v ≤ hi ∧ Q (.bl true) H
theorem scBetween : FnScope ["value", "least", "most"] ["value", "least", "most"] (defScope sBetween) := ⟨rfl, rfl, rfl, by decide +kernel, rfl, by decide +kernel, by decide +kernel⟩
theorem ok_between {f fI : Addr} {fd fdI : FuncData} {k : Nat} (F : Fun K "is_integer_between" "is_integer_between" sBetween f fd) (T : Bi mg) (I : Def K mg "is_integer" sIsInt fI fdI ["value"]) : FnOk P w K mg base CX0 (k + 2) f fd ["value", "least", "most"] spBetween := by
  have GI : FnOk P w K mg base CX0 (k + 1) fI fdI ["value"] spIsInt := ok_isInt I.fn T
  refine F.ok scBetween (fun vs H Q E h => ?_) (fun cdv A outer s H vs Q E hr h => ?_)
  · obtain ⟨v, lo, hi, rfl, _⟩ := h
    rfl
  · obtain ⟨v, lo, hi, rfl, h1, h2, q⟩ := h
    refine ⟨_, pss_one (ps_ret (pe_and (pe_call GI hr (by rfl) I.gl I.fn.kp I.bi .nil pass0 (pa_cons (pv 0) pa_nil))
        (pe_one (pe_chain op_le op_le (pv 1) (pv 0) (pv 2))))), ?_⟩
    refine ⟨_, rfl, v, rfl, _, rfl, iteT ?_⟩
    refine ⟨_, rfl, _, rfl, _, _, rfl, rfl, _, rfl, ?_⟩
    rw [decide_eq_true h1]
    refine iteT ⟨_, rfl, _, _, rfl, rfl, ?_⟩
    show Q (.bl (decide (v ≤ hi))) H
    rw [decide_eq_true h2]
    exact q
/-! ### is_ascending -/
def spAscending (K : PySem.W.Frag) : Sp := fun vs H Q _ => ∃ (a : Addr) (ns : List Int), vs = [.ref a] ∧ SqT K H a (ns.map V.int) ∧ ns.length ≤ 1000 ∧ ns.Pairwise (· < ·) ∧ ∀ H', Same H H' → Q (.bl true) H'
theorem scAscending : FnScope ["numbers", "low", "high"] ["numbers"] (defScope sAscending) := ⟨rfl, rfl, rfl, by decide +kernel, rfl, by decide +kernel, by decide +kernel⟩
theorem ok_ascending {f : Addr} {fd : FuncData} {k : Nat} (F : Fun K "is_ascending" "is_ascending" sAscending f fd) (T : Bi mg) : FnOk P w K mg base CX0 (k + 1) f fd ["numbers"] (spAscending K) := by
  refine F.ok scAscending (fun vs H Q E h => ?_) (fun cdv A outer s H vs Q E hr h => ?_)
  · obtain ⟨a, ns, rfl, _⟩ := h
    rfl
  · obtain ⟨a, ns, rfl, hS, hlen, hasc, q⟩ := h
    refine ⟨_, pss_one (ps_ret (pe_callB (cr_all rfl) (by rfl) T.all (by decide +kernel) (pa_cons
      (pe_lc (own := [("low", 1), ("high", 2)]) (g := gTup K 2 (gCons (gName 1) (gCons (gName 2) gNil))) (tt := tYes) (by rfl) scAscending.nd (RZ.pi_zipA (by rfl) T.zip (pa_cons (pv 0) (pa_cons (pe_slice sl_tupA (pv 0) (po_some pe_int) po_none) pa_nil)))
        (blkOk_by (own := [("low", 1), ("high", 2)]) (N := ["numbers", "low", "high"]) (sc := defScope sAscending) (by decide +kernel))
        (fun _ _ _ _ _ => pg_tup rfl (pgs_cons (pg_name (i := 1) scAscending.nd rfl (Or.inl rfl)) (pgs_cons (pg_name (i := 2) scAscending.nd rfl (Or.inl rfl)) pgs_nil)))
        (fun _ _ _ _ _ => pts_nil) (fun _ _ _ _ _ => pe_cmpR op_lt (pv 1) (pv 2) (nomark _))) pa_nil))), ?_⟩
    -- zip(numbers, numbers[1:])
    refine ⟨_, rfl, _, rfl, 1, rfl, a, ns.map V.int, rfl, hS, fun hw => ?_, fun hw c nc => ?_⟩
    · have e0 : ns = [] := List.map_eq_nil_iff.mp (cut1_whole hw)
      subst e0
      refine ⟨a, a, [], [], rfl, .inr ⟨hS, hS, fun D nD => lc_it (walk_zipT (xs := []) (ys := []) rfl) (fun i H2 => i = 0 ∧ Mk H H2 D []) ⟨rfl, .start nD⟩ (fun i H2 _ p => ⟨p.2.same.tup hS, p.2.same.tup hS⟩) (fun i x H2 H3 hi => absurd hi (by show ¬ i < 0; omega)) (fun H2 p => ?_)⟩⟩
      exact ⟨D, [], rfl, .inl (.inl p.2.at_), q H2 p.2.same⟩
    · have s1 : Same H (upd H c (.tup (cutV (ns.map V.int) (some 1) none))) := same_upd nc
      have hc : SqT K (upd H c (.tup (cutV (ns.map V.int) (some 1) none))) c ((ns.drop 1).map V.int) := .inl (.inl (by rw [upd_same, cut1, List.map_drop]))
      refine ⟨a, c, ns.map V.int, (ns.drop 1).map V.int, rfl, .inr ⟨s1.tup hS, hc, fun D nD => lc_it (walk_zipT (xs := ns.map V.int) (ys := (ns.drop 1).map V.int) rfl)
        (fun i H2 => Mk (upd H c (.tup (cutV (ns.map V.int) (some 1) none))) H2 D ((List.replicate i true).map V.bl)) (.start nD) (fun i H2 _ p => ⟨p.same.tup (s1.tup hS), p.same.tup hc⟩) (fun i x H2 H3 hi p y => ?_) (fun H2 p => ?_)⟩⟩
      · obtain ⟨t, x1, x2, rfl, nt, rfl, f1, f2⟩ := y
        have hi' : i < min ns.length (ns.length - 1) := by simpa using hi
        have h1 : i < ns.length := by omega
        have h2 : i + 1 < ns.length := by omega
        have e1 : x1 = .int ns[i] := by
          have : (ns.map V.int)[i]? = some x1 := f1
          rw [List.getElem?_map, List.getElem?_eq_getElem h1] at this
          exact (Option.some.inj this).symm
        have e2 : x2 = .int ns[i + 1] := by
          have : ((ns.drop 1).map V.int)[i]? = some x2 := f2
          rw [List.getElem?_map, List.getElem?_drop, Nat.add_comm 1 i, List.getElem?_eq_getElem h2] at this
          exact (Option.some.inj this).symm
        have hlt : ns[i] < ns[i + 1] := List.pairwise_iff_getElem.mp hasc i (i + 1) h1 h2 (by omega)
        refine ⟨t, [x1, x2], rfl, .inl (.inl upd_same), rfl, x1, [x2], rfl, x2, [], rfl, rfl, rfl, x1, rfl, x2, rfl, _, _, e1, e2, _, (by rw [upd_ne (ne_of_none p.at_ nt)]; exact p.at_), (by rw [List.length_map, List.length_replicate]; exact small1000 (by omega)), ?_⟩
        show Mk _ (upd _ D (.lst (_ ++ [V.bl (decide (ns[i] < ns[i + 1]))]))) D _
        rw [decide_eq_true hlt, List.replicate_succ', List.map_append]
        exact p.put (same_upd nt)
      · refine ⟨D, _, rfl, .inl (.inl p.at_), ?_⟩
        rw [all_true]
        exact q H2 (s1.trans p.same)
end
end Ov
namespace Ov
open PySem PySem.Spec PyProof.Rows L2
section
variable {P : Program} {w : World} {K : PySem.W.Frag} {mg : Str → Option Value} {base : Heap}
/-- lengths that are valid -/
structure Lens (ns : List Int) : Prop where
  few : ns.length ≤ 50
  low : ∀ n ∈ ns, 1 ≤ n ∧ n ≤ 1000
  asc : ns.Pairwise (· < ·)
/-! ### are_lengths -/
def spAre : Sp := fun vs H Q _ => ∃ (a : Addr) (ns : List Int), vs = [.ref a] ∧ H a = some (.tup (ns.map V.int)) ∧ Lens ns ∧ ∀ H', Same H H' → Q (.bl true) H'
theorem scAre : FnScope ["value", "item"] ["value"] (defScope sAre) := ⟨rfl, rfl, rfl, by decide +kernel, rfl, by decide +kernel, by decide +kernel⟩
theorem ok_are {f fB fA : Addr} {fd fdB fdA : FuncData} {k : Nat} (F : Fun K "are_lengths" "are_lengths" sAre f fd) (T : Bi mg)
    (B : Def K mg "is_integer_between" sBetween fB fdB ["value", "least", "most"]) (GB : FnOk P w K mg base CX0 (k + 1) fB fdB ["value", "least", "most"] spBetween) (A : Def K mg "is_ascending" sAscending fA fdA ["numbers"]) (m1 : ∃ t, mg "MOST_LENGTHS" = some (.int 50 t)) (m2 : ∃ t, mg "GREATEST_LENGTH" = some (.int 1000 t)) :
    FnOk P w K mg base CX0 (k + 2) f fd ["value"] spAre := by
  have GA : FnOk P w K mg base CX0 (k + 1) fA fdA ["numbers"] (spAscending K) := ok_ascending A.fn T
  obtain ⟨t1, m1⟩ := m1
  obtain ⟨t2, m2⟩ := m2
  refine F.ok scAre (fun vs H Q E h => ?_) (fun cdv A' outer s H vs Q E hr h => ?_)
  · obtain ⟨a, ns, rfl, _⟩ := h
    rfl
  · obtain ⟨a, ns, rfl, hS, L, q⟩ := h
    refine ⟨_, pss_cons (ps_if (PW.pt (pw_or (pt_not (pt_val (pe_callB call_isi (by rfl) T.isi (by decide +kernel) (pa_cons (pv 0) (pa_cons (pe_bltn (v := .ty "tuple") (u := .type "tuple") (by rfl) T.tuple (by decide +kernel) rfl) pa_nil)))))
        (pw_or1 (pt_cmpR op_gt (pe_callB call_len_seq (by rfl) T.len PySem.boot_len (pa_cons (pv 0) pa_nil)) (pe_glob (v := .int 50) (by rfl) m1 ⟨_, rfl⟩) (nomark _))))) (pss_one (ps_ret pe_bl)) pss_nil)
      (pss_one (ps_ret (pe_and (pe_callB (cr_all rfl) (by rfl) T.all (by decide +kernel) (pa_cons
        (pe_lc (own := [("item", 1)]) (g := gName 1) (tt := tYes) (by rfl) scAre.nd (pi_tup (pv 0))
          (blkOk_by (own := [("item", 1)]) (N := ["value", "item"]) (sc := defScope sAre) (by decide +kernel))
          (fun _ _ _ _ _ => pg_name (i := 1) scAre.nd rfl (Or.inl rfl))
          (fun _ _ _ _ _ => pts_nil) (fun _ _ _ _ _ => pe_call GB hr (by rfl) B.gl B.fn.kp B.bi .nil pass0 (pa_cons (pv 1) (pa_cons pe_int (pa_cons (pe_glob (v := .int 1000) (by rfl) m2 ⟨_, rfl⟩) pa_nil))))) pa_nil))
        (pe_one (pe_call GA hr (by rfl) A.gl A.fn.kp A.bi .nil pass0 (pa_cons (pv 0) pa_nil)))))), ?_⟩
    refine ⟨_, rfl, _, _, _, _, _, rfl, .ty _, .base (.tup hS), kit_ty (by decide +kernel : kitB "tuple" "tuple" = some true), _, rfl, ?_⟩
    refine iteF ⟨_, rfl, a, _, rfl, .inr (SqT.of hS), _, _, rfl, rfl, _, rfl, ?_⟩
    rw [List.length_map, decide_eq_false (by have := L.few; omega)]
    refine iteF ?_
    refine ⟨_, rfl, a, rfl, ⟨_, SqT.of hS⟩, fun D nD => lc_tup (K := K) (a := a) (xs := ns.map V.int) (fun i H2 => Mk H H2 D ((List.replicate i true).map V.bl)) (.start nD) (fun i H2 _ p => p.same.tup (SqT.of hS)) ?_ ?_⟩
    · intro i x H2 hx p
      have hi : i < ns.length := by
        have := (List.getElem?_eq_some_iff.mp hx).1
        rwa [List.length_map] at this
      have ex : x = .int ns[i] := by
        rw [List.getElem?_map, List.getElem?_eq_getElem hi] at hx
        exact (Option.some.inj hx).symm
      have hb := L.low _ (List.getElem_mem hi)
      refine ⟨rfl, x, rfl, ns[i], 1, 1000, ?_, hb.1, hb.2, _, p.at_, (by rw [List.length_map, List.length_replicate]; exact small1000 (by have := L.few; omega)), ?_⟩
      · rw [ex]; rfl
      · rw [List.replicate_succ', List.map_append]
        exact p.put (Same.refl _)
    · intro H2 p
      refine ⟨D, _, rfl, SqL.of p.at_, _, rfl, ?_⟩
      rw [all_true]
      refine iteT ⟨_, rfl, a, ns, rfl, p.same.tup (SqT.of hS), by have := L.few; omega, L.asc, fun H3 s3 => q H3 (p.same.trans s3)⟩
end
end Ov
namespace Ov
open PySem PySem.Spec PyProof.Rows L2
section
variable {P : Program} {w : World} {K : PySem.W.Frag} {mg : Str → Option Value} {base : Heap}
/-! ### check_lengths -/
def spCheck : Sp := fun vs H Q _ => ∃ (a : Addr) (ns : List Int), vs = [.ref a] ∧ H a = some (.tup (ns.map V.int)) ∧ Lens ns ∧ ∀ H', Same H H' → Q .non H'
theorem scCheck : FnScope ["lengths"] ["lengths"] (defScope sCheck) := ⟨rfl, rfl, rfl, by decide +kernel, rfl, by decide +kernel, by decide +kernel⟩
theorem ok_check {f fA : Addr} {fd fdA : FuncData} {k : Nat} (F : Fun K "check_lengths" "check_lengths" sCheck f fd) (A : Def K mg "are_lengths" sAre fA fdA ["value"]) (GA : FnOk P w K mg base CX0 k fA fdA ["value"] spAre) :
    FnOk P w K mg base CX0 (k + 1) f fd ["lengths"] spCheck := by
  refine F.ok scCheck (fun vs H Q E h => ?_) (fun cdv A' outer s H vs Q E hr h => ?_)
  · obtain ⟨a, ns, rfl, _⟩ := h
    rfl
  · obtain ⟨a, ns, rfl, hS, L, q⟩ := h
    refine ⟨_, pss_one (ps_if (pt_not (pt_val (pe_call GA hr (by rfl) A.gl A.fn.kp A.bi .nil pass0 (pa_cons (pv 0) pa_nil)))) (pss_one ps_never) pss_nil), ?_⟩
    exact ⟨_, rfl, a, ns, rfl, hS, L, fun H' s' => ⟨_, rfl, iteF (q H' s')⟩⟩
/-! ### divisor_of_two -/
def spGcd : Sp := fun vs H Q _ => ∃ (m n : Nat), vs = [.int m, .int n] ∧ Q (.int (Nat.gcd m n)) H
theorem scGcd : FnScope ["first", "second"] ["first", "second"] (defScope sGcd) := ⟨rfl, rfl, rfl, by decide +kernel, rfl, by decide +kernel, by decide +kernel⟩
def secondOf : L2.St → Nat := fun σ => match σ with
  | [_, some (.int n)] => n.toNat
  | _ => 0
theorem ok_gcd {f : Addr} {fd : FuncData} {k : Nat} (F : Fun K "divisor_of_two" "divisor_of_two" sGcd f fd) : FnOk P w K mg base CX0 (k + 1) f fd ["first", "second"] spGcd := by
  refine F.ok scGcd (fun vs H Q E h => ?_) (fun cdv A' outer s H vs Q E hr h => ?_)
  · obtain ⟨m, n, rfl, _⟩ := h
    rfl
  · obtain ⟨m, n, rfl, q⟩ := h
    refine ⟨_, pss_cons (ps_while PassesOwn.never (pt_cmpR op_gt (pv 1) pe_int (nomark _))
      (pss_one (ps_par (i := 0) (j := 1) (by rfl) scGcd.nd rfl rfl (by decide) rfl rfl (pa_cons (pv 1) (pa_cons (pe_op op_mod (pv 0) (pv 1)) pa_nil)) (by rfl))))
      (pss_one (ps_ret (pv 0))), ?_⟩
    refine while_by (fun σ H2 => H2 = H ∧ ∃ (x y : Nat), σ = [some (.int x), some (.int y)] ∧ Nat.gcd x y = Nat.gcd m n) (fun σ _ => secondOf σ) ⟨rfl, m, n, rfl, rfl⟩ ?_ ?_
    · rintro σ H2 ⟨rfl, x, y, rfl, e⟩
      refine ⟨_, rfl, _, _, rfl, rfl, _, rfl, ?_⟩
      by_cases hy : (y : Int) > 0
      · rw [decide_eq_true hy]
        refine iteT ⟨_, rfl, _, rfl, _, rfl, _, _, rfl, rfl, hy, _, _, rfl, ⟨rfl, y, x % y, rfl, ?_⟩, ?_⟩
        · rw [← e, Nat.gcd_comm x y, Nat.gcd_rec y x, Nat.gcd_comm]
        · show ((x : Int) % (y : Int)).toNat < (y : Int).toNat
          have : (x : Int) % (y : Int) = ((x % y : Nat) : Int) := by simp
          rw [this, Int.toNat_natCast, Int.toNat_natCast]
          exact Nat.mod_lt x (show 0 < y by omega)
      · rw [decide_eq_false hy]
        have y0 : y = 0 := by omega
        subst y0
        rw [Nat.gcd_zero_right] at e
        refine iteF ⟨_, rfl, ?_⟩
        rw [e]
        exact q
    · rintro σ H2 Q1 Q2 hQ ⟨v, h1, i, j, h2, h3, b, h4, h5⟩
      exact ⟨v, h1, i, j, h2, h3, b, h4, hQ _ _ h5⟩
end
end Ov
namespace Ov
open PySem PySem.Spec PyProof.Rows L2
/-- a least sum as a value -/
def optV : Option Nat → V
  | none => .non
  | some x => .int x
theorem relax_none {L r f : Nat} {a : List (Option Nat)} (h : a.getD r none = none) : relax L r f a = a := by
  unfold relax; rw [h]
theorem relax_new {L r f x : Nat} {a : List (Option Nat)} (h : a.getD r none = some x) (h2 : a.getD f none = none) : relax L r f a = a.set f (some (x + L)) := by
  unfold relax; simp only [h, h2]
theorem relax_lt {L r f x y : Nat} {a : List (Option Nat)} (h : a.getD r none = some x) (h2 : a.getD f none = some y) (c : x + L < y) : relax L r f a = a.set f (some (x + L)) := by
  unfold relax; simp only [h, h2]; exact if_pos c
theorem relax_ge {L r f x y : Nat} {a : List (Option Nat)} (h : a.getD r none = some x) (h2 : a.getD f none = some y) (c : ¬ x + L < y) : relax L r f a = a := by
  unfold relax; simp only [h, h2]; exact if_neg c
theorem at_opt {a : List (Option Nat)} {r : Nat} {o : Option Nat} (hr : r < a.length) (h : a.getD r none = o) : (a.map optV)[r]? = some (optV o) := by
  rw [List.getElem?_map, List.getElem?_eq_getElem hr]
  rw [List.getD_eq_getElem?_getD, List.getElem?_eq_getElem hr] at h
  show some (optV a[r]) = _
  rw [show a[r] = o from h]
theorem set_opt (a : List (Option Nat)) (f z : Nat) : (a.map optV).set f (.int ((z : Nat) : Int)) = (a.set f (some z)).map optV := by
  rw [List.map_set]; rfl
section
variable {P : Program} {w : World} {K : PySem.W.Frag} {mg : Str → Option Value} {base : Heap}
/-! ### with_length -/
def spWith : Sp := fun vs H Q _ => ∃ (l : Addr) (a : List (Option Nat)) (L : Nat), vs = [.ref l, .int L] ∧ H l = some (.lst (a.map optV)) ∧ 0 < a.length ∧ a.length ≤ 1000 ∧ 0 < L ∧ L ≤ 1000 ∧
  ∀ H' p, Same H H' → H p = none → H' p = some (.lst ((withLen L a).map optV)) → Q (.ref p) H'
theorem scWith : FnScope ["least", "length", "lowered", "divisor", "steps", "first", "remainder", "step", "following", "reached"] ["least", "length"] (defScope sWith) := ⟨rfl, rfl, rfl, by decide +kernel, rfl, by decide +kernel, by decide +kernel⟩
theorem ok_with {f fG : Addr} {fd fdG : FuncData} {k : Nat} (F : Fun K "with_length" "with_length" sWith f fd) (T : Bi mg) (G : Def K mg "divisor_of_two" sGcd fG fdG ["first", "second"]) :
    FnOk P w K mg base CX0 (k + 2) f fd ["least", "length"] spWith := by
  have GG : FnOk P w K mg base CX0 (k + 1) fG fdG ["first", "second"] spGcd := ok_gcd G.fn
  refine F.ok scWith (fun vs H Q E h => ?_) (fun cdv A' outer s H vs Q E hr h => ?_)
  · obtain ⟨l, a, L, rfl, _⟩ := h
    rfl
  · obtain ⟨l, a, L, rfl, hl, hm, hm2, hL, hL2, q⟩ := h
    refine ⟨_, pss_cons (ps_set (i := 2) scWith.nd rfl (.inl rfl) (pe_callTy call_list_of (by rfl) T.list (by decide +kernel) (pa_cons (pv 0) pa_nil)))
      (pss_cons (ps_set (i := 3) scWith.nd rfl (.inl rfl) (pe_call GG hr (by rfl) G.gl G.fn.kp G.bi .nil pass0 (pa_cons (pe_callB call_len_seq (by rfl) T.len PySem.boot_len (pa_cons (pv 0) pa_nil)) (pa_cons (pv 1) pa_nil))))
      (pss_cons (ps_set (i := 4) scWith.nd rfl (.inl rfl) (pe_op op_mul pe_int (pe_op op_fdiv (pe_callB call_len_seq (by rfl) T.len PySem.boot_len (pa_cons (pv 0) pa_nil)) (pv 3))))
      (pss_cons (ps_for PassesOwn.never rfl (pi_range1 (by rfl) T.range (pa_cons (pv 3) pa_nil)) (pg_name (i := 5) scWith.nd rfl (.inl rfl))
        (pss_cons (ps_set (i := 6) scWith.nd rfl (.inl rfl) (pv 5))
        (pss_one (ps_for PassesOwn.never rfl (pi_range1 (by rfl) T.range (pa_cons (pv 4) pa_nil)) (pg_name (i := 7) scWith.nd rfl (.inl rfl))
          (pss_cons (ps_set (i := 8) scWith.nd rfl (.inl rfl) (pe_op op_mod (pe_op op_add (pv 6) (pv 1)) (pe_callB call_len_seq (by rfl) T.len PySem.boot_len (pa_cons (pv 0) pa_nil))))
          (pss_cons (ps_if (pt_cmpR op_notN (pe_ix ix_list (pv 2) (pv 6) (fun _ _ => rfl)) pe_non (nomark _))
              (pss_cons (ps_set (i := 9) scWith.nd rfl (.inl rfl) (pe_op op_add (pe_ix ix_list (pv 2) (pv 6) (fun _ _ => rfl)) (pv 1)))
              (pss_one (ps_if (PW.pt (pw_or (pt_cmpR op_isN (pe_ix ix_list (pv 2) (pv 8) (fun _ _ => rfl)) pe_non (nomark _)) (pw_or1 (pt_cmpR op_lt (pv 9) (pe_ix ix_list (pv 2) (pv 8) (fun _ _ => rfl)) (nomark _)))))
                (pss_one (ps_asg (pv 9) (pg_sub (pv 2) (pv 8) set_list))) pss_nil))) pss_nil)
          (pss_one (ps_set (i := 6) scWith.nd rfl (.inl rfl) (pv 8)))))))))
      (pss_one (ps_ret (pv 2)))))), ?_⟩
    -- lowered = list(least)
    refine ⟨_, rfl, l, _, rfl, .inl (SqL.of hl), fun p np => ?_⟩
    have s1 : Same H (upd H p (.lst (a.map optV))) := same_upd np
    -- divisor
    refine ⟨_, rfl, l, _, rfl, .inl (SqL.of (s1 _ _ hl)), _, rfl, a.length, L, (by rw [List.length_map]; rfl), ?_⟩
    have hg : 0 < Nat.gcd a.length L := Nat.gcd_pos_of_pos_left _ hm
    have hg2 : Nat.gcd a.length L ≤ a.length := Nat.le_of_dvd hm (Nat.gcd_dvd_left _ _)
    -- steps
    refine ⟨_, rfl, l, _, rfl, .inl (SqL.of (s1 _ _ hl)), _, rfl, _, _, rfl, rfl, ⟨by omega, by omega⟩, _, _, rfl, rfl, .inl ⟨by decide, by decide⟩, ?_⟩
    have eT : (2 : Int) * (((a.map optV).length : Int) / (Nat.gcd a.length L : Nat)) = ((2 * (a.length / Nat.gcd a.length L) : Nat) : Int) := by
      rw [List.length_map]; simp
    have hT2 : 2 * (a.length / Nat.gcd a.length L) ≤ 2000 := by
      have := Nat.div_le_self a.length (Nat.gcd a.length L)
      omega
    generalize hTe : 2 * (a.length / Nat.gcd a.length L) = T2 at *
    dsimp only
    rw [eT]
    -- for first in range(divisor)
    refine ⟨_, rfl, _, rfl, by omega, by omega, for_range (lo := 0) (fun i σ H2 => ∃ y5 y6 y7 y8 y9, σ = [some (.ref l), some (.int L), some (.ref p), some (.int (Nat.gcd a.length L : Nat)), some (.int (T2 : Nat)), y5, y6, y7, y8, y9] ∧ Same H H2 ∧ H2 p = some (.lst ((walks L a.length T2 i a).map optV)))
      ⟨none, none, none, none, none, rfl, s1, upd_same⟩ ?_ ?_⟩
    · rintro i σ H2 hi ⟨y5, y6, y7, y8, y9, rfl, s2, h2⟩
      have hi' : i < Nat.gcd a.length L := by simpa using hi
      have him : i < a.length := by omega
      -- remainder = first
      refine ⟨_, rfl, ?_⟩
      refine ⟨_, rfl, _, rfl, by omega, by omega, for_range (lo := 0) (fun t σ H3 => ∃ y7 y8 y9, σ = [some (.ref l), some (.int L), some (.ref p), some (.int (Nat.gcd a.length L : Nat)), some (.int (T2 : Nat)), some (.int (0 + (i : Int))), some (.int ((steps L a.length t i (walks L a.length T2 i a)).2 : Nat)), y7, y8, y9] ∧ Same H H3 ∧ H3 p = some (.lst ((steps L a.length t i (walks L a.length T2 i a)).1.map optV)))
        ⟨y7, y8, y9, ?_, s2, h2⟩ ?_ ?_⟩
      · show [some _, some _, some _, some _, some _, some _, some (V.int (0 + (i : Int))), _, _, _] = _
        rw [Int.zero_add]; rfl
      · rintro t σ H3 ht ⟨y7, y8, y9, rfl, s3, h3⟩
        generalize hq : steps L a.length t i (walks L a.length T2 i a) = qq at *
        have hlen : qq.1.length = a.length := by
          rw [← hq]
          exact (steps_le ..).1.trans (walks_le ..).1
        have hr : qq.2 < a.length := by
          rw [← hq, steps_at _ _ _ _ him]
          exact Nat.mod_lt _ hm
        have hl3 := s3 _ _ hl
        -- following
        refine ⟨_, rfl, _, rfl, _, _, rfl, rfl, _, rfl, l, _, rfl, .inl (SqL.of hl3), _, _, rfl, rfl, (by rw [List.length_map]; omega), ?_⟩
        have ef : ((qq.2 : Nat) : Int) + (L : Int) = ((qq.2 + L : Nat) : Int) := by simp
        have ef2 : (((qq.2 : Nat) : Int) + (L : Int)) % (((a.map optV).length : Nat) : Int) = (((qq.2 + L) % a.length : Nat) : Int) := by
          rw [List.length_map]; simp
        dsimp only
        rw [ef2]
        have hf : (qq.2 + L) % a.length < qq.1.length := by rw [hlen]; exact Nat.mod_lt _ hm
        have hst : steps L a.length (t + 1) i (walks L a.length T2 i a) = (relax L qq.2 ((qq.2 + L) % a.length) qq.1, (qq.2 + L) % a.length) := by
          show (relax L (steps L a.length t i (walks L a.length T2 i a)).2 _ _, _) = _
          rw [hq]
        generalize hfe : (qq.2 + L) % a.length = ff at *
        -- if lowered[remainder] is not None
        have hr' : qq.2 < qq.1.length := by rw [hlen]; exact hr
        cases eo : qq.1.getD qq.2 none with
        | none =>
          refine ⟨_, rfl, _, rfl, p, _, _, _, rfl, rfl, SqL.of h3, atI_nat (at_opt hr' eo), rfl, _, rfl, ?_⟩
          refine iteF ⟨_, rfl, ?_⟩
          rw [hst, relax_none eo]
          exact ⟨_, _, _, rfl, s3, h3⟩
        | some x =>
          refine ⟨_, rfl, _, rfl, p, _, _, _, rfl, rfl, SqL.of h3, atI_nat (at_opt hr' eo), rfl, _, rfl, ?_⟩
          refine iteT ⟨_, rfl, _, rfl, p, _, _, _, rfl, rfl, SqL.of h3, atI_nat (at_opt hr' eo), _, rfl, _, _, rfl, rfl, ?_⟩
          have ex : (x : Int) + (L : Int) = ((x + L : Nat) : Int) := by simp
          cases eo2 : qq.1.getD ff none with
          | none =>
            refine ⟨_, rfl, _, rfl, p, _, _, _, rfl, rfl, SqL.of h3, atI_nat (at_opt hf eo2), rfl, _, rfl, ?_⟩
            refine iteT ⟨_, rfl, _, rfl, _, rfl, p, _, _, ff, rfl, rfl, h3, (by rw [List.length_map]; exact ixN_at hf), ?_⟩
            refine ⟨_, rfl, ?_⟩
            rw [hst, relax_new eo eo2]
            refine ⟨_, _, _, rfl, fun b o e => ?_, ?_⟩
            · rw [upd_ne (ne_of_none e np)]
              exact s3 b o e
            · rw [upd_same]
              show some (HO.lst ((qq.1.map optV).set ff (V.int ((x : Int) + (L : Int))))) = _
              rw [ex, set_opt]
          | some y =>
            refine ⟨_, rfl, _, rfl, p, _, _, _, rfl, rfl, SqL.of h3, atI_nat (at_opt hf eo2), rfl, _, rfl, ?_⟩
            refine iteF ⟨_, rfl, _, rfl, _, rfl, p, _, _, _, rfl, rfl, SqL.of h3, atI_nat (at_opt hf eo2), _, _, rfl, rfl, _, rfl, ?_⟩
            by_cases c : x + L < y
            · rw [decide_eq_true (show (x : Int) + (L : Int) < (y : Int) by omega)]
              refine iteT ⟨_, rfl, _, rfl, _, rfl, p, _, _, ff, rfl, rfl, h3, (by rw [List.length_map]; exact ixN_at hf), ?_⟩
              refine ⟨_, rfl, ?_⟩
              rw [hst, relax_lt eo eo2 c]
              refine ⟨_, _, _, rfl, fun b o e => ?_, ?_⟩
              · rw [upd_ne (ne_of_none e np)]
                exact s3 b o e
              · rw [upd_same]
                show some (HO.lst ((qq.1.map optV).set ff (V.int ((x : Int) + (L : Int))))) = _
                rw [ex, set_opt]
            · rw [decide_eq_false (show ¬ (x : Int) + (L : Int) < (y : Int) by omega)]
              refine iteF ⟨_, rfl, ?_⟩
              rw [hst, relax_ge eo eo2 c]
              exact ⟨_, _, _, rfl, s3, h3⟩
      · rintro σ H3 ⟨y7, y8, y9, rfl, s3, h3⟩
        refine ⟨_, _, _, _, _, rfl, s3, ?_⟩
        exact h3
    · rintro σ H2 ⟨y5, y6, y7, y8, y9, rfl, s2, h2⟩
      refine ⟨_, rfl, q H2 p s2 np ?_⟩
      rw [h2]
      unfold withLen
      rw [hTe]
      simp
end
end Ov
namespace Ov
open PySem PySem.Spec PyProof.Rows L2
theorem fold_len (R : List Nat) : ∀ a : List (Option Nat), (R.foldl (fun a L => withLen L a) a).length = a.length := by
  induction R with
  | nil => intro a; rfl
  | cons L R ih => intro a; rw [List.foldl_cons, ih, withLen_len]
section
variable {P : Program} {w : World} {K : PySem.W.Frag} {mg : Str → Option Value} {base : Heap}
/-! ### least_sums -/
def spLeast : Sp := fun vs H Q _ => ∃ (a : Addr) (ns : List Int), vs = [.ref a] ∧ H a = some (.tup (ns.map V.int)) ∧ Lens ns ∧
  ∀ H' p, Same H H' → H p = none → H' p = some (.tup ((leasts (ns.map Int.toNat)).map optV)) → Q (.ref p) H'
theorem scLeast : FnScope ["lengths", "least", "length"] ["lengths"] (defScope sLeast) := ⟨rfl, rfl, rfl, by decide +kernel, rfl, by decide +kernel, by decide +kernel⟩
theorem ok_least {f fC fW : Addr} {fd fdC fdW : FuncData} {k : Nat} (F : Fun K "least_sums" "least_sums" sLeast f fd) (T : Bi mg)
    (C : Def K mg "check_lengths" sCheck fC fdC ["lengths"]) (GC : FnOk P w K mg base CX0 k fC fdC ["lengths"] spCheck)
    (W : Def K mg "with_length" sWith fW fdW ["least", "length"]) (GW : FnOk P w K mg base CX0 k fW fdW ["least", "length"] spWith) : FnOk P w K mg base CX0 (k + 1) f fd ["lengths"] spLeast := by
  refine F.ok scLeast (fun vs H Q E h => ?_) (fun cdv A' outer s H vs Q E hr h => ?_)
  · obtain ⟨a, ns, rfl, _⟩ := h
    rfl
  · obtain ⟨a, ns, rfl, hS, L, q⟩ := h
    refine ⟨_, pss_cons (ps_expr (pe_call GC hr (by rfl) C.gl C.fn.kp C.bi .nil pass0 (pa_cons (pv 0) pa_nil)))
      (pss_cons (ps_if (pt_cmpR op_eq (pe_callB call_len_seq (by rfl) T.len PySem.boot_len (pa_cons (pv 0) pa_nil)) pe_int (nomark _)) (pss_one (ps_ret (pe_tup pa_nil))) pss_nil)
      (pss_cons (ps_set (i := 1) scLeast.nd rfl (.inl rfl) (pe_op op_cat (pe_lst (pa_cons pe_int pa_nil)) (pe_op op_rep (pe_lst (pa_cons pe_non pa_nil)) (pe_op op_sub (pe_ix ix_tup (pv 0) pe_int (fun _ _ => rfl)) pe_int))))
      (pss_cons (ps_for PassesOwn.never rfl (pi_tup (pe_slice sl_tupA (pv 0) (po_some pe_int) po_none)) (pg_name (i := 2) scLeast.nd rfl (.inl rfl))
        (pss_one (ps_set (i := 1) scLeast.nd rfl (.inl rfl) (pe_call GW hr (by rfl) W.gl W.fn.kp W.bi .nil pass0 (pa_cons (pv 1) (pa_cons (pv 2) pa_nil))))))
      (pss_one (ps_ret (pe_callTy call_tuple_of (by rfl) T.tuple (by decide +kernel) (pa_cons (pv 1) pa_nil))))))), ?_⟩
    refine ⟨_, rfl, a, ns, rfl, hS, L, fun H1 s1 => ?_⟩
    have h1 := s1 _ _ hS
    refine ⟨_, rfl, a, _, rfl, .inr (SqT.of h1), rfl, _, rfl, ite2 (fun e => ?_) (fun e => ?_)⟩
    · have e0 : ((ns.map V.int).length : Int) = 0 := V.int.inj (of_decide_eq_true e)
      have e1 : ns = [] := by
        cases ns with
        | nil => rfl
        | cons x r => rw [List.length_map, List.length_cons] at e0; omega
      subst e1
      refine ⟨Nat.zero_le _, fun p np => q _ p (s1.trans (same_upd np)) (s1.free np) ?_⟩
      rw [upd_same]; rfl
    · obtain ⟨n0, rest, rfl⟩ : ∃ x r, ns = x :: r := by
        cases ns with
        | nil => exact absurd (decide_eq_true rfl) e
        | cons x r => exact ⟨x, r, rfl⟩
      obtain ⟨hn1, hn2⟩ := L.low n0 List.mem_cons_self
      have hrl : rest.length ≤ 50 := by have := L.few; rw [List.length_cons] at this; omega
      -- [0] + [None] * (lengths[0] - 1)
      refine ⟨by show 1 ≤ sizeLine; decide, fun p1 np1 => ⟨by show 1 ≤ sizeLine; decide, fun p2 np2 => ?_⟩⟩
      have sa : Same H1 (upd H1 p1 (.lst [.int 0])) := same_upd np1
      have sb := same_upd (o := HO.lst [V.non]) np2
      refine ⟨_, rfl, a, _, _, _, rfl, rfl, SqT.of (sb _ _ (sa _ _ h1)), atI_nat (j := 0) rfl, _, _, rfl, rfl, p2, _, _, rfl, rfl, upd_same, by omega, by omega, ?_, fun p3 np3 => ?_⟩
      · have : (n0 - 1).toNat ≤ 1000 := by omega
        show 1 * (n0 - 1).toNat ≤ sizeLine
        exact Nat.le_of_lt (small1000 (by omega))
      have sc := same_upd (o := HO.lst (List.replicate (n0 - 1).toNat [V.non]).flatten) np3
      refine ⟨p1, p3, [.int 0], _, rfl, rfl, ?_, upd_same, ?_, fun p4 np4 => ?_⟩
      · exact sc _ _ (sb _ _ upd_same)
      · rw [flat_rep, List.length_replicate]
        show 1 + (n0 - 1).toNat ≤ sizeLine
        exact Nat.le_of_lt (small1000 (by omega))
      have e4 : (([V.int 0] ++ (List.replicate (n0 - 1).toNat [V.non]).flatten)) = ((some 0 :: List.replicate (n0.toNat - 1) none : List (Option Nat)).map optV) := by
        rw [flat_rep, List.map_cons, List.map_replicate]
        show V.int 0 :: List.replicate (n0 - 1).toNat V.non = V.int ((0 : Nat) : Int) :: List.replicate (n0.toNat - 1) V.non
        rw [show (n0 - 1).toNat = n0.toNat - 1 by omega]
        rfl
      rw [e4] at *
      have sd := same_upd (o := HO.lst ((some 0 :: List.replicate (n0.toNat - 1) none : List (Option Nat)).map optV)) np4
      have s4 : Same H _ := (((s1.trans sa).trans sb).trans sc).trans sd
      have n4 : H p4 = none := (((s1.trans sa).trans sb).trans sc).free np4
      have h44 := @upd_same (upd (upd (upd H1 p1 (HO.lst [V.int 0])) p2 (HO.lst [V.non])) p3 (HO.lst (List.replicate (n0 - 1).toNat [V.non]).flatten)) p4 (HO.lst ((some 0 :: List.replicate (n0.toNat - 1) none : List (Option Nat)).map optV))
      generalize upd (upd (upd (upd H1 p1 (HO.lst [V.int 0])) p2 (HO.lst [V.non])) p3 (HO.lst (List.replicate (n0 - 1).toNat [V.non]).flatten)) p4 (HO.lst ((some 0 :: List.replicate (n0.toNat - 1) none : List (Option Nat)).map optV)) = H4 at *
      -- for length in lengths[1:]
      refine ⟨_, rfl, 1, rfl, a, _, rfl, SqT.of (s4 _ _ hS), fun hw => ?_, fun _ c nc => ?_⟩
      · have := cut1_whole hw
        simp at this
      have se := same_upd (o := HO.tup (cutV ((n0 :: rest).map V.int) (some 1) none)) nc
      have hc : SqT K (upd H4 c (HO.tup (cutV ((n0 :: rest).map V.int) (some 1) none))) c (rest.map V.int) := .inl (.inl (by rw [upd_same, cut1]; rfl))
      generalize hH5 : upd H4 c (HO.tup (cutV ((n0 :: rest).map V.int) (some 1) none)) = H5 at *
      have h54 : H5 p4 = some (.lst ((some 0 :: List.replicate (n0.toNat - 1) none : List (Option Nat)).map optV)) := se _ _ h44
      have s5 : Same H H5 := s4.trans se
      refine ⟨c, rfl, ⟨_, hc⟩, for_tup (K := K) (a := c) (xs := rest.map V.int) (fun i σ H6 => ∃ pl y, σ = [some (.ref a), some (.ref pl), y] ∧ Same H5 H6 ∧ H6 pl = some (.lst ((((rest.map Int.toNat).take i).foldl (fun a L => withLen L a) (some 0 :: List.replicate (n0.toNat - 1) none)).map optV)))
        ⟨p4, none, rfl, Same.refl _, h54⟩ (fun i σ H6 _ ⟨_, _, _, s6, _⟩ => s6.tup hc) ?_ ?_⟩
      · rintro i x σ H6 hx ⟨pl, y, rfl, s6, h6⟩
        have hi : i < rest.length := by
          have := (List.getElem?_eq_some_iff.mp hx).1
          rwa [List.length_map] at this
        have ex : x = .int rest[i] := by
          rw [List.getElem?_map, List.getElem?_eq_getElem hi] at hx
          exact (Option.some.inj hx).symm
        obtain ⟨b1, b2⟩ := L.low rest[i] (List.mem_cons_of_mem _ (List.getElem_mem hi))
        have exn : x = .int ((rest[i].toNat : Nat) : Int) := by rw [ex, Int.toNat_of_nonneg (by omega)]
        have hlen : (((rest.map Int.toNat).take i).foldl (fun a L => withLen L a) (some 0 :: List.replicate (n0.toNat - 1) none)).length = n0.toNat := by
          rw [fold_len, List.length_cons, List.length_replicate]; omega
        refine ⟨_, rfl, _, rfl, pl, _, rest[i].toNat, ?_, h6, by rw [hlen]; omega, by rw [hlen]; omega, by omega, by omega, fun H7 p7 s7 n7 h7 => ?_⟩
        · rw [exn]; rfl
        refine ⟨p7, _, rfl, s6.trans s7, ?_⟩
        have hx2 : (rest.map Int.toNat)[i]? = some rest[i].toNat := by rw [List.getElem?_map, List.getElem?_eq_getElem hi]; rfl
        rw [take_more hx2, List.foldl_append]
        exact h7
      · rintro σ H6 ⟨pl, y, rfl, s6, h6⟩
        refine ⟨_, rfl, pl, _, rfl, .inl ⟨SqL.of h6, fun p np => ?_⟩⟩
        refine q _ p ((s5.trans s6).trans (same_upd np)) ((s5.trans s6).free np) ?_
        rw [upd_same, List.take_of_length_le (by rw [List.length_map, List.length_map]; exact Nat.le_refl _)]
        rfl
end
end Ov
namespace Ov
open PySem PySem.Spec PyProof.Rows L2
section
variable {P : Program} {w : World} {K : PySem.W.Frag} {mg : Str → Option Value} {base : Heap}
/-! ### common_divisor -/
def spCommon : Sp := fun vs H Q _ => ∃ (a : Addr) (ns : List Int), vs = [.ref a] ∧ H a = some (.tup (ns.map V.int)) ∧ Lens ns ∧ ∀ H', Same H H' → Q (.int (gcdAll (ns.map Int.toNat) : Nat)) H'
theorem scCommon : FnScope ["lengths", "divisor", "length"] ["lengths"] (defScope sCommon) := ⟨rfl, rfl, rfl, by decide +kernel, rfl, by decide +kernel, by decide +kernel⟩
theorem ok_common {f fC fG : Addr} {fd fdC fdG : FuncData} {k : Nat} (F : Fun K "common_divisor" "common_divisor" sCommon f fd)
    (C : Def K mg "check_lengths" sCheck fC fdC ["lengths"]) (GC : FnOk P w K mg base CX0 (k + 1) fC fdC ["lengths"] spCheck) (G : Def K mg "divisor_of_two" sGcd fG fdG ["first", "second"]) : FnOk P w K mg base CX0 (k + 2) f fd ["lengths"] spCommon := by
  have GG : FnOk P w K mg base CX0 (k + 1) fG fdG ["first", "second"] spGcd := ok_gcd G.fn
  refine F.ok scCommon (fun vs H Q E h => ?_) (fun cdv A' outer s H vs Q E hr h => ?_)
  · obtain ⟨a, ns, rfl, _⟩ := h
    rfl
  · obtain ⟨a, ns, rfl, hS, L, q⟩ := h
    refine ⟨_, pss_cons (ps_expr (pe_call GC hr (by rfl) C.gl C.fn.kp C.bi .nil pass0 (pa_cons (pv 0) pa_nil)))
      (pss_cons (ps_set (i := 1) scCommon.nd rfl (.inl rfl) pe_int)
      (pss_cons (ps_for PassesOwn.never rfl (pi_tup (pv 0)) (pg_name (i := 2) scCommon.nd rfl (.inl rfl))
        (pss_one (ps_set (i := 1) scCommon.nd rfl (.inl rfl) (pe_call GG hr (by rfl) G.gl G.fn.kp G.bi .nil pass0 (pa_cons (pv 1) (pa_cons (pv 2) pa_nil))))))
      (pss_one (ps_ret (pv 1))))), ?_⟩
    refine ⟨_, rfl, a, ns, rfl, hS, L, fun H1 s1 => ?_⟩
    have h1 := s1 _ _ hS
    refine ⟨_, rfl, a, rfl, ⟨_, SqT.of h1⟩, for_tup (K := K) (a := a) (xs := ns.map V.int) (fun i σ H6 => H6 = H1 ∧ ∃ y, σ = [some (.ref a), some (.int (gcdAll ((ns.map Int.toNat).take i) : Nat)), y])
      ⟨rfl, none, rfl⟩ (fun i σ H6 _ ⟨e, _⟩ => by rw [e]; exact SqT.of h1) ?_ ?_⟩
    · rintro i x σ H6 hx ⟨rfl, y, rfl⟩
      have hi : i < ns.length := by
        have := (List.getElem?_eq_some_iff.mp hx).1
        rwa [List.length_map] at this
      have ex : x = .int ns[i] := by
        rw [List.getElem?_map, List.getElem?_eq_getElem hi] at hx
        exact (Option.some.inj hx).symm
      have hb := L.low _ (List.getElem_mem hi)
      have exn : x = .int ((ns[i].toNat : Nat) : Int) := by rw [ex, Int.toNat_of_nonneg (by omega)]
      refine ⟨_, rfl, _, rfl, gcdAll ((ns.map Int.toNat).take i), ns[i].toNat, ?_, rfl, ?_⟩
      · rw [exn]; rfl
      · have hx2 : (ns.map Int.toNat)[i]? = some ns[i].toNat := by rw [List.getElem?_map, List.getElem?_eq_getElem hi]; rfl
        have e : gcdAll ((ns.map Int.toNat).take (i + 1)) = Nat.gcd (gcdAll ((ns.map Int.toNat).take i)) ns[i].toNat := by
          rw [take_more hx2]
          unfold gcdAll
          rw [List.foldl_append]
          rfl
        rw [e]
        exact ⟨_, rfl⟩
    · rintro σ H6 ⟨rfl, y, rfl⟩
      refine ⟨_, rfl, ?_⟩
      rw [List.length_map, List.take_of_length_le (by rw [List.length_map]; exact Nat.le_refl _)]
      exact q _ s1
end
end Ov
namespace Ov
open PySem PySem.Spec PyProof.Rows L2
/-- a box of numbers: what is left of its own digits, a number, and how many were mixed -/
def BoxAt (H : Hp) (p : Addr) (n : Nat) : Prop := ∃ a b c : Int, H p = some (.lst [.int a, .int b, .int c]) ∧ 0 ≤ a ∧ a < 2 ^ 800 ∧ 0 ≤ b ∧ b < 2 ^ 62 ∧ 0 ≤ c ∧ c ≤ n
theorem BoxAt.mono {H : Hp} {p : Addr} {n m : Nat} (h : BoxAt H p n) (l : n ≤ m) : BoxAt H p m := by
  obtain ⟨a, b, c, e, h1, h2, h3, h4, h5, h6⟩ := h
  exact ⟨a, b, c, e, h1, h2, h3, h4, h5, by omega⟩
theorem BoxAt.same {H H' : Hp} {p : Addr} {n : Nat} (h : BoxAt H p n) (s : Same H H') : BoxAt H' p n := by
  obtain ⟨a, b, c, e, r⟩ := h
  exact ⟨a, b, c, s _ _ e, r⟩
/-- all that stood, but at p, stands -/
def But (p : Addr) (H H' : Hp) : Prop := ∀ b o, H b = some o → b ≠ p → H' b = some o
theorem But.refl (p : Addr) (H : Hp) : But p H H := fun _ _ e _ => e
theorem But.trans {p : Addr} {H H1 H2 : Hp} (a : But p H H1) (b : But p H1 H2) : But p H H2 := fun c o e n => b c o (a c o e n) n
theorem But.of {p : Addr} {H H1 : Hp} (a : Same H H1) : But p H H1 := fun c o e _ => a c o e
theorem But.free {p l : Addr} {H H' : Hp} (e : But p H H') (hp : H p ≠ none) (h : H' l = none) (hp' : H' p ≠ none) : H l = none := by
  cases q : H l with
  | none => rfl
  | some o =>
    by_cases hl : l = p
    · subst hl; exact absurd h hp'
    · rw [e l o q hl] at h; cases h
theorem BoxAt.ne {H : Hp} {p : Addr} {n : Nat} (h : BoxAt H p n) : H p ≠ none := by
  obtain ⟨a, b, c, e, _⟩ := h
  rw [e]; exact fun z => nomatch z
section
variable {P : Program} {w : World} {K : PySem.W.Frag} {mg : Str → Option Value} {base : Heap}
/-! ### _law_box -/
def spBox (K : PySem.W.Frag) : Sp := fun vs H Q _ => ∃ (a : Addr) (ns : List Int) (j : Nat), vs = [.ref a, .int j] ∧ SqL K H a (ns.map V.int) ∧ j ≤ 63 ∧ ∀ H' p, Same H H' → H p = none → BoxAt H' p 0 → Q (.ref p) H'
theorem scBox : FnScope ["_law_script", "_law_k", "_law_cell", "_law_own"] ["_law_script", "_law_k"] (defScope sBox) := ⟨rfl, rfl, rfl, by decide +kernel, rfl, by decide +kernel, by decide +kernel⟩
theorem big_pos : (0 : Int) < 10 ^ (60 : Int).toNat * 10 ^ (60 : Int).toNat * 10 ^ (60 : Int).toNat * 10 ^ (60 : Int).toNat := by decide +kernel
theorem big_lt : (10 : Int) ^ (60 : Int).toNat * 10 ^ (60 : Int).toNat * 10 ^ (60 : Int).toNat * 10 ^ (60 : Int).toNat ≤ 2 ^ 800 := by decide +kernel
/-- what is left of the text behind the cell -/
def tBoxRest : TS := tSeq (tAsg (tOp (rI CMul fun i j => .int (i * j)) (tOp (rI (fun _ j => 0 < j) fun i j => .int (i % j)) (tCB (fun xs H Q => ∃ i, xs = [.int i] ∧ Q (.int (if i < 0 then -i else i)) H) (tCons (tVar 2) tNil))
    (tOp (rI CMulW fun i j => .int (i * j)) (tOp (rI CMulW fun i j => .int (i * j)) (tOp (rI CMulW fun i j => .int (i * j)) (tOp (rI CPow fun i j => .int (i ^ j.toNat)) (tC (.int 10)) (tC (.int 60))) (tOp (rI CPow fun i j => .int (i ^ j.toNat)) (tC (.int 10)) (tC (.int 60)))) (tOp (rI CPow fun i j => .int (i ^ j.toNat)) (tC (.int 10)) (tC (.int 60)))) (tOp (rI CPow fun i j => .int (i ^ j.toNat)) (tC (.int 10)) (tC (.int 60)))))
    (tCB (fun xs H Q => (∃ i, xs = [.int i] ∧ Q (.int i) H) ∨ ∃ k, xs = [.bl k] ∧ Q (.int (if k then 1 else 0)) H) (tCons (tOp (rI0 fun i j => .bl (decide (j ≤ i))) (tCB (fun xs H Q => ∃ i, xs = [.int i] ∧ Q (.int (if i < 0 then -i else i)) H) (tCons (tVar 2) tNil)) (tOp (rI CPow fun i j => .int (i ^ j.toNat)) (tC (.int 10)) (tC (.int 18)))) tNil))) (gName 3))
  (tRet (tLst (tCons (tVar 3) (tCons (tOp (rI (fun _ j => 0 < j) fun i j => .int (i % j)) (tOp (rI CMul fun i j => .int (i * j)) (tOp (rI0 fun i j => .int (i + j)) (tOp (rI0 fun i j => .int (i + j)) (tOp (rI (fun _ j => 0 < j) fun i j => .int (i % j)) (tVar 2) (tC (.int 2305843009213693951))) (tOp (rI CMul fun i j => .int (i * j)) (tOp (rI CMul fun i j => .int (i * j)) (tC (.int 7919)) (tVar 1)) (tVar 1))) (tC (.int 43))) (tC (.int 48271))) (tC (.int 2305843009213693921))) (tCons (tC (.int 0)) tNil)))))
theorem own_ok {x : Int} (h0 : 0 ≤ x) (h1 : x < 2 ^ 800) (c : Bool) : 0 ≤ x * (if c = true then 1 else 0) ∧ x * (if c = true then 1 else 0) < 2 ^ 800 := by
  cases c
  · rw [if_neg (by decide), Int.mul_zero]
    exact ⟨by decide, by decide +kernel⟩
  · rw [if_pos rfl, Int.mul_one]
    exact ⟨h0, h1⟩
theorem bit_ok (c : Bool) : -(2 ^ 64) < (if c = true then (1 : Int) else 0) ∧ (if c = true then (1 : Int) else 0) < 2 ^ 64 := by
  cases c <;> exact ⟨by decide, by decide⟩
theorem box_rest {H : Hp} {D : Ends} {a : Addr} {j : Nat} {cell : Int} {y : Option V} (hj : j ≤ 63) (q : ∀ (H' : Hp) (p : Addr), Same H H' → H p = none → BoxAt H' p 0 → D.rt (V.ref p) H') : tBoxRest D [some (.ref a), some (.int j), some (.int cell), y] H := by
  have h60 : ((10 : Int) ^ (60 : Int).toNat).natAbs < 2 ^ 200 := by decide +kernel
  have h120 : ((10 : Int) ^ (60 : Int).toNat * 10 ^ (60 : Int).toNat).natAbs < 2 ^ 400 := by decide +kernel
  have h180 : ((10 : Int) ^ (60 : Int).toNat * 10 ^ (60 : Int).toNat * 10 ^ (60 : Int).toNat).natAbs < 2 ^ 600 := by decide +kernel
  have hp : CPow 10 60 := ⟨by decide, by decide, by decide⟩
  have hp2 : CPow 10 18 := ⟨by decide, by decide, by decide⟩
  refine ⟨_, rfl, _, rfl, _, _, rfl, rfl, hp, _, _, rfl, rfl, hp, _, _, rfl, rfl, wide_mul h60 h60 (by decide) (by decide) (by decide), _, _, rfl, rfl, hp, _, _, rfl, rfl, wide_mul h120 h60 (by decide) (by decide) (by decide), _, _, rfl, rfl, hp, _, _, rfl, rfl, wide_mul h180 h60 (by decide) (by decide) (by decide), _, _, rfl, rfl, big_pos, ?_⟩
  have hm0 : 0 ≤ (if cell < 0 then -cell else cell) % (10 ^ (60 : Int).toNat * 10 ^ (60 : Int).toNat * 10 ^ (60 : Int).toNat * 10 ^ (60 : Int).toNat) := Int.emod_nonneg _ (Int.ne_of_gt big_pos)
  have hm1 : (if cell < 0 then -cell else cell) % (10 ^ (60 : Int).toNat * 10 ^ (60 : Int).toNat * 10 ^ (60 : Int).toNat * 10 ^ (60 : Int).toNat) < 2 ^ 800 := Int.lt_of_lt_of_le (Int.emod_lt_of_pos _ big_pos) big_lt
  dsimp only
  generalize (if cell < 0 then -cell else cell) % (10 ^ (60 : Int).toNat * 10 ^ (60 : Int).toNat * 10 ^ (60 : Int).toNat * 10 ^ (60 : Int).toNat) = own at *
  refine ⟨_, rfl, _, rfl, _, _, rfl, rfl, hp2, _, _, rfl, rfl, .inr ⟨_, rfl, _, _, rfl, rfl, ?_, ?_⟩⟩
  · exact .inr (bit_ok _)
  dsimp only
  generalize decide ((10 : Int) ^ (18 : Int).toNat ≤ if cell < 0 then -cell else cell) = bb
  obtain ⟨ho0, ho1⟩ := own_ok hm0 hm1 bb
  generalize own * (if bb = true then 1 else 0) = o2 at *
  have hc0 : 0 ≤ cell % 2305843009213693951 := Int.emod_nonneg _ (by decide)
  have hc1 : cell % 2305843009213693951 < 2305843009213693951 := Int.emod_lt_of_pos _ (by decide)
  have hkk : (0 : Int) ≤ 7919 * (j : Int) * (j : Int) := Int.mul_nonneg (Int.mul_nonneg (by decide) (by omega)) (by omega)
  refine ⟨_, rfl, _, rfl, _, _, rfl, rfl, (show (0 : Int) < 2305843009213693951 by decide), _, rfl, _, _, rfl, rfl, .inl ⟨by decide, by decide⟩, _, rfl, _, _, rfl, rfl, .inr ⟨by omega, by omega⟩, _, _, rfl, rfl, _, _, rfl, rfl, _, _, rfl, rfl, .inr ⟨by decide, by decide⟩, _, _, rfl, rfl, (show (0 : Int) < 2305843009213693921 by decide), by show 3 ≤ sizeLine; decide, fun p np => ?_⟩
  exact q _ p (same_upd np) np ⟨_, _, _, upd_same, ho0, ho1, Int.emod_nonneg _ (by decide), Int.lt_of_lt_of_le (Int.emod_lt_of_pos _ (by decide)) (by decide), by decide, by decide⟩
theorem ok_box {f : Addr} {fd : FuncData} {k : Nat} (F : Fun K "_law_box" "_law_box" sBox f fd) (T : Bi mg) : FnOk P w K mg base CX0 (k + 1) f fd ["_law_script", "_law_k"] (spBox K) := by
  refine F.ok scBox (fun vs H Q E h => ?_) (fun cdv A' outer s H vs Q E hr h => ?_)
  · obtain ⟨a, ns, j, rfl, _⟩ := h
    rfl
  · obtain ⟨a, ns, j, rfl, hS, hj, q⟩ := h
    refine ⟨_, pss_cons (ps_set (i := 2) scBox.nd rfl (.inl rfl) (pe_ifExp (pt_cmpR op_lt (pv 1) (pe_callB call_len_seq (by rfl) T.len PySem.boot_len (pa_cons (pv 0) pa_nil)) (nomark _)) (pe_ix ix_list (pv 0) (pv 1) (fun _ _ => rfl)) pe_int))
      (pss_cons (ps_set (i := 3) scBox.nd rfl (.inl rfl) (pe_op op_mul (pe_op op_mod (pe_callB call_abs (by rfl) T.abs (by decide +kernel) (pa_cons (pv 2) pa_nil))
          (pe_op op_mulW (pe_op op_mulW (pe_op op_mulW (pe_op op_pow pe_int pe_int) (pe_op op_pow pe_int pe_int)) (pe_op op_pow pe_int pe_int)) (pe_op op_pow pe_int pe_int)))
        (pe_callTy call_int1 (by rfl) T.int (by decide +kernel) (pa_cons (pe_cmpR op_ge (pe_callB call_abs (by rfl) T.abs (by decide +kernel) (pa_cons (pv 2) pa_nil)) (pe_op op_pow pe_int pe_int) (nomark _)) pa_nil))))
      (pss_one (ps_ret (pe_lst (pa_cons (pv 3) (pa_cons (pe_op op_mod (pe_op op_mul (pe_op op_add (pe_op op_add (pe_op op_mod (pv 2) pe_int) (pe_op op_mul (pe_op op_mul pe_int (pv 1)) (pv 1))) pe_int) pe_int) pe_int) (pa_cons pe_int pa_nil))))))), ?_⟩
    refine ⟨_, rfl, _, rfl, a, _, rfl, .inl hS, _, _, rfl, rfl, _, rfl, ite2 (fun c => ?_) (fun c => ?_)⟩
    · have hj' : j < ns.length := by
        have := of_decide_eq_true c
        rw [List.length_map] at this
        omega
      refine ⟨_, rfl, _, rfl, a, _, _, _, rfl, rfl, hS, atI_nat (v := .int ns[j]) (by rw [List.getElem?_map, List.getElem?_eq_getElem hj']; rfl), ?_⟩
      exact box_rest (D := { nx := fun _ H' => Q .non H', rt := Q }) (y := none) hj q
    · exact box_rest (D := { nx := fun _ H' => Q .non H', rt := Q }) (y := none) hj q
end
end Ov
namespace Ov
open PySem PySem.Spec PyProof.Rows L2
section
variable {P : Program} {w : World} {K : PySem.W.Frag} {mg : Str → Option Value} {base : Heap}
/-! ### _law_take -/
def spTake : Sp := fun vs H Q _ => ∃ (p : Addr) (m : Int) (n : Nat), vs = [.ref p, .int m] ∧ BoxAt H p n ∧ n ≤ 2 ^ 40 ∧ 0 < m ∧ m < 2 ^ 200 ∧ ∀ H' (d : Int), But p H H' → BoxAt H' p (n + 1) → 0 ≤ d → d < m → (∀ b, H b = none → H' b = none) → Q (.int d) H'
theorem scTake : FnScope ["_law_box_here", "_law_many", "_law_digit", "_law_mixed"] ["_law_box_here", "_law_many"] (defScope sTake) := ⟨rfl, rfl, rfl, by decide +kernel, rfl, by decide +kernel, by decide +kernel⟩
theorem ok_take {f : Addr} {fd : FuncData} {k : Nat} (F : Fun K "_law_take" "_law_take" sTake f fd) : FnOk P w K mg base CX0 (k + 1) f fd ["_law_box_here", "_law_many"] spTake := by
  refine F.ok scTake (fun vs H Q E h => ?_) (fun cdv A' outer s H vs Q E hr h => ?_)
  · obtain ⟨p, m, n, rfl, _⟩ := h
    rfl
  · obtain ⟨p, m, n, rfl, ⟨a, b, c, hp, a0, a1, b0, b1, c0, c1⟩, hn, m0, m1, q⟩ := h
    refine ⟨_, pss_cons (ps_if (pt_cmpR op_gt (pe_ix ix_list (pv 0) pe_int (fun _ _ => rfl)) pe_int (nomark _))
        (pss_cons (ps_set (i := 2) scTake.nd rfl (.inl rfl) (pe_op op_mod (pe_ix ix_list (pv 0) pe_int (fun _ _ => rfl)) (pv 1)))
        (pss_cons (ps_asg (pe_op op_fdivW (pe_ix ix_list (pv 0) pe_int (fun _ _ => rfl)) (pv 1)) (pg_sub (pv 0) pe_int set_list))
        (pss_one (ps_ret (pv 2))))) pss_nil)
      (pss_cons (ps_asg (pe_op op_add (pe_ix ix_list (pv 0) pe_int (fun _ _ => rfl)) pe_int) (pg_sub (pv 0) pe_int set_list))
      (pss_cons (ps_set (i := 3) scTake.nd rfl (.inl rfl) (pe_op op_mod (pe_op op_mul (pe_op op_add (pe_op op_add (pe_ix ix_list (pv 0) pe_int (fun _ _ => rfl)) (pe_op op_mul (pe_op op_mul pe_int (pe_ix ix_list (pv 0) pe_int (fun _ _ => rfl))) (pe_ix ix_list (pv 0) pe_int (fun _ _ => rfl)))) pe_int) pe_int) pe_int))
      (pss_cons (ps_set (i := 3) scTake.nd rfl (.inl rfl) (pe_op op_mod (pe_op op_mul (pv 3) (pe_op op_add (pe_op op_mod (pv 3) pe_int) (pe_op op_mul pe_int (pe_ix ix_list (pv 0) pe_int (fun _ _ => rfl))))) pe_int))
      (pss_one (ps_ret (pe_op op_mod (pe_op op_add (pe_op op_fdiv (pv 3) pe_int) (pe_op op_fdiv (pv 3) pe_int)) (pv 1))))))), ?_⟩
    have i0 : ∀ x y z : V, atI [x, y, z] 0 = some x := fun x y z => atI_nat (j := 0) rfl
    have i1 : ∀ x y z : V, atI [x, y, z] 1 = some y := fun x y z => atI_nat (j := 1) rfl
    have i2 : ∀ x y z : V, atI [x, y, z] 2 = some z := fun x y z => atI_nat (j := 2) rfl
    refine ⟨_, rfl, p, _, _, _, rfl, rfl, SqL.of hp, i0 _ _ _, _, _, rfl, rfl, _, rfl, ?_⟩
    by_cases ha : 0 < a
    · rw [decide_eq_true ha]
      refine iteT ?_
      refine ⟨_, rfl, p, _, _, _, rfl, rfl, SqL.of hp, i0 _ _ _, _, rfl, _, _, rfl, rfl, m0, ?_⟩
      refine ⟨_, rfl, p, _, _, _, rfl, rfl, SqL.of hp, i0 _ _ _, _, rfl, _, _, rfl, rfl, wide_div (b := 200) m0 (by omega) (by decide) (by decide), _, rfl, p, _, _, 0, rfl, rfl, hp, rfl, _, rfl, ?_⟩
      refine q _ _ (fun x o e hx => by rw [upd_ne hx]; exact e) ⟨a / m, b, c, upd_same, ?_, ?_, b0, b1, c0, by omega⟩ (Int.emod_nonneg _ (by omega)) (Int.emod_lt_of_pos _ m0) (fun x e => by rw [upd_ne (fun z => by rw [z, hp] at e; cases e)]; exact e)
      · exact Int.ediv_nonneg a0 (by omega)
      · exact Int.lt_of_le_of_lt (Int.ediv_le_self _ a0) a1
    · rw [decide_eq_false ha]
      refine iteF ?_
      refine ⟨_, rfl, p, _, _, _, rfl, rfl, SqL.of hp, i2 _ _ _, _, _, rfl, rfl, _, rfl, p, _, _, 2, rfl, rfl, hp, rfl, ?_⟩
      have hp2 : (upd H p (.lst (([V.int a, V.int b, V.int c] : List V).set 2 (V.int (c + 1))))) p = some (.lst [V.int a, V.int b, V.int (c + 1)]) := upd_same
      have s2 : But p H (upd H p (.lst (([V.int a, V.int b, V.int c] : List V).set 2 (V.int (c + 1))))) := fun x o e hx => by rw [upd_ne hx]; exact e
      have f2 : ∀ x, H x = none → (upd H p (.lst (([V.int a, V.int b, V.int c] : List V).set 2 (V.int (c + 1))))) x = none := fun x e => by rw [upd_ne (fun z => by rw [z, hp] at e; cases e)]; exact e
      generalize upd H p (.lst (([V.int a, V.int b, V.int c] : List V).set 2 (V.int (c + 1)))) = H2 at *
      have hc2 : c + 1 ≤ 2 ^ 40 + 1 := by omega
      refine ⟨_, rfl, p, _, _, _, rfl, rfl, SqL.of hp2, i1 _ _ _, _, rfl, p, _, _, _, rfl, rfl, SqL.of hp2, i2 _ _ _, _, _, rfl, rfl, .inl ⟨by decide, by decide⟩, _, rfl, p, _, _, _, rfl, rfl, SqL.of hp2, i2 _ _ _, _, _, rfl, rfl, .inr ⟨by omega, by omega⟩, _, _, rfl, rfl, _, _, rfl, rfl, _, _, rfl, rfl, .inr ⟨by decide, by decide⟩, _, _, rfl, rfl, (show (0 : Int) < 2305843009213693921 by decide), ?_⟩
      dsimp only
      have x0 : 0 ≤ (b + 65537 * (c + 1) * (c + 1) + 11) * 48271 % 2305843009213693921 := Int.emod_nonneg _ (by decide)
      have x1 : (b + 65537 * (c + 1) * (c + 1) + 11) * 48271 % 2305843009213693921 < 2305843009213693921 := Int.emod_lt_of_pos _ (by decide)
      generalize (b + 65537 * (c + 1) * (c + 1) + 11) * 48271 % 2305843009213693921 = x at *
      refine ⟨_, rfl, _, rfl, _, _, rfl, rfl, (show (0 : Int) < 1000003 by decide), _, rfl, p, _, _, _, rfl, rfl, SqL.of hp2, i2 _ _ _, _, _, rfl, rfl, .inl ⟨by decide, by decide⟩, _, _, rfl, rfl, _, _, rfl, rfl, .inl ⟨by omega, by omega⟩, _, _, rfl, rfl, (show (0 : Int) < 2305843009213693907 by decide), ?_⟩
      dsimp only
      generalize x * (x % 1000003 + 99991 * (c + 1)) % 2305843009213693907 = y at *
      refine ⟨_, rfl, _, _, rfl, rfl, ⟨by decide, by decide⟩, _, rfl, _, _, rfl, rfl, ⟨by decide, by decide⟩, _, _, rfl, rfl, _, rfl, _, _, rfl, rfl, m0, ?_⟩
      exact q _ _ s2 ⟨a, b, c + 1, hp2, a0, a1, b0, b1, by omega, by omega⟩ (Int.emod_nonneg _ (by omega)) (Int.emod_lt_of_pos _ m0) f2
/-! ### _law_of -/
def spOf : Sp := fun vs H Q _ => ∃ (p l : Addr) (n : Nat) (xs : List V), vs = [.ref p, .ref l] ∧ BoxAt H p n ∧ n ≤ 2 ^ 40 ∧ H l = some (.lst xs) ∧ l ≠ p ∧ 0 < xs.length ∧ xs.length ≤ 1000 ∧ ∀ H' (v : V), v ∈ xs → But p H H' → BoxAt H' p (n + 1) → (∀ b, H b = none → H' b = none) → Q v H'
theorem scOf : FnScope ["_law_box_here", "_law_some"] ["_law_box_here", "_law_some"] (defScope sOf) := ⟨rfl, rfl, rfl, by decide +kernel, rfl, by decide +kernel, by decide +kernel⟩
theorem ok_of {f fT : Addr} {fd fdT : FuncData} {k : Nat} (F : Fun K "_law_of" "_law_of" sOf f fd) (T : Bi mg) (Tk : Def K mg "_law_take" sTake fT fdT ["_law_box_here", "_law_many"]) : FnOk P w K mg base CX0 (k + 2) f fd ["_law_box_here", "_law_some"] spOf := by
  have GT : FnOk P w K mg base CX0 (k + 1) fT fdT ["_law_box_here", "_law_many"] spTake := ok_take Tk.fn
  refine F.ok scOf (fun vs H Q E h => ?_) (fun cdv A' outer s H vs Q E hr h => ?_)
  · obtain ⟨p, l, n, xs, rfl, _⟩ := h
    rfl
  · obtain ⟨p, l, n, xs, rfl, B, hn, hl, hlp, h0, h1, q⟩ := h
    refine ⟨_, pss_one (ps_ret (pe_ix ix_list (pv 1) (pe_call GT hr (by rfl) Tk.gl Tk.fn.kp Tk.bi .nil pass0 (pa_cons (pv 0) (pa_cons (pe_callB call_len_seq (by rfl) T.len PySem.boot_len (pa_cons (pv 1) pa_nil)) pa_nil))) (fun _ _ => rfl))), ?_⟩
    refine ⟨_, rfl, _, rfl, _, rfl, l, _, rfl, .inl (SqL.of hl), p, _, n, rfl, B, hn, by omega, by omega, fun H' d bt B' d0 d1 fr => ?_⟩
    obtain ⟨i, rfl⟩ : ∃ i : Nat, d = i := ⟨d.toNat, by omega⟩
    have hi : i < xs.length := by omega
    exact ⟨l, xs, _, xs[i], rfl, rfl, SqL.of (bt _ _ hl hlp), atI_nat (List.getElem?_eq_getElem hi), q H' _ (List.getElem_mem hi) bt B' fr⟩
end
end Ov
namespace Ov
open PySem PySem.Spec PyProof.Rows L2
/-- a part of the heap, and what was laid beside it -/
structure Grow (T H T' H' : Hp) : Prop where
  hh : Same H H'
  tt : Same T T'
  th : Same T' H'
  new : ∀ b, T b = none → H b ≠ none → T' b = none
theorem Grow.refl {T H : Hp} (h : Same T H) : Grow T H T H := ⟨Same.refl _, Same.refl _, h, fun _ e _ => e⟩
theorem Grow.put {T H T' H' : Hp} (g : Grow T H T' H') {p : Addr} (o : HO) (n : H' p = none) : Grow T H (upd T' p o) (upd H' p o) := by
  refine ⟨g.hh.trans (same_upd n), g.tt.trans (same_upd ?_), fun b x e => ?_, fun b e h => ?_⟩
  · cases q : T' p with
    | none => rfl
    | some x => rw [g.th _ _ q] at n; cases n
  · by_cases hb : b = p
    · subst hb
      rw [upd_same] at e ⊢
      exact e
    · rw [upd_ne hb] at e ⊢
      exact g.th _ _ e
  · by_cases hb : b = p
    · subst hb
      cases q : H b with
      | none => exact absurd q h
      | some x => rw [g.hh _ _ q] at n; cases n
    · rw [upd_ne hb]
      exact g.new b e h
theorem Grow.trans {T H T1 H1 T2 H2 : Hp} (a : Grow T H T1 H1) (b : Grow T1 H1 T2 H2) : Grow T H T2 H2 :=
  ⟨a.hh.trans b.hh, a.tt.trans b.tt, b.th, fun c e h => b.new c (a.new c e h) fun z => by
    cases q : H c with
    | none => exact h q
    | some x => rw [a.hh _ _ q] at z; cases z⟩
theorem none_of {T H : Hp} {l : Addr} (s : Same T H) (n : H l = none) : T l = none := by
  cases z : T l with
  | none => rfl
  | some x => rw [s _ _ z] at n; cases n
end Ov
namespace Ov
open PySem PySem.Spec PyProof.Rows L2
/-! ### lists of data put together -/
theorem showableAll_app : ∀ a b : List PyData, PyData.showableAll (a ++ b) = (PyData.showableAll a && PyData.showableAll b)
  | [], b => by simp [PyData.showableAll]
  | x :: a, b => by simp [PyData.showableAll, showableAll_app a b, Bool.and_assoc]
theorem hasDictAll_app : ∀ a b : List PyData, PyData.hasDictAll (a ++ b) = (PyData.hasDictAll a || PyData.hasDictAll b)
  | [], b => by simp [PyData.hasDictAll]
  | x :: a, b => by simp [PyData.hasDictAll, hasDictAll_app a b, Bool.or_assoc]
theorem noListAll_app : ∀ a b : List PyData, noListAll (a ++ b) = (noListAll a && noListAll b)
  | [], b => by simp [noListAll]
  | x :: a, b => by simp [noListAll, noListAll_app a b, Bool.and_assoc]
theorem depthAll_app : ∀ a b : List PyData, PyData.depthAll (a ++ b) = max (PyData.depthAll a) (PyData.depthAll b)
  | [], b => by simp [PyData.depthAll]
  | x :: a, b => by simp [PyData.depthAll, depthAll_app a b] <;> omega
theorem nodesAll_app : ∀ a b : List PyData, nodesAll (a ++ b) = nodesAll a + nodesAll b
  | [], b => by simp [nodesAll]
  | x :: a, b => by simp [nodesAll, nodesAll_app a b] <;> omega
theorem noListAll_ints : ∀ ns : List Int, noListAll (ns.map PyData.int) = true
  | [] => by simp [noListAll]
  | n :: ns => by simp [noListAll, noList, noListAll_ints ns]
/-- what can be shown as a part -/
structure ShowsAll (ds : List PyData) (n : Nat) : Prop where
  sh : PyData.showableAll ds = true
  nl : PyData.hasDictAll ds = true → noListAll ds = true
  dep : PyData.depthAll ds ≤ 50
  nd : nodesAll ds ≤ n
theorem ShowsAll.tup {ds : List PyData} {n : Nat} (h : ShowsAll ds n) (hn : n ≤ 7999) : Shows (.tuple ds) :=
  ⟨by simp only [PyData.showable]; exact h.sh, fun z => by simp only [noList]; exact h.nl (by simpa only [PyData.hasDict] using z), by simp only [PyData.depth]; have := h.dep; omega, by simp only [nodes]; have := h.nd; omega⟩
theorem ints_show {ns : List Int} (h : ∀ n ∈ ns, n.natAbs < 2 ^ 1000) : ShowsAll (ns.map PyData.int) ns.length := by
  have f := flat_ints h
  exact ⟨f.sh, fun _ => noListAll_ints _, by rw [f.dep]; decide, by rw [f.nds, List.length_map]; exact Nat.le_refl _⟩
/-- ints, a thing, ints -/
theorem odd_show {a b : List Int} {d : PyData} (ha : ∀ n ∈ a, n.natAbs < 2 ^ 1000) (hb : ∀ n ∈ b, n.natAbs < 2 ^ 1000) (S : Shows d) (dep : d.depth ≤ 50) : ShowsAll (a.map PyData.int ++ [d] ++ b.map PyData.int) (a.length + nodes d + b.length) := by
  have fa := flat_ints ha
  have fb := flat_ints hb
  refine ⟨?_, fun z => ?_, ?_, ?_⟩
  · rw [showableAll_app, showableAll_app, fa.sh, fb.sh]
    simp [PyData.showableAll, S.sh]
  · rw [hasDictAll_app, hasDictAll_app, fa.nod, fb.nod] at z
    have z' : d.hasDict = true := by simpa [PyData.hasDictAll] using z
    rw [noListAll_app, noListAll_app, noListAll_ints, noListAll_ints]
    simp [noListAll, S.nl z']
  · rw [depthAll_app, depthAll_app, fa.dep, fb.dep]
    simp [PyData.depthAll]
    omega
  · rw [nodesAll_app, nodesAll_app, fa.nds, fb.nds]
    simp [nodesAll]
theorem shows_int {i : Int} (h : i.natAbs < 2 ^ 1000) : Shows (.int i) := by
  have f := flat_ints (ns := [i]) (fun n hn => by rw [List.mem_singleton.mp hn]; exact h)
  refine ⟨by have := f.sh; simpa [PyData.showableAll] using this, fun z => by simp [PyData.hasDict] at z, by simp [PyData.depth], by simp [nodes]⟩
theorem shows_bool (b : Bool) : Shows (.bool b) := ⟨by simp [PyData.showable], fun z => by simp [PyData.hasDict] at z, by simp [PyData.depth], by simp [nodes]⟩
theorem shows_none : Shows .none := ⟨by simp [PyData.showable], fun z => by simp [PyData.hasDict] at z, by simp [PyData.depth], by simp [nodes]⟩
theorem shows_str {x : Str} (h : (reprText x).length ≤ 100) : Shows (.str x) := ⟨by simp [PyData.showable], fun z => by simp [PyData.hasDict] at z, by simp [PyData.depth], by simp [nodes]; omega⟩
theorem dict0_nodes : nodes (.dict []) ≤ 100 := by
  simp only [nodes, PyData.shownKv]
  decide +kernel
theorem shows_dict : Shows (.dict []) := ⟨by simp [PyData.showable, PyData.showableKv], fun _ => by simp [noList], by simp [PyData.depth, PyData.depthKv], Nat.le_trans dict0_nodes (by decide)⟩
theorem shows_nil : Shows (.list []) := ⟨by simp [PyData.showable, PyData.showableAll], fun z => by simp [PyData.hasDict, PyData.hasDictAll] at z, by simp [PyData.depth, PyData.depthAll], by simp [nodes, nodesAll]⟩
/-- parts of tuples -/
theorem cut_from (k : Nat) (xs : List V) : cutV xs (some (k : Int)) none = xs.drop k := by
  unfold cutV
  rw [show HT.sIx xs.length 0 (some (k : Int)) = min k xs.length from HT.sIx_nat xs.length 0 k, HT.sIx_none]
  rcases Nat.le_total k xs.length with c | c
  · rw [Nat.min_eq_left c]
    exact List.take_of_length_le (by rw [List.length_drop]; exact Nat.le_refl _)
  · rw [Nat.min_eq_right c, List.drop_of_length_le c, List.drop_of_length_le (Nat.le_refl _), List.take_nil]
theorem cut_to (k : Nat) (xs : List V) : cutV xs none (some (k : Int)) = xs.take k := by
  unfold cutV
  rw [show HT.sIx xs.length xs.length (some (k : Int)) = min k xs.length from HT.sIx_nat xs.length xs.length k, HT.sIx_none, List.drop_zero, Nat.sub_zero]
  rcases Nat.le_total k xs.length with c | c
  · rw [Nat.min_eq_left c]
  · rw [Nat.min_eq_right c, List.take_length, List.take_of_length_le c]
theorem cut_all {xs : List V} {lo hi : Option Int} (h : HT.sIx xs.length 0 lo = 0 ∧ HT.sIx xs.length xs.length hi = xs.length) : cutV xs lo hi = xs := by
  unfold cutV
  rw [h.1, h.2, List.drop_zero, Nat.sub_zero, List.take_length]
section
variable {K : PySem.W.Frag} {T H : Hp} {Q : VK}
theorem cat_x {a b : Addr} {xs ys : List V} (st : Same T H) (ha : SqT K T a xs) (hb : SqT K T b ys) (hl : xs.length + ys.length ≤ sizeLine) (q : ∀ l H' T', Grow T H T' H' → SqT K T' l (xs ++ ys) → Q (.ref l) H') : rCatA K (.ref a) (.ref b) H Q := by
  refine ⟨a, b, xs, ys, rfl, rfl, st.tup ha, st.tup hb, hl, fun e => ?_, fun _ e => ?_, fun _ _ p np => ?_⟩
  · subst e
    exact q b H T (.refl st) hb
  · subst e
    exact q a H T (.refl st) (by rw [List.append_nil]; exact ha)
  · exact q p _ _ ((Grow.refl st).put _ np) (SqT.of upd_same)
theorem cut_x {a : Addr} {xs : List V} {lo hi : Option Int} (st : Same T H) (ha : SqT K T a xs) (q : ∀ l H' T', Grow T H T' H' → SqT K T' l (cutV xs lo hi) → Q (.ref l) H') : rSlA K (.ref a) lo hi H Q := by
  refine ⟨a, xs, rfl, st.tup ha, fun e => ?_, fun _ p np => ?_⟩
  · exact q a H T (.refl st) (by rw [cut_all e]; exact ha)
  · exact q p _ _ ((Grow.refl st).put _ np) (SqT.of upd_same)
end
end Ov
namespace Ov
open PySem PySem.Spec PyProof.Rows L2
/-! ### integers and codes among things of any kind -/
def btw (lo hi : Int) : PyData → Bool
  | .int i => decide (lo ≤ i) && decide (i ≤ hi)
  | _ => false
section
variable {P : Program} {w : World} {K : PySem.W.Frag} {mg : Str → Option Value} {base : Heap}
def isInt : PyData → Bool
  | .int _ => true
  | _ => false
def spIsIntX (K : PySem.W.Frag) : Sp := fun vs H Q _ => ∃ (v : V) (d : PyData), vs = [v] ∧ Dx K H v d ∧ Q (.bl (isInt d)) H
theorem ok_isIntX {f : Addr} {fd : FuncData} {k : Nat} (F : Fun K "is_integer" "is_integer" sIsInt f fd) (T : Bi mg) : FnOk P w K mg base CX0 (k + 1) f fd ["value"] (spIsIntX K) := by
  refine F.ok scIsInt (fun vs H Q E h => ?_) (fun cdv A outer s H vs Q E hr h => ?_)
  · obtain ⟨v, d, rfl, _⟩ := h
    rfl
  · obtain ⟨v, d, rfl, D, q⟩ := h
    refine ⟨_, pss_one (ps_ret (pe_and (pe_callB call_isi (by rfl) T.isi (by decide +kernel) (pa_cons (pv 0) (pa_cons (pe_bltn (v := .ty "int") (u := .type "int") (by rfl) T.int (by decide +kernel) rfl) pa_nil)))
      (pe_one (pe_not (pe_callB call_isi (by rfl) T.isi (by decide +kernel) (pa_cons (pv 0) (pa_cons (pe_bltn (v := .ty "bool") (u := .type "bool") (by rfl) T.bool (by decide +kernel) rfl) pa_nil))))))), ?_⟩
    refine ⟨_, rfl, _, _, _, _, _, rfl, .ty _, D.ty, kit_ty (kit_i d), _, rfl, ?_⟩
    have D0 := D
    cases D with
    | non => exact iteF q
    | str x => exact iteF q
    | dct h => exact iteF q
    | lst h a => exact iteF q
    | tup h a => exact iteF q
    | bl b => exact iteT ⟨_, rfl, _, _, _, _, _, rfl, .ty _, D0.ty, kit_ty (kit_b _), _, rfl, q⟩
    | int i => exact iteT ⟨_, rfl, _, _, _, _, _, rfl, .ty _, D0.ty, kit_ty (kit_b _), _, rfl, q⟩
def spBetweenX (K : PySem.W.Frag) : Sp := fun vs H Q _ => ∃ (v : V) (d : PyData) (lo hi : Int), vs = [v, .int lo, .int hi] ∧ Dx K H v d ∧ Q (.bl (btw lo hi d)) H
theorem ok_betweenX {f fI : Addr} {fd fdI : FuncData} {k : Nat} (F : Fun K "is_integer_between" "is_integer_between" sBetween f fd) (T : Bi mg) (I : Def K mg "is_integer" sIsInt fI fdI ["value"]) : FnOk P w K mg base CX0 (k + 2) f fd ["value", "least", "most"] (spBetweenX K) := by
  have GI : FnOk P w K mg base CX0 (k + 1) fI fdI ["value"] (spIsIntX K) := ok_isIntX I.fn T
  refine F.ok scBetween (fun vs H Q E h => ?_) (fun cdv A outer s H vs Q E hr h => ?_)
  · obtain ⟨v, d, lo, hi, rfl, _⟩ := h
    rfl
  · obtain ⟨v, d, lo, hi, rfl, D, q⟩ := h
    refine ⟨_, pss_one (ps_ret (pe_and (pe_call GI hr (by rfl) I.gl I.fn.kp I.bi .nil pass0 (pa_cons (pv 0) pa_nil))
        (pe_one (pe_chain op_le op_le (pv 1) (pv 0) (pv 2))))), ?_⟩
    refine ⟨_, rfl, v, d, rfl, D, _, rfl, ?_⟩
    cases D with
    | non => exact iteF q
    | str x => exact iteF q
    | dct h => exact iteF q
    | lst h a => exact iteF q
    | tup h a => exact iteF q
    | bl b => exact iteF q
    | int i =>
      refine iteT ?_
      refine ⟨_, rfl, _, rfl, _, _, rfl, rfl, _, rfl, ?_⟩
      have q' : Q (.bl (decide (lo ≤ i) && decide (i ≤ hi))) H := q
      by_cases h1 : lo ≤ i
      · rw [decide_eq_true h1] at q' ⊢
        refine iteT ⟨_, rfl, _, _, rfl, rfl, ?_⟩
        rw [Bool.true_and] at q'
        exact q'
      · rw [decide_eq_false h1] at q' ⊢
        rw [Bool.false_and] at q'
        exact iteF q'
end
end Ov
namespace Ov
open PySem PySem.Spec PyProof.Rows L2
/-! ### lengths of any kind -/
def ascI (ns : List Int) (i : Nat) : Bool := decide (ns.getD i 0 < ns.getD (i + 1) 0)
def ascB (ns : List Int) : Bool := ((List.range (ns.length - 1)).map (ascI ns)).all id
theorem ascB_lt {ns : List Int} (h : ascB ns = true) : ∀ (j i : Nat), i < j → j < ns.length → ns.getD i 0 < ns.getD j 0 := by
  have one : ∀ i, i + 1 < ns.length → ns.getD i 0 < ns.getD (i + 1) 0 := fun i hi => by
    unfold ascB at h
    rw [List.all_eq_true] at h
    have z := h (ascI ns i) (List.mem_map.mpr ⟨i, List.mem_range.mpr (by omega), rfl⟩)
    exact of_decide_eq_true z
  intro j
  induction j with
  | zero => intro i hi; omega
  | succ j ih =>
    intro i hi hj
    rcases Nat.lt_or_ge i j with c | c
    · exact Int.lt_trans (ih i c (by omega)) (one j hj)
    · have : i = j := by omega
      rw [this]
      exact one j hj
theorem ascB_pw {ns : List Int} (h : ascB ns = true) : ns.Pairwise (· < ·) := by
  rw [List.pairwise_iff_getElem]
  intro i j hi hj hij
  have z := ascB_lt h j i hij hj
  rw [List.getD_eq_getElem?_getD, List.getD_eq_getElem?_getD, List.getElem?_eq_getElem hi, List.getElem?_eq_getElem hj] at z
  exact z
def intOf : PyData → Int
  | .int i => i
  | _ => 0
/-- lengths, of any kind, that are valid -/
def isLensD : PyData → Bool
  | .tuple ds => decide (ds.length ≤ 50) && (ds.all (btw 1 1000) && ascB (ds.map intOf))
  | _ => false
theorem btw_int {lo hi : Int} {d : PyData} (h : btw lo hi d = true) : ∃ i, d = .int i ∧ lo ≤ i ∧ i ≤ hi := by
  cases d with
  | int i =>
    have h' : (decide (lo ≤ i) && decide (i ≤ hi)) = true := h
    rw [Bool.and_eq_true] at h'
    exact ⟨i, rfl, of_decide_eq_true h'.1, of_decide_eq_true h'.2⟩
  | none => cases h
  | bool _ => cases h
  | str _ => cases h
  | list _ => cases h
  | tuple _ => cases h
  | dict _ => cases h
theorem intsD_of : ∀ {ds : List PyData} {lo hi : Int}, ds.all (btw lo hi) = true → ds = (ds.map intOf).map PyData.int
  | [], _, _, _ => rfl
  | d :: ds, lo, hi, h => by
    rw [List.all_cons, Bool.and_eq_true] at h
    obtain ⟨i, rfl, _⟩ := btw_int h.1
    rw [List.map_cons, List.map_cons, ← intsD_of h.2]
    rfl
theorem lens_of {d : PyData} (h : isLensD d = true) : ∃ ns, d = .tuple (ns.map PyData.int) ∧ Lens ns := by
  cases d with
  | tuple ds =>
    have h' : (decide (ds.length ≤ 50) && (ds.all (btw 1 1000) && ascB (ds.map intOf))) = true := h
    rw [Bool.and_eq_true, Bool.and_eq_true] at h'
    obtain ⟨h1, h2, h3⟩ := h'
    have e := intsD_of h2
    refine ⟨ds.map intOf, congrArg PyData.tuple e, by rw [List.length_map]; exact of_decide_eq_true h1, fun n hn => ?_, ascB_pw h3⟩
    obtain ⟨d, hd, rfl⟩ := List.mem_map.mp hn
    rw [List.all_eq_true] at h2
    obtain ⟨i, rfl, h4, h5⟩ := btw_int (h2 d hd)
    exact ⟨h4, h5⟩
  | none => cases h
  | bool _ => cases h
  | str _ => cases h
  | list _ => cases h
  | int _ => cases h
  | dict _ => cases h
theorem dx_lens {K : PySem.W.Frag} {H : Hp} {v : V} {ns : List Int} (h : Dx K H v (.tuple (ns.map PyData.int))) : ∃ a, v = .ref a ∧ SqT K H a (ns.map V.int) := by
  cases h with
  | tup hs ha =>
    have z : ∀ {ms : List Int} {xs : List V}, DxAll K H xs (ms.map PyData.int) → xs = ms.map V.int := by
      intro ms
      induction ms with
      | nil => intro xs h; cases h; rfl
      | cons m ms ih =>
        intro xs h
        cases h with
        | cons h1 h2 =>
          cases h1
          rw [ih h2]
          rfl
    rw [z ha] at hs
    exact ⟨_, rfl, hs⟩
section
variable {P : Program} {w : World} {K : PySem.W.Frag} {mg : Str → Option Value} {base : Heap}
/-! ### is_ascending of any integers -/
def spAscX (K : PySem.W.Frag) : Sp := fun vs H Q _ => ∃ (a : Addr) (ns : List Int), vs = [.ref a] ∧ SqT K H a (ns.map V.int) ∧ ns.length ≤ 1000 ∧ ∀ H', Same H H' → Q (.bl (ascB ns)) H'
theorem ok_ascX {f : Addr} {fd : FuncData} {k : Nat} (F : Fun K "is_ascending" "is_ascending" sAscending f fd) (T : Bi mg) : FnOk P w K mg base CX0 (k + 1) f fd ["numbers"] (spAscX K) := by
  refine F.ok scAscending (fun vs H Q E h => ?_) (fun cdv A outer s H vs Q E hr h => ?_)
  · obtain ⟨a, ns, rfl, _⟩ := h
    rfl
  · obtain ⟨a, ns, rfl, hS, hlen, q⟩ := h
    refine ⟨_, pss_one (ps_ret (pe_callB (cr_all rfl) (by rfl) T.all (by decide +kernel) (pa_cons
      (pe_lc (own := [("low", 1), ("high", 2)]) (g := gTup K 2 (gCons (gName 1) (gCons (gName 2) gNil))) (tt := tYes) (by rfl) scAscending.nd (RZ.pi_zipA (by rfl) T.zip (pa_cons (pv 0) (pa_cons (pe_slice sl_tupA (pv 0) (po_some pe_int) po_none) pa_nil)))
        (blkOk_by (own := [("low", 1), ("high", 2)]) (N := ["numbers", "low", "high"]) (sc := defScope sAscending) (by decide +kernel))
        (fun _ _ _ _ _ => pg_tup rfl (pgs_cons (pg_name (i := 1) scAscending.nd rfl (Or.inl rfl)) (pgs_cons (pg_name (i := 2) scAscending.nd rfl (Or.inl rfl)) pgs_nil)))
        (fun _ _ _ _ _ => pts_nil) (fun _ _ _ _ _ => pe_cmpR op_lt (pv 1) (pv 2) (nomark _))) pa_nil))), ?_⟩
    refine ⟨_, rfl, _, rfl, 1, rfl, a, ns.map V.int, rfl, hS, fun hw => ?_, fun hw c nc => ?_⟩
    · have e0 : ns = [] := List.map_eq_nil_iff.mp (cut1_whole hw)
      subst e0
      refine ⟨a, a, [], [], rfl, .inr ⟨hS, hS, fun D nD => lc_it (walk_zipT (xs := []) (ys := []) rfl) (fun i H2 => i = 0 ∧ Mk H H2 D []) ⟨rfl, .start nD⟩ (fun i H2 _ p => ⟨p.2.same.tup hS, p.2.same.tup hS⟩) (fun i x H2 H3 hi => absurd hi (by show ¬ i < 0; omega)) (fun H2 p => ?_)⟩⟩
      exact ⟨D, [], rfl, .inl (.inl p.2.at_), q H2 p.2.same⟩
    · have s1 : Same H (upd H c (.tup (cutV (ns.map V.int) (some 1) none))) := same_upd nc
      have hc : SqT K (upd H c (.tup (cutV (ns.map V.int) (some 1) none))) c ((ns.drop 1).map V.int) := .inl (.inl (by rw [upd_same, cut1, List.map_drop]))
      refine ⟨a, c, ns.map V.int, (ns.drop 1).map V.int, rfl, .inr ⟨s1.tup hS, hc, fun D nD => lc_it (walk_zipT (xs := ns.map V.int) (ys := (ns.drop 1).map V.int) rfl)
        (fun i H2 => Mk (upd H c (.tup (cutV (ns.map V.int) (some 1) none))) H2 D (((List.range i).map (ascI ns)).map V.bl)) (.start nD) (fun i H2 _ p => ⟨p.same.tup (s1.tup hS), p.same.tup hc⟩) (fun i x H2 H3 hi p y => ?_) (fun H2 p => ?_)⟩⟩
      · obtain ⟨t, x1, x2, rfl, nt, rfl, f1, f2⟩ := y
        have hi' : i < min ns.length (ns.length - 1) := by simpa using hi
        have h1 : i < ns.length := by omega
        have h2 : i + 1 < ns.length := by omega
        have e1 : x1 = .int ns[i] := by
          have : (ns.map V.int)[i]? = some x1 := f1
          rw [List.getElem?_map, List.getElem?_eq_getElem h1] at this
          exact (Option.some.inj this).symm
        have e2 : x2 = .int ns[i + 1] := by
          have : ((ns.drop 1).map V.int)[i]? = some x2 := f2
          rw [List.getElem?_map, List.getElem?_drop, Nat.add_comm 1 i, List.getElem?_eq_getElem h2] at this
          exact (Option.some.inj this).symm
        have ei : ascI ns i = decide (ns[i] < ns[i + 1]) := by
          unfold ascI
          rw [List.getD_eq_getElem?_getD, List.getD_eq_getElem?_getD, List.getElem?_eq_getElem h1, List.getElem?_eq_getElem h2]
          rfl
        refine ⟨t, [x1, x2], rfl, .inl (.inl upd_same), rfl, x1, [x2], rfl, x2, [], rfl, rfl, rfl, x1, rfl, x2, rfl, _, _, e1, e2, _, (by rw [upd_ne (ne_of_none p.at_ nt)]; exact p.at_), (by rw [List.length_map, List.length_map, List.length_range]; exact small1000 (by omega)), ?_⟩
        show Mk _ (upd _ D (.lst (_ ++ [V.bl (decide (ns[i] < ns[i + 1]))]))) D _
        rw [← ei, List.range_succ, List.map_append, List.map_append]
        exact p.put (same_upd nt)
      · refine ⟨D, _, rfl, .inl (.inl p.at_), ?_⟩
        have e : min (ns.map V.int).length ((ns.drop 1).map V.int).length = ns.length - 1 := by
          rw [List.length_map, List.length_map, List.length_drop]
          omega
        show Q (.bl (((List.range (min (ns.map V.int).length ((ns.drop 1).map V.int).length)).map (ascI ns)).all id)) H2
        rw [e]
        exact q H2 (s1.trans p.same)
/-! ### are_lengths, check_lengths of any values -/
def spAreX (K : PySem.W.Frag) : Sp := fun vs H Q _ => ∃ (v : V) (d : PyData), vs = [v] ∧ Dx K H v d ∧ (∀ ds, d = .tuple ds → ds.length ≤ 1000) ∧ ∀ H', Same H H' → Q (.bl (isLensD d)) H'
theorem ok_areX {f fB fA : Addr} {fd fdB fdA : FuncData} {k : Nat} (F : Fun K "are_lengths" "are_lengths" sAre f fd) (T : Bi mg)
    (B : Def K mg "is_integer_between" sBetween fB fdB ["value", "least", "most"]) (GB : FnOk P w K mg base CX0 (k + 1) fB fdB ["value", "least", "most"] (spBetweenX K)) (A : Def K mg "is_ascending" sAscending fA fdA ["numbers"]) (m1 : ∃ t, mg "MOST_LENGTHS" = some (.int 50 t)) (m2 : ∃ t, mg "GREATEST_LENGTH" = some (.int 1000 t)) :
    FnOk P w K mg base CX0 (k + 2) f fd ["value"] (spAreX K) := by
  have GA : FnOk P w K mg base CX0 (k + 1) fA fdA ["numbers"] (spAscX K) := ok_ascX A.fn T
  obtain ⟨t1, m1⟩ := m1
  obtain ⟨t2, m2⟩ := m2
  refine F.ok scAre (fun vs H Q E h => ?_) (fun cdv A' outer s H vs Q E hr h => ?_)
  · obtain ⟨v, d, rfl, _⟩ := h
    rfl
  · obtain ⟨v, d, rfl, D, hl, q⟩ := h
    refine ⟨_, pss_cons (ps_if (PW.pt (pw_or (pt_not (pt_val (pe_callB call_isi (by rfl) T.isi (by decide +kernel) (pa_cons (pv 0) (pa_cons (pe_bltn (v := .ty "tuple") (u := .type "tuple") (by rfl) T.tuple (by decide +kernel) rfl) pa_nil)))))
        (pw_or1 (pt_cmpR op_gt (pe_callB call_len_seq (by rfl) T.len PySem.boot_len (pa_cons (pv 0) pa_nil)) (pe_glob (v := .int 50) (by rfl) m1 ⟨_, rfl⟩) (nomark _))))) (pss_one (ps_ret pe_bl)) pss_nil)
      (pss_one (ps_ret (pe_and (pe_callB (cr_all rfl) (by rfl) T.all (by decide +kernel) (pa_cons
        (pe_lc (own := [("item", 1)]) (g := gName 1) (tt := tYes) (by rfl) scAre.nd (pi_tup (pv 0))
          (blkOk_by (own := [("item", 1)]) (N := ["value", "item"]) (sc := defScope sAre) (by decide +kernel))
          (fun _ _ _ _ _ => pg_name (i := 1) scAre.nd rfl (Or.inl rfl))
          (fun _ _ _ _ _ => pts_nil) (fun _ _ _ _ _ => pe_call GB hr (by rfl) B.gl B.fn.kp B.bi .nil pass0 (pa_cons (pv 1) (pa_cons pe_int (pa_cons (pe_glob (v := .int 1000) (by rfl) m2 ⟨_, rfl⟩) pa_nil))))) pa_nil))
        (pe_one (pe_call GA hr (by rfl) A.gl A.fn.kp A.bi .nil pass0 (pa_cons (pv 0) pa_nil)))))), ?_⟩
    refine ⟨_, rfl, _, _, _, _, _, rfl, .ty _, D.ty, kit_ty (kit_t d), _, rfl, ?_⟩
    cases D with
    | non => exact iteT (q H (Same.refl _))
    | str x => exact iteT (q H (Same.refl _))
    | dct h => exact iteT (q H (Same.refl _))
    | lst h a => exact iteT (q H (Same.refl _))
    | bl b => exact iteT (q H (Same.refl _))
    | int i => exact iteT (q H (Same.refl _))
    | @tup a xs ds hs ha =>
      have h1000 := hl ds rfl
      have el := ha.len
      refine iteF ⟨_, rfl, a, xs, rfl, .inr hs, _, _, rfl, rfl, _, rfl, ?_⟩
      rw [el]
      have q' : ∀ b, b = (decide (ds.length ≤ 50) && (ds.all (btw 1 1000) && ascB (ds.map intOf))) → ∀ H', Same H H' → Q (.bl b) H' := fun b e => by rw [e]; exact q
      by_cases hc : (50 : Int) < (ds.length : Int)
      · rw [decide_eq_true hc]
        exact iteT (q' false (by rw [decide_eq_false (show ¬ ds.length ≤ 50 by omega)]; rfl) H (Same.refl _))
      rw [decide_eq_false hc]
      have h50 : ds.length ≤ 50 := by omega
      rw [decide_eq_true h50] at q'
      refine iteF ⟨_, rfl, a, rfl, ⟨_, hs⟩, fun D nD => lc_tup (K := K) (a := a) (xs := xs) (fun i H2 => Mk H H2 D (((ds.take i).map (btw 1 1000)).map V.bl)) (.start nD) (fun i H2 _ p => p.same.tup hs) ?_ ?_⟩
      · intro i x H2 hx mk
        obtain ⟨d, hd, D2⟩ := ha.at hx
        refine ⟨rfl, x, rfl, x, d, 1, 1000, rfl, D2.same mk.same, _, mk.at_, (by rw [List.length_map, List.length_map, List.length_take]; exact small1000 (by omega)), ?_⟩
        rw [take_more hd, List.map_append, List.map_append]
        exact mk.put (Same.refl _)
      intro H2 mk
      refine ⟨D, _, rfl, SqL.of mk.at_, _, rfl, ?_⟩
      rw [el, List.take_length, List.all_map]
      cases hb : ds.all (btw 1 1000) with
      | false => 
        show (if ds.all (id ∘ btw 1 1000) = true then _ else _)
        rw [show ds.all (id ∘ btw 1 1000) = false from hb]
        exact iteF (q' false (by rw [hb]; rfl) H2 mk.same)
      | true =>
        show (if ds.all (id ∘ btw 1 1000) = true then _ else _)
        rw [show ds.all (id ∘ btw 1 1000) = true from hb]
        have e := intsD_of hb
        have Dn : Dx K H2 (.ref a) (.tuple ((ds.map intOf).map PyData.int)) := e ▸ (Dx.tup hs ha).same mk.same
        obtain ⟨a', ea, ht⟩ := dx_lens Dn
        cases ea
        exact iteT ⟨_, rfl, a, ds.map intOf, rfl, ht, by rw [List.length_map]; omega, fun H3 s3 => q' _ (by rw [hb]; rfl) H3 (mk.same.trans s3)⟩
end
end Ov
namespace Ov
open PySem PySem.Spec PyProof.Rows L2
section
variable {P : Program} {w : World} {K : PySem.W.Frag} {mg : Str → Option Value} {base : Heap}
/-! ### is_reached -/
def spReached : Sp := fun vs H Q _ => ∃ (p : Addr) (a : List (Option Nat)) (t : Nat), vs = [.ref p, .int t] ∧ H p = some (.tup (a.map optV)) ∧ Q (.bl (reached a t)) H
theorem scReached : FnScope ["least", "total", "reached"] ["least", "total"] (defScope sReached) := ⟨rfl, rfl, rfl, by decide +kernel, rfl, by decide +kernel, by decide +kernel⟩
theorem ok_reached {f : Addr} {fd : FuncData} {k : Nat} (F : Fun K "is_reached" "is_reached" sReached f fd) (T : Bi mg) : FnOk P w K mg base CX0 (k + 1) f fd ["least", "total"] spReached := by
  refine F.ok scReached (fun vs H Q E h => ?_) (fun cdv A' outer s H vs Q E hr h => ?_)
  · obtain ⟨p, a, t, rfl, _⟩ := h
    rfl
  · obtain ⟨p, a, t, rfl, hp, q⟩ := h
    refine ⟨_, pss_cons (ps_if (pt_cmpR op_eq (pe_callB call_len_seq (by rfl) T.len PySem.boot_len (pa_cons (pv 0) pa_nil)) pe_int (nomark _)) (pss_one (ps_ret (pe_cmpR op_eq (pv 1) pe_int (nomark _)))) pss_nil)
      (pss_cons (ps_set (i := 2) scReached.nd rfl (.inl rfl) (pe_ix ix_tup (pv 0) (pe_op op_mod (pv 1) (pe_callB call_len_seq (by rfl) T.len PySem.boot_len (pa_cons (pv 0) pa_nil))) (fun _ _ => rfl)))
      (pss_one (ps_ret (pe_and (pe_cmpR op_notN (pv 2) pe_non (nomark _)) (pe_one (pe_cmpR op_le (pv 2) (pv 1) (nomark _))))))), ?_⟩
    refine ⟨_, rfl, p, _, rfl, .inr (SqT.of hp), rfl, _, rfl, ite2 (fun e => ?_) (fun e => ?_)⟩
    · have e0 : ((a.map optV).length : Int) = 0 := V.int.inj (of_decide_eq_true e)
      rw [List.length_map] at e0
      refine ⟨_, rfl, rfl, ?_⟩
      have e2 : reached a t = decide (V.int (t : Int) = V.int 0) := by
        unfold reached
        rw [if_pos (by omega)]
        by_cases h0 : t = 0
        · subst h0; simp
        · have : ¬ V.int (t : Int) = V.int 0 := fun z => h0 (by have := V.int.inj z; omega)
          rw [decide_eq_false this]
          simpa using h0
      rw [e2] at q
      exact q
    · have e0 : a.length ≠ 0 := fun z => e (decide_eq_true (by rw [List.length_map, z]; rfl))
      have hm : t % a.length < a.length := Nat.mod_lt _ (by omega)
      have em : ((t : Int) % (((a.map optV).length : Nat) : Int)) = ((t % a.length : Nat) : Int) := by rw [List.length_map]; simp
      cases eo : a.getD (t % a.length) none with
      | none =>
        refine ⟨_, rfl, _, rfl, _, rfl, p, _, rfl, .inr (SqT.of hp), _, _, rfl, rfl, (by rw [List.length_map]; omega), p, _, _, _, rfl, rfl, SqT.of hp, (by rw [em]; exact atI_nat (at_opt hm eo)), ?_⟩
        refine ⟨_, rfl, rfl, _, rfl, ?_⟩
        refine iteF ?_
        have e2 : reached a t = false := by
          unfold reached; rw [if_neg e0, eo]
        rw [e2] at q
        exact q
      | some x =>
        refine ⟨_, rfl, _, rfl, _, rfl, p, _, rfl, .inr (SqT.of hp), _, _, rfl, rfl, (by rw [List.length_map]; omega), p, _, _, _, rfl, rfl, SqT.of hp, (by rw [em]; exact atI_nat (at_opt hm eo)), ?_⟩
        refine ⟨_, rfl, rfl, _, rfl, ?_⟩
        refine iteT ⟨_, rfl, _, rfl, _, _, rfl, rfl, ?_⟩
        have e2 : reached a t = decide ((x : Int) ≤ (t : Int)) := by
          unfold reached; rw [if_neg e0, eo]
          by_cases c : x ≤ t
          · rw [decide_eq_true (show (x : Int) ≤ (t : Int) by omega)]
            exact decide_eq_true c
          · rw [decide_eq_false (show ¬ (x : Int) ≤ (t : Int) by omega)]
            exact decide_eq_false c
        rw [e2] at q
        exact q
/-! ### is_sum -/
def spIsSum : Sp := fun vs H Q _ => ∃ (a : Addr) (ns : List Int) (t : Nat), vs = [.ref a, .int t] ∧ H a = some (.tup (ns.map V.int)) ∧ Lens ns ∧ ∀ H', Same H H' → Q (.bl (reached (leasts (ns.map Int.toNat)) t)) H'
theorem scIsSum : FnScope ["lengths", "total"] ["lengths", "total"] (defScope sIsSum) := ⟨rfl, rfl, rfl, by decide +kernel, rfl, by decide +kernel, by decide +kernel⟩
theorem ok_issum {f fR fL : Addr} {fd fdR fdL : FuncData} {k : Nat} (F : Fun K "is_sum" "is_sum" sIsSum f fd)
    (R : Def K mg "is_reached" sReached fR fdR ["least", "total"]) (GR : FnOk P w K mg base CX0 k fR fdR ["least", "total"] spReached)
    (Le : Def K mg "least_sums" sLeast fL fdL ["lengths"]) (GL : FnOk P w K mg base CX0 k fL fdL ["lengths"] spLeast) : FnOk P w K mg base CX0 (k + 1) f fd ["lengths", "total"] spIsSum := by
  refine F.ok scIsSum (fun vs H Q E h => ?_) (fun cdv A' outer s H vs Q E hr h => ?_)
  · obtain ⟨a, ns, t, rfl, _⟩ := h
    rfl
  · obtain ⟨a, ns, t, rfl, hS, L, q⟩ := h
    refine ⟨_, pss_one (ps_ret (pe_call GR hr (by rfl) R.gl R.fn.kp R.bi .nil pass0 (pa_cons (pe_call GL hr (by rfl) Le.gl Le.fn.kp Le.bi .nil pass0 (pa_cons (pv 0) pa_nil)) (pa_cons (pv 1) pa_nil)))), ?_⟩
    exact ⟨_, rfl, a, ns, rfl, hS, L, fun H1 p s1 n1 h1 => ⟨_, rfl, p, _, t, rfl, h1, q H1 s1⟩⟩
end
end Ov
namespace Ov
open PySem PySem.Spec PyProof.Rows L2
/-! ### the least sums of lengths, told of lists of ints -/
theorem lens_rep {n0 : Int} {rest : List Int} (L : Lens (n0 :: rest)) : Rep (Sum ((n0 :: rest).map Int.toNat)) (leasts ((n0 :: rest).map Int.toNat)) ∧ (leasts ((n0 :: rest).map Int.toNat)).length = n0.toNat := by
  have := L.low n0 List.mem_cons_self
  exact leasts_rep (by omega) (rest.map Int.toNat)
theorem asc_last {ns : List Int} (h : ns.Pairwise (· < ·)) (hne : ns ≠ []) : ∀ y ∈ ns, y ≤ ns.getLast hne := by
  intro y hy
  obtain ⟨i, hi, rfl⟩ := List.mem_iff_getElem.mp hy
  rw [List.getLast_eq_getElem]
  by_cases e : i = ns.length - 1
  · subst e; exact Int.le_refl _
  · exact Int.le_of_lt (List.pairwise_iff_getElem.mp h i (ns.length - 1) hi (by omega) (by omega))
/-! ### least sums as data -/
def optD : Option Nat → PyData
  | none => .none
  | some x => .int x
theorem dp_opts {K : PySem.W.Frag} {H : Hp} : ∀ a : List (Option Nat), DpAll K H (a.map optV) (a.map optD)
  | [] => .nil
  | none :: a => .cons .non (dp_opts a)
  | some x :: a => .cons (.int x) (dp_opts a)
theorem leasts_small {ns : List Int} (L : Lens ns) : (leasts (ns.map Int.toNat)).length ≤ 1000 ∧ ∀ o ∈ leasts (ns.map Int.toNat), ∀ x, o = some x → x ≤ 1000000 := by
  cases ns with
  | nil => exact ⟨Nat.zero_le _, fun o h => nomatch h⟩
  | cons n0 rest =>
    obtain ⟨hR, hlen⟩ := lens_rep L
    have hn := L.low n0 List.mem_cons_self
    refine ⟨by omega, fun o ho x e => ?_⟩
    subst e
    obtain ⟨r, hr⟩ := List.mem_iff_getElem?.mp ho
    have hb := least_le hR (M := 1000) (fun l hl => by
      obtain ⟨z, hz, rfl⟩ := List.mem_map.mp hl
      have := L.low z hz
      omega) (r := r) (x := x) (by rw [List.getD_eq_getElem?_getD, hr]; rfl)
    rw [hlen] at hb
    have : (n0.toNat - 1) * 1000 ≤ 1000 * 1000 := Nat.mul_le_mul_right _ (by omega)
    omega
theorem small_nat {x : Nat} (h : x ≤ 1000000) : ((x : Int)).natAbs < 2 ^ 1000 := by
  rw [Int.natAbs_natCast]
  exact Nat.lt_of_lt_of_le (show x < 2 ^ 20 by omega) (Nat.pow_le_pow_right (by decide) (by decide))
theorem flat_opts {a : List (Option Nat)} (h : ∀ o ∈ a, ∀ x, o = some x → x ≤ 1000000) : Flat (a.map optD) := flat_of fun d hd => by
  obtain ⟨o, ho, rfl⟩ := List.mem_map.mp hd
  cases o with
  | none => exact .non
  | some x => exact .small (small_nat (h _ ho x rfl))
/-- one value by its keyword -/
def one1 {α : Type} : List α → List α → List α
  | [], [a] => [a]
  | _, _ => []
theorem one1_len {α : Type} {us ws : List α} (h : (one1 us ws).length = 1) : ∃ a, us = [] ∧ ws = [a] := by
  match us, ws, h with
  | [], [a], _ => exact ⟨a, rfl, rfl⟩
  | [], [], h => cases h
  | [], _ :: _ :: _, h => cases h
  | _ :: _, _, h => cases h
theorem one1_rel {vs : List V} {us : List Value} {zs : List V} {ws : List Value} (r : Vals vs us) (rz : Vals zs ws) : Vals (one1 vs zs) (one1 us ws) := by
  cases r with
  | nil =>
    cases rz with
    | nil => exact .nil
    | cons r1 rz =>
      cases rz with
      | nil => exact .cons r1 .nil
      | cons r2 rz => exact .nil
  | cons r1 r => exact .nil
theorem same_but {p : Addr} {H H1 H2 : Hp} (hp : H p = none) (s : Same H H1) (b : But p H1 H2) : Same H H2 := fun c o e => b c o (s c o e) (ne_of_none e hp)
end Ov
namespace Ov
open PySem PySem.Spec PyProof.Rows L2
/-- the least sums, where all are numbers -/
def lx (ns : List Int) : List Nat := (leasts (ns.map Int.toNat)).map fun o => o.getD 0
def condV (ns : List Int) : V := if gcdAll (ns.map Int.toNat) = 1 then .int ((top' (lx ns) : Int) - ((lx ns).length : Int) + 1) else .non
def gapV (ns : List Int) : V := if gcdAll (ns.map Int.toNat) = 1 then .int ((((lx ns).map fun x => x / (lx ns).length).sum : Nat) : Int) else .non
/-- what is known of the least sums of lengths without a common divisor -/
structure Full (ns : List Int) (m : Nat) (rest : List Nat) : Prop where
  cons : ns.map Int.toNat = m :: rest
  pos : 0 < m
  small : m ≤ 1000
  all : leasts (ns.map Int.toNat) = (lx ns).map some
  len : (lx ns).length = m
  rep : Rep (Sum (m :: rest)) ((lx ns).map some)
  mod : ∀ (r : Nat) (hr : r < (lx ns).length), (lx ns)[r] % m = r
theorem full_of {ns : List Int} (L : Lens ns) (hg : gcdAll (ns.map Int.toNat) = 1) : ∃ m rest, Full ns m rest := by
  cases ns with
  | nil => exact absurd hg (by decide)
  | cons n0 r =>
    have hn := L.low n0 List.mem_cons_self
    obtain ⟨hR, hlen⟩ := lens_rep L
    obtain ⟨xs, e, hl, hx⟩ := rep_full (m := n0.toNat) (rest := r.map Int.toNat) (by omega) hg hR hlen
    have ex : lx (n0 :: r) = xs := by
      unfold lx
      rw [e, List.map_map]
      exact List.map_id _
    refine ⟨n0.toNat, r.map Int.toNat, rfl, by omega, by omega, by rw [ex]; exact e, by rw [ex]; exact hl, by rw [ex, ← e]; exact hR, ?_⟩
    rw [ex]
    exact fun r hr => (hx r hr).1
theorem optV_some (xs : List Nat) : (xs.map some).map optV = (xs.map fun x : Nat => (x : Int)).map V.int := by
  rw [List.map_map, List.map_map]
  rfl
theorem foldl_max_cast : ∀ (l : List Nat) (n : Nat), (l.map fun x : Nat => (x : Int)).foldl max (n : Int) = ((l.foldl max n : Nat) : Int)
  | [], _ => rfl
  | x :: l, n => by
    rw [List.map_cons, List.foldl_cons, List.foldl_cons, ← foldl_max_cast l (max n x)]
    congr 1
    omega
theorem sum_cast : ∀ l : List Nat, (l.map fun x : Nat => (x : Int)).sum = ((l.sum : Nat) : Int)
  | [] => rfl
  | x :: l => by rw [List.map_cons, List.sum_cons, List.sum_cons, sum_cast l, Int.natCast_add]
section
variable {P : Program} {w : World} {K : PySem.W.Frag} {mg : Str → Option Value} {base : Heap}
/-! ### conductor -/
def spCond : Sp := fun vs H Q _ => ∃ (a : Addr) (ns : List Int), vs = [.ref a] ∧ H a = some (.tup (ns.map V.int)) ∧ Lens ns ∧ ∀ H', Same H H' → Q (condV ns) H'
theorem scCond : FnScope ["lengths", "least"] ["lengths"] (defScope sConductor) := ⟨rfl, rfl, rfl, by decide +kernel, rfl, by decide +kernel, by decide +kernel⟩
theorem ok_cond {f fC fL : Addr} {fd fdC fdL : FuncData} {k : Nat} (F : Fun K "conductor" "conductor" sConductor f fd) (T : Bi mg)
    (C : Def K mg "common_divisor" sCommon fC fdC ["lengths"]) (GC : FnOk P w K mg base CX0 k fC fdC ["lengths"] spCommon)
    (Le : Def K mg "least_sums" sLeast fL fdL ["lengths"]) (GL : FnOk P w K mg base CX0 k fL fdL ["lengths"] spLeast) : FnOk P w K mg base CX0 (k + 1) f fd ["lengths"] spCond := by
  refine F.ok scCond (fun vs H Q E h => ?_) (fun cdv A' outer s H vs Q E hr h => ?_)
  · obtain ⟨a, ns, rfl, _⟩ := h
    rfl
  · obtain ⟨a, ns, rfl, hS, L, q⟩ := h
    refine ⟨_, pss_cons (ps_if (pt_cmpR op_ne (pe_call GC hr (by rfl) C.gl C.fn.kp C.bi .nil pass0 (pa_cons (pv 0) pa_nil)) pe_int (nomark _)) (pss_one (ps_ret pe_non)) pss_nil)
      (pss_cons (ps_set (i := 1) scCond.nd rfl (.inl rfl) (pe_call GL hr (by rfl) Le.gl Le.fn.kp Le.bi .nil pass0 (pa_cons (pv 0) pa_nil)))
      (pss_one (ps_ret (pe_op op_add (pe_op op_sub (pe_callB (cr_maxT rfl hr) (by rfl) T.max (by decide +kernel) (pa_cons (pv 1) pa_nil)) (pe_callB call_len_seq (by rfl) T.len PySem.boot_len (pa_cons (pv 1) pa_nil))) pe_int)))), ?_⟩
    refine ⟨_, rfl, a, ns, rfl, hS, L, fun H1 s1 => ⟨rfl, _, rfl, ?_⟩⟩
    by_cases hg : gcdAll (ns.map Int.toNat) = 1
    · rw [decide_eq_true (show V.int ((gcdAll (ns.map Int.toNat) : Nat) : Int) = V.int 1 by rw [hg]; rfl)]
      refine iteF ⟨_, rfl, a, ns, rfl, s1 _ _ hS, L, fun H2 p s2 n2 h2 => ?_⟩
      obtain ⟨m, rest, Fu⟩ := full_of L hg
      rw [Fu.all, optV_some] at h2
      have hlen := Fu.len
      have hpos := Fu.pos
      have q' := q
      unfold condV at q'
      rw [if_pos hg] at q'
      generalize lx ns = xs at *
      cases xs with
      | nil => simp at hlen; omega
      | cons x xs =>
        refine ⟨_, rfl, p, (x : Int), xs.map fun x : Nat => (x : Int), rfl, SqT.of h2, ?_⟩
        rw [foldl_max_cast]
        refine ⟨_, rfl, p, _, rfl, .inr (SqT.of h2), _, _, rfl, rfl, _, _, rfl, rfl, ?_⟩
        rw [List.length_map, List.length_map]
        exact q' H2 (s1.trans s2)
    · rw [decide_eq_false (show ¬ V.int ((gcdAll (ns.map Int.toNat) : Nat) : Int) = V.int 1 from fun z => hg (by have := V.int.inj z; omega))]
      have q' := q
      unfold condV at q'
      rw [if_neg hg] at q'
      exact iteT (q' H1 s1)
/-! ### gap_count -/
def spGap : Sp := fun vs H Q _ => ∃ (a : Addr) (ns : List Int), vs = [.ref a] ∧ H a = some (.tup (ns.map V.int)) ∧ Lens ns ∧ ∀ H', Same H H' → Q (gapV ns) H'
theorem scGap : FnScope ["lengths", "least", "reached"] ["lengths"] (defScope sGap) := ⟨rfl, rfl, rfl, by decide +kernel, rfl, by decide +kernel, by decide +kernel⟩
theorem ok_gap {f fC fL : Addr} {fd fdC fdL : FuncData} {k : Nat} (F : Fun K "gap_count" "gap_count" sGap f fd) (T : Bi mg)
    (C : Def K mg "common_divisor" sCommon fC fdC ["lengths"]) (GC : FnOk P w K mg base CX0 k fC fdC ["lengths"] spCommon)
    (Le : Def K mg "least_sums" sLeast fL fdL ["lengths"]) (GL : FnOk P w K mg base CX0 k fL fdL ["lengths"] spLeast) : FnOk P w K mg base CX0 (k + 1) f fd ["lengths"] spGap := by
  refine F.ok scGap (fun vs H Q E h => ?_) (fun cdv A' outer s H vs Q E hr h => ?_)
  · obtain ⟨a, ns, rfl, _⟩ := h
    rfl
  · obtain ⟨a, ns, rfl, hS, L, q⟩ := h
    refine ⟨_, pss_cons (ps_if (pt_cmpR op_ne (pe_call GC hr (by rfl) C.gl C.fn.kp C.bi .nil pass0 (pa_cons (pv 0) pa_nil)) pe_int (nomark _)) (pss_one (ps_ret pe_non)) pss_nil)
      (pss_cons (ps_set (i := 1) scGap.nd rfl (.inr rfl) (pe_call GL hr (by rfl) Le.gl Le.fn.kp Le.bi .nil pass0 (pa_cons (pv 0) pa_nil)))
      (pss_one (ps_ret (pe_callB (cr_sum rfl) (by rfl) T.sum (by decide +kernel) (pa_cons
        (pe_lc (own := [("reached", 2)]) (g := gName 2) (tt := tYes) (te := tOp (rI CDiv fun i j => .int (i / j)) (tVar 2) (tCB (fun xs H Q => ∃ p ys, xs = [V.ref p] ∧ (SqL K H p ys ∨ SqT K H p ys) ∧ Q (.int ys.length) H) (tCons (tVar 1) tNil))) (by rfl) scGap.nd (pi_tup (pv 1))
          (blkOk_by (own := [("reached", 2)]) (N := ["lengths", "least", "reached"]) (sc := defScope sGap) (by decide +kernel))
          (fun _ _ _ _ _ => pg_name (i := 2) scGap.nd rfl (Or.inl rfl)) (fun _ _ _ _ _ => pts_nil)
          (fun _ _ _ _ _ => pe_op op_fdiv (pv 2) (pe_callB call_len_seq (by rfl) T.len PySem.boot_len (pa_cons (pv 1) pa_nil)))) pa_nil))))), ?_⟩
    refine ⟨_, rfl, a, ns, rfl, hS, L, fun H1 s1 => ⟨rfl, _, rfl, ?_⟩⟩
    by_cases hg : gcdAll (ns.map Int.toNat) = 1
    · rw [decide_eq_true (show V.int ((gcdAll (ns.map Int.toNat) : Nat) : Int) = V.int 1 by rw [hg]; rfl)]
      refine iteF ⟨_, rfl, a, ns, rfl, s1 _ _ hS, L, fun H2 p s2 n2 h2 => ?_⟩
      obtain ⟨m, rest, Fu⟩ := full_of L hg
      rw [Fu.all, optV_some] at h2
      have hlen := Fu.len
      have hpos := Fu.pos
      have hsm := Fu.small
      have q' := q
      unfold gapV at q'
      rw [if_pos hg] at q'
      generalize lx ns = xs at *
      rw [hlen] at q'
      refine ⟨_, rfl, p, rfl, ⟨_, SqT.of h2⟩, fun D nD => lc_tup (K := K) (a := p) (xs := (xs.map fun x : Nat => (x : Int)).map V.int) (fun i H3 => Mk H2 H3 D ((((xs.take i).map fun x => x / m).map fun x : Nat => (x : Int)).map V.int)) (.start nD) (fun i H3 _ mk => mk.same.tup (SqT.of h2)) ?_ ?_⟩
      · intro i x H3 hx mk
        have hi : i < xs.length := by
          have := (List.getElem?_eq_some_iff.mp hx).1
          rwa [List.length_map, List.length_map] at this
        have ex : x = .int ((xs[i] : Nat) : Int) := by
          rw [List.getElem?_map, List.getElem?_map, List.getElem?_eq_getElem hi] at hx
          exact (Option.some.inj hx).symm
        subst ex
        refine ⟨rfl, _, rfl, _, rfl, p, _, rfl, .inr (SqT.of (mk.same _ _ h2)), _, _, rfl, rfl, ⟨?_, ?_⟩, _, mk.at_, ?_, ?_⟩
        · rw [List.length_map, List.length_map, hlen]; omega
        · rw [List.length_map, List.length_map, hlen]; omega
        · rw [List.length_map, List.length_map, List.length_map, List.length_take]
          exact small1000 (by omega)
        · rw [take_more (List.getElem?_eq_getElem hi), List.map_append, List.map_append, List.map_append]
          have e : V.int (((xs[i] : Nat) : Int) / ((((xs.map fun x : Nat => (x : Int)).map V.int).length : Nat) : Int)) = V.int (((xs[i] / m : Nat)) : Int) := by
            rw [List.length_map, List.length_map, hlen]; simp
          show Mk H2 (upd H3 D (.lst (_ ++ [V.int (((xs[i] : Nat) : Int) / ((((xs.map fun x : Nat => (x : Int)).map V.int).length : Nat) : Int))]))) D _
          rw [e]
          exact mk.put (Same.refl H3)
      · intro H3 mk
        rw [List.length_map, List.length_map, List.take_length] at mk
        refine ⟨D, _, rfl, SqL.of mk.at_, ?_⟩
        rw [sum_cast]
        exact q' H3 ((s1.trans s2).trans mk.same)
    · rw [decide_eq_false (show ¬ V.int ((gcdAll (ns.map Int.toNat) : Nat) : Int) = V.int 1 from fun z => hg (by have := V.int.inj z; omega))]
      have q' := q
      unfold gapV at q'
      rw [if_neg hg] at q'
      exact iteT (q' H1 s1)
end
end Ov
namespace Ov
open PySem PySem.Spec PyProof.Rows L2
/-! ### errors of one attribute: made, raised -/
def spExcI (C : Addr) (n : Str) : Sp := fun vs H Q _ => ∃ (a : Addr) (v : V), vs = [.ref a, v] ∧ H a = some (exo a C none) ∧ ∀ dx, H dx = none → dx ≠ a → Q .non (upd (upd H dx (exd dx [(n, v)])) a (exo a C (some dx)))
/-- what the top says of such a class -/
structure Er (P : Program) (w : World) (K : PySem.W.Frag) (mg : Str → Option Value) (base : Heap) (k : Nat) (C : Addr) (n : Str) : Prop where
  ox : OexC K C
  ex : ∃ fI fd, PySem.W.findIn K (.ref C) "__init__" = some (some (.ref fI)) ∧ PySem.W.typeIn K (.ref fI) = some (.type "function") ∧ FnOk P w K mg base CX0 k fI fd ["self", n] (spExcI C n) ∧ Binds K fd ["self", n] []
  xf : XfC K C
  no : PySem.W.findIn K (.ref C) n = some none
/-- an error is raised: its class, its dict, that it bears v, and that all that stood stands -/
def Rz (C : Addr) (n : Str) (v : V) (H : Hp) (E : XK) : Prop := ∀ (H' : Hp) (dd : Addr), Same H H' → H dd = none → H' dd = some (.xd [(n, v)]) → E (.ref C) (some dd) H'
theorem Rz.same {C : Addr} {n : Str} {v : V} {H H1 : Hp} {E : XK} (h : Rz C n v H E) (s : Same H H1) : Rz C n v H1 E := fun H' dd s' nd hd => h H' dd (s.trans s') (s.free nd) hd
theorem raise_reads {C : Addr} {n : Str} {v : V} {H : Hp} {E : XK} (h : Rz C n v H E) : ∀ a, H a = none → spExcI C n [.ref a, v] (upd H a (exo a C none)) (fun u H2 => u = .non ∧ ∃ (d : Addr) (fs : List (Str × V)), H2 a = some (exo a C (some d)) ∧ H2 d = some (exd d fs) ∧ H d = none ∧ E (.ref C) (some d) (upd (del H2 a) d (.xd fs))) (fun _ _ _ => False) := by
  intro a na
  refine ⟨a, v, rfl, upd_same, fun dx ndx ne => ⟨rfl, dx, [(n, v)], upd_same, ?_, ?_, ?_⟩⟩
  · rw [upd_ne ne, upd_same]
  · rw [upd_ne ne] at ndx
    exact ndx
  · have nd : H dx = none := by
      rw [upd_ne ne] at ndx
      exact ndx
    refine h _ dx (fun b o e => ?_) nd upd_same
    have b1 : b ≠ dx := ne_of_none e nd
    have b2 : b ≠ a := ne_of_none e na
    rw [upd_ne b1, del_ne b2, upd_ne b2, upd_ne b1, upd_ne b2]
    exact e
section
variable {P : Program} {w : World} {K : PySem.W.Frag} {mg : Str → Option Value} {base : Heap}
abbrev sIInvalidLengths : Stmt := inClass cInvalidLengths 0
theorem scIInvalidLengths : FnScope ["self", "value"] ["self", "value"] (defScope sIInvalidLengths) := ⟨rfl, rfl, rfl, by decide +kernel, rfl, by decide +kernel, by decide +kernel⟩
theorem okIInvalidLengths {f C : Addr} {fd : FuncData} {k : Nat} (F : Fun K "__init__" "InvalidLengths.__init__" sIInvalidLengths f fd) (T : OexC K C) (hn : PySem.W.findIn K (.ref C) "value" = some none) : FnOk P w K mg base CX0 (k + 1) f fd ["self", "value"] (spExcI C "value") := by
  refine F.ok scIInvalidLengths (fun vs H Q E h => ?_) (fun cdv A' outer s H vs Q E hr h => ?_)
  · obtain ⟨a, v, rfl, _⟩ := h
    rfl
  · obtain ⟨a, v, rfl, ha, q⟩ := h
    refine ⟨_, pss_one (ps_ost (pv 0) (pv 1)), ?_⟩
    exact ⟨_, rfl, _, rfl, a, C, rfl, T, hn, .inl ⟨ha, fun dx n ne => q dx n ne⟩⟩
/-! ### check_lengths and the six defs where the lengths are invalid -/
def spLx (K : PySem.W.Frag) (C : Addr) : Sp := fun vs H _ E => ∃ (v : V) (d : PyData), vs = [v] ∧ Dx K H v d ∧ (∀ ds, d = .tuple ds → ds.length ≤ 1000) ∧ isLensD d = false ∧ Rz C "value" v H E
def spLx2 (K : PySem.W.Frag) (C : Addr) : Sp := fun vs H _ E => ∃ (v u : V) (d : PyData), vs = [v, u] ∧ Dx K H v d ∧ (∀ ds, d = .tuple ds → ds.length ≤ 1000) ∧ isLensD d = false ∧ Rz C "value" v H E
theorem ok_ckLx {f fA C : Addr} {fd fdA : FuncData} {k : Nat} (F : Fun K "check_lengths" "check_lengths" sCheck f fd) (gC : mg "InvalidLengths" = some (.ref C)) (Ex : Er P w K mg base k C "value")
    (A : Def K mg "are_lengths" sAre fA fdA ["value"]) (GA : FnOk P w K mg base CX0 (k + 1) fA fdA ["value"] (spAreX K)) : FnOk P w K mg base (L2.CX P w) (k + 2) f fd ["lengths"] (spLx K C) := by
  obtain ⟨fI, fdI, i1, i2, GI, bI⟩ := Ex.ex
  refine F.okX scCheck (fun vs H Q E h => ?_) (fun cdv A' outer s H vs Q E hr h => ?_)
  · obtain ⟨v, d, rfl, _⟩ := h
    rfl
  · obtain ⟨v, d, rfl, D, hl, bad, q⟩ := h
    refine ⟨_, pss_one (ps_if (pt_not (pt_val (pe_call GA hr (by rfl) A.gl A.fn.kp A.bi .nil pass0 (pa_cons (pv 0) pa_nil)))) (pss_one (ps_raise rfl (takes_of rfl rfl rfl rfl) (pmk_oex Ex.ox i1 i2 GI hr bI .nil pass0 (by rfl) gC (pa_cons (pv 0) pa_nil)))) pss_nil), ?_⟩
    refine ⟨_, rfl, v, d, rfl, D, hl, fun H' s' => ?_⟩
    rw [bad]
    exact ⟨_, rfl, iteT ⟨_, rfl, by show 1 ≤ 1000; decide, raise_reads (q.same s')⟩⟩
theorem ok_commonX {f fC C : Addr} {fd fdC : FuncData} {k : Nat} (F : Fun K "common_divisor" "common_divisor" sCommon f fd) (Ck : Def K mg "check_lengths" sCheck fC fdC ["lengths"]) (GC : FnOk P w K mg base (L2.CX P w) k fC fdC ["lengths"] (spLx K C)) :
    FnOk P w K mg base (L2.CX P w) (k + 1) f fd ["lengths"] (spLx K C) := by
  refine F.okX scCommon (fun vs H Q E h => ?_) (fun cdv A' outer s H vs Q E hr h => ?_)
  · obtain ⟨v, d, rfl, _⟩ := h
    rfl
  · obtain ⟨v, d, rfl, D, hl, bad, q⟩ := h
    refine ⟨_, pss_cons (ps_expr (pe_call GC hr (by rfl) Ck.gl Ck.fn.kp Ck.bi .nil (passes_call (takes_of rfl rfl rfl rfl) (fun _ _ _ _ z => z)) (pa_cons (pv 0) pa_nil))) (pss_cons ps_never (pss_cons ps_never (pss_one ps_never))), ?_⟩
    exact ⟨_, rfl, v, d, rfl, D, hl, bad, q⟩
theorem ok_leastX {f fC C : Addr} {fd fdC : FuncData} {k : Nat} (F : Fun K "least_sums" "least_sums" sLeast f fd) (Ck : Def K mg "check_lengths" sCheck fC fdC ["lengths"]) (GC : FnOk P w K mg base (L2.CX P w) k fC fdC ["lengths"] (spLx K C)) :
    FnOk P w K mg base (L2.CX P w) (k + 1) f fd ["lengths"] (spLx K C) := by
  refine F.okX scLeast (fun vs H Q E h => ?_) (fun cdv A' outer s H vs Q E hr h => ?_)
  · obtain ⟨v, d, rfl, _⟩ := h
    rfl
  · obtain ⟨v, d, rfl, D, hl, bad, q⟩ := h
    refine ⟨_, pss_cons (ps_expr (pe_call GC hr (by rfl) Ck.gl Ck.fn.kp Ck.bi .nil (passes_call (takes_of rfl rfl rfl rfl) (fun _ _ _ _ z => z)) (pa_cons (pv 0) pa_nil))) (pss_cons ps_never (pss_cons ps_never (pss_cons ps_never (pss_one ps_never)))), ?_⟩
    exact ⟨_, rfl, v, d, rfl, D, hl, bad, q⟩
theorem ok_condX {f fC C : Addr} {fd fdC : FuncData} {k : Nat} (F : Fun K "conductor" "conductor" sConductor f fd) (Cd : Def K mg "common_divisor" sCommon fC fdC ["lengths"]) (GC : FnOk P w K mg base (L2.CX P w) k fC fdC ["lengths"] (spLx K C)) :
    FnOk P w K mg base (L2.CX P w) (k + 1) f fd ["lengths"] (spLx K C) := by
  refine F.okX scCond (fun vs H Q E h => ?_) (fun cdv A' outer s H vs Q E hr h => ?_)
  · obtain ⟨v, d, rfl, _⟩ := h
    rfl
  · obtain ⟨v, d, rfl, D, hl, bad, q⟩ := h
    refine ⟨_, pss_cons (ps_if (pt_cmpR op_ne (pe_call GC hr (by rfl) Cd.gl Cd.fn.kp Cd.bi .nil (passes_call (takes_of rfl rfl rfl rfl) (fun _ _ _ _ z => z)) (pa_cons (pv 0) pa_nil)) pe_int (nomark _)) (pss_one ps_never) pss_nil) (pss_cons ps_never (pss_one ps_never)), ?_⟩
    exact ⟨_, rfl, v, d, rfl, D, hl, bad, q⟩
theorem ok_gapX {f fC C : Addr} {fd fdC : FuncData} {k : Nat} (F : Fun K "gap_count" "gap_count" sGap f fd) (Cd : Def K mg "common_divisor" sCommon fC fdC ["lengths"]) (GC : FnOk P w K mg base (L2.CX P w) k fC fdC ["lengths"] (spLx K C)) :
    FnOk P w K mg base (L2.CX P w) (k + 1) f fd ["lengths"] (spLx K C) := by
  refine F.okX scGap (fun vs H Q E h => ?_) (fun cdv A' outer s H vs Q E hr h => ?_)
  · obtain ⟨v, d, rfl, _⟩ := h
    rfl
  · obtain ⟨v, d, rfl, D, hl, bad, q⟩ := h
    refine ⟨_, pss_cons (ps_if (pt_cmpR op_ne (pe_call GC hr (by rfl) Cd.gl Cd.fn.kp Cd.bi .nil (passes_call (takes_of rfl rfl rfl rfl) (fun _ _ _ _ z => z)) (pa_cons (pv 0) pa_nil)) pe_int (nomark _)) (pss_one ps_never) pss_nil) (pss_cons ps_never (pss_one ps_never)), ?_⟩
    exact ⟨_, rfl, v, d, rfl, D, hl, bad, q⟩
theorem ok_issumX {f fL fR C : Addr} {fd fdL fdR : FuncData} {k : Nat} (F : Fun K "is_sum" "is_sum" sIsSum f fd) (L : Def K mg "least_sums" sLeast fL fdL ["lengths"]) (GL : FnOk P w K mg base (L2.CX P w) k fL fdL ["lengths"] (spLx K C))
    (R : Def K mg "is_reached" sReached fR fdR ["least", "total"]) (GR : FnOk P w K mg base CX0 k fR fdR ["least", "total"] spReached) :
    FnOk P w K mg base (L2.CX P w) (k + 1) f fd ["lengths", "total"] (spLx2 K C) := by
  refine F.okX scIsSum (fun vs H Q E h => ?_) (fun cdv A' outer s H vs Q E hr h => ?_)
  · obtain ⟨v, u, d, rfl, _⟩ := h
    rfl
  · obtain ⟨v, u, d, rfl, D, hl, bad, q⟩ := h
    refine ⟨_, pss_one (ps_ret (pe_call GR hr (by rfl) R.gl R.fn.kp R.bi .nil pass0 (pa_cons (pe_call GL hr (by rfl) L.gl L.fn.kp L.bi .nil (passes_call (takes_of rfl rfl rfl rfl) (fun _ _ _ _ z => z)) (pa_cons (pv 0) pa_nil)) (pa_cons (pv 1) pa_nil)))), ?_⟩
    exact ⟨_, rfl, v, d, rfl, D, hl, bad, q⟩
theorem scParts : FnScope ["lengths", "total", "least", "reached", "counts", "length"] ["lengths", "total"] (defScope sParts) := ⟨rfl, rfl, rfl, by decide +kernel, rfl, by decide +kernel, by decide +kernel⟩
theorem ok_partsX {f fL C : Addr} {fd fdL : FuncData} {k : Nat} (F : Fun K "sum_parts" "sum_parts" sParts f fd) (L : Def K mg "least_sums" sLeast fL fdL ["lengths"]) (GL : FnOk P w K mg base (L2.CX P w) k fL fdL ["lengths"] (spLx K C)) :
    FnOk P w K mg base (L2.CX P w) (k + 1) f fd ["lengths", "total"] (spLx2 K C) := by
  refine F.okX scParts (fun vs H Q E h => ?_) (fun cdv A' outer s H vs Q E hr h => ?_)
  · obtain ⟨v, u, d, rfl, _⟩ := h
    rfl
  · obtain ⟨v, u, d, rfl, D, hl, bad, q⟩ := h
    refine ⟨_, pss_cons (ps_set (i := 2) scParts.nd rfl (.inl rfl) (pe_call GL hr (by rfl) L.gl L.fn.kp L.bi .nil (passes_call (takes_of rfl rfl rfl rfl) (fun _ _ _ _ z => z)) (pa_cons (pv 0) pa_nil))) (pss_cons ps_never (pss_cons ps_never (pss_cons ps_never (pss_cons ps_never (pss_cons ps_never (pss_one ps_never)))))), ?_⟩
    exact ⟨_, rfl, v, d, rfl, D, hl, bad, q⟩
end
end Ov
namespace Ov
open PySem PySem.Spec PyProof.Rows L2 LamX
/-! ### _law_word: whether a lambda raises InvalidLengths alone, with the value -/
/-- InvalidLengths (0), eight others, the class of all (9) -/
structure Err9 (K : PySem.W.Frag) (mg : Str → Option Value) (C : Nat → Addr) : Prop where
  g0 : mg "InvalidLengths" = some (.ref (C 0))
  g1 : mg "InvalidCode" = some (.ref (C 1))
  g2 : mg "InvalidCountdowns" = some (.ref (C 2))
  g3 : mg "InvalidEntries" = some (.ref (C 3))
  g4 : mg "InvalidEntry" = some (.ref (C 4))
  g5 : mg "InvalidNumber" = some (.ref (C 5))
  g6 : mg "InvalidOffset" = some (.ref (C 6))
  g7 : mg "InvalidProgram" = some (.ref (C 7))
  g8 : mg "InvalidTimes" = some (.ref (C 8))
  gO : mg "OverlapError" = some (.ref (C 9))
  ex : ExcC K (C 0)
  kit : ∀ j, j < 9 → PySem.W.kitOne K (.ref (C 0)) (.ref (C j)) = some (decide (j = 0))
  kitV : PySem.W.kitOne K (.ref (C 0)) (.type "ValueError") = some true
  exm : PySem.W.exmOne K (.ref (C 0)) (.ref (C 9)) = some true
  xf : XfC K (C 0)
  no : PySem.W.findIn K (.ref (C 0)) "value" = some none
theorem Err9.any5 {K : PySem.W.Frag} {mg : Str → Option Value} {C : Nat → Addr} (S : Err9 K mg C) : PySem.W.kitAny K (.ref (C 0)) [.ref (C 1), .ref (C 2), .ref (C 3), .ref (C 4), .ref (C 5)] = some false :=
  kitAny_cons (S.kit 1 (by decide)) (fun _ => kitAny_cons (S.kit 2 (by decide)) (fun _ => kitAny_cons (S.kit 3 (by decide)) (fun _ => kitAny_cons (S.kit 4 (by decide)) (fun _ => kitAny_cons (S.kit 5 (by decide)) (fun _ => rfl) (fun z => nomatch z)) (fun z => nomatch z)) (fun z => nomatch z)) (fun z => nomatch z)) (fun z => nomatch z)
theorem Err9.any3 {K : PySem.W.Frag} {mg : Str → Option Value} {C : Nat → Addr} (S : Err9 K mg C) : PySem.W.kitAny K (.ref (C 0)) [.ref (C 6), .ref (C 7), .ref (C 8)] = some false :=
  kitAny_cons (S.kit 6 (by decide)) (fun _ => kitAny_cons (S.kit 7 (by decide)) (fun _ => kitAny_cons (S.kit 8 (by decide)) (fun _ => rfl) (fun z => nomatch z)) (fun z => nomatch z)) (fun z => nomatch z)
/-- the answer, all that stood stands -/
def Said (x : Str) (Q : VK) (H : Hp) : Prop := ∀ G, Same H G → Q (.str x) G
theorem Said.same {x : Str} {Q : VK} {H H' : Hp} (h : Said x Q H) (s : Same H H') : Said x Q H' := fun G s' => h G (s.trans s')
/-- the class is raised with v -/
def RaisedW (C : Nat → Addr) (v : V) (d : PyData) (Q : VK) : XK := fun cls dx H => ∃ dd : Addr, cls = .ref (C 0) ∧ dx = some dd ∧ H dd = some (.xd [("value", v)]) ∧ Dz H v d ∧ Shz d 60 ∧ Said "invalid" Q H
def TTw (C : Nat → Addr) : (XK → Hp → VK → Prop) → List V → Hp → VK → Prop := fun tl vs H Q =>
  ∃ (v : V) (d : PyData), vs = [v] ∧ ∀ (G : Hp) (E : XK) (R : VK), Same H G → (∀ cls dx H', RaisedW C v d Q cls dx H' → E cls dx H') → (∀ u H', Said "valid" Q H' → R u H') → tl E G R
abbrev nWord : List Str := ["_law_call", "_law_value", "_law_caught", "error"]
theorem scWord : FnScope nWord ["_law_call", "_law_value"] (defScope s_law_word) := ⟨rfl, rfl, rfl, by decide +kernel, rfl, by decide +kernel, by decide +kernel⟩
section
variable {X : Cx} {C : Nat → Addr}
theorem gives_word {g : Addr} {cdg : Value} {q : Str} {k : Nat} (T : Bi X.mg) (S : Err9 X.K X.mg C) (gd : X.A.guards = some []) (hr : Room (k + 1) X.A) : Gives X nWord "_law_word" (defScope s_law_word) g cdg (defBody s_law_word) "_law_call" q (TTw C) := by
  intro f c' s H vs Q tl act hc h
  obtain ⟨v, dv, rfl, h⟩ := h
  have hr' := hr.deeper (envOfC "_law_word" (defScope s_law_word) s.heap.objs.size g cdg)
  refine ⟨_, pss_cons (ps_set (i := 2) scWord.nd rfl (.inl rfl) pe_non)
    (C8.pss_cut (ps_keep (X := (cxOf CX0 X.prog X.w X.K X.mg X.base nWord "_law_word" (defScope s_law_word) g cdg X.A X.stack s H E0).nox) (c := .ref (C 9)) (i := 3)
      (tb := fun W => tDrop (fun τ G R => τ[0]? = some (some (.ref f)) ∧ G c' = some (CodeO c' q) ∧ tl (WE W τ) G R))
      (ts := fun a cls d => tAsg (tVar 3) (gName 2))
      rfl rfl rfl scWord.nd rfl rfl ⟨rfl, by decide, .inl S.gO⟩ L2.takes0
      (fun W pn xe tk _ => pss_one (ps_expr (act W pn xe _ _ tk)))
      (fun a ob cls d pn hz hf => pss_one (ps_set (i := 2) scWord.nd rfl (.inl rfl) (pv 3))))
    (pss_cons (ps_if (pt_cmpR op_isN (pv 2) pe_non (nomark _)) (pss_one (ps_ret pe_str)) pss_nil)
    (pss_cons (ps_if (pt_val (pe_callB call_isZT (by rfl) T.isi (by decide +kernel) (pa_cons (pv 2) (pa_cons (pe_tup (pa_cons (pe_glob (v := .ref (C 1)) (by rfl) S.g1 rfl) (pa_cons (pe_glob (v := .ref (C 2)) (by rfl) S.g2 rfl) (pa_cons (pe_glob (v := .ref (C 3)) (by rfl) S.g3 rfl)
        (pa_cons (pe_glob (v := .ref (C 4)) (by rfl) S.g4 rfl) (pa_cons (pe_glob (v := .ref (C 5)) (by rfl) S.g5 rfl) pa_nil)))))) pa_nil)))) (pss_one (ps_ret pe_str)) pss_nil)
    (pss_cons (ps_if (PW.pt (pw_or (pt_val (pe_callB call_isZT (by rfl) T.isi (by decide +kernel) (pa_cons (pv 2) (pa_cons (pe_tup (pa_cons (pe_glob (v := .ref (C 6)) (by rfl) S.g6 rfl) (pa_cons (pe_glob (v := .ref (C 7)) (by rfl) S.g7 rfl) (pa_cons (pe_glob (v := .ref (C 8)) (by rfl) S.g8 rfl) pa_nil)))) pa_nil))))
        (pw_or1 (pt_not (pt_val (pe_callB call_isZ (by rfl) T.isi (by decide +kernel) (pa_cons (pv 2) (pa_cons (pe_bltn (v := .ty "ValueError") (u := .type "ValueError") (by rfl) T.vErr (by decide +kernel) rfl) pa_nil)))))))) (pss_one (ps_ret pe_str)) pss_nil)
    (pss_one (ps_ret (pe_ifExp (PW.pt (pw_and (pt_val (pe_callB call_isZ (by rfl) T.isi (by decide +kernel) (pa_cons (pv 2) (pa_cons (pe_glob (v := .ref (C 0)) (by rfl) S.g0 rfl) pa_nil))))
        (pw_and1 (pt_cmpR op_eq (pe_callB (call_repr_z gd hr') (by rfl) T.repr (by decide +kernel) (pa_cons (pe_exzf (pv 2)) pa_nil)) (pe_callB (call_repr_z gd hr') (by rfl) T.repr (by decide +kernel) (pa_cons (pv 1) pa_nil)) (nomark _))))) pe_str pe_str))))))), ?_⟩
  refine ⟨fun σ G => ∃ (y2 : Option V), σ = [some (.ref f), some v, y2, none] ∧ ((∃ a dd : Addr, y2 = some (.ref a) ∧ ErrZ G a (C 0) dd [("value", v)] ∧ Dz G v dv ∧ Shz dv 60 ∧ Said "invalid" Q G) ∨ (y2 = some .non ∧ Said "valid" Q G)), ⟨rfl, hc, h _ _ _ (Same.refl _) ?_ ?_⟩, ?_⟩
  · rintro cls d H1 ⟨dd, rfl, rfl, hd, Dv, Sh, q1⟩
    refine ⟨true, S.exm, fun _ a na => ⟨_, rfl, ?_⟩, fun z => nomatch z⟩
    have ne : dd ≠ a := ne_of_none hd na
    exact ⟨_, rfl, .inl ⟨a, dd, rfl, ⟨upd_same, by rw [upd_ne ne]; exact hd⟩, Dv.same (same_upd na), Sh, q1.same (same_upd na)⟩⟩
  · intro u H1 q1
    exact ⟨_, rfl, .inr ⟨rfl, q1⟩⟩
  rintro σ H2 ⟨y2, rfl, ⟨a, dd, rfl, Ez, Dv, Sh, q2⟩ | ⟨rfl, q1⟩⟩
  · refine ⟨_, rfl, rfl, _, rfl, iteF ?_⟩
    refine ⟨_, rfl, by show 5 ≤ sizeLine; decide, fun t1 n1 => ?_⟩
    have x1 := same_upd (o := HO.tup [V.ref (C 1), V.ref (C 2), V.ref (C 3), V.ref (C 4), V.ref (C 5)]) n1
    refine ⟨a, C 0, dd, t1, _, _, _, false, rfl, S.ex, Ez.same x1, upd_same, .cons (.own _) (.cons (.own _) (.cons (.own _) (.cons (.own _) (.cons (.own _) .nil)))), S.any5, _, rfl, iteF ?_⟩
    refine ⟨_, rfl, by show 3 ≤ sizeLine; decide, fun t2 n2 => ?_⟩
    have x2 := x1.trans (same_upd (o := HO.tup [V.ref (C 6), V.ref (C 7), V.ref (C 8)]) n2)
    refine ⟨a, C 0, dd, t2, _, _, _, false, rfl, S.ex, Ez.same x2, upd_same, .cons (.own _) (.cons (.own _) (.cons (.own _) .nil)), S.any3, _, rfl, iteF ?_⟩
    refine ⟨_, rfl, a, C 0, dd, _, .ty "ValueError", .type "ValueError", true, rfl, S.ex, Ez.same x2, fun u r => r, S.kitV, _, rfl, iteF ?_⟩
    refine ⟨_, rfl, a, C 0, dd, _, .ref (C 0), .ref (C 0), true, rfl, S.ex, Ez.same x2, fun u r => r, S.kit 0 (by decide), _, rfl, iteT ?_⟩
    refine ⟨_, rfl, a, C 0, dd, _, v, rfl, S.xf, S.no, Ez.same x2, rfl, v, dv, rfl, Dv.same x2, Sh, ?_⟩
    refine ⟨_, rfl, v, dv, rfl, Dv.same x2, Sh, rfl, _, rfl, ?_⟩
    rw [decide_eq_true rfl]
    exact iteT (q2 _ x2)
  · refine ⟨_, rfl, rfl, _, rfl, iteT (q1 _ (Same.refl _))⟩
end
end Ov
namespace Ov
open PySem PySem.Spec PyProof.Rows L2
/-! ### the law's own reading of lengths -/
theorem lens_bad {ds : List PyData} {i : Nat} {d : PyData} (h : ds[i]? = some d) (b : btw 1 1000 d = false) : isLensD (.tuple ds) = false := by
  have z : ds.all (btw 1 1000) = false := by
    rw [List.all_eq_false]
    exact ⟨d, List.mem_of_getElem? h, by rw [b]; decide⟩
  show (decide (ds.length ≤ 50) && (ds.all (btw 1 1000) && ascB (ds.map intOf))) = false
  rw [z, Bool.false_and, Bool.and_false]
theorem lens_bad2 {ds : List PyData} {j : Nat} (hj : j + 1 < ds.length) (b : ascI (ds.map intOf) j = false) : isLensD (.tuple ds) = false := by
  have z : ascB (ds.map intOf) = false := by
    unfold ascB
    rw [List.all_eq_false]
    exact ⟨false, List.mem_map.mpr ⟨j, List.mem_range.mpr (by rw [List.length_map]; omega), b⟩, by decide⟩
  show (decide (ds.length ≤ 50) && (ds.all (btw 1 1000) && ascB (ds.map intOf))) = false
  rw [z, Bool.and_false, Bool.and_false]
theorem lens_good {ds : List PyData} (h : ds.length ≤ 50) (a : ds.all (btw 1 1000) = true) (b : ∀ j, j + 1 < ds.length → ascI (ds.map intOf) j = true) : isLensD (.tuple ds) = true := by
  have z : ascB (ds.map intOf) = true := by
    unfold ascB
    rw [List.all_eq_true]
    intro x hx
    obtain ⟨j, hj, rfl⟩ := List.mem_map.mp hx
    have := List.mem_range.mp hj
    rw [List.length_map] at this
    exact b j (by omega)
  show (decide (ds.length ≤ 50) && (ds.all (btw 1 1000) && ascB (ds.map intOf))) = true
  rw [decide_eq_true h, a, z]
  rfl
section
variable {P : Program} {w : World} {K : PySem.W.Frag} {mg : Str → Option Value} {base : Heap}
abbrev nIsVal : List Str := ["_law_value", "_law_at", "_law_one"]
theorem scIsVal : FnScope nIsVal ["_law_value"] (defScope s_law_is_valid) := ⟨rfl, rfl, rfl, by decide +kernel, rfl, by decide +kernel, by decide +kernel⟩
theorem ok_isVal {f : Addr} {fd : FuncData} {k : Nat} (F : Fun K "_law_is_valid" "_law_is_valid" s_law_is_valid f fd) (T : Bi mg) : FnOk P w K mg base CX0 (k + 1) f fd ["_law_value"] (spAreX K) := by
  refine F.ok scIsVal (fun vs H Q E h => ?_) (fun cdv A' outer s H vs Q E hr h => ?_)
  · obtain ⟨v, d, rfl, _⟩ := h
    rfl
  · obtain ⟨v, d, rfl, D, hl, q⟩ := h
    refine ⟨_, pss_cons (ps_if (PW.pt (pw_or (pt_not (pt_val (pe_callB call_isi (by rfl) T.isi (by decide +kernel) (pa_cons (pv 0) (pa_cons (pe_bltn (v := .ty "tuple") (u := .type "tuple") (by rfl) T.tuple (by decide +kernel) rfl) pa_nil)))))
        (pw_or1 (pt_cmpR op_gt (pe_callB call_len_seq (by rfl) T.len PySem.boot_len (pa_cons (pv 0) pa_nil)) pe_int (nomark _))))) (pss_one (ps_ret pe_bl)) pss_nil)
      (pss_cons (ps_for PassesOwn.never rfl (pi_enumT (by rfl) T.enumerate (pa_cons (pv 0) pa_nil)) (pg_tup rfl (pgs_cons (pg_name (i := 1) scIsVal.nd rfl (.inl rfl)) (pgs_cons (pg_name (i := 2) scIsVal.nd rfl (.inl rfl)) pgs_nil)))
        (pss_one (ps_if (PW.pt (pw_or (pt_not (pt_val (pe_callB call_isi (by rfl) T.isi (by decide +kernel) (pa_cons (pv 2) (pa_cons (pe_bltn (v := .ty "int") (u := .type "int") (by rfl) T.int (by decide +kernel) rfl) pa_nil)))))
            (pw_or (pt_val (pe_callB call_isi (by rfl) T.isi (by decide +kernel) (pa_cons (pv 2) (pa_cons (pe_bltn (v := .ty "bool") (u := .type "bool") (by rfl) T.bool (by decide +kernel) rfl) pa_nil))))
            (pw_or (pt_not (pt_chain op_le op_le pe_int (pv 2) pe_int))
            (pw_or1 (PW.pt (pw_and (pt_cmpR op_gt (pv 1) pe_int (nomark _)) (pw_and1 (pt_cmpR op_ge (pe_ix ix_tup (pv 0) (pe_op op_sub (pv 1) pe_int) (fun _ _ => rfl)) (pv 2) (nomark _)))))))))) (pss_one (ps_ret pe_bl)) pss_nil)))
      (pss_one (ps_ret pe_bl))), ?_⟩
    refine ⟨_, rfl, _, _, _, _, _, rfl, .ty _, D.ty, kit_ty (kit_t d), _, rfl, ?_⟩
    cases D with
    | non => exact iteT (q H (Same.refl _))
    | str x => exact iteT (q H (Same.refl _))
    | dct h => exact iteT (q H (Same.refl _))
    | lst h a => exact iteT (q H (Same.refl _))
    | bl b => exact iteT (q H (Same.refl _))
    | int i => exact iteT (q H (Same.refl _))
    | @tup a xs ds hs ha =>
      have el := ha.len
      refine iteF ⟨_, rfl, a, xs, rfl, .inr hs, _, _, rfl, rfl, _, rfl, ?_⟩
      rw [el]
      by_cases hc : (50 : Int) < (ds.length : Int)
      · rw [decide_eq_true hc]
        have z : isLensD (.tuple ds) = false := by
          show (decide (ds.length ≤ 50) && _) = false
          rw [decide_eq_false (show ¬ ds.length ≤ 50 by omega)]
          rfl
        rw [z] at q
        exact iteT (q H (Same.refl _))
      rw [decide_eq_false hc]
      have h50 : ds.length ≤ 50 := by omega
      refine iteF ⟨_, rfl, a, _, rfl, hs, for_it (walk_enumT (K := K) (a := a) (xs := xs) rfl) (fun i σ G => ∃ y1 y2 : Option V, σ = [some (.ref a), y1, y2] ∧ Same H G ∧ (ds.take i).all (btw 1 1000) = true ∧ ∀ j, j + 1 < i → ascI (ds.map intOf) j = true)
        ⟨_, _, rfl, Same.refl _, rfl, fun j hj => absurd hj (Nat.not_lt_zero _)⟩ (fun i σ G _ ⟨_, _, _, s, _⟩ => s.tup hs) ?_ ?_⟩
      · rintro o x σ G G' ho ⟨y1, y2, rfl, sG, al, up⟩ ⟨pr, v, rfl, npr, rfl, hv⟩
        rw [el] at ho
        obtain ⟨d, hd, D0⟩ := ha.at hv
        have sp := same_upd (o := HO.tup [V.int ((o : Nat) : Int), v]) npr
        have s2 := sG.trans sp
        have D := D0.same s2
        refine ⟨pr, _, rfl, SqT.of upd_same, rfl, _, _, rfl, _, _, rfl, rfl, ?_⟩
        generalize upd G pr (HO.tup [V.int ((o : Nat) : Int), v]) = G2 at *
        have bad : btw 1 1000 d = false → Q (.bl false) G2 := fun b => by
          have z := q G2 s2
          rw [lens_bad hd b] at z
          exact z
        refine ⟨_, rfl, _, _, _, _, _, rfl, .ty _, D.ty, kit_ty (kit_i d), _, rfl, ?_⟩
        have D1 := D
        cases D with
        | non => exact iteT (bad rfl)
        | str x => exact iteT (bad rfl)
        | dct h => exact iteT (bad rfl)
        | lst h a => exact iteT (bad rfl)
        | tup h a => exact iteT (bad rfl)
        | bl b => exact iteF ⟨_, rfl, _, _, _, _, _, rfl, .ty _, D1.ty, kit_ty (kit_b _), _, rfl, iteT (bad rfl)⟩
        | int z =>
          refine iteF ⟨_, rfl, _, _, _, _, _, rfl, .ty _, D1.ty, kit_ty (kit_b _), _, rfl, iteF ?_⟩
          refine ⟨_, rfl, _, _, rfl, rfl, _, rfl, ?_⟩
          by_cases h1 : (1 : Int) ≤ z
          · rw [decide_eq_true h1]
            refine iteT ⟨_, _, rfl, rfl, _, rfl, ?_⟩
            by_cases h2 : z ≤ 1000
            · rw [decide_eq_true h2]
              have bz : btw 1 1000 (.int z) = true := by
                show (decide ((1 : Int) ≤ z) && decide (z ≤ 1000)) = true
                rw [decide_eq_true h1, decide_eq_true h2]
                rfl
              have al2 : (ds.take (o + 1)).all (btw 1 1000) = true := by
                rw [take_more hd, List.all_append, al, List.all_cons, bz]
                rfl
              refine iteF ⟨_, rfl, _, _, rfl, rfl, _, rfl, ?_⟩
              cases o with
              | zero =>
                exact iteF (iteF ⟨_, _, rfl, s2, al2, fun j hj => absurd hj (by omega)⟩)
              | succ j =>
                rw [decide_eq_true (show (0 : Int) < ((j + 1 : Nat) : Int) by omega)]
                have hj : j < ds.length := by omega
                have mj : ds[j] ∈ ds.take (j + 1) := List.mem_of_getElem? (i := j) (by rw [List.getElem?_take_of_lt (by omega)]; exact List.getElem?_eq_getElem hj)
                obtain ⟨z', ez, _⟩ := btw_int (List.all_eq_true.mp al _ mj)
                obtain ⟨x', hx'⟩ : ∃ x', xs[j]? = some x' := ⟨_, List.getElem?_eq_getElem (by omega)⟩
                obtain ⟨d', hd', Dx'⟩ := ha.at hx'
                rw [List.getElem?_eq_getElem hj, ez] at hd'
                cases hd'
                cases Dx'
                have at_ : atI xs (((j + 1 : Nat) : Int) - 1) = some (.int z') := by
                  rw [show (((j + 1 : Nat) : Int) - 1) = (j : Int) by omega]
                  exact atI_nat hx'
                have ea : ascI (ds.map intOf) j = decide (z' < z) := by
                  unfold ascI
                  rw [List.getD_eq_getElem?_getD, List.getD_eq_getElem?_getD, List.getElem?_map, List.getElem?_map, List.getElem?_eq_getElem hj, ez, hd]
                  rfl
                refine iteT ⟨_, rfl, _, rfl, _, _, rfl, rfl, a, _, _, _, rfl, rfl, s2.tup hs, at_, _, rfl, _, _, rfl, rfl, _, rfl, ?_⟩
                by_cases h3 : z ≤ z'
                · rw [decide_eq_true h3]
                  have zz := q G2 s2
                  rw [lens_bad2 (show j + 1 < ds.length by omega) (by rw [ea, decide_eq_false (by omega)])] at zz
                  exact iteT zz
                · rw [decide_eq_false h3]
                  refine iteF ⟨_, _, rfl, s2, al2, fun j' hj' => ?_⟩
                  by_cases e : j' = j
                  · rw [e, ea, decide_eq_true (by omega)]
                  · exact up j' (by omega)
            · rw [decide_eq_false h2]
              exact iteT (bad (by show (decide ((1 : Int) ≤ z) && decide (z ≤ 1000)) = false; rw [decide_eq_false h2, Bool.and_false]))
          · rw [decide_eq_false h1]
            exact iteF ⟨_, rfl, iteT (bad (by show (decide ((1 : Int) ≤ z) && decide (z ≤ 1000)) = false; rw [decide_eq_false h1]; rfl))⟩
      · rintro σ G ⟨y1, y2, rfl, sG, al, up⟩
        rw [el] at al up
        rw [List.take_length] at al
        have z := q G sG
        rw [lens_good h50 al fun j hj => up j hj] at z
        exact z
end
end Ov
namespace Ov
open PySem PySem.Spec PyProof.Rows L2
/-! ### a last part of a least sum -/
theorem part_ex {ls : List Nat} {a : List (Option Nat)} (h : Rep (Sum ls) a) {x r : Nat} (hr : a.getD r none = some x) (h0 : 0 < x) : ∃ l ∈ ls, l ≤ x ∧ a.getD ((x - l) % a.length) none = some (x - l) := by
  obtain ⟨sx, rx⟩ := h.sound r x hr
  rcases Sum.step.mp sx with h1 | ⟨l, hl, hlx, sy⟩
  · omega
  obtain ⟨z, hz, hzy⟩ := h.least _ sy
  obtain ⟨sz, rz⟩ := h.sound _ z hz
  have ezy : z = x - l := by
    rcases Nat.lt_or_ge z (x - l) with c | c
    · exfalso
      obtain ⟨x', hx', hle⟩ := h.least (z + l) (.add hl sz)
      have em : (z + l) % a.length = r := by
        rw [Nat.add_mod, rz, ← Nat.add_mod, Nat.sub_add_cancel hlx, rx]
      rw [em, hr] at hx'
      have : x = x' := Option.some.inj hx'
      omega
    · omega
  rw [ezy] at hz
  exact ⟨l, hl, hlx, hz⟩
/-- whether n leads from another least sum to x -/
def isPart (a : List (Option Nat)) (x : Nat) (n : Int) : Bool := decide (optV (a.getD (((x : Int) - n) % (a.length : Int)).toNat none) = V.int ((x : Int) - n))
theorem isPart_of {a : List (Option Nat)} {x : Nat} {n : Int} (h : isPart a x n = true) (hn : 0 ≤ n) : ∃ l : Nat, n = (l : Int) ∧ l ≤ x ∧ a.getD ((x - l) % a.length) none = some (x - l) := by
  have e := of_decide_eq_true h
  obtain ⟨l, rfl⟩ : ∃ l : Nat, n = (l : Int) := ⟨n.toNat, by omega⟩
  cases ho : a.getD (((x : Int) - (l : Int)) % (a.length : Int)).toNat none with
  | none => rw [ho] at e; cases e
  | some y =>
    rw [ho] at e
    have e' : (y : Int) = (x : Int) - (l : Int) := V.int.inj e
    have hl : l ≤ x := by omega
    refine ⟨l, rfl, hl, ?_⟩
    have em : (((x : Int) - (l : Int)) % (a.length : Int)).toNat = (x - l) % a.length := by
      rw [show (x : Int) - (l : Int) = ((x - l : Nat) : Int) by omega]
      omega
    rw [em] at ho
    rw [ho]
    congr 1
    omega
theorem isPart_ex {ns : List Int} (L : Lens ns) {a : List (Option Nat)} (h : Rep (Sum (ns.map Int.toNat)) a) {x r : Nat} (hr : a.getD r none = some x) (h0 : 0 < x) : ns.filter (isPart a x) ≠ [] := by
  obtain ⟨l, hl, hlx, e⟩ := part_ex h hr h0
  obtain ⟨n, hn, rfl⟩ := List.mem_map.mp hl
  have n1 := (L.low n hn).1
  have : n ∈ ns.filter (isPart a x) := by
    rw [List.mem_filter]
    refine ⟨hn, decide_eq_true ?_⟩
    have em : (((x : Int) - n) % (a.length : Int)).toNat = (x - n.toNat) % a.length := by
      rw [show (x : Int) - n = ((x - n.toNat : Nat) : Int) by omega]
      omega
    rw [em, e]
    show V.int _ = V.int _
    congr 1
    omega
  intro z
  rw [z] at this
  cases this
def rLenL (K : PySem.W.Frag) : List V → Hp → VK → Prop := fun args G R => ∃ a items, args = [.ref a] ∧ (SqL K G a items ∨ SqT K G a items) ∧ R (.int items.length) G
theorem cr_lenL {X : Cx} : CallR X (.builtin "len") (rLenL X.K) := call_len_seq
section
variable {P : Program} {w : World} {K : PySem.W.Frag} {mg : Str → Option Value} {base : Heap}
def spLast (K : PySem.W.Frag) : Sp := fun vs H Q _ => ∃ (p q : Addr) (ns : List Int) (a : List (Option Nat)) (x : Nat), vs = [.ref p, .ref q, .int (x : Int)] ∧ SqT K H p (ns.map V.int) ∧ SqT K H q (a.map optV) ∧ Lens ns ∧ Rep (Sum (ns.map Int.toNat)) a ∧ a.getD (x % a.length) none = some x ∧ 0 < x ∧
  ∀ H' (l : Nat), Same H H' → (l : Int) ∈ ns → l ≤ x → a.getD ((x - l) % a.length) none = some (x - l) → Q (.int (l : Int)) H'
abbrev nLast : List Str := ["lengths", "least", "reached", "parts", "length"]
theorem scLast : FnScope nLast ["lengths", "least", "reached"] (defScope sLast) := ⟨rfl, rfl, rfl, by decide +kernel, rfl, by decide +kernel, by decide +kernel⟩
theorem ok_last {f : Addr} {fd : FuncData} {k : Nat} (F : Fun K "last_part" "last_part" sLast f fd) (T : Bi mg) : FnOk P w K mg base CX0 (k + 1) f fd ["lengths", "least", "reached"] (spLast K) := by
  refine F.ok scLast (fun vs H Q E h => ?_) (fun cdv A' outer s H vs Q E hr h => ?_)
  · obtain ⟨p, q, ns, a, x, rfl, _⟩ := h
    rfl
  · obtain ⟨p, c, ns, a, x, rfl, hp, hc, L, R, hx, h0, q⟩ := h
    refine ⟨_, pss_cons (ps_setLc (i := 3) (own := [("length", 4)]) (g := gName 4)
        (tt := tTest (tOp rEq (tOp (rIxT K) (tVar 1) (tOp (rI (fun _ j => 0 < j) fun i j => .int (i % j)) (tOp (rI0 fun i j => .int (i - j)) (tVar 2) (tVar 4)) (tCB (rLenL K) (tCons (tVar 1) tNil)))) (tOp (rI0 fun i j => .int (i - j)) (tVar 2) (tVar 4)))) (by rfl) scLast.nd rfl rfl (sw_true rfl rfl rfl (by decide +kernel)) (pi_tup (pv 0))
        (blkOk_by (own := [("length", 4)]) (N := nLast) (sc := defScope sLast) (by decide +kernel))
        (fun _ _ _ _ _ => pg_name (i := 4) scLast.nd rfl (Or.inl rfl))
        (fun _ _ _ _ _ => pts_one (pt_cmpR op_eq (pe_ix (r := rIxT K) ix_tup (pv 1) (pe_op op_mod (pe_op op_sub (pv 2) (pv 4)) (pe_callB (r := rLenL K) cr_lenL (by rfl) T.len PySem.boot_len (pa_cons (pv 1) pa_nil))) (fun _ _ => rfl)) (pe_op op_sub (pv 2) (pv 4)) (nomark _)))
        (fun _ _ _ _ _ => pv 4))
      (pss_one (ps_ret (pe_ix ix_list (pv 3) pe_int (fun _ _ => rfl)))), ?_⟩
    have apos := R.pos
    have few := L.few
    refine ⟨_, rfl, p, rfl, ⟨_, hp⟩, fun D nD => lc_tup (K := K) (a := p) (xs := ns.map V.int) (fun i H2 => Mk H H2 D (((ns.take i).filter (isPart a x)).map V.int)) (.start nD) (fun i H2 _ mk => mk.same.tup hp) ?_ ?_⟩
    · intro i v H2 hv mk
      rw [List.getElem?_map] at hv
      obtain ⟨n, hn, rfl⟩ := Option.map_eq_some_iff.mp hv
      have n1 := (L.low n (List.mem_of_getElem? hn)).1
      have lp : (0 : Int) < (a.length : Int) := by omega
      have hlt : (((x : Int) - n) % (a.length : Int)).toNat < a.length := by
        have := Int.emod_lt_of_pos ((x : Int) - n) lp
        have := Int.emod_nonneg ((x : Int) - n) (show (a.length : Int) ≠ 0 by omega)
        omega
      have at_ : atI (a.map optV) (((x : Int) - n) % (((a.map optV).length : Nat) : Int)) = some (optV (a.getD (((x : Int) - n) % (a.length : Int)).toNat none)) := by
        rw [List.length_map]
        have e : ((x : Int) - n) % (a.length : Int) = (((((x : Int) - n) % (a.length : Int)).toNat : Nat) : Int) := by
          have := Int.emod_nonneg ((x : Int) - n) (show (a.length : Int) ≠ 0 by omega)
          omega
        rw [e]
        exact atI_nat (at_opt hlt rfl)
      have sc : scal (optV (a.getD (((x : Int) - n) % (a.length : Int)).toNat none)) (.int ((x : Int) - n)) = true := by
        cases a.getD (((x : Int) - n) % (a.length : Int)).toNat none <;> rfl
      refine ⟨rfl, _, rfl, _, rfl, _, rfl, _, _, rfl, rfl, _, rfl, c, _, rfl, .inr (mk.same.tup hc), _, _, rfl, rfl, (by rw [List.length_map]; exact lp), c, _, _, _, rfl, rfl, mk.same.tup hc, at_, _, rfl, _, rfl, _, _, rfl, rfl, sc, _, rfl, ?_⟩
      have tk : (ns.take (i + 1)).filter (isPart a x) = (ns.take i).filter (isPart a x) ++ (if isPart a x n = true then [n] else []) := by
        rw [take_more hn, List.filter_append, List.filter_cons]
        rfl
      rw [tk]
      show (if isPart a x n = true then _ else _)
      cases hb : isPart a x n with
      | true =>
        refine iteT ⟨_, rfl, _, mk.at_, ?_, ?_⟩
        · rw [List.length_map]
          have := List.length_filter_le (isPart a x) (ns.take i)
          rw [List.length_take] at this
          exact small1000 (by omega)
        · rw [if_pos rfl, List.map_append]
          exact mk.put (Same.refl _)
      | false =>
        refine iteF ?_
        rw [if_neg (by decide), List.append_nil]
        exact mk
    · intro H2 mk
      rw [List.length_map, List.take_length] at mk
      have ne := isPart_ex L R hx h0
      cases hf : ns.filter (isPart a x) with
      | nil => exact absurd hf ne
      | cons n rest =>
        have hin : n ∈ ns.filter (isPart a x) := by rw [hf]; exact List.mem_cons_self
        obtain ⟨hn, hp'⟩ := List.mem_filter.mp hin
        obtain ⟨l, rfl, hlx, e⟩ := isPart_of hp' (by have := (L.low n hn).1; omega)
        rw [hf] at mk
        exact ⟨_, rfl, D, _, _, _, rfl, rfl, SqL.of mk.at_, atI_nat (j := 0) rfl, q H2 l mk.same hn hlx e⟩
end
end Ov
namespace Ov
open PySem PySem.Spec PyProof.Rows L2
/-! ### part_counts -/
def cKV (ns : List Int) (cnt : Int → Nat) : List (Key × V) := ns.map fun n => (Sum.inl n, V.int ((cnt n : Nat) : Int))
theorem cKV_get {cnt : Int → Nat} {l : Int} : ∀ {ns : List Int}, l ∈ ns → valV (cKV ns cnt) (Sum.inl l) = some (.int ((cnt l : Nat) : Int)) := by
  intro ns h
  unfold valV cKV
  induction ns with
  | nil => cases h
  | cons n ns ih =>
    rw [List.map_cons, List.find?_cons]
    by_cases e : n = l
    · subst e
      simp
    · have z : (decide ((Sum.inl n : Key) = Sum.inl l)) = false := decide_eq_false fun w => e (Sum.inl.inj w)
      simp only [z]
      exact ih ((List.mem_cons.mp h).resolve_left fun w => e w.symm)
theorem cKV_put {cnt : Int → Nat} {l : Int} {ns : List Int} (h : l ∈ ns) : putK (cKV ns cnt) (Sum.inl l) (.int (((cnt l + 1 : Nat)) : Int)) = cKV ns (fun n => if n = l then cnt l + 1 else cnt n) := by
  have any : ((cKV ns cnt).any fun kv => decide (kv.1 = (Sum.inl l : Key))) = true := by
    rw [List.any_eq_true]
    exact ⟨_, List.mem_map.mpr ⟨l, h, rfl⟩, decide_eq_true rfl⟩
  unfold putK
  rw [if_pos any]
  unfold cKV
  rw [List.map_map]
  refine List.map_congr_left fun n _ => ?_
  show (if (Sum.inl n : Key) = Sum.inl l then _ else _) = _
  by_cases e : n = l
  · subst e
    rw [if_pos rfl]
    simp
  · rw [if_neg fun w => e (Sum.inl.inj w)]
    simp [e]
theorem put_freshC {kvs : List (Key × V)} {k : Key} {v : V} (h : k ∉ kvs.map (·.1)) : putK kvs k v = kvs ++ [(k, v)] := by
  unfold putK
  refine if_neg fun z => h ?_
  obtain ⟨x, hx, e⟩ := List.any_eq_true.mp z
  exact List.mem_map.mpr ⟨x, hx, of_decide_eq_true e⟩
theorem cKV_more {cnt : Int → Nat} {ns : List Int} (L : Lens ns) {i : Nat} {n : Int} (h : ns[i]? = some n) : putK (cKV (ns.take i) cnt) (Sum.inl n) (.int ((cnt n : Nat) : Int)) = cKV (ns.take (i + 1)) cnt := by
  rw [put_freshC, take_more h]
  · unfold cKV
    rw [List.map_append]
    rfl
  · intro z
    unfold cKV at z
    rw [List.map_map] at z
    obtain ⟨y, hy, e⟩ := List.mem_map.mp z
    have e' : y = n := Sum.inl.inj e
    obtain ⟨j, hj, ej⟩ := List.mem_take_iff_getElem.mp hy
    obtain ⟨hi, ei⟩ := List.getElem?_eq_some_iff.mp h
    have := List.pairwise_iff_getElem.mp L.asc j i (by omega) hi (by omega)
    omega
section
variable {P : Program} {w : World} {K : PySem.W.Frag} {mg : Str → Option Value} {base : Heap}
def spCounts (K : PySem.W.Frag) : Sp := fun vs H Q _ => ∃ (p q : Addr) (ns : List Int) (a : List (Option Nat)) (x : Nat), vs = [.ref p, .ref q, .int (x : Int)] ∧ SqT K H p (ns.map V.int) ∧ SqT K H q (a.map optV) ∧ Lens ns ∧ Rep (Sum (ns.map Int.toNat)) a ∧ (x = 0 ∨ a.getD (x % a.length) none = some x) ∧
  ∀ H' D (cnt : Int → Nat), Same H H' → H D = none → H' D = some (.dK (cKV ns cnt)) → Q (.ref D) H'
abbrev nCounts : List Str := ["lengths", "least", "reached", "counts", "length"]
theorem scCounts : FnScope nCounts ["lengths", "least", "reached"] (defScope sCounts) := ⟨rfl, rfl, rfl, by decide +kernel, rfl, by decide +kernel, by decide +kernel⟩
def leftOf : L2.St → Nat := fun σ => match σ with
  | [_, _, some (.int n), _, _] => n.toNat
  | _ => 0
theorem ok_counts {f fL : Addr} {fd fdL : FuncData} {k : Nat} (F : Fun K "part_counts" "part_counts" sCounts f fd) (T : Bi mg) (La : Def K mg "last_part" sLast fL fdL ["lengths", "least", "reached"]) (GL : FnOk P w K mg base CX0 k fL fdL ["lengths", "least", "reached"] (spLast K)) :
    FnOk P w K mg base CX0 (k + 1) f fd ["lengths", "least", "reached"] (spCounts K) := by
  refine F.ok scCounts (fun vs H Q E h => ?_) (fun cdv A' outer s H vs Q E hr h => ?_)
  · obtain ⟨p, q, ns, a, x, rfl, _⟩ := h
    rfl
  · obtain ⟨p, c, ns, a, x, rfl, hp, hc, L, R, hx, q⟩ := h
    refine ⟨_, pss_cons (ps_setDc (i := 3) (own := [("length", 4)]) (g := gName 4) (tt := tYes) (by rfl) scCounts.nd rfl rfl (sw_dict rfl rfl rfl (by decide +kernel)) (pi_tup (pv 0))
          (blkOk_by (own := [("length", 4)]) (N := nCounts) (sc := defScope sCounts) (by decide +kernel))
          (fun _ _ _ _ _ => pg_name (i := 4) scCounts.nd rfl (Or.inl rfl)) (fun _ _ _ _ _ => pts_nil) (fun _ _ _ _ _ => pv 4) (fun _ _ _ _ _ => pe_int))
      (pss_cons (ps_while PassesOwn.never (pt_cmpR op_gt (pv 2) pe_int (nomark _))
        (pss_cons (ps_set (i := 4) scCounts.nd rfl (.inl rfl) (pe_call GL hr (by rfl) La.gl La.fn.kp La.bi .nil pass0 (pa_cons (pv 0) (pa_cons (pv 1) (pa_cons (pv 2) pa_nil)))))
        (pss_cons (ps_daug (hu_of hr) (pv 3) (pv 4) pe_int iop_add (fun _ _ _ => rfl))
        (pss_one (ps_aug scCounts.nd (i := 2) rfl (.inl rfl) (pv 4) ip_sub))))) 
      (pss_one (ps_ret (pv 3)))), ?_⟩
    have few := L.few
    refine ⟨_, rfl, p, rfl, ⟨_, hp⟩, fun D nD => dc_tup (K := K) (a := p) (xs := ns.map V.int) (fun i H4 => Same H H4 ∧ H4 D = some (.dK (cKV (ns.take i) fun _ => 0))) ⟨same_upd nD, upd_same⟩ (fun i H4 _ p => p.1.tup hp) ?_ ?_⟩
    · rintro i v H4 hv ⟨s4, hD⟩
      rw [List.getElem?_map] at hv
      obtain ⟨n, hn, rfl⟩ := Option.map_eq_some_iff.mp hv
      refine ⟨rfl, _, rfl, _, Sum.inl n, rfl, hD, ?_, fun b o e => ?_, ?_⟩
      · unfold cKV
        rw [List.length_map, List.length_take]
        exact small1000 (by omega)
      · rw [upd_ne (ne_of_none e nD)]
        exact s4 b o e
      · rw [upd_same, ← cKV_more L hn]
        rfl
    rintro H1 ⟨s1, hD1⟩
    rw [List.length_map, List.take_length] at hD1
    refine while_by (fun σ G => ∃ (y : Nat) (cnt : Int → Nat) (y4 : Option V), σ = [some (.ref p), some (.ref c), some (.int (y : Int)), some (.ref D), y4] ∧ Same H G ∧ G D = some (.dK (cKV ns cnt)) ∧ (y = 0 ∨ a.getD (y % a.length) none = some y)) (fun σ _ => leftOf σ)
      ⟨x, fun _ => 0, _, rfl, s1, hD1, hx⟩ ?_ ?_
    · rintro σ G ⟨y, cnt, y4, rfl, sG, hD, hy⟩
      refine ⟨_, rfl, _, _, rfl, rfl, _, rfl, ?_⟩
      by_cases h0 : y = 0
      · rw [decide_eq_false (show ¬ (0 : Int) < (y : Int) by omega)]
        exact iteF ⟨_, rfl, q G D cnt sG nD hD⟩
      · rw [decide_eq_true (show (0 : Int) < (y : Int) by omega)]
        have hy' := hy.resolve_left h0
        refine iteT ⟨_, rfl, _, rfl, _, rfl, p, c, ns, a, y, rfl, sG.tup hp, sG.tup hc, L, R, hy', by omega, fun G2 l s2 hl hle e => ?_⟩
        have l1 := (L.low _ hl).1
        have hD2 := s2 _ _ hD
        refine ⟨_, rfl, _, rfl, D, _, rfl, (cKV_get (cnt := cnt) hl) ▸ DGet.k (k := Sum.inl (l : Int)) hD2, _, _, rfl, rfl, _, DPut.k (k := Sum.inl (l : Int)) hD2 (by unfold cKV; rw [List.length_map]; exact small1000 (by omega)), ?_⟩
        have ey : V.int ((y : Int) - (l : Int)) = V.int ((y - l : Nat) : Int) := by congr 1; omega
        have e2 : putK (cKV ns cnt) (Sum.inl (l : Int)) (V.int (((cnt (l : Int) : Nat) : Int) + 1)) = cKV ns (fun n => if n = (l : Int) then cnt (l : Int) + 1 else cnt n) := cKV_put hl
        refine ⟨_, rfl, _, rfl, _, _, rfl, rfl, ⟨y - l, fun n => if n = (l : Int) then cnt (l : Int) + 1 else cnt n, some (.int (l : Int)), ?_, ?_, ?_, .inr e⟩, ?_⟩
        · rw [ey]
          rfl
        · intro b o eb
          rw [upd_ne (ne_of_none eb nD)]
          exact s2 _ _ (sG _ _ eb)
        · rw [upd_same, ← e2]
        · show ((y : Int) - (l : Int)).toNat < (y : Int).toNat
          omega
    · rintro σ H2 Q1 Q2 hQ ⟨v, h1, i, j, h5, h6, b, h7, h8⟩
      exact ⟨v, h1, i, j, h5, h6, b, h7, hQ _ _ h8⟩
end
end Ov
namespace Ov
open PySem PySem.Spec PyProof.Rows L2
/-! ### sum_parts: that it returns -/
theorem cKV_aug {cnt : Int → Nat} {l : Int} {c : Nat} {ns : List Int} (h : l ∈ ns) : putK (cKV ns cnt) (Sum.inl l) (.int (((cnt l + c : Nat)) : Int)) = cKV ns (fun n => if n = l then cnt l + c else cnt n) := by
  have any : ((cKV ns cnt).any fun kv => decide (kv.1 = (Sum.inl l : Key))) = true := by
    rw [List.any_eq_true]
    exact ⟨_, List.mem_map.mpr ⟨l, h, rfl⟩, decide_eq_true rfl⟩
  unfold putK
  rw [if_pos any]
  unfold cKV
  rw [List.map_map]
  refine List.map_congr_left fun n _ => ?_
  show (if (Sum.inl n : Key) = Sum.inl l then _ else _) = _
  by_cases e : n = l
  · subst e
    rw [if_pos rfl]
    simp
  · rw [if_neg fun w => e (Sum.inl.inj w)]
    simp [e]
section
variable {P : Program} {w : World} {K : PySem.W.Frag} {mg : Str → Option Value} {base : Heap}
def spParts : Sp := fun vs H Q _ => ∃ (p : Addr) (ns : List Int) (t : Nat), vs = [.ref p, .int (t : Int)] ∧ H p = some (.tup (ns.map V.int)) ∧ Lens ns ∧ t < 10 ^ 12 ∧ ∀ H' v, Same H H' → Q v H'
theorem ok_parts {f fL fR fC : Addr} {fd fdL fdR fdC : FuncData} {k : Nat} (F : Fun K "sum_parts" "sum_parts" sParts f fd) (T : Bi mg)
    (Le : Def K mg "least_sums" sLeast fL fdL ["lengths"]) (GL : FnOk P w K mg base CX0 k fL fdL ["lengths"] spLeast)
    (Re : Def K mg "is_reached" sReached fR fdR ["least", "total"]) (GR : FnOk P w K mg base CX0 k fR fdR ["least", "total"] spReached)
    (Co : Def K mg "part_counts" sCounts fC fdC ["lengths", "least", "reached"]) (GC : FnOk P w K mg base CX0 k fC fdC ["lengths", "least", "reached"] (spCounts K)) :
    FnOk P w K mg base CX0 (k + 1) f fd ["lengths", "total"] spParts := by
  refine F.ok scParts (fun vs H Q E h => ?_) (fun cdv A' outer s H vs Q E hr h => ?_)
  · obtain ⟨p, ns, t, rfl, _⟩ := h
    rfl
  · obtain ⟨p, ns, t, rfl, hp, L, ht, q⟩ := h
    refine ⟨_, pss_cons (ps_set (i := 2) scParts.nd rfl (.inl rfl) (pe_call GL hr (by rfl) Le.gl Le.fn.kp Le.bi .nil pass0 (pa_cons (pv 0) pa_nil)))
      (pss_cons (ps_if (pt_not (pt_val (pe_call GR hr (by rfl) Re.gl Re.fn.kp Re.bi .nil pass0 (pa_cons (pv 2) (pa_cons (pv 1) pa_nil))))) (pss_one (ps_ret pe_non)) pss_nil)
      (pss_cons (ps_if (pt_cmpR op_eq (pv 1) pe_int (nomark _)) (pss_one (ps_ret (pe_tup pa_nil))) pss_nil)
      (pss_cons (ps_set (i := 3) scParts.nd rfl (.inl rfl) (pe_ix ix_tup (pv 2) (pe_op op_mod (pv 1) (pe_callB call_len_seq (by rfl) T.len PySem.boot_len (pa_cons (pv 2) pa_nil))) (fun _ _ => rfl)))
      (pss_cons (ps_set (i := 4) scParts.nd rfl (.inr rfl) (pe_call GC hr (by rfl) Co.gl Co.fn.kp Co.bi .nil pass0 (pa_cons (pv 0) (pa_cons (pv 2) (pa_cons (pv 3) pa_nil)))))
      (pss_cons (ps_daug (hu_of hr) (pv 4) (pe_ix ix_tup (pv 0) pe_int (fun _ _ => rfl)) (pe_op op_fdiv (pe_op op_sub (pv 1) (pv 3)) (pe_ix ix_tup (pv 0) pe_int (fun _ _ => rfl))) iop_add (fun _ _ _ => rfl))
      (pss_one (ps_ret (pe_callTy call_tuple_of (by rfl) T.tuple (by decide +kernel) (pa_cons
        (pe_lc (own := [("length", 5)]) (g := gName 5) (tt := tTest (tOp (rI0 fun i j => .bl (decide (j < i))) (tDGet (tVar 4) (tVar 5)) (tC (.int 0)))) (by rfl) scParts.nd (pi_tup (pv 0))
          (blkOk_by (own := [("length", 5)]) (N := ["lengths", "total", "least", "reached", "counts", "length"]) (sc := defScope sParts) (by decide +kernel))
          (fun _ _ _ _ _ => pg_name (i := 5) scParts.nd rfl (Or.inl rfl))
          (fun _ _ _ _ _ => pts_one (pt_cmpR op_gt (pe_dget (hu_of hr) (pv 4) (pv 5) (fun _ _ => rfl)) pe_int (nomark _)))
          (fun _ _ _ _ _ => pe_tup (pa_cons (pv 5) (pa_cons (pe_dget (hu_of hr) (pv 4) (pv 5) (fun _ _ => rfl)) pa_nil)))) pa_nil))))))))), ?_⟩
    have few := L.few
    refine ⟨_, rfl, p, ns, rfl, hp, L, fun H1 c s1 nc hc => ?_⟩
    refine ⟨_, rfl, _, rfl, c, _, t, rfl, hc, _, rfl, ?_⟩
    cases hrch : reached (leasts (ns.map Int.toNat)) t with
    | false => exact iteT (q H1 _ s1)
    | true =>
      refine iteF ⟨_, rfl, rfl, _, rfl, ?_⟩
      by_cases h0 : t = 0
      · rw [decide_eq_true (show V.int (t : Int) = V.int 0 by rw [h0]; rfl)]
        exact iteT ⟨Nat.zero_le _, fun r nr => q _ _ (s1.trans (same_upd nr))⟩
      rw [decide_eq_false (show ¬ V.int (t : Int) = V.int 0 from fun z => h0 (by have := V.int.inj z; omega))]
      obtain ⟨n0, rest, rfl⟩ : ∃ n0 rest, ns = n0 :: rest := by
        cases ns with
        | nil =>
          exfalso
          have z : (t == 0) = true := hrch
          exact h0 (by simpa using z)
        | cons n0 rest => exact ⟨_, _, rfl⟩
      obtain ⟨R, hl⟩ := lens_rep L
      have hb := L.low n0 List.mem_cons_self
      have mem0 : n0 ∈ n0 :: rest := List.mem_cons_self
      generalize leasts ((n0 :: rest).map Int.toNat) = a at *
      have apos := R.pos
      have hm : t % a.length < a.length := Nat.mod_lt _ apos
      have em : ((t : Int) % (((a.map optV).length : Nat) : Int)) = ((t % a.length : Nat) : Int) := by rw [List.length_map]; simp
      have unf : reached a t = (match a.getD (t % a.length) none with | none => false | some x => decide (x ≤ t)) := by
        unfold reached
        rw [if_neg (by omega)]
        all_goals (cases a.getD (t % a.length) none <;> rfl)
      rw [unf] at hrch
      cases hx : a.getD (t % a.length) none with
      | none =>
        rw [hx] at hrch
        cases hrch
      | some x =>
        rw [hx] at hrch
        have hxt : x ≤ t := of_decide_eq_true hrch
        have rx := (R.sound _ x hx).2
        have at0 : atI ((n0 :: rest).map V.int) 0 = some (.int n0) := atI_nat (j := 0) rfl
        refine iteF ⟨_, rfl, _, rfl, _, rfl, c, _, rfl, .inr (SqT.of hc), _, _, rfl, rfl, (by rw [List.length_map]; omega), c, _, _, _, rfl, rfl, SqT.of hc, (by rw [em]; exact atI_nat (at_opt hm hx)), ?_⟩
        refine ⟨_, rfl, _, rfl, _, rfl, p, c, n0 :: rest, a, x, rfl, SqT.of (s1 _ _ hp), SqT.of hc, L, R, .inr (by rw [rx]; exact hx), fun H2 D cnt s2 nD hD => ?_⟩
        have s02 := s1.trans s2
        have hp2 := s02 _ _ hp
        have ln : (cKV (n0 :: rest) cnt).length ≤ 1000 := by
          unfold cKV
          rw [List.length_map]
          omega
        refine ⟨_, rfl, _, rfl, p, _, _, _, rfl, rfl, SqT.of hp2, at0, D, _, rfl, (cKV_get (cnt := cnt) mem0) ▸ DGet.k (k := Sum.inl n0) hD, ?_⟩
        refine ⟨_, rfl, _, rfl, _, _, rfl, rfl, _, rfl, p, _, _, _, rfl, rfl, SqT.of hp2, at0, _, _, rfl, rfl, ⟨by omega, by omega⟩, _, _, rfl, rfl, _, DPut.k (k := Sum.inl n0) hD (small1000 ln), ?_⟩
        have e3 : putK (cKV (n0 :: rest) cnt) (Sum.inl n0) (V.int (((cnt n0 : Nat) : Int) + ((t : Int) - (x : Int)) / n0)) = cKV (n0 :: rest) (fun n => if n = n0 then cnt n0 + (((t : Int) - (x : Int)) / n0).toNat else cnt n) := by
          have hq : 0 ≤ ((t : Int) - (x : Int)) / n0 := Int.ediv_nonneg (by omega) (by omega)
          rw [show V.int (((cnt n0 : Nat) : Int) + ((t : Int) - (x : Int)) / n0) = V.int ((cnt n0 + (((t : Int) - (x : Int)) / n0).toNat : Nat) : Int) by congr 1; omega]
          exact cKV_aug mem0
        rw [e3]
        generalize (fun n => if n = n0 then cnt n0 + (((t : Int) - (x : Int)) / n0).toNat else cnt n) = cn
        have s3 : Same H (upd H2 D (.dK (cKV (n0 :: rest) cn))) := fun b o e => by
          rw [upd_ne (ne_of_none (s1 _ _ e) nD)]
          exact s02 _ _ e
        have hD3 := @upd_same H2 D (HO.dK (cKV (n0 :: rest) cn))
        generalize upd H2 D (HO.dK (cKV (n0 :: rest) cn)) = H3 at *
        have hp3 := s3 _ _ hp
        refine ⟨_, rfl, p, rfl, ⟨_, SqT.of hp3⟩, fun M nM => lc_tup (K := K) (a := p) (xs := (n0 :: rest).map V.int) (fun i G => ∃ vs : List V, Mk H3 G M vs ∧ vs.length ≤ i) ⟨[], .start nM, Nat.le_refl _⟩ (fun i G _ ⟨_, mk, _⟩ => mk.same.tup (SqT.of hp3)) ?_ ?_⟩
        · rintro i v G hv ⟨vs, mk, wl⟩
          have hi : i < (n0 :: rest).length := by
            have := (List.getElem?_eq_some_iff.mp hv).1
            rwa [List.length_map] at this
          rw [List.getElem?_map] at hv
          obtain ⟨n, hn, rfl⟩ := Option.map_eq_some_iff.mp hv
          have mn := List.mem_of_getElem? hn
          have g : DGet G D (.int n) (some (.int ((cn n : Nat) : Int))) := (cKV_get (cnt := cn) mn) ▸ DGet.k (k := Sum.inl n) (mk.same _ _ hD3)
          refine ⟨rfl, _, rfl, _, rfl, D, _, rfl, g, _, _, rfl, rfl, _, rfl, ?_⟩
          by_cases hc0 : (0 : Int) < ((cn n : Nat) : Int)
          · rw [decide_eq_true hc0]
            refine iteT ⟨_, rfl, _, rfl, _, rfl, D, _, rfl, g, by show 2 ≤ sizeLine; decide, fun tp ntp => ⟨vs, by rw [upd_ne (ne_of_none mk.at_ ntp)]; exact mk.at_, small1000 (by omega), vs ++ [V.ref tp], mk.put (same_upd ntp), by rw [List.length_append]; show vs.length + 1 ≤ _; omega⟩⟩
          · rw [decide_eq_false hc0]
            exact iteF ⟨vs, mk, by omega⟩
        · rintro G ⟨vs, mk, _⟩
          exact ⟨M, vs, rfl, .inl ⟨SqL.of mk.at_, fun r nr => q _ _ (s3.trans (mk.same.trans (same_upd nr)))⟩⟩
end
end Ov
namespace Ov
open PySem PySem.Spec PyProof.Rows L2
/-! ### the six defs, of lengths of any kind: they return, or raise InvalidLengths with the value -/
theorem dz_lens {H : Hp} {v : V} {ns : List Int} (h : Dz H v (.tuple (ns.map PyData.int))) : ∃ a, v = .ref a ∧ H a = some (.tup (ns.map V.int)) := by
  cases h with
  | tup hs ha =>
    have z : ∀ {ms : List Int} {xs : List V}, DzAll H xs (ms.map PyData.int) → xs = ms.map V.int := by
      intro ms
      induction ms with
      | nil => intro xs h; cases h; rfl
      | cons m ms ih =>
        intro xs h
        cases h with
        | cons h1 h2 =>
          cases h1
          rw [ih h2]
          rfl
    rw [z ha] at hs
    exact ⟨_, rfl, hs⟩
section
variable {P : Program} {w : World} {K : PySem.W.Frag} {mg : Str → Option Value} {base : Heap}
theorem FnOk.imp {CX : CXT} {k : Nat} {f : Addr} {fd : FuncData} {ps : List Str} {sp sp2 : Sp} (F : FnOk P w K mg base CX k f fd ps sp) (h : ∀ vs H Q E, sp2 vs H Q E → sp vs H Q E) : FnOk P w K mg base CX k f fd ps sp2 :=
  ⟨fun vs H Q E z => F.len vs H Q E (h vs H Q E z), fun A outer s H args us vs Q E room env bnd rel pr => F.run A outer s H args us vs Q E room env bnd rel (h _ _ _ _ pr)⟩
def spRet1 : Sp := fun vs H Q _ => ∃ (p : Addr) (ns : List Int), vs = [.ref p] ∧ H p = some (.tup (ns.map V.int)) ∧ Lens ns ∧ ∀ H' v, Same H H' → Q v H'
def spRet2 : Sp := fun vs H Q _ => ∃ (p : Addr) (ns : List Int) (t : Nat), vs = [.ref p, .int (t : Int)] ∧ H p = some (.tup (ns.map V.int)) ∧ Lens ns ∧ t < 10 ^ 12 ∧ ∀ H' v, Same H H' → Q v H'
def spSix1 (K : PySem.W.Frag) (C : Addr) : Sp := fun vs H Q E => spRet1 vs H Q E ∨ spLx K C vs H Q E
def spSix2 (K : PySem.W.Frag) (C : Addr) : Sp := fun vs H Q E => spRet2 vs H Q E ∨ spLx2 K C vs H Q E
theorem ret_common : ∀ vs H Q E, spRet1 vs H Q E → spCommon vs H Q E := fun vs H Q E ⟨p, ns, e, h, L, q⟩ => ⟨p, ns, e, h, L, fun H' s' => q H' _ s'⟩
theorem ret_least : ∀ vs H Q E, spRet1 vs H Q E → spLeast vs H Q E := fun vs H Q E ⟨p, ns, e, h, L, q⟩ => ⟨p, ns, e, h, L, fun H' r s' _ _ => q H' _ s'⟩
theorem ret_cond : ∀ vs H Q E, spRet1 vs H Q E → spCond vs H Q E := fun vs H Q E ⟨p, ns, e, h, L, q⟩ => ⟨p, ns, e, h, L, fun H' s' => q H' _ s'⟩
theorem ret_gap : ∀ vs H Q E, spRet1 vs H Q E → spGap vs H Q E := fun vs H Q E ⟨p, ns, e, h, L, q⟩ => ⟨p, ns, e, h, L, fun H' s' => q H' _ s'⟩
theorem ret_issum : ∀ vs H Q E, spRet2 vs H Q E → spIsSum vs H Q E := fun vs H Q E ⟨p, ns, t, e, h, L, _, q⟩ => ⟨p, ns, t, e, h, L, fun H' s' => q H' _ s'⟩
/-- such a def, of lengths that are what they are -/
theorem six1 {C : Addr} {H : Hp} {v : V} {d : PyData} {Q : VK} {E : XK} (D : Dz H v d) (hl : ∀ ds, d = .tuple ds → ds.length ≤ 1000) (good : isLensD d = true → ∀ H' u, Same H H' → Q u H') (bad : isLensD d = false → Rz C "value" v H E) : spSix1 K C [v] H Q E := by
  cases h : isLensD d with
  | true =>
    obtain ⟨ns, rfl, L⟩ := lens_of h
    obtain ⟨a, rfl, ha⟩ := dz_lens D
    exact .inl ⟨a, ns, rfl, ha, L, good h⟩
  | false => exact .inr ⟨v, d, rfl, D.dx, hl, h, bad h⟩
theorem six2 {C : Addr} {H : Hp} {v : V} {d : PyData} {t : Nat} {Q : VK} {E : XK} (D : Dz H v d) (ht : t < 10 ^ 12) (hl : ∀ ds, d = .tuple ds → ds.length ≤ 1000) (good : isLensD d = true → ∀ H' u, Same H H' → Q u H') (bad : isLensD d = false → Rz C "value" v H E) : spSix2 K C [v, .int (t : Int)] H Q E := by
  cases h : isLensD d with
  | true =>
    obtain ⟨ns, rfl, L⟩ := lens_of h
    obtain ⟨a, rfl, ha⟩ := dz_lens D
    exact .inl ⟨a, ns, t, rfl, ha, L, ht, good h⟩
  | false => exact .inr ⟨v, .int (t : Int), d, rfl, D.dx, hl, h, bad h⟩
end
end Ov
namespace Ov
open PySem PySem.Spec PyProof.Rows L2
/-! ### what is laid beside a part of the heap while the box is used -/
structure GB (p : Addr) (T H T' H' : Hp) : Prop where
  hh : But p H H'
  tt : Same T T'
  th : Same T' H'
  new : ∀ b, T b = none → H b ≠ none → T' b = none
  up : ∀ b, H b ≠ none → H' b ≠ none
section
variable {p : Addr} {T H T' H' T2 H2 : Hp}
theorem GB.refl (st : Same T H) : GB p T H T H := ⟨But.refl _ _, Same.refl _, st, fun _ e _ => e, fun _ e => e⟩
theorem GB.of (g : Grow T H T' H') : GB p T H T' H' := ⟨But.of g.hh, g.tt, g.th, g.new, fun b e => by
  cases h : H b with
  | none => exact absurd h e
  | some o => rw [g.hh b o h]; exact fun z => nomatch z⟩
theorem GB.trans (g : GB p T H T' H') (g2 : GB p T' H' T2 H2) : GB p T H T2 H2 := ⟨g.hh.trans g2.hh, g.tt.trans g2.tt, g2.th, fun b e n => g2.new b (g.new b e n) (g.up b n), fun b n => g2.up b (g.up b n)⟩
theorem GB.box {n : Nat} (st : Same T H) (tp : T p = none) (b : But p H H') (B : BoxAt H' p n) : GB p T H T H' := ⟨b, Same.refl _, fun c o e => b _ _ (st _ _ e) (ne_of_none e tp), fun _ e _ => e, fun c e => by
  by_cases z : c = p
  · rw [z]; exact B.ne
  · cases h : H c with
    | none => exact absurd h e
    | some o => rw [b c o h z]; exact fun y => nomatch y⟩
theorem GB.lay (g : GB p T H T' H') {a : Addr} (o : HO) (n : H' a = none) : GB p T H T' (upd H' a o) := ⟨g.hh.trans (But.of (same_upd n)), g.tt, g.th.trans (same_upd n), g.new, fun b e => by
  have z := g.up b e
  by_cases y : b = a
  · rw [y, upd_same]; exact fun w => nomatch w
  · rw [upd_ne y]; exact z⟩
theorem GB.put (g : GB p T H T' H') {a : Addr} (o : HO) (n : H' a = none) : GB p T H (upd T' a o) (upd H' a o) := g.trans (.of ((Grow.refl g.th).put o n))
end
end Ov
namespace Ov
open PySem PySem.Spec PyProof.Rows L2
theorem GB.set {p : Addr} {T H T' H' : Hp} (g : GB p T H T' H') {L : Addr} (o : HO) (nH : H L = none) (nT : T' L = none) : GB p T H T' (upd H' L o) :=
  ⟨fun b x e n => by rw [upd_ne (ne_of_none e nH)]; exact g.hh b x e n, g.tt, fun b x e => by rw [upd_ne (ne_of_none e nT)]; exact g.th b x e, g.new, fun b e => by
    by_cases y : b = L
    · rw [y, upd_same]; exact fun w => nomatch w
    · rw [upd_ne y]; exact g.up b e⟩
/-- things in a list in the making, beside the box -/
structure HoldZ (T0 T H : Hp) (p D : Addr) (n : Nat) (vs : List V) (ds : List PyData) : Prop where
  tt : Same T0 T
  ht : Same T H
  tp : T p = none
  tD : T D = none
  ne : D ≠ p
  at_ : H D = some (.lst vs)
  all : DzAll T vs ds
  box : BoxAt H p n
theorem HoldZ.mono {T0 T H : Hp} {p D : Addr} {n m : Nat} {vs : List V} {ds : List PyData} (h : HoldZ T0 T H p D n vs ds) (l : n ≤ m) : HoldZ T0 T H p D m vs ds := { h with box := h.box.mono l }
theorem HoldZ.gb {T0 T H T' G : Hp} {p D : Addr} {n m : Nat} {vs : List V} {ds : List PyData} (h : HoldZ T0 T H p D n vs ds) (g : GB p T H T' G) (B : BoxAt G p m) : HoldZ T0 T' G p D m vs ds :=
  ⟨h.tt.trans g.tt, g.th, g.new _ h.tp h.box.ne, g.new _ h.tD (by rw [h.at_]; exact fun z => nomatch z), h.ne, g.hh _ _ h.at_ h.ne, h.all.same g.tt, B⟩
theorem HoldZ.grow {T0 T H T' G : Hp} {p D : Addr} {n : Nat} {vs : List V} {ds : List PyData} (h : HoldZ T0 T H p D n vs ds) (g : Grow T H T' G) : HoldZ T0 T' G p D n vs ds := h.gb (.of g) (h.box.same g.hh)
theorem BoxAt.upd {H : Hp} {p D : Addr} {n : Nat} {o : HO} (B : BoxAt H p n) (ne : D ≠ p) : BoxAt (L2.upd H D o) p n := by
  obtain ⟨z1, z2, z3, e, r⟩ := B
  exact ⟨z1, z2, z3, by rw [upd_ne (Ne.symm ne)]; exact e, r⟩
theorem HoldZ.push {T0 T H : Hp} {p D : Addr} {n : Nat} {vs us : List V} {ds es : List PyData} (h : HoldZ T0 T H p D n vs ds) (A : DzAll T us es) : HoldZ T0 T (upd H D (.lst (vs ++ us))) p D n (vs ++ us) (ds ++ es) :=
  ⟨h.tt, fun b o e => by rw [upd_ne (ne_of_none e h.tD)]; exact h.ht _ _ e, h.tp, h.tD, h.ne, upd_same, h.all.app A, h.box.upd h.ne⟩
theorem HoldZ.start {T H : Hp} {p D : Addr} {n : Nat} (st : Same T H) (tp : T p = none) (B : BoxAt H p n) (nD : H D = none) : HoldZ T T (upd H D (.lst [])) p D n [] [] :=
  ⟨Same.refl _, st.trans (same_upd nD), tp, st.free nD, fun z => B.ne (z ▸ nD), upd_same, .nil, B.same (same_upd nD)⟩
/-- a heap without p -/
def hide (p : Addr) (H : Hp) : Hp := fun b => if b = p then none else H b
theorem hide_same {p : Addr} {H : Hp} : Same (hide p H) H := fun b o e => by
  unfold hide at e
  by_cases h : b = p
  · rw [if_pos h] at e; cases e
  · rw [if_neg h] at e; exact e
theorem hide_at {p b : Addr} {H : Hp} {o : HO} (e : H b = some o) (h : b ≠ p) : hide p H b = some o := by
  unfold hide
  rw [if_neg h]
  exact e
theorem hide_none {p : Addr} {H : Hp} : hide p H p = none := if_pos rfl
theorem but_hide {p : Addr} {H : Hp} : But p H (hide p H) := fun _ _ e h => hide_at e h
end Ov
namespace Ov
open PySem PySem.Spec PyProof.Rows L2 LamX
/-! ### heaps without the tables of code objects -/
def noT (H : Hp) : Hp := fun b => match H b with
  | some (.tbl _) => none
  | o => o
def NT (U : Hp) : Prop := ∀ b ps, U b ≠ some (.tbl ps)
theorem noT_at {H : Hp} {b : Addr} {o : HO} (e : H b = some o) (n : ∀ ps, o ≠ .tbl ps) : noT H b = some o := by
  unfold noT
  rw [e]
  cases o with
  | tbl ps => exact absurd rfl (n ps)
  | _ => rfl
theorem noT_same {H : Hp} : Same (noT H) H := fun b o e => by
  unfold noT at e
  split at e
  · cases e
  · exact e
theorem noT_nt {H : Hp} : NT (noT H) := fun b ps e => by
  unfold noT at e
  split at e
  · cases e
  · rename_i h
    exact h ps e
theorem NT.sub {U H : Hp} (n : NT U) (s : Same U H) : Same U (noT H) := fun b o e => noT_at (s _ _ e) fun ps z => n b ps (z ▸ e)
theorem NT.ext {U H H' : Hp} (n : NT U) (s : Same U H) (e : ExtN H H') : Same U H' := fun b o h => e b o (s _ _ h) fun ps z => n b ps (z ▸ h)
theorem sqT_noT {K : PySem.W.Frag} {H : Hp} {a : Addr} {xs : List V} (h : SqT K H a xs) : SqT K (noT H) a xs := by
  rcases h with (h | ⟨o, h⟩) | h
  · exact .inl (.inl (noT_at h fun _ z => nomatch z))
  · exact .inl (.inr ⟨o, noT_at h fun _ z => nomatch z⟩)
  · exact .inr h
theorem sqL_noT {K : PySem.W.Frag} {H : Hp} {a : Addr} {xs : List V} (h : SqL K H a xs) : SqL K (noT H) a xs := by
  rcases h with (h | ⟨o, h⟩) | h
  · exact .inl (.inl (noT_at h fun _ z => nomatch z))
  · exact .inl (.inr ⟨o, noT_at h fun _ z => nomatch z⟩)
  · exact .inr h
mutual
theorem Dz.noT {H : Hp} : ∀ {v : V} {d : PyData}, Dz H v d → Dz (Ov.noT H) v d
  | _, _, .non => .non
  | _, _, .bl b => .bl b
  | _, _, .int i => .int i
  | _, _, .str x => .str x
  | _, _, .dct h => .dct (noT_at h fun _ z => nomatch z)
  | _, _, .lst h n a => .lst (noT_at h fun _ z => nomatch z) n (DzAll.noT a)
  | _, _, .tup h a => .tup (noT_at h fun _ z => nomatch z) (DzAll.noT a)
theorem DzAll.noT {H : Hp} : ∀ {vs : List V} {ds : List PyData}, DzAll H vs ds → DzAll (Ov.noT H) vs ds
  | _, _, .nil => .nil
  | _, _, .cons h a => .cons (Dz.noT h) (DzAll.noT a)
end
end Ov
namespace Ov
open PySem PySem.Spec PyProof.Rows L2 LamX
theorem NT.hide {U : Hp} (n : NT U) (p : Addr) : NT (Ov.hide p U) := fun b ps e => n b ps (hide_same _ _ e)
theorem sub_but {U H H' : Hp} {p : Addr} (s : Same U H) (up : U p = none) (b : But p H H') : Same U H' := fun c o e => b c o (s _ _ e) (ne_of_none e up)
theorem BoxAt.noT {H : Hp} {p : Addr} {n : Nat} (h : BoxAt H p n) : BoxAt (Ov.noT H) p n := by
  obtain ⟨a, b, c, e, r⟩ := h
  exact ⟨a, b, c, noT_at e fun _ z => (nomatch z), r⟩
theorem tabs_but {T : Addr} {q : Str} {H H' : Hp} {p : Addr} {n : Nat} (t : Tabs [(T, q)] H) (b : But p H H') (B : BoxAt H p n) : Tabs [(T, q)] H' := by
  obtain ⟨_, _, _, hp, _⟩ := B
  intro z hz
  rw [List.mem_singleton.mp hz]
  obtain ⟨ps, h1, h2, h3⟩ := t (T, q) List.mem_cons_self
  refine ⟨ps, b _ _ h1 (fun e => ?_), h2, fun pos cv e => ?_⟩
  · have h1' : H T = some (.tbl ps) := h1
    have e' : T = p := e
    rw [e', hp] at h1'
    cases h1'
  · obtain ⟨c, e1, e2⟩ := h3 pos cv e
    refine ⟨c, e1, b _ _ e2 (fun z => ?_)⟩
    rw [z, hp] at e2
    unfold CodeO at e2
    cases e2
end Ov
namespace Ov
open PySem PySem.Spec PyProof.Rows L2
/-! ### things bent: sizes -/
structure Fine (D N : Nat) (d : PyData) : Prop where
  sh : d.showable = true
  dep : d.depth ≤ D
  nd : nodes d ≤ N
theorem Fine.mono {D N D' N' : Nat} {d : PyData} (h : Fine D N d) (a : D ≤ D') (b : N ≤ N') : Fine D' N' d := ⟨h.sh, Nat.le_trans h.dep a, Nat.le_trans h.nd b⟩
theorem Fine.shz {D N k : Nat} {d : PyData} (h : Fine D N d) (a : D ≤ k) (b : N ≤ 8000) : Shz d k := ⟨h.sh, Nat.le_trans h.dep a, Nat.le_trans h.nd b⟩
theorem Shows.fine {d : PyData} (s : Shows d) : Fine d.depth (nodes d) d := ⟨s.sh, Nat.le_refl _, Nat.le_refl _⟩
theorem fine_int {i : Int} (h : i.natAbs < 2 ^ 1000) : Fine 0 1 (.int i) := ⟨(shows_int h).sh, by simp [PyData.depth], by simp [nodes]⟩
theorem fine_bool (b : Bool) : Fine 0 1 (.bool b) := ⟨(shows_bool b).sh, by simp [PyData.depth], by simp [nodes]⟩
theorem fine_none : Fine 0 1 .none := ⟨shows_none.sh, by simp [PyData.depth], by simp [nodes]⟩
theorem fine_str {x : Str} (h : (reprText x).length ≤ 100) : Fine 0 101 (.str x) := ⟨(shows_str h).sh, by simp [PyData.depth], by simp only [nodes]; omega⟩
theorem fine_dict : Fine 1 100 (.dict []) := ⟨shows_dict.sh, by simp [PyData.depth, PyData.depthKv], dict0_nodes⟩
structure FineA (D N : Nat) (ds : List PyData) : Prop where
  sh : PyData.showableAll ds = true
  dep : PyData.depthAll ds ≤ D
  nd : nodesAll ds ≤ N
theorem FineA.nil : FineA 0 0 [] := ⟨by simp [PyData.showableAll], by simp [PyData.depthAll], by simp [nodesAll]⟩
theorem FineA.cons {D N M : Nat} {d : PyData} {ds : List PyData} (h : Fine D N d) (t : FineA D M ds) : FineA D (N + M) (d :: ds) := by
  refine ⟨?_, ?_, ?_⟩
  · simp only [PyData.showableAll]; rw [h.sh, t.sh]; rfl
  · simp only [PyData.depthAll]; exact Nat.max_le.mpr ⟨h.dep, t.dep⟩
  · simp only [nodesAll]; exact Nat.add_le_add h.nd t.nd
theorem FineA.app {D N M : Nat} {a b : List PyData} (h : FineA D N a) (t : FineA D M b) : FineA D (N + M) (a ++ b) := by
  refine ⟨by rw [showableAll_app, h.sh, t.sh]; rfl, ?_, by rw [nodesAll_app]; exact Nat.add_le_add h.nd t.nd⟩
  rw [depthAll_app]
  exact Nat.max_le.mpr ⟨h.dep, t.dep⟩
theorem FineA.mono {D N D' N' : Nat} {d : List PyData} (h : FineA D N d) (a : D ≤ D') (b : N ≤ N') : FineA D' N' d := ⟨h.sh, Nat.le_trans h.dep a, Nat.le_trans h.nd b⟩
theorem FineA.tup {D N : Nat} {ds : List PyData} (h : FineA D N ds) : Fine (D + 1) (N + 1) (.tuple ds) := ⟨by simp only [PyData.showable]; exact h.sh, by simp only [PyData.depth]; have := h.dep; omega, by simp only [nodes]; have := h.nd; omega⟩
theorem FineA.lst {D N : Nat} {ds : List PyData} (h : FineA D N ds) : Fine (D + 1) (N + 1) (.list ds) := ⟨by simp only [PyData.showable]; exact h.sh, by simp only [PyData.depth]; have := h.dep; omega, by simp only [nodes]; have := h.nd; omega⟩
theorem FineA.all {D N : Nat} {ds : List PyData} (h : ∀ d ∈ ds, Fine D N d) : FineA D (ds.length * N) ds := by
  induction ds with
  | nil => exact FineA.nil.mono (Nat.zero_le _) (Nat.zero_le _)
  | cons d ds ih =>
    have := FineA.cons (h d List.mem_cons_self) (ih fun x hx => h x (List.mem_cons_of_mem _ hx))
    exact this.mono (Nat.le_refl _) (by rw [List.length_cons, Nat.succ_mul]; omega)
theorem parts_of {ds : List PyData} (h : PyData.showableAll ds = true) {j : Nat} {e : PyData} (he : ds[j]? = some e) :
    e.showable = true ∧ PyData.showableAll (ds.take j) = true ∧ PyData.showableAll (ds.drop (j + 1)) = true ∧ e.depth ≤ PyData.depthAll ds ∧ PyData.depthAll (ds.take j) ≤ PyData.depthAll ds ∧ PyData.depthAll (ds.drop (j + 1)) ≤ PyData.depthAll ds ∧ nodesAll ds = nodesAll (ds.take j) + nodes e + nodesAll (ds.drop (j + 1)) := by
  have e1 : ds = ds.take j ++ e :: ds.drop (j + 1) := by
    obtain ⟨hj, ej⟩ := List.getElem?_eq_some_iff.mp he
    rw [← ej, List.getElem_cons_drop, List.take_append_drop]
  generalize ds.take j = A, ds.drop (j + 1) = B at *
  subst e1
  rw [showableAll_app] at h
  simp only [PyData.showableAll, Bool.and_eq_true] at h
  rw [depthAll_app, nodesAll_app]
  simp only [PyData.depthAll, nodesAll]
  exact ⟨h.2.1, h.1, h.2.2, by omega, by omega, by omega, by omega⟩
theorem nodes_pos : ∀ d : PyData, 1 ≤ nodes d
  | .none => by simp [nodes]
  | .bool _ => by simp [nodes]
  | .int _ => by simp [nodes]
  | .str _ => by simp [nodes]
  | .list _ => by simp [nodes]
  | .tuple _ => by simp [nodes]
  | .dict _ => by simp [nodes]
theorem len_nodes : ∀ ds : List PyData, ds.length ≤ nodesAll ds
  | [] => Nat.zero_le _
  | d :: ds => by
    have := nodes_pos d
    have := len_nodes ds
    simp only [nodesAll, List.length_cons]
    omega
theorem DzAll.mem {H : Hp} : ∀ {vs : List V} {ds : List PyData}, DzAll H vs ds → ∀ {v : V}, v ∈ vs → ∃ d, d ∈ ds ∧ Dz H v d
  | _, _, .nil, v, h => by cases h
  | _, _, .cons a t, v, h => by
    rcases List.mem_cons.mp h with rfl | h
    · exact ⟨_, List.mem_cons_self, a⟩
    · obtain ⟨d, hd, D⟩ := t.mem h
      exact ⟨d, List.mem_cons_of_mem _ hd, D⟩
theorem cutF1 (k : Nat) (xs : List V) : cutV xs (some ((k : Int) + 1)) none = xs.drop (k + 1) := by
  rw [show (k : Int) + 1 = ((k + 1 : Nat) : Int) by omega]
  exact cut_from (k + 1) xs
theorem cutM1 (k : Nat) (xs : List V) : cutV xs (some (k : Int)) (some ((k : Int) + 1)) = (xs.drop k).take 1 := by
  rw [show (k : Int) + 1 = ((k + 1 : Nat) : Int) by omega]
  unfold cutV
  rw [show HT.sIx xs.length 0 (some (k : Int)) = min k xs.length from HT.sIx_nat xs.length 0 k, show HT.sIx xs.length xs.length (some ((k + 1 : Nat) : Int)) = min (k + 1) xs.length from HT.sIx_nat xs.length xs.length (k + 1)]
  rcases Nat.le_total xs.length k with c | c
  · rw [Nat.min_eq_right c, List.drop_of_length_le c, List.drop_of_length_le (Nat.le_refl _), List.take_nil, List.take_nil]
  · rw [Nat.min_eq_left c]
    rcases Nat.lt_or_ge k xs.length with d | d
    · rw [Nat.min_eq_left (by omega), show k + 1 - k = 1 by omega]
    · rw [List.drop_of_length_le d, List.take_nil, List.take_nil]
section
variable {K : PySem.W.Frag} {T H : Hp} {Q : VK}
theorem cat_z {a b : Addr} {xs ys : List V} (st : Same T H) (ha : T a = some (.tup xs)) (hb : T b = some (.tup ys)) (hl : xs.length + ys.length ≤ sizeLine) (q : ∀ l H' T', Grow T H T' H' → T' l = some (.tup (xs ++ ys)) → Q (.ref l) H') : rCatA K (.ref a) (.ref b) H Q := by
  refine ⟨a, b, xs, ys, rfl, rfl, SqT.of (st _ _ ha), SqT.of (st _ _ hb), hl, fun e => ?_, fun _ e => ?_, fun _ _ p np => ?_⟩
  · subst e
    exact q b H T (.refl st) hb
  · subst e
    exact q a H T (.refl st) (by rw [List.append_nil]; exact ha)
  · exact q p _ _ ((Grow.refl st).put _ np) upd_same
theorem cut_z {a : Addr} {xs : List V} {lo hi : Option Int} (st : Same T H) (ha : T a = some (.tup xs)) (q : ∀ l H' T', Grow T H T' H' → T' l = some (.tup (cutV xs lo hi)) → Q (.ref l) H') : rSlA K (.ref a) lo hi H Q := by
  refine ⟨a, xs, rfl, SqT.of (st _ _ ha), fun e => ?_, fun _ p np => ?_⟩
  · exact q a H T (.refl st) (by rw [cut_all e]; exact ha)
  · exact q p _ _ ((Grow.refl st).put _ np) upd_same
end
theorem Grow.lay {T H T' H' : Hp} (g : Grow T H T' H') {a : Addr} (o : HO) (n : H' a = none) : Grow T H T' (upd H' a o) := ⟨g.hh.trans (same_upd n), g.tt, g.th.trans (same_upd n), g.new⟩
theorem Grow.set {T H T' H' : Hp} (g : Grow T H T' H') {L : Addr} (o : HO) (nH : H L = none) (nT : T' L = none) : Grow T H T' (upd H' L o) :=
  ⟨fun b x e => by rw [upd_ne (ne_of_none e nH)]; exact g.hh b x e, g.tt, fun b x e => by rw [upd_ne (ne_of_none e nT)]; exact g.th b x e, g.new⟩
theorem dz_map {α : Type} {H : Hp} {f : α → V} {g : α → PyData} : ∀ {l : List α}, (∀ x ∈ l, Dz H (f x) (g x)) → DzAll H (l.map f) (l.map g)
  | [], _ => .nil
  | x :: l, h => .cons (h x List.mem_cons_self) (dz_map fun y hy => h y (List.mem_cons_of_mem _ hy))
theorem lvl_up {P : Program} {w : World} {K : PySem.W.Frag} {mg : Str → Option Value} {base : Heap} {CX : CXT} {k k' : Nat} {f : Addr} {fd : FuncData} {ps : List Str} {sp : Sp} (F : FnOk P w K mg base CX k f fd ps sp) (h : k ≤ k') : FnOk P w K mg base CX k' f fd ps sp := ⟨F.len, fun A outer s H args us vs Q E room => F.run A outer s H args us vs Q E (room.mono h)⟩
end Ov
namespace Ov
open PySem PySem.Spec PyProof.Rows L2
section
variable {P : Program} {w : World} {K : PySem.W.Frag} {mg : Str → Option Value} {base : Heap}
/-! ### _law_drawn -/
def spDrawn05 : Sp := fun vs H Q _ => ∃ (p : Addr) (n : Nat), vs = [.ref p] ∧ BoxAt H p n ∧ n ≤ 2 ^ 38 ∧ ∀ H' t (ns : List Int), But p H H' → BoxAt H' p (n + 60) → H t = none → H' t = some (.tup (ns.map V.int)) → ns.length ≤ 50 → (∀ x ∈ ns, 0 ≤ x ∧ x < 2 ^ 20) → Q (.ref t) H'
abbrev nDrawn05 : List Str := ["_law_box_here", "_law_many", "_law_gap", "_law_found", "_law_at"]
theorem scDrawn05 : FnScope nDrawn05 ["_law_box_here"] (defScope sDrawn) := ⟨rfl, rfl, rfl, by decide +kernel, rfl, by decide +kernel, by decide +kernel⟩
theorem ok_drawn05 {f fO fT : Addr} {fd fdO fdT : FuncData} {k : Nat} (F : Fun K "_law_drawn" "_law_drawn" sDrawn f fd) (T : Bi mg) (O : Def K mg "_law_of" sOf fO fdO ["_law_box_here", "_law_some"]) (Tk : Def K mg "_law_take" sTake fT fdT ["_law_box_here", "_law_many"]) :
    FnOk P w K mg base CX0 (k + 3) f fd ["_law_box_here"] spDrawn05 := by
  have GO : FnOk P w K mg base CX0 (k + 2) fO fdO ["_law_box_here", "_law_some"] spOf := ok_of O.fn T Tk
  have GT : FnOk P w K mg base CX0 (k + 2) fT fdT ["_law_box_here", "_law_many"] spTake := ok_take Tk.fn
  refine F.ok scDrawn05 (fun vs H Q E h => ?_) (fun cdv A' outer s H vs Q E hr h => ?_)
  · obtain ⟨p, n, rfl, _⟩ := h
    rfl
  · obtain ⟨p, n, rfl, B, hn, q⟩ := h
    refine ⟨_, pss_cons (ps_set (i := 1) scDrawn05.nd rfl (.inl rfl) (pe_call GO hr (by rfl) O.gl O.fn.kp O.bi .nil pass0 (pa_cons (pv 0) (pa_cons (pe_lst (pa_cons pe_int (pa_cons pe_int (pa_cons pe_int (pa_cons pe_int (pa_cons pe_int (pa_cons pe_int (pa_cons pe_int pa_nil)))))))) pa_nil))))
      (pss_cons (ps_par (i := 2) (j := 3) (by rfl) scDrawn05.nd rfl rfl (by decide) rfl rfl (pa_cons (pe_op op_add pe_int (pe_call GT hr (by rfl) Tk.gl Tk.fn.kp Tk.bi .nil pass0 (pa_cons (pv 0) (pa_cons (pe_op op_fdiv pe_int (pe_callB (call_max2 rfl) (by rfl) T.max (by decide +kernel) (pa_cons pe_int (pa_cons (pv 1) pa_nil)))) pa_nil)))) (pa_cons (pe_lst pa_nil) pa_nil)) (by rfl))
      (pss_cons (ps_for PassesOwn.never rfl (pi_range1 (by rfl) T.range (pa_cons (pv 1) pa_nil)) (pg_name (i := 4) scDrawn05.nd rfl (.inl rfl))
        (pss_one (ps_expr (pe_bm PySem.F.plainAttrs_list PySem.F.slot_list_append PySem.F.type_list_append mt_append (pv 3) (pa_cons (pe_op op_add (pe_op op_add (pe_op op_mul (pv 4) (pv 2)) pe_int) (pe_call GT hr (by rfl) Tk.gl Tk.fn.kp Tk.bi .nil pass0 (pa_cons (pv 0) (pa_cons (pv 2) pa_nil)))) pa_nil)))))
      (pss_one (ps_ret (pe_callTy call_tuple_of (by rfl) T.tuple (by decide +kernel) (pa_cons (pv 3) pa_nil)))))), ?_⟩
    refine ⟨_, rfl, by show 7 ≤ sizeLine; decide, fun l nl => ?_⟩
    have hlp : l ≠ p := fun z => B.ne (z ▸ nl)
    refine ⟨p, l, n, _, rfl, B.same (same_upd nl), by omega, upd_same, hlp, by decide, by decide, fun H1 v hv b1 B1 f1 => ?_⟩
    have b01 : But p H H1 := (But.of (same_upd nl)).trans b1
    obtain ⟨m, rfl, hm, hq⟩ : ∃ m : Nat, v = .int (m : Int) ∧ m ≤ 50 ∧ (0 < (1000 : Int) / (if (m : Int) > 1 then (m : Int) else 1) ∧ (1000 : Int) / (if (m : Int) > 1 then (m : Int) else 1) ≤ 1000) := by
      simp only [List.mem_cons, List.not_mem_nil, or_false] at hv
      rcases hv with rfl | rfl | rfl | rfl | rfl | rfl | rfl
      · exact ⟨0, rfl, by decide, by decide⟩
      · exact ⟨1, rfl, by decide, by decide⟩
      · exact ⟨2, rfl, by decide, by decide⟩
      · exact ⟨3, rfl, by decide, by decide⟩
      · exact ⟨5, rfl, by decide, by decide⟩
      · exact ⟨49, rfl, by decide, by decide⟩
      · exact ⟨50, rfl, by decide, by decide⟩
    refine ⟨_, rfl, _, rfl, _, _, rfl, _, _, rfl, rfl, ?_, p, _, n + 1, rfl, B1, by omega, hq.1, by omega, fun H2 g b2 B2 g0 g1 f2 => ?_⟩
    · split <;> constructor <;> omega
    refine ⟨_, _, rfl, rfl, Nat.zero_le _, fun d nd => ?_⟩
    have hdp : d ≠ p := fun z => B2.ne (z ▸ nd)
    have b02 := b01.trans b2
    have hHd : H d = none := b02.free B.ne nd B2.ne
    refine ⟨_, _, rfl, ?_⟩
    have B3 := B2.same (same_upd (o := HO.lst []) nd)
    have b03 : But p H (upd H2 d (.lst [])) := b02.trans (But.of (same_upd nd))
    refine ⟨_, rfl, (m : Int), rfl, by omega, by omega, for_range (lo := 0) (fun i σ H4 => ∃ (ns : List Int) (y : Option V), σ = [some (.ref p), some (.int (m : Int)), some (.int (1 + g)), some (.ref d), y] ∧ But p H H4 ∧ BoxAt H4 p (n + 2 + i) ∧ H4 d = some (.lst (ns.map V.int)) ∧ ns.length = i ∧ ∀ x ∈ ns, 0 ≤ x ∧ x < 2 ^ 20)
      ⟨[], none, rfl, b03, B3, upd_same, rfl, fun _ h => nomatch h⟩ ?_ ?_⟩
    · rintro i σ H4 hi ⟨ns, y, rfl, b4, B4, h4, l4, k4⟩
      have hi7 : i < 50 := by omega
      have hmul : 0 ≤ (0 + (i : Int)) * (1 + g) ∧ (0 + (i : Int)) * (1 + g) ≤ 50 * 1001 := by
        constructor
        · exact Int.mul_nonneg (by omega) (by omega)
        · exact Int.mul_le_mul (by omega) (by omega) (by omega) (by decide)
      refine ⟨_, rfl, .inl ⟨rfl, _, SqL.of h4⟩, _, rfl, _, rfl, _, _, rfl, rfl, .inl ⟨by omega, by omega⟩, _, _, rfl, rfl, _, rfl, _, rfl, p, _, n + 2 + i, rfl, B4, by omega, by omega, by omega, fun H5 e b5 B5 e0 e1 f5 => ?_⟩
      have h5 : H5 d = some (.lst (ns.map V.int)) := b5 _ _ h4 hdp
      refine ⟨_, _, rfl, rfl, d, _, _, rfl, rfl, h5, small1000 (by rw [List.length_map]; omega), ns ++ [(0 + (i : Int)) * (1 + g) + 1 + e], _, rfl, fun b o eb hb => ?_, ?_, ?_, by rw [List.length_append, l4]; rfl, fun x hx => ?_⟩
      · rw [upd_ne (ne_of_none eb hHd)]
        exact b5 _ _ (b4 b o eb hb) hb
      · obtain ⟨x1, x2, x3, e1, r⟩ := B5
        exact ⟨x1, x2, x3, by rw [upd_ne (Ne.symm hdp)]; exact e1, r⟩
      · rw [upd_same, List.map_append]; rfl
      · rcases List.mem_append.mp hx with hx | hx
        · exact k4 x hx
        · rw [List.mem_singleton.mp hx]
          omega
    · rintro σ H4 ⟨ns, y, rfl, b4, B4, h4, l4, k4⟩
      refine ⟨_, rfl, d, _, rfl, .inl ⟨SqL.of h4, fun t nt => ?_⟩⟩
      have s6 := same_upd (o := HO.tup (ns.map V.int)) nt
      exact q _ t ns (b4.trans (But.of s6)) ((B4.same s6).mono (by omega)) (b4.free B.ne nt B4.ne) upd_same (by omega) k4
end
end Ov
namespace Ov
open PySem PySem.Spec PyProof.Rows L2
section
variable {P : Program} {w : World} {K : PySem.W.Frag} {mg : Str → Option Value} {base : Heap}
/-! ### _law_odd -/
theorem cut_ints (ns : List Int) (lo hi : Option Int) : ∃ ms : List Int, cutV (ns.map V.int) lo hi = ms.map V.int ∧ ms.length ≤ ns.length ∧ ∀ x ∈ ms, x ∈ ns := by
  refine ⟨(ns.drop (HT.sIx (ns.map V.int).length 0 lo)).take (HT.sIx (ns.map V.int).length (ns.map V.int).length hi - HT.sIx (ns.map V.int).length 0 lo), ?_, ?_, ?_⟩
  · unfold cutV
    rw [List.map_take, List.map_drop]
  · rw [List.length_take, List.length_drop]
    omega
  · exact fun x hx => List.mem_of_mem_drop (List.mem_of_mem_take hx)
def rgI (a b : Int) : List Int := (List.range (b - a).toNat).map fun i : Nat => a + (i : Int)
theorem rgV_ints (a b : Int) : rgV a b = (rgI a b).map V.int := by
  unfold rgV rgI
  rw [List.map_map]
  rfl
theorem fine_ints {ns : List Int} (h : ∀ x ∈ ns, 0 ≤ x ∧ x < 2 ^ 20) : FineA 0 ns.length (ns.map PyData.int) := by
  have z := FineA.all (D := 0) (N := 1) (ds := ns.map PyData.int) fun d hd => by
    obtain ⟨x, hx, rfl⟩ := List.mem_map.mp hd
    have := h x hx
    exact fine_int (Nat.lt_of_lt_of_le (show x.natAbs < 2 ^ 20 by omega) (Nat.pow_le_pow_right (by decide) (by decide)))
  rw [List.length_map, Nat.mul_one] at z
  exact z
def spOdd05 : Sp := fun vs H Q _ => ∃ (p a : Addr) (n : Nat) (ns : List Int) (T : Hp), vs = [.ref p, .ref a] ∧ BoxAt H p n ∧ n + 3 ≤ 2 ^ 38 ∧ Same T H ∧ T p = none ∧ T a = some (.tup (ns.map V.int)) ∧ ns.length ≤ 50 ∧ (∀ x ∈ ns, 0 ≤ x ∧ x < 2 ^ 20) ∧
  ∀ H' T' v' d', GB p T H T' H' → BoxAt H' p (n + 3) → Dz T' v' d' → Fine 3 300 d' → Q v' H'
abbrev nOdd05 : List Str := ["_law_box_here", "_law_value", "_law_at", "_law_part", "_law_some"]
theorem scOdd05 : FnScope nOdd05 ["_law_box_here", "_law_value"] (defScope s_law_odd) := ⟨rfl, rfl, rfl, by decide +kernel, rfl, by decide +kernel, by decide +kernel⟩
theorem ok_odd05 {f fO fT : Addr} {fd fdO fdT : FuncData} {k : Nat} (F : Fun K "_law_odd" "_law_odd" s_law_odd f fd) (Ti : Bi mg) (O : Def K mg "_law_of" sOf fO fdO ["_law_box_here", "_law_some"]) (Tk : Def K mg "_law_take" sTake fT fdT ["_law_box_here", "_law_many"]) :
    FnOk P w K mg base CX0 (k + 3) f fd ["_law_box_here", "_law_value"] spOdd05 := by
  have GO : FnOk P w K mg base CX0 (k + 2) fO fdO ["_law_box_here", "_law_some"] spOf := ok_of O.fn Ti Tk
  have GT : FnOk P w K mg base CX0 (k + 2) fT fdT ["_law_box_here", "_law_many"] spTake := ok_take Tk.fn
  refine F.ok scOdd05 (fun vs H Q E h => ?_) (fun cdv A' outer s H vs Q E hr h => ?_)
  · obtain ⟨p, a, n, ns, T, rfl, _⟩ := h
    rfl
  · obtain ⟨p, a, n, ns, T, rfl, B, hn, st, tp, ha, hl, hb, q⟩ := h
    refine ⟨_, C8.pss_cut (ps_set (i := 2) scOdd05.nd rfl (.inl rfl) (pe_call GT hr (by rfl) Tk.gl Tk.fn.kp Tk.bi .nil pass0 (pa_cons (pv 0) (pa_cons (pe_op op_add (pe_callB call_len_seq (by rfl) Ti.len PySem.boot_len (pa_cons (pv 1) pa_nil)) pe_int) pa_nil))))
      (C8.pss_cut (ps_set (i := 3) scOdd05.nd rfl (.inl rfl) (pe_call GO hr (by rfl) O.gl O.fn.kp O.bi .nil pass0 (pa_cons (pv 0) (pa_cons (pe_lst (pa_cons pe_int (pa_cons pe_int (pa_cons pe_bl (pa_cons pe_bl (pa_cons pe_str (pa_cons pe_non (pa_cons (pe_tup (pa_cons pe_int pa_nil)) (pa_cons (pe_low pa_nil)
          (pa_cons (pe_un un_neg pe_int) (pa_cons (pe_op op_pow pe_int pe_int) (pa_cons pe_int (pa_cons pe_int (pa_cons pe_dnewK pa_nil)))))))))))))) pa_nil))))
      (C8.pss_cut (ps_set (i := 4) scOdd05.nd rfl (.inl rfl) (pe_lst
          (pa_cons (pe_op op_catA (pe_op op_catA (pe_slice sl_tupA (pv 1) po_none (po_some (pv 2))) (pe_tup (pa_cons (pv 3) pa_nil))) (pe_slice sl_tupA (pv 1) (po_some (pv 2)) po_none))
          (pa_cons (pe_op op_catA (pe_op op_catA (pe_slice sl_tupA (pv 1) po_none (po_some (pv 2))) (pe_tup (pa_cons (pv 3) pa_nil))) (pe_slice sl_tupA (pv 1) (po_some (pe_op op_add (pv 2) pe_int)) po_none))
          (pa_cons (pe_rev (pv 1) (pe_un un_neg pe_int)) (pa_cons (pe_callTy call_listLow (by rfl) Ti.list (by decide +kernel) (pa_cons (pv 1) pa_nil)) pa_nil))))))
      (pss_one (ps_ret (pe_call GO hr (by rfl) O.gl O.fn.kp O.bi .nil pass0 (pa_cons (pv 0) (pa_cons (pe_op op_cat (pv 4) (pe_lst (pa_cons (pe_op op_catA (pv 1) (pe_slice sl_tupA (pv 1) (po_some (pe_un un_neg pe_int)) po_none))
          (pa_cons (pe_tup (pa_cons (pv 1) pa_nil)) (pa_cons (pe_slice sl_tupA (pv 1) (po_some pe_int) po_none) (pa_cons (pe_tupRg (by rfl) (by rfl) Ti.tuple (prg_2 (by rfl) Ti.range pe_int pe_int)) (pa_cons (pe_tupRg (by rfl) (by rfl) Ti.tuple (prg_2 (by rfl) Ti.range pe_int pe_int)) pa_nil))))))) pa_nil))))))), ?_⟩
    have ln : (ns.map V.int).length = ns.length := List.length_map ..
    -- the place
    refine ⟨fun σ G => ∃ at_ : Int, σ = [some (.ref p), some (.ref a), some (.int at_), none, none] ∧ GB p T H T G ∧ BoxAt G p (n + 1), ?_, ?_⟩
    · refine ⟨_, rfl, _, rfl, a, _, rfl, .inr (SqT.of (st _ _ ha)), _, _, rfl, rfl, p, _, n, rfl, B, by omega, by omega, by omega, fun H1 at_ b1 B1 at0 at1 f1 => ?_⟩
      exact ⟨at_, rfl, GB.box st tp b1 B1, B1⟩
    rintro σ H1 ⟨at_, rfl, g1, B1⟩
    -- what is put there
    refine ⟨fun σ G => ∃ (T2 : Hp) (x : V) (d : PyData), σ = [some (.ref p), some (.ref a), some (.int at_), some x, none] ∧ GB p T H T2 G ∧ BoxAt G p (n + 2) ∧ Dz T2 x d ∧ Fine 1 101 d, ?_, ?_⟩
    · refine ⟨_, rfl, by show 1 ≤ sizeLine; decide, fun u1 n1 => ?_⟩
      have x1 := (Grow.refl g1.th).put (HO.tup [V.int 3]) n1
      have A1 : DzAll (upd T u1 (HO.tup [V.int 3])) [.int 0, .int 1001, .bl true, .bl false, .str "3", .non, .ref u1] [.int 0, .int 1001, .bool true, .bool false, .str "3", .none, .tuple [.int 3]] :=
        .cons (.int _) (.cons (.int _) (.cons (.bl _) (.cons (.bl _) (.cons (.str _) (.cons .non (.cons (.tup upd_same (.cons (.int _) .nil)) .nil))))))
      have e1 := x1
      generalize upd T u1 (HO.tup [V.int 3]) = T2, upd H1 u1 (HO.tup [V.int 3]) = G2 at *
      refine ⟨Nat.zero_le _, fun l2 n2 s2 => ?_⟩
      have x2 := (Grow.refl e1.th).put (HO.lst []) n2
      have A2 := (A1.same x2.tt).app (.cons (.lst (a := l2) upd_same s2 .nil) (.cons (.int (-1)) (.cons (.int (10 ^ (20 : Int).toNat)) (.cons (.int 1000) (.cons (.int 1) .nil)))))
      have e2 := e1.trans x2
      generalize upd T2 l2 (HO.lst []) = T3, upd G2 l2 (HO.lst []) = G3 at *
      refine ⟨_, rfl, _, _, rfl, rfl, ⟨by decide, by decide, by decide⟩, fun l3 n3 => ?_⟩
      have x3 := (Grow.refl e2.th).put (HO.dK []) n3
      have A3 := (A2.same x3.tt).app (.cons (.dct (a := l3) upd_same) .nil)
      have e3 := e2.trans x3
      generalize upd T3 l3 (HO.dK []) = T4, upd G3 l3 (HO.dK []) = G4 at *
      refine ⟨by show 13 ≤ sizeLine; decide, fun S nS => ?_⟩
      have g4 := g1.trans (GB.of e3)
      have g5 := g4.lay (HO.lst ([.int 0, .int 1001, .bl true, .bl false, .str "3", .non, .ref u1] ++ [V.ref l2, .int (-1), .int (10 ^ (20 : Int).toNat), .int 1000, .int 1] ++ [V.ref l3])) nS
      have B4 := B1.same e3.hh
      have B5 := B4.same (same_upd (o := HO.lst ([.int 0, .int 1001, .bl true, .bl false, .str "3", .non, .ref u1] ++ [V.ref l2, .int (-1), .int (10 ^ (20 : Int).toNat), .int 1000, .int 1] ++ [V.ref l3])) nS)
      refine ⟨p, S, n + 1, _, rfl, B5, by omega, upd_same, (fun z => B4.ne (z ▸ nS)), by show 0 < 13; decide, by show 13 ≤ 1000; decide, fun G' v' mv b' B' f' => ?_⟩
      obtain ⟨d', hd', Dv'⟩ := A3.mem mv
      refine ⟨T4, v', d', rfl, g5.trans (GB.box g5.th (g4.new p tp B.ne) b' B'), B', Dv', ?_⟩
      have t0 : ∀ i : Int, i.natAbs < 2 ^ 1000 → Fine 1 101 (.int i) := fun i h => (fine_int h).mono (by decide) (by decide)
      simp only [List.mem_append, List.mem_cons, List.not_mem_nil, or_false] at hd'
      rcases hd' with (((rfl | rfl | rfl | rfl | rfl | rfl | rfl) | rfl | rfl | rfl | rfl | rfl) | rfl)
      · exact t0 _ (by decide)
      · exact t0 _ (by decide)
      · exact (fine_bool _).mono (by decide) (by decide)
      · exact (fine_bool _).mono (by decide) (by decide)
      · exact (fine_str (by decide +kernel)).mono (by decide) (by decide)
      · exact fine_none.mono (by decide) (by decide)
      · exact (FineA.cons (fine_int (i := 3) (by decide)) (FineA.nil.mono (Nat.zero_le _) (Nat.le_refl _))).tup.mono (by decide) (by decide)
      · exact FineA.nil.lst.mono (by decide) (by decide)
      · exact t0 _ (by decide)
      · exact t0 _ (Nat.lt_of_lt_of_le (show ((10 : Int) ^ (20 : Int).toNat).natAbs < 2 ^ 70 by decide) (Nat.pow_le_pow_right (by decide) (by decide)))
      · exact t0 _ (by decide)
      · exact t0 _ (by decide)
      · exact fine_dict.mono (by decide) (by decide)
    rintro σ H2 ⟨T2, x, dx, rfl, g2, B2, Dx2, Fx2⟩
    have tp2 := g2.new p tp B.ne
    have fi : ∀ ms : List Int, (∀ x ∈ ms, x ∈ ns) → FineA 0 ms.length (ms.map PyData.int) := fun ms h => fine_ints fun x hx => hb x (h x hx)
    have long : ∀ m k : Nat, m ≤ 50 → k ≤ 51 → m + k ≤ sizeLine := fun m k h1 h2 => by rw [sizeLine_eq]; omega
    -- four of it
    refine ⟨fun σ G => ∃ (T3 : Hp) (S : Addr) (vs : List V) (ds : List PyData), σ = [some (.ref p), some (.ref a), some (.int at_), some x, some (.ref S)] ∧ GB p T H T3 G ∧ BoxAt G p (n + 2) ∧ G S = some (.lst vs) ∧ DzAll T3 vs ds ∧ vs.length = 4 ∧ ∀ d ∈ ds, Fine 3 300 d, ?_, ?_⟩
    · -- put between
      refine ⟨_, rfl, _, rfl, _, rfl, cut_z g2.th (g2.tt _ _ ha) fun a1 H3 T3 e3 S3 => ?_⟩
      obtain ⟨m1, c1, l1, i1⟩ := cut_ints ns none (some at_)
      rw [c1] at S3
      refine ⟨_, rfl, by show 1 ≤ sizeLine; decide, fun u nu => ?_⟩
      have x4 := (Grow.refl e3.th).put (HO.tup [x]) nu
      have S4 : upd T3 u (HO.tup [x]) u = some (.tup [x]) := upd_same
      have e4 := e3.trans x4
      generalize upd T3 u (HO.tup [x]) = T4, upd H3 u (HO.tup [x]) = H4 at *
      refine cat_z e4.th (x4.tt _ _ S3) S4 (by rw [List.length_map]; exact long _ 1 (by omega) (by decide)) fun r H5 T5 x5 S5 => ?_
      have e5 := e4.trans x5
      refine ⟨_, rfl, _, rfl, _, rfl, ?_⟩
      try delta tNoPart
      refine cut_z e5.th (e5.tt _ _ (g2.tt _ _ ha)) fun a2 H6 T6 x6 S6 => ?_
      obtain ⟨m2, c2, l2, i2⟩ := cut_ints ns (some at_) none
      rw [c2] at S6
      refine cat_z x6.th (x6.tt _ _ S5) S6 (by rw [List.length_append, List.length_map, List.length_map, Nat.add_comm]; exact long _ _ (by omega) (by show _ + 1 ≤ 51; omega)) fun r1 H7 T7 x7 S7 => ?_
      have e7 := e5.trans (x6.trans x7)
      have D7 : Dz T7 (.ref r1) (.tuple (m1.map PyData.int ++ [dx] ++ m2.map PyData.int)) := .tup S7 (((dz_ints m1).app (.cons (Dx2.same e7.tt) .nil)).app (dz_ints m2))
      have F7 : Fine 3 300 (.tuple (m1.map PyData.int ++ [dx] ++ m2.map PyData.int)) := ((((fi m1 i1).mono (by decide) (Nat.le_refl _)).app (FineA.cons Fx2 (FineA.nil.mono (Nat.zero_le _) (Nat.le_refl _)))).app ((fi m2 i2).mono (by decide) (Nat.le_refl _))).tup.mono (by decide) (by omega)
      clear S3 S4 S5 S6 S7 x4 x5 x6 x7 e3 e4 e5
      -- put in the place of another
      refine ⟨_, rfl, _, rfl, _, rfl, cut_z e7.th (e7.tt _ _ (g2.tt _ _ ha)) fun a3 H8 T8 x8 S8 => ?_⟩
      rw [c1] at S8
      refine ⟨_, rfl, by show 1 ≤ sizeLine; decide, fun u9 nu9 => ?_⟩
      have x9 := (Grow.refl x8.th).put (HO.tup [x]) nu9
      have S9 : upd T8 u9 (HO.tup [x]) u9 = some (.tup [x]) := upd_same
      have e9 := e7.trans (x8.trans x9)
      have D9 := D7.same (x8.tt.trans x9.tt)
      generalize upd T8 u9 (HO.tup [x]) = T9, upd H8 u9 (HO.tup [x]) = H9 at *
      refine cat_z e9.th (x9.tt _ _ S8) S9 (by rw [List.length_map]; exact long _ 1 (by omega) (by decide)) fun r10 H10 T10 x10 S10 => ?_
      have e10 := e9.trans x10
      refine ⟨_, rfl, _, rfl, _, _, rfl, rfl, _, rfl, ?_⟩
      try delta tNoPart
      refine cut_z e10.th (e10.tt _ _ (g2.tt _ _ ha)) fun a11 H11 T11 x11 S11 => ?_
      obtain ⟨m3, c3, l3, i3⟩ := cut_ints ns (some (at_ + 1)) none
      rw [c3] at S11
      refine cat_z x11.th (x11.tt _ _ S10) S11 (by rw [List.length_append, List.length_map, List.length_map, Nat.add_comm]; exact long _ _ (by omega) (by show _ + 1 ≤ 51; omega)) fun r2 H12 T12 x12 S12 => ?_
      have e12 := e10.trans (x11.trans x12)
      have D12 : Dz T12 (.ref r2) (.tuple (m1.map PyData.int ++ [dx] ++ m3.map PyData.int)) := .tup S12 (((dz_ints m1).app (.cons (Dx2.same e12.tt) .nil)).app (dz_ints m3))
      have D71 := D9.same (x10.tt.trans (x11.tt.trans x12.tt))
      have F12 : Fine 3 300 (.tuple (m1.map PyData.int ++ [dx] ++ m3.map PyData.int)) := ((((fi m1 i1).mono (by decide) (Nat.le_refl _)).app (FineA.cons Fx2 (FineA.nil.mono (Nat.zero_le _) (Nat.le_refl _)))).app ((fi m3 i3).mono (by decide) (Nat.le_refl _))).tup.mono (by decide) (by omega)
      clear S8 S9 S10 S11 S12 x8 x9 x10 x11 x12 e7 e9 e10 D7 D9
      -- turned round
      refine ⟨_, rfl, _, rfl, rfl, a, _, rfl, SqT.of (e12.th _ _ (e12.tt _ _ (g2.tt _ _ ha))), fun r3 nr3 => ?_⟩
      rw [← List.map_reverse]
      have x13 := (Grow.refl e12.th).put (HO.tup (ns.reverse.map V.int)) nr3
      have e13 := e12.trans x13
      have D13 : Dz (upd T12 r3 (HO.tup (ns.reverse.map V.int))) (.ref r3) (.tuple (ns.reverse.map PyData.int)) := .tup upd_same (dz_ints _)
      have F13 : Fine 3 300 (.tuple (ns.reverse.map PyData.int)) := (fi ns.reverse fun x hx => List.mem_reverse.mp hx).tup.mono (by decide) (by rw [List.length_reverse]; omega)
      have D71 := D71.same x13.tt
      have D12 := D12.same x13.tt
      generalize upd T12 r3 (HO.tup (ns.reverse.map V.int)) = T13, upd H12 r3 (HO.tup (ns.reverse.map V.int)) = H13 at *
      -- as a list
      refine ⟨_, rfl, a, _, rfl, SqT.of (e13.th _ _ (e13.tt _ _ (g2.tt _ _ ha))), fun r4 nr4 sr4 => ?_⟩
      have x14 := (Grow.refl e13.th).put (HO.lst (ns.map V.int)) nr4
      have e14 := e13.trans x14
      have D14 : Dz (upd T13 r4 (HO.lst (ns.map V.int))) (.ref r4) (.list (ns.map PyData.int)) := .lst upd_same sr4 (dz_ints _)
      have F14 : Fine 3 300 (.list (ns.map PyData.int)) := (fi ns fun x hx => hx).lst.mono (by decide) (by omega)
      have A := DzAll.cons (D71.same x14.tt) (.cons (D12.same x14.tt) (.cons (D13.same x14.tt) (.cons D14 .nil)))
      generalize upd T13 r4 (HO.lst (ns.map V.int)) = T14, upd H13 r4 (HO.lst (ns.map V.int)) = H14 at *
      refine ⟨by show 4 ≤ sizeLine; decide, fun S nS => ?_⟩
      refine ⟨T14, S, _, _, rfl, (g2.trans (.of e14)).lay _ nS, (B2.same e14.hh).same (same_upd nS), upd_same, A, rfl, fun d hd => ?_⟩
      simp only [List.mem_cons, List.not_mem_nil, or_false] at hd
      rcases hd with rfl | rfl | rfl | rfl
      · exact F7
      · exact F12
      · exact F13
      · exact F14
    rintro σ H3 ⟨T3, S, vs, ds, rfl, g3, B3, hS, A3, l4, F3⟩
    have tp3 := g3.new p tp B.ne
    have ha3 := g3.tt _ _ ha
    -- five more
    refine ⟨_, rfl, _, rfl, _, rfl, _, rfl, _, rfl, _, rfl, ?_⟩
    try delta tNoPart
    refine cut_z g3.th ha3 fun a4 H4 T4 x4 S4 => ?_
    obtain ⟨m4, c4, l4', i4⟩ := cut_ints ns (some (-1)) none
    rw [c4] at S4
    refine cat_z x4.th (x4.tt _ _ ha3) S4 (by rw [List.length_map, List.length_map]; exact long _ _ hl (by omega)) fun r5 H5 T5 x5 S5 => ?_
    have e5 := x4.trans x5
    have D5 : Dz T5 (.ref r5) (.tuple (ns.map PyData.int ++ m4.map PyData.int)) := .tup S5 ((dz_ints ns).app (dz_ints m4))
    have F5 : Fine 3 300 (.tuple (ns.map PyData.int ++ m4.map PyData.int)) := ((fi ns fun x hx => hx).app (fi m4 i4)).tup.mono (by decide) (by omega)
    refine ⟨_, rfl, by show 1 ≤ sizeLine; decide, fun r6 nr6 => ?_⟩
    have x6 := (Grow.refl e5.th).put (HO.tup [V.ref a]) nr6
    have D6 : Dz (upd T5 r6 (HO.tup [V.ref a])) (.ref r6) (.tuple [.tuple (ns.map PyData.int)]) := .tup upd_same (.cons (.tup ((e5.tt.trans x6.tt) _ _ ha3) (dz_ints ns)) .nil)
    have F6 : Fine 3 300 (.tuple [.tuple (ns.map PyData.int)]) := (FineA.cons (fi ns fun x hx => hx).tup (FineA.nil.mono (Nat.zero_le _) (Nat.le_refl _))).tup.mono (by decide) (by omega)
    have e6 := e5.trans x6
    have D5 := D5.same x6.tt
    generalize upd T5 r6 (HO.tup [V.ref a]) = T6, upd H5 r6 (HO.tup [V.ref a]) = H6 at *
    refine ⟨_, rfl, _, rfl, ?_⟩
    try delta tNoPart
    refine cut_z e6.th (e6.tt _ _ ha3) fun r7 H7 T7 x7 S7 => ?_
    obtain ⟨m7, c7, l7, i7⟩ := cut_ints ns (some 1) none
    rw [c7] at S7
    have D7 : Dz T7 (.ref r7) (.tuple (m7.map PyData.int)) := .tup S7 (dz_ints m7)
    have F7 : Fine 3 300 (.tuple (m7.map PyData.int)) := (fi m7 i7).tup.mono (by decide) (by omega)
    have e7 := e6.trans x7
    have D5 := D5.same x7.tt
    have D6 := D6.same x7.tt
    have rok : ∀ b : Int, b ≤ 52 → ∀ x ∈ rgI 1 b, 0 ≤ x ∧ x < 2 ^ 20 := fun b hb x hx => by
      unfold rgI at hx
      obtain ⟨i, hi, rfl⟩ := List.mem_map.mp hx
      have := List.mem_range.mp hi
      omega
    refine ⟨_, _, rfl, rfl, RgOk.of_le (by decide) (by decide) (by decide) (by decide), fun r8 nr8 => ?_⟩
    rw [rgV_ints]
    have x8 := (Grow.refl e7.th).put (HO.tup ((rgI 1 52).map V.int)) nr8
    have D8 : Dz (upd T7 r8 (HO.tup ((rgI 1 52).map V.int))) (.ref r8) (.tuple ((rgI 1 52).map PyData.int)) := .tup upd_same (dz_ints _)
    have F8 : Fine 3 300 (.tuple ((rgI 1 52).map PyData.int)) := (fine_ints (rok 52 (by decide))).tup.mono (by decide) (by unfold rgI; rw [List.length_map, List.length_range]; decide)
    have e8 := e7.trans x8
    have D5 := D5.same x8.tt
    have D6 := D6.same x8.tt
    have D7 := D7.same x8.tt
    generalize upd T7 r8 (HO.tup ((rgI 1 52).map V.int)) = T8, upd H7 r8 (HO.tup ((rgI 1 52).map V.int)) = H8 at *
    refine ⟨_, _, rfl, rfl, RgOk.of_le (by decide) (by decide) (by decide) (by decide), fun r9 nr9 => ?_⟩
    rw [rgV_ints]
    have x9 := (Grow.refl e8.th).put (HO.tup ((rgI 1 51).map V.int)) nr9
    have D9 : Dz (upd T8 r9 (HO.tup ((rgI 1 51).map V.int))) (.ref r9) (.tuple ((rgI 1 51).map PyData.int)) := .tup upd_same (dz_ints _)
    have F9 : Fine 3 300 (.tuple ((rgI 1 51).map PyData.int)) := (fine_ints (rok 51 (by decide))).tup.mono (by decide) (by unfold rgI; rw [List.length_map, List.length_range]; decide)
    have e9 := e8.trans x9
    have A9 := DzAll.cons (D5.same x9.tt) (.cons (D6.same x9.tt) (.cons (D7.same x9.tt) (.cons (D8.same x9.tt) (.cons D9 .nil))))
    have A39 := A3.same e9.tt
    have hS9 := e9.hh _ _ hS
    generalize upd T8 r9 (HO.tup ((rgI 1 51).map V.int)) = T9, upd H8 r9 (HO.tup ((rgI 1 51).map V.int)) = H9 at *
    refine ⟨by show 5 ≤ sizeLine; decide, fun L nL => ?_⟩
    have e10 := e9.lay (HO.lst [V.ref r5, V.ref r6, V.ref r7, V.ref r8, V.ref r9]) nL
    have hS10 := (same_upd (o := HO.lst [V.ref r5, V.ref r6, V.ref r7, V.ref r8, V.ref r9]) nL) _ _ hS9
    have hL10 : upd H9 L (HO.lst [V.ref r5, V.ref r6, V.ref r7, V.ref r8, V.ref r9]) L = some (.lst [V.ref r5, V.ref r6, V.ref r7, V.ref r8, V.ref r9]) := upd_same
    generalize upd H9 L (HO.lst [V.ref r5, V.ref r6, V.ref r7, V.ref r8, V.ref r9]) = H10 at *
    refine ⟨S, L, _, _, rfl, rfl, hS10, hL10, by rw [l4]; show 4 + 5 ≤ sizeLine; decide, fun c nc => ?_⟩
    have e11 := e10.lay (HO.lst (vs ++ [V.ref r5, V.ref r6, V.ref r7, V.ref r8, V.ref r9])) nc
    have g11 := g3.trans (GB.of e11)
    have B10 := B3.same e10.hh
    refine ⟨p, c, n + 2, _, rfl, B3.same e11.hh, by omega, upd_same, (fun z => B10.ne (z ▸ nc)), by rw [List.length_append]; show 0 < _ + 5; omega, by rw [List.length_append, l4]; show 4 + 5 ≤ 1000; decide, fun G' v' mv b' B' f' => ?_⟩
    obtain ⟨d', hd', Dv'⟩ := (A39.app A9).mem mv
    refine q G' T9 v' d' (g11.trans (GB.box g11.th (g11.new p tp B.ne) b' B')) B' Dv' ?_
    rcases List.mem_append.mp hd' with hd' | hd'
    · exact F3 d' hd'
    · simp only [List.mem_cons, List.not_mem_nil, or_false] at hd'
      rcases hd' with rfl | rfl | rfl | rfl | rfl
      · exact F5
      · exact F6
      · exact F7
      · exact F8
      · exact F9
end
end Ov
namespace Ov
open PySem PySem.Spec PyProof.Rows L2 LamX
section
variable {P : Program} {w : World} {K : PySem.W.Frag} {mg : Str → Option Value} {base : Heap}
/-! ### _law_right -/
abbrev qRight : Str := (envOfC "_law_right" (defScope sRight) 0 0 .none).qual ++ "<lambda>"
def dueL (d : PyData) : Str := if isLensD d = true then "valid" else "invalid"
def spRight05 (T : Addr) : Sp := fun vs H Q _ => ∃ (v : V) (d : PyData) (t : Nat), vs = [v, .int (t : Int)] ∧ Tabs [(T, qRight)] H ∧ Dz H v d ∧ Shz d 60 ∧ (∀ ds, d = .tuple ds → ds.length ≤ 1000) ∧ t < 10 ^ 12 ∧ ∀ H', Same (noT H) H' → Tabs [(T, qRight)] H' → Q (.bl true) H'
abbrev nRight : List Str := ["_law_value", "_law_total", "_law_kept", "_law_due", "_law_words"]
theorem scRight : FnScope nRight ["_law_value", "_law_total"] (defScope sRight) := ⟨rfl, rfl, rfl, by decide +kernel, rfl, by decide +kernel, by decide +kernel⟩
theorem said_due {d : PyData} {Q : VK} {H2 G : Hp} (sG : Same H2 G) (q : ∀ G, Same H2 G → Q (.str (dueL d)) G) {x : Str} (e : dueL d = x) : Said x Q G := fun G' s' => e ▸ q G' (sG.trans s')
theorem tt_one {C : Nat → Addr} {v : V} {d : PyData} {H2 : Hp} {Q : VK} {σ : L2.St} (hσ : σ[0]? = some (some v)) (D : Dz H2 v d) (Sh : Shz d 60) (hl : ∀ ds, d = .tuple ds → ds.length ≤ 1000) (q : ∀ G, Same H2 G → Q (.str (dueL d)) G) :
    TTw C (fun E G R => tCall (spSix1 K (C 0)) [] E (tCons (tVar 0) tNil) σ G R) [v] H2 Q := by
  refine ⟨v, d, rfl, fun G E R sG hE hR => ⟨v, hσ, six1 (D.same sG) hl (fun hv H' u s' => hR u H' (said_due (sG.trans s') q (by unfold dueL; rw [if_pos hv]))) (fun hb H' dd s' nd hd => hE _ _ _ ⟨dd, rfl, rfl, hd, (D.same sG).same s', Sh, said_due (sG.trans s') q (by unfold dueL; rw [if_neg (by rw [hb]; decide)])⟩)⟩⟩
theorem tt_two {C : Nat → Addr} {v : V} {d : PyData} {t : Nat} {H2 : Hp} {Q : VK} {σ : L2.St} (hσ : σ[0]? = some (some v)) (h1 : σ[1]? = some (some (.int (t : Int)))) (ht : t < 10 ^ 12) (D : Dz H2 v d) (Sh : Shz d 60) (hl : ∀ ds, d = .tuple ds → ds.length ≤ 1000) (q : ∀ G, Same H2 G → Q (.str (dueL d)) G) :
    TTw C (fun E G R => tCall (spSix2 K (C 0)) [] E (tCons (tVar 0) (tCons (tVar 1) tNil)) σ G R) [v] H2 Q := by
  refine ⟨v, d, rfl, fun G E R sG hE hR => ⟨v, hσ, _, h1, six2 (D.same sG) ht hl (fun hv H' u s' => hR u H' (said_due (sG.trans s') q (by unfold dueL; rw [if_pos hv]))) (fun hb H' dd s' nd hd => hE _ _ _ ⟨dd, rfl, rfl, hd, (D.same sG).same s', Sh, said_due (sG.trans s') q (by unfold dueL; rw [if_neg (by rw [hb]; decide)])⟩)⟩⟩
theorem tabs_lst {T : Addr} {q : Str} {G : Hp} {L : Addr} {xs ys : List V} (t : Tabs [(T, q)] G) (hL : G L = some (.lst xs)) : Tabs [(T, q)] (upd G L (.lst ys)) := by
  intro z hz
  rw [List.mem_singleton.mp hz]
  obtain ⟨ps, h1, h2, h3⟩ := t (T, q) List.mem_cons_self
  refine ⟨ps, ?_, h2, fun pos cv e => ?_⟩
  · rw [upd_ne (fun z => by rw [z, hL] at h1; cases h1)]
    exact h1
  · obtain ⟨c, e1, e2⟩ := h3 pos cv e
    refine ⟨c, e1, ?_⟩
    rw [upd_ne (fun z => by rw [z, hL] at e2; unfold CodeO at e2; cases e2)]
    exact e2
/-- the words so far -/
def MidR (T : Addr) (U : Hp) (v : V) (d : PyData) (t j : Nat) : L2.St → Hp → Prop := fun σ G => ∃ L : Addr, σ = [some v, some (.int (t : Int)), some (.str d.shown), some (.str (dueL d)), some (.ref L)] ∧ Same U G ∧ U L = none ∧ Tabs [(T, qRight)] G ∧ G L = some (.lst (List.replicate j (.str (dueL d))))
theorem ok_right05 {f fV fW f1 f2 f3 f4 f5 f6 cR tR : Addr} {C : Nat → Addr} {fd fdV fdW fd1 fd2 fd3 fd4 fd5 fd6 : FuncData} {k : Nat} (F : Fun K "_law_right" "_law_right" sRight f fd) (T : Bi mg)
    (a0 : PySem.W.nsIn K mainGlobals "_law_right" = some (some (.ref f))) (ht : PySem.W.tabIn K "_law_right" = some (cR, tR)) (TB : TabB base mg cR tR) (S9 : Err9 K mg C)
    (Iv : Def K mg "_law_is_valid" s_law_is_valid fV fdV ["_law_value"]) (GV : FnOk P w K mg base CX0 (k + 2) fV fdV ["_law_value"] (spAreX K))
    (Wd : Def K mg "_law_word" s_law_word fW fdW ["_law_call", "_law_value"])
    (D1 : Def K mg "common_divisor" sCommon f1 fd1 ["lengths"]) (G1 : FnOk P w K mg base (L2.CX P w) k f1 fd1 ["lengths"] (spSix1 K (C 0)))
    (D2 : Def K mg "is_sum" sIsSum f2 fd2 ["lengths", "total"]) (G2 : FnOk P w K mg base (L2.CX P w) k f2 fd2 ["lengths", "total"] (spSix2 K (C 0)))
    (D3 : Def K mg "least_sums" sLeast f3 fd3 ["lengths"]) (G3 : FnOk P w K mg base (L2.CX P w) k f3 fd3 ["lengths"] (spSix1 K (C 0)))
    (D4 : Def K mg "conductor" sConductor f4 fd4 ["lengths"]) (G4 : FnOk P w K mg base (L2.CX P w) k f4 fd4 ["lengths"] (spSix1 K (C 0)))
    (D5 : Def K mg "gap_count" sGap f5 fd5 ["lengths"]) (G5 : FnOk P w K mg base (L2.CX P w) k f5 fd5 ["lengths"] (spSix1 K (C 0)))
    (D6 : Def K mg "sum_parts" sParts f6 fd6 ["lengths", "total"]) (G6 : FnOk P w K mg base (L2.CX P w) k f6 fd6 ["lengths", "total"] (spSix2 K (C 0))) :
    FnG P w K mg base (k + 3) f fd ["_law_value", "_law_total"] (spRight05 tR) := by
  obtain ⟨oc, od, kV, doc, pm, an, cdv, ct, osl, rfl, lkC, hcC⟩ := Wd.fn.ex
  refine okGT F a0 ht scRight (fun vs H Q E h => ?_) (fun A' outer s H vs Q E gd hr h => ?_)
  · obtain ⟨v, d, t, rfl, _⟩ := h
    rfl
  · obtain ⟨v, d, t, rfl, hT, Dv, Sh, hl, ht12, q⟩ := h
    have hr1 := hr.mono (show k + 1 ≤ k + 2 by omega)
    refine ⟨_, C8.pss_cut (ps_par (i := 2) (j := 3) (by rfl) scRight.nd rfl rfl (by decide) rfl rfl (pa_cons (pe_callB (call_repr_z gd hr) (by rfl) T.repr (by decide +kernel) (pa_cons (pv 0) pa_nil)) (pa_cons (pe_ifExp (pt_val (pe_call GV hr (by rfl) Iv.gl Iv.fn.kp Iv.bi .nil pass0 (pa_cons (pv 0) pa_nil))) pe_str pe_str) pa_nil)) (by rfl))
      (C8.pss_cut (ps_set (i := 4) scRight.nd rfl (.inl rfl) (pe_lst (pa_cons
        (pe_lamV (P := tR) (q := qRight) (TT := TTw C) (Ng := nWord) (ps := ["_law_value"]) (t := fun E => tCall (spSix1 K (C 0)) [] E (tCons (tVar 0) tNil)) (by rfl) Wd.gl Wd.fn.kp lkC hcC Wd.bi scWord rfl (.inl rfl) (gives_word T S9 gd hr1) TB rfl rfl (fun vs H Q tl h => by obtain ⟨v, d, e, _⟩ := h; rw [e]; rfl) hr rfl rfl (lamS_by (by show lamSB (defScope sRight) _ = true; decide +kernel)) rfl (fun _ _ _ _ _ => rfl)
          (fun A outer s H E f c' hr2 => pe_call G1 hr2 (by rfl) D1.gl D1.fn.kp D1.bi .nil (passes_call (takes_of rfl rfl rfl rfl) (fun _ _ _ _ z => z)) (pa_cons (pv 0) pa_nil)) (pa_cons (pv 0) pa_nil)) pa_nil)))
      (C8.pss_cut (ps_expr (pe_bm PySem.F.plainAttrs_list PySem.F.slot_list_append PySem.F.type_list_append mt_append (pv 4) (pa_cons
        (pe_lamV (P := tR) (q := qRight) (TT := TTw C) (Ng := nWord) (ps := ["_law_value"]) (t := fun E => tCall (spSix2 K (C 0)) [] E (tCons (tVar 0) (tCons (tVar 1) tNil))) (by rfl) Wd.gl Wd.fn.kp lkC hcC Wd.bi scWord rfl (.inl rfl) (gives_word T S9 gd hr1) TB rfl rfl (fun vs H Q tl h => by obtain ⟨v, d, e, _⟩ := h; rw [e]; rfl) hr rfl rfl (lamS_by (by show lamSB (defScope sRight) _ = true; decide +kernel)) rfl (fun _ _ _ _ _ => rfl)
          (fun A outer s H E f c' hr2 => pe_call G2 hr2 (by rfl) D2.gl D2.fn.kp D2.bi .nil (passes_call (takes_of rfl rfl rfl rfl) (fun _ _ _ _ z => z)) (pa_cons (pv 0) (pa_cons (pv 1) pa_nil))) (pa_cons (pv 0) pa_nil)) pa_nil)))
      (C8.pss_cut (ps_expr (pe_bm PySem.F.plainAttrs_list PySem.F.slot_list_append PySem.F.type_list_append mt_append (pv 4) (pa_cons
        (pe_lamV (P := tR) (q := qRight) (TT := TTw C) (Ng := nWord) (ps := ["_law_value"]) (t := fun E => tCall (spSix1 K (C 0)) [] E (tCons (tVar 0) tNil)) (by rfl) Wd.gl Wd.fn.kp lkC hcC Wd.bi scWord rfl (.inl rfl) (gives_word T S9 gd hr1) TB rfl rfl (fun vs H Q tl h => by obtain ⟨v, d, e, _⟩ := h; rw [e]; rfl) hr rfl rfl (lamS_by (by show lamSB (defScope sRight) _ = true; decide +kernel)) rfl (fun _ _ _ _ _ => rfl)
          (fun A outer s H E f c' hr2 => pe_call G3 hr2 (by rfl) D3.gl D3.fn.kp D3.bi .nil (passes_call (takes_of rfl rfl rfl rfl) (fun _ _ _ _ z => z)) (pa_cons (pv 0) pa_nil)) (pa_cons (pv 0) pa_nil)) pa_nil)))
      (C8.pss_cut (ps_expr (pe_bm PySem.F.plainAttrs_list PySem.F.slot_list_append PySem.F.type_list_append mt_append (pv 4) (pa_cons
        (pe_lamV (P := tR) (q := qRight) (TT := TTw C) (Ng := nWord) (ps := ["_law_value"]) (t := fun E => tCall (spSix1 K (C 0)) [] E (tCons (tVar 0) tNil)) (by rfl) Wd.gl Wd.fn.kp lkC hcC Wd.bi scWord rfl (.inl rfl) (gives_word T S9 gd hr1) TB rfl rfl (fun vs H Q tl h => by obtain ⟨v, d, e, _⟩ := h; rw [e]; rfl) hr rfl rfl (lamS_by (by show lamSB (defScope sRight) _ = true; decide +kernel)) rfl (fun _ _ _ _ _ => rfl)
          (fun A outer s H E f c' hr2 => pe_call G4 hr2 (by rfl) D4.gl D4.fn.kp D4.bi .nil (passes_call (takes_of rfl rfl rfl rfl) (fun _ _ _ _ z => z)) (pa_cons (pv 0) pa_nil)) (pa_cons (pv 0) pa_nil)) pa_nil)))
      (C8.pss_cut (ps_expr (pe_bm PySem.F.plainAttrs_list PySem.F.slot_list_append PySem.F.type_list_append mt_append (pv 4) (pa_cons
        (pe_lamV (P := tR) (q := qRight) (TT := TTw C) (Ng := nWord) (ps := ["_law_value"]) (t := fun E => tCall (spSix1 K (C 0)) [] E (tCons (tVar 0) tNil)) (by rfl) Wd.gl Wd.fn.kp lkC hcC Wd.bi scWord rfl (.inl rfl) (gives_word T S9 gd hr1) TB rfl rfl (fun vs H Q tl h => by obtain ⟨v, d, e, _⟩ := h; rw [e]; rfl) hr rfl rfl (lamS_by (by show lamSB (defScope sRight) _ = true; decide +kernel)) rfl (fun _ _ _ _ _ => rfl)
          (fun A outer s H E f c' hr2 => pe_call G5 hr2 (by rfl) D5.gl D5.fn.kp D5.bi .nil (passes_call (takes_of rfl rfl rfl rfl) (fun _ _ _ _ z => z)) (pa_cons (pv 0) pa_nil)) (pa_cons (pv 0) pa_nil)) pa_nil)))
      (C8.pss_cut (ps_expr (pe_bm PySem.F.plainAttrs_list PySem.F.slot_list_append PySem.F.type_list_append mt_append (pv 4) (pa_cons
        (pe_lamV (P := tR) (q := qRight) (TT := TTw C) (Ng := nWord) (ps := ["_law_value"]) (t := fun E => tCall (spSix2 K (C 0)) [] E (tCons (tVar 0) (tCons (tVar 1) tNil))) (by rfl) Wd.gl Wd.fn.kp lkC hcC Wd.bi scWord rfl (.inl rfl) (gives_word T S9 gd hr1) TB rfl rfl (fun vs H Q tl h => by obtain ⟨v, d, e, _⟩ := h; rw [e]; rfl) hr rfl rfl (lamS_by (by show lamSB (defScope sRight) _ = true; decide +kernel)) rfl (fun _ _ _ _ _ => rfl)
          (fun A outer s H E f c' hr2 => pe_call G6 hr2 (by rfl) D6.gl D6.fn.kp D6.bi .nil (passes_call (takes_of rfl rfl rfl rfl) (fun _ _ _ _ z => z)) (pa_cons (pv 0) (pa_cons (pv 1) pa_nil))) (pa_cons (pv 0) pa_nil)) pa_nil)))
      (pss_one (ps_ret (pe_and (pe_cmpR (op_eqD hr.units) (pv 4) (pe_op op_rep (pe_lst (pa_cons (pv 3) pa_nil)) pe_int) (nomark _)) (pe_one (pe_cmpR op_eq (pe_callB (call_repr_z gd hr) (by rfl) T.repr (by decide +kernel) (pa_cons (pv 0) pa_nil)) (pv 2) (nomark _)))))))))))), ?_⟩
    have Dv0 : Dz (noT H) v d := Dv.noT
    have nt0 : NT (noT H) := noT_nt
    have keep : ∀ {G1 : Hp} {c' : Addr}, G1 c' = some (CodeO c' qRight) → G1 c' = some (CodeO c' qRight) := fun e => e
    refine ⟨fun σ G => σ = [some v, some (.int (t : Int)), some (.str d.shown), some (.str (dueL d)), none] ∧ Same (noT H) G ∧ Tabs [(tR, qRight)] G, ?_, ?_⟩
    · refine ⟨_, rfl, v, d, rfl, Dv, Sh, _, rfl, v, d, rfl, Dv.dx, hl, fun H1 s1 => ⟨_, rfl, ?_⟩⟩
      have fin : Same (noT H) H1 ∧ Tabs [(tR, qRight)] H1 := ⟨noT_same.trans s1, hT.ext s1⟩
      by_cases hv : isLensD d = true
      · rw [hv]
        exact iteT ⟨_, _, rfl, by unfold dueL; rw [if_pos hv]; rfl, fin⟩
      · have hv' : isLensD d = false := by simpa using hv
        rw [hv']
        exact iteF ⟨_, _, rfl, by unfold dueL; rw [if_neg hv]; rfl, fin⟩
    rintro σ G0 ⟨rfl, s0, t0⟩
    -- the first word
    refine ⟨MidR tR (noT H) v d t 1, ?_, ?_⟩
    · refine ⟨t0, fun H1 eN T1 => ⟨_, rfl, fun _ e => e, tt_one rfl (Dv0.same (nt0.ext s0 eN)) Sh hl fun G sG => ⟨by show 1 ≤ sizeLine; decide, fun L nL => ?_⟩⟩⟩
      have s2 : Same (noT H) G := (nt0.ext s0 eN).trans sG
      exact ⟨L, rfl, s2.trans (same_upd nL), s2.free nL, (T1.ext sG).ext (same_upd nL), upd_same⟩
    -- five more
    have go : ∀ {j : Nat} {L : Addr} {G H1 G' : Hp}, j < 6 → Same (noT H) G → (noT H) L = none → G L = some (.lst (List.replicate j (.str (dueL d)))) → ExtN G H1 → Tabs [(tR, qRight)] H1 → Same H1 G' →
        G' L = some (.lst (List.replicate j (.str (dueL d)))) ∧ (List.replicate j (V.str (dueL d))).length < sizeLine ∧ MidR tR (noT H) v d t (j + 1) [some v, some (.int (t : Int)), some (.str d.shown), some (.str (dueL d)), some (.ref L)] (upd G' L (.lst (List.replicate j (.str (dueL d)) ++ [.str (dueL d)]))) := by
      intro j L G H1 G' hj sG nL hL eN T1 s'
      have h1 := s' _ _ (eN _ _ hL (fun _ z => nomatch z))
      refine ⟨h1, small1000 (by rw [List.length_replicate]; omega), L, rfl, fun b o e => ?_, nL, tabs_lst (T1.ext s') h1, by rw [upd_same, List.replicate_succ']⟩
      rw [upd_ne (ne_of_none e nL)]
      exact (nt0.ext sG eN).trans s' b o e
    rintro σ G1 ⟨L, rfl, sG, nL, tG, hL⟩
    refine ⟨MidR tR (noT H) v d t 2, ?_, ?_⟩
    · exact ⟨_, rfl, .inl ⟨rfl, _, SqL.of hL⟩, tG, fun H1 eN T1 => ⟨_, rfl, fun _ e => e, tt_two rfl rfl ht12 (Dv0.same (nt0.ext sG eN)) Sh hl fun G' s' => have z := go (by decide) sG nL hL eN T1 s'; ⟨L, _, _, rfl, rfl, z.1, z.2.1, z.2.2⟩⟩⟩
    rintro σ G1 ⟨L, rfl, sG, nL, tG, hL⟩
    refine ⟨MidR tR (noT H) v d t 3, ?_, ?_⟩
    · exact ⟨_, rfl, .inl ⟨rfl, _, SqL.of hL⟩, tG, fun H1 eN T1 => ⟨_, rfl, fun _ e => e, tt_one rfl (Dv0.same (nt0.ext sG eN)) Sh hl fun G' s' => have z := go (by decide) sG nL hL eN T1 s'; ⟨L, _, _, rfl, rfl, z.1, z.2.1, z.2.2⟩⟩⟩
    rintro σ G1 ⟨L, rfl, sG, nL, tG, hL⟩
    refine ⟨MidR tR (noT H) v d t 4, ?_, ?_⟩
    · exact ⟨_, rfl, .inl ⟨rfl, _, SqL.of hL⟩, tG, fun H1 eN T1 => ⟨_, rfl, fun _ e => e, tt_one rfl (Dv0.same (nt0.ext sG eN)) Sh hl fun G' s' => have z := go (by decide) sG nL hL eN T1 s'; ⟨L, _, _, rfl, rfl, z.1, z.2.1, z.2.2⟩⟩⟩
    rintro σ G1 ⟨L, rfl, sG, nL, tG, hL⟩
    refine ⟨MidR tR (noT H) v d t 5, ?_, ?_⟩
    · exact ⟨_, rfl, .inl ⟨rfl, _, SqL.of hL⟩, tG, fun H1 eN T1 => ⟨_, rfl, fun _ e => e, tt_one rfl (Dv0.same (nt0.ext sG eN)) Sh hl fun G' s' => have z := go (by decide) sG nL hL eN T1 s'; ⟨L, _, _, rfl, rfl, z.1, z.2.1, z.2.2⟩⟩⟩
    rintro σ G1 ⟨L, rfl, sG, nL, tG, hL⟩
    refine ⟨MidR tR (noT H) v d t 6, ?_, ?_⟩
    · exact ⟨_, rfl, .inl ⟨rfl, _, SqL.of hL⟩, tG, fun H1 eN T1 => ⟨_, rfl, fun _ e => e, tt_two rfl rfl ht12 (Dv0.same (nt0.ext sG eN)) Sh hl fun G' s' => have z := go (by decide) sG nL hL eN T1 s'; ⟨L, _, _, rfl, rfl, z.1, z.2.1, z.2.2⟩⟩⟩
    rintro σ G1 ⟨L, rfl, sG, nL, tG, hL⟩
    -- all of them as they should be, and the value as it was
    refine ⟨_, rfl, _, rfl, by show 1 ≤ sizeLine; decide, fun l nl => ⟨l, 6, _, rfl, rfl, upd_same, by decide, by decide, by show 1 * 6 ≤ sizeLine; decide, fun r nr => ?_⟩⟩
    have x1 := same_upd (o := HO.lst [V.str (dueL d)]) nl
    have x2 := same_upd (o := HO.lst (List.replicate (6 : Int).toNat [V.str (dueL d)]).flatten) nr
    have hL2 := x2 _ _ (x1 _ _ hL)
    have hr2 : (upd (upd G1 l (HO.lst [V.str (dueL d)])) r (HO.lst (List.replicate (6 : Int).toNat [V.str (dueL d)]).flatten)) r = some (.lst (List.replicate 6 (.str (dueL d)))) := upd_same
    have all6 : DpAll K (upd (upd G1 l (HO.lst [V.str (dueL d)])) r (HO.lst (List.replicate (6 : Int).toNat [V.str (dueL d)]).flatten)) (List.replicate 6 (.str (dueL d))) (List.replicate 6 (.str (dueL d))) := .cons (.str _) (.cons (.str _) (.cons (.str _) (.cons (.str _) (.cons (.str _) (.cons (.str _) .nil)))))
    have shp : SeqAt.shaped (.list (List.replicate 6 (.str (dueL d)))) = true := by
      have so : PyData.strOk (dueL d) = true := by
        unfold dueL
        split <;> decide +kernel
      unfold SeqAt.shaped
      simp [so, List.replicate, PyData.canLay0, PyData.canLayAll0, PyData.depth, PyData.depthAll]
    refine ⟨_, _, .lst (SqL.of hL2) all6, .lst (SqL.of hr2) all6, shp, shp, ?_⟩
    rw [SeqAt.eqv_refl _ (SeqAt.canLay_of_shaped shp)]
    refine ⟨_, rfl, iteT ?_⟩
    have s3 := sG.trans (x1.trans x2)
    refine ⟨_, rfl, v, d, rfl, Dv0.same s3, Sh, _, rfl, rfl, ?_⟩
    rw [decide_eq_true rfl]
    exact q _ s3 (tG.ext (x1.trans x2))
end
end Ov
namespace Ov
open PySem PySem.Spec PyProof.Rows L2
section
variable {P : Program} {w : World} {K : PySem.W.Frag} {mg : Str → Option Value} {base : Heap}
theorem FnOk.lets {CX : CXT} {k : Nat} {f : Addr} {fd : FuncData} {ps : List Str} {sp : Sp} (F : FnOk P w K mg base CX0 k f fd ps sp) : FnOk P w K mg base CX k f fd ps sp :=
  ⟨F.len, fun A outer s H args us vs Q E room env bnd rel pr => codeAny_mono (F.run A outer s H args us vs Q E room env bnd rel pr) fun r s' q => by
    match r, q with
    | .error e, q => exact (show False from q).elim
    | .ok (.ret u), q => exact q
    | .ok .next, q => exact (show False from q).elim
    | .ok .brk, q => exact (show False from q).elim
    | .ok .cont, q => exact (show False from q).elim⟩
theorem FnOk.or {CX : CXT} {k : Nat} {f : Addr} {fd : FuncData} {ps : List Str} {sp sp2 : Sp} (F : FnOk P w K mg base CX k f fd ps sp) (F2 : FnOk P w K mg base CX k f fd ps sp2) : FnOk P w K mg base CX k f fd ps (fun vs H Q E => sp vs H Q E ∨ sp2 vs H Q E) :=
  ⟨fun vs H Q E h => h.elim (F.len vs H Q E) (F2.len vs H Q E), fun A outer s H args us vs Q E room env bnd rel pr => pr.elim (F.run A outer s H args us vs Q E room env bnd rel) (F2.run A outer s H args us vs Q E room env bnd rel)⟩
end
theorem Er.up {P : Program} {w : World} {K : PySem.W.Frag} {mg : Str → Option Value} {base : Heap} {k k' : Nat} {C : Addr} {n : Str} (h : Er P w K mg base k C n) (l : k ≤ k') : Er P w K mg base k' C n := ⟨h.ox, by
  obtain ⟨fI, fd, a, b, F, c⟩ := h.ex
  exact ⟨fI, fd, a, b, lvl_up F l, c⟩, h.xf, h.no⟩
end Ov
namespace Ov
open PySem PySem.Spec PyProof.Rows L2 LamX
theorem HoldZ.make {T0 T H : Hp} {p D : Addr} {n : Nat} {vs : List V} {ds : List PyData} (tt : Same T0 T) (th : Same T H) (tp : T p = none) (B : BoxAt H p n) (nD : H D = none) (A : DzAll T vs ds) : HoldZ T0 T (upd H D (.lst vs)) p D n vs ds :=
  ⟨tt, th.trans (same_upd nD), tp, th.free nD, fun z => B.ne (z ▸ nD), upd_same, A, B.same (same_upd nD)⟩
theorem HoldZ.other {T0 T H : Hp} {p V D : Addr} {n : Nat} {vs : List L2.V} {ds : List PyData} {o : HO} (h : HoldZ T0 T H p V n vs ds) (nD : T D = none) (ne : D ≠ V) (np : D ≠ p) : HoldZ T0 T (upd H D o) p V n vs ds :=
  ⟨h.tt, fun b x e => by rw [upd_ne (ne_of_none e nD)]; exact h.ht _ _ e, h.tp, h.tD, h.ne, by rw [upd_ne (Ne.symm ne)]; exact h.at_, h.all, h.box.upd np⟩
theorem noT_hide {T G : Hp} {p : Addr} (s : Same T G) (tp : T p = none) : Same (noT T) (hide p (noT G)) := fun b o e => by
  have e1 := noT_same _ _ e
  exact hide_at (noT_at (s _ _ e1) fun ps z => noT_nt b ps (z ▸ e)) (ne_of_none e1 tp)
theorem dz_noT {T : Hp} : ∀ {vs : List V} {ds : List PyData}, DzAll T vs ds → DzAll (noT T) vs ds := fun h => DzAll.noT h
section
variable {P : Program} {w : World} {K : PySem.W.Frag} {mg : Str → Option Value} {base : Heap}
/-! ### law -/
def spLaw (K : PySem.W.Frag) (T : Addr) : Sp := fun vs H Q _ => ∃ (a : Addr) (ns : List Int), vs = [.ref a] ∧ H T = some (.tbl #[]) ∧ SqL K H a (ns.map V.int) ∧ ns.length ≤ 63 ∧ ∀ H', Q (.bl true) H'
abbrev nLaw : List Str := ["_law_script", "_law_k", "_law_box_here", "_law_value", "_law_values", "_law_turn", "_law_one"]
theorem scLaw : FnScope nLaw ["_law_script"] (defScope sLaw) := ⟨rfl, rfl, rfl, by decide +kernel, rfl, by decide +kernel, by decide +kernel⟩
theorem ok_law {f fB fT fD fO fR tR : Addr} {fd fdB fdT fdD fdO fdR : FuncData} {k : Nat} (F : Fun K "law" "law" sLaw f fd) (T : Bi mg)
    (B : Def K mg "_law_box" sBox fB fdB ["_law_script", "_law_k"]) (GB' : FnOk P w K mg base CX0 k fB fdB ["_law_script", "_law_k"] (spBox K))
    (Tk : Def K mg "_law_take" sTake fT fdT ["_law_box_here", "_law_many"]) (GT : FnOk P w K mg base CX0 k fT fdT ["_law_box_here", "_law_many"] spTake)
    (Dr : Def K mg "_law_drawn" sDrawn fD fdD ["_law_box_here"]) (GD : FnOk P w K mg base CX0 k fD fdD ["_law_box_here"] spDrawn05)
    (Od : Def K mg "_law_odd" s_law_odd fO fdO ["_law_box_here", "_law_value"]) (GO : FnOk P w K mg base CX0 k fO fdO ["_law_box_here", "_law_value"] spOdd05)
    (R : Def K mg "_law_right" sRight fR fdR ["_law_value", "_law_total"]) (GR : FnG P w K mg base k fR fdR ["_law_value", "_law_total"] (spRight05 tR)) :
    FnG P w K mg base (k + 1) f fd ["_law_script"] (spLaw K tR) := by
  refine okG F scLaw (fun vs H Q E h => ?_) (fun cdv A' outer s H vs Q E gd hr h => ?_)
  · obtain ⟨a, ns, rfl, _⟩ := h
    rfl
  · obtain ⟨a, ns, rfl, hT0, hS, hlen, q⟩ := h
    refine ⟨_, pss_cons (ps_for PassesOwn.never rfl (pi_range1 (by rfl) T.range (pa_cons (pe_op op_add pe_int (pe_callB (call_min2 rfl) (by rfl) T.min (by decide +kernel) (pa_cons pe_int (pa_cons (pe_callB call_len_seq (by rfl) T.len PySem.boot_len (pa_cons (pv 0) pa_nil)) pa_nil)))) pa_nil)) (pg_name (i := 1) scLaw.nd rfl (.inl rfl))
        (pss_cons (ps_set (i := 2) scLaw.nd rfl (.inr rfl) (pe_call GB' hr (by rfl) B.gl B.fn.kp B.bi .nil pass0 (pa_cons (pv 0) (pa_cons (pv 1) pa_nil))))
        (pss_cons (ps_set (i := 3) scLaw.nd rfl (.inr rfl) (pe_call GD hr (by rfl) Dr.gl Dr.fn.kp Dr.bi .nil pass0 (pa_cons (pv 2) pa_nil)))
        (C8.pss_cut (ps_set (i := 4) scLaw.nd rfl (.inl rfl) (pe_lst (pa_cons (pv 3) (pa_cons pe_non (pa_cons pe_bl (pa_cons pe_int (pa_cons pe_str (pa_cons pe_str (pa_cons (pe_low pa_nil) (pa_cons pe_dnewK (pa_cons (pe_tup pa_nil) (pa_cons (pe_tup (pa_cons (pe_tup pa_nil) pa_nil)) (pa_cons (pe_tup (pa_cons pe_int (pa_cons pe_int pa_nil)))
            (pa_cons (pe_tup (pa_cons pe_int (pa_cons pe_int pa_nil))) (pa_cons (pe_tup (pa_cons pe_int pa_nil)) (pa_cons (pe_tup (pa_cons pe_int pa_nil)) (pa_cons (pe_tup (pa_cons pe_int (pa_cons pe_bl pa_nil))) pa_nil)))))))))))))))))
        (C8.pss_cut (ps_expr (pe_bm PySem.F.plainAttrs_list PySem.F.slot_list_extend PySem.F.type_list_extend mt_extend (pv 4) (pa_cons
            (pe_lc (own := [("_law_turn", 5)]) (g := gName 5) (tt := tYes) (by rfl) scLaw.nd (pi_range1 (by rfl) T.range (pa_cons pe_int pa_nil))
              (blkOk_by (own := [("_law_turn", 5)]) (N := nLaw) (sc := defScope sLaw) (by decide +kernel))
              (fun _ _ _ _ _ => pg_name (i := 5) scLaw.nd rfl (Or.inl rfl)) (fun _ _ _ _ _ => pts_nil)
              (fun _ _ _ _ _ => pe_call GO hr (by rfl) Od.gl Od.fn.kp Od.bi .nil pass0 (pa_cons (pv 2) (pa_cons (pv 3) pa_nil)))) pa_nil)))
        (pss_one (ps_if (pt_not (pt_val (pe_callB (cr_all rfl) (by rfl) T.all (by decide +kernel) (pa_cons
            (pe_lc (own := [("_law_one", 6)]) (g := gName 6) (tt := tYes) (by rfl) scLaw.nd (pi_list (pv 4))
              (blkOk_by (own := [("_law_one", 6)]) (N := nLaw) (sc := defScope sLaw) (by decide +kernel))
              (fun _ _ _ _ _ => pg_name (i := 6) scLaw.nd rfl (Or.inl rfl)) (fun _ _ _ _ _ => pts_nil)
              (fun _ _ _ _ _ => pe_callG GR gd hr (by rfl) R.gl R.fn.kp R.bi (pa_cons (pv 6) (pa_cons (pe_call GT hr (by rfl) Tk.gl Tk.fn.kp Tk.bi .nil pass0 (pa_cons (pv 2) (pa_cons (pe_op op_pow pe_int pe_int) pa_nil))) pa_nil)))) pa_nil)))) (pss_one (ps_ret pe_bl)) pss_nil)))))))
      (pss_one (ps_ret pe_bl)), ?_⟩
    have tabs0 : Tabs [(tR, qRight)] H := fun z hz => by
      rw [List.mem_singleton.mp hz]
      exact TabS.nil hT0
    have hS' := sqL_noT hS
    refine ⟨_, rfl, a, _, rfl, .inl hS, _, _, rfl, _, _, rfl, rfl, _, rfl, ?_, ?_, for_range (lo := 0) (fun i σ G => ∃ y1 y2 y3 y4 y5 y6, σ = [some (.ref a), y1, y2, y3, y4, y5, y6] ∧ Same (noT H) G ∧ Tabs [(tR, qRight)] G)
      ⟨none, none, none, none, none, none, rfl, noT_same, tabs0⟩ ?_ (fun σ G ⟨_, _, _, _, _, _, _, _, _⟩ => q G)⟩
    · split <;> omega
    · split <;> omega
    rintro i σ G0 hi ⟨y1, y2, y3, y4, y5, y6, rfl, s0, t0⟩
    have hi4 : i < 4 := by
      revert hi
      split <;> omega
    -- the box, the lengths
    refine ⟨_, rfl, _, rfl, a, ns, i, (by rw [Int.zero_add]; rfl), s0.seq hS', by omega, fun H3 p s3 np B3 => ?_⟩
    have up0 : noT H p = none := s0.free np
    refine ⟨_, rfl, p, 0, rfl, B3, by decide, fun H4 t ms b4 B4 nt ht hl hb => ?_⟩
    have tnp : t ≠ p := fun z => B3.ne (z ▸ nt)
    have t4 := tabs_but (t0.ext s3) b4 B3
    have s04 := sub_but (s0.trans s3) up0 b4
    obtain ⟨T0, hT, nT0⟩ : ∃ T0, T0 = hide p (noT H4) ∧ NT T0 := ⟨_, rfl, noT_nt.hide p⟩
    have st0 : Same T0 H4 := by rw [hT]; exact hide_same.trans noT_same
    have tp0 : T0 p = none := by rw [hT]; exact hide_none
    have ht0 : T0 t = some (.tup (ms.map V.int)) := by rw [hT]; exact hide_at (noT_at ht fun _ z => nomatch z) tnp
    clear hT
    have Fv : Fine 3 300 (.tuple (ms.map PyData.int)) := (fine_ints hb).tup.mono (by decide) (by omega)
    -- the values
    refine ⟨fun σ G => ∃ (T1 : Hp) (V : Addr) (vs : List L2.V) (ds : List PyData), σ = [some (.ref a), some (.int ((0 : Int) + (i : Int))), some (.ref p), some (.ref t), some (.ref V), y5, y6] ∧ HoldZ T0 T1 G p V 60 vs ds ∧ vs.length = 15 ∧ (∀ d ∈ ds, Fine 3 300 d) ∧ But p H4 G ∧ H4 V = none, ?_, ?_⟩
    · have A0 : DzAll T0 [.ref t, .non, .bl true, .int 5, .str "", .str "12"] [.tuple (ms.map PyData.int), .none, .bool true, .int 5, .str "", .str "12"] :=
        .cons (.tup ht0 (dz_ints ms)) (.cons .non (.cons (.bl _) (.cons (.int _) (.cons (.str _) (.cons (.str _) .nil)))))
      refine ⟨_, rfl, Nat.zero_le _, fun l1 n1 w1 => ?_⟩
      have x1 := (Grow.refl st0).put (HO.lst []) n1
      have A1 := (A0.same x1.tt).app (.cons (.lst (a := l1) upd_same w1 .nil) .nil)
      have e1 := x1
      generalize upd T0 l1 (HO.lst []) = T1, upd H4 l1 (HO.lst []) = G1 at *
      refine fun l2 n2 => ?_
      have x2 := (Grow.refl e1.th).put (HO.dK []) n2
      have A2 := (A1.same x2.tt).app (.cons (.dct (a := l2) upd_same) .nil)
      have e2 := e1.trans x2
      generalize upd T1 l2 (HO.dK []) = T2, upd G1 l2 (HO.dK []) = G2 at *
      refine ⟨Nat.zero_le _, fun l3 n3 => ?_⟩
      have x3 := (Grow.refl e2.th).put (HO.tup []) n3
      have A3 := (A2.same x3.tt).app (.cons (.tup (a := l3) upd_same .nil) .nil)
      have e3 := e2.trans x3
      generalize upd T2 l3 (HO.tup []) = T3, upd G2 l3 (HO.tup []) = G3 at *
      refine ⟨Nat.zero_le _, fun l4 n4 => ?_⟩
      have x4 := (Grow.refl e3.th).put (HO.tup []) n4
      have h4 : upd T3 l4 (HO.tup []) l4 = some (.tup []) := upd_same
      have A4 := A3.same x4.tt
      have e4 := e3.trans x4
      generalize upd T3 l4 (HO.tup []) = T4, upd G3 l4 (HO.tup []) = G4 at *
      refine ⟨by show 1 ≤ sizeLine; decide, fun l5 n5 => ?_⟩
      have x5 := (Grow.refl e4.th).put (HO.tup [V.ref l4]) n5
      have A5 := (A4.same x5.tt).app (.cons (.tup (a := l5) upd_same (.cons (.tup (x5.tt _ _ h4) .nil) .nil)) .nil)
      have e5 := e4.trans x5
      generalize upd T4 l5 (HO.tup [V.ref l4]) = T5, upd G4 l5 (HO.tup [V.ref l4]) = G5 at *
      refine ⟨by show 2 ≤ sizeLine; decide, fun l6 n6 => ?_⟩
      have x6 := (Grow.refl e5.th).put (HO.tup [V.int 1, V.int 1]) n6
      have A6 := (A5.same x6.tt).app (.cons (.tup (a := l6) upd_same (.cons (.int 1) (.cons (.int 1) .nil))) .nil)
      have e6 := e5.trans x6
      generalize upd T5 l6 (HO.tup [V.int 1, V.int 1]) = T6, upd G5 l6 (HO.tup [V.int 1, V.int 1]) = G6 at *
      refine ⟨by show 2 ≤ sizeLine; decide, fun l7 n7 => ?_⟩
      have x7 := (Grow.refl e6.th).put (HO.tup [V.int 2, V.int 1]) n7
      have A7 := (A6.same x7.tt).app (.cons (.tup (a := l7) upd_same (.cons (.int 2) (.cons (.int 1) .nil))) .nil)
      have e7 := e6.trans x7
      generalize upd T6 l7 (HO.tup [V.int 2, V.int 1]) = T7, upd G6 l7 (HO.tup [V.int 2, V.int 1]) = G7 at *
      refine ⟨by show 1 ≤ sizeLine; decide, fun l8 n8 => ?_⟩
      have x8 := (Grow.refl e7.th).put (HO.tup [V.int 1000]) n8
      have A8 := (A7.same x8.tt).app (.cons (.tup (a := l8) upd_same (.cons (.int 1000) .nil)) .nil)
      have e8 := e7.trans x8
      generalize upd T7 l8 (HO.tup [V.int 1000]) = T8, upd G7 l8 (HO.tup [V.int 1000]) = G8 at *
      refine ⟨by show 1 ≤ sizeLine; decide, fun l9 n9 => ?_⟩
      have x9 := (Grow.refl e8.th).put (HO.tup [V.int 1001]) n9
      have A9 := (A8.same x9.tt).app (.cons (.tup (a := l9) upd_same (.cons (.int 1001) .nil)) .nil)
      have e9 := e8.trans x9
      generalize upd T8 l9 (HO.tup [V.int 1001]) = T9, upd G8 l9 (HO.tup [V.int 1001]) = G9 at *
      refine ⟨by show 2 ≤ sizeLine; decide, fun l10 n10 => ?_⟩
      have x10 := (Grow.refl e9.th).put (HO.tup [V.int 1, V.bl true]) n10
      have A10 := (A9.same x10.tt).app (.cons (.tup (a := l10) upd_same (.cons (.int 1) (.cons (.bl true) .nil))) .nil)
      have e10 := e9.trans x10
      generalize upd T9 l10 (HO.tup [V.int 1, V.bl true]) = T10, upd G9 l10 (HO.tup [V.int 1, V.bl true]) = G10 at *
      refine ⟨by show 15 ≤ sizeLine; decide, fun V nV => ?_⟩
      refine ⟨T10, V, _, _, rfl, HoldZ.make e10.tt e10.th (e10.new p tp0 B4.ne) (B4.same e10.hh) nV A10, rfl, ?_, But.of (e10.hh.trans (same_upd nV)), e10.hh.free nV⟩
      intro d hd
      have one : ∀ {x y : PyData}, Fine 1 101 x → Fine 1 101 y → Fine 3 300 (.tuple [x, y]) := fun hx hy => (FineA.cons hx (FineA.cons hy (FineA.nil.mono (Nat.zero_le _) (Nat.le_refl _)))).tup.mono (by decide) (by decide)
      have si : ∀ i : Int, i.natAbs < 2 ^ 1000 → Fine 1 101 (.int i) := fun i h => (fine_int h).mono (by decide) (by decide)
      have one1 : ∀ {x : PyData}, Fine 1 101 x → Fine 3 300 (.tuple [x]) := fun hx => (FineA.cons hx (FineA.nil.mono (Nat.zero_le _) (Nat.le_refl _))).tup.mono (by decide) (by decide)
      simp only [List.mem_append, List.mem_cons, List.not_mem_nil, or_false] at hd
      rcases hd with ((((((((((rfl | rfl | rfl | rfl | rfl | rfl) | rfl) | rfl) | rfl) | rfl) | rfl) | rfl) | rfl) | rfl) | rfl)
      · exact Fv
      · exact fine_none.mono (by decide) (by decide)
      · exact (fine_bool _).mono (by decide) (by decide)
      · exact (si _ (by decide)).mono (by decide) (by decide)
      · exact (fine_str (by decide +kernel)).mono (by decide) (by decide)
      · exact (fine_str (by decide +kernel)).mono (by decide) (by decide)
      · exact FineA.nil.lst.mono (by decide) (by decide)
      · exact fine_dict.mono (by decide) (by decide)
      · exact FineA.nil.tup.mono (by decide) (by decide)
      · exact one1 (FineA.nil.tup.mono (by decide) (by decide))
      · exact one (si _ (by decide)) (si _ (by decide))
      · exact one (si _ (by decide)) (si _ (by decide))
      · exact one1 (si _ (by decide))
      · exact one1 (si _ (by decide))
      · exact one (si _ (by decide)) ((fine_bool _).mono (by decide) (by decide))
    rintro σ G1 ⟨T1, V, vs, ds, rfl, hV, vl, fV, b41, nV4⟩
    -- six more
    refine ⟨fun σ G => ∃ (T2 : Hp) (us : List L2.V) (es : List PyData), σ = [some (.ref a), some (.int ((0 : Int) + (i : Int))), some (.ref p), some (.ref t), some (.ref V), y5, y6] ∧ HoldZ T0 T2 G p V 78 us es ∧ us.length ≤ 21 ∧ (∀ d ∈ es, Fine 3 300 d) ∧ But p H4 G, ?_, ?_⟩
    · refine ⟨_, rfl, .inl ⟨rfl, _, SqL.of hV.at_⟩, 6, rfl, by decide, by decide, fun D nD => lc_range (lo := 0) (n := 6) (fun j G => ∃ (T2 : Hp) (us : List L2.V) (es : List PyData), HoldZ T0 T2 G p D (60 + 3 * j) us es ∧ HoldZ T0 T2 G p V (60 + 3 * j) vs ds ∧ us.length = j ∧ (∀ d ∈ es, Fine 3 300 d) ∧ But p H4 G) ?_ ?_ ?_⟩
      · have hD := HoldZ.make hV.tt hV.ht hV.tp hV.box nD .nil
        exact ⟨T1, [], [], hD, hV.other hD.tD (ne_of_none hV.at_ nD).symm hD.ne, rfl, (fun _ h => nomatch h), b41.trans (But.of (same_upd nD))⟩
      · rintro j G hj ⟨T2, us, es, hD, hV2, ul, fe, b4G⟩
        refine ⟨rfl, _, rfl, _, rfl, p, t, 60 + 3 * j, ms, T2, rfl, hD.box, by omega, hD.ht, hD.tp, hD.tt _ _ ht0, hl, hb, fun G' T' v' d' g' B' D' F' => ?_⟩
        have hD' := hD.gb g' B'
        have hV' := hV2.gb g' B'
        refine ⟨_, hD'.at_, small1000 (by omega), T', us ++ [v'], es ++ [d'], hD'.push (.cons D' .nil), hV'.other hD'.tD ?_ hD'.ne, by rw [List.length_append, ul]; rfl, fun d hd => ?_, fun b o e n => ?_⟩
        · exact (ne_of_none hV.at_ nD).symm
        · rcases List.mem_append.mp hd with hd | hd
          · exact fe d hd
          · rw [List.mem_singleton.mp hd]
            exact F'
        · have nD4 : H4 D = none := b41.free B4.ne nD hV.box.ne
          rw [upd_ne (ne_of_none e nD4)]
          exact g'.hh _ _ (b4G b o e n) n
      · rintro G ⟨T2, us, es, hD, hV2, ul, fe, b4G⟩
        refine ⟨V, D, _, _, rfl, rfl, hV2.at_, hD.at_, ?_, ?_⟩
        · rw [vl, ul, sizeLine_eq]; decide
        · refine ⟨T2, vs ++ us, ds ++ es, rfl, hV2.push hD.all, by rw [List.length_append, vl, ul]; decide, fun d hd => ?_, fun b o e n => ?_⟩
          · rcases List.mem_append.mp hd with hd | hd
            · exact fV d hd
            · exact fe d hd
          · rw [upd_ne (ne_of_none e nV4)]
            exact b4G b o e n
    clear hV vl fV b41
    rintro σ G2 ⟨T2, us, es, rfl, hV, ul, fe, b42⟩
    -- each of them
    obtain ⟨U, hU, nU⟩ : ∃ U, U = hide p (noT G2) ∧ NT U := ⟨_, rfl, noT_nt.hide p⟩
    have sU : Same U G2 := by rw [hU]; exact hide_same.trans noT_same
    have uP : U p = none := by rw [hU]; exact hide_none
    have sTU : Same (noT T2) U := by rw [hU]; exact noT_hide hV.ht hV.tp
    have s0U : Same (noT H) U := by
      have z := noT_hide (sub_but s04 up0 b42) up0
      rw [hU]
      intro b o e
      exact z b o (noT_at e fun ps y => noT_nt b ps (y ▸ e))
    have hVU : U V = some (.lst us) := by rw [hU]; exact hide_at (noT_at hV.at_ fun _ z => nomatch z) hV.ne
    clear hU
    have AU := (DzAll.noT hV.all).same sTU
    have t2 := tabs_but t4 b42 B4
    refine ⟨_, rfl, V, rfl, ⟨_, SqL.of hV.at_⟩, fun D nD => lc_list (K := K) (a := V) (xs := us) (fun j G => Same U G ∧ BoxAt G p (78 + j) ∧ Tabs [(tR, qRight)] G ∧ G D = some (.lst ((List.replicate j true).map L2.V.bl))) ?_ (fun j G _ ⟨s, _⟩ => SqL.of (s _ _ hVU)) ?_ ?_⟩
    · exact ⟨sU.trans (same_upd nD), hV.box.same (same_upd nD), t2.ext (same_upd nD), upd_same⟩
    · rintro j v G hv ⟨sG, BG, tG, hD⟩
      have hj : j < us.length := (List.getElem?_eq_some_iff.mp hv).1
      obtain ⟨d, hdd, Dv⟩ := AU.at hv
      have fd := fe d (List.mem_of_getElem? hdd)
      have uD : U D = none := sU.free nD
      have hDp : D ≠ p := fun z => hV.box.ne (z ▸ nD)
      refine ⟨rfl, _, rfl, _, rfl, _, _, rfl, rfl, ⟨by decide, by decide, by decide⟩, p, _, 78 + j, rfl, BG, by omega, by decide, by decide, fun G3 e b3 B3' e0 e1 f3 => ?_⟩
      obtain ⟨en, rfl⟩ : ∃ en : Nat, e = (en : Int) := ⟨e.toNat, by omega⟩
      have s3' := sub_but sG uP b3
      have t3 := tabs_but tG b3 BG
      have hD3 := b3 _ _ hD hDp
      refine ⟨v, d, en, rfl, t3, Dv.same s3', fd.shz (by decide) (by decide), fun zs hz => ?_, ?_, fun G4 s34 t4' => ?_⟩
      · have z1 := fd.nd
        rw [hz] at z1
        simp only [nodes] at z1
        have := len_nodes zs
        omega
      · have : (en : Int) < 10 ^ 9 := e1
        omega
      have hD4 := s34 _ _ (noT_at hD3 fun _ z => nomatch z)
      refine ⟨_, hD4, by rw [List.length_map, List.length_replicate]; exact small1000 (by omega), ?_, ?_, ?_, ?_⟩
      · intro b o e
        rw [upd_ne (ne_of_none e uD)]
        exact s34 _ _ (nU.sub s3' b o e)
      · exact ((B3'.noT.same s34).mono (by omega)).upd hDp
      · exact tabs_lst t4' hD4
      · rw [upd_same, List.replicate_succ', List.map_append]; rfl
    rintro G ⟨sG, BG, tG, hD⟩
    refine ⟨D, _, rfl, SqL.of hD, ?_⟩
    rw [all_true]
    refine ⟨_, rfl, ?_⟩
    exact iteF ⟨_, _, _, _, _, _, rfl, s0U.trans sG, tG⟩
end
end Ov
namespace Ov
open PySem PySem.Spec PyProof.Rows L2
theorem up {P : Program} {w : World} {K : PySem.W.Frag} {mg : Str → Option Value} {base : Heap} {CX : CXT} {k k' : Nat} {f : Addr} {fd : FuncData} {ps : List Str} {sp : Sp} (F : FnOk P w K mg base CX k f fd ps sp) (h : k ≤ k') : FnOk P w K mg base CX k' f fd ps sp := ⟨F.len, fun A outer s H args us vs Q E room => F.run A outer s H args us vs Q E (room.mono h)⟩
theorem mro_of {K : PySem.W.Frag} {nm q : Str} {C N : Addr} {bs bm : List Value} {hd : Bool} {sn : List Str} {sub : List Value} {ab : Bool} {col : Option Bool} {dd : Option Addr} {k0 k1 k2 k3 k5 : Option Value} {nw : String} (h : K.lookup C = some (excClassObj nm q C N bs bm hd sn sub ab col dd k0 k1 k2 k3 k5 nw)) (b : Value) : PySem.W.mroIn K C b = some ((Value.ref C :: bm).contains b) := by
  unfold PySem.W.mroIn PySem.W.clsIn
  rw [h]
  rfl
theorem cls_of {K : PySem.W.Frag} {nm q : Str} {C N : Addr} {bs bm : List Value} {hd : Bool} {sn : List Str} {sub : List Value} {ab : Bool} {col : Option Bool} {dd : Option Addr} {k0 k1 k2 k3 k5 : Option Value} {nw : String} (h : K.lookup C = some (excClassObj nm q C N bs bm hd sn sub ab col dd k0 k1 k2 k3 k5 nw)) : (PySem.W.clsIn K C).isSome = true := by
  unfold PySem.W.clsIn
  rw [h]
  rfl
theorem nodup_getD {l : List Addr} (i j : Nat) (hi : i < l.length) (hj : j < l.length) (e : l.getD i 0 = l.getD j 0) (n : l.Nodup) : i = j := by
  rw [List.getD_eq_getElem?_getD, List.getD_eq_getElem?_getD, List.getElem?_eq_getElem hi, List.getElem?_eq_getElem hj] at e
  have p := List.pairwise_iff_getElem.mp (List.nodup_iff_pairwise_ne.mp n)
  rcases Nat.lt_trichotomy i j with h | h | h
  · exact absurd e (p i j hi hj h)
  · exact h
  · exact absurd e.symm (p j i hj hi h)
section
variable {K : PySem.W.Frag} {C : Nat → Addr} (inj : ∀ i j, i < 10 → j < 10 → C i = C j → i = j) (mro : ∀ i, i < 10 → ∃ r, (∀ b, PySem.W.mroIn K (C i) b = some ((Value.ref (C i) :: r).contains b)) ∧ (r = [.type "ValueError", .type "Exception", .type "BaseException", .type "object"] ∨ r = [.ref (C 9), .type "ValueError", .type "Exception", .type "BaseException", .type "object"]) ∧ (i ≠ 9 → r = [.ref (C 9), .type "ValueError", .type "Exception", .type "BaseException", .type "object"]))
  (cls : ∀ i, i < 10 → ((PySem.W.clsIn K (C i)).isSome && PySem.W.typeIn K (.ref (C i)) == some (.type "type")) = true)
include inj mro cls in
theorem kits : ∀ i, i < 10 → ∀ j, j < 9 → PySem.W.kitOne K (.ref (C i)) (.ref (C j)) = some (decide (i = j)) := by
  intro i hi j hj
  unfold PySem.W.kitOne
  by_cases e : i = j
  · subst e
    rw [if_pos (by simp), decide_eq_true rfl]
  · have ne : C i ≠ C j := fun z => e (inj i j hi (by omega) z)
    have ne2 : C 9 ≠ C j := fun z => by have := inj 9 j (by decide) (by omega) z; omega
    rw [if_neg (by simp [ne]), decide_eq_false e]
    unfold PySem.W.kitCls
    dsimp only
    rw [if_pos (cls j (by omega))]
    show PySem.W.mroIn K (C i) (.ref (C j)) = _
    obtain ⟨r, h, hr, _⟩ := mro i hi
    rw [h]
    rcases hr with rfl | rfl
    · simp [Ne.symm ne]
    · simp [Ne.symm ne, Ne.symm ne2]
include mro in
theorem kitsV : ∀ i, i < 9 → PySem.W.kitOne K (.ref (C i)) (.type "ValueError") = some true := by
  intro i hi
  unfold PySem.W.kitOne
  rw [if_neg (by simp)]
  unfold PySem.W.kitCls
  dsimp only
  rw [if_pos (by decide +kernel)]
  show PySem.W.mroIn K (C i) (.type "ValueError") = _
  obtain ⟨r, h, _, hr⟩ := mro i (by omega)
  rw [h, hr (by omega)]
  simp
end
/-! ### what the top has written, and the law's own head -/
theorem all_mk {P : Program} {w : World} {K : PySem.W.Frag} {h : Heap} {mg : Str → Option Value} {fa f0 f1 f2 f3 f4 f5 f6 f7 f8 f9 f10 f11 f12 f13 f14 f15 f16 f17 f18 f19 f20 f21 f22 f23 f24 : Addr} (X : K.In h) (G : h.Ns mainGlobals mg) (hfa : mg "law" = some (.ref fa))
    {od0 an0 od1 an1 od2 an2 od3 an3 od4 an4 od5 an5 od6 an6 od7 an7 od8 an8 od9 an9 od10 an10 od11 an11 od12 an12 od13 an13 od14 an14 od15 an15 od16 an16 od17 an17 od18 an18 od19 an19 od20 an20 od21 an21 od22 an22 od23 an23 od24 an24 : Option Addr} {sl0 sl1 sl2 sl3 sl4 sl5 sl6 sl7 sl8 sl9 sl10 sl11 sl12 sl13 sl14 sl15 sl16 sl17 sl18 sl19 sl20 sl21 sl22 sl23 sl24 : Array (Option Value)} {oc0 kV0 dc0 pm0 cd0 ct0 oc1 kV1 dc1 pm1 cd1 ct1 oc2 kV2 dc2 pm2 cd2 ct2 oc3 kV3 dc3 pm3 cd3 ct3 oc4 kV4 dc4 pm4 cd4 ct4 oc5 kV5 dc5 pm5 cd5 ct5 oc6 kV6 dc6 pm6 cd6 ct6 oc7 kV7 dc7 pm7 cd7 ct7 oc8 kV8 dc8 pm8 cd8 ct8 oc9 kV9 dc9 pm9 cd9 ct9 oc10 kV10 dc10 pm10 cd10 ct10 oc11 kV11 dc11 pm11 cd11 ct11 oc12 kV12 dc12 pm12 cd12 ct12 oc13 kV13 dc13 pm13 cd13 ct13 oc14 kV14 dc14 pm14 cd14 ct14 oc15 kV15 dc15 pm15 cd15 ct15 oc16 kV16 dc16 pm16 cd16 ct16 oc17 kV17 dc17 pm17 cd17 ct17 oc18 kV18 dc18 pm18 cd18 ct18 oc19 kV19 dc19 pm19 cd19 ct19 oc20 kV20 dc20 pm20 cd20 ct20 oc21 kV21 dc21 pm21 cd21 ct21 oc22 kV22 dc22 pm22 cd22 ct22 oc23 kV23 dc23 pm23 ct23 oc24 kV24 dc24 pm24 cd24 ct24 : Value}
    {cL tL : Addr} {eL : Value} {dL : Option Addr} {vL : Array Value} {mL : Array (Option Value)}
    {tk0 tk1 : Tok}
    (a0 : PySem.W.nsIn K mainGlobals "is_integer" = some (some (.ref f0))) (l0 : K.lookup f0 = some ⟨oc0, od0, .func (PySem.W.fnOf "is_integer" "is_integer" (defArgs sIsInt) (defBody sIsInt) (defScope sIsInt) .none kV0 dc0 pm0 an0 cd0 ct0), sl0⟩) (c0 : PySem.W.codeIn K cd0 "is_integer" = true) (k0 : PySem.W.keepIn K (.ref f0) = true)
    (a1 : PySem.W.nsIn K mainGlobals "is_integer_between" = some (some (.ref f1))) (l1 : K.lookup f1 = some ⟨oc1, od1, .func (PySem.W.fnOf "is_integer_between" "is_integer_between" (defArgs sBetween) (defBody sBetween) (defScope sBetween) .none kV1 dc1 pm1 an1 cd1 ct1), sl1⟩) (c1 : PySem.W.codeIn K cd1 "is_integer_between" = true) (k1 : PySem.W.keepIn K (.ref f1) = true)
    (a2 : PySem.W.nsIn K mainGlobals "is_ascending" = some (some (.ref f2))) (l2 : K.lookup f2 = some ⟨oc2, od2, .func (PySem.W.fnOf "is_ascending" "is_ascending" (defArgs sAscending) (defBody sAscending) (defScope sAscending) .none kV2 dc2 pm2 an2 cd2 ct2), sl2⟩) (c2 : PySem.W.codeIn K cd2 "is_ascending" = true) (k2 : PySem.W.keepIn K (.ref f2) = true)
    (a3 : PySem.W.nsIn K mainGlobals "common_divisor" = some (some (.ref f3))) (l3 : K.lookup f3 = some ⟨oc3, od3, .func (PySem.W.fnOf "common_divisor" "common_divisor" (defArgs sCommon) (defBody sCommon) (defScope sCommon) .none kV3 dc3 pm3 an3 cd3 ct3), sl3⟩) (c3 : PySem.W.codeIn K cd3 "common_divisor" = true) (k3 : PySem.W.keepIn K (.ref f3) = true)
    (a4 : PySem.W.nsIn K mainGlobals "is_sum" = some (some (.ref f4))) (l4 : K.lookup f4 = some ⟨oc4, od4, .func (PySem.W.fnOf "is_sum" "is_sum" (defArgs sIsSum) (defBody sIsSum) (defScope sIsSum) .none kV4 dc4 pm4 an4 cd4 ct4), sl4⟩) (c4 : PySem.W.codeIn K cd4 "is_sum" = true) (k4 : PySem.W.keepIn K (.ref f4) = true)
    (a5 : PySem.W.nsIn K mainGlobals "least_sums" = some (some (.ref f5))) (l5 : K.lookup f5 = some ⟨oc5, od5, .func (PySem.W.fnOf "least_sums" "least_sums" (defArgs sLeast) (defBody sLeast) (defScope sLeast) .none kV5 dc5 pm5 an5 cd5 ct5), sl5⟩) (c5 : PySem.W.codeIn K cd5 "least_sums" = true) (k5 : PySem.W.keepIn K (.ref f5) = true)
    (a6 : PySem.W.nsIn K mainGlobals "conductor" = some (some (.ref f6))) (l6 : K.lookup f6 = some ⟨oc6, od6, .func (PySem.W.fnOf "conductor" "conductor" (defArgs sConductor) (defBody sConductor) (defScope sConductor) .none kV6 dc6 pm6 an6 cd6 ct6), sl6⟩) (c6 : PySem.W.codeIn K cd6 "conductor" = true) (k6 : PySem.W.keepIn K (.ref f6) = true)
    (a7 : PySem.W.nsIn K mainGlobals "gap_count" = some (some (.ref f7))) (l7 : K.lookup f7 = some ⟨oc7, od7, .func (PySem.W.fnOf "gap_count" "gap_count" (defArgs sGap) (defBody sGap) (defScope sGap) .none kV7 dc7 pm7 an7 cd7 ct7), sl7⟩) (c7 : PySem.W.codeIn K cd7 "gap_count" = true) (k7 : PySem.W.keepIn K (.ref f7) = true)
    (a8 : PySem.W.nsIn K mainGlobals "sum_parts" = some (some (.ref f8))) (l8 : K.lookup f8 = some ⟨oc8, od8, .func (PySem.W.fnOf "sum_parts" "sum_parts" (defArgs sParts) (defBody sParts) (defScope sParts) .none kV8 dc8 pm8 an8 cd8 ct8), sl8⟩) (c8 : PySem.W.codeIn K cd8 "sum_parts" = true) (k8 : PySem.W.keepIn K (.ref f8) = true)
    (a9 : PySem.W.nsIn K mainGlobals "check_lengths" = some (some (.ref f9))) (l9 : K.lookup f9 = some ⟨oc9, od9, .func (PySem.W.fnOf "check_lengths" "check_lengths" (defArgs sCheck) (defBody sCheck) (defScope sCheck) .none kV9 dc9 pm9 an9 cd9 ct9), sl9⟩) (c9 : PySem.W.codeIn K cd9 "check_lengths" = true) (k9 : PySem.W.keepIn K (.ref f9) = true)
    (a10 : PySem.W.nsIn K mainGlobals "are_lengths" = some (some (.ref f10))) (l10 : K.lookup f10 = some ⟨oc10, od10, .func (PySem.W.fnOf "are_lengths" "are_lengths" (defArgs sAre) (defBody sAre) (defScope sAre) .none kV10 dc10 pm10 an10 cd10 ct10), sl10⟩) (c10 : PySem.W.codeIn K cd10 "are_lengths" = true) (k10 : PySem.W.keepIn K (.ref f10) = true)
    (a11 : PySem.W.nsIn K mainGlobals "divisor_of_two" = some (some (.ref f11))) (l11 : K.lookup f11 = some ⟨oc11, od11, .func (PySem.W.fnOf "divisor_of_two" "divisor_of_two" (defArgs sGcd) (defBody sGcd) (defScope sGcd) .none kV11 dc11 pm11 an11 cd11 ct11), sl11⟩) (c11 : PySem.W.codeIn K cd11 "divisor_of_two" = true) (k11 : PySem.W.keepIn K (.ref f11) = true)
    (a12 : PySem.W.nsIn K mainGlobals "with_length" = some (some (.ref f12))) (l12 : K.lookup f12 = some ⟨oc12, od12, .func (PySem.W.fnOf "with_length" "with_length" (defArgs sWith) (defBody sWith) (defScope sWith) .none kV12 dc12 pm12 an12 cd12 ct12), sl12⟩) (c12 : PySem.W.codeIn K cd12 "with_length" = true) (k12 : PySem.W.keepIn K (.ref f12) = true)
    (a13 : PySem.W.nsIn K mainGlobals "is_reached" = some (some (.ref f13))) (l13 : K.lookup f13 = some ⟨oc13, od13, .func (PySem.W.fnOf "is_reached" "is_reached" (defArgs sReached) (defBody sReached) (defScope sReached) .none kV13 dc13 pm13 an13 cd13 ct13), sl13⟩) (c13 : PySem.W.codeIn K cd13 "is_reached" = true) (k13 : PySem.W.keepIn K (.ref f13) = true)
    (a14 : PySem.W.nsIn K mainGlobals "part_counts" = some (some (.ref f14))) (l14 : K.lookup f14 = some ⟨oc14, od14, .func (PySem.W.fnOf "part_counts" "part_counts" (defArgs sCounts) (defBody sCounts) (defScope sCounts) .none kV14 dc14 pm14 an14 cd14 ct14), sl14⟩) (c14 : PySem.W.codeIn K cd14 "part_counts" = true) (k14 : PySem.W.keepIn K (.ref f14) = true)
    (a15 : PySem.W.nsIn K mainGlobals "last_part" = some (some (.ref f15))) (l15 : K.lookup f15 = some ⟨oc15, od15, .func (PySem.W.fnOf "last_part" "last_part" (defArgs sLast) (defBody sLast) (defScope sLast) .none kV15 dc15 pm15 an15 cd15 ct15), sl15⟩) (c15 : PySem.W.codeIn K cd15 "last_part" = true) (k15 : PySem.W.keepIn K (.ref f15) = true)
    (a16 : PySem.W.nsIn K mainGlobals "_law_box" = some (some (.ref f16))) (l16 : K.lookup f16 = some ⟨oc16, od16, .func (PySem.W.fnOf "_law_box" "_law_box" (defArgs sBox) (defBody sBox) (defScope sBox) .none kV16 dc16 pm16 an16 cd16 ct16), sl16⟩) (c16 : PySem.W.codeIn K cd16 "_law_box" = true) (k16 : PySem.W.keepIn K (.ref f16) = true)
    (a17 : PySem.W.nsIn K mainGlobals "_law_take" = some (some (.ref f17))) (l17 : K.lookup f17 = some ⟨oc17, od17, .func (PySem.W.fnOf "_law_take" "_law_take" (defArgs sTake) (defBody sTake) (defScope sTake) .none kV17 dc17 pm17 an17 cd17 ct17), sl17⟩) (c17 : PySem.W.codeIn K cd17 "_law_take" = true) (k17 : PySem.W.keepIn K (.ref f17) = true)
    (a18 : PySem.W.nsIn K mainGlobals "_law_of" = some (some (.ref f18))) (l18 : K.lookup f18 = some ⟨oc18, od18, .func (PySem.W.fnOf "_law_of" "_law_of" (defArgs sOf) (defBody sOf) (defScope sOf) .none kV18 dc18 pm18 an18 cd18 ct18), sl18⟩) (c18 : PySem.W.codeIn K cd18 "_law_of" = true) (k18 : PySem.W.keepIn K (.ref f18) = true)
    (a19 : PySem.W.nsIn K mainGlobals "_law_is_valid" = some (some (.ref f19))) (l19 : K.lookup f19 = some ⟨oc19, od19, .func (PySem.W.fnOf "_law_is_valid" "_law_is_valid" (defArgs s_law_is_valid) (defBody s_law_is_valid) (defScope s_law_is_valid) .none kV19 dc19 pm19 an19 cd19 ct19), sl19⟩) (c19 : PySem.W.codeIn K cd19 "_law_is_valid" = true) (k19 : PySem.W.keepIn K (.ref f19) = true)
    (a20 : PySem.W.nsIn K mainGlobals "_law_drawn" = some (some (.ref f20))) (l20 : K.lookup f20 = some ⟨oc20, od20, .func (PySem.W.fnOf "_law_drawn" "_law_drawn" (defArgs sDrawn) (defBody sDrawn) (defScope sDrawn) .none kV20 dc20 pm20 an20 cd20 ct20), sl20⟩) (c20 : PySem.W.codeIn K cd20 "_law_drawn" = true) (k20 : PySem.W.keepIn K (.ref f20) = true)
    (a21 : PySem.W.nsIn K mainGlobals "_law_odd" = some (some (.ref f21))) (l21 : K.lookup f21 = some ⟨oc21, od21, .func (PySem.W.fnOf "_law_odd" "_law_odd" (defArgs s_law_odd) (defBody s_law_odd) (defScope s_law_odd) .none kV21 dc21 pm21 an21 cd21 ct21), sl21⟩) (c21 : PySem.W.codeIn K cd21 "_law_odd" = true) (k21 : PySem.W.keepIn K (.ref f21) = true)
    (a22 : PySem.W.nsIn K mainGlobals "_law_word" = some (some (.ref f22))) (l22 : K.lookup f22 = some ⟨oc22, od22, .func (PySem.W.fnOf "_law_word" "_law_word" (defArgs s_law_word) (defBody s_law_word) (defScope s_law_word) .none kV22 dc22 pm22 an22 cd22 ct22), sl22⟩) (c22 : PySem.W.codeIn K cd22 "_law_word" = true) (k22 : PySem.W.keepIn K (.ref f22) = true)
    (a23 : PySem.W.nsIn K mainGlobals "_law_right" = some (some (.ref f23))) (l23 : K.lookup f23 = some ⟨oc23, od23, .func (PySem.W.fnOf "_law_right" "_law_right" (defArgs sRight) (defBody sRight) (defScope sRight) .none kV23 dc23 pm23 an23 (.ref cL) ct23), sl23⟩) (c23 : PySem.W.codeIn K (.ref cL) "_law_right" = true) (k23 : PySem.W.keepIn K (.ref f23) = true)
    (a24 : PySem.W.nsIn K mainGlobals "law" = some (some (.ref f24))) (l24 : K.lookup f24 = some ⟨oc24, od24, .func (PySem.W.fnOf "law" "law" (defArgs sLaw) (defBody sLaw) (defScope sLaw) .none kV24 dc24 pm24 an24 cd24 ct24), sl24⟩) (c24 : PySem.W.codeIn K cd24 "law" = true) (k24 : PySem.W.keepIn K (.ref f24) = true)
    {z0 y0 z1 y1 z2 y2 z3 y3 z4 y4 z5 y5 z6 y6 z7 y7 z8 y8 z9 y9 : Addr}
    {xm0 xq0 : Str} {xb0 xs0 : List Value} {xt0 : List Str} {xa0 : Bool} {xc0 : Option Bool} {xd0 : Option Addr} {xk0_0 xk0_1 xk0_2 xk0_3 xk0_4 : Option Value}
    (mz0 : PySem.W.nsIn K mainGlobals "InvalidLengths" = some (some (.ref z0)))
    {xm1 xq1 : Str} {xb1 xs1 : List Value} {xt1 : List Str} {xa1 : Bool} {xc1 : Option Bool} {xd1 : Option Addr} {xk1_0 xk1_1 xk1_2 xk1_3 xk1_4 : Option Value}
    (mz1 : PySem.W.nsIn K mainGlobals "InvalidCode" = some (some (.ref z1)))
    {xm2 xq2 : Str} {xb2 xs2 : List Value} {xt2 : List Str} {xa2 : Bool} {xc2 : Option Bool} {xd2 : Option Addr} {xk2_0 xk2_1 xk2_2 xk2_3 xk2_4 : Option Value}
    (mz2 : PySem.W.nsIn K mainGlobals "InvalidCountdowns" = some (some (.ref z2)))
    {xm3 xq3 : Str} {xb3 xs3 : List Value} {xt3 : List Str} {xa3 : Bool} {xc3 : Option Bool} {xd3 : Option Addr} {xk3_0 xk3_1 xk3_2 xk3_3 xk3_4 : Option Value}
    (mz3 : PySem.W.nsIn K mainGlobals "InvalidEntries" = some (some (.ref z3)))
    {xm4 xq4 : Str} {xb4 xs4 : List Value} {xt4 : List Str} {xa4 : Bool} {xc4 : Option Bool} {xd4 : Option Addr} {xk4_0 xk4_1 xk4_2 xk4_3 xk4_4 : Option Value}
    (mz4 : PySem.W.nsIn K mainGlobals "InvalidEntry" = some (some (.ref z4)))
    {xm5 xq5 : Str} {xb5 xs5 : List Value} {xt5 : List Str} {xa5 : Bool} {xc5 : Option Bool} {xd5 : Option Addr} {xk5_0 xk5_1 xk5_2 xk5_3 xk5_4 : Option Value}
    (mz5 : PySem.W.nsIn K mainGlobals "InvalidNumber" = some (some (.ref z5)))
    {xm6 xq6 : Str} {xb6 xs6 : List Value} {xt6 : List Str} {xa6 : Bool} {xc6 : Option Bool} {xd6 : Option Addr} {xk6_0 xk6_1 xk6_2 xk6_3 xk6_4 : Option Value}
    (mz6 : PySem.W.nsIn K mainGlobals "InvalidOffset" = some (some (.ref z6)))
    {xm7 xq7 : Str} {xb7 xs7 : List Value} {xt7 : List Str} {xa7 : Bool} {xc7 : Option Bool} {xd7 : Option Addr} {xk7_0 xk7_1 xk7_2 xk7_3 xk7_4 : Option Value}
    (mz7 : PySem.W.nsIn K mainGlobals "InvalidProgram" = some (some (.ref z7)))
    {xm8 xq8 : Str} {xb8 xs8 : List Value} {xt8 : List Str} {xa8 : Bool} {xc8 : Option Bool} {xd8 : Option Addr} {xk8_0 xk8_1 xk8_2 xk8_3 xk8_4 : Option Value}
    (mz8 : PySem.W.nsIn K mainGlobals "InvalidTimes" = some (some (.ref z8)))
    {xm9 xq9 : Str} {xb9 xs9 : List Value} {xt9 : List Str} {xa9 : Bool} {xc9 : Option Bool} {xd9 : Option Addr} {xk9_0 xk9_1 xk9_2 xk9_3 xk9_4 : Option Value}
    (mz9 : PySem.W.nsIn K mainGlobals "OverlapError" = some (some (.ref z9)))
    (x0 : K.lookup z0 = some (excClassObj xm0 xq0 z0 y0 xb0 [.ref z9, .type "ValueError", .type "Exception", .type "BaseException", .type "object"] true xt0 xs0 xa0 xc0 xd0 xk0_0 xk0_1 xk0_2 xk0_3 xk0_4 "ValueError.__new__"))
    (ga0 : PySem.W.findIn K (.ref z0) "__getattribute__" = some (some (.builtin "BaseException.__getattribute__")))
    (gg0 : PySem.W.findIn K (.ref z0) "__getattr__" = some none)
    (gc0 : PySem.W.findIn K (.ref z0) "__class__" = some (some (.builtin "object.__class__")))
    (gk0 : PySem.W.keepIn K (.ref z0) = true)
    (ty0 : PySem.W.typeIn K (.ref z0) = some (.type "type"))
    (eh0 : PySem.W.hasDictIn K z0 = true)
    (no0 : PySem.W.findIn K (.ref z0) "value" = some none)
    {fi0 : Addr} {io0 : Option Addr} {in0 : Option Addr} {il0 : Array (Option Value)} {ic0 ik0 id0 ip0 ie0 it0 : Value}
    (esa0 : PySem.W.findIn K (.ref z0) "__setattr__" = some (some (.builtin "object.__setattr__")))
    (fi_0 : PySem.W.findIn K (.ref z0) "__init__" = some (some (.ref fi0)))
    (ft0 : PySem.W.typeIn K (.ref fi0) = some (.type "function"))
    (fl0 : K.lookup fi0 = some ⟨ic0, io0, .func (PySem.W.fnOf "__init__" "InvalidLengths.__init__" (defArgs sIInvalidLengths) (defBody sIInvalidLengths) (defScope sIInvalidLengths) .none ik0 id0 ip0 in0 ie0 it0), il0⟩)
    (fc0 : PySem.W.codeIn K ie0 "InvalidLengths.__init__" = true)
    (fk0 : PySem.W.keepIn K (.ref fi0) = true)
    (x1 : K.lookup z1 = some (excClassObj xm1 xq1 z1 y1 xb1 [.ref z9, .type "ValueError", .type "Exception", .type "BaseException", .type "object"] true xt1 xs1 xa1 xc1 xd1 xk1_0 xk1_1 xk1_2 xk1_3 xk1_4 "ValueError.__new__"))
    (ga1 : PySem.W.findIn K (.ref z1) "__getattribute__" = some (some (.builtin "BaseException.__getattribute__")))
    (gg1 : PySem.W.findIn K (.ref z1) "__getattr__" = some none)
    (gc1 : PySem.W.findIn K (.ref z1) "__class__" = some (some (.builtin "object.__class__")))
    (gk1 : PySem.W.keepIn K (.ref z1) = true)
    (ty1 : PySem.W.typeIn K (.ref z1) = some (.type "type"))
    (eh1 : PySem.W.hasDictIn K z1 = true)
    (no1 : PySem.W.findIn K (.ref z1) "value" = some none)
    (x2 : K.lookup z2 = some (excClassObj xm2 xq2 z2 y2 xb2 [.ref z9, .type "ValueError", .type "Exception", .type "BaseException", .type "object"] true xt2 xs2 xa2 xc2 xd2 xk2_0 xk2_1 xk2_2 xk2_3 xk2_4 "ValueError.__new__"))
    (ga2 : PySem.W.findIn K (.ref z2) "__getattribute__" = some (some (.builtin "BaseException.__getattribute__")))
    (gg2 : PySem.W.findIn K (.ref z2) "__getattr__" = some none)
    (gc2 : PySem.W.findIn K (.ref z2) "__class__" = some (some (.builtin "object.__class__")))
    (gk2 : PySem.W.keepIn K (.ref z2) = true)
    (ty2 : PySem.W.typeIn K (.ref z2) = some (.type "type"))
    (eh2 : PySem.W.hasDictIn K z2 = true)
    (no2 : PySem.W.findIn K (.ref z2) "value" = some none)
    (x3 : K.lookup z3 = some (excClassObj xm3 xq3 z3 y3 xb3 [.ref z9, .type "ValueError", .type "Exception", .type "BaseException", .type "object"] true xt3 xs3 xa3 xc3 xd3 xk3_0 xk3_1 xk3_2 xk3_3 xk3_4 "ValueError.__new__"))
    (ga3 : PySem.W.findIn K (.ref z3) "__getattribute__" = some (some (.builtin "BaseException.__getattribute__")))
    (gg3 : PySem.W.findIn K (.ref z3) "__getattr__" = some none)
    (gc3 : PySem.W.findIn K (.ref z3) "__class__" = some (some (.builtin "object.__class__")))
    (gk3 : PySem.W.keepIn K (.ref z3) = true)
    (ty3 : PySem.W.typeIn K (.ref z3) = some (.type "type"))
    (eh3 : PySem.W.hasDictIn K z3 = true)
    (no3 : PySem.W.findIn K (.ref z3) "value" = some none)
    (x4 : K.lookup z4 = some (excClassObj xm4 xq4 z4 y4 xb4 [.ref z9, .type "ValueError", .type "Exception", .type "BaseException", .type "object"] true xt4 xs4 xa4 xc4 xd4 xk4_0 xk4_1 xk4_2 xk4_3 xk4_4 "ValueError.__new__"))
    (ga4 : PySem.W.findIn K (.ref z4) "__getattribute__" = some (some (.builtin "BaseException.__getattribute__")))
    (gg4 : PySem.W.findIn K (.ref z4) "__getattr__" = some none)
    (gc4 : PySem.W.findIn K (.ref z4) "__class__" = some (some (.builtin "object.__class__")))
    (gk4 : PySem.W.keepIn K (.ref z4) = true)
    (ty4 : PySem.W.typeIn K (.ref z4) = some (.type "type"))
    (eh4 : PySem.W.hasDictIn K z4 = true)
    (no4 : PySem.W.findIn K (.ref z4) "value" = some none)
    (x5 : K.lookup z5 = some (excClassObj xm5 xq5 z5 y5 xb5 [.ref z9, .type "ValueError", .type "Exception", .type "BaseException", .type "object"] true xt5 xs5 xa5 xc5 xd5 xk5_0 xk5_1 xk5_2 xk5_3 xk5_4 "ValueError.__new__"))
    (ga5 : PySem.W.findIn K (.ref z5) "__getattribute__" = some (some (.builtin "BaseException.__getattribute__")))
    (gg5 : PySem.W.findIn K (.ref z5) "__getattr__" = some none)
    (gc5 : PySem.W.findIn K (.ref z5) "__class__" = some (some (.builtin "object.__class__")))
    (gk5 : PySem.W.keepIn K (.ref z5) = true)
    (ty5 : PySem.W.typeIn K (.ref z5) = some (.type "type"))
    (eh5 : PySem.W.hasDictIn K z5 = true)
    (no5 : PySem.W.findIn K (.ref z5) "value" = some none)
    (x6 : K.lookup z6 = some (excClassObj xm6 xq6 z6 y6 xb6 [.ref z9, .type "ValueError", .type "Exception", .type "BaseException", .type "object"] true xt6 xs6 xa6 xc6 xd6 xk6_0 xk6_1 xk6_2 xk6_3 xk6_4 "ValueError.__new__"))
    (ga6 : PySem.W.findIn K (.ref z6) "__getattribute__" = some (some (.builtin "BaseException.__getattribute__")))
    (gg6 : PySem.W.findIn K (.ref z6) "__getattr__" = some none)
    (gc6 : PySem.W.findIn K (.ref z6) "__class__" = some (some (.builtin "object.__class__")))
    (gk6 : PySem.W.keepIn K (.ref z6) = true)
    (ty6 : PySem.W.typeIn K (.ref z6) = some (.type "type"))
    (eh6 : PySem.W.hasDictIn K z6 = true)
    (no6 : PySem.W.findIn K (.ref z6) "value" = some none)
    (x7 : K.lookup z7 = some (excClassObj xm7 xq7 z7 y7 xb7 [.ref z9, .type "ValueError", .type "Exception", .type "BaseException", .type "object"] true xt7 xs7 xa7 xc7 xd7 xk7_0 xk7_1 xk7_2 xk7_3 xk7_4 "ValueError.__new__"))
    (ga7 : PySem.W.findIn K (.ref z7) "__getattribute__" = some (some (.builtin "BaseException.__getattribute__")))
    (gg7 : PySem.W.findIn K (.ref z7) "__getattr__" = some none)
    (gc7 : PySem.W.findIn K (.ref z7) "__class__" = some (some (.builtin "object.__class__")))
    (gk7 : PySem.W.keepIn K (.ref z7) = true)
    (ty7 : PySem.W.typeIn K (.ref z7) = some (.type "type"))
    (eh7 : PySem.W.hasDictIn K z7 = true)
    (no7 : PySem.W.findIn K (.ref z7) "value" = some none)
    (x8 : K.lookup z8 = some (excClassObj xm8 xq8 z8 y8 xb8 [.ref z9, .type "ValueError", .type "Exception", .type "BaseException", .type "object"] true xt8 xs8 xa8 xc8 xd8 xk8_0 xk8_1 xk8_2 xk8_3 xk8_4 "ValueError.__new__"))
    (ga8 : PySem.W.findIn K (.ref z8) "__getattribute__" = some (some (.builtin "BaseException.__getattribute__")))
    (gg8 : PySem.W.findIn K (.ref z8) "__getattr__" = some none)
    (gc8 : PySem.W.findIn K (.ref z8) "__class__" = some (some (.builtin "object.__class__")))
    (gk8 : PySem.W.keepIn K (.ref z8) = true)
    (ty8 : PySem.W.typeIn K (.ref z8) = some (.type "type"))
    (eh8 : PySem.W.hasDictIn K z8 = true)
    (no8 : PySem.W.findIn K (.ref z8) "value" = some none)
    (x9 : K.lookup z9 = some (excClassObj xm9 xq9 z9 y9 xb9 [.type "ValueError", .type "Exception", .type "BaseException", .type "object"] true xt9 xs9 xa9 xc9 xd9 xk9_0 xk9_1 xk9_2 xk9_3 xk9_4 "ValueError.__new__"))
    (ga9 : PySem.W.findIn K (.ref z9) "__getattribute__" = some (some (.builtin "BaseException.__getattribute__")))
    (gg9 : PySem.W.findIn K (.ref z9) "__getattr__" = some none)
    (gc9 : PySem.W.findIn K (.ref z9) "__class__" = some (some (.builtin "object.__class__")))
    (gk9 : PySem.W.keepIn K (.ref z9) = true)
    (ty9 : PySem.W.typeIn K (.ref z9) = some (.type "type"))
    (eh9 : PySem.W.hasDictIn K z9 = true)
    (spc : PySem.W.specialIn K (.builtin "object.__class__") "__get__" = some (some (.builtin "getset_descriptor.__get__"))) (tkc : PySem.W.takesIn K (.builtin "object.__class__") = some true)
    (ndp : ([z0, z1, z2, z3, z4, z5, z6, z7, z8, z9] : List Addr).Nodup)
    (cst0 : PySem.W.nsIn K mainGlobals "MOST_LENGTHS" = some (some (.int 50 tk0)))
    (cst1 : PySem.W.nsIn K mainGlobals "GREATEST_LENGTH" = some (some (.int 1000 tk1)))
    (bz0 : PySem.W.nsIn K mainGlobals "isinstance" = some none)
    (bz1 : PySem.W.nsIn K mainGlobals "int" = some none)
    (bz2 : PySem.W.nsIn K mainGlobals "bool" = some none)
    (bz3 : PySem.W.nsIn K mainGlobals "tuple" = some none)
    (bz4 : PySem.W.nsIn K mainGlobals "list" = some none)
    (bz5 : PySem.W.nsIn K mainGlobals "all" = some none)
    (bz6 : PySem.W.nsIn K mainGlobals "any" = some none)
    (bz7 : PySem.W.nsIn K mainGlobals "zip" = some none)
    (bz8 : PySem.W.nsIn K mainGlobals "len" = some none)
    (bz9 : PySem.W.nsIn K mainGlobals "range" = some none)
    (bz10 : PySem.W.nsIn K mainGlobals "abs" = some none)
    (bz11 : PySem.W.nsIn K mainGlobals "sorted" = some none)
    (bz12 : PySem.W.nsIn K mainGlobals "min" = some none)
    (bz13 : PySem.W.nsIn K mainGlobals "repr" = some none)
    (bz14 : PySem.W.nsIn K mainGlobals "max" = some none)
    (bz15 : PySem.W.nsIn K mainGlobals "sum" = some none)
    (bz16 : PySem.W.nsIn K mainGlobals "enumerate" = some none)
    (bz17 : PySem.W.nsIn K mainGlobals "str" = some none)
    (bz18 : PySem.W.nsIn K mainGlobals "set" = some none)
    (bz19 : PySem.W.nsIn K mainGlobals "dict" = some none)
    (bz20 : PySem.W.nsIn K mainGlobals "ValueError" = some none)
    (htb : K.lookup cL = some ⟨eL, dL, .fields vL, mL⟩) (h11 : vL[11]? = some (.ref tL)) (htn : K.lookup tL = none)
    : ∃ (fd : FuncData) (c T : Addr), PySem.W.tabIn K "_law_right" = some (c, T) ∧ K.lookup T = none ∧ (∀ (s : Shared) (v : Value), BindsTo s fd ⟨[v], []⟩ [("_law_script", v)]) ∧ ∀ base : Heap, K.In base → base.Ns mainGlobals mg → LamX.TabB base mg c T → FnG P w K mg base 10 fa fd ["_law_script"] (spLaw K T) := by
  have htab : PySem.W.tabIn K "_law_right" = some (cL, tL) := by
    unfold PySem.W.tabIn
    rw [a23]
    dsimp only
    rw [l23]
    dsimp only
    rw [htb]
    dsimp only
    rw [h11]
  have e := hfa.symm.trans (PySem.W.mg_of X G a24)
  cases e
  have T : Bi mg := ⟨PySem.W.mg_none_of X G bz0, PySem.W.mg_none_of X G bz1, PySem.W.mg_none_of X G bz2, PySem.W.mg_none_of X G bz3, PySem.W.mg_none_of X G bz4, PySem.W.mg_none_of X G bz5, PySem.W.mg_none_of X G bz6, PySem.W.mg_none_of X G bz7, PySem.W.mg_none_of X G bz8, PySem.W.mg_none_of X G bz9, PySem.W.mg_none_of X G bz10, PySem.W.mg_none_of X G bz11, PySem.W.mg_none_of X G bz12, PySem.W.mg_none_of X G bz13, PySem.W.mg_none_of X G bz14, PySem.W.mg_none_of X G bz15, PySem.W.mg_none_of X G bz16, PySem.W.mg_none_of X G bz17, PySem.W.mg_none_of X G bz18, PySem.W.mg_none_of X G bz19, PySem.W.mg_none_of X G bz20⟩
  have FIz := fun_mk (st := sIsInt) l0 c0 k0
  have DIz : Def K mg "is_integer" sIsInt f0 _ ["value"] := ⟨FIz, PySem.W.mg_of X G a0, FIz.binds (ps := ["value"]) fun _ _ _ _ _ _ us hl => match us, hl with | [_], _ => rfl⟩
  have FBt := fun_mk (st := sBetween) l1 c1 k1
  have DBt : Def K mg "is_integer_between" sBetween f1 _ ["value", "least", "most"] := ⟨FBt, PySem.W.mg_of X G a1, FBt.binds (ps := ["value", "least", "most"]) fun _ _ _ _ _ _ us hl => match us, hl with | [_, _, _], _ => rfl⟩
  have FAs := fun_mk (st := sAscending) l2 c2 k2
  have DAs : Def K mg "is_ascending" sAscending f2 _ ["numbers"] := ⟨FAs, PySem.W.mg_of X G a2, FAs.binds (ps := ["numbers"]) fun _ _ _ _ _ _ us hl => match us, hl with | [_], _ => rfl⟩
  have FCo := fun_mk (st := sCommon) l3 c3 k3
  have DCo : Def K mg "common_divisor" sCommon f3 _ ["lengths"] := ⟨FCo, PySem.W.mg_of X G a3, FCo.binds (ps := ["lengths"]) fun _ _ _ _ _ _ us hl => match us, hl with | [_], _ => rfl⟩
  have FIs := fun_mk (st := sIsSum) l4 c4 k4
  have DIs : Def K mg "is_sum" sIsSum f4 _ ["lengths", "total"] := ⟨FIs, PySem.W.mg_of X G a4, FIs.binds (ps := ["lengths", "total"]) fun _ _ _ _ _ _ us hl => match us, hl with | [_, _], _ => rfl⟩
  have FLe := fun_mk (st := sLeast) l5 c5 k5
  have DLe : Def K mg "least_sums" sLeast f5 _ ["lengths"] := ⟨FLe, PySem.W.mg_of X G a5, FLe.binds (ps := ["lengths"]) fun _ _ _ _ _ _ us hl => match us, hl with | [_], _ => rfl⟩
  have FCd := fun_mk (st := sConductor) l6 c6 k6
  have DCd : Def K mg "conductor" sConductor f6 _ ["lengths"] := ⟨FCd, PySem.W.mg_of X G a6, FCd.binds (ps := ["lengths"]) fun _ _ _ _ _ _ us hl => match us, hl with | [_], _ => rfl⟩
  have FGa := fun_mk (st := sGap) l7 c7 k7
  have DGa : Def K mg "gap_count" sGap f7 _ ["lengths"] := ⟨FGa, PySem.W.mg_of X G a7, FGa.binds (ps := ["lengths"]) fun _ _ _ _ _ _ us hl => match us, hl with | [_], _ => rfl⟩
  have FSp := fun_mk (st := sParts) l8 c8 k8
  have DSp : Def K mg "sum_parts" sParts f8 _ ["lengths", "total"] := ⟨FSp, PySem.W.mg_of X G a8, FSp.binds (ps := ["lengths", "total"]) fun _ _ _ _ _ _ us hl => match us, hl with | [_, _], _ => rfl⟩
  have FCh := fun_mk (st := sCheck) l9 c9 k9
  have DCh : Def K mg "check_lengths" sCheck f9 _ ["lengths"] := ⟨FCh, PySem.W.mg_of X G a9, FCh.binds (ps := ["lengths"]) fun _ _ _ _ _ _ us hl => match us, hl with | [_], _ => rfl⟩
  have FAr := fun_mk (st := sAre) l10 c10 k10
  have DAr : Def K mg "are_lengths" sAre f10 _ ["value"] := ⟨FAr, PySem.W.mg_of X G a10, FAr.binds (ps := ["value"]) fun _ _ _ _ _ _ us hl => match us, hl with | [_], _ => rfl⟩
  have FGc := fun_mk (st := sGcd) l11 c11 k11
  have DGc : Def K mg "divisor_of_two" sGcd f11 _ ["first", "second"] := ⟨FGc, PySem.W.mg_of X G a11, FGc.binds (ps := ["first", "second"]) fun _ _ _ _ _ _ us hl => match us, hl with | [_, _], _ => rfl⟩
  have FWi := fun_mk (st := sWith) l12 c12 k12
  have DWi : Def K mg "with_length" sWith f12 _ ["least", "length"] := ⟨FWi, PySem.W.mg_of X G a12, FWi.binds (ps := ["least", "length"]) fun _ _ _ _ _ _ us hl => match us, hl with | [_, _], _ => rfl⟩
  have FRe := fun_mk (st := sReached) l13 c13 k13
  have DRe : Def K mg "is_reached" sReached f13 _ ["least", "total"] := ⟨FRe, PySem.W.mg_of X G a13, FRe.binds (ps := ["least", "total"]) fun _ _ _ _ _ _ us hl => match us, hl with | [_, _], _ => rfl⟩
  have FPC := fun_mk (st := sCounts) l14 c14 k14
  have DPC : Def K mg "part_counts" sCounts f14 _ ["lengths", "least", "reached"] := ⟨FPC, PySem.W.mg_of X G a14, FPC.binds (ps := ["lengths", "least", "reached"]) fun _ _ _ _ _ _ us hl => match us, hl with | [_, _, _], _ => rfl⟩
  have FLp := fun_mk (st := sLast) l15 c15 k15
  have DLp : Def K mg "last_part" sLast f15 _ ["lengths", "least", "reached"] := ⟨FLp, PySem.W.mg_of X G a15, FLp.binds (ps := ["lengths", "least", "reached"]) fun _ _ _ _ _ _ us hl => match us, hl with | [_, _, _], _ => rfl⟩
  have FBo := fun_mk (st := sBox) l16 c16 k16
  have DBo : Def K mg "_law_box" sBox f16 _ ["_law_script", "_law_k"] := ⟨FBo, PySem.W.mg_of X G a16, FBo.binds (ps := ["_law_script", "_law_k"]) fun _ _ _ _ _ _ us hl => match us, hl with | [_, _], _ => rfl⟩
  have FTa := fun_mk (st := sTake) l17 c17 k17
  have DTa : Def K mg "_law_take" sTake f17 _ ["_law_box_here", "_law_many"] := ⟨FTa, PySem.W.mg_of X G a17, FTa.binds (ps := ["_law_box_here", "_law_many"]) fun _ _ _ _ _ _ us hl => match us, hl with | [_, _], _ => rfl⟩
  have FOf := fun_mk (st := sOf) l18 c18 k18
  have DOf : Def K mg "_law_of" sOf f18 _ ["_law_box_here", "_law_some"] := ⟨FOf, PySem.W.mg_of X G a18, FOf.binds (ps := ["_law_box_here", "_law_some"]) fun _ _ _ _ _ _ us hl => match us, hl with | [_, _], _ => rfl⟩
  have FIv := fun_mk (st := s_law_is_valid) l19 c19 k19
  have DIv : Def K mg "_law_is_valid" s_law_is_valid f19 _ ["_law_value"] := ⟨FIv, PySem.W.mg_of X G a19, FIv.binds (ps := ["_law_value"]) fun _ _ _ _ _ _ us hl => match us, hl with | [_], _ => rfl⟩
  have FDr := fun_mk (st := sDrawn) l20 c20 k20
  have DDr : Def K mg "_law_drawn" sDrawn f20 _ ["_law_box_here"] := ⟨FDr, PySem.W.mg_of X G a20, FDr.binds (ps := ["_law_box_here"]) fun _ _ _ _ _ _ us hl => match us, hl with | [_], _ => rfl⟩
  have FOd := fun_mk (st := s_law_odd) l21 c21 k21
  have DOd : Def K mg "_law_odd" s_law_odd f21 _ ["_law_box_here", "_law_value"] := ⟨FOd, PySem.W.mg_of X G a21, FOd.binds (ps := ["_law_box_here", "_law_value"]) fun _ _ _ _ _ _ us hl => match us, hl with | [_, _], _ => rfl⟩
  have FWd := fun_mk (st := s_law_word) l22 c22 k22
  have DWd : Def K mg "_law_word" s_law_word f22 _ ["_law_call", "_law_value"] := ⟨FWd, PySem.W.mg_of X G a22, FWd.binds (ps := ["_law_call", "_law_value"]) fun _ _ _ _ _ _ us hl => match us, hl with | [_, _], _ => rfl⟩
  have FRg := fun_mk (st := sRight) l23 c23 k23
  have DRg : Def K mg "_law_right" sRight f23 _ ["_law_value", "_law_total"] := ⟨FRg, PySem.W.mg_of X G a23, FRg.binds (ps := ["_law_value", "_law_total"]) fun _ _ _ _ _ _ us hl => match us, hl with | [_, _], _ => rfl⟩
  have FLa := fun_mk (st := sLaw) l24 c24 k24
  have CMl : ∃ t, mg "MOST_LENGTHS" = some (.int 50 t) := ⟨_, PySem.W.mg_of X G cst0⟩
  have CGl : ∃ t, mg "GREATEST_LENGTH" = some (.int 1000 t) := ⟨_, PySem.W.mg_of X G cst1⟩

  refine ⟨PySem.W.fnOf "law" "law" (defArgs sLaw) (defBody sLaw) (defScope sLaw) .none kV24 dc24 pm24 an24 cd24 ct24, cL, tL, htab, htn, fun s v => .of_eq rfl, fun base _ _ TB => ?_⟩
  have GBt : FnOk P w K mg base CX0 2 _ _ ["value", "least", "most"] spBetween := ok_between FBt T DIz
  have GBx : FnOk P w K mg base CX0 2 _ _ ["value", "least", "most"] (spBetweenX K) := ok_betweenX FBt T DIz
  have GAr : FnOk P w K mg base CX0 3 _ _ ["value"] spAre := ok_are FAr T DBt GBt DAs CMl CGl
  have GCh : FnOk P w K mg base CX0 4 _ _ ["lengths"] spCheck := ok_check FCh DAr GAr
  have GWi : FnOk P w K mg base CX0 4 _ _ ["least", "length"] spWith := ok_with FWi T DGc
  have GLe : FnOk P w K mg base CX0 5 _ _ ["lengths"] spLeast := ok_least FLe T DCh GCh DWi GWi
  have GCo : FnOk P w K mg base CX0 5 _ _ ["lengths"] spCommon := ok_common FCo DCh GCh DGc
  have GRe : FnOk P w K mg base CX0 5 _ _ ["least", "total"] spReached := ok_reached FRe T
  have GIs : FnOk P w K mg base CX0 6 _ _ ["lengths", "total"] spIsSum := ok_issum FIs DRe GRe DLe GLe
  have GCd : FnOk P w K mg base CX0 6 _ _ ["lengths"] spCond := ok_cond FCd T DCo GCo DLe GLe
  have GGa : FnOk P w K mg base CX0 6 _ _ ["lengths"] spGap := ok_gap FGa T DCo GCo DLe GLe
  have GLp : FnOk P w K mg base CX0 4 _ _ ["lengths", "least", "reached"] (spLast K) := ok_last FLp T
  have GPC : FnOk P w K mg base CX0 5 _ _ ["lengths", "least", "reached"] (spCounts K) := ok_counts FPC T DLp GLp
  have GSp : FnOk P w K mg base CX0 6 _ _ ["lengths", "total"] spParts := ok_parts FSp T DLe GLe DRe GRe DPC GPC
  obtain ⟨C, hC⟩ : ∃ C : Nat → Addr, C = fun i => ([z0, z1, z2, z3, z4, z5, z6, z7, z8, z9] : List Addr).getD i 0 := ⟨_, rfl⟩
  have c0_ : C 0 = z0 := by rw [hC]; rfl
  have c1_ : C 1 = z1 := by rw [hC]; rfl
  have c2_ : C 2 = z2 := by rw [hC]; rfl
  have c3_ : C 3 = z3 := by rw [hC]; rfl
  have c4_ : C 4 = z4 := by rw [hC]; rfl
  have c5_ : C 5 = z5 := by rw [hC]; rfl
  have c6_ : C 6 = z6 := by rw [hC]; rfl
  have c7_ : C 7 = z7 := by rw [hC]; rfl
  have c8_ : C 8 = z8 := by rw [hC]; rfl
  have c9_ : C 9 = z9 := by rw [hC]; rfl
  have inj : ∀ i j, i < 10 → j < 10 → C i = C j → i = j := fun i j hi hj e => by
    rw [hC] at e
    exact nodup_getD (l := [z0, z1, z2, z3, z4, z5, z6, z7, z8, z9]) i j hi hj e ndp
  clear hC ndp
  subst c0_ c1_ c2_ c3_ c4_ c5_ c6_ c7_ c8_ c9_
  have mro : ∀ i, i < 10 → ∃ r, (∀ b, PySem.W.mroIn K (C i) b = some ((Value.ref (C i) :: r).contains b)) ∧ (r = [.type "ValueError", .type "Exception", .type "BaseException", .type "object"] ∨ r = [.ref (C 9), .type "ValueError", .type "Exception", .type "BaseException", .type "object"]) ∧ (i ≠ 9 → r = [.ref (C 9), .type "ValueError", .type "Exception", .type "BaseException", .type "object"]) := fun i hi => match i, hi with
    | 0, _ => ⟨_, fun b => mro_of x0 b, .inr rfl, fun _ => rfl⟩
    | 1, _ => ⟨_, fun b => mro_of x1 b, .inr rfl, fun _ => rfl⟩
    | 2, _ => ⟨_, fun b => mro_of x2 b, .inr rfl, fun _ => rfl⟩
    | 3, _ => ⟨_, fun b => mro_of x3 b, .inr rfl, fun _ => rfl⟩
    | 4, _ => ⟨_, fun b => mro_of x4 b, .inr rfl, fun _ => rfl⟩
    | 5, _ => ⟨_, fun b => mro_of x5 b, .inr rfl, fun _ => rfl⟩
    | 6, _ => ⟨_, fun b => mro_of x6 b, .inr rfl, fun _ => rfl⟩
    | 7, _ => ⟨_, fun b => mro_of x7 b, .inr rfl, fun _ => rfl⟩
    | 8, _ => ⟨_, fun b => mro_of x8 b, .inr rfl, fun _ => rfl⟩
    | 9, _ => ⟨_, fun b => mro_of x9 b, .inl rfl, fun z => absurd rfl z⟩
    | n + 10, h => absurd h (by omega)
  have cls : ∀ i, i < 10 → ((PySem.W.clsIn K (C i)).isSome && PySem.W.typeIn K (.ref (C i)) == some (.type "type")) = true := fun i hi => match i, hi with
    | 0, _ => by rw [cls_of x0, ty0]; rfl
    | 1, _ => by rw [cls_of x1, ty1]; rfl
    | 2, _ => by rw [cls_of x2, ty2]; rfl
    | 3, _ => by rw [cls_of x3, ty3]; rfl
    | 4, _ => by rw [cls_of x4, ty4]; rfl
    | 5, _ => by rw [cls_of x5, ty5]; rfl
    | 6, _ => by rw [cls_of x6, ty6]; rfl
    | 7, _ => by rw [cls_of x7, ty7]; rfl
    | 8, _ => by rw [cls_of x8, ty8]; rfl
    | 9, _ => by rw [cls_of x9, ty9]; rfl
    | n + 10, h => absurd h (by omega)
  have exc : ∀ i, i < 10 → ExcC K (C i) := fun i hi => match i, hi with
    | 0, _ => ⟨ga0, gg0, by show PySem.W.mroIn K (C 0) _ = _; rw [mro_of x0]; rfl, eh0, gc0, spc, tkc, by rw [mro_of x0]; rfl⟩
    | 1, _ => ⟨ga1, gg1, by show PySem.W.mroIn K (C 1) _ = _; rw [mro_of x1]; rfl, eh1, gc1, spc, tkc, by rw [mro_of x1]; rfl⟩
    | 2, _ => ⟨ga2, gg2, by show PySem.W.mroIn K (C 2) _ = _; rw [mro_of x2]; rfl, eh2, gc2, spc, tkc, by rw [mro_of x2]; rfl⟩
    | 3, _ => ⟨ga3, gg3, by show PySem.W.mroIn K (C 3) _ = _; rw [mro_of x3]; rfl, eh3, gc3, spc, tkc, by rw [mro_of x3]; rfl⟩
    | 4, _ => ⟨ga4, gg4, by show PySem.W.mroIn K (C 4) _ = _; rw [mro_of x4]; rfl, eh4, gc4, spc, tkc, by rw [mro_of x4]; rfl⟩
    | 5, _ => ⟨ga5, gg5, by show PySem.W.mroIn K (C 5) _ = _; rw [mro_of x5]; rfl, eh5, gc5, spc, tkc, by rw [mro_of x5]; rfl⟩
    | 6, _ => ⟨ga6, gg6, by show PySem.W.mroIn K (C 6) _ = _; rw [mro_of x6]; rfl, eh6, gc6, spc, tkc, by rw [mro_of x6]; rfl⟩
    | 7, _ => ⟨ga7, gg7, by show PySem.W.mroIn K (C 7) _ = _; rw [mro_of x7]; rfl, eh7, gc7, spc, tkc, by rw [mro_of x7]; rfl⟩
    | 8, _ => ⟨ga8, gg8, by show PySem.W.mroIn K (C 8) _ = _; rw [mro_of x8]; rfl, eh8, gc8, spc, tkc, by rw [mro_of x8]; rfl⟩
    | 9, _ => ⟨ga9, gg9, by show PySem.W.mroIn K (C 9) _ = _; rw [mro_of x9]; rfl, eh9, gc9, spc, tkc, by rw [mro_of x9]; rfl⟩
    | n + 10, h => absurd h (by omega)
  have exm : ∀ i, i < 9 → PySem.W.exmOne K (.ref (C i)) (.ref (C 9)) = some true := fun i hi => PySem.W.exm_ref (by show PySem.W.mroIn K (C 9) _ = _; rw [mro_of x9]; rfl) eh9 ty9 (by
    show PySem.W.mroIn K (C i) (.ref (C 9)) = _
    obtain ⟨r, e, _, er⟩ := mro i (by omega)
    rw [e, er (by omega)]
    simp)
  have xfs : ∀ i, i < 9 → XfC K (C i) := fun i hi => match i, hi with
    | 0, _ => ⟨ga0, gg0, (exc 0 (by decide)).hs, eh0⟩
    | 1, _ => ⟨ga1, gg1, (exc 1 (by decide)).hs, eh1⟩
    | 2, _ => ⟨ga2, gg2, (exc 2 (by decide)).hs, eh2⟩
    | 3, _ => ⟨ga3, gg3, (exc 3 (by decide)).hs, eh3⟩
    | 4, _ => ⟨ga4, gg4, (exc 4 (by decide)).hs, eh4⟩
    | 5, _ => ⟨ga5, gg5, (exc 5 (by decide)).hs, eh5⟩
    | 6, _ => ⟨ga6, gg6, (exc 6 (by decide)).hs, eh6⟩
    | 7, _ => ⟨ga7, gg7, (exc 7 (by decide)).hs, eh7⟩
    | 8, _ => ⟨ga8, gg8, (exc 8 (by decide)).hs, eh8⟩
    | n + 9, h => absurd h (by omega)
  have OX0 : OexC K (C 0) := ⟨⟨_, _, _, _, _, _, _, _, _, _, _, _, _, _, _, x0, by rfl⟩, esa0, by show PySem.W.mroIn K (C 0) _ = _; rw [mro_of x0]; rfl, ty0, gk0⟩
  have FI0 := fun_mk (st := sIInvalidLengths) fl0 fc0 fk0
  have BI0 := FI0.binds (ps := ["self", "value"]) fun _ _ _ _ _ _ us hl => match us, hl with | [_, _], _ => rfl
  have E0 : Er P w K mg base 1 (C 0) "value" := ⟨OX0, ⟨_, _, fi_0, ft0, okIInvalidLengths FI0 OX0 no0, BI0⟩, ⟨ga0, gg0, (exc 0 (by decide)).hs, eh0⟩, no0⟩
  have S9 : Err9 K mg C := ⟨PySem.W.mg_of X G mz0, PySem.W.mg_of X G mz1, PySem.W.mg_of X G mz2, PySem.W.mg_of X G mz3, PySem.W.mg_of X G mz4, PySem.W.mg_of X G mz5, PySem.W.mg_of X G mz6, PySem.W.mg_of X G mz7, PySem.W.mg_of X G mz8, PySem.W.mg_of X G mz9, exc 0 (by decide), fun j hj => (kits inj mro cls 0 (by decide) j hj).trans (by rw [show (decide (0 = j)) = decide (j = 0) from decide_eq_decide.mpr eq_comm]), kitsV mro 0 (by decide), exm 0 (by decide), xfs 0 (by decide), no0⟩
  have GAx : FnOk P w K mg base CX0 3 _ _ ["value"] (spAreX K) := ok_areX FAr T DBt GBx DAs CMl CGl
  have GCx : FnOk P w K mg base (L2.CX P w) 4 _ _ ["lengths"] (spLx K (C 0)) := ok_ckLx FCh S9.g0 (Er.up E0 (by decide)) DAr GAx
  have GLx : FnOk P w K mg base (L2.CX P w) 5 _ _ ["lengths"] (spLx K (C 0)) := ok_leastX FLe DCh GCx
  have GCox : FnOk P w K mg base (L2.CX P w) 5 _ _ ["lengths"] (spLx K (C 0)) := ok_commonX FCo DCh GCx
  have G1 : FnOk P w K mg base (L2.CX P w) 6 _ _ ["lengths"] (spSix1 K (C 0)) := FnOk.or (FnOk.imp (FnOk.lets (up GCo (by decide))) ret_common) (up GCox (by decide))
  have G2 : FnOk P w K mg base (L2.CX P w) 6 _ _ ["lengths", "total"] (spSix2 K (C 0)) := FnOk.or (FnOk.imp (FnOk.lets GIs) ret_issum) (ok_issumX FIs DLe GLx DRe GRe)
  have G3 : FnOk P w K mg base (L2.CX P w) 6 _ _ ["lengths"] (spSix1 K (C 0)) := FnOk.or (FnOk.imp (FnOk.lets (up GLe (by decide))) ret_least) (up GLx (by decide))
  have G4 : FnOk P w K mg base (L2.CX P w) 6 _ _ ["lengths"] (spSix1 K (C 0)) := FnOk.or (FnOk.imp (FnOk.lets GCd) ret_cond) (ok_condX FCd DCo GCox)
  have G5 : FnOk P w K mg base (L2.CX P w) 6 _ _ ["lengths"] (spSix1 K (C 0)) := FnOk.or (FnOk.imp (FnOk.lets GGa) ret_gap) (ok_gapX FGa DCo GCox)
  have G6 : FnOk P w K mg base (L2.CX P w) 6 _ _ ["lengths", "total"] (spSix2 K (C 0)) := FnOk.or (FnOk.imp (FnOk.lets GSp) (fun _ _ _ _ h => h)) (ok_partsX FSp DLe GLx)
  have GRg : FnG P w K mg base 9 _ _ ["_law_value", "_law_total"] (spRight05 tL) := ok_right05 (k := 6) FRg T a23 htab TB S9 DIv (ok_isVal FIv T) DWd DCo G1 DIs G2 DLe G3 DCd G4 DGa G5 DSp G6
  exact ok_law (k := 9) FLa T DBo (ok_box FBo T) DTa (ok_take FTa) DDr (ok_drawn05 (k := 6) FDr T DOf DTa) DOd (ok_odd05 (k := 6) FOd T DOf DTa) DRg GRg
end Ov
open PySem PySem.W PyProof.Rows
set_option maxRecDepth 100000 in
set_option maxHeartbeats 0 in
theorem PySem.Challenge.cw_overlapcode_k05_lengths_of_any_values_holds : PySem.Challenge.rw_overlapcode_k05_lengths_of_any_values.Holds := by
  w_on; o_law; k_head; (case hw => w_witness2)
  k_fill
  refine Ov.walkGT (l := PySem.Challenge.rw_overlapcode_k05_lengths_of_any_values) (n := 63) (k := 10) (x := "_law_script") (y := "_law_right") (sp := fun K T => Ov.spLaw K T) rfl (by decide) rfl ⟨rfl, by decide, by decide⟩ (fun w h Y => PySem.W.km_in_of Y) (by decide +kernel) ?F (fun _ _ _ a ns hl hT hS => ⟨a, ns, rfl, hT, hS, hl, fun _ => rfl⟩)
  case F =>
    intro w mg fa h KX G hmg
    refine' Ov.all_mk KX G hmg ?a0 ?l0 ?c0 ?k0 ?a1 ?l1 ?c1 ?k1 ?a2 ?l2 ?c2 ?k2 ?a3 ?l3 ?c3 ?k3 ?a4 ?l4 ?c4 ?k4 ?a5 ?l5 ?c5 ?k5 ?a6 ?l6 ?c6 ?k6 ?a7 ?l7 ?c7 ?k7 ?a8 ?l8 ?c8 ?k8 ?a9 ?l9 ?c9 ?k9 ?a10 ?l10 ?c10 ?k10 ?a11 ?l11 ?c11 ?k11 ?a12 ?l12 ?c12 ?k12 ?a13 ?l13 ?c13 ?k13 ?a14 ?l14 ?c14 ?k14 ?a15 ?l15 ?c15 ?k15 ?a16 ?l16 ?c16 ?k16 ?a17 ?l17 ?c17 ?k17 ?a18 ?l18 ?c18 ?k18 ?a19 ?l19 ?c19 ?k19 ?a20 ?l20 ?c20 ?k20 ?a21 ?l21 ?c21 ?k21 ?a22 ?l22 ?c22 ?k22 ?a23 ?l23 ?c23 ?k23 ?a24 ?l24 ?c24 ?k24 ?mz0 ?mz1 ?mz2 ?mz3 ?mz4 ?mz5 ?mz6 ?mz7 ?mz8 ?mz9 ?x0 ?ga0 ?gg0 ?gc0 ?gk0 ?ty0 ?eh0 ?no0 ?esa0 ?fi_0 ?ft0 ?fl0 ?fc0 ?fk0 ?x1 ?ga1 ?gg1 ?gc1 ?gk1 ?ty1 ?eh1 ?no1 ?x2 ?ga2 ?gg2 ?gc2 ?gk2 ?ty2 ?eh2 ?no2 ?x3 ?ga3 ?gg3 ?gc3 ?gk3 ?ty3 ?eh3 ?no3 ?x4 ?ga4 ?gg4 ?gc4 ?gk4 ?ty4 ?eh4 ?no4 ?x5 ?ga5 ?gg5 ?gc5 ?gk5 ?ty5 ?eh5 ?no5 ?x6 ?ga6 ?gg6 ?gc6 ?gk6 ?ty6 ?eh6 ?no6 ?x7 ?ga7 ?gg7 ?gc7 ?gk7 ?ty7 ?eh7 ?no7 ?x8 ?ga8 ?gg8 ?gc8 ?gk8 ?ty8 ?eh8 ?no8 ?x9 ?ga9 ?gg9 ?gc9 ?gk9 ?ty9 ?eh9 ?spc ?tkc ?ndp ?cst0 ?cst1 ?bz0 ?bz1 ?bz2 ?bz3 ?bz4 ?bz5 ?bz6 ?bz7 ?bz8 ?bz9 ?bz10 ?bz11 ?bz12 ?bz13 ?bz14 ?bz15 ?bz16 ?bz17 ?bz18 ?bz19 ?bz20 ?htb ?h11 ?htn
    (case a0 => k_is)
    (case l0 => k_is)
    (case c0 => k_is)
    (case k0 => k_is)
    (case a1 => k_is)
    (case l1 => k_is)
    (case c1 => k_is)
    (case k1 => k_is)
    (case a2 => k_is)
    (case l2 => k_is)
    (case c2 => k_is)
    (case k2 => k_is)
    (case a3 => k_is)
    (case l3 => k_is)
    (case c3 => k_is)
    (case k3 => k_is)
    (case a4 => k_is)
    (case l4 => k_is)
    (case c4 => k_is)
    (case k4 => k_is)
    (case a5 => k_is)
    (case l5 => k_is)
    (case c5 => k_is)
    (case k5 => k_is)
    (case a6 => k_is)
    (case l6 => k_is)
    (case c6 => k_is)
    (case k6 => k_is)
    (case a7 => k_is)
    (case l7 => k_is)
    (case c7 => k_is)
    (case k7 => k_is)
    (case a8 => k_is)
    (case l8 => k_is)
    (case c8 => k_is)
    (case k8 => k_is)
    (case a9 => k_is)
    (case l9 => k_is)
    (case c9 => k_is)
    (case k9 => k_is)
    (case a10 => k_is)
    (case l10 => k_is)
    (case c10 => k_is)
    (case k10 => k_is)
    (case a11 => k_is)
    (case l11 => k_is)
    (case c11 => k_is)
    (case k11 => k_is)
    (case a12 => k_is)
    (case l12 => k_is)
    (case c12 => k_is)
    (case k12 => k_is)
    (case a13 => k_is)
    (case l13 => k_is)
    (case c13 => k_is)
    (case k13 => k_is)
    (case a14 => k_is)
    (case l14 => k_is)
    (case c14 => k_is)
    (case k14 => k_is)
    (case a15 => k_is)
    (case l15 => k_is)
    (case c15 => k_is)
    (case k15 => k_is)
    (case a16 => k_is)
    (case l16 => k_is)
    (case c16 => k_is)
    (case k16 => k_is)
    (case a17 => k_is)
    (case l17 => k_is)
    (case c17 => k_is)
    (case k17 => k_is)
    (case a18 => k_is)
    (case l18 => k_is)
    (case c18 => k_is)
    (case k18 => k_is)
    (case a19 => k_is)
    (case l19 => k_is)
    (case c19 => k_is)
    (case k19 => k_is)
    (case a20 => k_is)
    (case l20 => k_is)
    (case c20 => k_is)
    (case k20 => k_is)
    (case a21 => k_is)
    (case l21 => k_is)
    (case c21 => k_is)
    (case k21 => k_is)
    (case a22 => k_is)
    (case l22 => k_is)
    (case c22 => k_is)
    (case k22 => k_is)
    (case a23 => k_is)
    (case l23 => k_is)
    (case c23 => k_is)
    (case k23 => k_is)
    (case a24 => k_is)
    (case l24 => k_is)
    (case c24 => k_is)
    (case k24 => k_is)
    (case mz0 => k_is)
    (case mz1 => k_is)
    (case mz2 => k_is)
    (case mz3 => k_is)
    (case mz4 => k_is)
    (case mz5 => k_is)
    (case mz6 => k_is)
    (case mz7 => k_is)
    (case mz8 => k_is)
    (case mz9 => k_is)
    (case x0 => k_is)
    (case ga0 => k_is)
    (case gg0 => k_is)
    (case gc0 => k_is)
    (case gk0 => k_is)
    (case ty0 => k_is)
    (case eh0 => k_is)
    (case no0 => k_is)
    (case esa0 => k_is)
    (case fi_0 => k_is)
    (case ft0 => k_is)
    (case fl0 => k_is)
    (case fc0 => k_is)
    (case fk0 => k_is)
    (case x1 => k_is)
    (case ga1 => k_is)
    (case gg1 => k_is)
    (case gc1 => k_is)
    (case gk1 => k_is)
    (case ty1 => k_is)
    (case eh1 => k_is)
    (case no1 => k_is)
    (case x2 => k_is)
    (case ga2 => k_is)
    (case gg2 => k_is)
    (case gc2 => k_is)
    (case gk2 => k_is)
    (case ty2 => k_is)
    (case eh2 => k_is)
    (case no2 => k_is)
    (case x3 => k_is)
    (case ga3 => k_is)
    (case gg3 => k_is)
    (case gc3 => k_is)
    (case gk3 => k_is)
    (case ty3 => k_is)
    (case eh3 => k_is)
    (case no3 => k_is)
    (case x4 => k_is)
    (case ga4 => k_is)
    (case gg4 => k_is)
    (case gc4 => k_is)
    (case gk4 => k_is)
    (case ty4 => k_is)
    (case eh4 => k_is)
    (case no4 => k_is)
    (case x5 => k_is)
    (case ga5 => k_is)
    (case gg5 => k_is)
    (case gc5 => k_is)
    (case gk5 => k_is)
    (case ty5 => k_is)
    (case eh5 => k_is)
    (case no5 => k_is)
    (case x6 => k_is)
    (case ga6 => k_is)
    (case gg6 => k_is)
    (case gc6 => k_is)
    (case gk6 => k_is)
    (case ty6 => k_is)
    (case eh6 => k_is)
    (case no6 => k_is)
    (case x7 => k_is)
    (case ga7 => k_is)
    (case gg7 => k_is)
    (case gc7 => k_is)
    (case gk7 => k_is)
    (case ty7 => k_is)
    (case eh7 => k_is)
    (case no7 => k_is)
    (case x8 => k_is)
    (case ga8 => k_is)
    (case gg8 => k_is)
    (case gc8 => k_is)
    (case gk8 => k_is)
    (case ty8 => k_is)
    (case eh8 => k_is)
    (case no8 => k_is)
    (case x9 => k_is)
    (case ga9 => k_is)
    (case gg9 => k_is)
    (case gc9 => k_is)
    (case gk9 => k_is)
    (case ty9 => k_is)
    (case eh9 => k_is)
    (case spc => k_is)
    (case tkc => k_is)
    (case ndp => decide)
    (case cst0 => k_is)
    (case cst1 => k_is)
    (case bz0 => k_is)
    (case bz1 => k_is)
    (case bz2 => k_is)
    (case bz3 => k_is)
    (case bz4 => k_is)
    (case bz5 => k_is)
    (case bz6 => k_is)
    (case bz7 => k_is)
    (case bz8 => k_is)
    (case bz9 => k_is)
    (case bz10 => k_is)
    (case bz11 => k_is)
    (case bz12 => k_is)
    (case bz13 => k_is)
    (case bz14 => k_is)
    (case bz15 => k_is)
    (case bz16 => k_is)
    (case bz17 => k_is)
    (case bz18 => k_is)
    (case bz19 => k_is)
    (case bz20 => k_is)
    (case htb => k_is)
    (case h11 => rfl)
    (case htn => rfl)
