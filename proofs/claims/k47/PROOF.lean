import PyProof.Rows.All
import Wide.All
import OpenK.AllK
import Wide.FinOn
import HandS.ForMost
import HandS.IsInst
import HandS.Zip
import HandS.TupAny
import HandS.Wide
import HandS.More
import HandS.Walk
import HandS.RaiseMore
import HandS.Flow
import HandS.Conv
import HandS.MakeKwOnly
import KE.DataMinMax
import HandS.Small
import HandS.Text
import HandS.Strs
import HandS.Codes
import HandS.ExcInit
import HandS.ExcField
import HandS.ExcIs
import HandS.ExcOwn
import HandS.ExcValue
import KE.KExcIs
import HandS.DictComp
import HandS.TupMul
import PyProof.AutoSeq1
import HandS.SetBool
import HandS.SetFor
import KE.KRevSl
import HandS.Dict
import PyProof.NeData
import HandS.TupLe
import HandS.Defaults
import PySem.Challenge.RW_overlapcode_k47_overlays_of_any_values
set_option Elab.async false
set_option linter.all false
set_option maxRecDepth 100000
set_option maxHeartbeats 4000000
/-! Sums of lengths: the mathematics -/
namespace Ov
/-- a sum of the lengths -/
inductive Sum (ls : List Nat) : Nat → Prop
  | zero : Sum ls 0
  | add {l s : Nat} : l ∈ ls → Sum ls s → Sum ls (s + l)

theorem Sum.mono {ls ks : List Nat} (h : ∀ l ∈ ls, l ∈ ks) {s : Nat} (a : Sum ls s) : Sum ks s := by
  induction a with
  | zero => exact .zero
  | add hl _ ih => exact .add (h _ hl) ih

theorem Sum.plus {ls : List Nat} {s t : Nat} (a : Sum ls s) (b : Sum ls t) : Sum ls (s + t) := by
  induction b with
  | zero => exact a
  | add hl _ ih => rw [← Nat.add_assoc]; exact .add hl ih

theorem Sum.times {ls : List Nat} {l : Nat} (h : l ∈ ls) : ∀ (j : Nat), Sum ls (j * l)
  | 0 => by rw [Nat.zero_mul]; exact .zero
  | j + 1 => by rw [Nat.succ_mul]; exact .add h (Sum.times h j)

theorem Sum.step {ls : List Nat} {w : Nat} : Sum ls w ↔ w = 0 ∨ ∃ l ∈ ls, l ≤ w ∧ Sum ls (w - l) := by
  constructor
  · intro a
    cases a with
    | zero => exact .inl rfl
    | @add l s hl hs => exact .inr ⟨l, hl, Nat.le_add_left _ _, by rw [Nat.add_sub_cancel]; exact hs⟩
  · rintro (rfl | ⟨l, hl, hw, hs⟩)
    · exact .zero
    · have := Sum.add hl hs
      rwa [Nat.sub_add_cancel hw] at this

/-- one more length: a sum of the others and so many of it -/
theorem Sum.snoc {ls : List Nat} {L s : Nat} : Sum (ls ++ [L]) s ↔ ∃ j t, Sum ls t ∧ s = t + j * L := by
  constructor
  · intro a
    induction a with
    | zero => exact ⟨0, 0, .zero, by simp⟩
    | @add l s hl _ ih =>
      obtain ⟨j, t, ht, rfl⟩ := ih
      rcases List.mem_append.mp hl with h | h
      · exact ⟨j, t + l, .add h ht, by omega⟩
      · have : l = L := by simpa using h
        subst this
        exact ⟨j + 1, t, ht, by rw [Nat.succ_mul]; omega⟩
  · rintro ⟨j, t, ht, rfl⟩
    exact (ht.mono fun l h => List.mem_append_left _ h).plus (Sum.times (List.mem_append_right _ (List.mem_singleton.mpr rfl)) j)

theorem Sum.single {m s : Nat} : Sum [m] s ↔ ∃ j, s = j * m := by
  have := @Sum.snoc [] m s
  rw [List.nil_append] at this
  rw [this]
  constructor
  · rintro ⟨j, t, ht, rfl⟩
    have : t = 0 := by
      cases ht with
      | zero => rfl
      | add h _ => cases h
    exact ⟨j, by omega⟩
  · rintro ⟨j, rfl⟩
    exact ⟨j, 0, .zero, by omega⟩

/-! ### least sums by remainder -/
/-- a is at most b, where none is above all -/
def leO (a b : Option Nat) : Prop := ∀ y, b = some y → ∃ x, a = some x ∧ x ≤ y
theorem leO.rfl {a : Option Nat} : leO a a := fun y h => ⟨y, h, Nat.le_refl _⟩
theorem leO.trans {a b c : Option Nat} (h : leO a b) (k : leO b c) : leO a c := fun z hz => by
  obtain ⟨y, hy, hyz⟩ := k z hz
  obtain ⟨x, hx, hxy⟩ := h y hy
  exact ⟨x, hx, Nat.le_trans hxy hyz⟩
def leL (a b : List (Option Nat)) : Prop := a.length = b.length ∧ ∀ r, leO (a.getD r none) (b.getD r none)
theorem leL.rfl {a : List (Option Nat)} : leL a a := ⟨_root_.rfl, fun _ => leO.rfl⟩
theorem leL.trans {a b c : List (Option Nat)} (h : leL a b) (k : leL b c) : leL a c := ⟨h.1.trans k.1, fun r => (h.2 r).trans (k.2 r)⟩

/-- one step of the walk: what is reached at r, and the length, at the remainder that follows -/
def relax (L r f : Nat) (a : List (Option Nat)) : List (Option Nat) :=
  match a.getD r none with
  | none => a
  | some x => match a.getD f none with
    | none => a.set f (some (x + L))
    | some y => if x + L < y then a.set f (some (x + L)) else a

theorem getD_set {α : Type} (a : List α) (f r : Nat) (v d : α) : (a.set f v).getD r d = if f = r ∧ r < a.length then v else a.getD r d := by
  simp only [List.getD_eq_getElem?_getD, List.getElem?_set]
  by_cases h : f = r
  · subst h
    by_cases h2 : f < a.length
    · simp [h2]
    · simp [h2, List.getElem?_eq_none (Nat.le_of_not_lt h2)]
  · simp [h]

theorem relax_len (L r f : Nat) (a : List (Option Nat)) : (relax L r f a).length = a.length := by
  unfold relax
  split
  · rfl
  · split
    · simp
    · split <;> simp

theorem relax_le (L r f : Nat) (a : List (Option Nat)) : leL (relax L r f a) a := by
  refine ⟨relax_len .., fun q => ?_⟩
  unfold relax
  split
  · exact leO.rfl
  · rename_i x _
    split
    · rename_i hf
      rw [getD_set]
      by_cases c : f = q ∧ q < a.length
      · rw [if_pos c, ← c.1, hf]
        intro y h; cases h
      · rw [if_neg c]; exact leO.rfl
    · rename_i y hf
      split
      · rename_i hlt
        rw [getD_set]
        by_cases c : f = q ∧ q < a.length
        · rw [if_pos c, ← c.1, hf]
          intro z h
          cases h
          exact ⟨_, rfl, Nat.le_of_lt hlt⟩
        · rw [if_neg c]; exact leO.rfl
      · exact leO.rfl

theorem relax_at (L r f : Nat) (a : List (Option Nat)) (hf : f < a.length) : leO ((relax L r f a).getD f none) ((a.getD r none).map (· + L)) := by
  unfold relax
  split
  · rename_i h
    rw [h]
    intro y h; cases h
  · rename_i x h
    rw [h]
    split
    · rw [getD_set, if_pos ⟨rfl, hf⟩]
      exact leO.rfl
    · rename_i y hy
      split
      · rw [getD_set, if_pos ⟨rfl, hf⟩]
        exact leO.rfl
      · rename_i hn
        rw [hy]
        intro z hz
        have : x + L = z := Option.some.inj hz
        exact ⟨y, rfl, by omega⟩

/-- every entry is of S and has its remainder -/
def Sound (S : Nat → Prop) (m : Nat) (a : List (Option Nat)) : Prop := ∀ r x, a.getD r none = some x → S x ∧ x % m = r

theorem relax_sound {S : Nat → Prop} {m L r : Nat} {a : List (Option Nat)} (hS : ∀ x, S x → S (x + L)) (h : Sound S m a) : Sound S m (relax L r ((r + L) % m) a) := by
  have key : ∀ x, a.getD r none = some x → S (x + L) ∧ (x + L) % m = (r + L) % m := fun x hx => by
    obtain ⟨h1, h2⟩ := h r x hx
    refine ⟨hS x h1, ?_⟩
    rw [← h2, Nat.add_mod (x % m), Nat.mod_mod, ← Nat.add_mod]
  intro q z hz
  unfold relax at hz
  split at hz
  · exact h q z hz
  · rename_i x hx
    obtain ⟨k1, k2⟩ := key x hx
    split at hz
    · rw [getD_set] at hz
      by_cases c : (r + L) % m = q ∧ q < a.length
      · rw [if_pos c] at hz
        cases hz
        exact ⟨k1, k2.trans c.1⟩
      · rw [if_neg c] at hz; exact h q z hz
    · split at hz
      · rw [getD_set] at hz
        by_cases c : (r + L) % m = q ∧ q < a.length
        · rw [if_pos c] at hz
          cases hz
          exact ⟨k1, k2.trans c.1⟩
        · rw [if_neg c] at hz; exact h q z hz
      · exact h q z hz

/-- so many steps from r on: the list, and where the walk stands -/
def steps (L m : Nat) : Nat → Nat → List (Option Nat) → List (Option Nat) × Nat
  | 0, r, a => (a, r)
  | t + 1, r, a => let q := steps L m t r a; (relax L q.2 ((q.2 + L) % m) q.1, (q.2 + L) % m)

theorem steps_at (L m : Nat) (r : Nat) (a : List (Option Nat)) (hr : r < m) : ∀ t, (steps L m t r a).2 = (r + t * L) % m
  | 0 => by simp [steps, Nat.mod_eq_of_lt hr]
  | t + 1 => by
    show ((steps L m t r a).2 + L) % m = _
    rw [steps_at L m r a hr t, Nat.add_mod ((r + t * L) % m), Nat.mod_mod, ← Nat.add_mod, Nat.succ_mul, Nat.add_assoc]

theorem steps_le (L m : Nat) (r : Nat) (a : List (Option Nat)) : ∀ t, leL (steps L m t r a).1 a
  | 0 => leL.rfl
  | t + 1 => (relax_le ..).trans (steps_le L m r a t)

theorem steps_le' (L m : Nat) (r : Nat) (a : List (Option Nat)) (t : Nat) : ∀ d, leL (steps L m (t + d) r a).1 (steps L m t r a).1
  | 0 => leL.rfl
  | d + 1 => (relax_le ..).trans (steps_le' L m r a t d)

theorem steps_sound {S : Nat → Prop} {m L : Nat} {r : Nat} {a : List (Option Nat)} (hS : ∀ x, S x → S (x + L)) (h : Sound S m a) : ∀ t, Sound S m (steps L m t r a).1
  | 0 => h
  | t + 1 => relax_sound hS (steps_sound hS h t)

/-- what stands at the p-th place goes j steps on -/
theorem steps_far {L m : Nat} {r : Nat} {a : List (Option Nat)} (hm : 0 < m) (hl : a.length = m) (hr : r < m) (p : Nat) {y : Nat} (hy : a.getD ((r + p * L) % m) none = some y) :
    ∀ j, ∃ x, ((steps L m (p + j) r a).1).getD ((r + (p + j) * L) % m) none = some x ∧ x ≤ y + j * L
  | 0 => by
    obtain ⟨x, hx, hxy⟩ := (steps_le L m r a p).2 _ y hy
    exact ⟨x, hx, by omega⟩
  | j + 1 => by
    obtain ⟨x, hx, hxy⟩ := steps_far hm hl hr p hy j
    have hp := steps_at L m r a hr (p + j)
    have hlen : (steps L m (p + j) r a).1.length = m := (steps_le L m r a (p + j)).1.trans hl
    have e : (r + (p + (j + 1)) * L) % m = ((steps L m (p + j) r a).2 + L) % m := by
      rw [hp, Nat.add_mod ((r + (p + j) * L) % m), Nat.mod_mod, ← Nat.add_mod, ← Nat.add_assoc p j 1, Nat.succ_mul, Nat.add_assoc]
    rw [e]
    show ∃ x', (relax L (steps L m (p + j) r a).2 (((steps L m (p + j) r a).2 + L) % m) (steps L m (p + j) r a).1).getD _ none = some x' ∧ _
    have := relax_at L (steps L m (p + j) r a).2 (((steps L m (p + j) r a).2 + L) % m) (steps L m (p + j) r a).1 (by rw [hlen]; exact Nat.mod_lt _ hm)
    obtain ⟨x', hx', h2⟩ := this (x + L) (by rw [hp, hx]; rfl)
    exact ⟨x', hx', by rw [Nat.succ_mul]; omega⟩

/-! ### Bezout -/
theorem bezout (a b : Nat) : ∃ x y : Int, x * a + y * b = (Nat.gcd a b : Int) := by
  induction a, b using Nat.gcd.induction with
  | H0 n => exact ⟨0, 1, by simp⟩
  | H1 m n hm ih =>
    obtain ⟨x, y, h⟩ := ih
    refine ⟨y - x * ((n / m : Nat) : Int), x, ?_⟩
    rw [Nat.gcd_rec m n, ← h]
    have e : (n : Int) = (m : Int) * ((n / m : Nat) : Int) + ((n % m : Nat) : Int) := by
      have := Nat.div_add_mod n m
      exact_mod_cast this.symm
    conv => lhs; rw [e]
    rw [Int.sub_mul, Int.mul_add, Int.mul_assoc x, Int.mul_comm (m : Int) ((n / m : Nat) : Int)]
    omega

theorem bezout_mod (m L : Nat) (hm : 0 < m) : ∃ u : Nat, (u * L) % m = Nat.gcd m L % m := by
  obtain ⟨x, y, h⟩ := bezout m L
  refine ⟨(y % m).toNat, ?_⟩
  have hm' : (m : Int) ≠ 0 := by omega
  have hy : 0 ≤ y % (m : Int) := Int.emod_nonneg _ hm'
  have e : ((((y % (m : Int)).toNat * L : Nat) : Int)) % (m : Int) = ((Nat.gcd m L : Nat) : Int) % (m : Int) := by
    rw [Int.natCast_mul, Int.toNat_of_nonneg hy, ← h, Int.mul_emod, Int.emod_emod_of_dvd _ (Int.dvd_refl _), ← Int.mul_emod, Int.add_comm, Int.add_mul_emod_self_right]
  exact_mod_cast e

/-- from the class of r the walk comes by r -/
theorem comes_by (m L r : Nat) (hm : 0 < m) (hr : r < m) : ∃ p, p < m / Nat.gcd m L ∧ (r % Nat.gcd m L + p * L) % m = r := by
  obtain ⟨u, hu⟩ := bezout_mod m L hm
  have hg : 0 < Nat.gcd m L := Nat.gcd_pos_of_pos_left _ hm
  obtain ⟨c, hc⟩ := Nat.gcd_dvd_left m L
  obtain ⟨k, hk⟩ := Nat.gcd_dvd_right m L
  generalize hgg : Nat.gcd m L = g at *
  have hcd : m / g = c := by rw [hc]; exact Nat.mul_div_cancel_left _ hg
  have hcpos : 0 < c := by
    rcases Nat.eq_zero_or_pos c with h | h
    · rw [h] at hc; omega
    · exact h
  refine ⟨(u * (r / g)) % c, by rw [hcd]; exact Nat.mod_lt _ hcpos, ?_⟩
  -- ((u (r/g)) % c) L ≡ u (r/g) L
  have e1 : ((u * (r / g)) % c * L) % m = (u * (r / g) * L) % m := by
    have d := Nat.div_add_mod (u * (r / g)) c
    have : u * (r / g) * L = (u * (r / g)) % c * L + m * ((u * (r / g)) / c * k) := by
      calc u * (r / g) * L = (c * (u * (r / g) / c) + u * (r / g) % c) * L := by rw [d]
        _ = (u * (r / g)) % c * L + c * (u * (r / g) / c) * L := by rw [Nat.add_mul, Nat.add_comm]
        _ = (u * (r / g)) % c * L + m * ((u * (r / g)) / c * k) := by
          congr 1
          conv => lhs; rw [hk]
          conv => rhs; rw [hc]
          simp only [Nat.mul_comm, Nat.mul_left_comm]
    rw [this, Nat.add_mul_mod_self_left]
  have e2 : (u * (r / g) * L) % m = (g * (r / g)) % m := by
    rw [Nat.mul_right_comm, Nat.mul_mod, hu, ← Nat.mul_mod]
  rw [Nat.add_mod, e1, e2, ← Nat.add_mod, Nat.mod_add_div, Nat.mod_eq_of_lt hr]
end Ov
namespace Ov
/-- the walks from the first k places, one behind another -/
def walks (L m T : Nat) : Nat → List (Option Nat) → List (Option Nat)
  | 0, a => a
  | k + 1, a => (steps L m T k (walks L m T k a)).1
def withLen (L : Nat) (a : List (Option Nat)) : List (Option Nat) :=
  walks L a.length (2 * (a.length / Nat.gcd a.length L)) (Nat.gcd a.length L) a

theorem walks_le (L m T : Nat) (a : List (Option Nat)) : ∀ k, leL (walks L m T k a) a
  | 0 => leL.rfl
  | k + 1 => (steps_le ..).trans (walks_le L m T a k)
theorem walks_le' (L m T : Nat) (a : List (Option Nat)) (k : Nat) : ∀ d, leL (walks L m T (k + d) a) (walks L m T k a)
  | 0 => leL.rfl
  | d + 1 => (steps_le ..).trans (walks_le' L m T a k d)
theorem walks_sound {S : Nat → Prop} {m L T : Nat} {a : List (Option Nat)} (hS : ∀ x, S x → S (x + L)) (h : Sound S m a) : ∀ k, Sound S m (walks L m T k a)
  | 0 => h
  | k + 1 => steps_sound hS (walks_sound hS h k) T

theorem withLen_len (L : Nat) (a : List (Option Nat)) : (withLen L a).length = a.length := (walks_le ..).1

/-- what stands at r goes j steps on, j less than a whole round -/
theorem withLen_far {L : Nat} {a : List (Option Nat)} (hm : 0 < a.length) {r y j : Nat} (hr : r < a.length) (hy : a.getD r none = some y) (hj : j < a.length / Nat.gcd a.length L) :
    ∃ x, (withLen L a).getD ((r + j * L) % a.length) none = some x ∧ x ≤ y + j * L := by
  obtain ⟨p, hp, e⟩ := comes_by a.length L r hm hr
  have hg : 0 < Nat.gcd a.length L := Nat.gcd_pos_of_pos_left _ hm
  unfold withLen
  generalize hT : 2 * (a.length / Nat.gcd a.length L) = T
  have hk : r % Nat.gcd a.length L < Nat.gcd a.length L := Nat.mod_lt _ hg
  generalize hk0 : r % Nat.gcd a.length L = k at *
  obtain ⟨d, hd⟩ : ∃ d, Nat.gcd a.length L = (k + 1) + d := ⟨Nat.gcd a.length L - (k + 1), by omega⟩
  have hkm : k < a.length := Nat.lt_of_lt_of_le hk (Nat.le_of_dvd hm (Nat.gcd_dvd_left _ _))
  have hb : (walks L a.length T k a).length = a.length := (walks_le ..).1
  obtain ⟨y', hy', hle⟩ := (walks_le L a.length T a k).2 r y hy
  obtain ⟨x, hx, hxy⟩ := steps_far (L := L) (m := a.length) (r := k) (a := walks L a.length T k a) hm hb hkm p (y := y') (by rw [e]; exact hy') j
  have ej : (k + (p + j) * L) % a.length = (r + j * L) % a.length := by
    rw [Nat.add_mul, ← Nat.add_assoc, Nat.add_mod, e]
    conv => rhs; rw [Nat.add_mod, Nat.mod_eq_of_lt hr]
  rw [ej] at hx
  have l1 := steps_le' L a.length k (walks L a.length T k a) (p + j) (T - (p + j))
  rw [show p + j + (T - (p + j)) = T by omega] at l1
  have l2 := walks_le' L a.length T a (k + 1) d
  rw [← hd] at l2
  obtain ⟨x2, h2, h2'⟩ := (l2.trans l1).2 _ x hx
  exact ⟨x2, h2, by omega⟩

/-- a list tells the least members of S by their remainders -/
structure Rep (S : Nat → Prop) (a : List (Option Nat)) : Prop where
  pos : 0 < a.length
  sound : Sound S a.length a
  least : ∀ s, S s → ∃ x, a.getD (s % a.length) none = some x ∧ x ≤ s

theorem Rep.one {m : Nat} (hm : 0 < m) : Rep (Sum [m]) (some 0 :: List.replicate (m - 1) none) := by
  have hl : (some 0 :: List.replicate (m - 1) (none : Option Nat)).length = m := by simp; omega
  refine ⟨by simp, fun r x h => ?_, fun s hs => ?_⟩
  · rw [hl]
    cases r with
    | zero =>
      have : some 0 = some x := h
      cases this
      exact ⟨.zero, Nat.zero_mod _⟩
    | succ r =>
      exfalso
      rw [List.getD_eq_getElem?_getD, List.getElem?_cons_succ, List.getElem?_replicate] at h
      split at h <;> simp at h
  · obtain ⟨j, rfl⟩ := Sum.single.mp hs
    rw [hl, Nat.mul_mod_left]
    exact ⟨0, rfl, Nat.zero_le _⟩

theorem Rep.more {ls : List Nat} {L m : Nat} {a : List (Option Nat)} (h : Rep (Sum ls) a) (hm : a.length = m) (hin : m ∈ ls) : Rep (Sum (ls ++ [L])) (withLen L a) := by
  have hl := withLen_len L a
  have hp := h.pos
  refine ⟨by rw [hl]; exact hp, ?_, fun s hs => ?_⟩
  · rw [hl]
    refine walks_sound (fun x hx => .add (List.mem_append_right _ (List.mem_singleton.mpr rfl)) hx) (fun r x e => ?_) _
    obtain ⟨h1, h2⟩ := h.sound r x e
    exact ⟨h1.mono fun l hl => List.mem_append_left _ hl, h2⟩
  · rw [hl]
    obtain ⟨j, t, ht, rfl⟩ := Sum.snoc.mp hs
    -- less than a whole round of L's
    have hg : 0 < Nat.gcd a.length L := Nat.gcd_pos_of_pos_left _ hp
    obtain ⟨c, hc⟩ := Nat.gcd_dvd_left a.length L
    obtain ⟨k, hk⟩ := Nat.gcd_dvd_right a.length L
    have hcd : a.length / Nat.gcd a.length L = c := by
      generalize Nat.gcd a.length L = g at *
      rw [hc]
      exact Nat.mul_div_cancel_left _ hg
    have hcpos : 0 < c := by
      rcases Nat.eq_zero_or_pos c with h | h
      · rw [h] at hc; omega
      · exact h
    have ecL : c * L = k * a.length := by
      generalize Nat.gcd a.length L = g at *
      rw [hk, hc]
      simp only [Nat.mul_comm, Nat.mul_left_comm]
    have e : t + j * L = (t + (j / c * k) * a.length) + (j % c) * L := by
      have d := Nat.div_add_mod j c
      calc t + j * L = t + (c * (j / c) + j % c) * L := by rw [d]
        _ = t + (j / c * (c * L) + j % c * L) := by
          rw [Nat.add_mul]; congr 2; rw [Nat.mul_comm c, Nat.mul_assoc]
        _ = _ := by rw [ecL]; rw [Nat.mul_assoc]; omega
    have ht' : Sum ls (t + (j / c * k) * a.length) := ht.plus (by rw [hm]; exact Sum.times hin _)
    obtain ⟨y, hy, hyt⟩ := h.least _ ht'
    obtain ⟨x, hx, hxy⟩ := withLen_far (L := L) hp (Nat.mod_lt _ hp) hy (j := j % c) (by rw [hcd]; exact Nat.mod_lt _ hcpos)
    refine ⟨x, ?_, by rw [e]; omega⟩
    rw [e]
    rw [Nat.add_mod, Nat.mod_mod, ← Nat.add_mod] at hx
    exact hx

/-- the least sums of lengths -/
def leasts : List Nat → List (Option Nat)
  | [] => []
  | m :: ls => ls.foldl (fun a L => withLen L a) (some 0 :: List.replicate (m - 1) none)

theorem fold_rep : ∀ (ls pre : List Nat) (a : List (Option Nat)) (m : Nat), Rep (Sum pre) a → a.length = m → m ∈ pre → Rep (Sum (pre ++ ls)) (ls.foldl (fun a L => withLen L a) a) ∧ (ls.foldl (fun a L => withLen L a) a).length = m
  | [], pre, a, m, h, hm, _ => by simpa using ⟨h, hm⟩
  | L :: ls, pre, a, m, h, hm, hin => by
    have := fold_rep ls (pre ++ [L]) (withLen L a) m (h.more hm hin) ((withLen_len L a).trans hm) (List.mem_append_left _ hin)
    rw [List.append_assoc] at this
    exact this

theorem leasts_rep {m : Nat} (hm : 0 < m) (ls : List Nat) : Rep (Sum (m :: ls)) (leasts (m :: ls)) ∧ (leasts (m :: ls)).length = m :=
  fold_rep ls [m] _ m (Rep.one hm) (by simp; omega) (List.mem_singleton.mpr rfl)

/-- whether a total is a sum, by the least sums -/
def reached (a : List (Option Nat)) (t : Nat) : Bool :=
  if a.length = 0 then t == 0 else match a.getD (t % a.length) none with
    | none => false
    | some x => decide (x ≤ t)

theorem Rep.iff {S : Nat → Prop} {a : List (Option Nat)} (h : Rep S a) (hc : ∀ x, S x → S (x + a.length)) (t : Nat) : reached a t = true ↔ S t := by
  unfold reached
  rw [if_neg (by have := h.pos; omega)]
  have many : ∀ (k x : Nat), S x → S (x + k * a.length) := by
    intro k
    induction k with
    | zero => intro x hx; simpa using hx
    | succ k ih => intro x hx; rw [Nat.succ_mul, ← Nat.add_assoc]; exact hc _ (ih x hx)
  constructor
  · intro e
    split at e
    · cases e
    · rename_i x hx
      obtain ⟨h1, h2⟩ := h.sound _ x hx
      have hle : x ≤ t := of_decide_eq_true e
      have : t = x + (t / a.length - x / a.length) * a.length := by
        have d1 := Nat.div_add_mod t a.length
        have d2 := Nat.div_add_mod x a.length
        rw [h2] at d2
        have hd : x / a.length ≤ t / a.length := Nat.div_le_div_right hle
        rw [Nat.sub_mul, Nat.mul_comm (t / a.length), Nat.mul_comm (x / a.length)]
        have : a.length * (x / a.length) ≤ a.length * (t / a.length) := Nat.mul_le_mul_left _ hd
        omega
      rw [this]
      exact many _ _ h1
  · intro hs
    obtain ⟨x, hx, hxt⟩ := h.least t hs
    rw [hx]
    exact decide_eq_true hxt

theorem isSum_iff (ls : List Nat) (hpos : ∀ l ∈ ls, 0 < l) (t : Nat) : reached (leasts ls) t = true ↔ Sum ls t := by
  cases ls with
  | nil =>
    show (t == 0) = true ↔ _
    constructor
    · intro h
      have : t = 0 := by simpa using h
      rw [this]; exact .zero
    · intro h
      cases h with
      | zero => rfl
      | add h _ => cases h
  | cons m ls =>
    have hm : 0 < m := hpos m List.mem_cons_self
    obtain ⟨h, hl⟩ := leasts_rep hm ls
    exact h.iff (fun x hx => by rw [hl]; exact .add List.mem_cons_self hx) t
end Ov
/-! Least sums: how great they are, and how they are found one by one; the greatest common divisor -/
namespace Ov
theorem countP_le {α : Type} {p q : α → Bool} : ∀ {l : List α}, (∀ x ∈ l, p x = true → q x = true) → l.countP p ≤ l.countP q
  | [], _ => Nat.le_refl _
  | x :: l, h => by
    have ih := countP_le (l := l) fun y hy => h y (List.mem_cons_of_mem _ hy)
    have hx := h x List.mem_cons_self
    rw [List.countP_cons, List.countP_cons]
    cases hp : p x
    · simp only [Bool.false_eq_true, if_false]
      omega
    · rw [hx hp]; omega
theorem countP_lt {α : Type} {p q : α → Bool} : ∀ {l : List α} (x : α), x ∈ l → p x = false → q x = true → (∀ x ∈ l, p x = true → q x = true) → l.countP p < l.countP q
  | [], _, hx, _, _, _ => by cases hx
  | y :: l, x, hx, h1, h2, h => by
    rw [List.countP_cons, List.countP_cons]
    have hy := h y List.mem_cons_self
    rcases List.mem_cons.mp hx with e | hx
    · subst e
      have ih := countP_le (l := l) fun y hy => h y (List.mem_cons_of_mem _ hy)
      rw [h1, h2]
      simp only [Bool.false_eq_true, if_false, if_true]
      omega
    · have ih := countP_lt x hx h1 h2 fun y hy => h y (List.mem_cons_of_mem _ hy)
      cases hp : p y
      · simp only [Bool.false_eq_true, if_false]
        omega
      · rw [hy hp]; omega
/-- an entry below x -/
def below (x : Nat) : Option Nat → Bool
  | some y => decide (y < x)
  | none => false
theorem mem_of_getD {a : List (Option Nat)} {r x : Nat} (h : a.getD r none = some x) : some x ∈ a := by
  rw [List.getD_eq_getElem?_getD] at h
  cases e : a[r]? with
  | none => rw [e] at h; cases h
  | some o =>
    rw [e] at h
    have : o = some x := h
    rw [← this]
    exact List.mem_of_getElem? e
theorem rank_bound {ls : List Nat} {a : List (Option Nat)} (h : Rep (Sum ls) a) {M : Nat} (hM : ∀ l ∈ ls, 0 < l ∧ l ≤ M) : ∀ (x r : Nat), a.getD r none = some x → x ≤ a.countP (below x) * M := by
  intro x
  induction x using Nat.strongRecOn with
  | ind x ih =>
    intro r hr
    rcases Nat.eq_zero_or_pos x with h0 | h0
    · omega
    obtain ⟨sx, rx⟩ := h.sound r x hr
    rcases Sum.step.mp sx with h1 | ⟨l, hl, hlx, sy⟩
    · omega
    obtain ⟨l0, lM⟩ := hM l hl
    obtain ⟨z, hz, hzy⟩ := h.least _ sy
    obtain ⟨sz, rz⟩ := h.sound _ z hz
    have ezy : z = x - l := by
      rcases Nat.lt_or_ge z (x - l) with c | c
      · exfalso
        obtain ⟨x', hx', hle⟩ := h.least (z + l) (.add hl sz)
        have em : (z + l) % a.length = r := by
          rw [Nat.add_mod, rz, ← Nat.add_mod, Nat.sub_add_cancel hlx, rx]
        rw [em, hr] at hx'
        have : x = x' := Option.some.inj hx'
        omega
      · omega
    subst ezy
    have hy := ih (x - l) (by omega) _ hz
    have hlt : a.countP (below (x - l)) < a.countP (below x) := by
      refine countP_lt (some (x - l)) (mem_of_getD hz) ?_ ?_ ?_
      · exact decide_eq_false (Nat.lt_irrefl _)
      · exact decide_eq_true (by omega)
      · intro o _ ho
        cases o with
        | none => cases ho
        | some y =>
          have := of_decide_eq_true ho
          exact decide_eq_true (by omega)
    have := Nat.mul_le_mul_right M (Nat.succ_le_of_lt hlt)
    rw [Nat.succ_mul] at this
    omega
theorem least_le {ls : List Nat} {a : List (Option Nat)} (h : Rep (Sum ls) a) {M : Nat} (hM : ∀ l ∈ ls, 0 < l ∧ l ≤ M) {x r : Nat} (hr : a.getD r none = some x) : x ≤ (a.length - 1) * M := by
  have h1 := rank_bound h hM x r hr
  have h2 : a.countP (below x) < a.length := by
    have : a.countP (below x) < a.countP (fun _ => true) := countP_lt (some x) (mem_of_getD hr) (decide_eq_false (Nat.lt_irrefl _)) rfl fun _ _ _ => rfl
    rwa [List.countP_true] at this
  exact Nat.le_trans h1 (Nat.mul_le_mul_right M (by omega))
/-! ### found one by one -/
def cutO (i : Nat) : Option Nat → Option Nat
  | some x => if x < i then some x else none
  | none => none
theorem cutO_lt {i x : Nat} (h : x < i) : cutO i (some x) = some x := if_pos h
theorem cutO_ge {i x : Nat} (h : ¬ x < i) : cutO i (some x) = none := if_neg h
def seen (i : Nat) (a : List (Option Nat)) : List (Option Nat) := a.map (cutO i)
theorem seen_len (i : Nat) (a : List (Option Nat)) : (seen i a).length = a.length := List.length_map ..
theorem seen_zero (a : List (Option Nat)) : seen 0 a = List.replicate a.length none := by
  unfold seen
  rw [List.eq_replicate_iff]
  refine ⟨List.length_map .., fun o ho => ?_⟩
  obtain ⟨x, _, rfl⟩ := List.mem_map.mp ho
  cases x with
  | none => rfl
  | some x => exact cutO_ge (Nat.not_lt_zero _)
theorem seen_at (i : Nat) (a : List (Option Nat)) (r : Nat) : (seen i a).getD r none = cutO i (a.getD r none) := by
  unfold seen
  rw [List.getD_eq_getElem?_getD, List.getD_eq_getElem?_getD, List.getElem?_map]
  cases a[r]? <;> rfl
theorem ext_getD {a b : List (Option Nat)} (hl : a.length = b.length) (h : ∀ r, r < a.length → a.getD r none = b.getD r none) : a = b := by
  refine List.ext_getElem hl fun i h1 h2 => ?_
  have := h i h1
  rw [List.getD_eq_getElem?_getD, List.getD_eq_getElem?_getD, List.getElem?_eq_getElem h1, List.getElem?_eq_getElem h2] at this
  exact this
theorem seen_set {S : Nat → Prop} {a : List (Option Nat)} (h : Rep S a) {i : Nat} (hs : S i) (hn : (seen i a).getD (i % a.length) none = none) : (seen i a).set (i % a.length) (some i) = seen (i + 1) a := by
  obtain ⟨x, hx, hxi⟩ := h.least i hs
  rw [seen_at, hx] at hn
  have ex : x = i := by
    by_cases c : x < i
    · rw [cutO_lt c] at hn; cases hn
    · omega
  subst ex
  refine ext_getD (by rw [List.length_set, seen_len, seen_len]) fun r hr => ?_
  rw [List.length_set, seen_len] at hr
  rw [getD_set, seen_at, seen_at, seen_len]
  by_cases c : x % a.length = r
  · subst c
    rw [if_pos ⟨rfl, hr⟩, hx]
    exact (cutO_lt (Nat.lt_succ_self _)).symm
  · rw [if_neg fun z => c z.1]
    cases e : a.getD r none with
    | none => rfl
    | some y =>
      have hy := (h.sound r y e).2
      have : y ≠ x := fun z => c (by rw [← z]; exact hy)
      by_cases d : y < x
      · rw [cutO_lt d, cutO_lt (show y < x + 1 by omega)]
      · rw [cutO_ge d, cutO_ge (show ¬ y < x + 1 by omega)]
theorem seen_keep {S : Nat → Prop} {a : List (Option Nat)} (h : Rep S a) {i : Nat} (hn : S i → (seen i a).getD (i % a.length) none ≠ none) : seen i a = seen (i + 1) a := by
  refine ext_getD (by rw [seen_len, seen_len]) fun r hr => ?_
  rw [seen_at, seen_at]
  cases e : a.getD r none with
  | none => rfl
  | some y =>
    obtain ⟨sy, ry⟩ := h.sound r y e
    have : y ≠ i := fun z => by
      subst z
      refine hn sy ?_
      rw [seen_at, ry, e]
      exact cutO_ge (Nat.lt_irrefl _)
    by_cases d : y < i
    · rw [cutO_lt d, cutO_lt (show y < i + 1 by omega)]
    · rw [cutO_ge d, cutO_ge (show ¬ y < i + 1 by omega)]
theorem seen_all {a : List (Option Nat)} {M : Nat} (h : ∀ r x, a.getD r none = some x → x ≤ M) : seen (M + 1) a = a := by
  refine ext_getD (seen_len ..) fun r hr => ?_
  rw [seen_at]
  cases e : a.getD r none with
  | none => rfl
  | some y => exact cutO_lt (Nat.lt_succ_of_le (h r y e))
/-! ### the greatest common divisor -/
def gcdAll (ls : List Nat) : Nat := ls.foldl Nat.gcd 0
theorem foldl_gcd_dvd : ∀ (ls : List Nat) (g : Nat), ls.foldl Nat.gcd g ∣ g ∧ ∀ l ∈ ls, ls.foldl Nat.gcd g ∣ l
  | [], g => ⟨Nat.dvd_refl _, (fun _ h => nomatch h)⟩
  | l :: ls, g => by
    obtain ⟨h1, h2⟩ := foldl_gcd_dvd ls (Nat.gcd g l)
    refine ⟨Nat.dvd_trans h1 (Nat.gcd_dvd_left g l), fun x hx => ?_⟩
    rcases List.mem_cons.mp hx with rfl | hx
    · exact Nat.dvd_trans h1 (Nat.gcd_dvd_right _ _)
    · exact h2 x hx
theorem dvd_foldl_gcd {d : Nat} : ∀ (ls : List Nat) (g : Nat), d ∣ g → (∀ l ∈ ls, d ∣ l) → d ∣ ls.foldl Nat.gcd g
  | [], g, h, _ => h
  | l :: ls, g, h, k => dvd_foldl_gcd ls (Nat.gcd g l) (Nat.dvd_gcd h (k l List.mem_cons_self)) fun x hx => k x (List.mem_cons_of_mem _ hx)
theorem gcdAll_dvd {ls : List Nat} {l : Nat} (h : l ∈ ls) : gcdAll ls ∣ l := (foldl_gcd_dvd ls 0).2 l h
theorem dvd_gcdAll {ls : List Nat} {d : Nat} (h : ∀ l ∈ ls, d ∣ l) : d ∣ gcdAll ls := dvd_foldl_gcd ls 0 (Nat.dvd_zero d) h
/-- those below n that pass, where the greatest that passes is g -/
theorem filter_top {p : Nat → Bool} {g : Nat} (hg : p g = true) (hno : ∀ i, g < i → p i = false) : ∀ n, g < n → (List.range n).filter p = (List.range g).filter p ++ [g]
  | 0, h => by omega
  | n + 1, h => by
    rw [List.range_succ, List.filter_append]
    by_cases e : g = n
    · subst e
      rw [List.filter_cons, hg]
      rfl
    · rw [filter_top hg hno n (by omega), List.filter_cons, hno n (by omega)]
      simp
end Ov
/-! Conductors and gaps -/
namespace Ov
theorem res_step {all : List Nat} {m : Nat} (hm : 0 < m) : ∀ (rest : List Nat) (g A : Nat), Sum all A → A % m = g % m → (∀ l ∈ rest, l ∈ all) → ∃ B, Sum all B ∧ B % m = (rest.foldl Nat.gcd g) % m
  | [], g, A, hA, e, _ => ⟨A, hA, e⟩
  | l :: rest, g, A, hA, e, hl => by
    obtain ⟨x, y, h⟩ := bezout g l
    have hm' : (m : Int) ≠ 0 := by omega
    have hx : 0 ≤ x % (m : Int) := Int.emod_nonneg _ hm'
    have hy : 0 ≤ y % (m : Int) := Int.emod_nonneg _ hm'
    have many : ∀ (k s : Nat), Sum all s → Sum all (k * s) := fun k s hs => by
      induction k with
      | zero => rw [Nat.zero_mul]; exact .zero
      | succ k ih => rw [Nat.succ_mul]; exact ih.plus hs
    refine res_step hm rest (Nat.gcd g l) ((x % (m : Int)).toNat * A + (y % (m : Int)).toNat * l) ((many _ _ hA).plus (Sum.times (hl l List.mem_cons_self) _)) ?_ fun z hz => hl z (List.mem_cons_of_mem _ hz)
    have e' : (A : Int) % (m : Int) = (g : Int) % (m : Int) := by exact_mod_cast e
    have key : ((((x % (m : Int)).toNat * A + (y % (m : Int)).toNat * l : Nat) : Int)) % (m : Int) = ((Nat.gcd g l : Nat) : Int) % (m : Int) := by
      rw [Int.natCast_add, Int.natCast_mul, Int.natCast_mul, Int.toNat_of_nonneg hx, Int.toNat_of_nonneg hy, ← h]
      rw [Int.add_emod, Int.mul_emod (x % m), Int.emod_emod_of_dvd _ (Int.dvd_refl _), e', ← Int.mul_emod, Int.mul_emod (y % m), Int.emod_emod_of_dvd _ (Int.dvd_refl _), ← Int.mul_emod, ← Int.add_emod]
    exact_mod_cast key
theorem res_all {m : Nat} {rest : List Nat} (hm : 0 < m) (hg : gcdAll (m :: rest) = 1) (r : Nat) : ∃ s, Sum (m :: rest) s ∧ s % m = r % m := by
  have e0 : gcdAll (m :: rest) = rest.foldl Nat.gcd m := by
    unfold gcdAll
    rw [List.foldl_cons, Nat.gcd_zero_left]
  obtain ⟨B, hB, eB⟩ := res_step (all := m :: rest) hm rest m m (by have := Sum.times (ls := m :: rest) (List.mem_cons_self (a := m) (l := rest)) 1; rwa [Nat.one_mul] at this) rfl fun l hl => List.mem_cons_of_mem _ hl
  rw [← e0, hg] at eB
  refine ⟨r * B, ?_, ?_⟩
  · induction r with
    | zero => rw [Nat.zero_mul]; exact .zero
    | succ r ih => rw [Nat.succ_mul]; exact ih.plus hB
  · rw [Nat.mul_mod, eB, ← Nat.mul_mod, Nat.mul_one]
/-- every remainder is reached: the list holds numbers alone -/
theorem rep_full {m : Nat} {rest : List Nat} (hm : 0 < m) (hg : gcdAll (m :: rest) = 1) {a : List (Option Nat)} (h : Rep (Sum (m :: rest)) a) (hl : a.length = m) : ∃ xs : List Nat, a = xs.map some ∧ xs.length = m ∧ ∀ (r : Nat) (hr : r < xs.length), xs[r] % m = r ∧ Sum (m :: rest) xs[r] := by
  have hall : ∀ (r : Nat) (hr : r < a.length), ∃ x, a[r] = some x := fun r hr => by
    obtain ⟨s, hs, e⟩ := res_all hm hg r
    obtain ⟨x, hx, _⟩ := h.least s hs
    rw [hl, e, Nat.mod_eq_of_lt (by omega), List.getD_eq_getElem?_getD, List.getElem?_eq_getElem hr] at hx
    exact ⟨x, hx⟩
  have e : a = (a.map fun o => o.getD 0).map some := by
    refine List.ext_getElem (by simp) fun i h1 h2 => ?_
    obtain ⟨x, hx⟩ := hall i h1
    simp [hx]
  refine ⟨a.map fun o => o.getD 0, e, by rw [List.length_map, hl], fun r hr => ?_⟩
  rw [List.length_map] at hr
  obtain ⟨x, hx⟩ := hall r hr
  obtain ⟨s1, s2⟩ := h.sound r x (by rw [List.getD_eq_getElem?_getD, List.getElem?_eq_getElem hr, hx]; rfl)
  rw [hl] at s2
  have ex : (a.map fun o => o.getD 0)[r]'(by rw [List.length_map]; exact hr) = x := by simp [hx]
  rw [ex]
  exact ⟨s2, s1⟩
theorem sum_iff_le {m : Nat} {rest : List Nat} (hm : 0 < m) {xs : List Nat} (h : Rep (Sum (m :: rest)) (xs.map some)) (hl : xs.length = m) (w : Nat) (hw : w % m < xs.length) : Sum (m :: rest) w ↔ xs[w % m] ≤ w := by
  have := h.iff (fun x hx => by rw [List.length_map, hl]; exact .add List.mem_cons_self hx) w
  rw [← this]
  unfold reached
  rw [List.length_map, hl, if_neg (by omega), List.getD_eq_getElem?_getD, List.getElem?_map, List.getElem?_eq_getElem hw]
  show decide (xs[w % m] ≤ w) = true ↔ _
  exact decide_eq_true_iff
/-! ### the greatest -/
theorem foldl_max_ge : ∀ (l : List Nat) (n : Nat), n ≤ l.foldl max n ∧ ∀ x ∈ l, x ≤ l.foldl max n
  | [], n => ⟨Nat.le_refl _, (fun _ h => nomatch h)⟩
  | y :: l, n => by
    obtain ⟨h1, h2⟩ := foldl_max_ge l (max n y)
    refine ⟨Nat.le_trans (Nat.le_max_left n y) h1, fun x hx => ?_⟩
    rcases List.mem_cons.mp hx with rfl | hx
    · exact Nat.le_trans (Nat.le_max_right n x) h1
    · exact h2 x hx
theorem foldl_max_mem : ∀ (l : List Nat) (n : Nat), l.foldl max n = n ∨ l.foldl max n ∈ l
  | [], n => .inl rfl
  | y :: l, n => by
    rcases foldl_max_mem l (max n y) with h | h
    · rw [List.foldl_cons, h]
      rcases Nat.le_total n y with c | c
      · rw [Nat.max_eq_right c]; exact .inr List.mem_cons_self
      · rw [Nat.max_eq_left c]; exact .inl rfl
    · exact .inr (List.mem_cons_of_mem _ h)
def top' : List Nat → Nat
  | [] => 0
  | x :: l => l.foldl max x
theorem top_ge {l : List Nat} {x : Nat} (h : x ∈ l) : x ≤ top' l := by
  cases l with
  | nil => cases h
  | cons y l =>
    rcases List.mem_cons.mp h with rfl | h
    · exact (foldl_max_ge l _).1
    · exact (foldl_max_ge l _).2 x h
theorem top_mem {l : List Nat} (h : l ≠ []) : top' l ∈ l := by
  cases l with
  | nil => exact absurd rfl h
  | cons y l =>
    rcases foldl_max_mem l y with e | e
    · show l.foldl max y ∈ _
      rw [e]; exact List.mem_cons_self
    · exact List.mem_cons_of_mem _ e
/-! ### gaps -/
/-- so many below N, of those with remainder r, are below x -/
def cnt (m N r x : Nat) : Nat := (min N x + (m - 1 - r)) / m
theorem cnt_step {m N r x : Nat} (hm : 0 < m) (hr : r < m) (hx : x % m = r) : cnt m (N + 1) r x = cnt m N r x + (if N % m = r ∧ N < x then 1 else 0) := by
  unfold cnt
  by_cases c : N < x
  · rw [Nat.min_eq_left (show N + 1 ≤ x from c), Nat.min_eq_left (Nat.le_of_lt c), show N + 1 + (m - 1 - r) = (N + (m - 1 - r)) + 1 by omega, Nat.succ_div]
    have e : m ∣ N + (m - 1 - r) + 1 ↔ N % m = r := by
      rw [show N + (m - 1 - r) + 1 = N + (m - r) by omega]
      constructor
      · intro ⟨k, hk⟩
        have h1 : N = (k - 1) * m + r := by
          have hk0 : 0 < k := by
            rcases Nat.eq_zero_or_pos k with z | z
            · rw [z] at hk; omega
            · exact z
          have : m * k = m * (k - 1) + m := by
            rw [← Nat.mul_succ]
            congr 1
            omega
          rw [Nat.mul_comm (k - 1) m]
          omega
        rw [h1, Nat.add_comm, Nat.add_mul_mod_self_right, Nat.mod_eq_of_lt hr]
      · intro h
        refine ⟨N / m + 1, ?_⟩
        have d := Nat.div_add_mod N m
        rw [h] at d
        rw [Nat.mul_succ]
        omega
    by_cases d : N % m = r
    · rw [if_pos (e.mpr d), if_pos ⟨d, c⟩]
    · rw [if_neg (fun z => d (e.mp z)), if_neg (fun z => d z.1)]
  · rw [Nat.min_eq_right (show x ≤ N + 1 by omega), Nat.min_eq_right (show x ≤ N by omega), if_neg (fun z => c z.2)]
    rfl
theorem cnt_end {m N r x : Nat} (hm : 0 < m) (hr : r < m) (hx : x % m = r) (hN : x ≤ N) : cnt m N r x = x / m := by
  unfold cnt
  rw [Nat.min_eq_right hN]
  have d := Nat.div_add_mod x m
  rw [hx] at d
  rw [show x + (m - 1 - r) = (m - 1) + x / m * m by rw [Nat.mul_comm]; omega, Nat.add_mul_div_right _ _ hm, Nat.div_eq_of_lt (by omega), Nat.zero_add]
theorem cnt_zero {m r x : Nat} (hm : 0 < m) : cnt m 0 r x = 0 := by
  unfold cnt
  rw [Nat.zero_min, Nat.zero_add]
  exact Nat.div_eq_of_lt (by omega)
theorem sum_zero : ∀ {l : List Nat}, (∀ x ∈ l, x = 0) → l.sum = 0
  | [], _ => rfl
  | x :: l, h => by
    rw [List.sum_cons, h x List.mem_cons_self, sum_zero fun y hy => h y (List.mem_cons_of_mem _ hy)]
theorem sum_one (j y : Nat) (f : Nat → Bool) : ∀ n, j < n → ((List.range n).map fun r => if j = r ∧ f r = true then 1 else 0).sum = if f j = true then 1 else 0
  | 0, h => by omega
  | n + 1, h => by
    rw [List.range_succ, List.map_append, List.sum_append]
    by_cases e : j = n
    · subst e
      have z : ((List.range j).map fun r => if j = r ∧ f r = true then 1 else 0).sum = 0 := by
        apply sum_zero
        intro x hx
        obtain ⟨r, hr, rfl⟩ := List.mem_map.mp hx
        have := List.mem_range.mp hr
        rw [if_neg (fun z => by omega)]
      rw [z]
      by_cases c : f j = true <;> simp [c]
    · rw [sum_one j y f n (by omega)]
      simp [e]
theorem map_sum_add (f g : Nat → Nat) : ∀ l : List Nat, (l.map fun r => f r + g r).sum = (l.map f).sum + (l.map g).sum
  | [] => rfl
  | x :: l => by
    rw [List.map_cons, List.map_cons, List.map_cons, List.sum_cons, List.sum_cons, List.sum_cons, map_sum_add f g l]
    omega
/-- the gaps below N, counted by remainders -/
theorem gaps_cnt {m : Nat} (hm : 0 < m) {xs : List Nat} (hl : xs.length = m) (hx : ∀ (r : Nat) (hr : r < xs.length), xs[r] % m = r) (p : Nat → Bool) (hp : ∀ w (h : w % m < xs.length), p w = decide (w < xs[w % m])) :
    ∀ N, ((List.range N).filter p).length = ((List.range m).map fun r => cnt m N r (xs.getD r 0)).sum
  | 0 => by
    have : ((List.range m).map fun r => cnt m 0 r (xs.getD r 0)).sum = 0 := by
      apply sum_zero
      intro x hx
      obtain ⟨r, _, rfl⟩ := List.mem_map.mp hx
      exact cnt_zero hm
    rw [this]; rfl
  | N + 1 => by
    have ih := gaps_cnt hm hl hx p hp N
    rw [List.range_succ, List.filter_append, List.length_append, ih]
    have e1 : ((List.range m).map fun r => cnt m (N + 1) r (xs.getD r 0)) = (List.range m).map fun r => cnt m N r (xs.getD r 0) + (if N % m = r ∧ decide (N < xs.getD r 0) = true then 1 else 0) := by
      refine List.map_congr_left fun r hr => ?_
      have hrm := List.mem_range.mp hr
      have hg : xs.getD r 0 = xs[r]'(by omega) := by rw [List.getD_eq_getElem?_getD, List.getElem?_eq_getElem (by omega)]; rfl
      rw [cnt_step hm hrm (by rw [hg]; exact hx r (by omega))]
      simp only [decide_eq_true_eq]
    rw [e1, map_sum_add, sum_one (N % m) 0 (fun r => decide (N < xs.getD r 0)) m (Nat.mod_lt _ hm)]
    congr 1
    have hw : N % m < xs.length := by rw [hl]; exact Nat.mod_lt _ hm
    have hg : xs.getD (N % m) 0 = xs[N % m] := by rw [List.getD_eq_getElem?_getD, List.getElem?_eq_getElem hw]; rfl
    rw [List.filter_cons, hp N hw, hg]
    by_cases c : N < xs[N % m] <;> simp [c]
theorem range_getD (xs : List Nat) (f : Nat → Nat) : ((List.range xs.length).map fun r => f (xs.getD r 0)) = xs.map f := by
  refine List.ext_getElem (by simp) fun i h1 h2 => ?_
  have hi : i < xs.length := by simpa using h2
  simp [hi]
theorem gaps_len {m : Nat} (hm : 0 < m) {xs : List Nat} (hl : xs.length = m) (hx : ∀ (r : Nat) (hr : r < xs.length), xs[r] % m = r) (p : Nat → Bool) (hp : ∀ w (h : w % m < xs.length), p w = decide (w < xs[w % m])) {N : Nat} (hN : ∀ x ∈ xs, x ≤ N) :
    ((List.range N).filter p).length = (xs.map (· / m)).sum := by
  rw [gaps_cnt hm hl hx p hp N]
  have : ((List.range m).map fun r => cnt m N r (xs.getD r 0)) = (List.range xs.length).map fun r => (xs.getD r 0) / m := by
    rw [hl]
    refine List.map_congr_left fun r hr => ?_
    have hrm := List.mem_range.mp hr
    have hg : xs.getD r 0 = xs[r]'(by omega) := by rw [List.getD_eq_getElem?_getD, List.getElem?_eq_getElem (by omega)]; rfl
    rw [hg]
    exact cnt_end hm hrm (hx r (by omega)) (hN _ (List.getElem_mem _))
  rw [this, range_getD xs (· / m)]
/-- the last gap, or none -/
theorem gaps_last {m : Nat} (hm : 0 < m) {xs : List Nat} (hl : xs.length = m) (hx : ∀ (r : Nat) (hr : r < xs.length), xs[r] % m = r) (p : Nat → Bool) (hp : ∀ w (h : w % m < xs.length), p w = decide (w < xs[w % m])) {N : Nat} (hN : ∀ x ∈ xs, x ≤ N) :
    (top' xs < m ∧ top' xs + 1 = m ∧ (List.range N).filter p = []) ∨ (m ≤ top' xs ∧ (List.range N).filter p = (List.range (top' xs - m)).filter p ++ [top' xs - m]) := by
  have hne : xs ≠ [] := fun z => by rw [z] at hl; exact absurd hl (by simp; omega)
  have htm := top_mem hne
  obtain ⟨r, hr, er⟩ := List.mem_iff_getElem.mp htm
  have hmod : top' xs % m = r := by rw [← er]; exact hx r hr
  have gap : ∀ w, p w = true → w + m ≤ top' xs := fun w hw => by
    have hwm : w % m < xs.length := by rw [hl]; exact Nat.mod_lt _ hm
    rw [hp w hwm] at hw
    have h1 := of_decide_eq_true hw
    have h2 := hx (w % m) hwm
    have h3 := top_ge (List.getElem_mem hwm)
    have d1 := Nat.div_add_mod w m
    have d2 := Nat.div_add_mod xs[w % m] m
    rw [h2] at d2
    have h4 : w / m < xs[w % m] / m := by
      rcases Nat.lt_or_ge (w / m) (xs[w % m] / m) with c | c
      · exact c
      · have := Nat.mul_le_mul_left m c
        omega
    have h5 : m * (w / m + 1) ≤ m * (xs[w % m] / m) := Nat.mul_le_mul_left m h4
    rw [Nat.mul_succ] at h5
    omega
  rcases Nat.lt_or_ge (top' xs) m with c | c
  · refine .inl ⟨c, ?_, ?_⟩
    · have h1 := hx (m - 1) (by omega)
      have h2 := top_ge (List.getElem_mem (show m - 1 < xs.length by omega))
      have h3 : m - 1 ≤ xs[m - 1]'(by omega) := by
        have h4 := Nat.mod_le (xs[m - 1]'(by omega)) m
        omega
      omega
    · rw [List.filter_eq_nil_iff]
      intro w _ hw
      have := gap w hw
      omega
  · refine .inr ⟨c, filter_top ?_ (fun i hi => ?_) N ?_⟩
    · have hw : (top' xs - m) % m = r := by
        rw [← hmod]
        conv => rhs; rw [← Nat.sub_add_cancel c, Nat.add_mod_right]
      rw [hp _ (by rw [hw]; exact hr)]
      refine decide_eq_true ?_
      have same : ∀ (i : Nat) (hi : i < xs.length), i = r → xs[i] = top' xs := fun i hi e => by subst e; exact er
      have := same _ (by rw [hw]; exact hr) hw
      omega
    · cases e : p i with
      | false => rfl
      | true =>
        have := gap i e
        omega
    · have := hN _ htm
      omega
end Ov
/-! ### decoding: countdowns and starts, byte by byte -/
namespace Ov
section
variable (la : Int → Nat)
/-- what a byte makes of a countdown -/
def cdStep : Option Nat → Int → Option Nat
  | none, _ => none
  | some 0, b => if la b = 0 then none else some (la b - 1)
  | some (l + 1), _ => some l
def cdEnd (s : Option Nat) (bs : List Int) : Option Nat := bs.foldl (cdStep la) s
def stF (k : Nat) (s : Option Nat) : List Int → List Nat
  | [] => []
  | b :: bs => (if s = some 0 ∧ 0 < la b then [k] else []) ++ stF (k + 1) (cdStep la s b) bs
/-- the offset of the invalid byte -/
def spF (k : Nat) (s : Option Nat) : List Int → Option Nat
  | [] => none
  | b :: bs => if s = some 0 ∧ la b = 0 then some k else spF (k + 1) (cdStep la s b) bs
variable {la}
theorem cdEnd_nil (s : Option Nat) : cdEnd la s [] = s := rfl
theorem cdEnd_cons (s : Option Nat) (b : Int) (bs : List Int) : cdEnd la s (b :: bs) = cdEnd la (cdStep la s b) bs := rfl
theorem cdEnd_app (s : Option Nat) (as bs : List Int) : cdEnd la s (as ++ bs) = cdEnd la (cdEnd la s as) bs := by
  unfold cdEnd; rw [List.foldl_append]
theorem stF_app (k : Nat) (s : Option Nat) (as bs : List Int) : stF la k s (as ++ bs) = stF la k s as ++ stF la (k + as.length) (cdEnd la s as) bs := by
  induction as generalizing k s with
  | nil => rfl
  | cons a as ih =>
    show _ ++ stF la (k + 1) _ (as ++ bs) = (_ ++ stF la (k + 1) _ as) ++ _
    rw [ih, List.append_assoc, List.length_cons, cdEnd_cons, show k + 1 + as.length = k + (as.length + 1) by omega]
theorem stF_one (k : Nat) (s : Option Nat) (b : Int) : stF la k s [b] = if s = some 0 ∧ 0 < la b then [k] else [] := by
  show (if s = some 0 ∧ 0 < la b then [k] else []) ++ [] = _
  rw [List.append_nil]
theorem stF_snoc (k : Nat) (s : Option Nat) (as : List Int) (b : Int) : stF la k s (as ++ [b]) = stF la k s as ++ if cdEnd la s as = some 0 ∧ 0 < la b then [k + as.length] else [] := by
  rw [stF_app, stF_one]
theorem cdEnd_snoc (s : Option Nat) (as : List Int) (b : Int) : cdEnd la s (as ++ [b]) = cdStep la (cdEnd la s as) b := cdEnd_app s as [b]
/-- bytes of an instruction that is being read -/
theorem cdEnd_pass (m : Nat) (pre post : List Int) : cdEnd la (some (pre.length + m)) (pre ++ post) = cdEnd la (some m) post := by
  induction pre with
  | nil => rw [List.length_nil, Nat.zero_add]; rfl
  | cons a pre ih =>
    rw [List.length_cons, show pre.length + 1 + m = pre.length + m + 1 by omega]
    show cdEnd la (some (pre.length + m)) (pre ++ post) = _
    exact ih
theorem stF_pass (k m : Nat) (pre post : List Int) : stF la k (some (pre.length + m)) (pre ++ post) = stF la (k + pre.length) (some m) post := by
  induction pre generalizing k with
  | nil => rw [List.length_nil, Nat.zero_add]; rfl
  | cons a pre ih =>
    rw [List.length_cons, show pre.length + 1 + m = pre.length + m + 1 by omega]
    show (if some (pre.length + m + 1) = some 0 ∧ 0 < la a then [k] else []) ++ stF la (k + 1) (some (pre.length + m)) (pre ++ post) = _
    rw [if_neg (by rintro ⟨e, _⟩; cases e), List.nil_append, ih, show k + 1 + pre.length = k + (pre.length + 1) by omega]
theorem cdEnd_none (bs : List Int) : cdEnd la none bs = none := by
  induction bs with
  | nil => rfl
  | cons b bs ih => exact ih
theorem stF_none (k : Nat) (bs : List Int) : stF la k none bs = [] := by
  induction bs generalizing k with
  | nil => rfl
  | cons b bs ih =>
    show (if (none : Option Nat) = some 0 ∧ 0 < la b then [k] else []) ++ stF la (k + 1) none bs = []
    rw [if_neg (by rintro ⟨e, _⟩; cases e), List.nil_append, ih]
theorem cd_over {o : Nat} {bs : List Int} (h : bs.length ≤ o) : cdEnd la (some o) bs = some (o - bs.length) := by
  have := cdEnd_pass (la := la) (o - bs.length) bs []
  rw [List.append_nil, show bs.length + (o - bs.length) = o by omega] at this
  exact this
theorem st_over {k o : Nat} {bs : List Int} (h : bs.length ≤ o) : stF la k (some o) bs = [] := by
  have := stF_pass (la := la) k (o - bs.length) bs []
  rw [List.append_nil, show bs.length + (o - bs.length) = o by omega] at this
  exact this
theorem split_at {bs : List Int} {o : Nat} {b : Int} (h : bs[o]? = some b) : bs = bs.take o ++ b :: bs.drop (o + 1) ∧ (bs.take o).length = o := by
  obtain ⟨hl, e⟩ := List.getElem?_eq_some_iff.mp h
  refine ⟨?_, by rw [List.length_take]; omega⟩
  rw [← e, List.getElem_cons_drop, List.take_append_drop]
theorem cd_step {bs : List Int} {o : Nat} {b : Int} (h : bs[o]? = some b) (hl : 0 < la b) : cdEnd la (some o) bs = cdEnd la (some (o + la b)) bs := by
  obtain ⟨e, l⟩ := split_at h
  have h1 := cdEnd_pass (la := la) 0 (bs.take o) (b :: bs.drop (o + 1))
  have h2 := cdEnd_pass (la := la) (la b) (bs.take o) (b :: bs.drop (o + 1))
  rw [← e, l] at h1 h2
  rw [h2, show o + 0 = o from rfl] at *
  rw [h1]
  obtain ⟨n, en⟩ : ∃ n, la b = n + 1 := ⟨la b - 1, by omega⟩
  rw [cdEnd_cons, cdEnd_cons, en]
  show cdEnd la (if la b = 0 then none else some (la b - 1)) _ = cdEnd la (some n) _
  rw [if_neg (by omega), en]
  rfl
theorem st_step {bs : List Int} {k o : Nat} {b : Int} (h : bs[o]? = some b) (hl : 0 < la b) : stF la k (some o) bs = (k + o) :: stF la k (some (o + la b)) bs := by
  obtain ⟨e, l⟩ := split_at h
  have h1 := stF_pass (la := la) k 0 (bs.take o) (b :: bs.drop (o + 1))
  have h2 := stF_pass (la := la) k (la b) (bs.take o) (b :: bs.drop (o + 1))
  rw [← e, l] at h1 h2
  rw [show o + 0 = o from rfl] at h1
  rw [h1, h2]
  obtain ⟨n, en⟩ : ∃ n, la b = n + 1 := ⟨la b - 1, by omega⟩
  show (if some 0 = some 0 ∧ 0 < la b then [k + o] else []) ++ stF la (k + o + 1) (if la b = 0 then none else some (la b - 1)) _ = (k + o) :: ((if some (la b) = some 0 ∧ 0 < la b then [k + o] else []) ++ stF la (k + o + 1) (cdStep la (some (la b)) b) _)
  rw [if_pos ⟨rfl, hl⟩, if_neg (by omega), if_neg (by rintro ⟨e, _⟩; rw [en] at e; cases e), en]
  rfl
theorem cd_stop {bs : List Int} {o : Nat} {b : Int} (h : bs[o]? = some b) (hl : la b = 0) : cdEnd la (some o) bs = none := by
  obtain ⟨e, l⟩ := split_at h
  have h1 := cdEnd_pass (la := la) 0 (bs.take o) (b :: bs.drop (o + 1))
  rw [← e, l, show o + 0 = o from rfl] at h1
  rw [h1, cdEnd_cons]
  show cdEnd la (if la b = 0 then none else some (la b - 1)) _ = none
  rw [if_pos hl, cdEnd_none]
theorem st_stop {bs : List Int} {k o : Nat} {b : Int} (h : bs[o]? = some b) (hl : la b = 0) : stF la k (some o) bs = [] := by
  obtain ⟨e, l⟩ := split_at h
  have h1 := stF_pass (la := la) k 0 (bs.take o) (b :: bs.drop (o + 1))
  rw [← e, l, show o + 0 = o from rfl] at h1
  rw [h1]
  show (if some 0 = some 0 ∧ 0 < la b then [k + o] else []) ++ stF la (k + o + 1) (if la b = 0 then none else some (la b - 1)) _ = []
  rw [if_neg (by omega), if_pos hl, stF_none]
  rfl
theorem spF_pass (k m : Nat) (pre post : List Int) : spF la k (some (pre.length + m)) (pre ++ post) = spF la (k + pre.length) (some m) post := by
  induction pre generalizing k with
  | nil => rw [List.length_nil, Nat.zero_add]; rfl
  | cons a pre ih =>
    rw [List.length_cons, show pre.length + 1 + m = pre.length + m + 1 by omega]
    show (if some (pre.length + m + 1) = some 0 ∧ la a = 0 then some k else spF la (k + 1) (some (pre.length + m)) (pre ++ post)) = _
    rw [if_neg (by rintro ⟨e, _⟩; cases e), ih, show k + 1 + pre.length = k + (pre.length + 1) by omega]
theorem sp_step {bs : List Int} {k o : Nat} {b : Int} (h : bs[o]? = some b) (hl : 0 < la b) : spF la k (some o) bs = spF la k (some (o + la b)) bs := by
  obtain ⟨e, l⟩ := split_at h
  have h1 := spF_pass (la := la) k 0 (bs.take o) (b :: bs.drop (o + 1))
  have h2 := spF_pass (la := la) k (la b) (bs.take o) (b :: bs.drop (o + 1))
  rw [← e, l] at h1 h2
  rw [show o + 0 = o from rfl] at h1
  rw [h1, h2]
  obtain ⟨n, en⟩ : ∃ n, la b = n + 1 := ⟨la b - 1, by omega⟩
  show (if some 0 = some 0 ∧ la b = 0 then some (k + o) else spF la (k + o + 1) (if la b = 0 then none else some (la b - 1)) _) = (if some (la b) = some 0 ∧ la b = 0 then some (k + o) else spF la (k + o + 1) (cdStep la (some (la b)) b) _)
  rw [if_neg (by omega), if_neg (by omega), if_neg (by rintro ⟨e, _⟩; rw [en] at e; cases e), en]
  rfl
theorem sp_stop {bs : List Int} {k o : Nat} {b : Int} (h : bs[o]? = some b) (hl : la b = 0) : spF la k (some o) bs = some (k + o) := by
  obtain ⟨e, l⟩ := split_at h
  have h1 := spF_pass (la := la) k 0 (bs.take o) (b :: bs.drop (o + 1))
  rw [← e, l, show o + 0 = o from rfl] at h1
  rw [h1]
  show (if some 0 = some 0 ∧ la b = 0 then some (k + o) else _) = _
  rw [if_pos ⟨rfl, hl⟩]
/-- an entry within the code -/
theorem cd_entry {e : Nat} {bs : List Int} (h : e ≤ bs.length) : cdEnd la (some e) bs = cdEnd la (some 0) (bs.drop e) := by
  have := cdEnd_pass (la := la) 0 (bs.take e) (bs.drop e)
  rw [List.take_append_drop, List.length_take, show min e bs.length + 0 = e by omega] at this
  exact this
theorem st_entry {e : Nat} {bs : List Int} (h : e ≤ bs.length) : stF la 0 (some e) bs = stF la e (some 0) (bs.drop e) := by
  have := stF_pass (la := la) 0 0 (bs.take e) (bs.drop e)
  rw [List.take_append_drop, List.length_take, show min e bs.length + 0 = e by omega, show 0 + min e bs.length = e by omega] at this
  exact this
/-- how a walk ends -/
structure Ended (la : Int → Nat) (bs : List Int) (e : Nat) (begun : List Nat) (fol : Nat) : Prop where
  st : begun = stF la 0 (some e) bs
  cd : cdEnd la (some e) bs = if fol < bs.length then none else some (fol - bs.length)
  stop : fol < bs.length → ∃ b, bs[fol]? = some b ∧ la b = 0
  last : bs.length < fol → e ≤ bs.length → ∃ o b, begun.getLast? = some o ∧ bs[o]? = some b ∧ fol = o + la b
  lt : ∀ o ∈ begun, o < bs.length ∧ ∃ b, bs[o]? = some b ∧ 0 < la b
  sp : fol < bs.length → spF la 0 (some e) bs = some fol
/-- a walk under way -/
structure Going (la : Int → Nat) (bs : List Int) (e : Nat) (begun : List Nat) (o : Nat) : Prop where
  st : stF la 0 (some e) bs = begun ++ stF la 0 (some o) bs
  cd : cdEnd la (some e) bs = cdEnd la (some o) bs
  last : bs.length < o → e ≤ bs.length → ∃ q b, begun.getLast? = some q ∧ bs[q]? = some b ∧ o = q + la b
  lt : ∀ q ∈ begun, q < bs.length ∧ ∃ b, bs[q]? = some b ∧ 0 < la b
  few : begun.length ≤ bs.length - e ∧ (bs.length - o) + begun.length ≤ bs.length - e
  sp : spF la 0 (some e) bs = spF la 0 (some o) bs
theorem Going.start (bs : List Int) (e : Nat) : Going la bs e [] e :=
  ⟨rfl, rfl, fun h1 h2 => absurd h1 (by omega), (fun _ h => nomatch h), by simp, rfl⟩
theorem Going.step {bs : List Int} {e o : Nat} {begun : List Nat} (g : Going la bs e begun o) {b : Int} (h : bs[o]? = some b) (hl : 0 < la b) : Going la bs e (begun ++ [o]) (o + la b) := by
  have ho := (List.getElem?_eq_some_iff.mp h).1
  refine ⟨?_, ?_, fun _ _ => ⟨o, b, by simp, h, rfl⟩, fun q hq => ?_, ?_, by rw [g.sp, sp_step h hl]⟩
  · rw [g.st, st_step h hl, Nat.zero_add, List.append_assoc]; rfl
  · rw [g.cd, cd_step h hl]
  · rcases List.mem_append.mp hq with hq | hq
    · exact g.lt q hq
    · rw [List.mem_singleton.mp hq]
      exact ⟨ho, b, h, hl⟩
  · have := g.few
    rw [List.length_append, List.length_singleton]
    omega
theorem Going.over {bs : List Int} {e o : Nat} {begun : List Nat} (g : Going la bs e begun o) (h : bs.length ≤ o) : Ended la bs e begun o :=
  ⟨by rw [g.st, st_over h, List.append_nil], by rw [g.cd, cd_over h, if_neg (by omega)], fun z => absurd z (by omega), g.last, g.lt, fun z => absurd z (by omega)⟩
theorem Going.stop {bs : List Int} {e o : Nat} {begun : List Nat} (g : Going la bs e begun o) {b : Int} (h : bs[o]? = some b) (hl : la b = 0) : Ended la bs e begun o := by
  have ho := (List.getElem?_eq_some_iff.mp h).1
  exact ⟨by rw [g.st, st_stop h hl, List.append_nil], by rw [g.cd, cd_stop h hl, if_pos ho], fun _ => ⟨b, h, hl⟩, g.last, g.lt, fun _ => by rw [g.sp, sp_stop h hl, Nat.zero_add]⟩
theorem Ended.same {bs : List Int} {e : Nat} {b1 b2 : List Nat} {f1 f2 : Nat} (h1 : Ended la bs e b1 f1) (h2 : Ended la bs e b2 f2) : b1 = b2 ∧ f1 = f2 := by
  refine ⟨h1.st.trans h2.st.symm, ?_⟩
  have c := h1.cd.symm.trans h2.cd
  by_cases p1 : f1 < bs.length
  · by_cases p2 : f2 < bs.length
    · exact Option.some.inj ((h1.sp p1).symm.trans (h2.sp p2))
    · rw [if_pos p1, if_neg p2] at c; cases c
  · by_cases p2 : f2 < bs.length
    · rw [if_neg p1, if_pos p2] at c; cases c
    · rw [if_neg p1, if_neg p2] at c
      have := Option.some.inj c
      omega
/-! ### the countdowns of all offsets -/
variable (la)
def cds (s : Option Nat) (bs : List Int) : List (Option Nat) := (List.range (bs.length + 1)).map fun i => cdEnd la s (bs.take i)
variable {la}
theorem cds_len (s : Option Nat) (bs : List Int) : (cds la s bs).length = bs.length + 1 := by
  unfold cds; rw [List.length_map, List.length_range]
theorem cds_at {s : Option Nat} {bs : List Int} {i : Nat} (h : i ≤ bs.length) : (cds la s bs)[i]? = some (cdEnd la s (bs.take i)) := by
  unfold cds
  rw [List.getElem?_map, List.getElem?_range (by omega)]
  rfl
theorem cds_one (s : Option Nat) : cds la s [] = [s] := rfl
theorem cds_snoc (s : Option Nat) (bs : List Int) (b : Int) : cds la s (bs ++ [b]) = cds la s bs ++ [cdStep la (cdEnd la s bs) b] := by
  unfold cds
  rw [List.length_append, List.length_singleton, List.range_succ, List.map_append, List.map_singleton, ← List.length_singleton (a := b), ← List.length_append, List.take_length, cdEnd_snoc]
  congr 1
  refine List.map_congr_left fun i hi => ?_
  have := List.mem_range.mp hi
  rw [List.take_append_of_le_length (by rw [List.length_append, List.length_singleton] at this; omega)]
end
end Ov
namespace Ov
open PySem PySem.Spec PyProof.Rows L2
/-! ### heaps -/
theorem same_upd {H : Hp} {p : Addr} {o : HO} (h : H p = none) : Same H (upd H p o) := fun b x e => by
  rw [upd_ne (ne_of_none e h)]
  exact e
theorem _root_.L2.Same.tup {K : PySem.W.Frag} {H H' : Hp} {a : Addr} {xs : List V} (e : Same H H') (h : SqT K H a xs) : SqT K H' a xs := by
  rcases h with (h | ⟨o, h⟩) | h
  · exact .inl (.inl (e _ _ h))
  · exact .inl (.inr ⟨o, e _ _ h⟩)
  · exact .inr h
/-- a new list in the making at D: all that stood before stands, D is new and holds acc -/
structure Mk (H H' : Hp) (D : Addr) (acc : List V) : Prop where
  same : Same H H'
  new : H D = none
  at_ : H' D = some (.lst acc)
theorem Mk.start {H : Hp} {D : Addr} (h : H D = none) : Mk H (upd H D (.lst [])) D [] := ⟨same_upd h, h, upd_same⟩
theorem Mk.put {H H' H4 : Hp} {D : Addr} {acc acc' : List V} (m : Mk H H' D acc) (s : Same H' H4) : Mk H (upd H4 D (.lst acc')) D acc' :=
  ⟨fun b o e => by rw [upd_ne (ne_of_none e m.new)]; exact s _ _ (m.same _ _ e), m.new, upd_same⟩
/-- two tuples walked abreast -/
theorem walk_zipT {K : PySem.W.Frag} {a b : Addr} {xs ys : List V} {n : Nat} (hn : n = min xs.length ys.length) : Walk (RZ.ItzT K a b) n (fun H => SqT K H a xs ∧ SqT K H b ys) (YPair (fun i => xs[i]?) (fun i => ys[i]?)) := by
  subst hn
  refine ⟨fun i _ hi q => ?_, fun _ q => ⟨xs, ys, q.1, q.2, by omega⟩, fun i H v H' _ q y => ?_⟩
  · have h1 : i < xs.length := by omega
    have h2 : i < ys.length := by omega
    exact ⟨xs, ys, xs[i], ys[i], q.1, q.2, by simp [h1], by simp [h2]⟩
  · obtain ⟨T, x, z, h1, h2, h3, h4, h5⟩ := y
    exact ⟨T, x, z, h1, h2, h3, h4 xs q.1, h5 ys q.2⟩
theorem cut1 (xs : List V) : cutV xs (some 1) none = xs.drop 1 := by
  unfold cutV
  rw [show HT.sIx xs.length 0 (some 1) = min 1 xs.length from HT.sIx_nat xs.length 0 1, HT.sIx_none]
  cases xs with
  | nil => rfl
  | cons x r =>
    rw [show min 1 (x :: r).length = 1 by
      rw [List.length_cons]
      omega]
    show (List.take ((x :: r).length - 1) r) = r
    rw [List.length_cons, Nat.add_sub_cancel]
    exact List.take_length
theorem cut1_whole {xs : List V} (h : HT.sIx xs.length 0 (some 1) = 0 ∧ HT.sIx xs.length xs.length none = xs.length) : xs = [] := by
  have h1 := h.1
  rw [show HT.sIx xs.length 0 (some 1) = min 1 xs.length from HT.sIx_nat xs.length 0 1] at h1
  cases xs with
  | nil => rfl
  | cons x r => rw [List.length_cons] at h1; omega
/-! ### targets: two names -/
theorem pg_two {X : Cx} {x y : Str} {p1 p2 pos : Pos} {kk i j : Nat} (hc : X.calm = true) (hN : X.N.Nodup) (hi : X.N[i]? = some x) (hx : Loc X.env.scope x) (hfx : X.fn x = true ∨ X.env.scope.names.lookup x = some .local) (hj : X.N[j]? = some y) (hy : Loc X.env.scope y) (hfy : X.fn y = true ∨ X.env.scope.names.lookup y = some .local) :
    PG X (.Tuple [.Name x p1, .Name y p2] kk pos) (gTup X.K 2 (gCons (gName i) (gCons (gName j) gNil))) :=
  pg_tup hc (pgs_cons (pg_name hN hi hx hfx) (pgs_cons (pg_name hN hj hy hfy) pgs_nil))
/-! ### repr of a bool, a call by keywords alone -/
section
variable {X : Cx}
def boolText (b : Bool) : Str := if b then "True" else "False"
theorem call_repr_bool : CallR X (.builtin "repr") (fun xs H Q => ∃ b, xs = [.bl b] ∧ Q (.str (boolText b)) H) := by
  intro pins s σ H xs us Q I r h
  obtain ⟨b, rfl, q⟩ := h
  obtain ⟨u, rfl, rx⟩ := vals1 r
  cases (show u = Value.bool b from rx)
  exact PySem.P.repr_of_bool ⟨.str _, H, I.tok _, ⟨_, rfl⟩, q⟩
theorem boolText_inj {a b : Bool} : boolText a = boolText b ↔ a = b := by
  cases a <;> cases b <;> decide
variable {k : Nat} {f : Addr} {fd : FuncData} {ps ks : List Str} {sp : Sp} {CX : CXT} {E : XK} {x : Str} {p pos : Pos} {kws : List PySem.Keyword} {tk : TA} {g : List Value → List Value → List Value} {gV : List V → List V → List V}
theorem pe_callK0 (F : FnOk X.prog X.w X.K X.mg X.base CX k f fd ps sp) (hr : Room k X.A) (hg : Gl X x) (hm : X.mg x = some (.ref f)) (hk : PySem.W.keepIn X.K (.ref f) = true) (hb : KBinds X.K fd ps ks g gV) (hx : Passes CX X E)
    (hkw : PK X kws tk) (hall : (backToKw pos (keywordEach kws X.env)).all (·.1.isSome) = true := by rfl) (hks : (backToKw pos (keywordEach kws X.env)).filterMap (·.1) = ks := by rfl)
    (hdb : (x == ("__debug__" : Str)) = false := by decide)
    (hpl : ((backTo pos (starEach [] X.env)).any (·.1) || (backToKw pos (keywordEach kws X.env)).any (·.1.isNone)) = false := by rfl) :
    PE X (.Call (.Name x p) [] kws pos) (tCallK sp gV E tNil tk) := by
  refine ⟨fun pins s σ H Q I h => ?_⟩
  refine wpAny_Call_Name_kw (ld_glob I hg hm ?_ hdb)
  refine PySem.W.callWith_KW0 (h₀ := X.base) I.ok.mod.kin hk hall ?_ hpl
  refine thn (hkw.run pos pins s σ H _ I h) fun ws s2 ⟨zs, H2, I2, rz, q2⟩ => ⟨I2.kIn, ?_⟩
  rw [hks]
  exact run_fnk F hr hb hx I2 .nil rz q2
end
/-- two values by keywords, in the other order -/
def swap2 {α : Type} : List α → List α → List α
  | [], [a, b] => [b, a]
  | _, _ => []
theorem swap2_len {α : Type} {us ws : List α} (h : (swap2 us ws).length = 2) : ∃ a b, us = [] ∧ ws = [a, b] := by
  match us, ws, h with
  | [], [a, b], _ => exact ⟨a, b, rfl, rfl⟩
  | [], [], h => cases h
  | [], [_], h => cases h
  | [], _ :: _ :: _ :: _, h => cases h
  | _ :: _, _, h => cases h
theorem swap2_rel {vs : List V} {us : List Value} {zs : List V} {ws : List Value} (r : Vals vs us) (rz : Vals zs ws) : Vals (swap2 vs zs) (swap2 us ws) := by
  cases r with
  | nil =>
    cases rz with
    | nil => exact .nil
    | cons r1 rz =>
      cases rz with
      | nil => exact .nil
      | cons r2 rz =>
        cases rz with
        | nil => exact .cons r2 (.cons r1 .nil)
        | cons r3 rz => exact .nil
  | cons r1 r => exact .nil
/-- the built-in names that the text leaves alone -/
structure Bi (mg : Str → Option Value) : Prop where
  isi : mg "isinstance" = none
  int : mg "int" = none
  bool : mg "bool" = none
  tuple : mg "tuple" = none
  list : mg "list" = none
  all : mg "all" = none
  any : mg "any" = none
  zip : mg "zip" = none
  len : mg "len" = none
  range : mg "range" = none
  abs : mg "abs" = none
  sorted : mg "sorted" = none
  min : mg "min" = none
  repr : mg "repr" = none
  max : mg "max" = none
  sum : mg "sum" = none
  enumerate : mg "enumerate" = none
  str : mg "str" = none
  set : mg "set" = none
  dict : mg "dict" = none
  vErr : mg "ValueError" = none
/-! ### small things -/
/-- where a def stands, and that its name tells it -/
structure Def (K : PySem.W.Frag) (mg : Str → Option Value) (x : Str) (st : Stmt) (f : Addr) (fd : FuncData) (ps : List Str) : Prop where
  fn : Fun K x x st f fd
  gl : mg x = some (.ref f)
  bi : Binds K fd ps []
theorem ixN_at {n j : Nat} (hj : j < n) : ixN n (j : Int) = some j := by
  unfold ixN
  rw [if_pos (by omega), if_pos (by omega)]
  simp
theorem flat_rep {α : Type} (x : α) : ∀ n : Nat, (List.replicate n [x]).flatten = List.replicate n x
  | 0 => rfl
  | n + 1 => by rw [List.replicate_succ, List.flatten_cons, flat_rep x n, List.replicate_succ]; rfl
theorem take_more {α : Type} {l : List α} {i : Nat} {x : α} (h : l[i]? = some x) : l.take (i + 1) = l.take i ++ [x] := by
  rw [List.take_add_one, h]; rfl
theorem all_true (n : Nat) : (List.replicate n true).all id = true := by
  rw [List.all_eq_true]
  intro x hx
  exact (List.mem_replicate.mp hx).2
end Ov
namespace Ov
open PySem PySem.Spec PyProof.Rows L2
/-! ### defs that are called where no repr is under way: what they show of lists and tuples is then known -/
/-- the promise of a def, for calls under no guard -/
structure FnG (P : Program) (w : World) (K : PySem.W.Frag) (mg : Str → Option Value) (base : Heap) (k : Nat) (f : Addr) (fd : FuncData) (ps : List Str) (sp : Sp) : Prop where
  len : ∀ vs H Q E, sp vs H Q E → vs.length = ps.length
  run : ∀ (A : Around) (outer : List Env) (s : Shared) (H : Hp) (args : Args) (us : List Value) (vs : List V) (Q : VK) (E : XK),
    A.guards = some [] → Room k A → Env0 P w K mg base A outer s H → BindsTo s fd args (ps.zip us) → Vals vs us → sp vs H Q E →
    codeAny (model P w) A (.call (.ref f) args) (CR CX0 outer P w H s Q E) s
section
variable {P : Program} {w : World} {K : PySem.W.Frag} {mg : Str → Option Value} {base : Heap}
theorem okG {x qual : Str} {st : Stmt} {f : Addr} {fd : FuncData} {N ps : List Str} {k : Nat} {sp : Sp} (F : Fun K x qual st f fd) (S : FnScope N ps (defScope st)) (len : ∀ vs H Q E, sp vs H Q E → vs.length = ps.length)
    (body : ∀ (cdv : Value) (A : Around) (outer : List Env) (s : Shared) (H : Hp) (vs : List V) (Q : VK) (E : XK), A.guards = some [] → Room k (A.deeper (envOfC qual (defScope st) s.heap.objs.size f cdv)) → sp vs H Q E →
      ∃ t, PSs (cxOf CX0 P w K mg base N qual (defScope st) f cdv A outer s H E).nox (defBody st) t ∧ t { nx := fun _ H' => Q .non H', rt := Q } (start N vs) H) :
    FnG P w K mg base (k + 1) f fd ps sp := by
  obtain ⟨oc, od, kV, doc, pm, an, cdv, ct, osl, rfl, lk, hcd⟩ := F.ex
  constructor
  · exact len
  intro A outer s H args us vs Q E gd room env bnd rel pr
  obtain ⟨t, walk, reads⟩ := body cdv A outer s H vs Q E gd (room.deeper _) pr
  have down : ∀ b o, base.get? b = some o → s.heap.get? b = some o := fun b o e => (env.bs b o e).1
  have kin := env.mod.kin.keeps down
  have kinds : ∀ y ∈ ps.zip us, (defScope st).names.lookup y.1 = some .local ∨ ((defScope st).names.lookup y.1 = some .cell ∧ ((cellsFrom (s.heap.objs.size + 1) (defScope st).names []).lookup y.1).isSome = true) := by
    rintro ⟨y, v⟩ hy
    have hm := (List.of_mem_zip hy).1
    exact (S.par y hm).imp id fun q => ⟨q, PySem.W.cellsFrom_some _ _ _ (.inl q)⟩
  refine codeAny_call_function room.depth (kin _ _ lk) rfl S.co S.gen rfl (PySem.W.codeRec_of kin hcd) (bnd _ _ _ _ (wpAny_newFunctionEnv_cells S.kind kinds ?_))
  rintro env' rfl s1 ic
  refine ⟨(env.mod.nolimit.keeps down).keeps ic.toInCall.keep, codeAny_func (wpAny_mono (walk.nox.run [] s1 (start N vs) H _ (inv_start S room.hd env (len _ _ _ _ pr) rel ic) reads) ?_ fun _ _ h => h)⟩
  intro fl s' h
  cases fl with
  | brk => obtain ⟨_, _, _, q⟩ := h; exact q.elim
  | cont => obtain ⟨_, _, _, q⟩ := h; exact q.elim
  | next => obtain ⟨_, H', J, q⟩ := h; exact ⟨.non, H', J.os, J.bare, J.base, J.hok, rfl, q⟩
  | ret u => obtain ⟨v, _, H', J, rv, q⟩ := h; exact ⟨v, H', J.os, J.bare, J.base, J.hok, rv, q⟩
/-- a def that keeps its promise anywhere keeps it there -/
theorem FnG.of {k : Nat} {f : Addr} {fd : FuncData} {ps : List Str} {sp : Sp} (F : FnOk P w K mg base CX0 k f fd ps sp) : FnG P w K mg base k f fd ps sp :=
  ⟨F.len, fun A outer s H args us vs Q E _ => F.run A outer s H args us vs Q E⟩
end
section
variable {X : Cx} {k : Nat} {f : Addr} {fd : FuncData} {ps : List Str} {sp : Sp} {x : Str} {p pos : Pos} {e : Expr} {es : List Expr} {t : TA} {ds : List Value} {dvs : List V}
/-- such a def called by its name -/
theorem pe_callG (F : FnG X.prog X.w X.K X.mg X.base k f fd ps sp) (gd : X.A.guards = some []) (room : Room k X.A) (hg : Gl X x) (hm : X.mg x = some (.ref f)) (hk : PySem.W.keepIn X.K (.ref f) = true) (bi : Binds X.K fd ps [])
    (ha : PA X (e :: es) t) (hdb : (x == ("__debug__" : Str)) = false := by decide) (he : starEach (e :: es) X.env = (false, eval e X.env) :: starEach es X.env := by rfl) (hpl : (backTo pos (starEach es X.env)).any (·.1) = false := by rfl) :
    PE X (.Call (.Name x p) (e :: es) [] pos) (tCall sp [] E0 t) := by
  constructor
  intro pins s σ H Q I h
  refine wpAny_Call_Name_kw (ld_glob I hg hm (PySem.W.callWith_K (h₀ := X.base) I.ok.mod.kin hk (thn (ha.run pos pins s σ H _ I h) ?_) he hpl) hdb)
  rintro us s1 ⟨vs, H1, I1, r, q⟩
  have pr : sp vs H1 Q E0 := by
    have z : sp (vs ++ []) H1 Q E0 := q
    rwa [List.append_nil] at z
  have hl : us.length = ps.length := by rw [← r.length]; exact F.len _ _ _ _ pr
  have bt := bi s1 us I1.kIn (by simpa using hl)
  rw [List.append_nil] at bt
  refine ⟨I1.kIn, wpAny_call (codeAny_mono (F.run X.A X.stack s1 H1 ⟨us, []⟩ us vs Q E0 gd room I1.env0 bt r pr) ?_)⟩
  intro rs s' hq
  match rs, hq with
  | .error e, hq => exact (show False from hq).elim
  | .ok (.ret u), hq => exact I1.after hq
  | .ok .next, hq => exact (show False from hq).elim
  | .ok .brk, hq => exact (show False from hq).elim
  | .ok .cont, hq => exact (show False from hq).elim
/-- what is shown of lists and tuples of any depth -/
theorem call_repr_data (gd : X.A.guards = some []) (room : Room k X.A) : CallR X (.builtin "repr") (fun xs H Q => ∃ a d, xs = [.ref a] ∧ Dp X.K H (.ref a) d ∧ d.showable = true ∧ d.hasDict = false ∧ d.depth ≤ 60 ∧ d.shown.length ≤ sizeLine ∧ Q (.str d.shown) H) := by
  intro pins s σ H xs us Q I r h
  obtain ⟨a, d, rfl, hd, sh, nod, dep, sz, q⟩ := h
  obtain ⟨u, rfl, rx⟩ := vals1 r
  cases (show u = Value.ref a from rx)
  obtain ⟨as, rd⟩ := Dp.reads I d _ _ hd rx
  have un := room.un
  refine repr_of_reads' (h₀ := s.heap) rd sh (fun z => by rw [nod] at z; cases z) gd (by omega) (fun _ _ e => e) ?_ sz
  intro h' u tk kp
  exact ⟨.str d.shown, H, I.kept (t' := tk) kp, ⟨u, rfl⟩, q⟩
end
end Ov
namespace Ov
open PySem PySem.Spec PyProof.Rows L2
/-- the law's call, from its promise under no guard -/
theorem callG {P : Program} {w : World} {K : PySem.W.Frag} {mg mb : Str → Option Value} {k : Nat} {fa a : Addr} {fd : FuncData} {x : Str} {sp : Sp} {s : Shared} {vs : List Value} {ns : List Int}
    (KX : K.In s.heap) (hns : s.heap.Ns mainGlobals mg) (hb : s.heap.Ns builtinsNs mb) (hbb : ∀ x : Str, x ≠ "__name__" → mb x = bootBuiltins x) (hlim : s.heap.NoLimit) (hg : s.gens = #[])
    (ha : s.heap.get? a = some { cls := .type "list", data := .seq vs.toArray }) (hi : IntsAre vs ns) (hl : ns.length ≤ sizeLine) (room : Room k callerA)
    (F : ∀ base : Heap, K.In base → base.Ns mainGlobals mg → FnG P w K mg base k fa fd [x] sp) (bind : ∀ (s : Shared) (u : Value), BindsTo s fd ⟨[u], []⟩ [(x, u)])
    (pr : ∀ H : Hp, SqL K H a (ns.map V.int) → sp [.ref a] H (fun v _ => v = .bl true) fun _ _ _ => False) :
    codeAny (model P w) callerA (.call (.ref fa) ⟨[.ref a], []⟩) (fun r s' => r = .ok (.ret (.bool true)) ∧ OldK s.heap s'.heap ∧ s'.os = s.os ∧ AllBare s'.gens) s := by
  have rv : Vals (ns.map V.int) vs := vals_ints hi
  -- what is tracked: the script, unless it is the module's own
  obtain ⟨H, seq, hok, only, sep, froz⟩ : ∃ H : Hp, SqL K H a (ns.map V.int) ∧ HOk P w H s.heap ∧ (∀ b, H b ≠ none → b = a) ∧ (H a ≠ none → K.lookup a = none) ∧ (∀ b u, H b = some u → ∃ o xs, u = .frz o (.lst xs)) := by
    cases hk : K.lookup a with
    | some o =>
      have e : o = { cls := .type "list", data := .seq vs.toArray } := Option.some.inj ((KX a o hk).symm.trans ha)
      subst e
      exact ⟨fun _ => none, .inr ⟨_, vs.toArray, _, hk, rfl, rfl, rfl, by rw [List.size_toArray, hi.length]; exact hl, by simpa using rv⟩, (fun _ _ z => nomatch z), (fun _ z => absurd rfl z), (fun z => absurd rfl z), (fun _ _ z => nomatch z)⟩
    | none =>
      refine ⟨fun b => if b = a then some (.frz { cls := .type "list", data := .seq vs.toArray } (.lst (ns.map V.int))) else none, .inl (.inr ⟨_, if_pos rfl⟩), ?_, ?_, fun _ => rfl, ?_⟩
      · intro b u z
        by_cases e : b = a
        · subst e
          have z' : HO.frz { cls := .type "list", data := .seq vs.toArray } (.lst (ns.map V.int)) = u := Option.some.inj ((if_pos rfl).symm.trans z)
          subst z'
          exact ⟨ha, by rw [List.length_map]; exact hl, vs, _, rv, ha⟩
        · exact absurd ((if_neg e).symm.trans z) (fun y => nomatch y)
      · intro b z
        by_cases e : b = a
        · exact e
        · exact absurd (if_neg e) z
      · intro b u z
        by_cases e : b = a
        · exact ⟨_, _, (Option.some.inj ((if_pos e).symm.trans z)).symm⟩
        · exact absurd ((if_neg e).symm.trans z) (fun y => nomatch y)
  -- the base: all the rest
  have rest : ∀ {b : Addr} {o : Obj}, s.heap.get? b = some o → H b = none → (hidT s.heap H).get? b = some o := fun e n => hidT_get e n
  have gone : ∀ {b : Addr}, b ≠ a → H b = none := fun {b} n => by
    cases z : H b with
    | none => rfl
    | some u => exact absurd (only b (by rw [z]; exact fun y => nomatch y)) n
  have spaces : ∀ {b : Addr} {m : Str → Option Value}, s.heap.Ns b m → (hidT s.heap H).Ns b m := by
    rintro b m ⟨o, es, ep, e, d, r⟩
    refine ⟨o, es, ep, rest e (gone ?_), d, r⟩
    rintro rfl
    have eo : o = { cls := .type "list", data := .seq vs.toArray } := Option.some.inj (e.symm.trans ha)
    rw [eo] at d
    cases (show Data.seq vs.toArray _ = Data.dict es ep from d)
  have kin : K.In (hidT s.heap H) := fun b o e => rest (KX b o e) (by
    cases z : H b with
    | none => rfl
    | some u =>
      have eb := only b (by rw [z]; exact fun y => nomatch y)
      subst eb
      rw [sep (by rw [z]; exact fun y => nomatch y)] at e
      cases e)
  obtain ⟨mc, lim1, lim2⟩ := hlim
  have env : Env0 P w K mg (hidT s.heap H) callerA [] s H :=
    ⟨rfl, ⟨kin, spaces hns, ⟨mb, spaces hb, hbb⟩, ⟨mc, spaces lim1, lim2⟩⟩, fun b o e => of_hidT e, Nat.le_of_eq (hidT_size _ _), trivial, fun b hb => absurd (show b ∈ ([] : List Addr) from hb) (by simp), hok, .of_eq hg⟩
  refine codeAny_mono ((F _ kin (spaces hns)).run callerA [] s H ⟨[.ref a], []⟩ [.ref a] [.ref a] _ _ rfl room env (bind s (.ref a)) (.cons rfl .nil) (pr H seq)) ?_
  intro r s' h
  match r, h with
  | .error e, h => exact (show False from h).elim
  | .ok .next, h => exact (show False from h).elim
  | .ok .brk, h => exact (show False from h).elim
  | .ok .cont, h => exact (show False from h).elim
  | .ok (.ret u), ⟨v, H', os, bare, un, hok', rel, q⟩ =>
    have ev : v = .bl true := q
    subst ev
    obtain rfl : u = Value.bool true := rel
    refine ⟨rfl, OldK.of_keep fun b o e => ?_, os, bare⟩
    cases z : H b with
    | none => exact un.keep b o e z (fun y => absurd (show b ∈ ([] : List Addr) from y) (by simp)) (by simp)
    | some u =>
      obtain ⟨ob, xs, rfl⟩ := froz b u z
      have h1 := (hok b _ z).1
      have h2 := (hok' b _ (un.frzs b ob _ z)).1
      have eo : o = ob := Option.some.inj (e.symm.trans h1)
      rw [eo]
      exact h2
theorem walkG {l : PySem.W.OpenLaw} {n k : Nat} {q : Program} {loose : List Str} {XP : (Str → Option Value) → Heap → Prop} {YP : World → Heap → Prop} {d : DefRec} {K : Params → PySem.W.Frag} {sp : PySem.W.Frag → Sp} {x : Str}
    (hn : l.most = some n) (hn2 : n ≤ sizeLine) (hdf : d.params.defaults = []) (room : Room k callerA) (hY : ∀ (w : World) (h : Heap), YP w h → (K w.params).In h)
    (F : ∀ (w : World) (mg : Str → Option Value) (fa : Addr) (h : Heap), (K w.params).In h → h.Ns mainGlobals mg → mg d.name = some (.ref fa) →
      ∃ fd : FuncData, (∀ (s : Shared) (u : Value), BindsTo s fd ⟨[u], []⟩ [(x, u)]) ∧ ∀ base : Heap, (K w.params).In base → base.Ns mainGlobals mg → FnG l.prog w (K w.params) mg base k fa fd [x] (sp (K w.params)))
    (pr : ∀ (K : PySem.W.Frag) (H : Hp) (a : Addr) (ns : List Int), ns.length ≤ n → SqL K H a (ns.map V.int) → sp K [.ref a] H (fun v _ => v = .bl true) fun _ _ _ => False) :
    PySem.W.WalkO q loose XP YP l.row.toRowW d [] (fun f vs => PySem.call f vs) := by
  refine Att.attach_call hn hdf ?_
  intro w s₀ s₁ mg mb fa o pm cd doc a vs ns G Y ho hd hcd hmg hobj hints hlen hg
  have kin := hY w _ Y
  obtain ⟨fd, bind, okF⟩ := F w mg fa _ kin G.T.g hmg
  exact callG kin G.T.g G.T.b G.T.builtins G.T.nolimit hg hobj hints (Nat.le_trans hlen hn2) room okF bind fun H seq => pr (K w.params) H a ns hlen seq
end Ov
namespace Ov
open PySem PySem.Spec PyProof.Rows L2
/-! ### how long a shown value may be -/
mutual
def nodes : PyData → Nat
  | .str x => 1 + (reprText x).length
  | .list xs => 1 + nodesAll xs
  | .tuple xs => 1 + nodesAll xs
  | .none => 1
  | .bool _ => 1
  | .int _ => 1
  | .dict kvs => 1 + (dictText (PyData.shownKv kvs)).length
def nodesAll : List PyData → Nat
  | [] => 0
  | x :: xs => nodes x + nodesAll xs
end
theorem strLen0 : (Str.ofString "None").length = 4 := by decide +kernel
theorem listText_le (ts : List Str) : (listText ts).length ≤ piled ts + 2 := by
  rw [listText_eq_join, strLen_append, strLen_append]
  have a : (Str.ofString "[").length = 1 := by decide +kernel
  have b : (Str.ofString "]").length = 1 := by decide +kernel
  cases ts with
  | nil =>
    have : (Str.join (Str.ofString ", ") []).length = 0 := by decide +kernel
    rw [a, b, this]; omega
  | cons t ts =>
    have := join_length_add (t :: ts) (List.cons_ne_nil _ _)
    rw [a, b]; omega
theorem tupleText_le (ts : List Str) : (tupleText ts).length ≤ piled ts + 3 := by
  unfold tupleText
  rw [strLen_append, strLen_append]
  have a : (Str.ofString "(").length = 1 := by decide +kernel
  have b : (Str.ofString (if (ts.length == 1) = true then ",)" else ")" : String)).length ≤ 2 := by
    by_cases h : (ts.length == 1) = true
    · rw [if_pos h]; decide +kernel
    · rw [if_neg h]; decide +kernel
  cases ts with
  | nil =>
    have : (Str.join (Str.ofString ", ") []).length = 0 := by decide +kernel
    rw [a, this]
    exact Nat.le_trans (Nat.add_le_add_left b _) (by omega)
  | cons t ts =>
    have := join_length_add (t :: ts) (List.cons_ne_nil _ _)
    rw [a]
    omega
mutual
theorem shown_le : ∀ d : PyData, d.showable = true → d.shown.length + 10 ≤ 2000 * nodes d
  | .none, _ => by
    simp only [PyData.shown, nodes]
    rw [strLen0]; decide
  | .bool b, _ => by
    simp only [PyData.shown, nodes]
    cases b <;> decide +kernel
  | .int i, h => by
    simp only [PyData.shown, nodes]
    have := int_text_len_1921 (i := i) (by simpa [PyData.showable] using h)
    omega
  | .str x, _ => by
    simp only [PyData.shown, nodes]
    omega
  | .list xs, h => by
    simp only [PyData.shown, nodes]
    have := shownAll_le xs (by simpa [PyData.showable] using h)
    have := listText_le (PyData.shownAll xs)
    omega
  | .tuple xs, h => by
    simp only [PyData.shown, nodes]
    have := shownAll_le xs (by simpa [PyData.showable] using h)
    have := tupleText_le (PyData.shownAll xs)
    omega
  | .dict kvs, _ => by
    simp only [PyData.shown, nodes]
    omega
theorem shownAll_le : ∀ xs : List PyData, PyData.showableAll xs = true → piled (PyData.shownAll xs) ≤ 2000 * nodesAll xs
  | [], _ => by
    simp only [PyData.shownAll, nodesAll]
    decide +kernel
  | x :: xs, h => by
    have h' : x.showable = true ∧ PyData.showableAll xs = true := by simpa [PyData.showableAll] using h
    have h1 := shown_le x h'.1
    have h2 := shownAll_le xs h'.2
    simp only [PyData.shownAll, nodesAll]
    rw [piled_cons]
    omega
end
theorem fits_shown {d : PyData} (h : d.showable = true) (n : nodes d ≤ 8000) : d.shown.length ≤ sizeLine := by
  have := shown_le d h
  rw [sizeLine_eq]
  omega
/-! ### ints and least sums as data -/
theorem dp_ints {K : PySem.W.Frag} {H : Hp} : ∀ ns : List Int, DpAll K H (ns.map V.int) (ns.map PyData.int)
  | [] => .nil
  | n :: ns => .cons (.int n) (dp_ints ns)
/-- a plain value: None, a bool, an int that is not too great to be shown -/
inductive Sc : PyData → Prop
  | non : Sc .none
  | bl (b : Bool) : Sc (.bool b)
  | int (i : Int) (h : i.natAbs.log2 < 1920) : Sc (.int i)
theorem Sc.small {i : Int} (h : i.natAbs < 2 ^ 1000) : Sc (.int i) := by
  refine .int i ?_
  by_cases e : i.natAbs = 0
  · rw [e]; decide
  · exact Nat.lt_of_lt_of_le ((Nat.log2_lt e).mpr h) (by decide)
structure Flat (ds : List PyData) : Prop where
  lay : PyData.canLayAll0 ds = true
  dep : PyData.depthAll ds = 0
  sh : PyData.showableAll ds = true
  nod : PyData.hasDictAll ds = false
  nds : nodesAll ds = ds.length
theorem flat_of : ∀ {ds : List PyData}, (∀ d ∈ ds, Sc d) → Flat ds
  | [], _ => ⟨by simp [PyData.canLayAll0], by simp [PyData.depthAll], by simp [PyData.showableAll], by simp [PyData.hasDictAll], by simp [nodesAll]⟩
  | d :: ds, h => by
    obtain ⟨h1, h2, h3, h4, h5⟩ := flat_of (ds := ds) fun x hx => h x (List.mem_cons_of_mem _ hx)
    have hd := h d List.mem_cons_self
    refine ⟨?_, ?_, ?_, ?_, ?_⟩
    · cases hd <;> simp [PyData.canLayAll0, PyData.canLay0, h1]
    · cases hd <;> simp [PyData.depthAll, PyData.depth, h2]
    · cases hd <;> simp_all [PyData.showableAll, PyData.showable]
    · cases hd <;> simp [PyData.hasDictAll, PyData.hasDict, h4]
    · cases hd <;> simp [nodesAll, nodes, h5] <;> omega
theorem shaped_tup {ds : List PyData} (f : Flat ds) : SeqAt.shaped (.tuple ds) = true := by
  unfold SeqAt.shaped
  simp [PyData.canLay0, PyData.depth, f.lay, f.dep]
theorem shaped_lst {ds : List PyData} (f : Flat ds) : SeqAt.shaped (.list ds) = true := by
  unfold SeqAt.shaped
  simp [PyData.canLay0, PyData.depth, f.lay, f.dep]
theorem flat_ints {ns : List Int} (h : ∀ n ∈ ns, n.natAbs < 2 ^ 1000) : Flat (ns.map PyData.int) := flat_of fun d hd => by
  obtain ⟨n, hn, rfl⟩ := List.mem_map.mp hd
  exact .small (h n hn)
theorem eqv_nil : ∀ ds : List PyData, PyData.eqv (.tuple ds) (.tuple []) = ds.isEmpty
  | [] => by simp [PyData.eqv, PyData.eqvAll]
  | d :: ds => by simp [PyData.eqv, PyData.eqvAll]
end Ov
namespace Ov
open PySem PySem.Spec PyProof.Rows L2
section
variable {X : Cx} {k : Nat}
/-- max of a tuple of ints -/
theorem cr_maxT (hc : X.calm = true) (room : Room k X.A) : CallR X (.builtin "max") (fun vs H Q => ∃ (a : Addr) (n : Int) (ns : List Int), vs = [.ref a] ∧ SqT X.K H a ((n :: ns).map V.int) ∧ Q (.int (ns.foldl max n)) H) := by
  intro pins s σ H vs us Q I r h
  obtain ⟨a, n, ns, rfl, hs, q⟩ := h
  obtain ⟨its, rv, pl, _⟩ := I.tuple hs
  obtain ⟨as, rd⟩ := Dp.readsAll I ((n :: ns).map PyData.int) _ its (dp_ints (n :: ns)) rv
  rw [Vals.ref1 r]
  have un := room.un
  have dep : PyData.depthAll ((n :: ns).map PyData.int) = 0 := by
    generalize n :: ns = l
    induction l with
    | nil => simp [PyData.depthAll]
    | cons x l ih => simp [PyData.depthAll, PyData.depth, ih]
  have ali : PySem.W.AlikeAll ((n :: ns).map PyData.int) := by
    constructor
    · intro x hx y hy
      obtain ⟨i, _, rfl⟩ := List.mem_map.mp hx
      obtain ⟨j, _, rfl⟩ := List.mem_map.mp hy
      simp [PySem.W.alike]
    · intro x hx
      obtain ⟨i, _, rfl⟩ := List.mem_map.mp hx
      exact fun z => nomatch z
  rw [List.map_cons] at rd ali dep
  refine PySem.W.max_tuple_data (I.ok.hd hc) pl (by simpa using rd) ali (by rw [dep]; omega) ?_
  intro i v h' tk bs hi hr kp
  rw [PySem.W.maxD_ints] at hr
  cases hr with
  | int => exact ⟨.int _, H, I.kept kp, ⟨_, rfl⟩, q⟩
end
end Ov
namespace Ov
open PySem PySem.Spec PyProof.Rows L2
/-! ### texts by their codes; a text so many times; list(range(n)) -/
def txt (l : List Nat) : Str := ⟨l.toArray⟩
theorem txt_inj {a b : List Nat} (h : txt a = txt b) : a = b := by
  have : a.toArray = b.toArray := congrArg Str.cps h
  simpa using congrArg Array.toList this
theorem txt_len (l : List Nat) : (txt l).length = l.length := by
  show l.toArray.size = _
  simp
theorem fold_reps : ∀ (k : Nat) (l : List Nat) (acc : Array Nat), (List.replicate k l.toArray).foldl (· ++ ·) acc = acc ++ (List.replicate k l).flatten.toArray
  | 0, l, acc => by simp
  | k + 1, l, acc => by
    rw [List.replicate_succ, List.foldl_cons, fold_reps k l, List.replicate_succ, List.flatten_cons]
    simp
section
variable {X : Cx}
/-- a text times a small number -/
theorem op_mulS : OpR X (binaryOp .Mult) (fun x y H Q => ∃ (l : List Nat) (n : Int), x = .str (txt l) ∧ y = .int n ∧ 0 ≤ n ∧ n ≤ 1000 ∧ l.length ≤ 1000 ∧ Q (.str (txt (List.replicate n.toNat l).flatten)) H) := by
  intro pins s σ H x y v u Q I rx ry h
  obtain ⟨l, n, rfl, rfl, h0, h1, hl, q⟩ := h
  obtain ⟨t, rfl⟩ := rx
  obtain ⟨t', rfl⟩ := ry
  have hlen := txt_len l
  have fin : ∀ (tk tk' : Nat), EP X pins σ Q (.str (txt (List.replicate n.toNat l).flatten) tk) { s with toks := tk' } := fun tk tk' => ⟨.str _, H, I.tok _, ⟨_, rfl⟩, q⟩
  refine PySem.P.mul_str ?_ ?_ ?_ ?_
  · rw [decide_eq_false (show ¬ n < -(2 ^ 63 : Int) by omega), decide_eq_false (show ¬ n ≥ 2 ^ 63 by omega)]
    rfl
  · intro a b
    rw [hlen]
    have hn : 1 ≤ n := by omega
    have : (1000 : Int) ≤ (2 ^ 63 - 1) / n := by
      rw [Int.le_ediv_iff_mul_le (by omega)]
      omega
    omega
  · intro a b
    rw [hlen]
    refine decide_eq_false ?_
    rw [sizeLine_eq]
    have : l.length * n.toNat ≤ 1000 * 1000 := Nat.mul_le_mul hl (by omega)
    omega
  · by_cases c : n < 1
    · rw [if_pos c]
      have hn : n.toNat = 0 := by omega
      have := fin s.toks (s.toks + 1)
      rw [hn] at this
      exact ⟨Nat.zero_le _, this⟩
    · rw [if_neg c]
      by_cases d : (n == 1 || (txt l).length == 0) = true
      · rw [if_pos d]
        have e : txt (List.replicate n.toNat l).flatten = txt l := by
          rcases Bool.or_eq_true_iff.mp d with d | d
          · have : n = 1 := eq_of_beq d
            subst this
            simp
          · have hz : l.length = 0 := by rw [← hlen]; exact eq_of_beq d
            have : l = [] := List.eq_nil_of_length_eq_zero hz
            subst this
            simp
        have := fin t s.toks
        rw [e] at this
        exact this
      · rw [if_neg d]
        have e : (⟨(List.replicate n.toNat (txt l).cps).foldl (· ++ ·) #[]⟩ : Str) = txt (List.replicate n.toNat l).flatten := by
          show (⟨(List.replicate n.toNat l.toArray).foldl (· ++ ·) #[]⟩ : Str) = _
          rw [fold_reps]
          simp [txt]
        rw [e]
        refine ⟨?_, fin s.toks (s.toks + 1)⟩
        rw [txt_len, sizeLine_eq]
        have h2 : (List.replicate n.toNat l).flatten.length = n.toNat * l.length := by simp
        rw [h2]
        have : n.toNat * l.length ≤ 1000 * 1000 := Nat.mul_le_mul (by omega) hl
        omega
/-- list(range(n)) -/
theorem pe_listRange {a : Expr} {ta : TE} {p p2 q pos : Pos} (hg : Gl X "list") (hm : X.mg "list" = none) (hg2 : Gl X "range") (hm2 : X.mg "range" = none) (ha : PE X a ta) (hc : X.calm = true := by rfl)
    (na : starEach [a] X.env = (false, eval a X.env) :: starEach [] X.env := by rfl) :
    PE X (.Call (.Name "list" p) [.Call (.Name "range" p2) [a] [] q] [] pos) (fun σ H Q => ta σ H fun x H1 => ∃ n : Nat, x = .int (n : Int) ∧ n ≤ 100000 ∧ ∀ l, H1 l = none → Q (.ref l) (upd H1 l (.lst ((List.range n).map fun i : Nat => V.int (i : Int))))) := by
  constructor
  intro pins s σ H Q I h
  have bl : bootBuiltins "list" = some (.type "list") := by decide +kernel
  refine Call_ (ld_blt I hg hm bl (PyProof.Rows.callWith_type1 (PyProof.Rows.args_cons ?_ rfl) rfl rfl))
  refine Call_ (ld_blt I hg2 hm2 boot_range (PyProof.Rows.callWith_type1 (PyProof.Rows.args_cons (thn (ha.run pins s σ H _ I h) ?_) na) na rfl))
  rintro v s1 ⟨x, H1, I1, r1, n, rfl, hn, q1⟩
  obtain ⟨t, rfl⟩ := r1
  refine PyProof.Rows.args_nil (call_range_1 (PyProof.Rows.args_nil ?_))
  have hsmall : Builtin.Range.small 0 (n : Int) 1 = true := small_one (by omega) (by omega) (by omega) (by omega)
  refine call_list_range (n := n) (I1.ok.hd hc) (Heap.get?_push_size _ rfl) hsmall ?_ (by omega) ?_
  · rw [rangeSize_nat]
    simp
  · intro h' tk acc c kp hat hit
    have vals : Vals ((List.range n).map fun i : Nat => V.int (i : Int)) acc.toList := by
      obtain ⟨hz, hv⟩ := hit
      have key : ∀ (l : List Value) (k : Nat), (∀ j v, l[j]? = some v → ∃ t, v = Value.int (0 + ((k + j : Nat) : Int) * 1) t) → Vals ((List.range' k l.length).map fun i : Nat => V.int (i : Int)) l := by
        intro l
        induction l with
        | nil => intro k _; exact .nil
        | cons v l ih =>
          intro k hk
          rw [List.length_cons, List.range'_succ, List.map_cons]
          refine .cons ?_ (ih (k + 1) fun j w hj => ?_)
          · obtain ⟨t, e⟩ := hk 0 v rfl
            exact ⟨t, by rw [e, show (0 + ((k + 0 : Nat) : Int) * 1) = (k : Int) by omega]⟩
          · obtain ⟨t, e⟩ := hk (j + 1) w hj
            exact ⟨t, by rw [e, show (0 + ((k + (j + 1) : Nat) : Int) * 1) = (0 + ((k + 1 + j : Nat) : Int) * 1) by omega]⟩
      have := key acc.toList 0 (fun j v hj => by
        obtain ⟨t, e⟩ := hv j v (by simpa using hj)
        exact ⟨t, by rw [e, show (0 + ((0 + j : Nat) : Int) * 1) = (0 + ((j : Nat) : Int) * 1) by omega]⟩)
      rw [Array.length_toList, hz, ← List.range_eq_range'] at this
      exact this
    have old : ∀ b o, s1.heap.get? b = some o → h'.get? b = some o := fun b o e => kp b o (Heap.get?_push_of_some _ e)
    have ez : ∀ (o : Obj), (s1.heap.push o).objs.size = s1.heap.objs.size + 1 := fun o => Heap.size_push _ _
    rw [ez] at hat ⊢
    have fit : ((List.range n).map fun i : Nat => V.int (i : Int)).length ≤ sizeLine := by
      rw [List.length_map, List.length_range, sizeLine_eq]
      omega
    exact ⟨.ref _, upd H1 (s1.heap.objs.size + 1) (.lst _), I1.laid (t' := tk) old (Nat.le_succ _) ⟨fit, acc.toList, c, vals, hat⟩, rfl, q1 _ (I1.hok.fresh (Nat.le_succ _))⟩
end
end Ov
namespace Ov
open PySem PySem.Spec PyProof.Rows L2
/-! ### a set of texts, made of a list of unlike ones: how many it holds -/
/-- the empty set as it is made -/
abbrev noText (led : Bool) : Obj := { cls := .type "set", dict := none, data := .set #[] 0 (.fresh 0 0 led) }
section
variable {prog : Program} {w : World} {A : Around} {R : Result → Shared → Prop} {it : Addr} {fp wr : List Addr} {G : Array GenState → Array GenState → Prop} {n : Nat} {P : Nat → Value → Prop} {St : Nat → Shared → Prop}
theorem has_next {xs : List Str} (nd : xs.Nodup) {i : Nat} (hi : i < xs.length) : (xs.take i).any (· == xs[i]) = false := by
  rw [List.any_eq_false]
  intro y hy e
  have ey : y = xs[i] := eq_of_beq e
  obtain ⟨j, hj, ej⟩ := List.mem_take_iff_getElem.mp hy
  have hlt : j < i := by omega
  exact (List.pairwise_iff_getElem.mp nd j i (by omega) hi hlt) (ej.trans ey)
/-- texts put into it, one behind another -/
theorem texts_in (W : WalksS prog w A.in1 it fp wr G n P St) (S : Addr) (out : S ∉ fp) {xs : List Str} (len : xs.length = n) (nd : xs.Nodup) (few : n + 1 < scanBound)
    (val : ∀ (i : Nat) (hi : i < xs.length) (v : Value), P i v → ∃ t, v = .str xs[i] t) :
    ∀ (left i : Nat) (s : Shared), i + left = n → St i s → s.heap.SetOf (PySem.strKind prog w) S (fun k => (xs.take i).any (· == k)) i →
      (∀ s', Moved (S :: wr) G s s' → s'.heap.SetOf (PySem.strKind prog w) S (fun k => xs.any (· == k)) n → R (.ok (.ret .none)) s') →
      codeAny (model prog w) A (.builtin "set.update.loop" ⟨[.ref S, .ref it], []⟩) R s := by
  have outw : S ∉ wr := fun z => out (W.sub _ z)
  have wide : ∀ b ∈ wr, b ∈ S :: wr := fun b z => List.mem_cons_of_mem _ z
  have carry : ∀ {s s' : Shared} {f : Str → Bool} {c : Nat}, Moved wr G s s' → s.heap.SetOf (PySem.strKind prog w) S f c → s'.heap.SetOf (PySem.strKind prog w) S f c := by
    rintro s s' f c mv ⟨o, es, ep, t, ho, more⟩
    exact ⟨o, es, ep, t, mv.heap S _ outw ho, more⟩
  intro left
  induction left with
  | zero =>
    intro i s e st hS fin
    obtain rfl : i = n := by omega
    refine codeAny_builtin PyProof.Rows.F.entry_set_update_loop ?_
    rw [Around.under_plainId PyProof.Rows.F.plain_set_update_loop _]
    refine wpAny_bind (W.done s _ _ st fun s' mv => wpAny_pure (fin s' (mv.mono wide) ?_))
    have := carry mv hS
    rwa [← len, List.take_length, len] at this
  | succ left ih =>
    intro i s e st hS fin
    have hi : i < xs.length := by omega
    refine codeAny_builtin PyProof.Rows.F.entry_set_update_loop ?_
    rw [Around.under_plainId PyProof.Rows.F.plain_set_update_loop _]
    refine wpAny_bind (W.item i s _ _ (by omega) st ?_)
    intro v s' pv st' mv
    obtain ⟨t, rfl⟩ := val i hi v pv
    refine wpAny_bind (wpAny_holding ?_)
    unfold setAdd
    refine wpAny_holding (wpAny_bind ((PySem.strKind prog w).pyHash (k := xs[i]) (strKind_is _ _ _ _) ?_))
    have held := carry mv hS
    refine wpAny_setAddHashed_of (knd := PySem.strKind prog w) (s := { s' with toks := s'.toks + 1 }) (strKind_is _ _ _ _) rfl held (by omega) ?_
    intro h' but hS2
    rw [has_next nd hi] at hS2
    have grown : h'.SetOf (PySem.strKind prog w) S (fun k => (xs.take (i + 1)).any (· == k)) (i + 1) := by
      refine SetOf_congr hS2 (fun k => ?_) rfl
      rw [List.take_add_one, List.getElem?_eq_getElem hi, List.any_append]
      congr 1
      show decide (k = xs[i]) = ([xs[i]].any (· == k))
      by_cases z : k = xs[i]
      · subst z; simp
      · have : (xs[i] == k) = false := beq_eq_false_iff_ne.mpr fun y => z y.symm
        simp [z, this]
    refine wpAny_pure ⟨plainId_quiet PyProof.Rows.F.plain_set_update_loop _, ih (i + 1) _ (by omega) (W.frame _ s' _ _ st' (Nat.le_succ _) ?_) grown ?_⟩
    · intro b hb o eb
      rw [but.2 b fun z => out (z ▸ hb)]
      exact eb
    · intro s'' mv'' hS''
      refine fin s'' (Moved.trans W.gtrans ((mv.mono wide).then_heap (Nat.le_succ _) ?_) mv'') hS''
      intro b o hb eb
      rw [but.2 b fun z => hb (z ▸ List.mem_cons_self)]
      exact eb
end
section
variable {prog : Program} {w : World} {A : Around} {E : Value → Shared → Prop} {s : Shared}
theorem set_texts {l : Addr} {items : Array Value} {xs : List Str} {Q : Value → Shared → Prop} (hh : A.handled = none) (hl : s.heap.IsList l items) (hi : StrsAre items.toList xs) (nd : xs.Nodup) (few : xs.length + 1 < scanBound)
    (h : ∀ (h' : Heap) (tk : Nat), h'.SetOf (PySem.strKind prog w) s.heap.objs.size (fun k => xs.any (· == k)) xs.length → (∀ b o, b < s.heap.objs.size → s.heap.get? b = some o → h'.get? b = some o) → Q (.ref s.heap.objs.size) { s with heap := h', toks := tk }) :
    wpAny (model prog w) A (call (.type "set") [.ref l]) Q E s := by
  obtain ⟨c, tl, hmro⟩ := PySem.F.called_set.mro
  have q1 := PySem.F.called_set.made
  have q2 := PySem.F.called_set.sub
  have q3 := PySem.F.called_set.notType
  have q4 := PySem.F.called_set.canCreate
  have q5 := PySem.F.typeCall_set_1 (.ref l)
  refine wpAny_call (codeAny_of_tree ?_)
  show wpAny _ _ (callAny (.type "set") _) _ _ _
  refine wpAny_pure ⟨Code.quiet_builtin _ (by decide +kernel), codeAny_builtin PySem.F.entry_type_call ?_⟩
  rw [Around.under_plain (weight_type_call_type "set" [.ref l] []) rfl]
  repeat (any_goals (first | assumption | wp_step))
  refine codeAny_mono (code_set_new_1 (.ref l) (E := E) (Q₁ := fun obj s₁ => ∃ led : Bool, obj = .ref s.heap.objs.size ∧ s₁ = { s with heap := s.heap.push (noText led) }) fun led => ⟨led, rfl, rfl⟩) ?_
  intro r s₁ hr
  match r, hr with
  | .error e, hr => exact hr
  | .ok .next, hr => exact hr.elim
  | .ok .brk, hr => exact hr.elim
  | .ok .cont, hr => exact hr.elim
  | .ok (.ret obj), ⟨led, e1, e2⟩ =>
    subst e1 e2
    have at_ : (s.heap.push (noText led)).get? s.heap.objs.size = some (noText led) := Heap.get?_push_size _ rfl
    have ty : Shared.TypeIs { s with heap := s.heap.push (noText led) } (.ref s.heap.objs.size) "set" := ⟨_, at_, rfl⟩
    have q6 := PySem.F.called_set.init.lookup
    have q7 := PySem.F.called_set.init.bind (.ref s.heap.objs.size)
    repeat (any_goals (first | assumption | wp_step))
    refine codeAny_mono (codeAny_call_builtin (R := wants (fun r s₂ => r = .none ∧ ∃ h' tk, s₂ = { s with heap := h', toks := tk } ∧ h'.SetOf (PySem.strKind prog w) s.heap.objs.size (fun k => xs.any (· == k)) xs.length ∧
        (∀ b o, b < s.heap.objs.size → s.heap.get? b = some o → h'.get? b = some o)) E) PySem.F.called_set.init.plain PySem.F.entry_set_init (check_set_init_1 ty ?_)) ?_
    · obtain ⟨⟨cl, dc, dt, sl⟩, hol, hcl, nl, hdl⟩ := hl
      dsimp only at hcl hdl
      subst hcl hdl
      have below := Heap.lt_size hol
      have hol' : (s.heap.push (noText led)).get? l = some { cls := .type "list", dict := dc, data := .seq items nl, slots := sl } := Heap.get?_push_of_some _ hol
      have hl1 : (s.heap.push (noText led)).IsList l items := ⟨_, hol', rfl, nl, rfl⟩
      have q8 := PySem.F.sub_list_set
      have q9 := PySem.F.sub_list_frozenset
      have q0 : (Value.type "list" == Value.type "dict") = false := by decide
      unfold Builtin.«set.__init__» noKeywords Builtin.Frozenset.updateFrom
      generalize hPI : pyIter = PI
      wp_walk
      subst hPI
      have sz : (s.heap.push (noText led)).objs.size = s.heap.objs.size + 1 := Heap.size_push _ _
      have calm3 : A.in1.in1.in1.handled = none := by simp [hh]
      have apart : l ≠ (s.heap.push (noText led)).objs.size := by rw [sz]; exact Nat.ne_of_lt (Nat.lt_succ_of_lt below)
      have far : s.heap.objs.size ∉ [(s.heap.push (noText led)).objs.size, l] := by
        rw [sz]
        simp only [List.mem_cons, List.not_mem_nil, or_false, not_or]
        exact ⟨Nat.ne_of_lt (Nat.lt_succ_self _), Nat.ne_of_gt below⟩
      have len : xs.length = items.size := by rw [← StrsAre.len_eq hi, Array.length_toList]
      refine wpAny_pyIter_list hl1 (wpAny_bind (wpAny_runValue ?_))
      refine texts_in ((Walks.list calm3 _ l apart items).toS) s.heap.objs.size far len nd (by rw [← len]; exact few) (fun i hlt v hv => ?_) items.size 0 _ (by omega) ⟨⟨_, Heap.get?_push_size _ rfl, rfl, rfl⟩, hl1.push _⟩ ?_ ?_
      · obtain ⟨t, e⟩ := SS.strs_at hi i v (by rw [Array.getElem?_toList]; exact hv)
        refine ⟨t, ?_⟩
        rw [e, List.getD_eq_getElem?_getD, List.getElem?_eq_getElem hlt]
        rfl
      · exact SetOf_congr ((setObjOf_fresh (knd := PySem.strKind prog w) led).setOf (Heap.get?_push_of_some _ at_) (by unfold scanBound; omega)) (fun _ => rfl) rfl
      · rintro ⟨h', g', d', tk', os'⟩ mv hS'
        have eg : g' = s.gens := mv.gens
        have ed : d' = s.drawn := mv.drawn
        have eo : os' = s.os := mv.os
        subst eg ed eo
        refine wpAny_pure (wpAny_pure ⟨rfl, h', tk', rfl, by rw [len]; exact hS', ?_⟩)
        intro b o hb eb
        refine mv.heap b o ?_ (Heap.get?_push_of_some _ (Heap.get?_push_of_some _ eb))
        rw [sz]
        simp only [List.mem_cons, List.not_mem_nil, or_false, not_or]
        exact ⟨Nat.ne_of_lt hb, Nat.ne_of_lt (Nat.lt_succ_of_lt hb)⟩
    · intro r₂ s₂ hr₂
      match r₂, hr₂ with
      | .error e, hr₂ => exact hr₂
      | .ok .next, hr₂ => exact hr₂.elim
      | .ok .brk, hr₂ => exact hr₂.elim
      | .ok .cont, hr₂ => exact hr₂.elim
      | .ok (.ret r), ⟨e1, h', tk, e2, hS', kp⟩ =>
        subst e1 e2
        repeat (any_goals (first | assumption | wp_step))
        exact h _ _ hS' kp
end
section
variable {X : Cx}
/-- len(set(xs)), xs a list of unlike texts -/
theorem pe_lenSetT {a : Expr} {ta : TE} {p p2 q pos : Pos} (hc : X.calm = true) (hg : Gl X "len") (hm : X.mg "len" = none) (hg2 : Gl X "set") (hm2 : X.mg "set" = none) (ha : PE X a ta)
    (na : starEach [a] X.env = (false, eval a X.env) :: starEach [] X.env := by rfl) :
    PE X (.Call (.Name "len" p) [.Call (.Name "set" p2) [a] [] q] [] pos) (fun σ H Q => ta σ H fun x H1 => ∃ (l : Addr) (xs : List Str), x = .ref l ∧ SqL X.K H1 l (xs.map V.str) ∧ xs.Nodup ∧ xs.length ≤ 4000 ∧ Q (.int (xs.length : Int)) H1) := by
  constructor
  intro pins s σ H Q I h
  refine Call_ (ld_blt I hg hm boot_len (PyProof.Rows.callWith_builtin1 (PyProof.Rows.args_cons ?_ rfl) rfl rfl))
  refine Call_ (ld_blt I hg2 hm2 boot_set (PyProof.Rows.callWith_type1 (PyProof.Rows.args_cons (thn (ha.run pins s σ H _ I h) ?_) na) na rfl))
  rintro v s1 ⟨x, H1, I1, r1, l, xs, rfl, hq, nd, few, q1⟩
  cases r1
  refine PyProof.Rows.args_nil ?_
  obtain ⟨its, r, pl, hz⟩ := I1.list hq
  refine set_texts (I1.ok.hd hc) pl.isList (by simpa using strsAre_of r) nd (by unfold scanBound; omega) ?_
  intro h' tk hS kp
  refine PyProof.Rows.args_nil ?_
  obtain ⟨o, es, ep, t, ho, hex, hd, _, _, _, hf, hn⟩ := hS
  have I2 : Inv X pins σ H1 { s1 with heap := h', toks := tk } := I1.kept fun b o e => kp b o (Heap.lt_size e) e
  exact call_len_set ho hex hd hf (by rw [hn]; omega) ⟨.int xs.length, H1, I2.tok _, ⟨_, by rw [hn]⟩, q1⟩
end
end Ov
namespace Ov
open PySem PySem.Spec PyProof.Rows L2
/-! ### things of any kind: None, bools, ints, texts, lists, tuples and empty dicts, of any depth -/
mutual
inductive Dx (K : PySem.W.Frag) (H : Hp) : V → PyData → Prop
  | non : Dx K H .non .none
  | bl (b : Bool) : Dx K H (.bl b) (.bool b)
  | int (i : Int) : Dx K H (.int i) (.int i)
  | str (x : Str) : Dx K H (.str x) (.str x)
  | dct {a : Addr} : H a = some (.dK []) → Dx K H (.ref a) (.dict [])
  | lst {a : Addr} {xs : List V} {ds : List PyData} : SqL K H a xs → DxAll K H xs ds → Dx K H (.ref a) (.list ds)
  | tup {a : Addr} {xs : List V} {ds : List PyData} : SqT K H a xs → DxAll K H xs ds → Dx K H (.ref a) (.tuple ds)
inductive DxAll (K : PySem.W.Frag) (H : Hp) : List V → List PyData → Prop
  | nil : DxAll K H [] []
  | cons {v : V} {vs : List V} {d : PyData} {ds : List PyData} : Dx K H v d → DxAll K H vs ds → DxAll K H (v :: vs) (d :: ds)
end
theorem sqL_same {K : PySem.W.Frag} {H H' : Hp} {a : Addr} {xs : List V} (e : Same H H') (h : SqL K H a xs) : SqL K H' a xs := by
  rcases h with (h | ⟨o, h⟩) | h
  · exact .inl (.inl (e _ _ h))
  · exact .inl (.inr ⟨o, e _ _ h⟩)
  · exact .inr h
mutual
theorem Dx.same {K : PySem.W.Frag} {H H' : Hp} (e : Same H H') : ∀ {v : V} {d : PyData}, Dx K H v d → Dx K H' v d
  | _, _, .non => .non
  | _, _, .bl b => .bl b
  | _, _, .int i => .int i
  | _, _, .str x => .str x
  | _, _, .dct h => .dct (e _ _ h)
  | _, _, .lst h a => .lst (sqL_same e h) (DxAll.same e a)
  | _, _, .tup h a => .tup (e.tup h) (DxAll.same e a)
theorem DxAll.same {K : PySem.W.Frag} {H H' : Hp} (e : Same H H') : ∀ {vs : List V} {ds : List PyData}, DxAll K H vs ds → DxAll K H' vs ds
  | _, _, .nil => .nil
  | _, _, .cons h a => .cons (Dx.same e h) (DxAll.same e a)
end
theorem DxAll.at {K : PySem.W.Frag} {H : Hp} : ∀ {vs : List V} {ds : List PyData}, DxAll K H vs ds → ∀ {i : Nat} {v : V}, vs[i]? = some v → ∃ d, ds[i]? = some d ∧ Dx K H v d
  | _, _, .nil, i, v, e => by simp at e
  | _, _, .cons h a, 0, v, e => by cases e; exact ⟨_, rfl, h⟩
  | _, _, .cons h a, i + 1, v, e => a.at (i := i) e
theorem DxAll.len {K : PySem.W.Frag} {H : Hp} : ∀ {vs : List V} {ds : List PyData}, DxAll K H vs ds → vs.length = ds.length
  | _, _, .nil => rfl
  | _, _, .cons _ a => by rw [List.length_cons, List.length_cons, a.len]
theorem DxAll.app {K : PySem.W.Frag} {H : Hp} : ∀ {vs us : List V} {ds es : List PyData}, DxAll K H vs ds → DxAll K H us es → DxAll K H (vs ++ us) (ds ++ es)
  | _, _, _, _, .nil, b => b
  | _, _, _, _, .cons h a, b => .cons h (a.app b)
theorem dx_ints {K : PySem.W.Frag} {H : Hp} : ∀ ns : List Int, DxAll K H (ns.map V.int) (ns.map PyData.int)
  | [] => .nil
  | n :: ns => .cons (.int n) (dx_ints ns)
/-- the name of a thing's type -/
def tyN : PyData → String
  | .none => "NoneType" | .bool _ => "bool" | .int _ => "int" | .str _ => "str" | .list _ => "list" | .tuple _ => "tuple" | .dict _ => "dict"
theorem Dx.ty {K : PySem.W.Frag} {H : Hp} {v : V} {d : PyData} (h : Dx K H v d) : TyX K H v (.type (tyN d)) := by
  cases h with
  | non => exact .base .non
  | bl b => exact .base (.bl b)
  | int i => exact .base (.int i)
  | str x => exact .base (.str x)
  | dct h => exact .base (.dK h)
  | lst h _ =>
    rcases h with (h | ⟨o, h⟩) | ⟨o, its, n, h, c, _⟩
    · exact .base (.lst h)
    · exact .base (.frz h)
    · exact .kList h c
  | tup h _ =>
    rcases h with (h | ⟨o, h⟩) | ⟨o, its, n, h, c, _⟩
    · exact .base (.tup h)
    · exact .fTuple h
    · exact .kTuple h c
def isT : PyData → Bool | .tuple _ => true | _ => false
def isI : PyData → Bool | .int _ => true | .bool _ => true | _ => false
def isB : PyData → Bool | .bool _ => true | _ => false
def isL : PyData → Bool | .list _ => true | _ => false
def isS : PyData → Bool | .str _ => true | _ => false
theorem kit_t : ∀ d : PyData, kitB (tyN d) "tuple" = some (isT d)
  | .none => (by decide +kernel : kitB "NoneType" "tuple" = some false)
  | .bool _ => (by decide +kernel : kitB "bool" "tuple" = some false)
  | .int _ => (by decide +kernel : kitB "int" "tuple" = some false)
  | .str _ => (by decide +kernel : kitB "str" "tuple" = some false)
  | .list _ => (by decide +kernel : kitB "list" "tuple" = some false)
  | .tuple _ => (by decide +kernel : kitB "tuple" "tuple" = some true)
  | .dict _ => (by decide +kernel : kitB "dict" "tuple" = some false)
theorem kit_i : ∀ d : PyData, kitB (tyN d) "int" = some (isI d)
  | .none => (by decide +kernel : kitB "NoneType" "int" = some false)
  | .bool _ => (by decide +kernel : kitB "bool" "int" = some true)
  | .int _ => (by decide +kernel : kitB "int" "int" = some true)
  | .str _ => (by decide +kernel : kitB "str" "int" = some false)
  | .list _ => (by decide +kernel : kitB "list" "int" = some false)
  | .tuple _ => (by decide +kernel : kitB "tuple" "int" = some false)
  | .dict _ => (by decide +kernel : kitB "dict" "int" = some false)
theorem kit_b : ∀ d : PyData, kitB (tyN d) "bool" = some (isB d)
  | .none => (by decide +kernel : kitB "NoneType" "bool" = some false)
  | .bool _ => (by decide +kernel : kitB "bool" "bool" = some true)
  | .int _ => (by decide +kernel : kitB "int" "bool" = some false)
  | .str _ => (by decide +kernel : kitB "str" "bool" = some false)
  | .list _ => (by decide +kernel : kitB "list" "bool" = some false)
  | .tuple _ => (by decide +kernel : kitB "tuple" "bool" = some false)
  | .dict _ => (by decide +kernel : kitB "dict" "bool" = some false)
theorem kit_l : ∀ d : PyData, kitB (tyN d) "list" = some (isL d)
  | .none => (by decide +kernel : kitB "NoneType" "list" = some false)
  | .bool _ => (by decide +kernel : kitB "bool" "list" = some false)
  | .int _ => (by decide +kernel : kitB "int" "list" = some false)
  | .str _ => (by decide +kernel : kitB "str" "list" = some false)
  | .list _ => (by decide +kernel : kitB "list" "list" = some true)
  | .tuple _ => (by decide +kernel : kitB "tuple" "list" = some false)
  | .dict _ => (by decide +kernel : kitB "dict" "list" = some false)
theorem kit_s : ∀ d : PyData, kitB (tyN d) "str" = some (isS d)
  | .none => (by decide +kernel : kitB "NoneType" "str" = some false)
  | .bool _ => (by decide +kernel : kitB "bool" "str" = some false)
  | .int _ => (by decide +kernel : kitB "int" "str" = some false)
  | .str _ => (by decide +kernel : kitB "str" "str" = some true)
  | .list _ => (by decide +kernel : kitB "list" "str" = some false)
  | .tuple _ => (by decide +kernel : kitB "tuple" "str" = some false)
  | .dict _ => (by decide +kernel : kitB "dict" "str" = some false)
/-! ### what is shown of them -/
mutual
def noList : PyData → Bool
  | .list _ => false
  | .tuple ds => noListAll ds
  | _ => true
def noListAll : List PyData → Bool
  | [] => true
  | d :: ds => noList d && noListAll ds
end
section
variable {X : Cx} {pins : List (Addr × Obj)} {σ : L2.St} {H : Hp} {s : Shared}
mutual
theorem Dx.reads (I : Inv X pins σ H s) : ∀ (d : PyData) (v : V) (u : Value), Dx X.K H v d → RelV v u → ∃ as, Reads s.heap u d as ∧ (noList d = true → sysModules ∉ as)
  | .none, _, _, h, r => by
    cases h
    cases r
    exact ⟨_, Reads.none, fun _ z => nomatch z⟩
  | .bool b, _, _, h, r => by
    cases h
    cases r
    exact ⟨_, Reads.bool b, fun _ z => nomatch z⟩
  | .int i, _, _, h, r => by
    cases h
    obtain ⟨t, rfl⟩ := r
    exact ⟨_, Reads.int i t, fun _ z => nomatch z⟩
  | .str x, _, _, h, r => by
    cases h
    obtain ⟨t, rfl⟩ := r
    exact ⟨_, Reads.str x t, fun _ z => nomatch z⟩
  | .list ds, _, _, h, r => by
    cases h with
    | lst hs ha =>
      cases r
      obtain ⟨its, rv, ⟨o, n, ho, hc, _, hd⟩, _⟩ := I.list hs
      obtain ⟨as, hr, _⟩ := Dx.readsAll I ds _ its ha rv
      exact ⟨_, Reads.list ho hc hd hr, fun z => by simp [noList] at z⟩
  | .tuple ds, _, _, h, r => by
    cases h with
    | tup hs ha =>
      cases r
      obtain ⟨its, rv, ⟨o, ho, hc, n, hd⟩, _⟩ := I.tuple hs
      obtain ⟨as, hr, f⟩ := Dx.readsAll I ds _ its ha rv
      exact ⟨_, Reads.tuple ho hc hd hr, fun z => f (by simpa [noList] using z)⟩
  | .dict kvs, _, _, h, r => by
    cases h with
    | dct hs =>
      cases r
      obtain ⟨_, ns, vs, kv, o, es, ep, ho, hc, hd, hv⟩ := dk_of I.hok hs
      cases kv
      have e0 : es.toList = [] := by
        have z := hv.2.1
        revert z
        generalize es.toList = l
        intro z
        cases z
        rfl
      refine ⟨_, Reads.dict ho hc.1 hd (by rw [e0]; exact .nil) (by rw [e0]; exact .nil), fun _ z => ?_⟩
      rcases List.mem_cons.mp z with z | z
      · rw [← z] at ns
        cases ns
      · cases z
theorem Dx.readsAll (I : Inv X pins σ H s) : ∀ (ds : List PyData) (vs : List V) (us : List Value), DxAll X.K H vs ds → Vals vs us → ∃ as, ReadsAll s.heap us ds as ∧ (noListAll ds = true → sysModules ∉ as)
  | [], _, _, h, r => by
    cases h
    cases r
    exact ⟨_, ReadsAll.nil, fun _ z => nomatch z⟩
  | d :: ds, _, _, h, r => by
    cases h with
    | cons h1 h2 =>
      cases r with
      | cons r1 r2 =>
        obtain ⟨as, q1, f1⟩ := Dx.reads I d _ _ h1 r1
        obtain ⟨bs, q2, f2⟩ := Dx.readsAll I ds _ _ h2 r2
        refine ⟨_, ReadsAll.cons q1 q2, fun z m => ?_⟩
        have z' : noList d = true ∧ noListAll ds = true := by simpa [noListAll] using z
        exact (List.mem_append.mp m).elim (f1 z'.1) (f2 z'.2)
end
end
/-- what can be shown -/
structure Shows (d : PyData) : Prop where
  sh : d.showable = true
  nl : d.hasDict = true → noList d = true
  dep : d.depth ≤ 60
  nd : nodes d ≤ 8000
section
variable {X : Cx} {k : Nat}
theorem call_repr_x (gd : X.A.guards = some []) (room : Room k X.A) : CallR X (.builtin "repr") (fun xs H Q => ∃ v d, xs = [v] ∧ Dx X.K H v d ∧ Shows d ∧ Q (.str d.shown) H) := by
  intro pins s σ H xs us Q I r h
  obtain ⟨v, d, rfl, hd, S, q⟩ := h
  obtain ⟨u, rfl, rx⟩ := vals1 r
  have un := room.un
  have sz := fits_shown S.sh S.nd
  have ref : ∀ a : Addr, u = .ref a → wpAny (model X.prog X.w) X.A (call (.builtin "repr") [u]) (fun u' s' => ∃ v' H', Inv X pins σ H' s' ∧ RelV v' u' ∧ Q v' H') X.xe s := by
    intro a ha
    subst ha
    obtain ⟨as, rd, f⟩ := Dx.reads I d _ _ hd rx
    have dep := S.dep
    refine repr_of_reads' (h₀ := s.heap) rd S.sh (fun z => f (S.nl z)) gd (by omega) (fun _ _ e => e) ?_ sz
    intro h' u tk kp
    exact ⟨.str d.shown, H, I.kept (t' := tk) kp, ⟨u, rfl⟩, q⟩
  cases hd with
  | non =>
    cases (show u = Value.none from rx)
    exact PySem.P.repr_of_none ⟨.str _, H, I.tok _, ⟨_, rfl⟩, q⟩
  | bl b =>
    cases (show u = Value.bool b from rx)
    exact PySem.P.repr_of_bool ⟨.str _, H, I.tok _, ⟨_, rfl⟩, q⟩
  | int i =>
    obtain ⟨t, rfl⟩ := (show ∃ t, u = Value.int i t from rx)
    exact PySem.P.repr_of_int (by simpa [PyData.showable] using S.sh) ⟨.str _, H, I.tok _, ⟨_, rfl⟩, q⟩
  | str x =>
    obtain ⟨t, rfl⟩ := (show ∃ t, u = Value.str x t from rx)
    exact PySem.P.repr_of_str ⟨.str _, H, I.tok _, ⟨_, rfl⟩, q⟩ sz
  | dct h => exact ref _ rx
  | lst h a => exact ref _ rx
  | tup h a => exact ref _ rx
end
end Ov
namespace Ov
open PySem PySem.Spec PyProof.Rows L2
/-! ### exceptions of the program's classes as values: made, read, asked for their class -/
/-- C(e, ..) as a value, C's own __init__ keeping sp -/
def tMkV (C : Addr) (sp : Sp) (ta : TA) : TE := fun σ H Q => ta σ H fun vs H1 => vs.length ≤ 1000 ∧ ∀ a, H1 a = none → sp (.ref a :: vs) (upd H1 a (exo a C none)) (fun v H2 => v = .non ∧ Q (.ref a) H2) (fun _ _ _ => False)
section
variable {X : Cx} {o e : Expr} {es : List Expr} {to te : TE} {ta : TA} {f : Str} {p p' p1 p2 pos : Pos}
theorem pe_oexV {CX : CXT} {x : Str} {C fI : Addr} {k : Nat} {fd : FuncData} {ps : List Str} {sp : Sp} (T : OexC X.K C) (iC : PySem.W.findIn X.K (.ref C) "__init__" = some (some (.ref fI))) (tI : PySem.W.typeIn X.K (.ref fI) = some (.type "function"))
    (F1 : FnOk X.prog X.w X.K X.mg X.base CX k fI fd ps sp) (hr : Room (k + 1) X.A) (hb : Binds X.K fd ps []) (hx : Passes CX X (fun _ _ _ => False)) (hg : Gl X x) (hm : X.mg x = some (.ref C)) (ha : PA X (e :: es) ta)
    (hdb : (x == ("__debug__" : Str)) = false := by decide) (he : starEach (e :: es) X.env = (false, eval e X.env) :: starEach es X.env := by rfl) (hpl : (backTo pos (starEach es X.env)).any (·.1) = false := by rfl) :
    PE X (.Call (.Name x p) (e :: es) [] pos) (tMkV C sp ta) := by
  refine ⟨fun pins s σ H Q I h => ?_⟩
  obtain ⟨nm, q, N, bs, bm, sn, sub, ab, col, dd, k0, k1, k2, k3, k5, hC, hbm⟩ := T.cls
  refine wpAny_Call_Name_kw (ld_glob I hg hm ?_ hdb)
  refine PySem.W.callWith_K (h₀ := X.base) I.ok.mod.kin T.kC (thn (ha.run pos pins s σ H _ I h) fun us s1 ⟨vs, H1, I1, r1, hz, q1⟩ => ⟨I1.kIn, ?_⟩) he hpl
  show wpAny _ _ (call (.ref C) us) _ _ _
  obtain ⟨hp, g, dr, tk, os⟩ := s1
  have hsz : hp.objs.size ≤ hp.objs.size + 1 := Nat.le_succ _
  have hn : H1 (hp.objs.size + 1) = none := I1.hok.fresh hsz
  have hq := q1 (hp.objs.size + 1) hn
  have kk : ∀ b o, hp.get? b = some o → ((hp.push (PySem.W.kdv_tup us)).push (PySem.HandSPX.excO C hp.objs.size)).get? b = some o := fun b o e => Heap.get?_push_of_some _ (Heap.get?_push_of_some _ e)
  have hget : ((hp.push (PySem.W.kdv_tup us)).push (PySem.HandSPX.excO C hp.objs.size)).get? (hp.objs.size + 1) = some (PySem.HandSPX.excO C hp.objs.size) := by heap_get
  have I2 : Inv X pins σ (upd H1 (hp.objs.size + 1) (exo (hp.objs.size + 1) C none)) ⟨(hp.push (PySem.W.kdv_tup us)).push (PySem.HandSPX.excO C hp.objs.size), g, dr, tk, os⟩ :=
    I1.laid (t' := tk) (a := hp.objs.size + 1) (o := exo (hp.objs.size + 1) C none) (h' := (hp.push (PySem.W.kdv_tup us)).push (PySem.HandSPX.excO C hp.objs.size)) kk hsz (exo_ok hget)
  have r2 : Vals (V.ref (hp.objs.size + 1) :: vs) (Value.ref (hp.objs.size + 1) :: us) := .cons rfl r1
  have hl : (Value.ref (hp.objs.size + 1) :: us).length = ps.length := by
    have e := r2.length
    rw [F1.len _ _ _ _ hq] at e
    exact e.symm
  have hus : us.length ≤ sizeLine := by
    rw [← Paired.length r1, sizeLine_eq]
    omega
  have bt := hb _ (Value.ref (hp.objs.size + 1) :: us) I2.kIn (by simpa using hl)
  rw [List.append_nil] at bt
  refine wpAny_call (PySem.HandSPX.call_own F.excBase_ValueError (fun Y => PySem.HandSPX.refsVE_contains Y bm hbm) (I1.kIn _ _ hC) (PySem.W.looks_findIn I1.kIn iC) (fun self => PySem.W.bind_fn I1.kIn self tI) hus
    (codeAny_mono (F1.run _ X.stack _ _ ⟨Value.ref (hp.objs.size + 1) :: us, []⟩ (Value.ref (hp.objs.size + 1) :: us) _ _ (fun _ _ _ => False) (hr.make C us []) (I2.env0.make C us []) bt r2 hq) fun r s' hq' => ?_))
  cases r with
  | error er => exact hx pins σ _ _ er s' I2 hq'
  | ok fl =>
    cases fl with
    | ret u =>
      obtain ⟨v, H', I3, rv, ev, q3⟩ := I2.after hq'
      subst ev
      exact ⟨rv, ⟨V.ref (hp.objs.size + 1), H', I3, rfl, q3⟩⟩
    | next => exact False.elim hq'
    | brk => exact False.elim hq'
    | cont => exact False.elim hq'
/-- C() as a value, no own __init__ -/
theorem pe_exc0V {C : Addr} {bmB : List Value} {B newId initId : String} {x : Str} (F : ExcBaseFacts B newId initId bmB) (q : PySem.W.excIn X.K C bmB newId = true) (gC : X.mg x = some (.ref C)) (kC : PySem.W.keepIn X.K (.ref C) = true) (hg : Gl X x)
    (hdb : (x == ("__debug__" : Str)) = false := by decide) :
    PE X (.Call (.Name x p) [] [] pos) (fun σ H Q => ∀ a, H a = none → Q (.ref a) (upd H a (exo a C none))) := by
  refine ⟨fun pins s σ H Q I h => ?_⟩
  refine wpAny_Call_Name_kw (ld_glob I hg gC ?_ hdb)
  refine PySem.W.callWith_K0 I.kIn kC ?_
  obtain ⟨bm, N, nm, qn, bs, hdct, sn, sub, ab, col, dd, k0, k1, k2, k3, k5, mN, hC, hN, hni, T⟩ := exc_obj I.kIn q
  refine wpAny_call_exc_subT F T hC hN hni (fun h' a hm => ?_) (by show 0 ≤ sizeLine; exact Nat.zero_le _)
  have hn : H a = none := I.hok.gone hm.new
  obtain ⟨t, ht, _, _⟩ := hm.there
  exact ⟨.ref a, upd H a (exo a C none), I.laidN hm.keeps hm.new hn (exo_ok ht), rfl, h a hn⟩
/-- e.f, e an exception that stands in H -/
def tExf (K : PySem.W.Frag) (n : Str) (te : TE) : TE := fun σ H Q => te σ H fun x H1 => ∃ (a C dx : Addr) (fs : List (Str × V)) (v : V), x = .ref a ∧ XfC K C ∧ PySem.W.findIn K (.ref C) n = some none ∧ H1 a = some (exo a C (some dx)) ∧ H1 dx = some (exd dx fs) ∧ fs.lookup n = some v ∧ Q v H1
theorem pe_exf {n : Str} (he : PE X e te) (hb : attributeBase e n X.env (eval e X.env) = eval e X.env := by rfl) : PE X (.Attribute e n pos) (tExf X.K n te) := by
  refine ⟨fun pins s σ H Q I h => ?_⟩
  refine attr_of hb (thn (he.run pins s σ H _ I h) fun u s1 hh => ?_)
  obtain ⟨x, H1, I1, rx, a, C, dx, fs, v, ex, T, hno, ea, ed, l, q⟩ := hh
  subst ex
  obtain rfl : u = Value.ref a := rx
  obtain ⟨t1, ha⟩ := exo_at I1.hok ea
  obtain ⟨mA, hns, hr⟩ := exd_at I1.hok ed
  obtain ⟨od, ho, hl⟩ := lookIn_ns hns
  obtain ⟨u, hu, ru⟩ := RelO.some_of (v := v) (o := mA n) (by rw [← l]; exact hr n)
  have J : PySem.W.InstAt s1.heap a _ C (some od) := ⟨ha, rfl, rfl, ho⟩
  exact HandSPX.exc_get I1.kIn J T.ga T.gg T.exC (PySem.W.findObj_own T.hdC hno rfl (by rw [hl, hu])) (handed_of ru) ⟨v, H1, I1.tok _, ru, q⟩
/-- isinstance(e, c), e an exception that stands in H -/
def rIsX (K : PySem.W.Frag) : List V → Hp → VK → Prop := fun xs H Q => ∃ (a C : Addr) (d : Option Addr) (c : V) (cv : Value) (b : Bool), xs = [.ref a, c] ∧ ExcC K C ∧ H a = some (exo a C d) ∧ (∀ dx, d = some dx → ∃ fs, H dx = some (exd dx fs)) ∧ (∀ u, RelV c u → u = cv) ∧ PySem.W.kitOne K (.ref C) cv = some b ∧ Q (.bl b) H
theorem call_isX : CallR X (.builtin "isinstance") (rIsX X.K) := by
  intro pins s σ H xs us Q I r h
  obtain ⟨a, C, d, c, cv, b, rfl, E, ea, hd, hcv, e, q⟩ := h
  obtain ⟨u1, u2, rfl, r1, r2⟩ := vals2 r
  cases (show u1 = Value.ref a from r1)
  have ec := hcv _ r2
  subst ec
  obtain ⟨t1, ha⟩ := exo_at I.hok ea
  have hc : (PySem.W.clsIn X.K C).isSome = true := by
    obtain ⟨cd, z, _⟩ := PySem.W.any_some E.hd
    rw [z]
    rfl
  cases d with
  | none =>
    have J : PySem.W.InstAt s.heap a _ C none := ⟨ha, rfl, rfl, trivial⟩
    exact PySem.W.kia_one (PySem.W.kitx_exc hc E.hg E.hk E.hs E.ha E.hn E.ht E.hm) I.kIn J e (fun z => nomatch z) fun tk => ⟨.bl b, H, I.tok tk, rfl, q⟩
  | some dx =>
    obtain ⟨fs, ed⟩ := hd dx rfl
    obtain ⟨mA, hns, hr⟩ := exd_at I.hok ed
    obtain ⟨od, ho, hl⟩ := lookIn_ns hns
    have J : PySem.W.InstAt s.heap a _ C (some od) := ⟨ha, rfl, rfl, ho⟩
    exact PySem.W.kia_one (PySem.W.kitx_exc hc E.hg E.hk E.hs E.ha E.hn E.ht E.hm) I.kIn J e (fun z => nomatch z) fun tk => ⟨.bl b, H, I.tok tk, rfl, q⟩
end
end Ov
namespace Ov
open PySem PySem.Spec PyProof.Rows L2
section
variable {X : Cx}
/-- in every block of a comprehension -/
abbrev Blk (X : Cx) (sc : Scope) (R : Cx → Prop) : Prop := ∀ (s : Shared) (H : Hp) (C : Addr) (cl : List (Str × Addr)) (fp : List Addr), R (X.blk s H sc (compEnvC sc cl C X.env) fp)
/-- a local name that is given a new dict by a comprehension on its own row -/
theorem ps_setDc {i : Nat} {y : Str} {py pos ps : Pos} {kx vx tg it : Expr} {ifs : List Expr} {sc : Scope} {own : List (Str × Nat)} {wi : TI} {g : TG} {tt : TT} {tk tv : TE} (hc : X.calm = true) (nd : X.N.Nodup) (hy : X.N[i]? = some y) (loc : X.env.scope.names.lookup y = some .local)
    (sw : swapsWith (.DictComp kx vx [⟨tg, it, ifs, 0⟩] sc pos) (some (.Name y py)) ps.line X.env = pure true) (hi : PI X tg it wi) (ok : BlkOk X.N X.env.scope sc own) (hg : Blk X sc fun Y => PG Y tg g) (ht : Blk X sc fun Y => PTs Y ifs tt)
    (hk : Blk X sc fun Y => PE Y kx tk) (hv : Blk X sc fun Y => PE Y vx tv) (fs : ∀ x, foldedSetIterable it X.env x = pure x := by intro _; rfl) :
    PS X (.Assign [.Name y py] (.DictComp kx vx [⟨tg, it, ifs, 0⟩] sc pos) ps) (tAsg (tDc wi g tt tk tv (own.map (·.2))) (gName i)) := by
  constructor
  intro pins s σ H D I h
  rw [exec_Assign_Name_used _ _ _ _ sw]
  have core := dc_core (pos := pos) (pos' := firstIterPos [⟨tg, it, ifs, 0⟩] pos) (use := some (assign (.Name y py) X.env)) (Qf := fun _ t => SP X pins D .next t) (Q := fun x H1 => gName i x σ H1 D.nx) hc nd I hi ok hg ht hk hv fs h ?key
  · exact wpAny_bind (wpAny_standAt (wpAny_bind (wpAny_bind (thn core fun _ _ z => wpAny_pure (wpAny_pure z)))))
  case key =>
    intro L C t m G J q ns fp
    obtain ⟨p0, p1, _, p3, p4, p5⟩ := fp
    refine wpAny_assign_Name (store_ok2 (v := V.ref L) J nd hy (Or.inl loc) rfl ?_ (Or.inr loc))
    rintro t2 J2 ⟨a, sb, ha⟩
    have away : C ≠ a := ha.elim (fun z => z ▸ p1) (fun z w => p4 y a z w.symm)
    exact ⟨m, ns.sameBut sb away, fun _ sb3 => ⟨_, G, J2.turned (t' := t2.toks) (fun b _ hb e => (sb3.2 b hb).trans e) p0 p1 p3 p4 p5, q⟩⟩
theorem sw_dict {kx vx : Expr} {gs : List Comprehension} {sc : Scope} {pos py : Pos} {y : Str} {l : Nat} {env : Env} (kd : env.scope.kind = .function) (loc : env.scope.names.lookup y = some .local) (row : (py.line == pos.line) = true)
    (no : (sc.names.any fun (n, k) => n == y && (k == .local || k == .cell)) = false) : swapsWith (.DictComp kx vx gs sc pos) (some (.Name y py)) l env = pure true := by
  have h1 : env.blockKind = .function := by rw [Env.blockKind, kd]; rfl
  have h2 : env.kindOf y = some .local := loc
  rw [swapsWith]
  simp only [h1, h2, no, Expr.pos, row]
  rfl
end
end Ov
namespace Ov
open PySem PySem.Spec PyProof.Rows L2
/-! ### tuple * int where nothing new is made, or nothing is left -/
theorem mul_same (l : Addr) (it : Array Value) (n : Nat) (dd : Option Addr) (sl : Array (Option Value)) (x : Int) (u : Tok) (c0 : (decide (x < -(2 ^ 63)) || decide (x ≥ 2 ^ 63)) = false) (c1 : (it.isEmpty || x == 1) = true) :
    Meets (Builtin.«tuple.__mul__» ⟨[.ref l, .int x u], []⟩) (fun _ R s => s.heap.get? l = some { cls := .type "tuple", dict := dd, data := .seq it n, slots := sl } ∧ R (.ok (.ret (Value.ref l))) s) := by
  refine .of_wp fun prog w A R s h => ?_
  rcases s with ⟨hp, g, d, tk, os⟩
  rcases h with ⟨at_, hR⟩
  have ix := AutoSeq1.idx_int
  wp_walk using wpAny_loadPart' at_
  refine wpAny_ite_false (decide_eq_false fun z => by rw [c0] at z; cases z) ?_
  wp_walk using wpAny_loadPart' at_
  exact ⟨_, rfl, hR⟩
theorem mul_none (l : Addr) (it : Array Value) (n : Nat) (dd : Option Addr) (sl : Array (Option Value)) (x : Int) (u : Tok) (c0 : (decide (x < -(2 ^ 63)) || decide (x ≥ 2 ^ 63)) = false) (c1 : (it.isEmpty || x == 1) = false) (c2 : (decide (x ≤ 0) || it.isEmpty) = true) :
    Meets (Builtin.«tuple.__mul__» ⟨[.ref l, .int x u], []⟩) (fun _ R s => s.heap.get? l = some { cls := .type "tuple", dict := dd, data := .seq it n, slots := sl } ∧ R (.ok (.ret (Value.ref s.heap.objs.size))) { s with heap := s.heap.push { cls := Value.type "tuple", data := Data.seq #[] } }) := by
  refine .of_wp fun prog w A R s h => ?_
  rcases s with ⟨hp, g, d, tk, os⟩
  rcases h with ⟨at_, hR⟩
  have ix := AutoSeq1.idx_int
  wp_walk using wpAny_loadPart' at_
  refine wpAny_ite_false (decide_eq_false fun z => by rw [c0] at z; cases z) ?_
  wp_walk using wpAny_loadPart' at_
  exact ⟨_, rfl, hR⟩
/-- tuple * int, 0 to 1000 times -/
def rRepA (K : PySem.W.Frag) : R2 := fun x y H Q => ∃ (l : Addr) (k : Nat) (xs : List V), x = .ref l ∧ y = .int (k : Int) ∧ SqT K H l xs ∧ k ≤ 1000 ∧ xs.length ≤ 1000 ∧ (xs = [] ∨ k = 1 → Q (.ref l) H) ∧ (xs ≠ [] → k ≠ 1 → ∀ p, H p = none → Q (.ref p) (upd H p (.tup (List.replicate k xs).flatten)))
theorem op_repA {X : Cx} : OpR X (binaryOp .Mult) (rRepA X.K) := by
  intro pins s σ H x y v u Q I rx ry h
  have h0 := h
  obtain ⟨l, k, xs, ex, ey, hT, hk, hz, q1, q2⟩ := h
  by_cases big : xs ≠ [] ∧ 2 ≤ k
  · refine op_repT pins s σ H x y v u Q I rx ry ⟨l, (k : Int), xs, ex, ey, hT, big.1, by omega, by omega, hz, fun p np => ?_⟩
    rw [Int.toNat_natCast]
    exact q2 big.1 (by omega) p np
  subst ex ey
  cases rx
  obtain ⟨t, rfl⟩ := ry
  obtain ⟨its, r, ⟨⟨cls, dd, data, sl⟩, ho, hc, n, hd⟩, hs⟩ := I.tuple hT
  dsimp only at hc hd
  subst hc hd
  have le : its.length = xs.length := r.length.symm
  have c0 : (decide ((k : Int) < -(2 ^ 63)) || decide ((k : Int) ≥ 2 ^ 63)) = false := by
    rw [Bool.or_eq_false_iff]
    exact ⟨decide_eq_false (by omega), decide_eq_false (by omega)⟩
  by_cases one : xs = [] ∨ k = 1
  · have c1 : (its.toArray.isEmpty || (k : Int) == 1) = true := by
      rcases one with e | e
      · have : its = [] := List.eq_nil_of_length_eq_zero (by rw [le, e]; rfl)
        rw [this]
        rfl
      · rw [e, Bool.or_eq_true]
        exact .inr rfl
    exact wpAny_binaryOp_repeat_ref (T := "tuple") (U := "int") (by decide) ⟨_, ho, rfl⟩ (fun s' => typeIs_int s' _ t) noFill_tuple_mul F.fills_int_mul F.slot_int_rmul repeat_tuple F.slot_int_index.lookup
      (call_meets F.slot_int_rmul (typeIs_int s _ t) F.entry_int_rmul (F.args_int_rmul_2 _ _) (int_rmul_tuple _ t l its.toArray n dd sl)
        ⟨ho, rfl, ⟨_, ho, rfl⟩, call_meets F.slot_tuple_mul ⟨_, ho, rfl⟩ F.entry_tuple_mul (F.args_tuple_mul_2 _ _) (mul_same l its.toArray n dd sl _ t c0 c1) ⟨ho, .ref l, H, I, rfl, q1 one⟩⟩)
  · have k0 : k = 0 := by
      rcases Nat.lt_or_ge k 2 with z | z
      · have : k ≠ 1 := fun e => one (.inr e)
        omega
      · exact absurd ⟨fun e => one (.inl e), z⟩ big
    subst k0
    have ne : xs ≠ [] := fun e => one (.inl e)
    have c1 : (its.toArray.isEmpty || ((0 : Nat) : Int) == 1) = false := by
      cases its with
      | nil => exact absurd (List.eq_nil_of_length_eq_zero le.symm) ne
      | cons a b => rfl
    have hq := q2 ne (by decide) s.heap.objs.size (I.hok.fresh (Nat.le_refl _))
    refine wpAny_binaryOp_repeat_ref (T := "tuple") (U := "int") (by decide) ⟨_, ho, rfl⟩ (fun s' => typeIs_int s' _ t) noFill_tuple_mul F.fills_int_mul F.slot_int_rmul repeat_tuple F.slot_int_index.lookup
      (call_meets F.slot_int_rmul (typeIs_int s _ t) F.entry_int_rmul (F.args_int_rmul_2 _ _) (int_rmul_tuple _ t l its.toArray n dd sl)
        ⟨ho, rfl, ⟨_, ho, rfl⟩, call_meets F.slot_tuple_mul ⟨_, ho, rfl⟩ F.entry_tuple_mul (F.args_tuple_mul_2 _ _) (mul_none l its.toArray n dd sl _ t c0 c1 rfl) ⟨ho, .ref s.heap.objs.size, _, ?_, rfl, hq⟩⟩)
    exact I.laid (t' := s.toks) (o := .tup []) (fun b ob z => Heap.get?_push_of_some _ z) (Nat.le_refl _) ⟨Nat.zero_le _, [], .nil, IsTup.new _ _⟩
end Ov
namespace Ov
open PySem PySem.Spec PyProof.Rows L2
/-! ### sets of ints made by a comprehension -/
/-- an int that goes into the set at D -/
def PutI (w : World) (D : Addr) (y : V) (H : Hp) (N : Hp → Prop) : Prop := ∃ (c : Int) (S : Int → Bool) (n : Nat), y = .int c ∧ H D = some (SetO w D S n) ∧ n + 1 < scanBound ∧ N (upd H D (SetO w D (fun j => S j || decide (j = c)) (if S c = true then n else n + 1)))
/-- a turn: the item x, the test, the member -/
def TurnI (w : World) (D : Addr) (g : TG) (tt : TT) (te : TE) (σ0 : L2.St) (vs : List Nat) (x : V) (H : Hp) (N : Hp → Prop) : Prop := g x σ0 H fun σ2 H2 => wipe σ2 vs = σ0 ∧ tt σ2 H2 fun b H3 => if b = true then te σ2 H3 fun y H4 => PutI w D y H4 N else N H3
def tScI (w : World) (wi : TI) (g : TG) (tt : TT) (te : TE) (vs : List Nat) : TE := fun σ H Q => wi σ H fun J H1 => ∀ D, H1 D = none → ∃ W : Nat → Nat → Hp → Prop, (∃ m, W 0 m (upd H1 D (SetO w D (fun _ => false) 0))) ∧
  ∀ i m G, W i m G → (J.stop i G ∧ Q (.ref D) G) ∨ (J.go i G ∧ ∃ N : Hp → Prop, (∀ G', N G' → ∃ m', m' < m ∧ W (i + 1) m' G') ∧ ∀ x G', J.yld i G x G' → TurnI w D g tt te (wipe σ vs) vs x G' N)
section
variable {X : Cx}
theorem addI_ok {pins : List (Addr × Obj)} {σ : L2.St} {H : Hp} {s : Shared} {E : Value → Shared → Prop} {D : Addr} {S : Int → Bool} {n : Nat} {y : Int} {u : Value} {Q : Value → Shared → Prop} (I : Inv X pins σ H s) (hD : H D = some (SetO X.w D S n)) (room : n + 1 < scanBound) (ru : RelV (.int y) u)
    (h : ∀ t, Inv X pins σ (upd H D (SetO X.w D (fun j => S j || decide (j = y)) (if S y = true then n else n + 1))) t → Q .none t) : wpAny (model X.prog X.w) X.A (call (.builtin "set.add") [.ref D, u]) Q E s := by
  obtain ⟨tk, rfl⟩ := ru
  refine setR_add (setO_get I hD) room fun g sb nw => h _ ?_
  obtain ⟨o, _, _, _, ho, _⟩ := id nw
  exact I.write (e := D) (t' := s.toks + 1) (by rw [hD]; trivial) (.inl rfl) (fun b _ hb z => (sb.2 b hb).trans z) ⟨o, ho⟩ (setO_new nw)
/-- the object of a new set -/
abbrev set0 (w : World) : Obj := { cls := .type "set", dict := none, data := .set #[] 0 (.fresh 0 0 (!w.params.followText "set-order")) }
theorem pe_scI {el tg it : Expr} {ifs : List Expr} {sc : Scope} {own : List (Str × Nat)} {pos : Pos} {wi : TI} {g : TG} {tt : TT} {te : TE} (hc : X.calm = true) (nd : X.N.Nodup) (hi : PI X tg it wi) (ok : BlkOk X.N X.env.scope sc own)
    (hg : Blk X sc fun Y => PG Y tg g) (ht : Blk X sc fun Y => PTs Y ifs tt) (he : Blk X sc fun Y => PE Y el te) (fs : ∀ x, foldedSetIterable it X.env x = pure x := by intro _; rfl) :
    PE X (.SetComp el [⟨tg, it, ifs, 0⟩] sc pos) (tScI X.w wi g tt te (own.map (·.2))) := by
  constructor
  intro pins s σ H Q I h
  rw [PpSet.eval_SetComp]
  have cells : ∀ y ∈ sc.names, y.2 = .free → ∃ c, X.env.cells.lookup y.1 = some c := fun y hy e => (ok.free y hy e).elim (fun z => I.ok.has _ (Or.inl z)) (fun z => I.ok.has _ (Or.inr z))
  refine wpAny_comprehension_free (use := none) rfl fs (closure_ok cells) ok.kind (fun y hy e => by rw [ok.uniq y hy, e]) (thn (hi.run pins s σ H _ I h) fun _ _ z1 => thn z1 fun _ t2 z2 => ?_)
  obtain ⟨a, fp, tn, J, G2, rfl, I2, T, st2, f2, q⟩ := z2
  refine PpSet.newSet_ok (newEnv_comp ?_)
  obtain ⟨D, eD⟩ : ∃ D, D = t2.heap.objs.size := ⟨_, rfl⟩
  rw [← eD]
  obtain ⟨W, ⟨m0, w0⟩, turn⟩ := q D (I2.hok.fresh (Nat.le_of_eq eD.symm))
  obtain ⟨t3, e3⟩ : ∃ t3 : Shared, t3 = { t2 with heap := t2.heap.push (set0 X.w) } := ⟨_, rfl⟩
  have hp3 : t3.heap = t2.heap.push (set0 X.w) := by rw [e3]
  have I3 : Inv X pins σ (upd G2 D (SetO X.w D (fun _ => false) 0)) t3 := by
    rw [e3]
    refine I2.laid (t' := t2.toks) (fun _ _ z => Heap.get?_push_of_some _ z) (Nat.le_of_eq eD.symm) ?_
    rw [eD]
    exact setO_new (setR_fresh X.w)
  have low : ∀ b ∈ fp, b < t2.heap.objs.size := fun b hb => (T.obj _ _ st2 b hb).elim fun _ z => Heap.lt_size z.1
  have f3 : ∀ b ∈ fp, FpOk X pins (upd G2 D (SetO X.w D (fun _ => false) 0)) b ∧ b < t3.heap.objs.size := fun b hb =>
    ⟨⟨by rw [upd_ne (by rw [eD]; exact Nat.ne_of_lt (low b hb))]; exact (f2 b hb).1, (f2 b hb).2⟩, by rw [hp3, Heap.size_push]; exact Nat.lt_succ_of_lt (low b hb)⟩
  have st3 : tn 0 t3.heap := T.keep _ _ _ st2 fun _ _ _ z => by rw [hp3]; exact Heap.get?_push_of_some _ z
  have I4 := block_start I3 ok nd f3
  generalize hG3 : upd G2 D (SetO X.w D (fun _ => false) 0) = G3 at *
  obtain ⟨C, eC⟩ : ∃ C, C = t3.heap.objs.size := ⟨_, rfl⟩
  obtain ⟨ce, ece⟩ : ∃ ce, ce = compEnvC sc (cellsFrom (t3.heap.objs.size + 1) sc.names (cloFrom X.env.cells sc.names [])) t3.heap.objs.size X.env := ⟨_, rfl⟩
  have pg := hg t3 G3 t3.heap.objs.size (cellsFrom (t3.heap.objs.size + 1) sc.names (cloFrom X.env.cells sc.names [])) fp
  have pt := ht t3 G3 t3.heap.objs.size (cellsFrom (t3.heap.objs.size + 1) sc.names (cloFrom X.env.cells sc.names [])) fp
  have pe := he t3 G3 t3.heap.objs.size (cellsFrom (t3.heap.objs.size + 1) sc.names (cloFrom X.env.cells sc.names [])) fp
  rw [← ece] at pg pt pe I4
  have loc : ce.locals = C := by rw [ece, eC]; rfl
  obtain ⟨t4, e4⟩ : ∃ t4 : Shared, t4 = { t3 with heap := pushCells (t3.heap.push { cls := .type "dict", data := .dict #[] }) sc.names } := ⟨_, rfl⟩
  rw [← e4] at I4
  have st4 : tn 0 t4.heap := T.keep _ _ _ st3 fun _ _ _ z => by rw [e4]; exact pushCells_keeps _ _ _ _ (Heap.get?_push_of_some _ z)
  have nfp : ∀ b ∈ fp, G3 b = none := fun b hb => (f3 b hb).1.1
  have still : ∀ {σ' : L2.St} {G : Hp} {t : Shared}, Inv (X.blk t3 G3 sc ce fp) [] σ' G t → (∀ b ∈ fp, G b = none) → ∀ b ∈ fp, FpOk (X.blk t3 G3 sc ce fp) [] G b := fun {σ' G t} K hn b hb =>
    ⟨hn b hb, (K.ok.exf b hb).1, K.ok.exfs b hb, .inl hb, fun x c z => (K.ok.exf b hb).2 x c z, fun p hp => absurd (show p ∈ ([] : List (Addr × Obj)) ++ [] from hp) (by simp)⟩
  have loop : codeAny (model X.prog X.w) X.A (.compLoop (.SetComp el [⟨tg, it, ifs, 0⟩] sc pos) 0 (.ref a) (.ref D) ce) (compPost (model X.prog X.w) X.A X.xe none (EP X pins σ Q) (.ref D) C) t4 := by
    refine PpSet.compLoopS_any (fun n t => ∃ i G, Inv (X.blk t3 G3 sc ce fp) [] (wipe σ (own.map (·.2))) G t ∧ tn i t.heap ∧ (∀ b ∈ fp, G b = none) ∧ W i n G) ?_ m0 ⟨0, G3, I4, st4, nfp, w0⟩
    rintro n t5 ⟨i, G5, I5, st5, n5, w5⟩
    rcases turn i n G5 w5 with ⟨stop, qq⟩ | ⟨go, N, hN, step⟩
    · refine thnF (T.done (X.blk t3 G3 sc ce fp) rfl rfl rfl hc i [] t5 _ G5 (fun _ _ => False) I5 (still I5 n5) st5 stop) fun r t6 z => ?_
      obtain ⟨rfl, I6⟩ := z
      have I7 : Inv X pins σ G5 t6 := I3.call' (ch := fp) I6.os I6.base I6.hok I6.bare fun b hb => ⟨(f3 b hb).1.2.2.2.1, (f3 b hb).1.2.1, (f3 b hb).1.2.2.2.2.1, (f3 b hb).1.2.2.2.2.2⟩
      have nC : G5 C = none := by rw [← loc]; exact I6.free
      obtain ⟨m, ns, _⟩ := I6.loc
      replace ns : t6.heap.Ns C m := by rw [← loc]; exact ns
      obtain ⟨p0, p1, _, p3, p4, p5⟩ := I3.fpOk (Nat.le_of_eq eC.symm) nC
      exact ⟨m, ns, fun _ sb => ⟨.ref D, G5, I7.turned (t' := t6.toks) (fun b _ hb z => (sb.2 b hb).trans z) p0 p1 p3 p4 p5, rfl, qq⟩⟩
    · refine thnF (T.item (X.blk t3 G3 sc ce fp) rfl rfl rfl hc i [] t5 _ G5 (fun _ _ => False) I5 (still I5 n5) st5 go) fun r t6 z => ?_
      obtain ⟨u, rfl, z⟩ := z
      refine thnF z fun _ t7 ⟨x, G7, I7, r7, y7, st7, n7⟩ => ?_
      refine thnF (pg.run _ t7 _ G7 x u _ (I7.pinned (still I7 n7) (T.obj _ _ st7)) r7 (step x G7 y7)) fun _ t8 ⟨σ8, G8, I8, w8, q8⟩ => ?_
      refine thnF (pt.run _ t8 σ8 G8 _ I8 q8) fun b t9 ⟨G9, I9, q9⟩ => ?_
      have again : ∀ {t : Shared} {G : Hp}, Inv (X.blk t3 G3 sc ce fp) ([] ++ pinsAt fp t7.heap) σ8 G t → N G → ∃ m, m < n ∧ ∃ i G, Inv (X.blk t3 G3 sc ce fp) [] (wipe σ (own.map (·.2))) G t ∧ tn i t.heap ∧ (∀ b ∈ fp, G b = none) ∧ W i m G := fun {t G} K nx => by
        obtain ⟨m', lt, w'⟩ := hN G nx
        have pin : ∀ b ∈ fp, ∀ o, t7.heap.get? b = some o → t.heap.get? b = some o ∧ G b = none := fun b hb o z => by
          have y := K.pin (b, o) (List.mem_append_right _ (List.mem_append_right _ (mem_pinsAt hb z)))
          exact ⟨y.1, y.2.1⟩
        have len : (wipe σ (own.map (·.2))).length = σ8.length := by rw [← w8, wipe_length]
        exact ⟨m', lt, i + 1, G, (K.unpinned (pins := [])).weak len (fun _ _ z => by rw [← w8] at z; exact (wipe_some z).1), T.keep _ _ _ st7 fun b hb o z => (pin b hb o z).1, fun b hb => (T.obj _ _ st7 b hb).elim fun o z => (pin b hb o z.1).2, w'⟩
      cases b with
      | false => exact again I9 q9
      | true =>
        refine thnF (pe.run _ t9 σ8 G9 _ I9 q9) fun v t10 ⟨yv, G10, I10, r10, z⟩ => ?_
        obtain ⟨c, S, k, rfl, hD, room, nx⟩ := z
        exact addI_ok (X := X.blk t3 G3 sc ce fp) I10 hD room r10 fun t11 I11 => again I11 nx
  have start := PpSet.codeAny_compStart_set loop (T.self X.A 0 _ _ _ st4 loop)
  rw [ece, e4, e3] at start
  rw [eC, e3] at start
  exact start
end
end Ov
namespace Ov
open PySem PySem.Spec PyProof.Rows L2
/-! ### set(xs), xs a list of ints -/
section
variable {P : Program} {w : World} {A : Around} {E : Value → Shared → Prop} {s : Shared}
theorem set_of_ints {l : Addr} {its : Array Value} (zs : List Int) {Q : Value → Shared → Prop} (ha : A.handled = none) (hl : s.heap.IsList l its) (hz : IntsAre its.toList zs) (few : zs.length + 1 < scanBound)
    (fin : ∀ (g : Heap) (tk c : Nat), SetR w g s.heap.objs.size (fun j => decide (j ∈ zs)) c → c ≤ zs.length → (∀ b o, s.heap.get? b = some o → g.get? b = some o) → Q (.ref s.heap.objs.size) { s with heap := g, toks := tk }) :
    wpAny (model P w) A (call (.type "set") [.ref l]) Q E s := by
  have n0 : its.size = zs.length := by have z := IntsAre.length hz; rwa [Array.length_toList] at z
  obtain ⟨c0, t0, m0⟩ := PySem.F.called_set.mro
  have m1 := PySem.F.called_set.made; have m2 := PySem.F.called_set.sub
  have m3 := PySem.F.called_set.notType; have m4 := PySem.F.called_set.canCreate
  have m5 := PySem.F.typeCall_set_1 (.ref l)
  refine wpAny_call (codeAny_of_tree ?_); show wpAny _ _ (callAny (.type "set") _) _ _ _
  refine wpAny_pure (And.intro (Code.quiet_builtin _ (by decide +kernel)) (codeAny_builtin PySem.F.entry_type_call ?_)); rewrite [Around.under_plain (weight_type_call_type "set" [Value.ref l] []) rfl]
  repeat any_goals first | assumption | wp_step
  generalize hS0 : s.heap.objs.size = D at *
  have gD : (s.heap.push (set0 w)).get? D = some (set0 w) := by rw [← hS0]; exact Heap.get?_push_size _ rfl
  have tD : Shared.TypeIs { s with heap := s.heap.push (set0 w) } (.ref D) "set" := ⟨_, gD, rfl⟩
  refine codeAny_mono (code_set_led1 (.ref l) (E := E) (Q₁ := fun o s₁ => o = .ref D ∧ s₁ = { s with heap := s.heap.push (set0 w) }) ⟨by rw [hS0], rfl⟩) fun r s₁ hr => ?_
  cases r with
  | error e => exact hr
  | ok fl =>
    cases fl with
    | ret o =>
      obtain ⟨rfl, rfl⟩ := hr
      have i1 := PySem.F.called_set.init.lookup; have i2 := PySem.F.called_set.init.bind (.ref D)
      repeat any_goals first | assumption | wp_step
      refine codeAny_mono (codeAny_call_builtin (R := wants (fun r s₂ => r = .none ∧ ∃ g tk c, s₂ = { s with heap := g, toks := tk } ∧ SetR w g D (fun j => decide (j ∈ zs)) c ∧ c ≤ zs.length ∧ ∀ b o, s.heap.get? b = some o → g.get? b = some o) E) PySem.F.called_set.init.plain PySem.F.entry_set_init (check_set_init_1 tD ?_)) fun r₂ s₂ h₂ => ?_
      · obtain ⟨lo, lg, lc, ln, ld⟩ := hl
        obtain ⟨lcls, ldict, ldata, lslots⟩ := lo
        simp only at lc ld; subst lc; subst ld
        have gl : (s.heap.push (set0 w)).get? l = some { cls := .type "list", dict := ldict, data := .seq its ln, slots := lslots } := Heap.get?_push_of_some _ lg
        have il : (s.heap.push (set0 w)).IsList l its := ⟨_, gl, rfl, ln, rfl⟩
        have x1 := PySem.F.sub_list_set; have x2 := PySem.F.sub_list_frozenset
        have x3 : (Value.type "list" == Value.type "dict") = false := by decide
        unfold Builtin.«set.__init__» noKeywords Builtin.Frozenset.updateFrom; generalize pe : pyIter = it0
        wp_walk
        subst pe; refine wpAny_pyIter_list il (wpAny_bind (wpAny_runValue ?_))
        have l0 : l < D := by rw [← hS0]; exact Heap.lt_size lg
        have sz : (s.heap.push (set0 w)).objs.size = D + 1 := by rw [Heap.size_push, hS0]
        have vals : ∀ (i : Nat) (v : Value), its[i]? = some v → ∃ k t, zs[i]? = some k ∧ v = .int k t := fun i v hv => by
          have lt : i < zs.length := by rw [← n0]; exact (Array.getElem?_eq_some_iff.mp hv).1
          obtain ⟨t, e⟩ := IntsAre.int_at hz i v (by rw [Array.getElem?_toList]; exact hv)
          exact ⟨zs[i], t, List.getElem?_eq_getElem lt, by rw [e, List.getD_eq_getElem?_getD, List.getElem?_eq_getElem lt]; rfl⟩
        refine set_update_ints ((Walks.list (by simp [ha]) _ l (by rw [sz]; exact Nat.ne_of_lt (Nat.lt_succ_of_lt l0)) its).toS) D (by rw [sz]; simp; exact Nat.ne_of_gt l0) zs n0 few vals its.size 0 _ (by omega) (Nat.zero_le _) ⟨⟨_, Heap.get?_push_size _ rfl, rfl, rfl⟩, il.push _⟩ ⟨0, Nat.le_refl 0, setR_new_at (Heap.get?_push_of_some _ gD)⟩ ?_
        rintro ⟨g, g2, d2, tk2, os2⟩ c mv cl hR
        obtain rfl : g2 = s.gens := mv.gens
        obtain rfl : d2 = s.drawn := mv.drawn
        obtain rfl : os2 = s.os := mv.os
        show wpAny _ _ _ _ _ _; refine wpAny_pure ?_; show wpAny _ _ (ret Value.none) _ _ _
        refine wpAny_pure ⟨rfl, g, tk2, c, rfl, hR, by omega, fun b o e => ?_⟩
        have bl : b < D := by rw [← hS0]; exact Heap.lt_size e
        exact mv.heap b o (by rw [sz]; simp; exact ⟨Nat.ne_of_lt bl, Nat.ne_of_lt (Nat.lt_succ_of_lt bl)⟩) (Heap.get?_push_of_some _ (Heap.get?_push_of_some _ e))
      · cases r₂ with
        | error e => exact h₂
        | ok f₂ =>
          cases f₂ with
          | ret r =>
            obtain ⟨rfl, g, tk, c, rfl, z1, z2, z3⟩ := h₂
            repeat any_goals first | assumption | wp_step
            exact fin g tk c z1 z2 z3
          | _ => exact h₂.elim
    | _ => exact hr.elim
end
section
variable {X : Cx}
theorem ints_of {zs : List Int} {us : List Value} (h : Vals (zs.map V.int) us) : IntsAre us zs := by
  induction zs generalizing us with
  | nil => cases h; exact .nil
  | cons z r ih =>
    cases h with
    | cons a b =>
      obtain ⟨t, rfl⟩ := a
      exact .cons z t (ih b)
/-- a new set of the ints of a list; ds are its members -/
def rSetI (K : PySem.W.Frag) (w : World) : List V → Hp → VK → Prop := fun xs H Q => ∃ (l : Addr) (zs : List Int), xs = [V.ref l] ∧ SqL K H l (zs.map V.int) ∧ zs.length < 4000 ∧
  ∀ (a : Addr) (ds : List Int), H a = none → ds.Nodup → (∀ d ∈ ds, d ∈ zs) → Q (.ref a) (upd H a (SetO w a (fun j => decide (j ∈ zs)) ds.length))
theorem cr_setI (hc : X.calm = true) : CallR X (.type "set") (rSetI X.K X.w) := by
  intro pins s σ H xs us Q I r h
  obtain ⟨l, zs, rfl, hl, few, q⟩ := h
  rw [Vals.ref1 r]
  obtain ⟨its, rv, pl, sz⟩ := I.list hl
  have nn : H s.heap.objs.size = none := I.hok.fresh (Nat.le_refl _)
  refine set_of_ints zs (I.ok.hd hc) pl.isList (by simpa using ints_of rv) (by show zs.length + 1 < 4096; omega) fun g tk c R le k => ?_
  obtain ⟨o, es, ep, t, _, _, _, _, z1, z2, _, _, z3, _⟩ := id R
  have len : (es.toList.map keyOf).length = c := by rw [List.length_map, Array.length_toList]; exact z3
  rw [← len] at R
  exact ⟨.ref s.heap.objs.size, _, I.laid (t' := tk) k (Nat.le_refl _) (setO_new R), rfl, q _ _ nn z1 fun d hd => of_decide_eq_true ((z2 d).mpr hd)⟩
/-! ### tuple(range(i, j, c)) -/
def rg3V (i c : Int) (n : Nat) : List V := (List.range n).map fun k => V.int (i + ((k : Nat) : Int) * c)
def tTupRg3 (ta : TA) : TE := fun σ H Q => ta σ H fun vs H1 => ∃ (i j c : Int) (n : Nat), vs = [.int i, .int j, .int c] ∧ RgC i j c n ∧ n ≤ 1000 ∧ ∀ q, H1 q = none → Q (.ref q) (upd H1 q (.tup (rg3V i c n)))
theorem vals_rg3 {i c : Int} {n : Nat} {acc : Array Value} (h : ItemsOf (fun k v => ∃ t, v = .int (i + k * c) t) acc n) : Vals (rg3V i c n) acc.toList := by
  have len : n = acc.toList.length := by rw [Array.length_toList, h.1]
  subst len
  exact vals_of_get acc.toList (fun m => V.int (i + ((m : Nat) : Int) * c)) fun m x hm => by
    obtain ⟨t, ex⟩ := h.2 m x (by rw [← Array.getElem?_toList]; exact hm)
    exact ⟨t, ex⟩
theorem pe_tupRg3 {a b c : Expr} {ta : TA} {p p2 pos pos2 : Pos} (hc : X.calm = true) (hg : Gl X "tuple") (hm : X.mg "tuple" = none) (hgR : Gl X "range") (hmR : X.mg "range" = none) (ha : PA X [a, b, c] ta)
    (na : starEach [.Call (.Name "range" p2) [a, b, c] [] pos2] X.env = (false, eval (.Call (.Name "range" p2) [a, b, c] [] pos2) X.env) :: starEach [] X.env := by rfl)
    (hs : starEach [a, b, c] X.env = (false, eval a X.env) :: starEach [b, c] X.env := by rfl) (hpl : (backTo pos2 (starEach [b, c] X.env)).any (·.1) = false := by rfl) :
    PE X (.Call (.Name "tuple" p) [.Call (.Name "range" p2) [a, b, c] [] pos2] [] pos) (tTupRg3 ta) := by
  refine ⟨fun pins s σ H Q I h => Call_ (ld_blt I hg hm boot_tuple (PyProof.Rows.callWith_type1 (args_cons (Call_ (ld_blt I hgR hmR boot_range (PyProof.Rows.callWith_type1 (thn (ha.run pos2 pins s σ H _ I h) fun us s1 ⟨vs, H1, I1, r1, q1⟩ => ?_) hs hpl))) na) na))⟩
  obtain ⟨lo, up, st, n, rfl, ⟨z0, z1, z2, z3⟩, hn, q⟩ := q1
  obtain _ | ⟨⟨t0, rfl⟩, _ | ⟨⟨t1, rfl⟩, _ | ⟨⟨t2, rfl⟩, _ | _⟩⟩⟩ := r1
  refine call_range_3 z0 (args_nil ?_) (.inl (PyProof.noPylong_small z1))
  have J : Inv X pins σ H1 { s1 with heap := s1.heap.push { cls := .type "range", data := .fields #[.int lo t0, .int up t1, .int st t2] } } := I1.kept (t' := s1.toks) fun _ _ z => Heap.get?_push_of_some _ z
  refine call_tuple_range (n := n) (J.ok.hd hc) (IsRange.new ..) z2 z3 (by omega) fun g tk acc kp its => ?_
  have J3 : Inv X pins σ H1 { s1 with heap := g, toks := tk } := J.kept kp
  have small : (rg3V lo st n).length ≤ sizeLine := by unfold rg3V; rw [List.length_map, List.length_range, sizeLine_eq]; omega
  have new : ObjOk X.prog X.w (upd H1 g.objs.size (.tup (rg3V lo st n))) (g.push { cls := .type "tuple", data := .seq acc }) g.objs.size (.tup (rg3V lo st n)) := ⟨small, acc.toList, vals_rg3 its, (by rw [Array.toArray_toList]; exact IsTup.new _ _)⟩
  exact ⟨.ref g.objs.size, _, J3.laid (t' := tk) (fun _ _ z => Heap.get?_push_of_some _ z) (Nat.le_refl _) new, rfl, q _ (J3.hok.fresh (Nat.le_refl _))⟩
end
end Ov
namespace Ov
open PySem PySem.Spec PyProof.Rows L2 HT
/-! ### every second item -/
def evn {α : Type} : List α → List α
  | [] => []
  | [x] => [x]
  | x :: _ :: r => x :: evn r
theorem evn_sub {α : Type} : ∀ l : List α, (evn l).Sublist l
  | [] => .slnil
  | [x] => List.Sublist.refl _
  | x :: y :: r => ((evn_sub r).cons y).cons₂ x
theorem evn_vals : ∀ (xs : List V) (us : List Value), Vals xs us → Vals (evn xs) (evn us)
  | [], _, .nil => .nil
  | [x], _, .cons a .nil => .cons a .nil
  | x :: y :: r, _, .cons a (.cons _ c) => .cons a (evn_vals r _ c)
theorem evn_pick {α : Type} : ∀ l : List α, ((List.range ((l.length + 1) / 2)).filterMap fun k => l[2 * k]?) = evn l
  | [] => by simp [evn]
  | [x] => by
    rw [show ([x].length + 1) / 2 = 1 by simp, show List.range 1 = [0] from rfl]
    simp [evn]
  | x :: y :: r => by
    have e : ((x :: y :: r).length + 1) / 2 = (r.length + 1) / 2 + 1 := by
      show (r.length + 1 + 1 + 1) / 2 = _
      omega
    rw [e, List.range_succ_eq_map, List.filterMap_cons, List.filterMap_map]
    show x :: _ = x :: evn r
    rw [← evn_pick r]
    congr 1
section
variable {prog : Program} {w : World} {A : Around} {E : Value → Shared → Prop} {s : Shared}
theorem applied_two {sl : Addr} {n : Nat} {tk : Tok} {Q : Int × Int × Nat → Shared → Prop} (hs : s.heap.IsSliceOf sl .none .none (.int 2 tk)) (h : Q (0, 2, (n + 1) / 2) s) :
    wpAny (model prog w) A (Builtin.Slice.sliceApplied (.ref sl) (pure (n : Int))) Q E s := by
  obtain ⟨os, hos, hcs, hds⟩ := id hs
  unfold Builtin.Slice.sliceApplied Builtin.Slice.sliceFields
  refine wpAny_bind (wpAny_bind (wpAny_field hos hds (x := .none) rfl (wpAny_bind (wpAny_field hos hds (x := .none) rfl (wpAny_bind (wpAny_field hos hds (x := .int 2 tk) rfl (wpAny_pure ?_)))))))
  refine wpAny_bind (slicePart_ (.int 2 tk) ?_)
  show wpAny _ _ (if ((2 : Int) == 0) = true then _ else _) _ _ s
  rw [if_neg (by decide)]
  refine wpAny_bind (slicePart_ .none (wpAny_bind (slicePart_ .none (wpAny_bind (wpAny_pure ?_)))))
  show wpAny _ _ (pure ((0 : Int), (2 : Int), Builtin.Slice.slicePlaces 0 (n : Int) 2)) _ _ s
  have e : Builtin.Slice.slicePlaces 0 (n : Int) 2 = (n + 1) / 2 := by
    unfold Builtin.Slice.slicePlaces
    simp only [show (2 : Int) > 0 by decide, if_true]
    split <;> omega
  rw [e]
  exact wpAny_pure h
theorem get_two {t sl : Addr} {items : Array Value} {tk : Tok} {Q : Value → Shared → Prop} (ht : IsTup s.heap t items) (hs : s.heap.IsSliceOf sl .none .none (.int 2 tk))
    (h : Q (.ref s.heap.objs.size) { s with heap := s.heap.push { cls := .type "tuple", data := .seq (evn items.toList).toArray } })
    (hsz : items.size ≤ sizeLine) : wpAny (model prog w) A (getItem (.ref t) (.ref sl)) Q E s := by
  have fits : sizeOk (.seq (evn items.toList).toArray) := by
    show (evn items.toList).toArray.size ≤ sizeLine
    have z := (evn_sub items.toList).length_le
    rw [Array.length_toList] at z
    rw [List.size_toArray]
    exact Nat.le_trans z hsz
  obtain ⟨os, hos, hcs, hds⟩ := id hs
  have hTs : s.TypeIs (.ref sl) "slice" := ⟨os, hos, hcs⟩
  unfold getItem
  try with_reducible refine wpAny_holding ?_
  first | refine wpAny_bind (wpAny_pure ?_) | skip
  refine wpAny_bind (wpAny_sequenceKey ht.typeIs (by decide) ?_)
  refine wpAny_bind (wpAny_callSpecial?_slot (name := Str.ofString "__getitem__") ht.typeIs PyProof.Rows.slot_tuple_getitem
    (wpAny_call_entry PyProof.Rows.slot_tuple_getitem ht.typeIs entry_tuple_getitem ?_ (args_tuple_getitem _ _)))
  show wpAny _ _ (Builtin.Tuple.tupleItemsOf (.ref t) >>= _) _ _ s
  refine wpAny_bind (tupleItemsOf_ ht ?_)
  refine wpAny_bind (wpAny_typeOf hTs ?_)
  rw [if_pos (by decide)]
  refine wpAny_bind (applied_two hs ?_)
  show wpAny _ _ (if ((0 : Int) == 0 && (2 : Int) == 1 && ((items.size + 1) / 2) == items.size) = true then _ else _) _ _ s
  rw [if_neg (by simp)]
  have pick : ((List.range ((items.size + 1) / 2)).filterMap fun (k : Nat) => items[((0 : Int) + (k : Int) * 2).toNat]?) = evn items.toList := by
    rw [← evn_pick items.toList, Array.length_toList]
    congr 1
    funext k
    rw [Array.getElem?_toList]
    congr 1
    omega
  rw [pick]
  first
    | exact wpAny_bind (m := Builtin.Tuple.tupleExact _) (wpAny_newObj_type (wpAny_pure ⟨_, rfl, wpAny_pure h⟩) fits)
    | exact wpAny_bind (m := Builtin.Tuple.tupleExact _) (wpAny_newObj_type (wpAny_bind (wpAny_pure (wpAny_pure ⟨_, rfl, wpAny_pure h⟩))) fits)
    | exact wpAny_bind (wpAny_bind (m := Builtin.Tuple.tupleExact _) (wpAny_newObj_type (wpAny_pure (wpAny_pure ⟨_, rfl, wpAny_pure h⟩)) fits))
    | exact wpAny_bind (wpAny_bind (m := Builtin.Tuple.tupleExact _) (wpAny_newObj_type (wpAny_pure ⟨_, rfl, wpAny_pure h⟩) fits))
end
section
variable {X : Cx} {e : Expr} {te : TE} {p2 pos : Pos}
/-- t[::2] -/
theorem pe_two {jj} {p3 : Pos} (he : PE X e te) : PE X (.Subscript e (.Slice none none (some (.Constant (.int 2) jj p3)) p2) pos) (fun σ H Q => te σ H fun x H1 => ∃ a xs, x = .ref a ∧ SqT X.K H1 a xs ∧ ∀ p, H1 p = none → Q (.ref p) (upd H1 p (.tup (evn xs)))) := by
  refine ⟨fun pins s σ H Q I h => ?_⟩
  refine Subscript_ (thn (he.run pins s σ H _ I h) fun v s1 ⟨x, H1, I1, r1, q1⟩ => ?_)
  refine wpAny_Slice ?_
  rw [evalPart_none]
  refine wpAny_pure (wpAny_pure ?_)
  rw [evalPart_some]
  refine wpAny_Constant_int ?_
  obtain ⟨a, xs, rfl, hx, q⟩ := q1
  cases r1
  have I4 : Inv X pins σ H1 { s1 with heap := s1.heap.push { cls := .type "slice", data := .fields #[.none, .none, .int 2 s1.toks] }, toks := s1.toks + 1 } := I1.kept (t' := s1.toks + 1) fun b ob q => Heap.get?_push_of_some _ q
  obtain ⟨its, r, ht, hz⟩ := I4.tuple hx
  have hlen : its.toArray.size = xs.length := by rw [List.size_toArray]; exact r.length.symm
  refine tail_any (ops := [.ref a, .ref s1.heap.objs.size]) ht.typeIs PyProof.Rows.slot_tuple_getitem.lookup ?_ (by with_unfolding_all rfl)
  refine get_two ht (Heap.IsSliceOf.new ..) ?_ (by rw [hlen]; exact hz)
  refine ⟨.ref _, _, I4.laid (t' := s1.toks + 1) (o := .tup (evn xs)) (fun b ob q => Heap.get?_push_of_some _ q) (Nat.le_refl _) ?_, rfl, q _ (I4.hok.fresh (Nat.le_refl _))⟩
  exact ⟨Nat.le_trans (evn_sub xs).length_le hz, _, evn_vals xs its r, IsTup.new _ _⟩
/-! ### set(t), t a tuple of ints -/
def rSetT (K : PySem.W.Frag) (w : World) : List V → Hp → VK → Prop := fun xs H Q => ∃ (l : Addr) (zs : List Int), xs = [V.ref l] ∧ SqT K H l (zs.map V.int) ∧ zs.length < 4000 ∧
  ∀ (a : Addr) (ds : List Int), H a = none → ds.Nodup → (∀ d ∈ ds, d ∈ zs) → ds.length ≤ zs.length → Q (.ref a) (upd H a (SetO w a (fun j => decide (j ∈ zs)) ds.length))
theorem cr_setT (hc : X.calm = true) : CallR X (.type "set") (rSetT X.K X.w) := by
  intro pins s σ H xs us Q I r h
  obtain ⟨l, zs, rfl, hl, few, q⟩ := h
  rw [Vals.ref1 r]
  obtain ⟨its, rv, pl, sz⟩ := I.tuple hl
  have nn : H s.heap.objs.size = none := I.hok.fresh (Nat.le_refl _)
  refine call_set_tupI zs (I.ok.hd hc) pl (by simpa using ints_of rv) (by show zs.length + 1 < 4096; omega) fun g tk c R le k => ?_
  obtain ⟨o, es, ep, t, _, _, _, _, z1, z2, _, _, z3, _⟩ := id R
  have len : (es.toList.map keyOf).length = c := by rw [List.length_map, Array.length_toList]; exact z3
  rw [← len] at R
  exact ⟨.ref s.heap.objs.size, _, I.laid (t' := tk) k (Nat.le_refl _) (setO_new R), rfl, q _ _ nn z1 (fun d hd => of_decide_eq_true ((z2 d).mpr hd)) (by omega)⟩
end
end Ov
namespace Ov
open PySem PySem.Spec PyProof.Rows L2 HT
/-! ### t[::-1] -/
theorem fmap_congr {α β : Type} {f g : α → Option β} : ∀ {l : List α}, (∀ a ∈ l, f a = g a) → l.filterMap f = l.filterMap g
  | [], _ => rfl
  | a :: l, h => by rw [List.filterMap_cons, List.filterMap_cons, h a List.mem_cons_self, fmap_congr fun b hb => h b (List.mem_cons_of_mem _ hb)]
section
variable {prog : Program} {w : World} {A : Around} {E : Value → Shared → Prop} {s : Shared}
theorem applied_rev {sl : Addr} {n : Nat} {tk : Tok} {Q : Int × Int × Nat → Shared → Prop} (hs : s.heap.IsSliceOf sl .none .none (.int (-1) tk)) (h : Q ((n : Int) - 1, -1, n) s) :
    wpAny (model prog w) A (Builtin.Slice.sliceApplied (.ref sl) (pure (n : Int))) Q E s := by
  obtain ⟨os, hos, hcs, hds⟩ := id hs
  unfold Builtin.Slice.sliceApplied Builtin.Slice.sliceFields
  refine wpAny_bind (wpAny_bind (wpAny_field hos hds (x := .none) rfl (wpAny_bind (wpAny_field hos hds (x := .none) rfl (wpAny_bind (wpAny_field hos hds (x := .int (-1) tk) rfl (wpAny_pure ?_)))))))
  refine wpAny_bind (slicePart_ (.int (-1) tk) ?_)
  show wpAny _ _ (if ((-1 : Int) == 0) = true then _ else _) _ _ s
  rw [if_neg (by decide)]
  refine wpAny_bind (slicePart_ .none (wpAny_bind (slicePart_ .none (wpAny_bind (wpAny_pure ?_)))))
  show wpAny _ _ (pure ((n : Int) - 1, (-1 : Int), Builtin.Slice.slicePlaces ((n : Int) - 1) (-1) (-1))) _ _ s
  have e : Builtin.Slice.slicePlaces ((n : Int) - 1) (-1) (-1) = n := by
    unfold Builtin.Slice.slicePlaces
    simp only [show ¬ ((-1 : Int) > 0) by decide, if_false, show (- -1 : Int) = 1 by decide, Int.ediv_one]
    split <;> omega
  rw [e]
  exact wpAny_pure h
theorem get_rev {t sl : Addr} {items : Array Value} {tk : Tok} {Q : Value → Shared → Prop} (ht : IsTup s.heap t items) (hs : s.heap.IsSliceOf sl .none .none (.int (-1) tk))
    (h : Q (.ref s.heap.objs.size) { s with heap := s.heap.push { cls := .type "tuple", data := .seq items.toList.reverse.toArray } })
    (hsz : items.size ≤ sizeLine) : wpAny (model prog w) A (getItem (.ref t) (.ref sl)) Q E s := by
  have fits : sizeOk (.seq items.toList.reverse.toArray) := by
    show items.toList.reverse.toArray.size ≤ sizeLine
    rw [List.size_toArray, List.length_reverse, Array.length_toList]
    exact hsz
  obtain ⟨os, hos, hcs, hds⟩ := id hs
  have hTs : s.TypeIs (.ref sl) "slice" := ⟨os, hos, hcs⟩
  unfold getItem
  try with_reducible refine wpAny_holding ?_
  first | refine wpAny_bind (wpAny_pure ?_) | skip
  refine wpAny_bind (wpAny_sequenceKey ht.typeIs (by decide) ?_)
  refine wpAny_bind (wpAny_callSpecial?_slot (name := Str.ofString "__getitem__") ht.typeIs PyProof.Rows.slot_tuple_getitem
    (wpAny_call_entry PyProof.Rows.slot_tuple_getitem ht.typeIs entry_tuple_getitem ?_ (args_tuple_getitem _ _)))
  show wpAny _ _ (Builtin.Tuple.tupleItemsOf (.ref t) >>= _) _ _ s
  refine wpAny_bind (tupleItemsOf_ ht ?_)
  refine wpAny_bind (wpAny_typeOf hTs ?_)
  rw [if_pos (by decide)]
  refine wpAny_bind (applied_rev hs ?_)
  show wpAny _ _ (if (((items.size : Int) - 1) == 0 && (-1 : Int) == 1 && items.size == items.size) = true then _ else _) _ _ s
  rw [if_neg (by simp)]
  have pick : ((List.range items.size).filterMap fun (k : Nat) => items[(((items.size : Int) - 1) + (k : Int) * (-1)).toNat]?) = items.toList.reverse := by
    have e : ∀ k ∈ List.range items.size, items[(((items.size : Int) - 1) + (k : Int) * (-1)).toNat]? = items[items.size - 1 - k]? := fun k hk => by
      have := List.mem_range.mp hk
      rw [show (((items.size : Int) - 1) + (k : Int) * (-1)).toNat = items.size - 1 - k by omega]
    rw [fmap_congr e]
    have z : (List.range items.size).filterMap (fun k => items[items.size - 1 - k]?) = ((List.range items.size).map (fun k => items.size - 1 - k)).filterMap (items[·]?) := by rw [List.filterMap_map]; rfl
    rw [z, PySem.W.krv_range, List.filterMap_reverse, PySem.W.krv_all]
  rw [pick]
  first
    | exact wpAny_bind (m := Builtin.Tuple.tupleExact _) (wpAny_newObj_type (wpAny_pure ⟨_, rfl, wpAny_pure h⟩) fits)
    | exact wpAny_bind (m := Builtin.Tuple.tupleExact _) (wpAny_newObj_type (wpAny_bind (wpAny_pure (wpAny_pure ⟨_, rfl, wpAny_pure h⟩))) fits)
    | exact wpAny_bind (wpAny_bind (m := Builtin.Tuple.tupleExact _) (wpAny_newObj_type (wpAny_pure (wpAny_pure ⟨_, rfl, wpAny_pure h⟩)) fits))
    | exact wpAny_bind (wpAny_bind (m := Builtin.Tuple.tupleExact _) (wpAny_newObj_type (wpAny_pure ⟨_, rfl, wpAny_pure h⟩) fits))
end
section
variable {X : Cx} {e e2 : Expr} {te t2 : TE} {p2 pos : Pos}
theorem vals_rev {xs : List V} {us : List Value} (r : Vals xs us) : Vals xs.reverse us.reverse := by
  induction r with
  | nil => exact .nil
  | cons a _ ih => rw [List.reverse_cons, List.reverse_cons]; exact ih.append (.cons a .nil)
theorem pe_rev (he : PE X e te) (h2 : PE X e2 t2) : PE X (.Subscript e (.Slice none none (some e2) p2) pos) (fun σ H Q => te σ H fun x H1 => t2 σ H1 fun y H2 => y = .int (-1) ∧ ∃ a xs, x = .ref a ∧ SqT X.K H2 a xs ∧ ∀ p, H2 p = none → Q (.ref p) (upd H2 p (.tup xs.reverse))) := by
  refine ⟨fun pins s σ H Q I h => ?_⟩
  refine Subscript_ (thn (he.run pins s σ H _ I h) fun v s1 ⟨x, H1, I1, r1, q1⟩ => ?_)
  refine wpAny_Slice ?_
  rw [evalPart_none]
  refine wpAny_pure (wpAny_pure ?_)
  rw [evalPart_some]
  refine thn (h2.run pins s1 σ H1 _ I1 q1) fun u s2 ⟨y, H2, I2, r2, q2⟩ => ?_
  obtain ⟨rfl, a, xs, rfl, hx, q⟩ := q2
  obtain ⟨tk, rfl⟩ := r2
  cases r1
  have I4 : Inv X pins σ H2 { s2 with heap := s2.heap.push { cls := .type "slice", data := .fields #[.none, .none, .int (-1) tk] } } := I2.kept (t' := s2.toks) fun b ob q => Heap.get?_push_of_some _ q
  obtain ⟨its, r, ht, hz⟩ := I4.tuple hx
  have hlen : its.toArray.size = xs.length := by rw [List.size_toArray]; exact r.length.symm
  refine tail_any (ops := [.ref a, .ref s2.heap.objs.size]) ht.typeIs PyProof.Rows.slot_tuple_getitem.lookup ?_ (by with_unfolding_all rfl)
  refine get_rev ht (Heap.IsSliceOf.new ..) ?_ (by rw [hlen]; exact hz)
  refine ⟨.ref _, _, I4.laid (t' := s2.toks) (o := .tup xs.reverse) (fun b ob q => Heap.get?_push_of_some _ q) (Nat.le_refl _) ?_, rfl, q _ (I4.hok.fresh (Nat.le_refl _))⟩
  exact ⟨by rw [List.length_reverse]; exact hz, _, vals_rev r, IsTup.new _ _⟩
end
end Ov
namespace Ov
open PySem PySem.Spec PyProof.Rows L2
/-! ### things of any kind that stand in the heap that is told of, nothing of them in the text's own part -/
mutual
inductive Dz (H : Hp) : V → PyData → Prop
  | non : Dz H .non .none
  | bl (b : Bool) : Dz H (.bl b) (.bool b)
  | int (i : Int) : Dz H (.int i) (.int i)
  | str (x : Str) : Dz H (.str x) (.str x)
  | dct {a : Addr} : H a = some (.dK []) → Dz H (.ref a) (.dict [])
  | lst {a : Addr} {xs : List V} {ds : List PyData} : H a = some (.lst xs) → a ≠ sysModules → DzAll H xs ds → Dz H (.ref a) (.list ds)
  | tup {a : Addr} {xs : List V} {ds : List PyData} : H a = some (.tup xs) → DzAll H xs ds → Dz H (.ref a) (.tuple ds)
inductive DzAll (H : Hp) : List V → List PyData → Prop
  | nil : DzAll H [] []
  | cons {v : V} {vs : List V} {d : PyData} {ds : List PyData} : Dz H v d → DzAll H vs ds → DzAll H (v :: vs) (d :: ds)
end
mutual
theorem Dz.dx {K : PySem.W.Frag} {H : Hp} : ∀ {v : V} {d : PyData}, Dz H v d → Dx K H v d
  | _, _, .non => .non
  | _, _, .bl b => .bl b
  | _, _, .int i => .int i
  | _, _, .str x => .str x
  | _, _, .dct h => .dct h
  | _, _, .lst h _ a => .lst (SqL.of h) (DzAll.dx a)
  | _, _, .tup h a => .tup (SqT.of h) (DzAll.dx a)
theorem DzAll.dx {K : PySem.W.Frag} {H : Hp} : ∀ {vs : List V} {ds : List PyData}, DzAll H vs ds → DxAll K H vs ds
  | _, _, .nil => .nil
  | _, _, .cons h a => .cons (Dz.dx h) (DzAll.dx a)
end
mutual
theorem Dz.same {H H' : Hp} (e : Same H H') : ∀ {v : V} {d : PyData}, Dz H v d → Dz H' v d
  | _, _, .non => .non
  | _, _, .bl b => .bl b
  | _, _, .int i => .int i
  | _, _, .str x => .str x
  | _, _, .dct h => .dct (e _ _ h)
  | _, _, .lst h n a => .lst (e _ _ h) n (DzAll.same e a)
  | _, _, .tup h a => .tup (e _ _ h) (DzAll.same e a)
theorem DzAll.same {H H' : Hp} (e : Same H H') : ∀ {vs : List V} {ds : List PyData}, DzAll H vs ds → DzAll H' vs ds
  | _, _, .nil => .nil
  | _, _, .cons h a => .cons (Dz.same e h) (DzAll.same e a)
end
theorem DzAll.at {H : Hp} : ∀ {vs : List V} {ds : List PyData}, DzAll H vs ds → ∀ {i : Nat} {v : V}, vs[i]? = some v → ∃ d, ds[i]? = some d ∧ Dz H v d
  | _, _, .nil, i, v, e => by simp at e
  | _, _, .cons h a, 0, v, e => by cases e; exact ⟨_, rfl, h⟩
  | _, _, .cons h a, i + 1, v, e => a.at (i := i) e
theorem DzAll.len {H : Hp} : ∀ {vs : List V} {ds : List PyData}, DzAll H vs ds → vs.length = ds.length
  | _, _, .nil => rfl
  | _, _, .cons _ a => by rw [List.length_cons, List.length_cons, a.len]
theorem DzAll.app {H : Hp} : ∀ {vs us : List V} {ds es : List PyData}, DzAll H vs ds → DzAll H us es → DzAll H (vs ++ us) (ds ++ es)
  | _, _, _, _, .nil, b => b
  | _, _, _, _, .cons h a, b => .cons h (a.app b)
theorem DzAll.take {H : Hp} : ∀ {vs : List V} {ds : List PyData} (n : Nat), DzAll H vs ds → DzAll H (vs.take n) (ds.take n)
  | _, _, 0, _ => .nil
  | _, _, n + 1, .nil => .nil
  | _, _, n + 1, .cons h a => .cons h (a.take n)
theorem DzAll.drop {H : Hp} : ∀ {vs : List V} {ds : List PyData} (n : Nat), DzAll H vs ds → DzAll H (vs.drop n) (ds.drop n)
  | _, _, 0, a => a
  | _, _, n + 1, .nil => .nil
  | _, _, n + 1, .cons h a => a.drop n
theorem dz_ints {H : Hp} : ∀ ns : List Int, DzAll H (ns.map V.int) (ns.map PyData.int)
  | [] => .nil
  | n :: ns => .cons (.int n) (dz_ints ns)
section
variable {X : Cx} {pins : List (Addr × Obj)} {σ : L2.St} {H : Hp} {s : Shared}
mutual
theorem Dz.reads (I : Inv X pins σ H s) : ∀ (d : PyData) (v : V) (u : Value), Dz H v d → RelV v u → ∃ as, Reads s.heap u d as ∧ sysModules ∉ as
  | .none, _, _, h, r => by
    cases h
    cases r
    exact ⟨_, Reads.none, fun z => nomatch z⟩
  | .bool b, _, _, h, r => by
    cases h
    cases r
    exact ⟨_, Reads.bool b, fun z => nomatch z⟩
  | .int i, _, _, h, r => by
    cases h
    obtain ⟨t, rfl⟩ := r
    exact ⟨_, Reads.int i t, fun z => nomatch z⟩
  | .str x, _, _, h, r => by
    cases h
    obtain ⟨t, rfl⟩ := r
    exact ⟨_, Reads.str x t, fun z => nomatch z⟩
  | .list ds, _, _, h, r => by
    cases h with
    | @lst a xs _ hs na ha =>
      cases r
      obtain ⟨its, rv, ⟨o, n, ho, hc, _, hd⟩, _⟩ := I.list (SqL.of hs)
      obtain ⟨as, hr, f⟩ := Dz.readsAll I ds _ its ha rv
      refine ⟨_, Reads.list ho hc hd hr, fun z => ?_⟩
      rcases List.mem_cons.mp z with z | z
      · exact na z.symm
      · exact f z
  | .tuple ds, _, _, h, r => by
    cases h with
    | tup hs ha =>
      cases r
      obtain ⟨its, rv, ⟨o, ho, hc, n, hd⟩, _⟩ := I.tuple (SqT.of hs)
      obtain ⟨as, hr, f⟩ := Dz.readsAll I ds _ its ha rv
      exact ⟨_, Reads.tuple ho hc hd hr, f⟩
  | .dict kvs, _, _, h, r => by
    cases h with
    | dct hs =>
      cases r
      obtain ⟨_, ns, vs, kv, o, es, ep, ho, hc, hd, hv⟩ := dk_of I.hok hs
      cases kv
      have e0 : es.toList = [] := by
        have z := hv.2.1
        revert z
        generalize es.toList = l
        intro z
        cases z
        rfl
      refine ⟨_, Reads.dict ho hc.1 hd (by rw [e0]; exact .nil) (by rw [e0]; exact .nil), fun z => ?_⟩
      rcases List.mem_cons.mp z with z | z
      · rw [← z] at ns
        cases ns
      · cases z
theorem Dz.readsAll (I : Inv X pins σ H s) : ∀ (ds : List PyData) (vs : List V) (us : List Value), DzAll H vs ds → Vals vs us → ∃ as, ReadsAll s.heap us ds as ∧ sysModules ∉ as
  | [], _, _, h, r => by
    cases h
    cases r
    exact ⟨_, ReadsAll.nil, fun z => nomatch z⟩
  | d :: ds, _, _, h, r => by
    cases h with
    | cons h1 h2 =>
      cases r with
      | cons r1 r2 =>
        obtain ⟨as, q1, f1⟩ := Dz.reads I d _ _ h1 r1
        obtain ⟨bs, q2, f2⟩ := Dz.readsAll I ds _ _ h2 r2
        exact ⟨_, ReadsAll.cons q1 q2, fun m => (List.mem_append.mp m).elim f1 f2⟩
end
end
section
variable {X : Cx} {pos : Pos} {es : List Expr} {t : TA}
/-- a new list, which stands where no module's table does -/
def tLow (t : TA) : TE := fun σ H Q => t σ H fun xs G => xs.length ≤ sizeLine ∧ ∀ l, G l = none → l ≠ sysModules → Q (.ref l) (upd G l (.lst xs))
theorem pe_low (h : PA X es t) : PE X (.List es pos) (tLow t) := by
  constructor
  intro pins s σ H Q I hq
  refine wpAny_List_spliced (thn (h.run pos pins s σ H _ I hq) ?_)
  rintro us s1 ⟨xs, G, J, r, z, q⟩
  have nl := Nat.ne_of_gt J.big
  have fr : G s1.heap.objs.size = none := J.hok.fresh (Nat.le_refl _)
  have z' : us.length ≤ sizeLine := r.length ▸ z
  have ob : ObjOk X.prog X.w (upd G s1.heap.objs.size (.lst xs)) (s1.heap.push { cls := .type "list", data := .seq us.toArray }) s1.heap.objs.size (.lst xs) := ⟨z, us, 0, r, Heap.get?_push_size _ rfl⟩
  exact ⟨z', .ref s1.heap.objs.size, _, J.laid (t' := s1.toks) (fun b u e => Heap.get?_push_of_some _ e) (Nat.le_refl _) ob, rfl, q _ fr nl⟩
theorem call_listLow : CallR X (.type "list") (fun xs H Q => ∃ p ys, xs = [.ref p] ∧ SqT X.K H p ys ∧ ∀ l, H l = none → l ≠ sysModules → Q (.ref l) (upd H l (.lst ys))) := by
  intro pins s σ H xs us Q I r h
  obtain ⟨p, ys, rfl, hq, q⟩ := h
  obtain ⟨u, rfl, rx⟩ := vals1 r
  cases rx
  have nl := Nat.ne_of_gt I.big
  obtain ⟨its, rr, ⟨o, ho, hc, n, hd⟩, hz⟩ := I.tuple hq
  have el := rr.length
  refine call_list_seq p (.inr rfl) ho hc hd (fun g c kp e => ?_) (by rw [List.size_toArray]; omega)
  exact ⟨.ref s.heap.objs.size, _, I.laid (t' := s.toks) kp (Nat.le_refl _) (show ObjOk X.prog X.w _ g _ (.lst ys) from ⟨hz, its, c, rr, e⟩), rfl, q _ (I.hok.fresh (Nat.le_refl _)) nl⟩
end
/-- what can be shown of such things -/
structure Shz (d : PyData) (n : Nat) : Prop where
  sh : d.showable = true
  dep : d.depth ≤ n
  nd : nodes d ≤ 8000
section
variable {X : Cx} {k : Nat}
theorem call_repr_z (gd : X.A.guards = some []) (room : Room k X.A) : CallR X (.builtin "repr") (fun xs H Q => ∃ v d, xs = [v] ∧ Dz H v d ∧ Shz d 60 ∧ Q (.str d.shown) H) := by
  intro pins s σ H xs us Q I r h
  obtain ⟨v, d, rfl, hd, S, q⟩ := h
  obtain ⟨u, rfl, rx⟩ := vals1 r
  have un := room.un
  have sz := fits_shown S.sh S.nd
  have ref : ∀ a : Addr, u = .ref a → wpAny (model X.prog X.w) X.A (call (.builtin "repr") [u]) (fun u' s' => ∃ v' H', Inv X pins σ H' s' ∧ RelV v' u' ∧ Q v' H') X.xe s := by
    intro a ha
    subst ha
    obtain ⟨as, rd, f⟩ := Dz.reads I d _ _ hd rx
    have dep := S.dep
    refine repr_of_reads' (h₀ := s.heap) rd S.sh (fun _ => f) gd (by omega) (fun _ _ e => e) ?_ sz
    intro h' u tk kp
    exact ⟨.str d.shown, H, I.kept (t' := tk) kp, ⟨u, rfl⟩, q⟩
  cases hd with
  | non =>
    cases (show u = Value.none from rx)
    exact PySem.P.repr_of_none ⟨.str _, H, I.tok _, ⟨_, rfl⟩, q⟩
  | bl b =>
    cases (show u = Value.bool b from rx)
    exact PySem.P.repr_of_bool ⟨.str _, H, I.tok _, ⟨_, rfl⟩, q⟩
  | int i =>
    obtain ⟨t, rfl⟩ := (show ∃ t, u = Value.int i t from rx)
    exact PySem.P.repr_of_int (by simpa [PyData.showable] using S.sh) ⟨.str _, H, I.tok _, ⟨_, rfl⟩, q⟩
  | str x =>
    obtain ⟨t, rfl⟩ := (show ∃ t, u = Value.str x t from rx)
    exact PySem.P.repr_of_str ⟨.str _, H, I.tok _, ⟨_, rfl⟩, q⟩ sz
  | dct h => exact ref _ rx
  | lst h a => exact ref _ rx
  | tup h a => exact ref _ rx
/-! ### a list or a tuple of anything against an empty one -/
def rNoL (K : PySem.W.Frag) (b : Bool) : R2 := fun x y H Q => ∃ p q xs, x = .ref p ∧ y = .ref q ∧ SqL K H p xs ∧ SqL K H q [] ∧ Q (.bl (xs.isEmpty == b)) H
def rNoT (K : PySem.W.Frag) (b : Bool) : R2 := fun x y H Q => ∃ p q xs, x = .ref p ∧ y = .ref q ∧ SqT K H p xs ∧ SqT K H q [] ∧ Q (.bl (xs.isEmpty == b)) H
theorem op_eqNoL (hu : X.A.units + 64 < cLine) : OpR X (compareOp .Eq) (rNoL X.K true) := by
  intro pins s σ H x y v u Q I rx ry h
  obtain ⟨p, q, xs, rfl, rfl, hp, hq, z⟩ := h
  obtain rfl : v = Value.ref p := rx
  obtain rfl : u = Value.ref q := ry
  obtain ⟨its, rv, ⟨o, n, ho, hc, _, hd⟩, _⟩ := I.list hp
  obtain ⟨jts, rw', ⟨o', n', ho', hc', _, hd'⟩, _⟩ := I.list hq
  cases rw'
  have h1 : s.heap.IsList p its.toArray := ⟨o, ho, hc, n, hd⟩
  have h2 : s.heap.IsList q (([] : List Value).toArray) := ⟨o', ho', hc', n', hd'⟩
  cases rv with
  | nil => exact SeqAt.RcAt.lists (e := fun _ => true) h1 h2 rfl (by omega) (fun j j1 j2 => absurd j2 (Nat.not_lt_zero _)) _ _ _ _ ⟨.bl _, H, I, rfl, z⟩
  | cons r1 r2 => exact SeqAt.RcAt.lists_lengths h1 h2 (by simp) (by omega) _ _ _ _ ⟨.bl _, H, I, rfl, z⟩
theorem op_neNoL (hu : X.A.units + 64 < cLine) : OpR X (compareOp .NotEq) (rNoL X.K false) := by
  intro pins s σ H x y v u Q I rx ry h
  obtain ⟨p, q, xs, rfl, rfl, hp, hq, z⟩ := h
  obtain rfl : v = Value.ref p := rx
  obtain rfl : u = Value.ref q := ry
  obtain ⟨its, rv, ⟨o, n, ho, hc, _, hd⟩, _⟩ := I.list hp
  obtain ⟨jts, rw', ⟨o', n', ho', hc', _, hd'⟩, _⟩ := I.list hq
  cases rw'
  have h1 : s.heap.IsList p its.toArray := ⟨o, ho, hc, n, hd⟩
  have h2 : s.heap.IsList q (([] : List Value).toArray) := ⟨o', ho', hc', n', hd'⟩
  cases rv with
  | nil => exact SeqAt.RcNeAt.lists (e := fun _ => true) h1 h2 rfl (by omega) (fun j j1 j2 => absurd j2 (Nat.not_lt_zero _)) _ _ _ _ ⟨.bl _, H, I, rfl, z⟩
  | cons r1 r2 => exact SeqAt.RcNeAt.lists_lengths h1 h2 (by simp) (by omega) _ _ _ _ ⟨.bl _, H, I, rfl, z⟩
theorem op_neNoT (hu : X.A.units + 64 < cLine) : OpR X (compareOp .NotEq) (rNoT X.K false) := by
  intro pins s σ H x y v u Q I rx ry h
  obtain ⟨p, q, xs, rfl, rfl, hp, hq, z⟩ := h
  obtain rfl : v = Value.ref p := rx
  obtain rfl : u = Value.ref q := ry
  obtain ⟨its, rv, h1, _⟩ := I.tuple hp
  obtain ⟨jts, rw', h2, _⟩ := I.tuple hq
  cases rw'
  have w := SeqAt.RcNeAt.tuples (A := X.A) (e := fun _ => true) h1 h2 (by omega) (fun j j1 j2 => absurd j2 (Nat.not_lt_zero _)) X.prog X.w X.xe
  refine w _ ⟨.bl _, H, I, rfl, ?_⟩
  cases rv with
  | nil => exact z
  | cons r1 r2 =>
    simp
    exact z
end
end Ov
namespace Ov
open PySem PySem.Spec PyProof.Rows L2
def top (i : Nat) : Stmt := PySem.Challenge.pw_overlapcode_k47_overlays_of_any_values.main.body.getD i (.Pass ⟨0, 0, 0, 0⟩)
abbrev sIsInt : Stmt := top 1
abbrev sBetween : Stmt := top 2
abbrev sAscending : Stmt := top 3
abbrev cOverlapError : Stmt := top 5
abbrev cInvalidInstructionSet : Stmt := top 6
abbrev cInvalidEntry : Stmt := top 7
abbrev cInvalidProgram : Stmt := top 8
abbrev cInvalidEntries : Stmt := top 9
abbrev cTooManyStates : Stmt := top 10
abbrev cInstructionSet : Stmt := top 16
abbrev sAreInstr : Stmt := top 17
abbrev sIsInstr : Stmt := top 18
abbrev sIsName : Stmt := top 19
abbrev sIsCode : Stmt := top 20
abbrev sDecode : Stmt := top 22
abbrev sCheckEntry : Stmt := top 23
abbrev sWalk : Stmt := top 24
abbrev sEnding : Stmt := top 25
abbrev sReadI : Stmt := top 26
abbrev s_is_program : Stmt := top 29
abbrev s_executed : Stmt := top 30
abbrev s_runs : Stmt := top 31
abbrev s_check_program : Stmt := top 32
abbrev s_step_lengths : Stmt := top 33
abbrev s_is_step : Stmt := top 34
abbrev s_is_match : Stmt := top 35
abbrev s_state_count : Stmt := top 40
abbrev s_is_overlay : Stmt := top 41
abbrev s_check_overlay : Stmt := top 42
abbrev s_check_programs : Stmt := top 43
abbrev s_check_entries : Stmt := top 44
abbrev s_are_entries : Stmt := top 45
abbrev s_decoder_count : Stmt := top 46
abbrev s_longest_rest : Stmt := top 47
abbrev sBox : Stmt := top 49
abbrev sTake : Stmt := top 50
abbrev sOf : Stmt := top 51
abbrev sTable : Stmt := top 52
abbrev sBytes : Stmt := top 53
abbrev sLLenAt : Stmt := top 54
abbrev s_law_read : Stmt := top 55
abbrev s_law_known : Stmt := top 56
abbrev s_law_steps : Stmt := top 57
abbrev s_law_states : Stmt := top 58
abbrev s_law_fits : Stmt := top 59
abbrev s_law_open : Stmt := top 60
abbrev s_law_plan : Stmt := top 61
abbrev s_law_gates : Stmt := top 62
abbrev s_law_is_over : Stmt := top 63
abbrev s_law_near : Stmt := top 64
abbrev s_law_is_row : Stmt := top 65
abbrev sLaw : Stmt := top 66
end Ov
namespace Ov
open PySem PySem.Spec PyProof.Rows L2
section
variable {P : Program} {w : World} {K : PySem.W.Frag} {mg : Str → Option Value} {base : Heap}
/-! ### is_integer, is_integer_between -/
def spIsInt : Sp := fun vs H Q _ => ∃ (v : Int), vs = [.int v] ∧ Q (.bl true) H
theorem scIsInt : FnScope ["value"] ["value"] (defScope sIsInt) := ⟨rfl, rfl, rfl, by decide +kernel, rfl, by decide +kernel, by decide +kernel⟩
theorem ok_isInt {f : Addr} {fd : FuncData} {k : Nat} (F : Fun K "is_integer" "is_integer" sIsInt f fd) (T : Bi mg) : FnOk P w K mg base CX0 (k + 1) f fd ["value"] spIsInt := by
  refine F.ok scIsInt (fun vs H Q E h => ?_) (fun cdv A outer s H vs Q E hr h => ?_)
  · obtain ⟨v, rfl, _⟩ := h
    rfl
  · obtain ⟨v, rfl, q⟩ := h
    refine ⟨_, pss_one (ps_ret (pe_and (pe_callB call_isi (by rfl) T.isi (by decide +kernel) (pa_cons (pv 0) (pa_cons (pe_bltn (v := .ty "int") (u := .type "int") (by rfl) T.int (by decide +kernel) rfl) pa_nil)))
      (pe_one (pe_not (pe_callB call_isi (by rfl) T.isi (by decide +kernel) (pa_cons (pv 0) (pa_cons (pe_bltn (v := .ty "bool") (u := .type "bool") (by rfl) T.bool (by decide +kernel) rfl) pa_nil))))))), ?_⟩
    refine ⟨_, rfl, _, _, _, _, _, rfl, .ty _, .base (.int _), kit_ty (by decide +kernel : kitB "int" "int" = some true), _, rfl, iteT ?_⟩
    exact ⟨_, rfl, _, _, _, _, _, rfl, .ty _, .base (.int _), kit_ty (by decide +kernel : kitB "int" "bool" = some false), _, rfl, q⟩
def spBetween : Sp := fun vs H Q _ => ∃ (v lo hi : Int), vs = [.int v, .int lo, .int hi] ∧ lo ≤ v ∧ v ≤ hi ∧ Q (.bl true) H
theorem scBetween : FnScope ["value", "least", "most"] ["value", "least", "most"] (defScope sBetween) := ⟨rfl, rfl, rfl, by decide +kernel, rfl, by decide +kernel, by decide +kernel⟩
theorem ok_between {f fI : Addr} {fd fdI : FuncData} {k : Nat} (F : Fun K "is_integer_between" "is_integer_between" sBetween f fd) (T : Bi mg) (I : Def K mg "is_integer" sIsInt fI fdI ["value"]) : FnOk P w K mg base CX0 (k + 2) f fd ["value", "least", "most"] spBetween := by
  have GI : FnOk P w K mg base CX0 (k + 1) fI fdI ["value"] spIsInt := ok_isInt I.fn T
  refine F.ok scBetween (fun vs H Q E h => ?_) (fun cdv A outer s H vs Q E hr h => ?_)
  · obtain ⟨v, lo, hi, rfl, _⟩ := h
    rfl
  · obtain ⟨v, lo, hi, rfl, h1, h2, q⟩ := h
    refine ⟨_, pss_one (ps_ret (pe_and (pe_call GI hr (by rfl) I.gl I.fn.kp I.bi .nil pass0 (pa_cons (pv 0) pa_nil))
        (pe_one (pe_chain op_le op_le (pv 1) (pv 0) (pv 2))))), ?_⟩
    refine ⟨_, rfl, v, rfl, _, rfl, iteT ?_⟩
    refine ⟨_, rfl, _, rfl, _, _, rfl, rfl, _, rfl, ?_⟩
    rw [decide_eq_true h1]
    refine iteT ⟨_, rfl, _, _, rfl, rfl, ?_⟩
    show Q (.bl (decide (v ≤ hi))) H
    rw [decide_eq_true h2]
    exact q
/-! ### is_ascending -/
def spAscending (K : PySem.W.Frag) : Sp := fun vs H Q _ => ∃ (a : Addr) (ns : List Int), vs = [.ref a] ∧ SqT K H a (ns.map V.int) ∧ ns.length ≤ 1000 ∧ ns.Pairwise (· < ·) ∧ ∀ H', Same H H' → Q (.bl true) H'
theorem scAscending : FnScope ["numbers", "low", "high"] ["numbers"] (defScope sAscending) := ⟨rfl, rfl, rfl, by decide +kernel, rfl, by decide +kernel, by decide +kernel⟩
theorem ok_ascending {f : Addr} {fd : FuncData} {k : Nat} (F : Fun K "is_ascending" "is_ascending" sAscending f fd) (T : Bi mg) : FnOk P w K mg base CX0 (k + 1) f fd ["numbers"] (spAscending K) := by
  refine F.ok scAscending (fun vs H Q E h => ?_) (fun cdv A outer s H vs Q E hr h => ?_)
  · obtain ⟨a, ns, rfl, _⟩ := h
    rfl
  · obtain ⟨a, ns, rfl, hS, hlen, hasc, q⟩ := h
    refine ⟨_, pss_one (ps_ret (pe_callB (cr_all rfl) (by rfl) T.all (by decide +kernel) (pa_cons
      (pe_lc (own := [("low", 1), ("high", 2)]) (g := gTup K 2 (gCons (gName 1) (gCons (gName 2) gNil))) (tt := tYes) (by rfl) scAscending.nd (RZ.pi_zipA (by rfl) T.zip (pa_cons (pv 0) (pa_cons (pe_slice sl_tupA (pv 0) (po_some pe_int) po_none) pa_nil)))
        (blkOk_by (own := [("low", 1), ("high", 2)]) (N := ["numbers", "low", "high"]) (sc := defScope sAscending) (by decide +kernel))
        (fun _ _ _ _ _ => pg_tup rfl (pgs_cons (pg_name (i := 1) scAscending.nd rfl (Or.inl rfl)) (pgs_cons (pg_name (i := 2) scAscending.nd rfl (Or.inl rfl)) pgs_nil)))
        (fun _ _ _ _ _ => pts_nil) (fun _ _ _ _ _ => pe_cmpR op_lt (pv 1) (pv 2) (nomark _))) pa_nil))), ?_⟩
    -- zip(numbers, numbers[1:])
    refine ⟨_, rfl, _, rfl, 1, rfl, a, ns.map V.int, rfl, hS, fun hw => ?_, fun hw c nc => ?_⟩
    · have e0 : ns = [] := List.map_eq_nil_iff.mp (cut1_whole hw)
      subst e0
      refine ⟨a, a, [], [], rfl, .inr ⟨hS, hS, fun D nD => lc_it (walk_zipT (xs := []) (ys := []) rfl) (fun i H2 => i = 0 ∧ Mk H H2 D []) ⟨rfl, .start nD⟩ (fun i H2 _ p => ⟨p.2.same.tup hS, p.2.same.tup hS⟩) (fun i x H2 H3 hi => absurd hi (by show ¬ i < 0; omega)) (fun H2 p => ?_)⟩⟩
      exact ⟨D, [], rfl, .inl (.inl p.2.at_), q H2 p.2.same⟩
    · have s1 : Same H (upd H c (.tup (cutV (ns.map V.int) (some 1) none))) := same_upd nc
      have hc : SqT K (upd H c (.tup (cutV (ns.map V.int) (some 1) none))) c ((ns.drop 1).map V.int) := .inl (.inl (by rw [upd_same, cut1, List.map_drop]))
      refine ⟨a, c, ns.map V.int, (ns.drop 1).map V.int, rfl, .inr ⟨s1.tup hS, hc, fun D nD => lc_it (walk_zipT (xs := ns.map V.int) (ys := (ns.drop 1).map V.int) rfl)
        (fun i H2 => Mk (upd H c (.tup (cutV (ns.map V.int) (some 1) none))) H2 D ((List.replicate i true).map V.bl)) (.start nD) (fun i H2 _ p => ⟨p.same.tup (s1.tup hS), p.same.tup hc⟩) (fun i x H2 H3 hi p y => ?_) (fun H2 p => ?_)⟩⟩
      · obtain ⟨t, x1, x2, rfl, nt, rfl, f1, f2⟩ := y
        have hi' : i < min ns.length (ns.length - 1) := by simpa using hi
        have h1 : i < ns.length := by omega
        have h2 : i + 1 < ns.length := by omega
        have e1 : x1 = .int ns[i] := by
          have : (ns.map V.int)[i]? = some x1 := f1
          rw [List.getElem?_map, List.getElem?_eq_getElem h1] at this
          exact (Option.some.inj this).symm
        have e2 : x2 = .int ns[i + 1] := by
          have : ((ns.drop 1).map V.int)[i]? = some x2 := f2
          rw [List.getElem?_map, List.getElem?_drop, Nat.add_comm 1 i, List.getElem?_eq_getElem h2] at this
          exact (Option.some.inj this).symm
        have hlt : ns[i] < ns[i + 1] := List.pairwise_iff_getElem.mp hasc i (i + 1) h1 h2 (by omega)
        refine ⟨t, [x1, x2], rfl, .inl (.inl upd_same), rfl, x1, [x2], rfl, x2, [], rfl, rfl, rfl, x1, rfl, x2, rfl, _, _, e1, e2, _, (by rw [upd_ne (ne_of_none p.at_ nt)]; exact p.at_), (by rw [List.length_map, List.length_replicate]; exact small1000 (by omega)), ?_⟩
        show Mk _ (upd _ D (.lst (_ ++ [V.bl (decide (ns[i] < ns[i + 1]))]))) D _
        rw [decide_eq_true hlt, List.replicate_succ', List.map_append]
        exact p.put (same_upd nt)
      · refine ⟨D, _, rfl, .inl (.inl p.at_), ?_⟩
        rw [all_true]
        exact q H2 (s1.trans p.same)
end
end Ov
namespace Ov
open PySem PySem.Spec PyProof.Rows L2
/-- a box of numbers: what is left of its own digits, a number, and how many were mixed -/
def BoxAt (H : Hp) (p : Addr) (n : Nat) : Prop := ∃ a b c : Int, H p = some (.lst [.int a, .int b, .int c]) ∧ 0 ≤ a ∧ a < 2 ^ 800 ∧ 0 ≤ b ∧ b < 2 ^ 62 ∧ 0 ≤ c ∧ c ≤ n
theorem BoxAt.mono {H : Hp} {p : Addr} {n m : Nat} (h : BoxAt H p n) (l : n ≤ m) : BoxAt H p m := by
  obtain ⟨a, b, c, e, h1, h2, h3, h4, h5, h6⟩ := h
  exact ⟨a, b, c, e, h1, h2, h3, h4, h5, by omega⟩
theorem BoxAt.same {H H' : Hp} {p : Addr} {n : Nat} (h : BoxAt H p n) (s : Same H H') : BoxAt H' p n := by
  obtain ⟨a, b, c, e, r⟩ := h
  exact ⟨a, b, c, s _ _ e, r⟩
/-- all that stood, but at p, stands -/
def But (p : Addr) (H H' : Hp) : Prop := ∀ b o, H b = some o → b ≠ p → H' b = some o
theorem But.refl (p : Addr) (H : Hp) : But p H H := fun _ _ e _ => e
theorem But.trans {p : Addr} {H H1 H2 : Hp} (a : But p H H1) (b : But p H1 H2) : But p H H2 := fun c o e n => b c o (a c o e n) n
theorem But.of {p : Addr} {H H1 : Hp} (a : Same H H1) : But p H H1 := fun c o e _ => a c o e
theorem But.free {p l : Addr} {H H' : Hp} (e : But p H H') (hp : H p ≠ none) (h : H' l = none) (hp' : H' p ≠ none) : H l = none := by
  cases q : H l with
  | none => rfl
  | some o =>
    by_cases hl : l = p
    · subst hl; exact absurd h hp'
    · rw [e l o q hl] at h; cases h
theorem BoxAt.ne {H : Hp} {p : Addr} {n : Nat} (h : BoxAt H p n) : H p ≠ none := by
  obtain ⟨a, b, c, e, _⟩ := h
  rw [e]; exact fun z => nomatch z
section
variable {P : Program} {w : World} {K : PySem.W.Frag} {mg : Str → Option Value} {base : Heap}
/-! ### _law_box -/
def spBox (K : PySem.W.Frag) : Sp := fun vs H Q _ => ∃ (a : Addr) (ns : List Int) (j : Nat), vs = [.ref a, .int j] ∧ SqL K H a (ns.map V.int) ∧ j ≤ 63 ∧ ∀ H' p, Same H H' → H p = none → BoxAt H' p 0 → Q (.ref p) H'
theorem scBox : FnScope ["_law_script", "_law_k", "_law_cell", "_law_own"] ["_law_script", "_law_k"] (defScope sBox) := ⟨rfl, rfl, rfl, by decide +kernel, rfl, by decide +kernel, by decide +kernel⟩
theorem big_pos : (0 : Int) < 10 ^ (60 : Int).toNat * 10 ^ (60 : Int).toNat * 10 ^ (60 : Int).toNat * 10 ^ (60 : Int).toNat := by decide +kernel
theorem big_lt : (10 : Int) ^ (60 : Int).toNat * 10 ^ (60 : Int).toNat * 10 ^ (60 : Int).toNat * 10 ^ (60 : Int).toNat ≤ 2 ^ 800 := by decide +kernel
/-- what is left of the text behind the cell -/
def tBoxRest : TS := tSeq (tAsg (tOp (rI CMul fun i j => .int (i * j)) (tOp (rI (fun _ j => 0 < j) fun i j => .int (i % j)) (tCB (fun xs H Q => ∃ i, xs = [.int i] ∧ Q (.int (if i < 0 then -i else i)) H) (tCons (tVar 2) tNil))
    (tOp (rI CMulW fun i j => .int (i * j)) (tOp (rI CMulW fun i j => .int (i * j)) (tOp (rI CMulW fun i j => .int (i * j)) (tOp (rI CPow fun i j => .int (i ^ j.toNat)) (tC (.int 10)) (tC (.int 60))) (tOp (rI CPow fun i j => .int (i ^ j.toNat)) (tC (.int 10)) (tC (.int 60)))) (tOp (rI CPow fun i j => .int (i ^ j.toNat)) (tC (.int 10)) (tC (.int 60)))) (tOp (rI CPow fun i j => .int (i ^ j.toNat)) (tC (.int 10)) (tC (.int 60)))))
    (tCB (fun xs H Q => (∃ i, xs = [.int i] ∧ Q (.int i) H) ∨ ∃ k, xs = [.bl k] ∧ Q (.int (if k then 1 else 0)) H) (tCons (tOp (rI0 fun i j => .bl (decide (j ≤ i))) (tCB (fun xs H Q => ∃ i, xs = [.int i] ∧ Q (.int (if i < 0 then -i else i)) H) (tCons (tVar 2) tNil)) (tOp (rI CPow fun i j => .int (i ^ j.toNat)) (tC (.int 10)) (tC (.int 18)))) tNil))) (gName 3))
  (tRet (tLst (tCons (tVar 3) (tCons (tOp (rI (fun _ j => 0 < j) fun i j => .int (i % j)) (tOp (rI CMul fun i j => .int (i * j)) (tOp (rI0 fun i j => .int (i + j)) (tOp (rI0 fun i j => .int (i + j)) (tOp (rI (fun _ j => 0 < j) fun i j => .int (i % j)) (tVar 2) (tC (.int 2305843009213693951))) (tOp (rI CMul fun i j => .int (i * j)) (tOp (rI CMul fun i j => .int (i * j)) (tC (.int 7919)) (tVar 1)) (tVar 1))) (tC (.int 43))) (tC (.int 48271))) (tC (.int 2305843009213693921))) (tCons (tC (.int 0)) tNil)))))
theorem own_ok {x : Int} (h0 : 0 ≤ x) (h1 : x < 2 ^ 800) (c : Bool) : 0 ≤ x * (if c = true then 1 else 0) ∧ x * (if c = true then 1 else 0) < 2 ^ 800 := by
  cases c
  · rw [if_neg (by decide), Int.mul_zero]
    exact ⟨by decide, by decide +kernel⟩
  · rw [if_pos rfl, Int.mul_one]
    exact ⟨h0, h1⟩
theorem bit_ok (c : Bool) : -(2 ^ 64) < (if c = true then (1 : Int) else 0) ∧ (if c = true then (1 : Int) else 0) < 2 ^ 64 := by
  cases c <;> exact ⟨by decide, by decide⟩
theorem box_rest {H : Hp} {D : Ends} {a : Addr} {j : Nat} {cell : Int} {y : Option V} (hj : j ≤ 63) (q : ∀ (H' : Hp) (p : Addr), Same H H' → H p = none → BoxAt H' p 0 → D.rt (V.ref p) H') : tBoxRest D [some (.ref a), some (.int j), some (.int cell), y] H := by
  have h60 : ((10 : Int) ^ (60 : Int).toNat).natAbs < 2 ^ 200 := by decide +kernel
  have h120 : ((10 : Int) ^ (60 : Int).toNat * 10 ^ (60 : Int).toNat).natAbs < 2 ^ 400 := by decide +kernel
  have h180 : ((10 : Int) ^ (60 : Int).toNat * 10 ^ (60 : Int).toNat * 10 ^ (60 : Int).toNat).natAbs < 2 ^ 600 := by decide +kernel
  have hp : CPow 10 60 := ⟨by decide, by decide, by decide⟩
  have hp2 : CPow 10 18 := ⟨by decide, by decide, by decide⟩
  refine ⟨_, rfl, _, rfl, _, _, rfl, rfl, hp, _, _, rfl, rfl, hp, _, _, rfl, rfl, wide_mul h60 h60 (by decide) (by decide) (by decide), _, _, rfl, rfl, hp, _, _, rfl, rfl, wide_mul h120 h60 (by decide) (by decide) (by decide), _, _, rfl, rfl, hp, _, _, rfl, rfl, wide_mul h180 h60 (by decide) (by decide) (by decide), _, _, rfl, rfl, big_pos, ?_⟩
  have hm0 : 0 ≤ (if cell < 0 then -cell else cell) % (10 ^ (60 : Int).toNat * 10 ^ (60 : Int).toNat * 10 ^ (60 : Int).toNat * 10 ^ (60 : Int).toNat) := Int.emod_nonneg _ (Int.ne_of_gt big_pos)
  have hm1 : (if cell < 0 then -cell else cell) % (10 ^ (60 : Int).toNat * 10 ^ (60 : Int).toNat * 10 ^ (60 : Int).toNat * 10 ^ (60 : Int).toNat) < 2 ^ 800 := Int.lt_of_lt_of_le (Int.emod_lt_of_pos _ big_pos) big_lt
  dsimp only
  generalize (if cell < 0 then -cell else cell) % (10 ^ (60 : Int).toNat * 10 ^ (60 : Int).toNat * 10 ^ (60 : Int).toNat * 10 ^ (60 : Int).toNat) = own at *
  refine ⟨_, rfl, _, rfl, _, _, rfl, rfl, hp2, _, _, rfl, rfl, .inr ⟨_, rfl, _, _, rfl, rfl, ?_, ?_⟩⟩
  · exact .inr (bit_ok _)
  dsimp only
  generalize decide ((10 : Int) ^ (18 : Int).toNat ≤ if cell < 0 then -cell else cell) = bb
  obtain ⟨ho0, ho1⟩ := own_ok hm0 hm1 bb
  generalize own * (if bb = true then 1 else 0) = o2 at *
  have hc0 : 0 ≤ cell % 2305843009213693951 := Int.emod_nonneg _ (by decide)
  have hc1 : cell % 2305843009213693951 < 2305843009213693951 := Int.emod_lt_of_pos _ (by decide)
  have hkk : (0 : Int) ≤ 7919 * (j : Int) * (j : Int) := Int.mul_nonneg (Int.mul_nonneg (by decide) (by omega)) (by omega)
  refine ⟨_, rfl, _, rfl, _, _, rfl, rfl, (show (0 : Int) < 2305843009213693951 by decide), _, rfl, _, _, rfl, rfl, .inl ⟨by decide, by decide⟩, _, rfl, _, _, rfl, rfl, .inr ⟨by omega, by omega⟩, _, _, rfl, rfl, _, _, rfl, rfl, _, _, rfl, rfl, .inr ⟨by decide, by decide⟩, _, _, rfl, rfl, (show (0 : Int) < 2305843009213693921 by decide), by show 3 ≤ sizeLine; decide, fun p np => ?_⟩
  exact q _ p (same_upd np) np ⟨_, _, _, upd_same, ho0, ho1, Int.emod_nonneg _ (by decide), Int.lt_of_lt_of_le (Int.emod_lt_of_pos _ (by decide)) (by decide), by decide, by decide⟩
theorem ok_box {f : Addr} {fd : FuncData} {k : Nat} (F : Fun K "_law_box" "_law_box" sBox f fd) (T : Bi mg) : FnOk P w K mg base CX0 (k + 1) f fd ["_law_script", "_law_k"] (spBox K) := by
  refine F.ok scBox (fun vs H Q E h => ?_) (fun cdv A' outer s H vs Q E hr h => ?_)
  · obtain ⟨a, ns, j, rfl, _⟩ := h
    rfl
  · obtain ⟨a, ns, j, rfl, hS, hj, q⟩ := h
    refine ⟨_, pss_cons (ps_set (i := 2) scBox.nd rfl (.inl rfl) (pe_ifExp (pt_cmpR op_lt (pv 1) (pe_callB call_len_seq (by rfl) T.len PySem.boot_len (pa_cons (pv 0) pa_nil)) (nomark _)) (pe_ix ix_list (pv 0) (pv 1) (fun _ _ => rfl)) pe_int))
      (pss_cons (ps_set (i := 3) scBox.nd rfl (.inl rfl) (pe_op op_mul (pe_op op_mod (pe_callB call_abs (by rfl) T.abs (by decide +kernel) (pa_cons (pv 2) pa_nil))
          (pe_op op_mulW (pe_op op_mulW (pe_op op_mulW (pe_op op_pow pe_int pe_int) (pe_op op_pow pe_int pe_int)) (pe_op op_pow pe_int pe_int)) (pe_op op_pow pe_int pe_int)))
        (pe_callTy call_int1 (by rfl) T.int (by decide +kernel) (pa_cons (pe_cmpR op_ge (pe_callB call_abs (by rfl) T.abs (by decide +kernel) (pa_cons (pv 2) pa_nil)) (pe_op op_pow pe_int pe_int) (nomark _)) pa_nil))))
      (pss_one (ps_ret (pe_lst (pa_cons (pv 3) (pa_cons (pe_op op_mod (pe_op op_mul (pe_op op_add (pe_op op_add (pe_op op_mod (pv 2) pe_int) (pe_op op_mul (pe_op op_mul pe_int (pv 1)) (pv 1))) pe_int) pe_int) pe_int) (pa_cons pe_int pa_nil))))))), ?_⟩
    refine ⟨_, rfl, _, rfl, a, _, rfl, .inl hS, _, _, rfl, rfl, _, rfl, ite2 (fun c => ?_) (fun c => ?_)⟩
    · have hj' : j < ns.length := by
        have := of_decide_eq_true c
        rw [List.length_map] at this
        omega
      refine ⟨_, rfl, _, rfl, a, _, _, _, rfl, rfl, hS, atI_nat (v := .int ns[j]) (by rw [List.getElem?_map, List.getElem?_eq_getElem hj']; rfl), ?_⟩
      exact box_rest (D := { nx := fun _ H' => Q .non H', rt := Q }) (y := none) hj q
    · exact box_rest (D := { nx := fun _ H' => Q .non H', rt := Q }) (y := none) hj q
end
end Ov
namespace Ov
open PySem PySem.Spec PyProof.Rows L2
section
variable {P : Program} {w : World} {K : PySem.W.Frag} {mg : Str → Option Value} {base : Heap}
/-! ### _law_take -/
def spTake : Sp := fun vs H Q _ => ∃ (p : Addr) (m : Int) (n : Nat), vs = [.ref p, .int m] ∧ BoxAt H p n ∧ n ≤ 2 ^ 40 ∧ 0 < m ∧ m < 2 ^ 200 ∧ ∀ H' (d : Int), But p H H' → BoxAt H' p (n + 1) → 0 ≤ d → d < m → (∀ b, H b = none → H' b = none) → Q (.int d) H'
theorem scTake : FnScope ["_law_box_here", "_law_many", "_law_digit", "_law_mixed"] ["_law_box_here", "_law_many"] (defScope sTake) := ⟨rfl, rfl, rfl, by decide +kernel, rfl, by decide +kernel, by decide +kernel⟩
theorem ok_take {f : Addr} {fd : FuncData} {k : Nat} (F : Fun K "_law_take" "_law_take" sTake f fd) : FnOk P w K mg base CX0 (k + 1) f fd ["_law_box_here", "_law_many"] spTake := by
  refine F.ok scTake (fun vs H Q E h => ?_) (fun cdv A' outer s H vs Q E hr h => ?_)
  · obtain ⟨p, m, n, rfl, _⟩ := h
    rfl
  · obtain ⟨p, m, n, rfl, ⟨a, b, c, hp, a0, a1, b0, b1, c0, c1⟩, hn, m0, m1, q⟩ := h
    refine ⟨_, pss_cons (ps_if (pt_cmpR op_gt (pe_ix ix_list (pv 0) pe_int (fun _ _ => rfl)) pe_int (nomark _))
        (pss_cons (ps_set (i := 2) scTake.nd rfl (.inl rfl) (pe_op op_mod (pe_ix ix_list (pv 0) pe_int (fun _ _ => rfl)) (pv 1)))
        (pss_cons (ps_asg (pe_op op_fdivW (pe_ix ix_list (pv 0) pe_int (fun _ _ => rfl)) (pv 1)) (pg_sub (pv 0) pe_int set_list))
        (pss_one (ps_ret (pv 2))))) pss_nil)
      (pss_cons (ps_asg (pe_op op_add (pe_ix ix_list (pv 0) pe_int (fun _ _ => rfl)) pe_int) (pg_sub (pv 0) pe_int set_list))
      (pss_cons (ps_set (i := 3) scTake.nd rfl (.inl rfl) (pe_op op_mod (pe_op op_mul (pe_op op_add (pe_op op_add (pe_ix ix_list (pv 0) pe_int (fun _ _ => rfl)) (pe_op op_mul (pe_op op_mul pe_int (pe_ix ix_list (pv 0) pe_int (fun _ _ => rfl))) (pe_ix ix_list (pv 0) pe_int (fun _ _ => rfl)))) pe_int) pe_int) pe_int))
      (pss_cons (ps_set (i := 3) scTake.nd rfl (.inl rfl) (pe_op op_mod (pe_op op_mul (pv 3) (pe_op op_add (pe_op op_mod (pv 3) pe_int) (pe_op op_mul pe_int (pe_ix ix_list (pv 0) pe_int (fun _ _ => rfl))))) pe_int))
      (pss_one (ps_ret (pe_op op_mod (pe_op op_add (pe_op op_fdiv (pv 3) pe_int) (pe_op op_fdiv (pv 3) pe_int)) (pv 1))))))), ?_⟩
    have i0 : ∀ x y z : V, atI [x, y, z] 0 = some x := fun x y z => atI_nat (j := 0) rfl
    have i1 : ∀ x y z : V, atI [x, y, z] 1 = some y := fun x y z => atI_nat (j := 1) rfl
    have i2 : ∀ x y z : V, atI [x, y, z] 2 = some z := fun x y z => atI_nat (j := 2) rfl
    refine ⟨_, rfl, p, _, _, _, rfl, rfl, SqL.of hp, i0 _ _ _, _, _, rfl, rfl, _, rfl, ?_⟩
    by_cases ha : 0 < a
    · rw [decide_eq_true ha]
      refine iteT ?_
      refine ⟨_, rfl, p, _, _, _, rfl, rfl, SqL.of hp, i0 _ _ _, _, rfl, _, _, rfl, rfl, m0, ?_⟩
      refine ⟨_, rfl, p, _, _, _, rfl, rfl, SqL.of hp, i0 _ _ _, _, rfl, _, _, rfl, rfl, wide_div (b := 200) m0 (by omega) (by decide) (by decide), _, rfl, p, _, _, 0, rfl, rfl, hp, rfl, _, rfl, ?_⟩
      refine q _ _ (fun x o e hx => by rw [upd_ne hx]; exact e) ⟨a / m, b, c, upd_same, ?_, ?_, b0, b1, c0, by omega⟩ (Int.emod_nonneg _ (by omega)) (Int.emod_lt_of_pos _ m0) (fun x e => by rw [upd_ne (fun z => by rw [z, hp] at e; cases e)]; exact e)
      · exact Int.ediv_nonneg a0 (by omega)
      · exact Int.lt_of_le_of_lt (Int.ediv_le_self _ a0) a1
    · rw [decide_eq_false ha]
      refine iteF ?_
      refine ⟨_, rfl, p, _, _, _, rfl, rfl, SqL.of hp, i2 _ _ _, _, _, rfl, rfl, _, rfl, p, _, _, 2, rfl, rfl, hp, rfl, ?_⟩
      have hp2 : (upd H p (.lst (([V.int a, V.int b, V.int c] : List V).set 2 (V.int (c + 1))))) p = some (.lst [V.int a, V.int b, V.int (c + 1)]) := upd_same
      have s2 : But p H (upd H p (.lst (([V.int a, V.int b, V.int c] : List V).set 2 (V.int (c + 1))))) := fun x o e hx => by rw [upd_ne hx]; exact e
      have f2 : ∀ x, H x = none → (upd H p (.lst (([V.int a, V.int b, V.int c] : List V).set 2 (V.int (c + 1))))) x = none := fun x e => by rw [upd_ne (fun z => by rw [z, hp] at e; cases e)]; exact e
      generalize upd H p (.lst (([V.int a, V.int b, V.int c] : List V).set 2 (V.int (c + 1)))) = H2 at *
      have hc2 : c + 1 ≤ 2 ^ 40 + 1 := by omega
      refine ⟨_, rfl, p, _, _, _, rfl, rfl, SqL.of hp2, i1 _ _ _, _, rfl, p, _, _, _, rfl, rfl, SqL.of hp2, i2 _ _ _, _, _, rfl, rfl, .inl ⟨by decide, by decide⟩, _, rfl, p, _, _, _, rfl, rfl, SqL.of hp2, i2 _ _ _, _, _, rfl, rfl, .inr ⟨by omega, by omega⟩, _, _, rfl, rfl, _, _, rfl, rfl, _, _, rfl, rfl, .inr ⟨by decide, by decide⟩, _, _, rfl, rfl, (show (0 : Int) < 2305843009213693921 by decide), ?_⟩
      dsimp only
      have x0 : 0 ≤ (b + 65537 * (c + 1) * (c + 1) + 11) * 48271 % 2305843009213693921 := Int.emod_nonneg _ (by decide)
      have x1 : (b + 65537 * (c + 1) * (c + 1) + 11) * 48271 % 2305843009213693921 < 2305843009213693921 := Int.emod_lt_of_pos _ (by decide)
      generalize (b + 65537 * (c + 1) * (c + 1) + 11) * 48271 % 2305843009213693921 = x at *
      refine ⟨_, rfl, _, rfl, _, _, rfl, rfl, (show (0 : Int) < 1000003 by decide), _, rfl, p, _, _, _, rfl, rfl, SqL.of hp2, i2 _ _ _, _, _, rfl, rfl, .inl ⟨by decide, by decide⟩, _, _, rfl, rfl, _, _, rfl, rfl, .inl ⟨by omega, by omega⟩, _, _, rfl, rfl, (show (0 : Int) < 2305843009213693907 by decide), ?_⟩
      dsimp only
      generalize x * (x % 1000003 + 99991 * (c + 1)) % 2305843009213693907 = y at *
      refine ⟨_, rfl, _, _, rfl, rfl, ⟨by decide, by decide⟩, _, rfl, _, _, rfl, rfl, ⟨by decide, by decide⟩, _, _, rfl, rfl, _, rfl, _, _, rfl, rfl, m0, ?_⟩
      exact q _ _ s2 ⟨a, b, c + 1, hp2, a0, a1, b0, b1, by omega, by omega⟩ (Int.emod_nonneg _ (by omega)) (Int.emod_lt_of_pos _ m0) f2
/-! ### _law_of -/
def spOf : Sp := fun vs H Q _ => ∃ (p l : Addr) (n : Nat) (xs : List V), vs = [.ref p, .ref l] ∧ BoxAt H p n ∧ n ≤ 2 ^ 40 ∧ H l = some (.lst xs) ∧ l ≠ p ∧ 0 < xs.length ∧ xs.length ≤ 1000 ∧ ∀ H' (v : V), v ∈ xs → But p H H' → BoxAt H' p (n + 1) → (∀ b, H b = none → H' b = none) → Q v H'
theorem scOf : FnScope ["_law_box_here", "_law_some"] ["_law_box_here", "_law_some"] (defScope sOf) := ⟨rfl, rfl, rfl, by decide +kernel, rfl, by decide +kernel, by decide +kernel⟩
theorem ok_of {f fT : Addr} {fd fdT : FuncData} {k : Nat} (F : Fun K "_law_of" "_law_of" sOf f fd) (T : Bi mg) (Tk : Def K mg "_law_take" sTake fT fdT ["_law_box_here", "_law_many"]) : FnOk P w K mg base CX0 (k + 2) f fd ["_law_box_here", "_law_some"] spOf := by
  have GT : FnOk P w K mg base CX0 (k + 1) fT fdT ["_law_box_here", "_law_many"] spTake := ok_take Tk.fn
  refine F.ok scOf (fun vs H Q E h => ?_) (fun cdv A' outer s H vs Q E hr h => ?_)
  · obtain ⟨p, l, n, xs, rfl, _⟩ := h
    rfl
  · obtain ⟨p, l, n, xs, rfl, B, hn, hl, hlp, h0, h1, q⟩ := h
    refine ⟨_, pss_one (ps_ret (pe_ix ix_list (pv 1) (pe_call GT hr (by rfl) Tk.gl Tk.fn.kp Tk.bi .nil pass0 (pa_cons (pv 0) (pa_cons (pe_callB call_len_seq (by rfl) T.len PySem.boot_len (pa_cons (pv 1) pa_nil)) pa_nil))) (fun _ _ => rfl))), ?_⟩
    refine ⟨_, rfl, _, rfl, _, rfl, l, _, rfl, .inl (SqL.of hl), p, _, n, rfl, B, hn, by omega, by omega, fun H' d bt B' d0 d1 fr => ?_⟩
    obtain ⟨i, rfl⟩ : ∃ i : Nat, d = i := ⟨d.toNat, by omega⟩
    have hi : i < xs.length := by omega
    exact ⟨l, xs, _, xs[i], rfl, rfl, SqL.of (bt _ _ hl hlp), atI_nat (List.getElem?_eq_getElem hi), q H' _ (List.getElem_mem hi) bt B' fr⟩
end
end Ov
namespace Ov
open PySem PySem.Spec PyProof.Rows L2
/-! ### names of instructions -/
def tail (c : Nat) : Nat := if c = 122 then 121 else 122
def nameOf (c t k : Nat) : List Nat := List.replicate (1 + t) c ++ List.replicate k (tail c)
theorem tail_ne (c : Nat) : tail c ≠ c := by
  unfold tail
  split <;> omega
theorem nameOf_inj {c t k c' t' k' : Nat} (h : nameOf c t k = nameOf c' t' k') : c = c' ∧ k = k' := by
  have hc : c = c' := by
    unfold nameOf at h
    rw [Nat.add_comm 1 t, Nat.add_comm 1 t', List.replicate_succ, List.replicate_succ] at h
    exact (List.cons.inj h).1
  subst hc
  refine ⟨rfl, ?_⟩
  have cnt : ∀ t k, (nameOf c t k).count (tail c) = k := fun t k => by
    unfold nameOf
    rw [List.count_append, List.count_replicate, List.count_replicate_self, if_neg]
    · omega
    · intro z
      exact tail_ne c (Eq.symm (by simpa using z))
  rw [← cnt t k, h, cnt]
theorem nameOf_len (c t k : Nat) : (nameOf c t k).length = 1 + t + k := by
  unfold nameOf
  rw [List.length_append, List.length_replicate, List.length_replicate]
theorem nameOf_low {c t k : Nat} (h1 : 97 ≤ c) (h2 : c ≤ 122) : ∀ x ∈ nameOf c t k, 97 ≤ x ∧ x ≤ 122 := by
  intro x hx
  unfold nameOf at hx
  rcases List.mem_append.mp hx with hx | hx
  · rw [(List.mem_replicate.mp hx).2]; exact ⟨h1, h2⟩
  · rw [(List.mem_replicate.mp hx).2]
    unfold tail
    split <;> omega
/-- an instruction -/
structure I4 where
  op : Nat
  nm : List Nat
  ln : Nat
  pad : Bool
/-- what is drawn for the place at -/
structure Drawn (lg first at_ : Nat) (x : I4) : Prop where
  nm : ∃ t, t < 3 ∧ x.nm = nameOf (97 + (first + 5 * at_) % 26) t (at_ / 26)
  ln : 1 ≤ x.ln ∧ x.ln ≤ lg
  pad : at_ = 0 → x.pad = true
/-- a valid table of instructions -/
structure TabOk (cnt lg : Nat) (is : List I4) : Prop where
  cb : 2 ≤ cnt ∧ cnt ≤ 256
  lb : lg ≤ 12
  ne : is ≠ []
  few : is.length ≤ 71
  asc : (is.map I4.op).Pairwise (· < ·)
  ops : ∀ x ∈ is, x.op < cnt
  len : ∀ x ∈ is, 1 ≤ x.ln ∧ x.ln ≤ lg
  nms : ∀ x ∈ is, 1 ≤ x.nm.length ∧ x.nm.length ≤ 8 ∧ ∀ c ∈ x.nm, 97 ≤ c ∧ c ≤ 122
  nd : (is.map I4.nm).Nodup
  fst : ∀ x, is[0]? = some x → x.pad = true
theorem names_nodup {lg first : Nat} {is : List I4} (hd : ∀ i x, is[i]? = some x → Drawn lg first i x) : (is.map I4.nm).Nodup := by
  rw [List.nodup_iff_pairwise_ne, List.pairwise_map, List.pairwise_iff_getElem]
  intro i j hi hj hij e
  obtain ⟨t, _, e1⟩ := (hd i _ (List.getElem?_eq_getElem hi)).nm
  obtain ⟨t', _, e2⟩ := (hd j _ (List.getElem?_eq_getElem hj)).nm
  rw [e1, e2] at e
  obtain ⟨h1, h2⟩ := nameOf_inj e
  omega
/-- an instruction as it stands -/
def I4.vs (x : I4) : List V := [.int (x.op : Int), .str (txt x.nm), .int (x.ln : Int), .bl x.pad]
/-- instructions, each a tuple of its own, in a tuple (or list) -/
def Rows (H : Hp) (rs : List Addr) (is : List I4) : Prop := rs.length = is.length ∧ ∀ (i : Nat) (r : Addr) (x : I4), rs[i]? = some r → is[i]? = some x → H r = some (.tup x.vs)
theorem Rows.same {H H' : Hp} {rs : List Addr} {is : List I4} (h : Rows H rs is) (s : Same H H') : Rows H' rs is := ⟨h.1, fun i r x h1 h2 => s _ _ (h.2 i r x h1 h2)⟩
theorem Rows.but {H H' : Hp} {p : Addr} {n : Nat} {rs : List Addr} {is : List I4} (h : Rows H rs is) (b : But p H H') (B : BoxAt H p n) : Rows H' rs is := by
  refine ⟨h.1, fun i r x h1 h2 => ?_⟩
  have hr := h.2 i r x h1 h2
  refine b _ _ hr fun z => ?_
  obtain ⟨a, b, c, e, _⟩ := B
  rw [z, e] at hr
  cases hr
theorem Rows.more {H : Hp} {rs : List Addr} {is : List I4} {r : Addr} {x : I4} (h : Rows H rs is) (hr : H r = some (.tup x.vs)) : Rows H (rs ++ [r]) (is ++ [x]) := by
  refine ⟨by rw [List.length_append, List.length_append, h.1]; rfl, fun i r' x' h1 h2 => ?_⟩
  by_cases c : i < rs.length
  · rw [List.getElem?_append_left c] at h1
    rw [List.getElem?_append_left (by rw [← h.1]; exact c)] at h2
    exact h.2 i r' x' h1 h2
  · have hl := (List.getElem?_eq_some_iff.mp h1).1
    rw [List.length_append] at hl
    have e : i = rs.length := by
      have : ([r] : List Addr).length = 1 := rfl
      omega
    subst e
    rw [List.getElem?_append_right (Nat.le_refl _), Nat.sub_self] at h1
    rw [h.1, List.getElem?_append_right (Nat.le_refl _), Nat.sub_self] at h2
    have e1 : r = r' := Option.some.inj h1
    have e2 : x = x' := Option.some.inj h2
    subst e1 e2
    exact hr
/-- a table: (byte count, instructions) -/
structure Tab (H : Hp) (t : Addr) (cnt lg : Nat) (is : List I4) (it : Addr) (rs : List Addr) : Prop where
  at_ : H t = some (.tup [.int (cnt : Int), .ref it])
  its : H it = some (.tup (rs.map V.ref))
  rows : Rows H rs is
  ok : TabOk cnt lg is
theorem Tab.same {H H' : Hp} {t : Addr} {cnt lg : Nat} {is : List I4} {it : Addr} {rs : List Addr} (h : Tab H t cnt lg is it rs) (s : Same H H') : Tab H' t cnt lg is it rs := ⟨s _ _ h.at_, s _ _ h.its, h.rows.same s, h.ok⟩
theorem ne_box {H : Hp} {p a : Addr} {n : Nat} {xs : List V} (B : BoxAt H p n) (h : H a = some (.tup xs)) : a ≠ p := fun z => by
  obtain ⟨_, _, _, e, _⟩ := B
  rw [z, e] at h
  cases h
theorem Tab.but {H H' : Hp} {p : Addr} {n : Nat} {t : Addr} {cnt lg : Nat} {is : List I4} {it : Addr} {rs : List Addr} (h : Tab H t cnt lg is it rs) (b : But p H H') (B : BoxAt H p n) : Tab H' t cnt lg is it rs :=
  ⟨b _ _ h.at_ (ne_box B h.at_), b _ _ h.its (ne_box B h.its), h.rows.but b B, h.ok⟩
theorem abc_at : ∀ i : Nat, i < 26 → atI (Str.ofString "abcdefghijklmnopqrstuvwxyz").cps.toList (i : Int) = some (97 + i) := by
  intro i hi
  refine atI_nat ?_
  rcases i with _ | _ | _ | _ | _ | _ | _ | _ | _ | _ | _ | _ | _ | _ | _ | _ | _ | _ | _ | _ | _ | _ | _ | _ | _ | _ | i <;> first | (exfalso; omega) | decide +kernel
theorem txt_add (a b : List Nat) : txt a ++ txt b = txt (a ++ b) := by
  show (⟨a.toArray ++ b.toArray⟩ : Str) = ⟨(a ++ b).toArray⟩
  simp
/-- how long the list at l is -/
def lenAt (H : Hp) (l : Addr) : Nat := match H l with
  | some (.lst xs) => xs.length
  | _ => 0
theorem lenAt_of {H : Hp} {l : Addr} {xs : List V} (h : H l = some (.lst xs)) : lenAt H l = xs.length := by
  unfold lenAt
  rw [h]
end Ov
namespace Ov
open PySem PySem.Spec PyProof.Rows L2
theorem erase_map {α β : Type} (f : α → β) : ∀ (l : List α) (j : Nat), (l.map f).eraseIdx j = (l.eraseIdx j).map f
  | [], j => rfl
  | a :: l, 0 => rfl
  | a :: l, j + 1 => by
    rw [List.map_cons, List.eraseIdx_cons_succ, List.eraseIdx_cons_succ, List.map_cons, erase_map f l j]
section
variable {P : Program} {w : World} {K : PySem.W.Frag} {mg : Str → Option Value} {base : Heap}
/-! ### _law_table -/
def spTable : Sp := fun vs H Q _ => ∃ (p : Addr) (n mb lg : Nat), vs = [.ref p, .int (mb : Int), .int (lg : Int)] ∧ BoxAt H p n ∧ n ≤ 2 ^ 39 ∧ 2 ≤ mb ∧ mb ≤ 256 ∧ 1 ≤ lg ∧ lg ≤ 12 ∧
  ∀ H' t cnt is it rs, But p H H' → BoxAt H' p (n + 1000) → H t = none → Tab H' t cnt lg is it rs → cnt ≤ mb → Q (.ref t) H'
theorem scTable : FnScope ["_law_box_here", "_law_most_bytes", "_law_longest", "_law_count", "_law_many", "_law_opcodes", "_law_found", "_law_first", "_law_at", "_law_opcode", "_law_letter", "_law_name", "_law_length"] ["_law_box_here", "_law_most_bytes", "_law_longest"] (defScope sTable) := ⟨rfl, rfl, rfl, by decide +kernel, rfl, by decide +kernel, by decide +kernel⟩
theorem ok_table {f fO fT : Addr} {fd fdO fdT : FuncData} {k : Nat} (F : Fun K "_law_table" "_law_table" sTable f fd) (T : Bi mg) (O : Def K mg "_law_of" sOf fO fdO ["_law_box_here", "_law_some"]) (Tk : Def K mg "_law_take" sTake fT fdT ["_law_box_here", "_law_many"]) :
    FnOk P w K mg base CX0 (k + 3) f fd ["_law_box_here", "_law_most_bytes", "_law_longest"] spTable := by
  have GO : FnOk P w K mg base CX0 (k + 2) fO fdO ["_law_box_here", "_law_some"] spOf := ok_of O.fn T Tk
  have GT : FnOk P w K mg base CX0 (k + 2) fT fdT ["_law_box_here", "_law_many"] spTake := ok_take Tk.fn
  refine F.ok scTable (fun vs H Q E h => ?_) (fun cdv A' outer s H vs Q E hr h => ?_)
  · obtain ⟨p, n, mb, lg, rfl, _⟩ := h
    rfl
  · obtain ⟨p, n, mb, lg, rfl, B, hn, mb1, mb2, lg1, lg2, q⟩ := h
    refine ⟨_, pss_cons (ps_set (i := 3) scTable.nd rfl (.inl rfl) (pe_op op_add pe_int (pe_call GT hr (by rfl) Tk.gl Tk.fn.kp Tk.bi .nil pass0 (pa_cons (pv 0) (pa_cons (pe_op op_sub (pv 1) pe_int) pa_nil)))))
      (pss_cons (ps_par (i := 4) (j := 5) (by rfl) scTable.nd rfl rfl (by decide) rfl rfl (pa_cons (pe_op op_add pe_int (pe_call GT hr (by rfl) Tk.gl Tk.fn.kp Tk.bi .nil pass0 (pa_cons (pv 0) (pa_cons (pe_callB (call_min2 rfl) (by rfl) T.min (by decide +kernel) (pa_cons pe_int (pa_cons (pv 3) pa_nil))) pa_nil))))
          (pa_cons (pe_listRange (by rfl) T.list (by rfl) T.range (pv 3)) pa_nil)) (by rfl))
      (C8.pss_cut (ps_if (PW.pt (pw_and (pt_cmpR op_gt (pv 3) pe_int (nomark _)) (pw_and1 (pt_cmpR op_eq (pe_op op_mod (pv 3) pe_int) pe_int (nomark _))))) (pss_one (ps_set (i := 4) scTable.nd rfl (.inl rfl) (pe_op op_add pe_int (pe_op op_fdiv (pv 3) pe_int)))) pss_nil)
      (pss_cons (ps_while PassesOwn.never (pt_cmpR op_gt (pe_callB call_len_seq (by rfl) T.len PySem.boot_len (pa_cons (pv 5) pa_nil)) (pv 4) (nomark _))
        (pss_one (ps_expr (pe_bm PySem.F.plainAttrs_list PySem.F.slot_list_pop PySem.F.type_list_pop mt_popAt (pv 5) (pa_cons (pe_call GT hr (by rfl) Tk.gl Tk.fn.kp Tk.bi .nil pass0 (pa_cons (pv 0) (pa_cons (pe_callB call_len_seq (by rfl) T.len PySem.boot_len (pa_cons (pv 5) pa_nil)) pa_nil))) pa_nil)))))
      (pss_cons (ps_par (i := 6) (j := 7) (by rfl) scTable.nd rfl rfl (by decide) rfl rfl (pa_cons (pe_lst pa_nil) (pa_cons (pe_call GT hr (by rfl) Tk.gl Tk.fn.kp Tk.bi .nil pass0 (pa_cons (pv 0) (pa_cons pe_int pa_nil))) pa_nil)) (by rfl))
      (pss_cons (ps_for PassesOwn.never rfl (pi_enum (by rfl) T.enumerate (pa_cons (pv 5) pa_nil)) (pg_tup rfl (pgs_cons (pg_name (i := 8) scTable.nd rfl (.inl rfl)) (pgs_cons (pg_name (i := 9) scTable.nd rfl (.inl rfl)) pgs_nil)))
        (pss_cons (ps_set (i := 10) scTable.nd rfl (.inl rfl) (pe_ix ix_str pe_str (pe_op op_mod (pe_op op_add (pv 7) (pe_op op_mul pe_int (pv 8))) pe_int) (fun _ _ => rfl)))
        (pss_cons (ps_set (i := 11) scTable.nd rfl (.inl rfl) (pe_op op_add_str (pe_op op_mulS (pv 10) (pe_op op_add pe_int (pe_call GT hr (by rfl) Tk.gl Tk.fn.kp Tk.bi .nil pass0 (pa_cons (pv 0) (pa_cons pe_int pa_nil)))))
          (pe_op op_mulS (pe_ifExp (pt_cmpR op_eq (pv 10) pe_str (nomark _)) pe_str pe_str) (pe_op op_fdiv (pv 8) pe_int))))
        (pss_cons (ps_set (i := 12) scTable.nd rfl (.inl rfl) (pe_call GO hr (by rfl) O.gl O.fn.kp O.bi .nil pass0 (pa_cons (pv 0) (pa_cons (pe_lst (pa_cons pe_int (pa_cons pe_int (pa_cons pe_int (pa_cons (pe_op op_add pe_int (pe_call GT hr (by rfl) Tk.gl Tk.fn.kp Tk.bi .nil pass0 (pa_cons (pv 0) (pa_cons (pv 2) pa_nil)))) pa_nil))))) pa_nil))))
        (pss_one (ps_expr (pe_bm PySem.F.plainAttrs_list PySem.F.slot_list_append PySem.F.type_list_append mt_append (pv 6) (pa_cons (pe_tup (pa_cons (pv 9) (pa_cons (pv 11) (pa_cons (pe_callB (call_min2 rfl) (by rfl) T.min (by decide +kernel) (pa_cons (pv 12) (pa_cons (pv 2) pa_nil)))
          (pa_cons (pe_or (pe_cmpR op_eq (pv 8) pe_int (nomark _)) (pe_one (pe_cmpR op_eq (pe_call GT hr (by rfl) Tk.gl Tk.fn.kp Tk.bi .nil pass0 (pa_cons (pv 0) (pa_cons pe_int pa_nil))) pe_int (nomark _)))) pa_nil))))) pa_nil))))))))
      (pss_one (ps_ret (pe_tup (pa_cons (pv 3) (pa_cons (pe_callTy call_tuple_of (by rfl) T.tuple (by decide +kernel) (pa_cons (pv 6) pa_nil)) pa_nil)))))))))), ?_⟩
    -- the byte count
    refine ⟨_, rfl, _, rfl, _, _, rfl, rfl, p, _, n, rfl, B, by omega, by omega, by omega, fun H1 c b1 B1 c0 c1 f1 => ⟨_, _, rfl, rfl, ?_⟩⟩
    obtain ⟨cnt, ec⟩ : ∃ cnt : Nat, 2 + c = (cnt : Int) := ⟨(2 + c).toNat, by omega⟩
    have hc2 : 2 ≤ cnt ∧ cnt ≤ mb := by omega
    dsimp only
    rw [ec]
    -- how many, and all opcodes
    refine ⟨_, rfl, _, rfl, _, _, rfl, p, _, n + 1, rfl, B1, by omega, by split <;> omega, by split <;> omega, fun H2 e b2 B2 e0 e1 f2 => ?_⟩
    refine ⟨_, _, rfl, rfl, _, rfl, cnt, rfl, by omega, fun l nl => ⟨_, _, rfl, ?_⟩⟩
    obtain ⟨mn0, em⟩ : ∃ m : Nat, 1 + e = (m : Int) := ⟨(1 + e).toNat, by omega⟩
    have hm0 : 1 ≤ mn0 ∧ mn0 ≤ 71 := by
      have : e < 6 := by
        revert e1
        split <;> omega
      omega
    dsimp only
    rw [em]
    have b02 : But p H H2 := b1.trans b2
    have hlp : l ≠ p := fun z => B2.ne (z ▸ nl)
    have hHl : H l = none := b02.free B.ne nl B2.ne
    have s3 := same_upd (o := HO.lst ((List.range cnt).map fun i : Nat => V.int (i : Int))) nl
    have b03 : But p H _ := b02.trans (But.of s3)
    have B3 := B2.same s3
    have h3 := @upd_same H2 l (HO.lst ((List.range cnt).map fun i : Nat => V.int (i : Int)))
    generalize upd H2 l (HO.lst ((List.range cnt).map fun i : Nat => V.int (i : Int))) = H3 at *
    -- at times more of them
    refine ⟨fun σ H4 => H4 = H3 ∧ ∃ mn : Nat, 1 ≤ mn ∧ mn ≤ 71 ∧ σ = [some (.ref p), some (.int (mb : Int)), some (.int (lg : Int)), some (.int (cnt : Int)), some (.int (mn : Int)), some (.ref l), none, none, none, none, none, none, none], ?_, ?_⟩
    · refine ⟨_, rfl, _, _, rfl, rfl, _, rfl, ite2 (fun _ => ?_) (fun _ => ?_)⟩
      · refine ⟨_, rfl, _, _, rfl, rfl, (show (0 : Int) < 7 by decide), rfl, _, rfl, ite2 (fun _ => ?_) (fun _ => ?_)⟩
        · refine ⟨_, rfl, _, _, rfl, rfl, ⟨by decide, by decide⟩, _, _, rfl, rfl, rfl, 7 + cnt / 4, by omega, by omega, ?_⟩
          show [some (V.ref p), _, _, _, some (V.int (7 + (cnt : Int) / 4)), _, _, _, _, _, _, _, _] = _
          rw [show (7 + (cnt : Int) / 4) = ((7 + cnt / 4 : Nat) : Int) by omega]
        · exact ⟨rfl, mn0, hm0.1, hm0.2, rfl⟩
      · exact ⟨rfl, mn0, hm0.1, hm0.2, rfl⟩
    rintro σ H4 ⟨rfl, mn, mn1, mn2, rfl⟩
    -- thrown out, one by one
    refine while_by (fun σ H5 => σ = [some (.ref p), some (.int (mb : Int)), some (.int (lg : Int)), some (.int (cnt : Int)), some (.int (mn : Int)), some (.ref l), none, none, none, none, none, none, none] ∧
        But p H H5 ∧ ∃ ops : List Nat, H5 l = some (.lst (ops.map fun i : Nat => V.int (i : Int))) ∧ ops.Pairwise (· < ·) ∧ (∀ x ∈ ops, x < cnt) ∧ 1 ≤ ops.length ∧ ops.length ≤ cnt ∧ BoxAt H5 p (n + 2 + (cnt - ops.length))) (fun _ H5 => lenAt H5 l)
      ⟨rfl, b03, List.range cnt, h3, List.pairwise_lt_range, fun x hx => List.mem_range.mp hx, by rw [List.length_range]; omega, by rw [List.length_range]; exact Nat.le_refl _, B3.mono (by omega)⟩ ?_ ?_
    · rintro σ H5 ⟨rfl, b5, ops, h5, asc, lt, l1, l2, B5⟩
      refine ⟨_, rfl, l, _, rfl, .inl (SqL.of h5), _, rfl, _, _, rfl, rfl, _, rfl, ?_⟩
      rw [List.length_map]
      by_cases big : (mn : Int) < (ops.length : Int)
      · rw [decide_eq_true big]
        refine iteT ?_
        refine ⟨_, rfl, .inl ⟨rfl, _, SqL.of h5⟩, _, rfl, _, rfl, l, _, rfl, .inl (SqL.of h5), p, _, _, rfl, B5, by omega, by rw [List.length_map]; omega, by rw [List.length_map]; omega, fun H6 d b6 B6 d0 d1 f6 => ?_⟩
        rw [List.length_map] at d1
        obtain ⟨j, rfl⟩ : ∃ j : Nat, d = (j : Int) := ⟨d.toNat, by omega⟩
        have hj : j < ops.length := by omega
        have h6 := b6 _ _ h5 hlp
        refine ⟨l, _, (j : Int), j, _, rfl, rfl, h6, by omega, by omega, (ixN_seq (ixN_at (by rw [List.length_map]; exact hj))).1, (by rw [List.getElem?_map, List.getElem?_eq_getElem hj]; rfl), ?_⟩
        have eE : (ops.map fun i : Nat => V.int (i : Int)).eraseIdx j = (ops.eraseIdx j).map fun i : Nat => V.int (i : Int) := by
          exact erase_map _ _ _
        rw [eE]
        have hlen : (ops.eraseIdx j).length = ops.length - 1 := List.length_eraseIdx_of_lt hj
        refine ⟨⟨rfl, fun b o eb hb => ?_, ops.eraseIdx j, upd_same, asc.sublist (List.eraseIdx_sublist ops j), fun x hx => lt x (List.mem_of_mem_eraseIdx hx), by omega, by omega, ?_⟩, ?_⟩
        · rw [upd_ne (ne_of_none eb hHl)]
          exact b6 _ _ (b5 b o eb hb) hb
        · obtain ⟨x1, x2, x3, e1, r⟩ := B6
          have := (show BoxAt (upd H6 l (.lst ((ops.eraseIdx j).map fun i : Nat => V.int (i : Int)))) p (n + 2 + (cnt - ops.length) + 1) from ⟨x1, x2, x3, by rw [upd_ne (Ne.symm hlp)]; exact e1, r⟩)
          exact this.mono (by omega)
        · rw [lenAt_of upd_same, lenAt_of h5, List.length_map, List.length_map]
          omega
      · rw [decide_eq_false big]
        refine iteF ?_
        have few : ops.length ≤ 71 := by omega
        -- the names' first letter
        refine ⟨Nat.zero_le _, fun fo nfo => ?_⟩
        have s7 := same_upd (o := HO.lst []) nfo
        have hfp : fo ≠ p := fun z => B5.ne (z ▸ nfo)
        have hHfo : H fo = none := b5.free B.ne nfo B5.ne
        refine ⟨_, rfl, p, 26, _, rfl, B5.same s7, by omega, by decide, by decide, fun H8 fst b8 B8 f80 f81 f8 => ⟨_, _, rfl, ?_⟩⟩
        obtain ⟨fi, rfl⟩ : ∃ j : Nat, fst = (j : Int) := ⟨fst.toNat, by omega⟩
        have h8l := b8 _ _ (s7 _ _ h5) hlp
        have h8f : H8 fo = some (.lst []) := b8 _ _ upd_same hfp
        have b08 : But p H H8 := (b5.trans (But.of s7)).trans b8
        have nHfo8 : fo ≠ l := (ne_of_none h5 nfo).symm
        -- one instruction for each
        refine ⟨_, rfl, l, _, rfl, SqL.of h8l, for_it (walk_enum (K := K) (a := l) (xs := ops.map fun i : Nat => V.int (i : Int)))
          (fun i σ H9 => ∃ y8 y9 y10 y11 y12, σ = [some (.ref p), some (.int (mb : Int)), some (.int (lg : Int)), some (.int (cnt : Int)), some (.int (mn : Int)), some (.ref l), some (.ref fo), some (.int (fi : Int)), y8, y9, y10, y11, y12] ∧
            But p H H9 ∧ H9 l = some (.lst (ops.map fun i : Nat => V.int (i : Int))) ∧ BoxAt H9 p (n + 300 + 4 * i) ∧ ∃ (rs : List Addr) (is : List I4), H9 fo = some (.lst (rs.map V.ref)) ∧ is.length = i ∧ Rows H9 rs is ∧ (∀ j x, is[j]? = some x → Drawn lg fi j x ∧ ops[j]? = some x.op))
          ⟨none, none, none, none, none, rfl, b08, h8l, B8.mono (by omega), [], [], h8f, rfl, ⟨rfl, fun i r x h => by simp at h⟩, fun j x h => by simp at h⟩ (fun i σ H9 _ ⟨_, _, _, _, _, _, _, h, _⟩ => SqL.of h) ?_ ?_⟩
        · rintro i x σ H9 H10 hi ⟨y8, y9, y10, y11, y12, rfl, b9, h9l, B9, rs, is, h9f, hil, R9, D9⟩ ⟨tt, x1, x2, rfl, ntt, rfl, f1, f2⟩
          rw [List.length_map] at hi
          have e1 : x1 = .int (i : Int) := (Option.some.inj f1).symm
          have e2 : x2 = .int ((ops[i] : Nat) : Int) := by
            have : (ops.map fun i : Nat => V.int (i : Int))[i]? = some x2 := f2
            rw [List.getElem?_map, List.getElem?_eq_getElem hi] at this
            exact (Option.some.inj this).symm
          subst e1 e2
          have st := same_upd (o := HO.tup [V.int (i : Int), V.int ((ops[i] : Nat) : Int)]) ntt
          refine ⟨tt, _, rfl, SqT.of upd_same, rfl, _, _, rfl, _, _, rfl, rfl, ?_⟩
          -- the letter
          refine ⟨_, rfl, _, rfl, _, _, rfl, rfl, .inl ⟨by decide, by decide⟩, _, _, rfl, rfl, _, _, rfl, rfl, (show (0 : Int) < 26 by decide), _, _, 97 + (fi + 5 * i) % 26, rfl, rfl, by decide +kernel, ?_, ?_⟩
          · rw [show ((fi : Int) + 5 * (i : Int)) % 26 = (((fi + 5 * i) % 26 : Nat) : Int) by omega]
            exact abc_at _ (Nat.mod_lt _ (by decide))
          generalize hcc : 97 + (fi + 5 * i) % 26 = cc at *
          have cc1 : 97 ≤ cc ∧ cc ≤ 122 := by omega
          -- the name
          refine ⟨_, rfl, _, rfl, p, 3, _, rfl, B9.same st, by omega, by decide, by decide, fun H11 t3 b11 B11 t0 t1 f11 => ?_⟩
          obtain ⟨t, rfl⟩ : ∃ j : Nat, t3 = (j : Int) := ⟨t3.toNat, by omega⟩
          refine ⟨_, _, rfl, rfl, [cc], _, rfl, rfl, by omega, by omega, (show 1 ≤ 1000 by decide), ?_⟩
          have eqz : ∀ (Q : Prop) (R : Prop), (cc = 122 → Q) → (cc ≠ 122 → R) → (if decide (V.str (txt [cc]) = V.str (Str.ofString "z")) = true then Q else R) := fun Q R h1 h2 => by
            by_cases z : cc = 122
            · rw [decide_eq_true (by rw [z]; decide +kernel)]
              exact iteT (h1 z)
            · rw [decide_eq_false (fun w => z (by
                have : txt [cc] = txt [122] := (V.str.inj w).trans (by decide +kernel)
                exact (List.cons.inj (txt_inj this)).1))]
              exact iteF (h2 z)
          have rep1 : ∀ (m c : Nat), (List.replicate m [c]).flatten = List.replicate m c := fun m c => flat_rep c m
          have s911 : But p H9 H11 := (But.of st).trans b11
          have b11' : But p H H11 := b9.trans s911
          have h11l := s911 _ _ h9l hlp
          have h11f := s911 _ _ h9f hfp
          have R11 := R9.but s911 B9
          refine ⟨_, rfl, rfl, _, rfl, eqz _ _ (fun z => ?_) (fun z => ?_)⟩
          all_goals
            refine ⟨_, rfl, _, _, rfl, rfl, ⟨by decide, by decide⟩, [tail cc], _, ?_, rfl, by omega, by omega, (show 1 ≤ 1000 by decide), ?_⟩
            · unfold tail
              first
                | (rw [if_pos z]; decide +kernel)
                | (rw [if_neg z]; decide +kernel)
            rw [rep1, rep1, show (1 + (t : Int)).toNat = 1 + t by omega, show ((i : Int) / 26).toNat = i / 26 by omega]
            refine ⟨_, _, rfl, rfl, ?_, ?_⟩
            · rw [txt_len, txt_len, List.length_replicate, List.length_replicate]
              exact Nat.le_of_lt (small1000 (by omega))
            rw [txt_add]
            show tSeq _ _ _ ([some (V.ref p), some (.int (mb : Int)), some (.int (lg : Int)), some (.int (cnt : Int)), some (.int (mn : Int)), some (.ref l), some (.ref fo), some (.int (fi : Int)), some (.int (i : Int)), some (.int ((ops[i] : Nat) : Int)), some (.str (txt [cc])), some (.str (txt (nameOf cc t (i / 26)))), y12] : L2.St) H11
            -- the length
            refine ⟨_, rfl, _, rfl, _, rfl, p, (lg : Int), _, rfl, B11, by omega, by omega, by omega, fun H12 e4 b12 B12 e40 e41 f12 => ?_⟩
            refine ⟨_, _, rfl, rfl, by show 4 ≤ sizeLine; decide, fun l4 nl4 => ?_⟩
            have s12 := same_upd (o := HO.lst [V.int 1, V.int 2, V.int 3, V.int (1 + e4)]) nl4
            have hl4p : l4 ≠ p := fun z => B12.ne (z ▸ nl4)
            refine ⟨p, l4, _, _, rfl, B12.same s12, by omega, upd_same, hl4p, (show 0 < 4 by decide), (show 4 ≤ 1000 by decide), fun H13 v hv b13 B13 f13 => ?_⟩
            obtain ⟨ln, rfl, ln1, ln2⟩ : ∃ ln : Nat, v = .int (ln : Int) ∧ 1 ≤ ln ∧ ln ≤ 12 := by
              simp only [List.mem_cons, List.not_mem_nil, or_false] at hv
              rcases hv with rfl | rfl | rfl | rfl
              · exact ⟨1, rfl, by decide, by decide⟩
              · exact ⟨2, rfl, by decide, by decide⟩
              · exact ⟨3, rfl, by decide, by decide⟩
              · exact ⟨(1 + e4).toNat, by congr 1; omega, by omega, by omega⟩
            have s1113 : But p H11 H13 := (b12.trans (But.of s12)).trans b13
            have h13l := s1113 _ _ h11l hlp
            have h13f := s1113 _ _ h11f hfp
            have R13 := R11.but s1113 B11
            have b13' := b11'.trans s1113
            refine ⟨_, rfl, .inl ⟨rfl, _, SqL.of h13f⟩, _, rfl, _, rfl, _, rfl, _, rfl, _, _, rfl, _, rfl, rfl, _, rfl, ?_⟩
            have emin : (if (lg : Int) < (ln : Int) then (lg : Int) else (ln : Int)) = ((min ln lg : Nat) : Int) := by
              split <;> omega
            dsimp only
            rw [emin]
            -- the last part: it is put behind the others
            have put : ∀ (b : Bool) (H14 : Hp), (i = 0 → b = true) → But p H H14 → H14 l = some (.lst (ops.map fun i : Nat => V.int (i : Int))) → BoxAt H14 p (n + 300 + 4 * (i + 1)) → H14 fo = some (.lst (rs.map V.ref)) → Rows H14 rs is →
                ∀ r, H14 r = none → ∃ (rs' : List Addr) (is' : List I4), upd (upd H14 r (.tup [.int ((ops[i] : Nat) : Int), .str (txt (nameOf cc t (i / 26))), .int ((min ln lg : Nat) : Int), .bl b])) fo (.lst (rs.map V.ref ++ [V.ref r])) fo = some (.lst (rs'.map V.ref)) ∧ is'.length = i + 1 ∧
                  Rows (upd (upd H14 r (.tup [.int ((ops[i] : Nat) : Int), .str (txt (nameOf cc t (i / 26))), .int ((min ln lg : Nat) : Int), .bl b])) fo (.lst (rs.map V.ref ++ [V.ref r]))) rs' is' ∧ (∀ j x, is'[j]? = some x → Drawn lg fi j x ∧ ops[j]? = some x.op) := by
              intro b H14 hb b14 h14l B14 h14f R14 r nr
              have sr := same_upd (o := HO.tup [.int ((ops[i] : Nat) : Int), .str (txt (nameOf cc t (i / 26))), .int ((min ln lg : Nat) : Int), .bl b]) nr
              have hrf : r ≠ fo := fun z => by rw [z, h14f] at nr; cases nr
              have R15 := (R14.same sr).more (r := r) (x := ⟨ops[i], nameOf cc t (i / 26), min ln lg, b⟩) upd_same
              refine ⟨rs ++ [r], is ++ [⟨ops[i], nameOf cc t (i / 26), min ln lg, b⟩], by rw [upd_same, List.map_append]; rfl, by rw [List.length_append, hil]; rfl, ⟨R15.1, fun j r' x' h1 h2 => ?_⟩, fun j x hj => ?_⟩
              · have := R15.2 j r' x' h1 h2
                rw [upd_ne (fun z => by rw [z, sr _ _ h14f] at this; cases this)]
                exact this
              · by_cases c : j < is.length
                · rw [List.getElem?_append_left c] at hj
                  exact D9 j x hj
                · have hl := (List.getElem?_eq_some_iff.mp hj).1
                  rw [List.length_append] at hl
                  have e : j = i := by
                    have : ([⟨ops[i], nameOf cc t (i / 26), min ln lg, b⟩] : List I4).length = 1 := rfl
                    omega
                  subst e
                  rw [List.getElem?_append_right (by omega), hil, Nat.sub_self] at hj
                  have ex : (⟨ops[j], nameOf cc t (j / 26), min ln lg, b⟩ : I4) = x := Option.some.inj hj
                  subst ex
                  exact ⟨⟨⟨t, by omega, by rw [← hcc]⟩, ⟨by show 1 ≤ min ln lg; omega, by show min ln lg ≤ lg; omega⟩, hb⟩, List.getElem?_eq_getElem hi⟩
            have fin : ∀ (b : Bool) (H14 : Hp), (i = 0 → b = true) → But p H H14 → H14 l = some (.lst (ops.map fun i : Nat => V.int (i : Int))) → BoxAt H14 p (n + 300 + 4 * (i + 1)) → H14 fo = some (.lst (rs.map V.ref)) → Rows H14 rs is →
                ∀ r, H14 r = none → But p H (upd (upd H14 r (.tup [.int ((ops[i] : Nat) : Int), .str (txt (nameOf cc t (i / 26))), .int ((min ln lg : Nat) : Int), .bl b])) fo (.lst (rs.map V.ref ++ [V.ref r]))) ∧
                  (upd (upd H14 r (.tup [.int ((ops[i] : Nat) : Int), .str (txt (nameOf cc t (i / 26))), .int ((min ln lg : Nat) : Int), .bl b])) fo (.lst (rs.map V.ref ++ [V.ref r]))) l = some (.lst (ops.map fun i : Nat => V.int (i : Int))) ∧
                  BoxAt (upd (upd H14 r (.tup [.int ((ops[i] : Nat) : Int), .str (txt (nameOf cc t (i / 26))), .int ((min ln lg : Nat) : Int), .bl b])) fo (.lst (rs.map V.ref ++ [V.ref r]))) p (n + 300 + 4 * (i + 1)) := by
              intro b H14 hb b14 h14l B14 h14f R14 r nr
              have sr := same_upd (o := HO.tup [.int ((ops[i] : Nat) : Int), .str (txt (nameOf cc t (i / 26))), .int ((min ln lg : Nat) : Int), .bl b]) nr
              refine ⟨fun c o eb hb => ?_, ?_, ?_⟩
              · rw [upd_ne (ne_of_none eb hHfo)]
                exact sr _ _ (b14 c o eb hb)
              · rw [upd_ne (Ne.symm nHfo8)]
                exact sr _ _ h14l
              · obtain ⟨x1, x2, x3, e1, r⟩ := B14.same sr
                exact ⟨x1, x2, x3, by rw [upd_ne (Ne.symm hfp)]; exact e1, r⟩
            have rlen : (rs.map V.ref).length < sizeLine := by
              rw [List.length_map, R9.1, hil]
              exact small1000 (by omega)
            by_cases i0 : i = 0
            · rw [decide_eq_true (show V.int (i : Int) = V.int 0 by rw [i0]; rfl)]
              refine iteT ⟨by show 4 ≤ sizeLine; decide, fun r nr => ?_⟩
              have hb : i = 0 → true = true := fun _ => rfl
              have B13' : BoxAt H13 p (n + 300 + 4 * (i + 1)) := B13.mono (by omega)
              obtain ⟨a1, a2, a3⟩ := fin true H13 hb b13' h13l B13' h13f R13 r nr
              refine ⟨fo, _, _, rfl, rfl, same_upd nr _ _ h13f, rlen, ?_⟩
              exact ⟨_, _, _, _, _, rfl, a1, a2, a3, put true H13 hb b13' h13l B13' h13f R13 r nr⟩
            · rw [decide_eq_false (show ¬ V.int (i : Int) = V.int 0 from fun z => i0 (by have := V.int.inj z; omega))]
              refine iteF ⟨_, rfl, p, 2, _, rfl, B13, by omega, by decide, by decide, fun H14 e5 b14 B14 e50 e51 f14 => ⟨rfl, by show 4 ≤ sizeLine; decide, fun r nr => ?_⟩⟩
              have hb : i = 0 → decide (V.int e5 = V.int 0) = true := fun z => absurd z i0
              have h14l := b14 _ _ h13l hlp
              have h14f := b14 _ _ h13f hfp
              have R14 := R13.but b14 B13
              have b14' := b13'.trans b14
              have B14' : BoxAt H14 p (n + 300 + 4 * (i + 1)) := B14.mono (by omega)
              obtain ⟨a1, a2, a3⟩ := fin _ H14 hb b14' h14l B14' h14f R14 r nr
              refine ⟨fo, _, _, rfl, rfl, same_upd nr _ _ h14f, rlen, ?_⟩
              exact ⟨_, _, _, _, _, rfl, a1, a2, a3, put _ H14 hb b14' h14l B14' h14f R14 r nr⟩
        · rintro σ H9 ⟨y8, y9, y10, y11, y12, rfl, b9, h9l, B9, rs, is, h9f, hil, R9, D9⟩
          rw [List.length_map] at hil B9
          refine ⟨_, rfl, _, rfl, fo, _, rfl, .inl ⟨SqL.of h9f, fun it nit => ?_⟩⟩
          refine ⟨by show 2 ≤ sizeLine; decide, fun t nt => ?_⟩
          have sA := same_upd (o := HO.tup (rs.map V.ref)) nit
          have sB := same_upd (o := HO.tup [V.int (cnt : Int), V.ref it]) nt
          have sAB := sA.trans sB
          have nt9 : H9 t = none := sA.free nt
          have eops : is.map I4.op = ops := by
            refine List.ext_getElem (by rw [List.length_map, hil]) fun j h1 h2 => ?_
            rw [List.length_map] at h1
            have := (D9 j _ (List.getElem?_eq_getElem h1)).2
            rw [List.getElem?_eq_getElem h2] at this
            rw [List.getElem_map]
            exact (Option.some.inj this).symm
          refine q _ t cnt is it rs (b9.trans (But.of sAB)) ((B9.same sAB).mono (by omega)) (b9.free B.ne nt9 B9.ne) ⟨upd_same, sB _ _ upd_same, R9.same sAB, ?_⟩ hc2.2
          refine ⟨⟨by omega, by omega⟩, by omega, fun z => by rw [z] at hil; simp at hil; omega, by omega, by rw [eops]; exact asc, fun x hx => ?_, fun x hx => ?_, fun x hx => ?_, names_nodup (fun i x h => (D9 i x h).1), fun x hx => (D9 0 x hx).1.pad rfl⟩
          · exact lt _ (by rw [← eops]; exact List.mem_map.mpr ⟨x, hx, rfl⟩)
          · obtain ⟨j, hj⟩ := List.mem_iff_getElem?.mp hx
            exact (D9 j x hj).1.ln
          · obtain ⟨j, hj⟩ := List.mem_iff_getElem?.mp hx
            have hjl := (List.getElem?_eq_some_iff.mp hj).1
            obtain ⟨t, ht, en⟩ := (D9 j x hj).1.nm
            rw [en, nameOf_len]
            exact ⟨by omega, by omega, nameOf_low (by omega) (by omega)⟩
    · rintro σ H5 Q1 Q2 hQ ⟨v, h1, pp, ys, h2, h3, v2, h4, i, j, h5, h6, b, h7, h8⟩
      exact ⟨v, h1, pp, ys, h2, h3, v2, h4, i, j, h5, h6, b, h7, hQ _ _ h8⟩
end
end Ov
namespace Ov
open PySem PySem.Spec PyProof.Rows L2
theorem nlt_sign {a b : Nat} (h : a ≤ b) : decide (([b] : List Nat) < [a]) = false := by
  refine decide_eq_false ?_
  rw [List.cons_lt_cons_iff]
  rintro (z | ⟨_, z⟩)
  · omega
  · exact absurd z (by simp)
section
variable {X : Cx}
/-- a slice of a tuple, or of a list -/
theorem sl_seq : SlR X (fun x lo hi H Q => rSlA X.K x lo hi H Q ∨ rSlL X.K x lo hi H Q) := by
  intro pins s σ H x v vl vu lo hi sl Q I rx hs pl pu h
  rcases h with h | h
  · exact sl_tupA pins s σ H x v vl vu lo hi sl Q I rx hs pl pu h
  · exact sl_list pins s σ H x v vl vu lo hi sl Q I rx hs pl pu h
end
section
variable {P : Program} {w : World} {K : PySem.W.Frag} {mg : Str → Option Value} {base : Heap}
/-! ### is_ascending of a list -/
def spAscL (K : PySem.W.Frag) : Sp := fun vs H Q _ => ∃ (a : Addr) (ns : List Int), vs = [.ref a] ∧ SqL K H a (ns.map V.int) ∧ ns.length ≤ 1000 ∧ ns.Pairwise (· < ·) ∧ ∀ H', Same H H' → Q (.bl true) H'
theorem ok_ascL {f : Addr} {fd : FuncData} {k : Nat} (F : Fun K "is_ascending" "is_ascending" sAscending f fd) (T : Bi mg) : FnOk P w K mg base CX0 (k + 1) f fd ["numbers"] (spAscL K) := by
  refine F.ok scAscending (fun vs H Q E h => ?_) (fun cdv A outer s H vs Q E hr h => ?_)
  · obtain ⟨a, ns, rfl, _⟩ := h
    rfl
  · obtain ⟨a, ns, rfl, hS, hlen, hasc, q⟩ := h
    refine ⟨_, pss_one (ps_ret (pe_callB (cr_all rfl) (by rfl) T.all (by decide +kernel) (pa_cons
      (pe_lc (own := [("low", 1), ("high", 2)]) (g := gTup K 2 (gCons (gName 1) (gCons (gName 2) gNil))) (tt := tYes) (by rfl) scAscending.nd (RZ.pi_zipA (by rfl) T.zip (pa_cons (pv 0) (pa_cons (pe_slice sl_list (pv 0) (po_some pe_int) po_none) pa_nil)))
        (blkOk_by (own := [("low", 1), ("high", 2)]) (N := ["numbers", "low", "high"]) (sc := defScope sAscending) (by decide +kernel))
        (fun _ _ _ _ _ => pg_tup rfl (pgs_cons (pg_name (i := 1) scAscending.nd rfl (Or.inl rfl)) (pgs_cons (pg_name (i := 2) scAscending.nd rfl (Or.inl rfl)) pgs_nil)))
        (fun _ _ _ _ _ => pts_nil) (fun _ _ _ _ _ => pe_cmpR op_lt (pv 1) (pv 2) (nomark _))) pa_nil))), ?_⟩
    refine ⟨_, rfl, _, rfl, 1, rfl, a, ns.map V.int, rfl, hS, fun c nc => ?_⟩
    have s1 : Same H (upd H c (.lst (cutV (ns.map V.int) (some 1) none))) := same_upd nc
    have hc : SqL K (upd H c (.lst (cutV (ns.map V.int) (some 1) none))) c ((ns.drop 1).map V.int) := .inl (.inl (by rw [upd_same, cut1, List.map_drop]))
    refine ⟨a, c, ns.map V.int, (ns.drop 1).map V.int, rfl, .inl ⟨s1.seq hS, hc, fun D nD => lc_it (walk_zip (xs := ns.map V.int) (ys := (ns.drop 1).map V.int) rfl)
      (fun i H2 => Mk (upd H c (.lst (cutV (ns.map V.int) (some 1) none))) H2 D ((List.replicate i true).map V.bl)) (.start nD) (fun i H2 _ p => ⟨p.same.seq (s1.seq hS), p.same.seq hc⟩) (fun i x H2 H3 hi p y => ?_) (fun H2 p => ?_)⟩⟩
    · obtain ⟨t, x1, x2, rfl, nt, rfl, f1, f2⟩ := y
      have hi' : i < min ns.length (ns.length - 1) := by simpa using hi
      have h1 : i < ns.length := by omega
      have h2 : i + 1 < ns.length := by omega
      have e1 : x1 = .int ns[i] := by
        have : (ns.map V.int)[i]? = some x1 := f1
        rw [List.getElem?_map, List.getElem?_eq_getElem h1] at this
        exact (Option.some.inj this).symm
      have e2 : x2 = .int ns[i + 1] := by
        have : ((ns.drop 1).map V.int)[i]? = some x2 := f2
        rw [List.getElem?_map, List.getElem?_drop, Nat.add_comm 1 i, List.getElem?_eq_getElem h2] at this
        exact (Option.some.inj this).symm
      have hlt : ns[i] < ns[i + 1] := List.pairwise_iff_getElem.mp hasc i (i + 1) h1 h2 (by omega)
      refine ⟨t, [x1, x2], rfl, .inl (.inl upd_same), rfl, x1, [x2], rfl, x2, [], rfl, rfl, rfl, x1, rfl, x2, rfl, _, _, e1, e2, _, (by rw [upd_ne (ne_of_none p.at_ nt)]; exact p.at_), (by rw [List.length_map, List.length_replicate]; exact small1000 (by omega)), ?_⟩
      show Mk _ (upd _ D (.lst (_ ++ [V.bl (decide (ns[i] < ns[i + 1]))]))) D _
      rw [decide_eq_true hlt, List.replicate_succ', List.map_append]
      exact p.put (same_upd nt)
    · refine ⟨D, _, rfl, .inl (.inl p.at_), ?_⟩
      rw [all_true]
      exact q H2 (s1.trans p.same)
/-! ### is_name -/
def spName : Sp := fun vs H Q _ => ∃ nm : List Nat, vs = [.str (txt nm)] ∧ 1 ≤ nm.length ∧ nm.length ≤ 8 ∧ (∀ c ∈ nm, 97 ≤ c ∧ c ≤ 122) ∧ ∀ H', Same H H' → Q (.bl true) H'
theorem scName : FnScope ["value", "letter"] ["value"] (defScope sIsName) := ⟨rfl, rfl, rfl, by decide +kernel, rfl, by decide +kernel, by decide +kernel⟩
theorem ok_name {f : Addr} {fd : FuncData} {k : Nat} (F : Fun K "is_name" "is_name" sIsName f fd) (T : Bi mg) (m8 : ∃ t, mg "MOST_LETTERS" = some (.int 8 t)) : FnOk P w K mg base CX0 (k + 1) f fd ["value"] spName := by
  obtain ⟨t8, m8⟩ := m8
  refine F.ok scName (fun vs H Q E h => ?_) (fun cdv A outer s H vs Q E hr h => ?_)
  · obtain ⟨nm, rfl, _⟩ := h
    rfl
  · obtain ⟨nm, rfl, h1, h2, low, q⟩ := h
    refine ⟨_, pss_cons (ps_if (PW.pt (pw_or (pt_not (pt_val (pe_callB call_isi (by rfl) T.isi (by decide +kernel) (pa_cons (pv 0) (pa_cons (pe_bltn (v := .ty "str") (u := .type "str") (by rfl) T.str (by decide +kernel) rfl) pa_nil)))))
        (pw_or1 (pt_not (pt_chain op_le op_le pe_int (pe_callB call_len_str (by rfl) T.len PySem.boot_len (pa_cons (pv 0) pa_nil)) (pe_glob (v := .int 8) (by rfl) m8 ⟨_, rfl⟩)))))) (pss_one (ps_ret pe_bl)) pss_nil)
      (pss_one (ps_ret (pe_callB (cr_all rfl) (by rfl) T.all (by decide +kernel) (pa_cons
        (pe_lc (own := [("letter", 1)]) (g := gName 1) (tt := tYes) (by rfl) scName.nd (pi_str (pv 0)) (blkOk_by (own := [("letter", 1)]) (N := ["value", "letter"]) (sc := defScope sIsName) (by decide +kernel))
          (fun _ _ _ _ _ => pg_name (i := 1) scName.nd rfl (Or.inl rfl)) (fun _ _ _ _ _ => pts_nil) (fun _ _ _ _ _ => pe_chain op_le_str op_le_str pe_str (pv 1) pe_str)) pa_nil)))), ?_⟩
    have hsz : (txt nm).length ≤ sizeLine := by rw [txt_len]; exact Nat.le_of_lt (small1000 (by omega))
    refine ⟨_, rfl, _, _, _, _, _, rfl, .ty _, .base (.str _), kit_ty (by decide +kernel : kitB "str" "str" = some true), _, rfl, ?_⟩
    refine iteF ⟨_, rfl, _, rfl, hsz, _, _, rfl, rfl, _, rfl, ?_⟩
    rw [txt_len, decide_eq_true (show (1 : Int) ≤ (nm.length : Int) by omega)]
    refine iteT ⟨_, _, rfl, rfl, _, rfl, ?_⟩
    rw [decide_eq_true (show (nm.length : Int) ≤ 8 by omega)]
    refine iteF ?_
    refine ⟨_, rfl, txt nm, rfl, fun D nD => lc_it (walk_str (z := txt nm)) (fun i H2 => Mk H H2 D ((List.replicate i true).map V.bl)) (.start nD) (fun _ _ _ _ => trivial) ?_ ?_⟩
    · rintro i x H2 H3 hi mk ⟨rfl, c, hc, rfl⟩
      have hcm : c ∈ nm := by
        have : nm[i]? = some c := by simpa [txt] using hc
        exact List.mem_of_getElem? this
      obtain ⟨c1, c2⟩ := low c hcm
      have hi' : i < nm.length := by
        have : i < (txt nm).cps.size := hi
        simpa [txt] using this
      refine ⟨rfl, _, rfl, Str.ofString "a", _, rfl, rfl, _, rfl, ?_⟩
      have ea : (Str.ofString "a").cps.toList = [97] := by decide +kernel
      have ez : (Str.ofString "z").cps.toList = [122] := by decide +kernel
      rw [ea, show decide (((⟨#[c]⟩ : Str).cps.toList) < ([97] : List Nat)) = false from nlt_sign c1]
      refine iteT ⟨_, Str.ofString "z", rfl, rfl, ?_⟩
      rw [ez, show decide (([122] : List Nat) < ((⟨#[c]⟩ : Str).cps.toList)) = false from nlt_sign c2]
      refine ⟨_, mk.at_, (by rw [List.length_map, List.length_replicate]; exact small1000 (by omega)), ?_⟩
      rw [List.replicate_succ', List.map_append]
      exact mk.put (Same.refl _)
    · intro H2 mk
      refine ⟨D, _, rfl, SqL.of mk.at_, ?_⟩
      rw [all_true]
      exact q H2 mk.same
/-! ### is_instruction -/
/-- a valid instruction for this byte count -/
structure InsOk (cnt : Nat) (x : I4) : Prop where
  op : x.op < cnt
  nm : 1 ≤ x.nm.length ∧ x.nm.length ≤ 8 ∧ ∀ c ∈ x.nm, 97 ≤ c ∧ c ≤ 122
  ln : 1 ≤ x.ln ∧ x.ln ≤ 12
theorem TabOk.ins {cnt lg : Nat} {is : List I4} (h : TabOk cnt lg is) {x : I4} (hx : x ∈ is) : InsOk cnt x := ⟨h.ops x hx, h.nms x hx, (h.len x hx).1, Nat.le_trans (h.len x hx).2 h.lb⟩
def spInstr : Sp := fun vs H Q _ => ∃ (cnt : Nat) (r : Addr) (x : I4), vs = [.int (cnt : Int), .ref r] ∧ H r = some (.tup x.vs) ∧ InsOk cnt x ∧ ∀ H', Same H H' → Q (.bl true) H'
theorem scInstr : FnScope ["byte_count", "value", "opcode", "name", "length", "is_padding"] ["byte_count", "value"] (defScope sIsInstr) := ⟨rfl, rfl, rfl, by decide +kernel, rfl, by decide +kernel, by decide +kernel⟩
theorem ok_instr {f fB fN : Addr} {fd fdB fdN : FuncData} {k : Nat} (F : Fun K "is_instruction" "is_instruction" sIsInstr f fd) (T : Bi mg)
    (B : Def K mg "is_integer_between" sBetween fB fdB ["value", "least", "most"]) (GB : FnOk P w K mg base CX0 (k + 1) fB fdB ["value", "least", "most"] spBetween) (Nm : Def K mg "is_name" sIsName fN fdN ["value"]) (m8 : ∃ t, mg "MOST_LETTERS" = some (.int 8 t)) (m12 : ∃ t, mg "MOST_LENGTH" = some (.int 12 t)) :
    FnOk P w K mg base CX0 (k + 2) f fd ["byte_count", "value"] spInstr := by
  have GN : FnOk P w K mg base CX0 (k + 1) fN fdN ["value"] spName := ok_name Nm.fn T m8
  obtain ⟨t12, m12⟩ := m12
  refine F.ok scInstr (fun vs H Q E h => ?_) (fun cdv A outer s H vs Q E hr h => ?_)
  · obtain ⟨cnt, r, x, rfl, _⟩ := h
    rfl
  · obtain ⟨cnt, r, x, rfl, hx, ok, q⟩ := h
    refine ⟨_, pss_cons (ps_if (PW.pt (pw_or (pt_not (pt_val (pe_callB call_isi (by rfl) T.isi (by decide +kernel) (pa_cons (pv 1) (pa_cons (pe_bltn (v := .ty "tuple") (u := .type "tuple") (by rfl) T.tuple (by decide +kernel) rfl) pa_nil)))))
        (pw_or1 (pt_cmpR op_ne (pe_callB call_len_seq (by rfl) T.len PySem.boot_len (pa_cons (pv 1) pa_nil)) pe_int (nomark _))))) (pss_one (ps_ret pe_bl)) pss_nil)
      (pss_cons (ps_asg (pv 1) (pg_tup rfl (pgs_cons (pg_name (i := 2) scInstr.nd rfl (.inl rfl)) (pgs_cons (pg_name (i := 3) scInstr.nd rfl (.inl rfl)) (pgs_cons (pg_name (i := 4) scInstr.nd rfl (.inl rfl)) (pgs_cons (pg_name (i := 5) scInstr.nd rfl (.inl rfl)) pgs_nil))))))
      (pss_one (ps_ret (pe_and (pe_call GB hr (by rfl) B.gl B.fn.kp B.bi .nil pass0 (pa_cons (pv 2) (pa_cons pe_int (pa_cons (pe_op op_sub (pv 0) pe_int) pa_nil))))
        (pe_and (pe_call GN hr (by rfl) Nm.gl Nm.fn.kp Nm.bi .nil pass0 (pa_cons (pv 3) pa_nil))
        (pe_and (pe_call GB hr (by rfl) B.gl B.fn.kp B.bi .nil pass0 (pa_cons (pv 4) (pa_cons pe_int (pa_cons (pe_glob (v := .int 12) (by rfl) m12 ⟨_, rfl⟩) pa_nil))))
        (pe_one (pe_callB call_isi (by rfl) T.isi (by decide +kernel) (pa_cons (pv 5) (pa_cons (pe_bltn (v := .ty "bool") (u := .type "bool") (by rfl) T.bool (by decide +kernel) rfl) pa_nil)))))))))), ?_⟩
    refine ⟨_, rfl, _, _, _, _, _, rfl, .ty _, .base (.tup hx), kit_ty (by decide +kernel : kitB "tuple" "tuple" = some true), _, rfl, ?_⟩
    refine iteF ⟨_, rfl, r, _, rfl, .inr (SqT.of hx), rfl, _, rfl, ?_⟩
    refine iteNS rfl ?_
    refine ⟨_, rfl, r, _, rfl, SqT.of hx, rfl, _, _, rfl, _, _, rfl, _, _, rfl, _, _, rfl, rfl, ?_⟩
    have o1 := ok.op
    have o2 := ok.ln
    refine ⟨_, rfl, _, rfl, _, _, rfl, rfl, _, _, _, rfl, by omega, by omega, _, rfl, iteT ?_⟩
    refine ⟨_, rfl, x.nm, rfl, ok.nm.1, ok.nm.2.1, ok.nm.2.2, fun H1 s1 => ⟨_, rfl, iteT ?_⟩⟩
    refine ⟨_, rfl, _, _, _, rfl, by omega, by omega, _, rfl, iteT ?_⟩
    exact ⟨_, rfl, _, _, _, _, _, rfl, .ty _, .base (.bl _), kit_ty (by decide +kernel : kitB "bool" "bool" = some true), q H1 s1⟩
/-! ### are_instructions -/
def spAreI : Sp := fun vs H Q _ => ∃ (cnt lg : Nat) (it : Addr) (rs : List Addr) (is : List I4), vs = [.int (cnt : Int), .ref it] ∧ H it = some (.tup (rs.map V.ref)) ∧ Rows H rs is ∧ TabOk cnt lg is ∧ ∀ H', Same H H' → Q (.bl true) H'
theorem scAreI : FnScope ["byte_count", "value", "opcodes", "names", "item", "opcode", "name", "length", "is_padding"] ["byte_count", "value"] (defScope sAreInstr) := ⟨rfl, rfl, rfl, by decide +kernel, rfl, by decide +kernel, by decide +kernel⟩
theorem rows_at {H : Hp} {rs : List Addr} {is : List I4} (h : Rows H rs is) {i : Nat} {x : V} (hx : (rs.map V.ref)[i]? = some x) : ∃ (hi : i < is.length) (r : Addr), x = .ref r ∧ H r = some (.tup is[i].vs) ∧ rs[i]? = some r := by
  have hi : i < rs.length := by
    have := (List.getElem?_eq_some_iff.mp hx).1
    rwa [List.length_map] at this
  have hi2 : i < is.length := by rw [← h.1]; exact hi
  rw [List.getElem?_map, List.getElem?_eq_getElem hi] at hx
  exact ⟨hi2, rs[i], (Option.some.inj hx).symm, h.2 i _ _ (List.getElem?_eq_getElem hi) (List.getElem?_eq_getElem hi2), List.getElem?_eq_getElem hi⟩
theorem ok_areI {f fI fA : Addr} {fd fdI fdA : FuncData} {k : Nat} (F : Fun K "are_instructions" "are_instructions" sAreInstr f fd) (T : Bi mg)
    (Ii : Def K mg "is_instruction" sIsInstr fI fdI ["byte_count", "value"]) (GI : FnOk P w K mg base CX0 k fI fdI ["byte_count", "value"] spInstr) (A : Def K mg "is_ascending" sAscending fA fdA ["numbers"]) (GA : FnOk P w K mg base CX0 k fA fdA ["numbers"] (spAscL K)) :
    FnOk P w K mg base CX0 (k + 1) f fd ["byte_count", "value"] spAreI := by
  refine F.ok scAreI (fun vs H Q E h => ?_) (fun cdv A' outer s H vs Q E hr h => ?_)
  · obtain ⟨cnt, lg, it, rs, is, rfl, _⟩ := h
    rfl
  · obtain ⟨cnt, lg, it, rs, is, rfl, hit, R, ok, q⟩ := h
    refine ⟨_, pss_cons (ps_if (PW.pt (pw_or (pt_not (pt_val (pe_callB call_isi (by rfl) T.isi (by decide +kernel) (pa_cons (pv 1) (pa_cons (pe_bltn (v := .ty "tuple") (u := .type "tuple") (by rfl) T.tuple (by decide +kernel) rfl) pa_nil)))))
        (pw_or1 (pt_cmpR op_eq (pe_callB call_len_seq (by rfl) T.len PySem.boot_len (pa_cons (pv 1) pa_nil)) pe_int (nomark _))))) (pss_one (ps_ret pe_bl)) pss_nil)
      (pss_cons (ps_if (pt_not (pt_val (pe_callB (cr_all rfl) (by rfl) T.all (by decide +kernel) (pa_cons
        (pe_lc (own := [("item", 4)]) (g := gName 4) (tt := tYes) (by rfl) scAreI.nd (pi_tup (pv 1)) (blkOk_by (own := [("item", 4)]) (N := ["byte_count", "value", "opcodes", "names", "item", "opcode", "name", "length", "is_padding"]) (sc := defScope sAreInstr) (by decide +kernel))
          (fun _ _ _ _ _ => pg_name (i := 4) scAreI.nd rfl (Or.inl rfl)) (fun _ _ _ _ _ => pts_nil)
          (fun _ _ _ _ _ => pe_call GI hr (by rfl) Ii.gl Ii.fn.kp Ii.bi .nil pass0 (pa_cons (pv 0) (pa_cons (pv 4) pa_nil)))) pa_nil)))) (pss_one (ps_ret pe_bl)) pss_nil)
      (pss_cons (ps_setLc (i := 2) (own := [("opcode", 5), ("name", 6), ("length", 7), ("is_padding", 8)]) (g := gTup K 4 (gCons (gName 5) (gCons (gName 6) (gCons (gName 7) (gCons (gName 8) gNil))))) (tt := tYes) (by rfl) scAreI.nd rfl rfl (sw_true rfl rfl rfl (by decide +kernel)) (pi_tup (pv 1))
          (blkOk_by (own := [("opcode", 5), ("name", 6), ("length", 7), ("is_padding", 8)]) (N := ["byte_count", "value", "opcodes", "names", "item", "opcode", "name", "length", "is_padding"]) (sc := defScope sAreInstr) (by decide +kernel))
          (fun _ _ _ _ _ => pg_tup rfl (pgs_cons (pg_name (i := 5) scAreI.nd rfl (Or.inl rfl)) (pgs_cons (pg_name (i := 6) scAreI.nd rfl (Or.inl rfl)) (pgs_cons (pg_name (i := 7) scAreI.nd rfl (Or.inl rfl)) (pgs_cons (pg_name (i := 8) scAreI.nd rfl (Or.inl rfl)) pgs_nil)))))
          (fun _ _ _ _ _ => pts_nil) (fun _ _ _ _ _ => pv 5))
      (pss_cons (ps_setLc (i := 3) (own := [("opcode", 5), ("name", 6), ("length", 7), ("is_padding", 8)]) (g := gTup K 4 (gCons (gName 5) (gCons (gName 6) (gCons (gName 7) (gCons (gName 8) gNil))))) (tt := tYes) (by rfl) scAreI.nd rfl rfl (sw_true rfl rfl rfl (by decide +kernel)) (pi_tup (pv 1))
          (blkOk_by (own := [("opcode", 5), ("name", 6), ("length", 7), ("is_padding", 8)]) (N := ["byte_count", "value", "opcodes", "names", "item", "opcode", "name", "length", "is_padding"]) (sc := defScope sAreInstr) (by decide +kernel))
          (fun _ _ _ _ _ => pg_tup rfl (pgs_cons (pg_name (i := 5) scAreI.nd rfl (Or.inl rfl)) (pgs_cons (pg_name (i := 6) scAreI.nd rfl (Or.inl rfl)) (pgs_cons (pg_name (i := 7) scAreI.nd rfl (Or.inl rfl)) (pgs_cons (pg_name (i := 8) scAreI.nd rfl (Or.inl rfl)) pgs_nil)))))
          (fun _ _ _ _ _ => pts_nil) (fun _ _ _ _ _ => pv 6))
      (pss_one (ps_ret (pe_and (pe_call GA hr (by rfl) A.gl A.fn.kp A.bi .nil pass0 (pa_cons (pv 2) pa_nil))
        (pe_one (pe_cmpR op_eq (pe_lenSetT (by rfl) (by rfl) T.len (by rfl) T.set (pv 3)) (pe_callB call_len_seq (by rfl) T.len PySem.boot_len (pa_cons (pv 3) pa_nil)) (nomark _))))))))), ?_⟩
    have few := ok.few
    have rl := R.1
    refine ⟨_, rfl, _, _, _, _, _, rfl, .ty _, .base (.tup hit), kit_ty (by decide +kernel : kitB "tuple" "tuple" = some true), _, rfl, ?_⟩
    refine iteF ⟨_, rfl, it, _, rfl, .inr (SqT.of hit), rfl, _, rfl, ?_⟩
    rw [decide_eq_false (fun z => ok.ne (List.eq_nil_of_length_eq_zero (by have := V.int.inj z; rw [List.length_map] at this; omega)))]
    refine iteF ?_
    -- all are instructions
    refine ⟨_, rfl, it, rfl, ⟨_, SqT.of hit⟩, fun D nD => lc_tup (K := K) (a := it) (xs := rs.map V.ref) (fun i H2 => Mk H H2 D ((List.replicate i true).map V.bl)) (.start nD) (fun i H2 _ p => p.same.tup (SqT.of hit)) ?_ ?_⟩
    · intro i x H2 hx mk
      obtain ⟨hi, r, rfl, hr2, _⟩ := rows_at R hx
      refine ⟨rfl, _, rfl, _, rfl, cnt, r, is[i], rfl, mk.same _ _ hr2, ok.ins (List.getElem_mem hi), fun H3 s3 => ⟨_, s3 _ _ mk.at_, (by rw [List.length_map, List.length_replicate]; exact small1000 (by omega)), ?_⟩⟩
      rw [List.replicate_succ', List.map_append]
      exact mk.put s3
    intro H2 mk
    refine ⟨D, _, rfl, SqL.of mk.at_, _, rfl, ?_⟩
    rw [all_true]
    refine iteF ?_
    have s2 := mk.same
    have hit2 := s2 _ _ hit
    have R2 := R.same s2
    clear mk
    -- opcodes
    refine ⟨_, rfl, it, rfl, ⟨_, SqT.of hit2⟩, fun D3 nD3 => lc_tup (K := K) (a := it) (xs := rs.map V.ref) (fun i H3 => Mk H2 H3 D3 (((is.take i).map fun x => (x.op : Int)).map V.int)) (.start nD3) (fun i H3 _ p => p.same.tup (SqT.of hit2)) ?_ ?_⟩
    · intro i x H3 hx mk
      obtain ⟨hi, r, rfl, hr2, _⟩ := rows_at R2 hx
      refine ⟨r, _, rfl, SqT.of (mk.same _ _ hr2), rfl, _, _, rfl, _, _, rfl, _, _, rfl, _, _, rfl, rfl, rfl, _, rfl, _, mk.at_, (by rw [List.length_map, List.length_map, List.length_take]; exact small1000 (by omega)), ?_⟩
      rw [take_more (List.getElem?_eq_getElem hi), List.map_append, List.map_append]
      exact mk.put (Same.refl _)
    intro H3 m3
    rw [List.length_map, rl, List.take_length] at m3
    have s3 := s2.trans m3.same
    have hit3 := s3 _ _ hit
    have R3 := R.same s3
    -- names
    refine ⟨_, rfl, it, rfl, ⟨_, SqT.of hit3⟩, fun D4 nD4 => lc_tup (K := K) (a := it) (xs := rs.map V.ref) (fun i H4 => Mk H3 H4 D4 (((is.take i).map fun x => txt x.nm).map V.str)) (.start nD4) (fun i H4 _ p => p.same.tup (SqT.of hit3)) ?_ ?_⟩
    · intro i x H4 hx mk
      obtain ⟨hi, r, rfl, hr2, _⟩ := rows_at R3 hx
      refine ⟨r, _, rfl, SqT.of (mk.same _ _ hr2), rfl, _, _, rfl, _, _, rfl, _, _, rfl, _, _, rfl, rfl, rfl, _, rfl, _, mk.at_, (by rw [List.length_map, List.length_map, List.length_take]; exact small1000 (by omega)), ?_⟩
      rw [take_more (List.getElem?_eq_getElem hi), List.map_append, List.map_append]
      exact mk.put (Same.refl _)
    intro H4 m4
    rw [List.length_map, rl, List.take_length] at m4
    have h43 := m4.same _ _ m3.at_
    refine ⟨_, rfl, D3, is.map fun x => (x.op : Int), rfl, SqL.of h43, by rw [List.length_map]; omega, ?_, fun H5 s5 => ⟨_, rfl, iteT ?_⟩⟩
    · have := ok.asc
      rw [List.pairwise_map] at this ⊢
      exact this.imp fun z => by omega
    have h54 := s5 _ _ m4.at_
    refine ⟨_, rfl, D4, is.map fun x => txt x.nm, rfl, SqL.of h54, ?_, by rw [List.length_map]; omega, _, rfl, D4, _, rfl, .inl (SqL.of h54), rfl, ?_⟩
    · have := ok.nd
      rw [List.nodup_iff_pairwise_ne, List.pairwise_map] at this ⊢
      exact this.imp fun z y => z (txt_inj y)
    rw [decide_eq_true (by rw [List.length_map, List.length_map, List.length_map])]
    exact q H5 ((s3.trans m4.same).trans s5)
end
end Ov
namespace Ov
open PySem PySem.Spec PyProof.Rows L2
abbrev sInitI : Stmt := inClass cInstructionSet 0
/-! ### the attributes of an instruction set -/
def lenKV (is : List I4) : List (Key × V) := is.map fun x => ((Sum.inl (x.op : Int) : Key), V.int (x.ln : Int))
def nameKV (is : List I4) : List (Key × V) := is.map fun x => ((Sum.inr (txt x.nm) : Key), V.int (x.op : Int))
def flds (cnt : Nat) (it d1 d2 : Addr) : List (Str × V) := putF "opcode_of_name" (.ref d2) (putF "length_of_opcode" (.ref d1) (putF "instructions" (.ref it) (putF "byte_count" (.int (cnt : Int)) [])))
theorem n01 : ¬ (("byte_count" : Str) = "opcode_of_name") := by decide +kernel
theorem n02 : ¬ (("byte_count" : Str) = "length_of_opcode") := by decide +kernel
theorem n03 : ¬ (("byte_count" : Str) = "instructions") := by decide +kernel
theorem n11 : ¬ (("instructions" : Str) = "opcode_of_name") := by decide +kernel
theorem n12 : ¬ (("instructions" : Str) = "length_of_opcode") := by decide +kernel
theorem n21 : ¬ (("length_of_opcode" : Str) = "opcode_of_name") := by decide +kernel
theorem flds_cnt (cnt : Nat) (it d1 d2 : Addr) : (flds cnt it d1 d2).lookup ("byte_count" : Str) = some (.int (cnt : Int)) := by
  unfold flds
  rw [lookup_putF, if_neg n01, lookup_putF, if_neg n02, lookup_putF, if_neg n03, lookup_putF, if_pos rfl]
theorem flds_its (cnt : Nat) (it d1 d2 : Addr) : (flds cnt it d1 d2).lookup ("instructions" : Str) = some (.ref it) := by
  unfold flds
  rw [lookup_putF, if_neg n11, lookup_putF, if_neg n12, lookup_putF, if_pos rfl]
theorem flds_len (cnt : Nat) (it d1 d2 : Addr) : (flds cnt it d1 d2).lookup ("length_of_opcode" : Str) = some (.ref d1) := by
  unfold flds
  rw [lookup_putF, if_neg n21, lookup_putF, if_pos rfl]
theorem flds_nms (cnt : Nat) (it d1 d2 : Addr) : (flds cnt it d1 d2).lookup ("opcode_of_name" : Str) = some (.ref d2) := by
  unfold flds
  rw [lookup_putF, if_pos rfl]
theorem put_fresh {kvs : List (Key × V)} {k : Key} {v : V} (h : k ∉ kvs.map (·.1)) : putK kvs k v = kvs ++ [(k, v)] := by
  unfold putK
  refine if_neg fun z => h ?_
  obtain ⟨q, hq, e⟩ := List.any_eq_true.mp z
  exact List.mem_map.mpr ⟨q, hq, of_decide_eq_true e⟩
/-- an instruction set as it stands -/
structure SetAt (C : Addr) (H : Hp) (p : Addr) (cnt : Nat) (it : Addr) (is : List I4) : Prop where
  ob : ∃ dx d1 d2, H p = some (.ins C dx (flds cnt it d1 d2)) ∧ H d1 = some (.dK (lenKV is)) ∧ H d2 = some (.dK (nameKV is))
theorem SetAt.same {C : Addr} {H H' : Hp} {p : Addr} {cnt : Nat} {it : Addr} {is : List I4} (h : SetAt C H p cnt it is) (s : Same H H') : SetAt C H' p cnt it is := by
  obtain ⟨dx, d1, d2, h1, h2, h3⟩ := h.ob
  exact ⟨dx, d1, d2, s _ _ h1, s _ _ h2, s _ _ h3⟩
/-- what the top says of the class -/
structure SetTxt (K : PySem.W.Frag) (mg : Str → Option Value) (C : Addr) : Prop where
  cl : Cls K C
  nB : NoAttr K C "byte_count"
  nI : NoAttr K C "instructions"
  nL : NoAttr K C "length_of_opcode"
  nO : NoAttr K C "opcode_of_name"
  mgC : mg "InstructionSet" = some (.ref C)
section
variable {P : Program} {w : World} {K : PySem.W.Frag} {mg : Str → Option Value} {base : Heap}
def spInitI (C : Addr) : Sp := fun vs H Q _ => ∃ (p dx : Addr) (cnt lg : Nat) (it : Addr) (rs : List Addr) (is : List I4), vs = [.ref p, .int (cnt : Int), .ref it] ∧ H p = some (.ins C dx []) ∧ H it = some (.tup (rs.map V.ref)) ∧ Rows H rs is ∧ TabOk cnt lg is ∧
  ∀ H', SetAt C H' p cnt it is → (∀ b o, H b = some o → b ≠ p → H' b = some o) → Q .non H'
theorem scInitI : FnScope ["self", "byte_count", "instructions", "opcode", "name", "length", "is_padding"] ["self", "byte_count", "instructions"] (defScope sInitI) := ⟨rfl, rfl, rfl, by decide +kernel, rfl, by decide +kernel, by decide +kernel⟩
theorem ok_initI {f fB fA C : Addr} {fd fdB fdA : FuncData} {k : Nat} (F : Fun K "__init__" "InstructionSet.__init__" sInitI f fd) (T : Bi mg) (S : SetTxt K mg C)
    (B : Def K mg "is_integer_between" sBetween fB fdB ["value", "least", "most"]) (GB : FnOk P w K mg base CX0 k fB fdB ["value", "least", "most"] spBetween)
    (A : Def K mg "are_instructions" sAreInstr fA fdA ["byte_count", "value"]) (GA : FnOk P w K mg base CX0 k fA fdA ["byte_count", "value"] spAreI)
    (m2 : ∃ t, mg "LEAST_BYTE_COUNT" = some (.int 2 t)) (m256 : ∃ t, mg "MOST_BYTE_COUNT" = some (.int 256 t)) : FnOk P w K mg base CX0 (k + 1) f fd ["self", "byte_count", "instructions"] (spInitI C) := by
  obtain ⟨t2, m2⟩ := m2
  obtain ⟨t256, m256⟩ := m256
  refine F.ok scInitI (fun vs H Q E h => ?_) (fun cdv A' outer s H vs Q E hr h => ?_)
  · obtain ⟨p, dx, cnt, lg, it, rs, is, rfl, _⟩ := h
    rfl
  · obtain ⟨p, dx, cnt, lg, it, rs, is, rfl, hp, hit, R, ok, q⟩ := h
    refine ⟨_, pss_cons (ps_if (pt_not (pt_val (pe_call GB hr (by rfl) B.gl B.fn.kp B.bi .nil pass0 (pa_cons (pv 1) (pa_cons (pe_glob (v := .int 2) (by rfl) m2 ⟨_, rfl⟩) (pa_cons (pe_glob (v := .int 256) (by rfl) m256 ⟨_, rfl⟩) pa_nil)))))) (pss_one ps_never) pss_nil)
      (pss_cons (ps_if (pt_not (pt_val (pe_call GA hr (by rfl) A.gl A.fn.kp A.bi .nil pass0 (pa_cons (pv 1) (pa_cons (pv 2) pa_nil))))) (pss_one ps_never) pss_nil)
      (pss_cons (ps_fld (pv 0) (pv 1) rfl)
      (pss_cons (ps_fld (pv 0) (pv 2) rfl)
      (pss_cons (ps_fld (pv 0) (pe_dc (own := [("opcode", 3), ("name", 4), ("length", 5), ("is_padding", 6)]) (g := gTup K 4 (gCons (gName 3) (gCons (gName 4) (gCons (gName 5) (gCons (gName 6) gNil))))) (tt := tYes) (by rfl) scInitI.nd (pi_tup (pv 2))
          (blkOk_by (own := [("opcode", 3), ("name", 4), ("length", 5), ("is_padding", 6)]) (N := ["self", "byte_count", "instructions", "opcode", "name", "length", "is_padding"]) (sc := defScope sInitI) (by decide +kernel))
          (fun _ _ _ _ _ => pg_tup rfl (pgs_cons (pg_name (i := 3) scInitI.nd rfl (Or.inl rfl)) (pgs_cons (pg_name (i := 4) scInitI.nd rfl (Or.inl rfl)) (pgs_cons (pg_name (i := 5) scInitI.nd rfl (Or.inl rfl)) (pgs_cons (pg_name (i := 6) scInitI.nd rfl (Or.inl rfl)) pgs_nil)))))
          (fun _ _ _ _ _ => pts_nil) (fun _ _ _ _ _ => pv 3) (fun _ _ _ _ _ => pv 5)) rfl)
      (pss_one (ps_fld (pv 0) (pe_dc (own := [("opcode", 3), ("name", 4), ("length", 5), ("is_padding", 6)]) (g := gTup K 4 (gCons (gName 3) (gCons (gName 4) (gCons (gName 5) (gCons (gName 6) gNil))))) (tt := tYes) (by rfl) scInitI.nd (pi_tup (pv 2))
          (blkOk_by (own := [("opcode", 3), ("name", 4), ("length", 5), ("is_padding", 6)]) (N := ["self", "byte_count", "instructions", "opcode", "name", "length", "is_padding"]) (sc := defScope sInitI) (by decide +kernel))
          (fun _ _ _ _ _ => pg_tup rfl (pgs_cons (pg_name (i := 3) scInitI.nd rfl (Or.inl rfl)) (pgs_cons (pg_name (i := 4) scInitI.nd rfl (Or.inl rfl)) (pgs_cons (pg_name (i := 5) scInitI.nd rfl (Or.inl rfl)) (pgs_cons (pg_name (i := 6) scInitI.nd rfl (Or.inl rfl)) pgs_nil)))))
          (fun _ _ _ _ _ => pts_nil) (fun _ _ _ _ _ => pv 4) (fun _ _ _ _ _ => pv 3)) rfl)))))), ?_⟩
    have cb := ok.cb
    have few := ok.few
    have rl := R.1
    refine ⟨_, rfl, _, _, _, rfl, by omega, by omega, _, rfl, iteF ?_⟩
    refine ⟨_, rfl, _, rfl, cnt, lg, it, rs, is, rfl, hit, R, ok, fun H1 s1 => ⟨_, rfl, iteF ?_⟩⟩
    have hp1 := s1 _ _ hp
    -- byte_count, instructions
    refine ⟨_, rfl, _, rfl, p, C, dx, [], rfl, hp1, S.cl, S.nB, (by show 0 < 1000; decide), ?_⟩
    refine ⟨_, rfl, _, rfl, p, C, dx, _, rfl, upd_same, S.cl, S.nI, (by show 1 < 1000; decide), ?_⟩
    generalize hH3 : upd (upd H1 p (HO.ins C dx (putF "byte_count" (V.int (cnt : Int)) []))) p (HO.ins C dx (putF "instructions" (V.ref it) (putF "byte_count" (V.int (cnt : Int)) []))) = H3
    have hp3 : H3 p = some (.ins C dx (putF "instructions" (V.ref it) (putF "byte_count" (V.int (cnt : Int)) []))) := by rw [← hH3]; exact upd_same
    have s3 : ∀ b o, H1 b = some o → b ≠ p → H3 b = some o := fun b o e n => by rw [← hH3, upd_ne n, upd_ne n]; exact e
    have itp : it ≠ p := fun z => by rw [z, hp] at hit; cases hit
    have hit3 := s3 _ _ (s1 _ _ hit) itp
    have R3 : Rows H3 rs is := ⟨R.1, fun i r x h1 h2 => s3 _ _ (s1 _ _ (R.2 i r x h1 h2)) fun z => by have := R.2 i r x h1 h2; rw [z, hp] at this; cases this⟩
    clear hH3
    -- lengths by opcodes
    have fresh1 : ∀ (i : Nat) (hi : i < is.length), (Sum.inl ((is[i]).op : Int) : Key) ∉ (lenKV (is.take i)).map (·.1) := fun i hi z => by
      unfold lenKV at z
      rw [List.map_map] at z
      obtain ⟨y, hy, e⟩ := List.mem_map.mp z
      obtain ⟨j, hj, ej⟩ := List.mem_take_iff_getElem.mp hy
      have e' : (y.op : Int) = ((is[i]).op : Int) := Sum.inl.inj e
      have h1 := List.pairwise_iff_getElem.mp ok.asc j i (by rw [List.length_map]; omega) (by rw [List.length_map]; exact hi) (by omega)
      rw [List.getElem_map, List.getElem_map, ej] at h1
      omega
    have fresh2 : ∀ (i : Nat) (hi : i < is.length), (Sum.inr (txt (is[i]).nm) : Key) ∉ (nameKV (is.take i)).map (·.1) := fun i hi z => by
      unfold nameKV at z
      rw [List.map_map] at z
      obtain ⟨y, hy, e⟩ := List.mem_map.mp z
      obtain ⟨j, hj, ej⟩ := List.mem_take_iff_getElem.mp hy
      have e' : txt y.nm = txt (is[i]).nm := Sum.inr.inj e
      have h1 := List.pairwise_iff_getElem.mp (List.nodup_iff_pairwise_ne.mp ok.nd) j i (by rw [List.length_map]; omega) (by rw [List.length_map]; exact hi) (by omega)
      rw [List.getElem_map, List.getElem_map, ej] at h1
      exact h1 (txt_inj e')
    refine ⟨_, rfl, it, rfl, ⟨_, SqT.of hit3⟩, fun D nD => dc_tup (K := K) (a := it) (xs := rs.map V.ref) (fun i H4 => Same H3 H4 ∧ H4 D = some (.dK (lenKV (is.take i)))) ⟨same_upd nD, upd_same⟩ (fun i H4 _ p => p.1.tup (SqT.of hit3)) ?_ ?_⟩
    · rintro i x H4 hx ⟨s4, hD⟩
      obtain ⟨hi, r, rfl, hr2, _⟩ := rows_at R3 hx
      refine ⟨r, _, rfl, SqT.of (s4 _ _ hr2), rfl, _, _, rfl, _, _, rfl, _, _, rfl, _, _, rfl, rfl, rfl, _, rfl, _, rfl, _, Sum.inl ((is[i]).op : Int), rfl, hD, ?_, fun b o e => ?_, ?_⟩
      · unfold lenKV
        rw [List.length_map, List.length_take]
        exact small1000 (by omega)
      · rw [upd_ne (ne_of_none e nD)]
        exact s4 b o e
      · rw [upd_same, put_fresh (fresh1 i hi), take_more (List.getElem?_eq_getElem hi)]
        unfold lenKV
        rw [List.map_append]
        rfl
    rintro H4 ⟨s4, hD⟩
    rw [List.length_map, rl, List.take_length] at hD
    have hDp : D ≠ p := (ne_of_none hp3 nD).symm
    refine ⟨_, rfl, p, C, dx, _, rfl, s4 _ _ hp3, S.cl, S.nL, (by show 2 < 1000; decide), ?_⟩
    generalize hH5 : upd H4 p (HO.ins C dx (putF "length_of_opcode" (V.ref D) (putF "instructions" (V.ref it) (putF "byte_count" (V.int (cnt : Int)) [])))) = H5
    have hp5 : H5 p = some (.ins C dx (putF "length_of_opcode" (V.ref D) (putF "instructions" (V.ref it) (putF "byte_count" (V.int (cnt : Int)) [])))) := by rw [← hH5]; exact upd_same
    have s5 : ∀ b o, H4 b = some o → b ≠ p → H5 b = some o := fun b o e n => by rw [← hH5, upd_ne n]; exact e
    have hD5 := s5 _ _ hD hDp
    have hit5 := s5 _ _ (s4 _ _ hit3) itp
    have R5 : Rows H5 rs is := ⟨R.1, fun i r x h1 h2 => s5 _ _ (s4 _ _ (R3.2 i r x h1 h2)) fun z => by have := R3.2 i r x h1 h2; rw [z, hp3] at this; cases this⟩
    clear hH5
    -- opcodes by names
    refine ⟨_, rfl, it, rfl, ⟨_, SqT.of hit5⟩, fun E2 nE => dc_tup (K := K) (a := it) (xs := rs.map V.ref) (fun i H6 => Same H5 H6 ∧ H6 E2 = some (.dK (nameKV (is.take i)))) ⟨same_upd nE, upd_same⟩ (fun i H6 _ p => p.1.tup (SqT.of hit5)) ?_ ?_⟩
    · rintro i x H6 hx ⟨s6, hE⟩
      obtain ⟨hi, r, rfl, hr2, _⟩ := rows_at R5 hx
      refine ⟨r, _, rfl, SqT.of (s6 _ _ hr2), rfl, _, _, rfl, _, _, rfl, _, _, rfl, _, _, rfl, rfl, rfl, _, rfl, _, rfl, _, Sum.inr (txt (is[i]).nm), rfl, hE, ?_, fun b o e => ?_, ?_⟩
      · unfold nameKV
        rw [List.length_map, List.length_take]
        exact small1000 (by omega)
      · rw [upd_ne (ne_of_none e nE)]
        exact s6 b o e
      · rw [upd_same, put_fresh (fresh2 i hi), take_more (List.getElem?_eq_getElem hi)]
        unfold nameKV
        rw [List.map_append]
        rfl
    rintro H6 ⟨s6, hE⟩
    rw [List.length_map, rl, List.take_length] at hE
    have hEp : E2 ≠ p := (ne_of_none hp5 nE).symm
    refine ⟨_, rfl, p, C, dx, _, rfl, s6 _ _ hp5, S.cl, S.nO, (by show 3 < 1000; decide), ?_⟩
    refine q _ ⟨dx, D, E2, upd_same, ?_, ?_⟩ fun b o e n => ?_
    · rw [upd_ne hDp]; exact s6 _ _ hD5
    · rw [upd_ne hEp]; exact hE
    · rw [upd_ne n]
      exact s6 _ _ (s5 _ _ (s4 _ _ (s3 _ _ (s1 _ _ e) n)) n)
end
end Ov
namespace Ov
open PySem PySem.Spec PyProof.Rows L2
/-- a part of the heap, and what was laid beside it -/
structure Grow (T H T' H' : Hp) : Prop where
  hh : Same H H'
  tt : Same T T'
  th : Same T' H'
  new : ∀ b, T b = none → H b ≠ none → T' b = none
theorem Grow.refl {T H : Hp} (h : Same T H) : Grow T H T H := ⟨Same.refl _, Same.refl _, h, fun _ e _ => e⟩
theorem Grow.put {T H T' H' : Hp} (g : Grow T H T' H') {p : Addr} (o : HO) (n : H' p = none) : Grow T H (upd T' p o) (upd H' p o) := by
  refine ⟨g.hh.trans (same_upd n), g.tt.trans (same_upd ?_), fun b x e => ?_, fun b e h => ?_⟩
  · cases q : T' p with
    | none => rfl
    | some x => rw [g.th _ _ q] at n; cases n
  · by_cases hb : b = p
    · subst hb
      rw [upd_same] at e ⊢
      exact e
    · rw [upd_ne hb] at e ⊢
      exact g.th _ _ e
  · by_cases hb : b = p
    · subst hb
      cases q : H b with
      | none => exact absurd q h
      | some x => rw [g.hh _ _ q] at n; cases n
    · rw [upd_ne hb]
      exact g.new b e h
theorem Grow.trans {T H T1 H1 T2 H2 : Hp} (a : Grow T H T1 H1) (b : Grow T1 H1 T2 H2) : Grow T H T2 H2 :=
  ⟨a.hh.trans b.hh, a.tt.trans b.tt, b.th, fun c e h => b.new c (a.new c e h) fun z => by
    cases q : H c with
    | none => exact h q
    | some x => rw [a.hh _ _ q] at z; cases z⟩
theorem none_of {T H : Hp} {l : Addr} (s : Same T H) (n : H l = none) : T l = none := by
  cases z : T l with
  | none => rfl
  | some x => rw [s _ _ z] at n; cases n
end Ov
namespace Ov
open PySem PySem.Spec PyProof.Rows L2
/-! ### lists of data put together -/
theorem showableAll_app : ∀ a b : List PyData, PyData.showableAll (a ++ b) = (PyData.showableAll a && PyData.showableAll b)
  | [], b => by simp [PyData.showableAll]
  | x :: a, b => by simp [PyData.showableAll, showableAll_app a b, Bool.and_assoc]
theorem hasDictAll_app : ∀ a b : List PyData, PyData.hasDictAll (a ++ b) = (PyData.hasDictAll a || PyData.hasDictAll b)
  | [], b => by simp [PyData.hasDictAll]
  | x :: a, b => by simp [PyData.hasDictAll, hasDictAll_app a b, Bool.or_assoc]
theorem noListAll_app : ∀ a b : List PyData, noListAll (a ++ b) = (noListAll a && noListAll b)
  | [], b => by simp [noListAll]
  | x :: a, b => by simp [noListAll, noListAll_app a b, Bool.and_assoc]
theorem depthAll_app : ∀ a b : List PyData, PyData.depthAll (a ++ b) = max (PyData.depthAll a) (PyData.depthAll b)
  | [], b => by simp [PyData.depthAll]
  | x :: a, b => by simp [PyData.depthAll, depthAll_app a b] <;> omega
theorem nodesAll_app : ∀ a b : List PyData, nodesAll (a ++ b) = nodesAll a + nodesAll b
  | [], b => by simp [nodesAll]
  | x :: a, b => by simp [nodesAll, nodesAll_app a b] <;> omega
theorem noListAll_ints : ∀ ns : List Int, noListAll (ns.map PyData.int) = true
  | [] => by simp [noListAll]
  | n :: ns => by simp [noListAll, noList, noListAll_ints ns]
/-- what can be shown as a part -/
structure ShowsAll (ds : List PyData) (n : Nat) : Prop where
  sh : PyData.showableAll ds = true
  nl : PyData.hasDictAll ds = true → noListAll ds = true
  dep : PyData.depthAll ds ≤ 50
  nd : nodesAll ds ≤ n
theorem ShowsAll.tup {ds : List PyData} {n : Nat} (h : ShowsAll ds n) (hn : n ≤ 7999) : Shows (.tuple ds) :=
  ⟨by simp only [PyData.showable]; exact h.sh, fun z => by simp only [noList]; exact h.nl (by simpa only [PyData.hasDict] using z), by simp only [PyData.depth]; have := h.dep; omega, by simp only [nodes]; have := h.nd; omega⟩
theorem ints_show {ns : List Int} (h : ∀ n ∈ ns, n.natAbs < 2 ^ 1000) : ShowsAll (ns.map PyData.int) ns.length := by
  have f := flat_ints h
  exact ⟨f.sh, fun _ => noListAll_ints _, by rw [f.dep]; decide, by rw [f.nds, List.length_map]; exact Nat.le_refl _⟩
/-- ints, a thing, ints -/
theorem odd_show {a b : List Int} {d : PyData} (ha : ∀ n ∈ a, n.natAbs < 2 ^ 1000) (hb : ∀ n ∈ b, n.natAbs < 2 ^ 1000) (S : Shows d) (dep : d.depth ≤ 50) : ShowsAll (a.map PyData.int ++ [d] ++ b.map PyData.int) (a.length + nodes d + b.length) := by
  have fa := flat_ints ha
  have fb := flat_ints hb
  refine ⟨?_, fun z => ?_, ?_, ?_⟩
  · rw [showableAll_app, showableAll_app, fa.sh, fb.sh]
    simp [PyData.showableAll, S.sh]
  · rw [hasDictAll_app, hasDictAll_app, fa.nod, fb.nod] at z
    have z' : d.hasDict = true := by simpa [PyData.hasDictAll] using z
    rw [noListAll_app, noListAll_app, noListAll_ints, noListAll_ints]
    simp [noListAll, S.nl z']
  · rw [depthAll_app, depthAll_app, fa.dep, fb.dep]
    simp [PyData.depthAll]
    omega
  · rw [nodesAll_app, nodesAll_app, fa.nds, fb.nds]
    simp [nodesAll]
theorem shows_int {i : Int} (h : i.natAbs < 2 ^ 1000) : Shows (.int i) := by
  have f := flat_ints (ns := [i]) (fun n hn => by rw [List.mem_singleton.mp hn]; exact h)
  refine ⟨by have := f.sh; simpa [PyData.showableAll] using this, fun z => by simp [PyData.hasDict] at z, by simp [PyData.depth], by simp [nodes]⟩
theorem shows_bool (b : Bool) : Shows (.bool b) := ⟨by simp [PyData.showable], fun z => by simp [PyData.hasDict] at z, by simp [PyData.depth], by simp [nodes]⟩
theorem shows_none : Shows .none := ⟨by simp [PyData.showable], fun z => by simp [PyData.hasDict] at z, by simp [PyData.depth], by simp [nodes]⟩
theorem shows_str {x : Str} (h : (reprText x).length ≤ 100) : Shows (.str x) := ⟨by simp [PyData.showable], fun z => by simp [PyData.hasDict] at z, by simp [PyData.depth], by simp [nodes]; omega⟩
theorem dict0_nodes : nodes (.dict []) ≤ 100 := by
  simp only [nodes, PyData.shownKv]
  decide +kernel
theorem shows_dict : Shows (.dict []) := ⟨by simp [PyData.showable, PyData.showableKv], fun _ => by simp [noList], by simp [PyData.depth, PyData.depthKv], Nat.le_trans dict0_nodes (by decide)⟩
theorem shows_nil : Shows (.list []) := ⟨by simp [PyData.showable, PyData.showableAll], fun z => by simp [PyData.hasDict, PyData.hasDictAll] at z, by simp [PyData.depth, PyData.depthAll], by simp [nodes, nodesAll]⟩
/-- parts of tuples -/
theorem cut_from (k : Nat) (xs : List V) : cutV xs (some (k : Int)) none = xs.drop k := by
  unfold cutV
  rw [show HT.sIx xs.length 0 (some (k : Int)) = min k xs.length from HT.sIx_nat xs.length 0 k, HT.sIx_none]
  rcases Nat.le_total k xs.length with c | c
  · rw [Nat.min_eq_left c]
    exact List.take_of_length_le (by rw [List.length_drop]; exact Nat.le_refl _)
  · rw [Nat.min_eq_right c, List.drop_of_length_le c, List.drop_of_length_le (Nat.le_refl _), List.take_nil]
theorem cut_to (k : Nat) (xs : List V) : cutV xs none (some (k : Int)) = xs.take k := by
  unfold cutV
  rw [show HT.sIx xs.length xs.length (some (k : Int)) = min k xs.length from HT.sIx_nat xs.length xs.length k, HT.sIx_none, List.drop_zero, Nat.sub_zero]
  rcases Nat.le_total k xs.length with c | c
  · rw [Nat.min_eq_left c]
  · rw [Nat.min_eq_right c, List.take_length, List.take_of_length_le c]
theorem cut_all {xs : List V} {lo hi : Option Int} (h : HT.sIx xs.length 0 lo = 0 ∧ HT.sIx xs.length xs.length hi = xs.length) : cutV xs lo hi = xs := by
  unfold cutV
  rw [h.1, h.2, List.drop_zero, Nat.sub_zero, List.take_length]
section
variable {K : PySem.W.Frag} {T H : Hp} {Q : VK}
theorem cat_x {a b : Addr} {xs ys : List V} (st : Same T H) (ha : SqT K T a xs) (hb : SqT K T b ys) (hl : xs.length + ys.length ≤ sizeLine) (q : ∀ l H' T', Grow T H T' H' → SqT K T' l (xs ++ ys) → Q (.ref l) H') : rCatA K (.ref a) (.ref b) H Q := by
  refine ⟨a, b, xs, ys, rfl, rfl, st.tup ha, st.tup hb, hl, fun e => ?_, fun _ e => ?_, fun _ _ p np => ?_⟩
  · subst e
    exact q b H T (.refl st) hb
  · subst e
    exact q a H T (.refl st) (by rw [List.append_nil]; exact ha)
  · exact q p _ _ ((Grow.refl st).put _ np) (SqT.of upd_same)
theorem cut_x {a : Addr} {xs : List V} {lo hi : Option Int} (st : Same T H) (ha : SqT K T a xs) (q : ∀ l H' T', Grow T H T' H' → SqT K T' l (cutV xs lo hi) → Q (.ref l) H') : rSlA K (.ref a) lo hi H Q := by
  refine ⟨a, xs, rfl, st.tup ha, fun e => ?_, fun _ p np => ?_⟩
  · exact q a H T (.refl st) (by rw [cut_all e]; exact ha)
  · exact q p _ _ ((Grow.refl st).put _ np) (SqT.of upd_same)
end
end Ov
namespace Ov
open PySem PySem.Spec PyProof.Rows L2
/-! ### integers and codes among things of any kind -/
def btw (lo hi : Int) : PyData → Bool
  | .int i => decide (lo ≤ i) && decide (i ≤ hi)
  | _ => false
section
variable {P : Program} {w : World} {K : PySem.W.Frag} {mg : Str → Option Value} {base : Heap}
def isInt : PyData → Bool
  | .int _ => true
  | _ => false
def spIsIntX (K : PySem.W.Frag) : Sp := fun vs H Q _ => ∃ (v : V) (d : PyData), vs = [v] ∧ Dx K H v d ∧ Q (.bl (isInt d)) H
theorem ok_isIntX {f : Addr} {fd : FuncData} {k : Nat} (F : Fun K "is_integer" "is_integer" sIsInt f fd) (T : Bi mg) : FnOk P w K mg base CX0 (k + 1) f fd ["value"] (spIsIntX K) := by
  refine F.ok scIsInt (fun vs H Q E h => ?_) (fun cdv A outer s H vs Q E hr h => ?_)
  · obtain ⟨v, d, rfl, _⟩ := h
    rfl
  · obtain ⟨v, d, rfl, D, q⟩ := h
    refine ⟨_, pss_one (ps_ret (pe_and (pe_callB call_isi (by rfl) T.isi (by decide +kernel) (pa_cons (pv 0) (pa_cons (pe_bltn (v := .ty "int") (u := .type "int") (by rfl) T.int (by decide +kernel) rfl) pa_nil)))
      (pe_one (pe_not (pe_callB call_isi (by rfl) T.isi (by decide +kernel) (pa_cons (pv 0) (pa_cons (pe_bltn (v := .ty "bool") (u := .type "bool") (by rfl) T.bool (by decide +kernel) rfl) pa_nil))))))), ?_⟩
    refine ⟨_, rfl, _, _, _, _, _, rfl, .ty _, D.ty, kit_ty (kit_i d), _, rfl, ?_⟩
    have D0 := D
    cases D with
    | non => exact iteF q
    | str x => exact iteF q
    | dct h => exact iteF q
    | lst h a => exact iteF q
    | tup h a => exact iteF q
    | bl b => exact iteT ⟨_, rfl, _, _, _, _, _, rfl, .ty _, D0.ty, kit_ty (kit_b _), _, rfl, q⟩
    | int i => exact iteT ⟨_, rfl, _, _, _, _, _, rfl, .ty _, D0.ty, kit_ty (kit_b _), _, rfl, q⟩
def spBetweenX (K : PySem.W.Frag) : Sp := fun vs H Q _ => ∃ (v : V) (d : PyData) (lo hi : Int), vs = [v, .int lo, .int hi] ∧ Dx K H v d ∧ Q (.bl (btw lo hi d)) H
theorem ok_betweenX {f fI : Addr} {fd fdI : FuncData} {k : Nat} (F : Fun K "is_integer_between" "is_integer_between" sBetween f fd) (T : Bi mg) (I : Def K mg "is_integer" sIsInt fI fdI ["value"]) : FnOk P w K mg base CX0 (k + 2) f fd ["value", "least", "most"] (spBetweenX K) := by
  have GI : FnOk P w K mg base CX0 (k + 1) fI fdI ["value"] (spIsIntX K) := ok_isIntX I.fn T
  refine F.ok scBetween (fun vs H Q E h => ?_) (fun cdv A outer s H vs Q E hr h => ?_)
  · obtain ⟨v, d, lo, hi, rfl, _⟩ := h
    rfl
  · obtain ⟨v, d, lo, hi, rfl, D, q⟩ := h
    refine ⟨_, pss_one (ps_ret (pe_and (pe_call GI hr (by rfl) I.gl I.fn.kp I.bi .nil pass0 (pa_cons (pv 0) pa_nil))
        (pe_one (pe_chain op_le op_le (pv 1) (pv 0) (pv 2))))), ?_⟩
    refine ⟨_, rfl, v, d, rfl, D, _, rfl, ?_⟩
    cases D with
    | non => exact iteF q
    | str x => exact iteF q
    | dct h => exact iteF q
    | lst h a => exact iteF q
    | tup h a => exact iteF q
    | bl b => exact iteF q
    | int i =>
      refine iteT ?_
      refine ⟨_, rfl, _, rfl, _, _, rfl, rfl, _, rfl, ?_⟩
      have q' : Q (.bl (decide (lo ≤ i) && decide (i ≤ hi))) H := q
      by_cases h1 : lo ≤ i
      · rw [decide_eq_true h1] at q' ⊢
        refine iteT ⟨_, rfl, _, _, rfl, rfl, ?_⟩
        rw [Bool.true_and] at q'
        exact q'
      · rw [decide_eq_false h1] at q' ⊢
        rw [Bool.false_and] at q'
        exact iteF q'
end
end Ov
namespace Ov
open PySem PySem.Spec PyProof.Rows L2
section
variable {P : Program} {w : World} {K : PySem.W.Frag} {mg : Str → Option Value} {base : Heap}
/-! ### _law_bytes -/
def spBytes : Sp := fun vs H Q _ => ∃ (p t : Addr) (n cnt lg : Nat) (is : List I4) (it : Addr) (rs : List Addr) (many : Nat), vs = [.ref p, .ref t, .int (many : Int)] ∧ BoxAt H p n ∧ n ≤ 2 ^ 39 ∧ Tab H t cnt lg is it rs ∧ many ≤ 900 ∧
  ∀ H' c (bs : List Int), But p H H' → BoxAt H' p (n + 2 * many) → H c = none → H' c = some (.tup (bs.map V.int)) → (∀ b ∈ bs, 0 ≤ b ∧ b < (cnt : Int)) → bs.length = many → Q (.ref c) H'
theorem scBytes : FnScope ["_law_box_here", "_law_table_here", "_law_many", "_law_some", "_law_instruction", "_law_at"] ["_law_box_here", "_law_table_here", "_law_many"] (defScope sBytes) := ⟨rfl, rfl, rfl, by decide +kernel, rfl, by decide +kernel, by decide +kernel⟩
theorem ok_bytes {f fO fT : Addr} {fd fdO fdT : FuncData} {k : Nat} (F : Fun K "_law_bytes" "_law_bytes" sBytes f fd) (T : Bi mg)
    (O : Def K mg "_law_of" sOf fO fdO ["_law_box_here", "_law_some"]) (GO : FnOk P w K mg base CX0 k fO fdO ["_law_box_here", "_law_some"] spOf)
    (Tk : Def K mg "_law_take" sTake fT fdT ["_law_box_here", "_law_many"]) (GT : FnOk P w K mg base CX0 k fT fdT ["_law_box_here", "_law_many"] spTake) :
    FnOk P w K mg base CX0 (k + 1) f fd ["_law_box_here", "_law_table_here", "_law_many"] spBytes := by
  refine F.ok scBytes (fun vs H Q E h => ?_) (fun cdv A' outer s H vs Q E hr h => ?_)
  · obtain ⟨p, t, n, cnt, lg, is, it, rs, many, rfl, _⟩ := h
    rfl
  · obtain ⟨p, t, n, cnt, lg, is, it, rs, many, rfl, B, hn, Tb, hm, q⟩ := h
    refine ⟨_, pss_cons (ps_set (i := 3) scBytes.nd rfl (.inr rfl) (pe_lc (own := [("_law_instruction", 4)]) (g := gName 4) (tt := tYes) (by rfl) scBytes.nd (pi_tup (pe_ix ix_tup (pv 1) pe_int (fun _ _ => rfl)))
          (blkOk_by (own := [("_law_instruction", 4)]) (N := ["_law_box_here", "_law_table_here", "_law_many", "_law_some", "_law_instruction", "_law_at"]) (sc := defScope sBytes) (by decide +kernel))
          (fun _ _ _ _ _ => pg_name (i := 4) scBytes.nd rfl (Or.inl rfl)) (fun _ _ _ _ _ => pts_nil)
          (fun _ _ _ _ _ => pe_ix (r := rIxT K) ix_tup (pv 4) pe_int (fun _ _ => rfl))))
      (pss_one (ps_ret (pe_callTy call_tuple_of (by rfl) T.tuple (by decide +kernel) (pa_cons
        (pe_lc (own := [("_law_at", 5)]) (g := gName 5) (tt := tYes) (by rfl) scBytes.nd (pi_range1 (by rfl) T.range (pa_cons (pv 2) pa_nil))
          (blkOk_by (own := [("_law_at", 5)]) (N := ["_law_box_here", "_law_table_here", "_law_many", "_law_some", "_law_instruction", "_law_at"]) (sc := defScope sBytes) (by decide +kernel))
          (fun _ _ _ _ _ => pg_name (i := 5) scBytes.nd rfl (Or.inl rfl)) (fun _ _ _ _ _ => pts_nil)
          (fun _ _ _ _ _ => pe_ifExp (pt_cmpR op_gt (pe_call GT hr (by rfl) Tk.gl Tk.fn.kp Tk.bi .nil pass0 (pa_cons (pv 0) (pa_cons pe_int pa_nil))) pe_int (nomark _))
            (pe_call GO hr (by rfl) O.gl O.fn.kp O.bi .nil pass0 (pa_cons (pv 0) (pa_cons (pv 3) pa_nil)))
            (pe_call GT hr (by rfl) Tk.gl Tk.fn.kp Tk.bi .nil pass0 (pa_cons (pv 0) (pa_cons (pe_ix (r := rIxT K) ix_tup (pv 1) pe_int (fun _ _ => rfl)) pa_nil))))) pa_nil)))), ?_⟩
    have ok := Tb.ok
    have cb := ok.cb
    have few := ok.few
    have rl := Tb.rows.1
    have hit := Tb.its
    have i0 : ∀ x y : V, atI [x, y] 0 = some x := fun x y => atI_nat (j := 0) rfl
    have i1 : ∀ x y : V, atI [x, y] 1 = some y := fun x y => atI_nat (j := 1) rfl
    refine ⟨_, rfl, t, _, _, _, rfl, rfl, SqT.of Tb.at_, i1 _ _, it, rfl, ⟨_, SqT.of hit⟩, fun D nD => lc_tup (K := K) (a := it) (xs := rs.map V.ref) (fun i H2 => Mk H H2 D (((is.take i).map fun x => (x.op : Int)).map V.int)) (.start nD) (fun i H2 _ p => p.same.tup (SqT.of hit)) ?_ ?_⟩
    · intro i x H2 hx mk
      obtain ⟨hi, r, rfl, hr2, _⟩ := rows_at Tb.rows hx
      refine ⟨rfl, _, rfl, r, _, _, _, rfl, rfl, SqT.of (mk.same _ _ hr2), atI_nat (j := 0) rfl, _, mk.at_, (by rw [List.length_map, List.length_map, List.length_take]; exact small1000 (by omega)), ?_⟩
      rw [take_more (List.getElem?_eq_getElem hi), List.map_append, List.map_append]
      exact mk.put (Same.refl _)
    intro H2 m2
    rw [List.length_map, rl, List.take_length] at m2
    have s2 := m2.same
    have B2 := B.same s2
    have T2 := Tb.same s2
    have hD2 := m2.at_
    have hDp : D ≠ p := fun z => B.ne (z ▸ nD)
    generalize hops : (is.map fun x => (x.op : Int)) = ops at hD2
    have ol : ops.length = is.length := by rw [← hops, List.length_map]
    have ob : ∀ b ∈ ops, 0 ≤ b ∧ b < (cnt : Int) := fun b hb => by
      rw [← hops] at hb
      obtain ⟨x, hx, rfl⟩ := List.mem_map.mp hb
      have := ok.ops x hx
      omega
    have ne : 0 < is.length := List.length_pos_iff.mpr ok.ne
    clear m2
    refine ⟨_, rfl, _, rfl, by omega, by omega, fun L nL => lc_range (lo := 0) (n := many) (fun i H3 => ∃ bs : List Int, bs.length = i ∧ (∀ b ∈ bs, 0 ≤ b ∧ b < (cnt : Int)) ∧ But p H2 H3 ∧ BoxAt H3 p (n + 2 * i) ∧ H3 L = some (.lst (bs.map V.int)))
      ⟨[], rfl, (fun _ h => nomatch h), But.of (same_upd nL), B2.same (same_upd nL), upd_same⟩ ?_ ?_⟩
    · rintro i H3 hi ⟨bs, bl, bb, b3, B3, hL⟩
      have hLp : L ≠ p := fun z => B2.ne (z ▸ nL)
      have hLD : L ≠ D := fun z => by rw [z, hD2] at nL; cases nL
      refine ⟨rfl, _, rfl, p, 4, n + 2 * i, rfl, B3, by omega, by decide, by decide, fun H4 e b4 B4 e0 e1 f4 => ⟨_, _, rfl, rfl, _, rfl, ?_⟩⟩
      have fin : ∀ (b : Int) (H5 : Hp), 0 ≤ b → b < (cnt : Int) → But p H4 H5 → BoxAt H5 p (n + 2 * i + 1 + 1) → ∃ acc, H5 L = some (.lst acc) ∧ acc.length < sizeLine ∧ ∃ bs : List Int, bs.length = i + 1 ∧ (∀ b ∈ bs, 0 ≤ b ∧ b < (cnt : Int)) ∧ But p H2 (upd H5 L (.lst (acc ++ [.int b]))) ∧ BoxAt (upd H5 L (.lst (acc ++ [.int b]))) p (n + 2 * (i + 1)) ∧ (upd H5 L (.lst (acc ++ [.int b]))) L = some (.lst (bs.map V.int)) := by
        intro b H5 h0 h1 b5 B5
        have h5L := b5 _ _ (b4 _ _ hL hLp) hLp
        refine ⟨_, h5L, by rw [List.length_map, bl, sizeLine_eq]; omega, bs ++ [b], by rw [List.length_append, bl]; rfl, fun x hx => ?_, fun c o ec nc => ?_, ?_, ?_⟩
        · rcases List.mem_append.mp hx with hx | hx
          · exact bb x hx
          · rw [List.mem_singleton.mp hx]; exact ⟨h0, h1⟩
        · rw [upd_ne (ne_of_none ec nL)]
          exact b5 _ _ (b4 _ _ (b3 _ _ ec nc) nc) nc
        · obtain ⟨z1, z2, z3, ez, r⟩ := B5
          exact ⟨z1, z2, z3, by rw [upd_ne (Ne.symm hLp)]; exact ez, by omega⟩
        · rw [upd_same, List.map_append]; rfl
      by_cases c : 0 < e
      · rw [decide_eq_true c]
        refine iteT ⟨_, rfl, _, rfl, p, D, n + 2 * i + 1, ops.map V.int, rfl, B4, by omega, b4 _ _ (b3 _ _ hD2 hDp) hDp, hDp, by rw [List.length_map]; omega, by rw [List.length_map]; omega, fun H5 v hv b5 B5 f5 => ?_⟩
        obtain ⟨b, hb, rfl⟩ := List.mem_map.mp hv
        exact fin b H5 (ob b hb).1 (ob b hb).2 b5 B5
      · rw [decide_eq_false c]
        have T4 := (T2.but b3 B2).but b4 B3
        refine iteF ⟨_, rfl, _, rfl, t, _, _, _, rfl, rfl, SqT.of T4.at_, i0 _ _, p, cnt, n + 2 * i + 1, rfl, B4, by omega, by omega, by omega, fun H5 b b5 B5 h0 h1 f5 => fin b H5 h0 h1 b5 B5⟩
    rintro H3 ⟨bs, bl, bb, b3, B3, hL⟩
    refine ⟨L, _, rfl, .inl ⟨SqL.of hL, fun c nc => ?_⟩⟩
    have s3 := same_upd (o := HO.tup (bs.map V.int)) nc
    have nc2 : H2 c = none := b3.free B2.ne nc B3.ne
    exact q _ c bs ((But.of s2).trans (b3.trans (But.of s3))) (B3.same s3) (s2.free nc2) upd_same bb bl
end
end Ov
namespace Ov
open PySem PySem.Spec PyProof.Rows L2
/-! ### lengths by opcodes -/
abbrev sLenAt : Stmt := inClass cInstructionSet 4
def laOf (is : List I4) (b : Int) : Nat := match is.find? (fun x => decide ((x.op : Int) = b)) with
  | some x => x.ln
  | none => 0
theorem val_len (is : List I4) (b : Int) : (valV (lenKV is) (Sum.inl b : Key)).getD (V.int 0) = V.int (laOf is b : Int) := by
  unfold valV lenKV laOf
  induction is with
  | nil => rfl
  | cons x is ih =>
    rw [List.map_cons, List.find?_cons, List.find?_cons]
    by_cases h : (x.op : Int) = b
    · subst h; simp
    · rw [decide_eq_false h, decide_eq_false (fun z => h (Sum.inl.inj z))]
      exact ih
theorem la_le {cnt lg : Nat} {is : List I4} (ok : TabOk cnt lg is) (b : Int) : laOf is b ≤ 12 := by
  unfold laOf
  cases e : is.find? (fun x => decide ((x.op : Int) = b)) with
  | none => exact Nat.zero_le _
  | some x =>
    have := ok.len x (List.mem_of_find?_eq_some e)
    have := ok.lb
    show x.ln ≤ 12
    omega
def natV (n : Nat) : V := .int (n : Int)
section
variable {P : Program} {w : World} {K : PySem.W.Frag} {mg : Str → Option Value} {base : Heap}
/-! ### length_at -/
def spLenAt (C : Addr) : Sp := fun vs H Q _ => ∃ (p it : Addr) (cnt : Nat) (is : List I4) (b : Int), vs = [.ref p, .int b] ∧ SetAt C H p cnt it is ∧ Q (.int (laOf is b : Int)) H
theorem scLenAt : FnScope ["self", "byte"] ["self", "byte"] (defScope sLenAt) := ⟨rfl, rfl, rfl, by decide +kernel, rfl, by decide +kernel, by decide +kernel⟩
theorem ok_lenAt {f C : Addr} {fd : FuncData} {k : Nat} (F : Fun K "length_at" "InstructionSet.length_at" sLenAt f fd) (S : SetTxt K mg C) : FnOk P w K mg base CX0 (k + 1) f fd ["self", "byte"] (spLenAt C) := by
  refine F.ok scLenAt (fun vs H Q E h => ?_) (fun cdv A' outer s H vs Q E hr h => ?_)
  · obtain ⟨p, it, cnt, is, b, rfl, _⟩ := h
    rfl
  · obtain ⟨p, it, cnt, is, b, rfl, SA, q⟩ := h
    refine ⟨_, pss_one (ps_ret (pe_dget2 (hu_of hr) (pe_fld (pv 0) rfl) (pv 1) pe_int ⟨rfl, rfl, rfl, rfl⟩)), ?_⟩
    obtain ⟨dx, d1, d2, hp, h1, h2⟩ := SA.ob
    refine ⟨_, rfl, p, C, dx, _, _, rfl, hp, S.cl, S.nL, flds_len _ _ _ _, d1, rfl, .inl ⟨_, .inl h1⟩, _, rfl, _, DGet.k (k := Sum.inl b) h1, ?_⟩
    rw [val_len]
    exact q
/-! ### walk -/
def spWalk (K : PySem.W.Frag) (C : Addr) : Sp := fun vs H Q _ => ∃ (p it c : Addr) (cnt : Nat) (is : List I4) (bs : List Int) (e : Nat), vs = [.ref p, .ref c, .int (e : Int)] ∧ SetAt C H p cnt it is ∧ SqT K H c (bs.map V.int) ∧ bs.length ≤ 100000 ∧
  ∀ H' r l begun fol, Same H H' → Ended (laOf is) bs e begun fol → H r = none → H' r = some (.tup [.ref l, .int (fol : Int)]) → H' l = some (.lst (begun.map natV)) → begun.length ≤ bs.length → Q (.ref r) H'
theorem scWalk : FnScope ["instruction_set", "code", "entry", "begun", "offset"] ["instruction_set", "code", "entry"] (defScope sWalk) := ⟨rfl, rfl, rfl, by decide +kernel, rfl, by decide +kernel, by decide +kernel⟩
def offOf (n : Nat) (σ : L2.St) : Nat := match σ with
  | [_, _, _, _, some (.int o)] => n - o.toNat
  | _ => 0
theorem no_meth (cnt : Nat) (it d1 d2 : Addr) : (flds cnt it d1 d2).lookup ("length_at" : Str) = none := by
  unfold flds
  rw [lookup_putF, if_neg (by decide +kernel), lookup_putF, if_neg (by decide +kernel), lookup_putF, if_neg (by decide +kernel), lookup_putF, if_neg (by decide +kernel)]
  rfl
theorem ok_walk {f fL C : Addr} {fd fdL : FuncData} {k : Nat} (F : Fun K "walk" "walk" sWalk f fd) (T : Bi mg) (S : SetTxt K mg C)
    (ML : Meth K C "length_at" fL) (bL : Binds K fdL ["self", "byte"] []) (GL : FnOk P w K mg base CX0 k fL fdL ["self", "byte"] (spLenAt C)) :
    FnOk P w K mg base CX0 (k + 1) f fd ["instruction_set", "code", "entry"] (spWalk K C) := by
  refine F.ok scWalk (fun vs H Q E h => ?_) (fun cdv A' outer s H vs Q E hr h => ?_)
  · obtain ⟨p, it, c, cnt, is, bs, e, rfl, _⟩ := h
    rfl
  · obtain ⟨p, it, c, cnt, is, bs, e, rfl, SA, hc, hb, q⟩ := h
    refine ⟨_, pss_cons (ps_set (i := 3) scWalk.nd rfl (.inl rfl) (pe_lst pa_nil))
      (pss_cons (ps_set (i := 4) scWalk.nd rfl (.inl rfl) (pv 2))
      (pss_cons (ps_while PassesOwn.never (PW.pt (pw_and (pt_cmpR op_lt (pv 4) (pe_callB call_len_seq (by rfl) T.len PySem.boot_len (pa_cons (pv 1) pa_nil)) (nomark _))
          (pw_and1 (pt_cmpR op_gt (pe_meth (pv 0) S.cl ML GL hr bL .nil pass0 (pa_cons (pe_ix ix_tup (pv 1) (pv 4) (fun _ _ => rfl)) pa_nil)) pe_int (nomark _)))))
        (pss_cons (ps_expr (pe_bm PySem.F.plainAttrs_list PySem.F.slot_list_append PySem.F.type_list_append mt_append (pv 3) (pa_cons (pv 4) pa_nil)))
        (pss_one (ps_aug (i := 4) scWalk.nd rfl (.inl rfl) (pe_meth (pv 0) S.cl ML GL hr bL .nil pass0 (pa_cons (pe_ix ix_tup (pv 1) (pv 4) (fun _ _ => rfl)) pa_nil)) ip_add))))
      (pss_one (ps_ret (pe_tup (pa_cons (pv 3) (pa_cons (pv 4) pa_nil))))))), ?_⟩
    refine ⟨Nat.zero_le _, fun l nl => ⟨_, rfl, ?_⟩⟩
    refine while_by (fun σ H2 => ∃ (begun : List Nat) (o : Nat), σ = [some (.ref p), some (.ref c), some (.int (e : Int)), some (.ref l), some (.int (o : Int))] ∧ Mk H H2 l (begun.map natV) ∧ Going (laOf is) bs e begun o) (fun σ _ => offOf bs.length σ)
      ⟨[], e, rfl, .start nl, Going.start bs e⟩ ?_ ?_
    · rintro σ H2 ⟨begun, o, rfl, mk, g⟩
      have c2 := mk.same.tup hc
      have SA2 := SA.same mk.same
      obtain ⟨dx, d1, d2, hp, _, _⟩ := SA2.ob
      have few := g.few
      have bl : begun.length ≤ bs.length := by omega
      refine ⟨_, rfl, _, rfl, c, _, rfl, .inr c2, _, _, rfl, rfl, _, rfl, ?_⟩
      rw [List.length_map]
      have fin : Ended (laOf is) bs e begun o → ∀ r, H2 r = none → Q (.ref r) (upd H2 r (.tup [.ref l, .int (o : Int)])) := fun en r nr => by
        have s := same_upd (o := HO.tup [.ref l, .int (o : Int)]) nr
        exact q _ r l begun o (mk.same.trans s) en (mk.same.free nr) upd_same (s _ _ mk.at_) bl
      by_cases h1 : (o : Int) < (bs.length : Int)
      · rw [decide_eq_true h1]
        have ho : o < bs.length := by omega
        have hb' : bs[o]? = some bs[o] := List.getElem?_eq_getElem ho
        have iv : atI (bs.map V.int) (o : Int) = some (.int bs[o]) := atI_nat (by rw [List.getElem?_map, hb']; rfl)
        refine iteT ⟨_, rfl, p, dx, _, rfl, hp, no_meth _ _ _ _, _, rfl, _, rfl, c, _, _, _, rfl, rfl, c2, iv, p, it, cnt, is, bs[o], rfl, SA2, _, _, rfl, rfl, _, rfl, ?_⟩
        by_cases h2 : (0 : Int) < (laOf is bs[o] : Int)
        · rw [decide_eq_true h2]
          refine iteT ⟨_, rfl, .inl ⟨rfl, _, SqL.of mk.at_⟩, _, rfl, l, _, _, rfl, rfl, mk.at_, by rw [List.length_map, sizeLine_eq]; omega, ?_⟩
          have mk3 := mk.put (acc' := begun.map natV ++ [V.int (o : Int)]) (Same.refl _)
          obtain ⟨dx3, d13, d23, hp3, _, _⟩ := (SA.same mk3.same).ob
          refine ⟨_, rfl, _, rfl, p, dx3, _, rfl, hp3, no_meth _ _ _ _, _, rfl, _, rfl, c, _, _, _, rfl, rfl, mk3.same.tup hc, iv, p, it, cnt, is, bs[o], rfl, SA.same mk3.same, _, _, rfl, rfl, ⟨begun ++ [o], o + laOf is bs[o], rfl, by rw [List.map_append]; exact mk3, g.step hb' (by omega)⟩, ?_⟩
          show bs.length - ((o : Int) + (laOf is bs[o] : Int)).toNat < bs.length - (o : Int).toNat
          omega
        · rw [decide_eq_false h2]
          exact iteF ⟨_, rfl, _, rfl, by show 2 ≤ sizeLine; decide, fun r nr => fin (g.stop hb' (by omega)) r nr⟩
      · rw [decide_eq_false h1]
        exact iteF (iteF ⟨_, rfl, _, rfl, by show 2 ≤ sizeLine; decide, fun r nr => fin (g.over (by omega)) r nr⟩)
    · rintro σ H2 Q1 Q2 hQ ⟨v, h1, v2, h2, a, xs, h3, h4, i, j, h5, h6, b, h7, h8⟩
      refine ⟨v, h1, v2, h2, a, xs, h3, h4, i, j, h5, h6, b, h7, ?_⟩
      revert h8
      cases b with
      | false => exact fun h8 => hQ _ _ h8
      | true =>
        rintro ⟨x1, e1, a1, dx1, f1, e2, e3, e4, x2, e5, x3, e6, c1, y1, y2, y3, e7, e8, e9, e10, p1, it1, cnt1, is1, b1, e11, e12, i1, j1, e13, e14, b2, e15, h9⟩
        exact ⟨x1, e1, a1, dx1, f1, e2, e3, e4, x2, e5, x3, e6, c1, y1, y2, y3, e7, e8, e9, e10, p1, it1, cnt1, is1, b1, e11, e12, i1, j1, e13, e14, b2, e15, hQ _ _ h9⟩
end
end Ov
namespace Ov
open PySem PySem.Spec PyProof.Rows L2
/-! ### what is laid beside a part of the heap while the box is used -/
structure GB (p : Addr) (T H T' H' : Hp) : Prop where
  hh : But p H H'
  tt : Same T T'
  th : Same T' H'
  new : ∀ b, T b = none → H b ≠ none → T' b = none
  up : ∀ b, H b ≠ none → H' b ≠ none
section
variable {p : Addr} {T H T' H' T2 H2 : Hp}
theorem GB.refl (st : Same T H) : GB p T H T H := ⟨But.refl _ _, Same.refl _, st, fun _ e _ => e, fun _ e => e⟩
theorem GB.of (g : Grow T H T' H') : GB p T H T' H' := ⟨But.of g.hh, g.tt, g.th, g.new, fun b e => by
  cases h : H b with
  | none => exact absurd h e
  | some o => rw [g.hh b o h]; exact fun z => nomatch z⟩
theorem GB.trans (g : GB p T H T' H') (g2 : GB p T' H' T2 H2) : GB p T H T2 H2 := ⟨g.hh.trans g2.hh, g.tt.trans g2.tt, g2.th, fun b e n => g2.new b (g.new b e n) (g.up b n), fun b n => g2.up b (g.up b n)⟩
theorem GB.box {n : Nat} (st : Same T H) (tp : T p = none) (b : But p H H') (B : BoxAt H' p n) : GB p T H T H' := ⟨b, Same.refl _, fun c o e => b _ _ (st _ _ e) (ne_of_none e tp), fun _ e _ => e, fun c e => by
  by_cases z : c = p
  · rw [z]; exact B.ne
  · cases h : H c with
    | none => exact absurd h e
    | some o => rw [b c o h z]; exact fun y => nomatch y⟩
theorem GB.lay (g : GB p T H T' H') {a : Addr} (o : HO) (n : H' a = none) : GB p T H T' (upd H' a o) := ⟨g.hh.trans (But.of (same_upd n)), g.tt, g.th.trans (same_upd n), g.new, fun b e => by
  have z := g.up b e
  by_cases y : b = a
  · rw [y, upd_same]; exact fun w => nomatch w
  · rw [upd_ne y]; exact z⟩
theorem GB.put (g : GB p T H T' H') {a : Addr} (o : HO) (n : H' a = none) : GB p T H (upd T' a o) (upd H' a o) := g.trans (.of ((Grow.refl g.th).put o n))
end
end Ov
namespace Ov
open PySem PySem.Spec PyProof.Rows L2
theorem GB.set {p : Addr} {T H T' H' : Hp} (g : GB p T H T' H') {L : Addr} (o : HO) (nH : H L = none) (nT : T' L = none) : GB p T H T' (upd H' L o) :=
  ⟨fun b x e n => by rw [upd_ne (ne_of_none e nH)]; exact g.hh b x e n, g.tt, fun b x e => by rw [upd_ne (ne_of_none e nT)]; exact g.th b x e, g.new, fun b e => by
    by_cases y : b = L
    · rw [y, upd_same]; exact fun w => nomatch w
    · rw [upd_ne y]; exact g.up b e⟩
/-- things in a list in the making, beside the box -/
structure HoldZ (T0 T H : Hp) (p D : Addr) (n : Nat) (vs : List V) (ds : List PyData) : Prop where
  tt : Same T0 T
  ht : Same T H
  tp : T p = none
  tD : T D = none
  ne : D ≠ p
  at_ : H D = some (.lst vs)
  all : DzAll T vs ds
  box : BoxAt H p n
theorem HoldZ.mono {T0 T H : Hp} {p D : Addr} {n m : Nat} {vs : List V} {ds : List PyData} (h : HoldZ T0 T H p D n vs ds) (l : n ≤ m) : HoldZ T0 T H p D m vs ds := { h with box := h.box.mono l }
theorem HoldZ.gb {T0 T H T' G : Hp} {p D : Addr} {n m : Nat} {vs : List V} {ds : List PyData} (h : HoldZ T0 T H p D n vs ds) (g : GB p T H T' G) (B : BoxAt G p m) : HoldZ T0 T' G p D m vs ds :=
  ⟨h.tt.trans g.tt, g.th, g.new _ h.tp h.box.ne, g.new _ h.tD (by rw [h.at_]; exact fun z => nomatch z), h.ne, g.hh _ _ h.at_ h.ne, h.all.same g.tt, B⟩
theorem HoldZ.grow {T0 T H T' G : Hp} {p D : Addr} {n : Nat} {vs : List V} {ds : List PyData} (h : HoldZ T0 T H p D n vs ds) (g : Grow T H T' G) : HoldZ T0 T' G p D n vs ds := h.gb (.of g) (h.box.same g.hh)
theorem BoxAt.upd {H : Hp} {p D : Addr} {n : Nat} {o : HO} (B : BoxAt H p n) (ne : D ≠ p) : BoxAt (L2.upd H D o) p n := by
  obtain ⟨z1, z2, z3, e, r⟩ := B
  exact ⟨z1, z2, z3, by rw [upd_ne (Ne.symm ne)]; exact e, r⟩
theorem HoldZ.push {T0 T H : Hp} {p D : Addr} {n : Nat} {vs us : List V} {ds es : List PyData} (h : HoldZ T0 T H p D n vs ds) (A : DzAll T us es) : HoldZ T0 T (upd H D (.lst (vs ++ us))) p D n (vs ++ us) (ds ++ es) :=
  ⟨h.tt, fun b o e => by rw [upd_ne (ne_of_none e h.tD)]; exact h.ht _ _ e, h.tp, h.tD, h.ne, upd_same, h.all.app A, h.box.upd h.ne⟩
theorem HoldZ.start {T H : Hp} {p D : Addr} {n : Nat} (st : Same T H) (tp : T p = none) (B : BoxAt H p n) (nD : H D = none) : HoldZ T T (upd H D (.lst [])) p D n [] [] :=
  ⟨Same.refl _, st.trans (same_upd nD), tp, st.free nD, fun z => B.ne (z ▸ nD), upd_same, .nil, B.same (same_upd nD)⟩
/-- a heap without p -/
def hide (p : Addr) (H : Hp) : Hp := fun b => if b = p then none else H b
theorem hide_same {p : Addr} {H : Hp} : Same (hide p H) H := fun b o e => by
  unfold hide at e
  by_cases h : b = p
  · rw [if_pos h] at e; cases e
  · rw [if_neg h] at e; exact e
theorem hide_at {p b : Addr} {H : Hp} {o : HO} (e : H b = some o) (h : b ≠ p) : hide p H b = some o := by
  unfold hide
  rw [if_neg h]
  exact e
theorem hide_none {p : Addr} {H : Hp} : hide p H p = none := if_pos rfl
theorem but_hide {p : Addr} {H : Hp} : But p H (hide p H) := fun _ _ e h => hide_at e h
end Ov
namespace Ov
open PySem PySem.Spec PyProof.Rows L2
theorem SetAt.but {C : Addr} {H H' : Hp} {x p : Addr} {cnt n : Nat} {it : Addr} {is : List I4} (h : SetAt C H x cnt it is) (b : But p H H') (B : BoxAt H p n) : SetAt C H' x cnt it is := by
  obtain ⟨dx, d1, d2, h1, h2, h3⟩ := h.ob
  obtain ⟨_, _, _, e, _⟩ := B
  refine ⟨dx, d1, d2, b _ _ h1 ?_, b _ _ h2 ?_, b _ _ h3 ?_⟩
  · intro z; rw [z, e] at h1; cases h1
  · intro z; rw [z, e] at h2; cases h2
  · intro z; rw [z, e] at h3; cases h3
end Ov
namespace Ov
open PySem PySem.Spec PyProof.Rows L2
/-- an instruction set with its rows -/
structure Mach (C : Addr) (H : Hp) (p : Addr) (cnt lg : Nat) (it : Addr) (is : List I4) (rs : List Addr) : Prop where
  at_ : SetAt C H p cnt it is
  its : H it = some (.tup (rs.map V.ref))
  rows : Rows H rs is
  ok : TabOk cnt lg is
theorem Mach.same {C : Addr} {H H' : Hp} {p : Addr} {cnt lg : Nat} {it : Addr} {is : List I4} {rs : List Addr} (h : Mach C H p cnt lg it is rs) (s : Same H H') : Mach C H' p cnt lg it is rs := ⟨h.at_.same s, s _ _ h.its, h.rows.same s, h.ok⟩
theorem Mach.but {C : Addr} {H H' : Hp} {x p : Addr} {cnt lg n : Nat} {it : Addr} {is : List I4} {rs : List Addr} (h : Mach C H x cnt lg it is rs) (b : But p H H') (B : BoxAt H p n) : Mach C H' x cnt lg it is rs := ⟨h.at_.but b B, b _ _ h.its (ne_box B h.its), h.rows.but b B, h.ok⟩
end Ov
namespace Ov
open PySem PySem.Spec PyProof.Rows L2
/-! ### steps of programs: names, lengths, operands -/
def stepKV (is : List I4) : List (Key × V) := (is.filter fun x => !x.pad).map fun x => ((Sum.inr (txt x.nm) : Key), V.int (x.ln : Int))
def stepI (is : List I4) (nm : Str) : Option I4 := (is.filter fun x => !x.pad).find? fun x => decide (txt x.nm = nm)
theorem stepI_in {is : List I4} {nm : Str} {x : I4} (h : stepI is nm = some x) : x ∈ is ∧ x.pad = false ∧ txt x.nm = nm := by
  have m := List.mem_filter.mp (List.mem_of_find?_eq_some h)
  refine ⟨m.1, ?_, ?_⟩
  · have := m.2
    revert this
    cases x.pad <;> simp
  · have := List.find?_some h
    exact of_decide_eq_true this
theorem stepKV_more (is : List I4) (x : I4) : stepKV (is ++ [x]) = stepKV is ++ (if x.pad = true then [] else [((Sum.inr (txt x.nm) : Key), V.int (x.ln : Int))]) := by
  unfold stepKV
  rw [List.filter_append, List.map_append]
  cases h : x.pad <;> simp [List.filter_cons, h]
theorem val_step (is : List I4) (nm : Str) : valV (stepKV is) (Sum.inr nm : Key) = (stepI is nm).map fun x => V.int (x.ln : Int) := by
  unfold valV stepKV stepI
  induction (is.filter fun x => !x.pad) with
  | nil => rfl
  | cons x l ih =>
    rw [List.map_cons, List.find?_cons, List.find?_cons]
    by_cases e : txt x.nm = nm
    · subst e; simp
    · rw [decide_eq_false e, decide_eq_false (fun z => e (Sum.inr.inj z))]
      exact ih
def opOk (cnt : Nat) : PyData → Bool
  | .none => true
  | d => btw 0 ((cnt : Int) - 1) d
def isOps (cnt l : Nat) : PyData → Bool
  | .tuple os => decide (os.length + 1 = l) && os.all (opOk cnt)
  | _ => false
def isNm (is : List I4) (f : Nat → Bool) : PyData → Bool
  | .str nm => match stepI is nm with
    | some x => f x.ln
    | none => false
  | _ => false
def isStepD (cnt : Nat) (is : List I4) : PyData → Bool
  | .tuple [a, b] => isNm is (fun l => isOps cnt l b) a
  | _ => false
def isProgD (cnt : Nat) (is : List I4) : PyData → Bool
  | .tuple ds => decide (ds.length ≤ 12) && ds.all (isStepD cnt is)
  | _ => false
theorem isStepD_len {cnt : Nat} {is : List I4} {ds : List PyData} (h : ds.length ≠ 2) : isStepD cnt is (.tuple ds) = false := by
  match ds, h with
  | [], _ => rfl
  | [_], _ => rfl
  | [_, _], h => exact absurd rfl h
  | _ :: _ :: _ :: _, _ => rfl
theorem two_of {ds : List PyData} (h : ds.length = 2) : ∃ a b, ds = [a, b] := by
  match ds, h with
  | [a, b], _ => exact ⟨a, b, rfl⟩
section
variable {P : Program} {w : World} {K : PySem.W.Frag} {mg : Str → Option Value} {base : Heap}
/-! ### step_lengths -/
def spStepL (C : Addr) : Sp := fun vs H Q _ => ∃ (p it : Addr) (cnt lg : Nat) (is : List I4) (rs : List Addr), vs = [.ref p] ∧ Mach C H p cnt lg it is rs ∧ ∀ H' d, Same H H' → H d = none → H' d = some (.dK (stepKV is)) → Q (.ref d) H'
theorem scStepL : FnScope ["instruction_set", "opcode", "name", "length", "is_padding"] ["instruction_set"] (defScope s_step_lengths) := ⟨rfl, rfl, rfl, by decide +kernel, rfl, by decide +kernel, by decide +kernel⟩
theorem ok_stepL {f C : Addr} {fd : FuncData} {k : Nat} (F : Fun K "step_lengths" "step_lengths" s_step_lengths f fd) (S : SetTxt K mg C) : FnOk P w K mg base CX0 (k + 1) f fd ["instruction_set"] (spStepL C) := by
  refine F.ok scStepL (fun vs H Q E h => ?_) (fun cdv A' outer s H vs Q E hr h => ?_)
  · obtain ⟨p, it, cnt, lg, is, rs, rfl, _⟩ := h
    rfl
  · obtain ⟨p, it, cnt, lg, is, rs, rfl, M, q⟩ := h
    refine ⟨_, pss_one (ps_ret (pe_dc (own := [("opcode", 1), ("name", 2), ("length", 3), ("is_padding", 4)]) (g := gTup K 4 (gCons (gName 1) (gCons (gName 2) (gCons (gName 3) (gCons (gName 4) gNil))))) (by rfl) scStepL.nd (pi_tup (pe_fld (pv 0) rfl))
          (blkOk_by (own := [("opcode", 1), ("name", 2), ("length", 3), ("is_padding", 4)]) (N := ["instruction_set", "opcode", "name", "length", "is_padding"]) (sc := defScope s_step_lengths) (by decide +kernel))
          (fun _ _ _ _ _ => pg_tup rfl (pgs_cons (pg_name (i := 1) scStepL.nd rfl (Or.inl rfl)) (pgs_cons (pg_name (i := 2) scStepL.nd rfl (Or.inl rfl)) (pgs_cons (pg_name (i := 3) scStepL.nd rfl (Or.inl rfl)) (pgs_cons (pg_name (i := 4) scStepL.nd rfl (Or.inl rfl)) pgs_nil)))))
          (fun _ _ _ _ _ => pts_one (pt_not (pt_val (pv 4)))) (fun _ _ _ _ _ => pv 2) (fun _ _ _ _ _ => pv 3))), ?_⟩
    obtain ⟨dx, d1, d2, hp, _⟩ := M.at_.ob
    have few := M.ok.few
    have rl := M.rows.1
    refine ⟨_, rfl, p, C, dx, _, _, rfl, hp, S.cl, S.nI, flds_its _ _ _ _, it, rfl, ⟨_, SqT.of M.its⟩, fun D nD => dc_tup (K := K) (a := it) (xs := rs.map V.ref) (fun i G => Same H G ∧ G D = some (.dK (stepKV (is.take i)))) ⟨same_upd nD, upd_same⟩ (fun i G _ p => p.1.tup (SqT.of M.its)) ?_ ?_⟩
    · rintro i x G hx ⟨sG, hD⟩
      obtain ⟨hi, r, rfl, hr2, _⟩ := rows_at M.rows hx
      refine ⟨r, _, rfl, SqT.of (sG _ _ hr2), rfl, _, _, rfl, _, _, rfl, _, _, rfl, _, _, rfl, rfl, rfl, _, rfl, _, rfl, ?_⟩
      rw [take_more (List.getElem?_eq_getElem hi), stepKV_more]
      cases hpad : (is[i]).pad with
      | true =>
        refine iteF ?_
        rw [if_pos rfl, List.append_nil]
        exact ⟨sG, hD⟩
      | false =>
        refine iteT ⟨_, rfl, _, rfl, _, Sum.inr (txt (is[i]).nm), rfl, hD, ?_, fun b o e => ?_, ?_⟩
        · unfold stepKV
          rw [List.length_map]
          have := List.length_filter_le (fun x : I4 => !x.pad) (is.take i)
          rw [List.length_take] at this
          exact small1000 (by omega)
        · rw [upd_ne (ne_of_none e nD)]
          exact sG b o e
        · rw [upd_same, if_neg Bool.false_ne_true, put_fresh]
          intro z
          unfold stepKV at z
          rw [List.map_map] at z
          obtain ⟨y, hy, e⟩ := List.mem_map.mp z
          obtain ⟨j, hj, ej⟩ := List.mem_take_iff_getElem.mp (List.mem_filter.mp hy).1
          have e' : txt y.nm = txt (is[i]).nm := Sum.inr.inj e
          have h1 := List.pairwise_iff_getElem.mp (List.nodup_iff_pairwise_ne.mp M.ok.nd) j i (by rw [List.length_map]; omega) (by rw [List.length_map]; exact hi) (by omega)
          rw [List.getElem_map, List.getElem_map, ej] at h1
          exact h1 (txt_inj e')
    · rintro G ⟨sG, hD⟩
      rw [List.length_map, rl, List.take_length] at hD
      exact q G D sG nD hD
/-! ### is_step -/
def spStep (K : PySem.W.Frag) (C : Addr) : Sp := fun vs H Q _ => ∃ (p it L : Addr) (cnt lg : Nat) (is : List I4) (v : V) (d : PyData), vs = [.ref p, .ref L, v] ∧ SetAt C H p cnt it is ∧ TabOk cnt lg is ∧ H L = some (.dK (stepKV is)) ∧ Dx K H v d ∧ ∀ H', Same H H' → Q (.bl (isStepD cnt is d)) H'
theorem scStep : FnScope ["instruction_set", "lengths", "value", "name", "operands", "greatest", "item"] ["instruction_set", "lengths", "value"] (defScope s_is_step) := ⟨rfl, rfl, rfl, by decide +kernel, rfl, by decide +kernel, by decide +kernel⟩
theorem ok_step {f fB C : Addr} {fd fdB : FuncData} {k : Nat} (F : Fun K "is_step" "is_step" s_is_step f fd) (T : Bi mg) (S : SetTxt K mg C)
    (B : Def K mg "is_integer_between" sBetween fB fdB ["value", "least", "most"]) (GB : FnOk P w K mg base CX0 k fB fdB ["value", "least", "most"] (spBetweenX K)) : FnOk P w K mg base CX0 (k + 1) f fd ["instruction_set", "lengths", "value"] (spStep K C) := by
  refine F.ok scStep (fun vs H Q E h => ?_) (fun cdv A' outer s H vs Q E hr h => ?_)
  · obtain ⟨p, it, L, cnt, lg, is, v, d, rfl, _⟩ := h
    rfl
  · obtain ⟨p, it, L, cnt, lg, is, v, d, rfl, SA, ok, hL, D, q⟩ := h
    have hu := hu_of hr
    refine ⟨_, pss_cons (ps_if (PW.pt (pw_or (pt_not (pt_val (pe_callB call_isi (by rfl) T.isi (by decide +kernel) (pa_cons (pv 2) (pa_cons (pe_bltn (v := .ty "tuple") (u := .type "tuple") (by rfl) T.tuple (by decide +kernel) rfl) pa_nil)))))
        (pw_or1 (pt_cmpR op_ne (pe_callB call_len_seq (by rfl) T.len PySem.boot_len (pa_cons (pv 2) pa_nil)) pe_int (nomark _))))) (pss_one (ps_ret pe_bl)) pss_nil)
      (pss_cons (ps_asg (pv 2) (pg_tup rfl (pgs_cons (pg_name (i := 3) scStep.nd rfl (.inl rfl)) (pgs_cons (pg_name (i := 4) scStep.nd rfl (.inl rfl)) pgs_nil))))
      (pss_cons (ps_if (PW.pt (pw_or (pt_not (pt_val (pe_callB call_isi (by rfl) T.isi (by decide +kernel) (pa_cons (pv 3) (pa_cons (pe_bltn (v := .ty "str") (u := .type "str") (by rfl) T.str (by decide +kernel) rfl) pa_nil)))))
        (pw_or1 (pt_cmp (pc_dnotin hu (pv 3) (pv 1)))))) (pss_one (ps_ret pe_bl)) pss_nil)
      (pss_cons (ps_if (PW.pt (pw_or (pt_not (pt_val (pe_callB call_isi (by rfl) T.isi (by decide +kernel) (pa_cons (pv 4) (pa_cons (pe_bltn (v := .ty "tuple") (u := .type "tuple") (by rfl) T.tuple (by decide +kernel) rfl) pa_nil)))))
        (pw_or1 (pt_cmpR op_ne (pe_callB call_len_seq (by rfl) T.len PySem.boot_len (pa_cons (pv 4) pa_nil)) (pe_op op_sub (pe_dget hu (pv 1) (pv 3) (fun _ _ => rfl)) pe_int) (nomark _))))) (pss_one (ps_ret pe_bl)) pss_nil)
      (pss_cons (ps_set (i := 5) scStep.nd rfl (.inr rfl) (pe_op op_sub (pe_fld (pv 0) rfl) pe_int))
      (pss_one (ps_ret (pe_callB (cr_all rfl) (by rfl) T.all (by decide +kernel) (pa_cons
        (pe_lc (own := [("item", 6)]) (g := gName 6) (tt := tYes) (by rfl) scStep.nd (pi_tup (pv 4)) (blkOk_by (own := [("item", 6)]) (N := ["instruction_set", "lengths", "value", "name", "operands", "greatest", "item"]) (sc := defScope s_is_step) (by decide +kernel))
          (fun _ _ _ _ _ => pg_name (i := 6) scStep.nd rfl (Or.inl rfl)) (fun _ _ _ _ _ => pts_nil)
          (fun _ _ _ _ _ => pe_or (pe_cmpR op_isN (pv 6) pe_non (nomark _)) (pe_one (pe_call GB hr (by rfl) B.gl B.fn.kp B.bi .nil pass0 (pa_cons (pv 6) (pa_cons pe_int (pa_cons (pv 5) pa_nil))))))) pa_nil)))))))), ?_⟩
    have q0 := q H (Same.refl _)
    refine ⟨_, rfl, _, _, _, _, _, rfl, .ty _, D.ty, kit_ty (kit_t d), _, rfl, ?_⟩
    cases D with
    | non => exact iteT q0
    | str x => exact iteT q0
    | dct h => exact iteT q0
    | lst h a => exact iteT q0
    | bl b => exact iteT q0
    | int i => exact iteT q0
    | @tup a xs ds hs ha =>
      have el := ha.len
      refine iteF ⟨_, rfl, a, _, rfl, .inr hs, rfl, _, rfl, ?_⟩
      by_cases h2 : ds.length = 2
      · rw [show decide (V.int ((xs.length : Nat) : Int) = V.int 2) = true from decide_eq_true (by rw [el, h2]; rfl)]
        obtain ⟨d1, d2, rfl⟩ := two_of h2
        cases ha with
        | @cons v1 _ _ _ D1 ha =>
          cases ha with
          | @cons v2 _ _ _ D2 ha =>
            cases ha
            refine iteF ⟨_, rfl, a, _, rfl, hs, rfl, _, _, rfl, _, _, rfl, rfl, ?_⟩
            refine ⟨_, rfl, _, _, _, _, _, rfl, .ty _, D1.ty, kit_ty (kit_s d1), _, rfl, ?_⟩
            cases D1 with
            | non => exact iteT q0
            | tup h a => exact iteT q0
            | dct h => exact iteT q0
            | lst h a => exact iteT q0
            | bl b => exact iteT q0
            | int i => exact iteT q0
            | str nm =>
              refine iteF ⟨_, rfl, _, rfl, L, _, rfl, DGet.k (k := Sum.inr nm) hL, _, rfl, ?_⟩
              have vs := val_step is nm
              rw [vs]
              cases hst : stepI is nm with
              | none =>
                refine iteT ?_
                have e : isStepD cnt is (.tuple [.str nm, d2]) = false := by simp [isStepD, isNm, hst]
                rw [e] at q0
                exact q0
              | some x =>
                obtain ⟨xin, _, _⟩ := stepI_in hst
                have xl := ok.len x xin
                have lb := ok.lb
                have e : isStepD cnt is (.tuple [.str nm, d2]) = isOps cnt x.ln d2 := by simp [isStepD, isNm, hst]
                rw [e] at q q0
                refine iteF ⟨_, rfl, _, _, _, _, _, rfl, .ty _, D2.ty, kit_ty (kit_t d2), _, rfl, ?_⟩
                cases D2 with
                | non => exact iteT q0
                | str x => exact iteT q0
                | dct h => exact iteT q0
                | lst h a => exact iteT q0
                | bl b => exact iteT q0
                | int i => exact iteT q0
                | @tup c ys os hc hys =>
                  have ol := hys.len
                  have g : DGet H L (.str nm) (some (V.int (x.ln : Int))) := by
                    have z := DGet.k (k := Sum.inr nm) hL
                    rw [vs, hst] at z
                    exact z
                  refine iteF ⟨_, rfl, c, _, rfl, .inr hc, _, rfl, _, rfl, L, _, rfl, g, _, _, rfl, rfl, rfl, _, rfl, ?_⟩
                  by_cases hl : os.length + 1 = x.ln
                  · rw [decide_eq_true (show V.int (ys.length : Int) = V.int ((x.ln : Int) - 1) by congr 1; omega)]
                    obtain ⟨dx, e1, e2, hp, _⟩ := SA.ob
                    refine iteF ⟨_, rfl, p, C, dx, _, _, rfl, hp, S.cl, S.nB, flds_cnt _ _ _ _, _, _, rfl, rfl, ?_⟩
                    refine ⟨_, rfl, c, rfl, ⟨_, hc⟩, fun D nD => lc_tup (K := K) (a := c) (xs := ys) (fun i G => Mk H G D (((os.take i).map (opOk cnt)).map V.bl)) (.start nD) (fun i G _ p => p.same.tup hc) ?_ ?_⟩
                    · intro i y G hy mk
                      obtain ⟨dy, hdy, Dy⟩ := hys.at hy
                      rw [take_more hdy, List.map_append, List.map_append]
                      have sz : (((os.take i).map (opOk cnt)).map V.bl).length < sizeLine := by rw [List.length_map, List.length_map, List.length_take]; exact small1000 (by omega)
                      refine ⟨rfl, _, rfl, rfl, _, rfl, ?_⟩
                      have two : (y = .non ∧ dy = .none) ∨ (y ≠ .non ∧ opOk cnt dy = btw 0 ((cnt : Int) - 1) dy) := by
                        cases Dy with
                        | non => exact .inl ⟨rfl, rfl⟩
                        | tup h a => exact .inr ⟨fun z => (nomatch z), rfl⟩
                        | str h => exact .inr ⟨fun z => (nomatch z), rfl⟩
                        | dct h => exact .inr ⟨fun z => (nomatch z), rfl⟩
                        | lst h a => exact .inr ⟨fun z => (nomatch z), rfl⟩
                        | bl b => exact .inr ⟨fun z => (nomatch z), rfl⟩
                        | int i => exact .inr ⟨fun z => (nomatch z), rfl⟩
                      rcases two with ⟨rfl, rfl⟩ | ⟨hn, ho⟩
                      · exact iteT ⟨_, mk.at_, sz, mk.put (Same.refl _)⟩
                      · rw [decide_eq_false hn]
                        refine iteF ⟨_, rfl, _, rfl, y, dy, 0, (cnt : Int) - 1, rfl, Dy.same mk.same, _, mk.at_, sz, ?_⟩
                        rw [← ho]
                        exact mk.put (Same.refl _)
                    intro G mk
                    refine ⟨D, _, rfl, SqL.of mk.at_, ?_⟩
                    rw [ol, List.take_length, List.all_map]
                    have z := q G mk.same
                    have e : isOps cnt x.ln (.tuple os) = os.all (opOk cnt) := by simp [isOps, hl]
                    rw [e] at z
                    exact z
                  · rw [decide_eq_false (fun z => hl (by have := V.int.inj z; omega))]
                    refine iteT ?_
                    have e : isOps cnt x.ln (.tuple os) = false := by simp [isOps, hl]
                    rw [e] at q0
                    exact q0
      · rw [show decide (V.int ((xs.length : Nat) : Int) = V.int 2) = false from decide_eq_false (fun z => h2 (by have := V.int.inj z; omega))]
        refine iteT ?_
        rw [isStepD_len h2] at q0
        exact q0
/-! ### is_program -/
def spProg (K : PySem.W.Frag) (C : Addr) : Sp := fun vs H Q _ => ∃ (p it : Addr) (cnt lg : Nat) (is : List I4) (rs : List Addr) (v : V) (d : PyData), vs = [.ref p, v] ∧ Mach C H p cnt lg it is rs ∧ Dx K H v d ∧ ∀ H', Same H H' → Q (.bl (isProgD cnt is d)) H'
theorem scProg : FnScope ["instruction_set", "value", "lengths", "item"] ["instruction_set", "value"] (defScope s_is_program) := ⟨rfl, rfl, rfl, by decide +kernel, rfl, by decide +kernel, by decide +kernel⟩
theorem ok_prog {f fL fS C : Addr} {fd fdL fdS : FuncData} {k : Nat} (F : Fun K "is_program" "is_program" s_is_program f fd) (T : Bi mg) (ms : ∃ t, mg "MOST_STEPS" = some (.int 12 t))
    (Sl : Def K mg "step_lengths" s_step_lengths fL fdL ["instruction_set"]) (GSl : FnOk P w K mg base CX0 k fL fdL ["instruction_set"] (spStepL C))
    (St : Def K mg "is_step" s_is_step fS fdS ["instruction_set", "lengths", "value"]) (GSt : FnOk P w K mg base CX0 k fS fdS ["instruction_set", "lengths", "value"] (spStep K C)) : FnOk P w K mg base CX0 (k + 1) f fd ["instruction_set", "value"] (spProg K C) := by
  obtain ⟨tm, ms⟩ := ms
  refine F.ok scProg (fun vs H Q E h => ?_) (fun cdv A' outer s H vs Q E hr h => ?_)
  · obtain ⟨p, it, cnt, lg, is, rs, v, d, rfl, _⟩ := h
    rfl
  · obtain ⟨p, it, cnt, lg, is, rs, v, d, rfl, M, D, q⟩ := h
    refine ⟨_, pss_cons (ps_if (PW.pt (pw_or (pt_not (pt_val (pe_callB call_isi (by rfl) T.isi (by decide +kernel) (pa_cons (pv 1) (pa_cons (pe_bltn (v := .ty "tuple") (u := .type "tuple") (by rfl) T.tuple (by decide +kernel) rfl) pa_nil)))))
        (pw_or1 (pt_cmpR op_gt (pe_callB call_len_seq (by rfl) T.len PySem.boot_len (pa_cons (pv 1) pa_nil)) (pe_glob (v := .int 12) (by rfl) ms ⟨_, rfl⟩) (nomark _))))) (pss_one (ps_ret pe_bl)) pss_nil)
      (pss_cons (ps_set (i := 2) scProg.nd rfl (.inr rfl) (pe_call GSl hr (by rfl) Sl.gl Sl.fn.kp Sl.bi .nil pass0 (pa_cons (pv 0) pa_nil)))
      (pss_one (ps_ret (pe_callB (cr_all rfl) (by rfl) T.all (by decide +kernel) (pa_cons
        (pe_lc (own := [("item", 3)]) (g := gName 3) (tt := tYes) (by rfl) scProg.nd (pi_tup (pv 1)) (blkOk_by (own := [("item", 3)]) (N := ["instruction_set", "value", "lengths", "item"]) (sc := defScope s_is_program) (by decide +kernel))
          (fun _ _ _ _ _ => pg_name (i := 3) scProg.nd rfl (Or.inl rfl)) (fun _ _ _ _ _ => pts_nil)
          (fun _ _ _ _ _ => pe_call GSt hr (by rfl) St.gl St.fn.kp St.bi .nil pass0 (pa_cons (pv 0) (pa_cons (pv 2) (pa_cons (pv 3) pa_nil))))) pa_nil))))), ?_⟩
    have q0 := q H (Same.refl _)
    refine ⟨_, rfl, _, _, _, _, _, rfl, .ty _, D.ty, kit_ty (kit_t d), _, rfl, ?_⟩
    cases D with
    | non => exact iteT q0
    | str x => exact iteT q0
    | dct h => exact iteT q0
    | lst h a => exact iteT q0
    | bl b => exact iteT q0
    | int i => exact iteT q0
    | @tup a xs ds hs ha =>
      have el := ha.len
      refine iteF ⟨_, rfl, a, _, rfl, .inr hs, _, _, rfl, rfl, _, rfl, ?_⟩
      by_cases h12 : ds.length ≤ 12
      · rw [el, decide_eq_false (show ¬ (12 : Int) < (ds.length : Int) by omega)]
        refine iteF ⟨_, rfl, p, it, cnt, lg, is, rs, rfl, M, fun G L sG nL hL => ?_⟩
        have hs1 := sG.tup hs
        have M1 := M.same sG
        have ha1 := ha.same sG
        refine ⟨_, rfl, a, rfl, ⟨_, hs1⟩, fun D nD => lc_tup (K := K) (a := a) (xs := xs) (fun i G2 => Mk G G2 D (((ds.take i).map (isStepD cnt is)).map V.bl)) (.start nD) (fun i G2 _ p => p.same.tup hs1) ?_ ?_⟩
        · intro i y G2 hy mk
          obtain ⟨dy, hdy, Dy⟩ := ha1.at hy
          rw [take_more hdy, List.map_append, List.map_append]
          refine ⟨rfl, _, rfl, _, rfl, _, rfl, p, it, L, cnt, lg, is, y, dy, rfl, M1.at_.same mk.same, M.ok, mk.same _ _ hL, Dy.same mk.same, fun G3 s3 => ⟨_, s3 _ _ mk.at_, ?_, mk.put s3⟩⟩
          rw [List.length_map, List.length_map, List.length_take]
          exact small1000 (by omega)
        intro G2 mk
        refine ⟨D, _, rfl, SqL.of mk.at_, ?_⟩
        rw [el, List.take_length, List.all_map]
        have z := q G2 (sG.trans mk.same)
        have e : isProgD cnt is (.tuple ds) = ds.all (isStepD cnt is) := by simp [isProgD, h12]
        rw [e] at z
        exact z
      · rw [el, decide_eq_true (show (12 : Int) < (ds.length : Int) by omega)]
        refine iteT ?_
        have e : isProgD cnt is (.tuple ds) = false := by simp [isProgD, h12]
        rw [e] at q0
        exact q0
end
end Ov
namespace Ov
open PySem PySem.Spec PyProof.Rows L2
/-! ### plans: steps with operands that are bytes or None -/
def oV : Option Int → V
  | none => .non
  | some b => .int b
def oD : Option Int → PyData
  | none => .none
  | some b => .int b
theorem dz_opts {H : Hp} : ∀ os : List (Option Int), DzAll H (os.map oV) (os.map oD)
  | [] => .nil
  | none :: os => .cons .non (dz_opts os)
  | some b :: os => .cons (.int b) (dz_opts os)
abbrev PStep := I4 × List (Option Int)
def stepD (x : PStep) : PyData := .tuple [.str (txt x.1.nm), .tuple (x.2.map oD)]
structure StepOk (cnt : Nat) (is : List I4) (x : PStep) : Prop where
  mem : x.1 ∈ is
  pad : x.1.pad = false
  len : x.2.length + 1 = x.1.ln
  low : ∀ b, some b ∈ x.2 → 0 ≤ b ∧ b < (cnt : Int)
def someI (is : List I4) (rs : List Addr) : List Addr := ((rs.zip is).filter fun q => !q.2.pad).map (·.1)
theorem someI_in {is : List I4} {rs : List Addr} {r : Addr} (h : r ∈ someI is rs) : ∃ (i : Nat) (x : I4), rs[i]? = some r ∧ is[i]? = some x ∧ x.pad = false := by
  obtain ⟨⟨a, x⟩, hm, rfl⟩ := List.mem_map.mp h
  obtain ⟨h1, h2⟩ := List.mem_filter.mp hm
  obtain ⟨i, hi⟩ := List.mem_iff_getElem?.mp h1
  rw [List.getElem?_zip_eq_some] at hi
  refine ⟨i, x, hi.1, hi.2, ?_⟩
  revert h2
  cases x.pad <;> simp
theorem someI_len (is : List I4) (rs : List Addr) : (someI is rs).length ≤ is.length := by
  unfold someI
  rw [List.length_map]
  refine Nat.le_trans (List.length_filter_le _ _) ?_
  rw [List.length_zip]
  omega
theorem someI_more {is : List I4} {rs : List Addr} {i : Nat} {r : Addr} {x : I4} (h1 : rs[i]? = some r) (h2 : is[i]? = some x) : someI (is.take (i + 1)) (rs.take (i + 1)) = someI (is.take i) (rs.take i) ++ (if x.pad = true then [] else [r]) := by
  unfold someI
  have tz : ∀ j, (rs.take j).zip (is.take j) = (rs.zip is).take j := fun j => by simp only [List.zip, List.take_zipWith]
  rw [tz, tz, take_more (List.getElem?_zip_eq_some (z := (r, x)) |>.mpr ⟨h1, h2⟩), List.filter_append, List.map_append]
  cases h : x.pad <;> simp [List.filter_cons, h]
section
variable {P : Program} {w : World} {K : PySem.W.Frag} {mg : Str → Option Value} {base : Heap}
/-! ### _law_plan -/
def spPlan : Sp := fun vs H Q _ => ∃ (p t it : Addr) (n cnt lg most : Nat) (is : List I4) (rs : List Addr) (T : Hp), vs = [.ref p, .ref t, .int (most : Int)] ∧ BoxAt H p n ∧ n ≤ 2 ^ 38 ∧ Same T H ∧ T p = none ∧ Tab T t cnt lg is it rs ∧ most ≤ 12 ∧
  ∀ H' T' r (ps : List PStep), GB p T H T' H' → BoxAt H' p (n + 300) → Dz T' (.ref r) (.tuple (ps.map stepD)) → ps.length ≤ most → (∀ x ∈ ps, StepOk cnt is x) → Q (.ref r) H'
abbrev nPlan : List Str := ["_law_box_here", "_law_table_here", "_law_most", "_law_some", "_law_plan_here", "_law_turn", "_law_opcode", "_law_name", "_law_size", "_law_is_padding", "_law_wanted", "_law_instruction", "_law_at"]
theorem scPlan : FnScope nPlan ["_law_box_here", "_law_table_here", "_law_most"] (defScope s_law_plan) := ⟨rfl, rfl, rfl, by decide +kernel, rfl, by decide +kernel, by decide +kernel⟩
theorem ok_plan {f fO fT : Addr} {fd fdO fdT : FuncData} {k : Nat} (F : Fun K "_law_plan" "_law_plan" s_law_plan f fd) (Ti : Bi mg)
    (O : Def K mg "_law_of" sOf fO fdO ["_law_box_here", "_law_some"]) (GO : FnOk P w K mg base CX0 k fO fdO ["_law_box_here", "_law_some"] spOf)
    (Tk : Def K mg "_law_take" sTake fT fdT ["_law_box_here", "_law_many"]) (GT : FnOk P w K mg base CX0 k fT fdT ["_law_box_here", "_law_many"] spTake) :
    FnOk P w K mg base CX0 (k + 1) f fd ["_law_box_here", "_law_table_here", "_law_most"] spPlan := by
  refine F.ok scPlan (fun vs H Q E h => ?_) (fun cdv A' outer s H vs Q E hr h => ?_)
  · obtain ⟨p, t, it, n, cnt, lg, most, is, rs, T, rfl, _⟩ := h
    rfl
  · obtain ⟨p, t, it, n, cnt, lg, most, is, rs, T, rfl, B, hn, st, tp, T0, m12, q⟩ := h
    refine ⟨_, pss_cons (ps_par (i := 3) (j := 4) (by rfl) scPlan.nd rfl rfl (by decide) rfl rfl (pa_cons
          (pe_lc (own := [("_law_instruction", 11)]) (g := gName 11) (tt := tNot (tB (tOp (rIxT K) (tVar 11) (tC (.int 3))))) (by rfl) scPlan.nd (pi_tup (pe_ix ix_tup (pv 1) pe_int (fun _ _ => rfl)))
            (blkOk_by (own := [("_law_instruction", 11)]) (N := nPlan) (sc := defScope s_law_plan) (by decide +kernel))
            (fun _ _ _ _ _ => pg_name (i := 11) scPlan.nd rfl (Or.inl rfl)) (fun _ _ _ _ _ => pts_one (pt_not (pt_val (pe_ix (r := rIxT K) ix_tup (pv 11) pe_int (fun _ _ => rfl))))) (fun _ _ _ _ _ => pv 11))
          (pa_cons (pe_lst pa_nil) pa_nil)) (by rfl))
      (pss_cons (ps_for PassesOwn.never rfl (pi_range1 (by rfl) Ti.range (pa_cons (pe_op op_mul (pe_call GT hr (by rfl) Tk.gl Tk.fn.kp Tk.bi .nil pass0 (pa_cons (pv 0) (pa_cons (pe_op op_add (pv 2) pe_int) pa_nil)))
            (pe_callTy call_int1 (by rfl) Ti.int (by decide +kernel) (pa_cons (pe_cmpR (op_neNoL hr.units) (pv 3) (pe_lst pa_nil) (nomark _)) pa_nil))) pa_nil)) (pg_name (i := 5) scPlan.nd rfl (.inl rfl))
        (pss_cons (ps_asg (pe_call GO hr (by rfl) O.gl O.fn.kp O.bi .nil pass0 (pa_cons (pv 0) (pa_cons (pv 3) pa_nil))) (pg_tup rfl (pgs_cons (pg_name (i := 6) scPlan.nd rfl (.inl rfl)) (pgs_cons (pg_name (i := 7) scPlan.nd rfl (.inl rfl)) (pgs_cons (pg_name (i := 8) scPlan.nd rfl (.inl rfl)) (pgs_cons (pg_name (i := 9) scPlan.nd rfl (.inl rfl)) pgs_nil))))))
        (pss_cons (ps_setLc (i := 10) (own := [("_law_at", 12)]) (g := gName 12) (tt := tYes) (by rfl) scPlan.nd rfl rfl (sw_true rfl rfl rfl (by decide +kernel)) (pi_range1 (by rfl) Ti.range (pa_cons (pe_op op_sub (pv 8) pe_int) pa_nil))
            (blkOk_by (own := [("_law_at", 12)]) (N := nPlan) (sc := defScope s_law_plan) (by decide +kernel))
            (fun _ _ _ _ _ => pg_name (i := 12) scPlan.nd rfl (Or.inl rfl)) (fun _ _ _ _ _ => pts_nil)
            (fun _ _ _ _ _ => pe_call GO hr (by rfl) O.gl O.fn.kp O.bi .nil pass0 (pa_cons (pv 0) (pa_cons (pe_lst (pa_cons pe_non (pa_cons (pe_call GT hr (by rfl) Tk.gl Tk.fn.kp Tk.bi .nil pass0 (pa_cons (pv 0) (pa_cons (pe_ix (r := rIxT K) ix_tup (pv 1) pe_int (fun _ _ => rfl)) pa_nil))) pa_nil))) pa_nil))))
        (pss_one (ps_expr (pe_bm PySem.F.plainAttrs_list PySem.F.slot_list_append PySem.F.type_list_append mt_append (pv 4) (pa_cons (pe_tup (pa_cons (pv 7) (pa_cons (pe_callTy call_tuple_of (by rfl) Ti.tuple (by decide +kernel) (pa_cons (pv 10) pa_nil)) pa_nil))) pa_nil)))))))
      (pss_one (ps_ret (pe_callTy call_tuple_of (by rfl) Ti.tuple (by decide +kernel) (pa_cons (pv 4) pa_nil))))), ?_⟩
    have i0 : ∀ x y : V, atI [x, y] 0 = some x := fun x y => atI_nat (j := 0) rfl
    have i1 : ∀ x y : V, atI [x, y] 1 = some y := fun x y => atI_nat (j := 1) rfl
    have TH := T0.same st
    have hit := TH.its
    have rl := TH.rows.1
    have few := TH.ok.few
    have cb := TH.ok.cb
    have lb := TH.ok.lb
    -- the instructions that are no padding
    refine ⟨_, rfl, t, _, _, _, rfl, rfl, SqT.of TH.at_, i1 _ _, it, rfl, ⟨_, SqT.of hit⟩, fun D nD => lc_tup (K := K) (a := it) (xs := rs.map V.ref) (fun i G => Mk H G D ((someI (is.take i) (rs.take i)).map V.ref)) (.start nD) (fun i G _ mk => mk.same.tup (SqT.of hit)) ?_ ?_⟩
    · intro i x G hx mk
      obtain ⟨hi, r, rfl, hr2, _⟩ := rows_at TH.rows hx
      have hri : rs[i]? = some r := by
        rw [List.getElem?_map] at hx
        obtain ⟨z, hz, e⟩ := Option.map_eq_some_iff.mp hx
        cases e
        exact hz
      have at3 : atI (is[i]).vs 3 = some (.bl (is[i]).pad) := atI_nat (j := 3) rfl
      refine ⟨rfl, _, rfl, r, _, _, _, rfl, rfl, SqT.of (mk.same _ _ hr2), at3, _, rfl, ?_⟩
      rw [someI_more hri (List.getElem?_eq_getElem hi), List.map_append]
      cases hp : (is[i]).pad with
      | true =>
        refine iteF ?_
        rw [if_pos rfl, List.map_nil, List.append_nil]
        exact mk
      | false =>
        refine iteT ⟨_, rfl, _, mk.at_, ?_, mk.put (Same.refl _)⟩
        rw [List.length_map]
        have := someI_len (is.take i) (rs.take i)
        rw [List.length_take] at this
        exact small1000 (by omega)
    intro G1 mk1
    rw [List.length_map, rl, List.take_length, ← rl, List.take_length] at mk1
    have sl := someI_len is rs
    have inI : ∀ r, r ∈ someI is rs → ∃ x, x ∈ is ∧ x.pad = false ∧ T r = some (.tup x.vs) := fun r h => by
      obtain ⟨i, x, h1, h2, h3⟩ := someI_in h
      exact ⟨x, List.mem_of_getElem? h2, h3, T0.rows.2 i r x h1 h2⟩
    generalize hS : someI is rs = ss at mk1 sl inI
    -- the part of the heap that stays: with the list of instructions
    have tD : T D = none := st.free nD
    have sT : Same T (upd T D (.lst (ss.map V.ref))) := same_upd tD
    have st1 : Same (upd T D (.lst (ss.map V.ref))) G1 := fun b o e => by
      by_cases z : b = D
      · rw [z, upd_same] at e
        cases e
        rw [z]
        exact mk1.at_
      · rw [upd_ne z] at e
        exact mk1.same _ _ (st _ _ e)
    have Dp : D ≠ p := fun z => B.ne (z ▸ nD)
    have tp1 : upd T D (.lst (ss.map V.ref)) p = none := by rw [upd_ne (Ne.symm Dp)]; exact tp
    have g1 : GB p T H (upd T D (.lst (ss.map V.ref))) G1 := ⟨But.of mk1.same, sT, st1, fun b e n => by
      by_cases z : b = D
      · rw [z] at n; exact absurd nD n
      · rw [upd_ne z]; exact e, fun b e => by
      cases z : H b with
      | none => exact absurd z e
      | some o => rw [mk1.same _ _ z]; exact fun y => nomatch y⟩
    have hDT : upd T D (.lst (ss.map V.ref)) D = some (.lst (ss.map V.ref)) := upd_same
    have T1 := T0.same sT
    have inJ : ∀ r, r ∈ ss → ∃ x, x ∈ is ∧ x.pad = false ∧ upd T D (.lst (ss.map V.ref)) r = some (.tup x.vs) := fun r h => by
      obtain ⟨x, a, b, c⟩ := inI r h
      exact ⟨x, a, b, sT _ _ c⟩
    have B1 := B.same mk1.same
    generalize upd T D (.lst (ss.map V.ref)) = Tp at *
    -- the plan's list
    refine ⟨Nat.zero_le _, fun L nL => ⟨_, _, rfl, ?_⟩⟩
    have h0 := HoldZ.start st1 tp1 B1 nL
    have gL : GB p T H Tp (upd G1 L (.lst [])) := g1.lay _ nL
    have nLH : H L = none := mk1.same.free nL
    -- how many
    refine ⟨_, rfl, _, rfl, _, _, rfl, rfl, p, (most : Int) + 1, n, rfl, h0.box, by omega, by omega, by omega, fun G2 m b2 B2 m0 m1 f2 => ?_⟩
    have g2 := gL.trans (GB.box h0.ht h0.tp b2 B2)
    have h2 := h0.gb (GB.box h0.ht h0.tp b2 B2) B2
    refine ⟨_, rfl, Nat.zero_le _, fun e ne => ?_⟩
    have se := same_upd (o := HO.lst []) ne
    have gE := (GB.refl (p := p) h2.ht).lay (HO.lst []) ne
    have g3 := g2.trans gE
    have h3 := h2.gb gE (h2.box.same se)
    refine ⟨D, e, _, rfl, rfl, SqL.of (h3.ht _ _ hDT), SqL.of upd_same, .inr ⟨_, rfl, _, _, rfl, rfl, .inr (bit_ok _), ?_⟩⟩
    generalize upd G2 e (HO.lst []) = G3 at *
    obtain ⟨mt, hmt, hm12, hss⟩ : ∃ mt : Nat, m * (if ((ss.map V.ref).isEmpty == false) = true then 1 else 0) = (mt : Int) ∧ mt ≤ most ∧ (0 < mt → 0 < ss.length) := by
      cases hs : ss with
      | nil => exact ⟨0, by simp, Nat.zero_le _, fun z => absurd z (by decide)⟩
      | cons a l => exact ⟨m.toNat, by simp; omega, by omega, fun _ => by simp⟩
    refine ⟨(mt : Int), congrArg (fun z => [V.int z]) hmt, by omega, by omega, for_range (lo := 0) (n := mt) (fun i σ G => ∃ (T2 : Hp) (vs : List V) (ps : List PStep) (y5 y6 y7 y8 y9 y10 : Option V), σ = [some (.ref p), some (.ref t), some (.int (most : Int)), some (.ref D), some (.ref L), y5, y6, y7, y8, y9, y10, none, none] ∧ GB p T H T2 G ∧ HoldZ Tp T2 G p L (n + 1 + 24 * i) vs (ps.map stepD) ∧ ps.length = i ∧ ∀ x ∈ ps, StepOk cnt is x)
      ⟨Tp, [], [], none, none, none, none, none, none, rfl, g3, h3, rfl, (fun _ h => nomatch h)⟩ ?_ ?_⟩
    · rintro i σ G hi ⟨T2, vs, ps, y5, y6, y7, y8, y9, y10, rfl, gG, hG, pl, pok⟩
      have ssp := hss (by omega)
      refine ⟨_, rfl, _, rfl, p, D, _, _, rfl, hG.box, by omega, hG.ht _ _ (hG.tt _ _ hDT), Dp, by rw [List.length_map]; exact ssp, by rw [List.length_map]; omega, fun G4 v mv b4 B4 f4 => ?_⟩
      obtain ⟨r, hr2, rfl⟩ := List.mem_map.mp mv
      obtain ⟨x, xin, xpad, hx⟩ := inJ r hr2
      have xl := T0.ok.len x xin
      have e4 := GB.box hG.ht hG.tp b4 B4
      have g4 := gG.trans e4
      have h4 := hG.gb e4 B4
      refine ⟨r, _, rfl, SqT.of (h4.ht _ _ (h4.tt _ _ hx)), rfl, _, _, rfl, _, _, rfl, _, _, rfl, _, _, rfl, rfl, ?_⟩
      -- what is wanted
      refine ⟨_, rfl, _, _, rfl, rfl, _, rfl, by omega, by omega, fun W nW => lc_range (lo := 0) (fun j G => ∃ (T3 : Hp) (os : List (Option Int)), GB p T H T3 G ∧ HoldZ Tp T3 G p L (n + 1 + 24 * i + 1 + 2 * j) vs (ps.map stepD) ∧ T3 W = none ∧ G W = some (.lst (os.map oV)) ∧ os.length = j ∧ ∀ b, some b ∈ os → 0 ≤ b ∧ b < (cnt : Int)) ?_ ?_ ?_⟩
      · have eW := (GB.refl (p := p) h4.ht).lay (HO.lst []) nW
        exact ⟨T2, [], g4.trans eW, h4.gb eW (h4.box.same (same_upd nW)), h4.ht.free nW, upd_same, rfl, (fun _ h => nomatch h)⟩
      · rintro j G5 hj ⟨T3, os, g5, h5, tW, hW, ol, olow⟩
        have nWH : H W = none := (g4.th.trans (Same.refl _)) |> fun _ => by
          cases z : H W with
          | none => rfl
          | some o =>
            have := g4.up W (by rw [z]; exact fun y => nomatch y)
            exact absurd nW this
        have Wp : W ≠ p := fun z => by rw [z] at hW; obtain ⟨_, _, _, e, _⟩ := h4.box; rw [z, e] at nW; cases nW
        have WL : W ≠ L := fun z => by rw [z, h4.at_] at nW; cases nW
        have t5 := (T1.same h5.tt).same h5.ht
        refine ⟨rfl, _, rfl, _, rfl, _, rfl, t, _, _, _, rfl, rfl, SqT.of t5.at_, i0 _ _, p, (cnt : Int), _, rfl, h5.box, by omega, by omega, by omega, fun G6 b b6 B6 z0 z1 f6 => ?_⟩
        have e6 := GB.box h5.ht h5.tp b6 B6
        have h6 := h5.gb e6 B6
        refine ⟨by show 2 ≤ sizeLine; decide, fun l nl => ?_⟩
        have e7 := (GB.refl (p := p) h6.ht).lay (HO.lst [V.non, V.int b]) nl
        have lp : l ≠ p := fun z => h6.box.ne (z ▸ nl)
        have h7 := h6.gb e7 (h6.box.same (same_upd nl))
        refine ⟨p, l, _, _, rfl, h7.box, by omega, upd_same, lp, by show 0 < 2; decide, by show 2 ≤ 1000; decide, fun G8 v mv b8 B8 f8 => ?_⟩
        have e8 := GB.box h7.ht h7.tp b8 B8
        have h8 := h7.gb e8 B8
        have g8 := ((g5.trans e6).trans e7).trans e8
        have eG := (e6.trans e7).trans e8
        have hW8 := eG.hh _ _ hW Wp
        have tW8 := eG.new _ tW (by rw [hW]; exact fun y => nomatch y)
        obtain ⟨o, rfl, ob⟩ : ∃ o : Option Int, v = oV o ∧ ∀ c, o = some c → 0 ≤ c ∧ c < (cnt : Int) := by
          rcases List.mem_cons.mp mv with rfl | mv
          · exact ⟨none, rfl, fun c z => nomatch z⟩
          · exact ⟨some b, List.mem_singleton.mp mv, fun c z => by cases z; exact ⟨z0, z1⟩⟩
        refine ⟨_, hW8, by rw [List.length_map, ol, sizeLine_eq]; omega, T3, os ++ [o], g8.set _ nWH tW8, ?_, tW8, by rw [upd_same, List.map_append]; rfl, by rw [List.length_append, ol]; rfl, fun c hc => ?_⟩
        · refine ⟨h8.tt, fun b o e => by rw [upd_ne (ne_of_none e tW8)]; exact h8.ht b o e, h8.tp, h8.tD, h8.ne, by rw [upd_ne (Ne.symm WL)]; exact h8.at_, h8.all, ?_⟩
          exact (h8.box.upd Wp).mono (by omega)
        · rcases List.mem_append.mp hc with hc | hc
          · exact olow c hc
          · exact ob c (List.mem_singleton.mp hc).symm
      · rintro G5 ⟨T3, os, g5, h5, tW, hW, ol, olow⟩
        -- the step
        refine ⟨_, rfl, .inl ⟨rfl, _, SqL.of h5.at_⟩, _, rfl, _, rfl, W, _, rfl, .inl ⟨SqL.of hW, fun u nu => ?_⟩⟩
        have k1 := (Grow.refl h5.ht).put (HO.tup (os.map oV)) nu
        have D1 : Dz (upd T3 u (HO.tup (os.map oV))) (.ref u) (.tuple (os.map oD)) := .tup upd_same (dz_opts os)
        have h9 := h5.grow k1
        have g9 := g5.trans (.of k1)
        generalize upd T3 u (HO.tup (os.map oV)) = T4, upd G5 u (HO.tup (os.map oV)) = G6 at *
        refine ⟨by show 2 ≤ sizeLine; decide, fun r2 nr2 => ?_⟩
        have k2 := (Grow.refl h9.ht).put (HO.tup [V.str (txt x.nm), V.ref u]) nr2
        have D2 : Dz (upd T4 r2 (HO.tup [V.str (txt x.nm), V.ref u])) (.ref r2) (stepD (x, os)) := .tup upd_same (.cons (.str _) (.cons (D1.same k2.tt) .nil))
        have h10 := h9.grow k2
        have g10 := g9.trans (.of k2)
        generalize upd T4 r2 (HO.tup [V.str (txt x.nm), V.ref u]) = T5, upd G6 r2 (HO.tup [V.str (txt x.nm), V.ref u]) = G7 at *
        have vl : vs.length = i := by rw [h10.all.len, List.length_map, pl]
        refine ⟨L, _, _, rfl, rfl, h10.at_, by rw [vl, sizeLine_eq]; omega, T5, vs ++ [V.ref r2], ps ++ [(x, os)], _, _, _, _, _, _, rfl, g10.set _ nLH h10.tD, ?_, by rw [List.length_append, pl]; rfl, fun y hy => ?_⟩
        · rw [List.map_append]
          refine (h10.push (.cons D2 .nil)).mono ?_
          have : ((x.ln : Int) - 1).toNat ≤ 11 := by omega
          omega
        · rcases List.mem_append.mp hy with hy | hy
          · exact pok y hy
          · rw [List.mem_singleton.mp hy]
            exact ⟨xin, xpad, by show os.length + 1 = x.ln; rw [ol]; omega, olow⟩
    · rintro σ G ⟨T2, vs, ps, y5, y6, y7, y8, y9, y10, rfl, gG, hG, pl, pok⟩
      refine ⟨_, rfl, L, _, rfl, .inl ⟨SqL.of hG.at_, fun r nr => ?_⟩⟩
      have k1 := (Grow.refl hG.ht).put (HO.tup vs) nr
      refine q _ _ r ps (gG.trans (.of k1)) ((hG.box.same k1.hh).mono (by omega)) (.tup upd_same (hG.all.same k1.tt)) ?_ pok
      rw [pl]
      exact hm12
end
end Ov
namespace Ov
open PySem PySem.Spec PyProof.Rows L2
section
variable {P : Program} {w : World} {K : PySem.W.Frag} {mg : Str → Option Value} {base : Heap}
/-! ### check_entry, starts, countdown_at -/
def spCkE (K : PySem.W.Frag) : Sp := fun vs H Q _ => ∃ (c : Addr) (xs : List V) (e : Nat), vs = [.ref c, .int (e : Int)] ∧ SqT K H c xs ∧ e ≤ xs.length ∧ Q .non H
theorem scCkE : FnScope ["code", "entry"] ["code", "entry"] (defScope sCheckEntry) := ⟨rfl, rfl, rfl, by decide +kernel, rfl, by decide +kernel, by decide +kernel⟩
theorem ok_ckE {f fB : Addr} {fd fdB : FuncData} {k : Nat} (F : Fun K "check_entry" "check_entry" sCheckEntry f fd) (T : Bi mg)
    (B : Def K mg "is_integer_between" sBetween fB fdB ["value", "least", "most"]) (GB : FnOk P w K mg base CX0 k fB fdB ["value", "least", "most"] spBetween) : FnOk P w K mg base CX0 (k + 1) f fd ["code", "entry"] (spCkE K) := by
  refine F.ok scCkE (fun vs H Q E h => ?_) (fun cdv A' outer s H vs Q E hr h => ?_)
  · obtain ⟨c, xs, e, rfl, _⟩ := h
    rfl
  · obtain ⟨c, xs, e, rfl, hc, he, q⟩ := h
    refine ⟨_, pss_one (ps_if (pt_not (pt_val (pe_call GB hr (by rfl) B.gl B.fn.kp B.bi .nil pass0 (pa_cons (pv 1) (pa_cons pe_int (pa_cons (pe_callB call_len_seq (by rfl) T.len PySem.boot_len (pa_cons (pv 0) pa_nil)) pa_nil)))))) (pss_one ps_never) pss_nil), ?_⟩
    exact ⟨_, rfl, _, rfl, c, _, rfl, .inr hc, _, _, _, rfl, by omega, by omega, _, rfl, iteF q⟩
end
end Ov
namespace Ov
open PySem PySem.Spec PyProof.Rows L2
/-! ### names by opcodes, rows of decoded instructions -/
def nmOf (is : List I4) (b : Int) : List Nat := match is.find? (fun x => decide ((x.op : Int) = b)) with
  | some x => x.nm
  | none => []
def nmKV (is : List I4) : List (Key × V) := is.map fun x => ((Sum.inl (x.op : Int) : Key), V.str (txt x.nm))
theorem val_nm {is : List I4} {b : Int} (h : 0 < laOf is b) : valV (nmKV is) (Sum.inl b : Key) = some (.str (txt (nmOf is b))) := by
  unfold valV nmKV nmOf
  unfold laOf at h
  induction is with
  | nil => cases h
  | cons x is ih =>
    rw [List.map_cons, List.find?_cons, List.find?_cons]
    rw [List.find?_cons] at h
    by_cases e : (x.op : Int) = b
    · subst e; simp
    · rw [decide_eq_false e] at h ⊢
      rw [decide_eq_false (fun z => e (Sum.inl.inj z))]
      exact ih h
theorem nm_ok {cnt lg : Nat} {is : List I4} (ok : TabOk cnt lg is) (b : Int) : (reprText (txt (nmOf is b))).length ≤ 100 := by
  have h : (nmOf is b).length ≤ 8 ∧ ∀ c ∈ nmOf is b, c ≤ 122 := by
    unfold nmOf
    cases e : is.find? (fun x => decide ((x.op : Int) = b)) with
    | none => exact ⟨by decide, fun c hc => nomatch hc⟩
    | some x =>
      have := ok.nms x (List.mem_of_find?_eq_some e)
      exact ⟨this.2.1, fun c hc => (this.2.2 c hc).2⟩
  have z := PySem.StrLaws.reprText_len (txt (nmOf is b)) (fun c hc => by
    have : c ∈ nmOf is b := by simpa [txt] using hc
    have := h.2 c this
    exact Nat.lt_of_le_of_lt this (by decide))
  have l : (txt (nmOf is b)).length = (nmOf is b).length := by
    show (nmOf is b).toArray.size = _
    simp
  rw [l] at z
  omega
def opsOf (bs : List Int) (o l : Nat) : List Int := (bs.drop (o + 1)).take (l - 1)
def rowD (is : List I4) (bs : List Int) (o : Nat) : PyData := .tuple [.int (o : Int), .str (txt (nmOf is (bs.getD o 0))), .tuple ((opsOf bs o (laOf is (bs.getD o 0))).map PyData.int)]
def endD (n : Nat) (begun : List Nat) (fol : Nat) : PyData :=
  if fol < n then .tuple [.str "stopped", .int (fol : Int)] else if n < fol then .tuple [.str "cut", .int ((begun.getLast?.getD 0 : Nat) : Int), .int ((fol - n : Nat) : Int)] else .tuple [.str "complete"]
def compOf (n : Nat) (begun : List Nat) (fol : Nat) : List Nat := if n < fol then begun.dropLast else begun
def decD (is : List I4) (bs : List Int) (begun : List Nat) (fol : Nat) : PyData := .tuple [.tuple ((compOf bs.length begun fol).map (rowD is bs)), endD bs.length begun fol]
theorem cut_mid (a b : Nat) (xs : List V) (h : a ≤ b) : cutV xs (some (a : Int)) (some (b : Int)) = (xs.drop a).take (b - a) := by
  unfold cutV
  rw [show HT.sIx xs.length 0 (some (a : Int)) = min a xs.length from HT.sIx_nat xs.length 0 a, show HT.sIx xs.length xs.length (some (b : Int)) = min b xs.length from HT.sIx_nat xs.length xs.length b]
  rcases Nat.le_total xs.length a with c | c
  · rw [Nat.min_eq_right c, List.drop_of_length_le c, List.drop_of_length_le (Nat.le_refl _), List.take_nil, List.take_nil]
  · rw [Nat.min_eq_left c]
    rcases Nat.le_total xs.length b with d | d
    · rw [Nat.min_eq_right d, List.take_of_length_le (by rw [List.length_drop]; exact Nat.le_refl _), List.take_of_length_le (by rw [List.length_drop]; omega)]
    · rw [Nat.min_eq_left d]
theorem cut_but (xs : List V) : cutV xs none (some (-1)) = xs.dropLast := by
  unfold cutV
  rw [HT.sIx_none, List.drop_zero, Nat.sub_zero, List.dropLast_eq_take]
  congr 1
  show (if (-1 : Int) < 0 then ((-1 : Int) + (xs.length : Int)).toNat else min (-1 : Int).toNat xs.length) = xs.length - 1
  rw [if_pos (by decide)]
  omega
/-- a list of things in the making: they live in the part T of the heap, the list itself does not -/
structure Coll (K : PySem.W.Frag) (T H : Hp) (D : Addr) (vs : List V) (ds : List PyData) : Prop where
  th : Same T H
  td : T D = none
  at_ : H D = some (.lst vs)
  all : DxAll K T vs ds
theorem Coll.grow {K : PySem.W.Frag} {T H T' H' : Hp} {D : Addr} {vs : List V} {ds : List PyData} (h : Coll K T H D vs ds) (g : Grow T H T' H') : Coll K T' H' D vs ds :=
  ⟨g.th, g.new _ h.td (by rw [h.at_]; exact fun z => nomatch z), g.hh _ _ h.at_, h.all.same g.tt⟩
theorem Coll.push {K : PySem.W.Frag} {T H : Hp} {D : Addr} {vs : List V} {ds : List PyData} {v : V} {d : PyData} (h : Coll K T H D vs ds) (x : Dx K T v d) : Coll K T (upd H D (.lst (vs ++ [v]))) D (vs ++ [v]) (ds ++ [d]) :=
  ⟨fun b o e => by rw [upd_ne (ne_of_none e h.td)]; exact h.th _ _ e, h.td, upd_same, h.all.app (.cons x .nil)⟩
section
variable {P : Program} {w : World} {K : PySem.W.Frag} {mg : Str → Option Value} {base : Heap}
/-! ### read_instructions -/
def spReadI (K : PySem.W.Frag) (C : Addr) : Sp := fun vs H Q _ => ∃ (p it c lo : Addr) (cnt lg : Nat) (is : List I4) (rs : List Addr) (bs : List Int) (os : List Nat), vs = [.ref p, .ref c, .ref lo] ∧ Mach C H p cnt lg it is rs ∧ SqT K H c (bs.map V.int) ∧ H lo = some (.lst (os.map natV)) ∧ os.length ≤ 100000 ∧ (∀ o ∈ os, ∃ b, bs[o]? = some b ∧ 0 < laOf is b) ∧
  ∀ H' r, Same H H' → H r = none → Dx K H' (.ref r) (.tuple (os.map (rowD is bs))) → Q (.ref r) H'
theorem scReadI : FnScope ["instruction_set", "code", "offsets", "names", "rows", "offset", "length", "opcode", "name", "is_padding"] ["instruction_set", "code", "offsets"] (defScope sReadI) := ⟨rfl, rfl, rfl, by decide +kernel, rfl, by decide +kernel, by decide +kernel⟩
theorem ok_readI {f fL C : Addr} {fd fdL : FuncData} {k : Nat} (F : Fun K "read_instructions" "read_instructions" sReadI f fd) (T : Bi mg) (S : SetTxt K mg C)
    (ML : Meth K C "length_at" fL) (bL : Binds K fdL ["self", "byte"] []) (GL : FnOk P w K mg base CX0 k fL fdL ["self", "byte"] (spLenAt C)) :
    FnOk P w K mg base CX0 (k + 1) f fd ["instruction_set", "code", "offsets"] (spReadI K C) := by
  refine F.ok scReadI (fun vs H Q E h => ?_) (fun cdv A' outer s H vs Q E hr h => ?_)
  · obtain ⟨p, it, c, lo, cnt, lg, is, rs, bs, os, rfl, _⟩ := h
    rfl
  · obtain ⟨p, it, c, lo, cnt, lg, is, rs, bs, os, rfl, M, hc, hlo, hos, ho, q⟩ := h
    refine ⟨_, pss_cons (ps_setDc (i := 3) (own := [("opcode", 7), ("name", 8), ("length", 6), ("is_padding", 9)]) (g := gTup K 4 (gCons (gName 7) (gCons (gName 8) (gCons (gName 6) (gCons (gName 9) gNil))))) (tt := tYes) (by rfl) scReadI.nd rfl rfl (sw_dict rfl rfl rfl (by decide +kernel)) (pi_tup (pe_fld (pv 0) rfl))
          (blkOk_by (own := [("opcode", 7), ("name", 8), ("length", 6), ("is_padding", 9)]) (N := ["instruction_set", "code", "offsets", "names", "rows", "offset", "length", "opcode", "name", "is_padding"]) (sc := defScope sReadI) (by decide +kernel))
          (fun _ _ _ _ _ => pg_tup rfl (pgs_cons (pg_name (i := 7) scReadI.nd rfl (Or.inl rfl)) (pgs_cons (pg_name (i := 8) scReadI.nd rfl (Or.inl rfl)) (pgs_cons (pg_name (i := 6) scReadI.nd rfl (Or.inl rfl)) (pgs_cons (pg_name (i := 9) scReadI.nd rfl (Or.inl rfl)) pgs_nil)))))
          (fun _ _ _ _ _ => pts_nil) (fun _ _ _ _ _ => pv 7) (fun _ _ _ _ _ => pv 8))
      (pss_cons (ps_set (i := 4) scReadI.nd rfl (.inl rfl) (pe_lst pa_nil))
      (pss_cons (ps_for PassesOwn.never rfl (pi_list (pv 2)) (pg_name (i := 5) scReadI.nd rfl (.inl rfl))
        (pss_cons (ps_set (i := 6) scReadI.nd rfl (.inl rfl) (pe_meth (pv 0) S.cl ML GL hr bL .nil pass0 (pa_cons (pe_ix ix_tup (pv 1) (pv 5) (fun _ _ => rfl)) pa_nil)))
        (pss_one (ps_expr (pe_bm PySem.F.plainAttrs_list PySem.F.slot_list_append PySem.F.type_list_append mt_append (pv 4) (pa_cons (pe_tup (pa_cons (pv 5) (pa_cons (pe_dget (hu_of hr) (pv 3) (pe_ix ix_tup (pv 1) (pv 5) (fun _ _ => rfl)) (fun _ _ => rfl))
          (pa_cons (pe_slice sl_tupA (pv 1) (po_some (pe_op op_add (pv 5) pe_int)) (po_some (pe_op op_add (pv 5) (pv 6)))) pa_nil)))) pa_nil))))))
      (pss_one (ps_ret (pe_callTy call_tuple_of (by rfl) T.tuple (by decide +kernel) (pa_cons (pv 4) pa_nil)))))), ?_⟩
    obtain ⟨dx, d1, d2, hp, _, _⟩ := M.at_.ob
    have hit := M.its
    have rl := M.rows.1
    have few := M.ok.few
    have fresh1 : ∀ (i : Nat) (hi : i < is.length), (Sum.inl ((is[i]).op : Int) : Key) ∉ (nmKV (is.take i)).map (·.1) := fun i hi z => by
      unfold nmKV at z
      rw [List.map_map] at z
      obtain ⟨y, hy, e⟩ := List.mem_map.mp z
      obtain ⟨j, hj, ej⟩ := List.mem_take_iff_getElem.mp hy
      have e' : (y.op : Int) = ((is[i]).op : Int) := Sum.inl.inj e
      have h1 := List.pairwise_iff_getElem.mp M.ok.asc j i (by rw [List.length_map]; omega) (by rw [List.length_map]; exact hi) (by omega)
      rw [List.getElem_map, List.getElem_map, ej] at h1
      omega
    -- the names
    refine ⟨_, rfl, p, C, dx, _, _, rfl, hp, S.cl, S.nI, flds_its _ _ _ _, it, rfl, ⟨_, SqT.of hit⟩, fun dn ndn => dc_tup (K := K) (a := it) (xs := rs.map V.ref) (fun i H4 => Same H H4 ∧ H4 dn = some (.dK (nmKV (is.take i)))) ⟨same_upd ndn, upd_same⟩ (fun i H4 _ p => p.1.tup (SqT.of hit)) ?_ ?_⟩
    · rintro i x H4 hx ⟨s4, hD⟩
      obtain ⟨hi, r, rfl, hr2, _⟩ := rows_at M.rows hx
      refine ⟨r, _, rfl, SqT.of (s4 _ _ hr2), rfl, _, _, rfl, _, _, rfl, _, _, rfl, _, _, rfl, rfl, rfl, _, rfl, _, rfl, _, Sum.inl ((is[i]).op : Int), rfl, hD, ?_, fun b o e => ?_, ?_⟩
      · unfold nmKV
        rw [List.length_map, List.length_take]
        exact small1000 (by omega)
      · rw [upd_ne (ne_of_none e ndn)]
        exact s4 b o e
      · rw [upd_same, put_fresh (fresh1 i hi), take_more (List.getElem?_eq_getElem hi)]
        unfold nmKV
        rw [List.map_append]
        rfl
    rintro H1 ⟨s1, hdn⟩
    rw [List.length_map, rl, List.take_length] at hdn
    -- the rows
    refine ⟨Nat.zero_le _, fun D nD => ?_⟩
    have sD := same_upd (o := HO.lst []) nD
    have C0 : Coll K H1 (upd H1 D (HO.lst [])) D [] (([] : List Nat).map (rowD is bs)) := ⟨sD, nD, upd_same, .nil⟩
    generalize upd H1 D (HO.lst []) = H2 at *
    have lo2 : ∀ {T H' : Hp}, Same H1 T → Same T H' → SqL K H' lo (os.map natV) := fun a b => SqL.of (b _ _ (a _ _ (s1 _ _ hlo)))
    refine ⟨_, rfl, lo, rfl, ⟨_, SqL.of (sD _ _ (s1 _ _ hlo))⟩, for_list (K := K) (a := lo) (xs := os.map natV) (fun i σ H' => ∃ T' vs, Same H1 T' ∧ Coll K T' H' D vs ((os.take i).map (rowD is bs)) ∧ ∃ y5 y6 y7 y8 y9, σ = [some (.ref p), some (.ref c), some (.ref lo), some (.ref dn), some (.ref D), y5, y6, y7, y8, y9])
      ⟨H1, [], Same.refl _, C0, _, _, _, _, _, rfl⟩ (fun i σ H' _ ⟨T', _, st, cl, _⟩ => lo2 st cl.th) ?_ ?_⟩
    · rintro i x σ H' hx ⟨T', vs, st, cl, y5, y6, y7, y8, y9, rfl⟩
      obtain ⟨o, hoi, rfl⟩ : ∃ o, os[i]? = some o ∧ natV o = x := by
        rw [List.getElem?_map] at hx
        exact Option.map_eq_some_iff.mp hx
      have hi := (List.getElem?_eq_some_iff.mp hoi).1
      obtain ⟨b, hb, hl⟩ := ho o (List.mem_of_getElem? hoi)
      have iv : atI (bs.map V.int) (o : Int) = some (.int b) := atI_nat (by rw [List.getElem?_map, hb]; rfl)
      have s0T := s1.trans st
      have s0H := s0T.trans cl.th
      have cT := s0T.tup hc
      have SA' := M.at_.same s0H
      obtain ⟨dx', d1', d2', hp', _, _⟩ := SA'.ob
      have dg : DGet H' dn (.int b) (some (.str (txt (nmOf is b)))) := by
        have z := DGet.k (k := (Sum.inl b : Key)) (cl.th _ _ (st _ _ hdn))
        rw [val_nm hl] at z
        exact z
      refine ⟨_, rfl, p, dx', _, rfl, hp', no_meth _ _ _ _, _, rfl, _, rfl, c, _, _, _, rfl, rfl, s0H.tup hc, iv, p, it, cnt, is, b, rfl, SA', ?_⟩
      refine ⟨_, rfl, .inl ⟨rfl, _, SqL.of cl.at_⟩, _, rfl, _, rfl, _, rfl, _, rfl, c, _, _, _, rfl, rfl, s0H.tup hc, iv, dn, _, rfl, dg, ?_⟩
      refine ⟨_, rfl, _, rfl, _, _, rfl, rfl, _, rfl, _, rfl, _, rfl, _, _, rfl, rfl, _, rfl, cut_x cl.th cT fun l3 H3 T3 g S3 => ?_⟩
      have e3 : cutV (bs.map V.int) (some ((o : Int) + 1)) (some ((o : Int) + (laOf is b : Int))) = (opsOf bs o (laOf is b)).map V.int := by
        rw [show (o : Int) + 1 = ((o + 1 : Nat) : Int) by omega, show (o : Int) + (laOf is b : Int) = ((o + laOf is b : Nat) : Int) by omega, cut_mid _ _ _ (by omega)]
        unfold opsOf
        rw [← List.map_drop, ← List.map_take, show o + laOf is b - (o + 1) = laOf is b - 1 by omega]
      rw [e3] at S3
      refine ⟨by show 3 ≤ sizeLine; decide, fun r nr => ?_⟩
      have g2 := g.put (HO.tup [natV o, V.str (txt (nmOf is b)), V.ref l3]) nr
      have cl2 := cl.grow g2
      have gd : bs.getD o 0 = b := by rw [List.getD_eq_getElem?_getD, hb]; rfl
      have D2 : Dx K (upd T3 r (HO.tup [natV o, V.str (txt (nmOf is b)), V.ref l3])) (.ref r) (rowD is bs o) := by
        unfold rowD
        rw [gd]
        have sr := same_upd (o := HO.tup [natV o, V.str (txt (nmOf is b)), V.ref l3]) (none_of g.th nr)
        exact .tup (SqT.of upd_same) (.cons (.int _) (.cons (.str _) (.cons (.tup (sr.tup S3) (dx_ints _)) .nil)))
      refine ⟨D, _, _, rfl, rfl, cl2.at_, ?_, _, vs ++ [V.ref r], st.trans g2.tt, ?_, _, _, _, _, _, rfl⟩
      · rw [cl.all.len, List.length_map, List.length_take, sizeLine_eq]; omega
      · rw [take_more hoi, List.map_append]
        exact cl2.push D2
    · rintro σ H' ⟨T', vs, st, cl, y5, y6, y7, y8, y9, rfl⟩
      rw [List.length_map, List.take_length] at cl
      refine ⟨_, rfl, D, _, rfl, .inl ⟨SqL.of cl.at_, fun r nr => ?_⟩⟩
      have s3 := same_upd (o := HO.tup vs) nr
      have s0 := s1.trans (st.trans cl.th)
      exact q _ r (s0.trans s3) (s0.free nr) (.tup (SqT.of upd_same) (cl.all.same (cl.th.trans s3)))
/-! ### ending -/
def spEnding (K : PySem.W.Frag) : Sp := fun vs H Q _ => ∃ (c l : Addr) (xs : List V) (begun : List Nat) (fol : Nat), vs = [.ref c, .ref l, .int (fol : Int)] ∧ SqT K H c xs ∧ H l = some (.lst (begun.map natV)) ∧ (xs.length < fol → begun ≠ []) ∧
  ∀ H' r, Same H H' → H r = none → Dx K H' (.ref r) (endD xs.length begun fol) → Q (.ref r) H'
theorem scEnding : FnScope ["code", "begun", "following"] ["code", "begun", "following"] (defScope sEnding) := ⟨rfl, rfl, rfl, by decide +kernel, rfl, by decide +kernel, by decide +kernel⟩
theorem ok_ending {f : Addr} {fd : FuncData} {k : Nat} (F : Fun K "ending" "ending" sEnding f fd) (T : Bi mg) : FnOk P w K mg base CX0 (k + 1) f fd ["code", "begun", "following"] (spEnding K) := by
  refine F.ok scEnding (fun vs H Q E h => ?_) (fun cdv A' outer s H vs Q E hr h => ?_)
  · obtain ⟨c, l, xs, begun, fol, rfl, _⟩ := h
    rfl
  · obtain ⟨c, l, xs, begun, fol, rfl, hc, hl, hne, q⟩ := h
    refine ⟨_, pss_cons (ps_if (pt_cmpR op_lt (pv 2) (pe_callB call_len_seq (by rfl) T.len PySem.boot_len (pa_cons (pv 0) pa_nil)) (nomark _)) (pss_one (ps_ret (pe_tup (pa_cons pe_str (pa_cons (pv 2) pa_nil))))) pss_nil)
      (pss_cons (ps_if (pt_cmpR op_gt (pv 2) (pe_callB call_len_seq (by rfl) T.len PySem.boot_len (pa_cons (pv 0) pa_nil)) (nomark _)) (pss_one (ps_ret (pe_tup (pa_cons pe_str (pa_cons (pe_ix ix_list (pv 1) (pe_un un_neg pe_int) (fun _ _ => rfl)) (pa_cons (pe_op op_sub (pv 2) (pe_callB call_len_seq (by rfl) T.len PySem.boot_len (pa_cons (pv 0) pa_nil))) pa_nil)))))) pss_nil)
      (pss_one (ps_ret (pe_tup (pa_cons pe_str pa_nil))))), ?_⟩
    refine ⟨_, rfl, _, rfl, c, _, rfl, .inr hc, _, _, rfl, rfl, _, rfl, ?_⟩
    by_cases h1 : (fol : Int) < (xs.length : Int)
    · rw [decide_eq_true h1]
      refine iteT ⟨_, rfl, by show 2 ≤ sizeLine; decide, fun r nr => q _ r (same_upd nr) nr ?_⟩
      unfold endD
      rw [if_pos (by omega)]
      exact .tup (SqT.of upd_same) (.cons (.str _) (.cons (.int _) .nil))
    · rw [decide_eq_false h1]
      refine iteF ⟨_, rfl, _, rfl, c, _, rfl, .inr hc, _, _, rfl, rfl, _, rfl, ?_⟩
      by_cases h2 : (xs.length : Int) < (fol : Int)
      · rw [decide_eq_true h2]
        obtain ⟨bi, la, rfl⟩ : ∃ bi la, begun = bi ++ [la] := ⟨begun.dropLast, begun.getLast (hne (by omega)), (List.dropLast_concat_getLast _).symm⟩
        have iv : atI ((bi ++ [la]).map natV) (-1) = some (natV la) := by rw [List.map_append]; exact atI_last _ _
        refine iteT ⟨_, rfl, _, rfl, l, _, _, _, rfl, rfl, SqL.of hl, iv, ?_⟩
        refine ⟨_, rfl, _, rfl, c, _, rfl, .inr hc, _, _, rfl, rfl, by show 3 ≤ sizeLine; decide, fun r nr => q _ r (same_upd nr) nr ?_⟩
        unfold endD
        rw [if_neg (by omega), if_pos (by omega), List.getLast?_concat, show (((fol - xs.length : Nat)) : Int) = (fol : Int) - (xs.length : Int) by omega]
        exact .tup (SqT.of upd_same) (.cons (.str _) (.cons (.int _) (.cons (.int _) .nil)))
      · rw [decide_eq_false h2]
        refine iteF ⟨by show 1 ≤ sizeLine; decide, fun r nr => q _ r (same_upd nr) nr ?_⟩
        unfold endD
        rw [if_neg (by omega), if_neg (by omega)]
        exact .tup (SqT.of upd_same) (.cons (.str _) .nil)
/-! ### decode -/
def spDecode (K : PySem.W.Frag) (C : Addr) : Sp := fun vs H Q _ => ∃ (p it c : Addr) (cnt lg : Nat) (is : List I4) (rs : List Addr) (bs : List Int) (e : Nat), vs = [.ref p, .ref c, .int (e : Int)] ∧ Mach C H p cnt lg it is rs ∧ SqT K H c (bs.map V.int) ∧ bs.length ≤ 100000 ∧ e ≤ bs.length ∧
  ∀ H' r begun fol, Same H H' → H r = none → Ended (laOf is) bs e begun fol → begun.length ≤ bs.length → Dx K H' (.ref r) (decD is bs begun fol) → Q (.ref r) H'
theorem scDecode : FnScope ["instruction_set", "code", "entry", "begun", "following", "complete"] ["instruction_set", "code", "entry"] (defScope sDecode) := ⟨rfl, rfl, rfl, by decide +kernel, rfl, by decide +kernel, by decide +kernel⟩
theorem ok_decode {f fC fW fR fE C : Addr} {fd fdC fdW fdR fdE : FuncData} {k : Nat} (F : FunD K "decode" "decode" (defArgs sDecode) (defBody sDecode) (defScope sDecode) [.int 0] [] f fd) (T : Bi mg)
    (Ce : Def K mg "check_entry" sCheckEntry fC fdC ["code", "entry"]) (GC : FnOk P w K mg base CX0 k fC fdC ["code", "entry"] (spCkE K))
    (Wa : Def K mg "walk" sWalk fW fdW ["instruction_set", "code", "entry"]) (GW : FnOk P w K mg base CX0 k fW fdW ["instruction_set", "code", "entry"] (spWalk K C))
    (Re : Def K mg "read_instructions" sReadI fR fdR ["instruction_set", "code", "offsets"]) (GR : FnOk P w K mg base CX0 k fR fdR ["instruction_set", "code", "offsets"] (spReadI K C))
    (En : Def K mg "ending" sEnding fE fdE ["code", "begun", "following"]) (GE : FnOk P w K mg base CX0 k fE fdE ["code", "begun", "following"] (spEnding K)) :
    FnOk P w K mg base CX0 (k + 1) f fd ["instruction_set", "code", "entry"] (spDecode K C) := by
  refine F.ok scDecode (fun vs H Q E h => ?_) (fun cdv A' outer s H vs Q E hr h => ?_)
  · obtain ⟨p, it, c, cnt, lg, is, rs, bs, e, rfl, _⟩ := h
    rfl
  · obtain ⟨p, it, c, cnt, lg, is, rs, bs, e, rfl, M, hc, hb, he, q⟩ := h
    refine ⟨_, pss_cons (ps_expr (pe_call GC hr (by rfl) Ce.gl Ce.fn.kp Ce.bi .nil pass0 (pa_cons (pv 1) (pa_cons (pv 2) pa_nil))))
      (pss_cons (ps_asg (pe_call GW hr (by rfl) Wa.gl Wa.fn.kp Wa.bi .nil pass0 (pa_cons (pv 0) (pa_cons (pv 1) (pa_cons (pv 2) pa_nil)))) (pg_tup rfl (pgs_cons (pg_name (i := 3) scDecode.nd rfl (.inl rfl)) (pgs_cons (pg_name (i := 4) scDecode.nd rfl (.inl rfl)) pgs_nil))))
      (pss_cons (ps_set (i := 5) scDecode.nd rfl (.inl rfl) (pe_ifExp (pt_cmpR op_gt (pv 4) (pe_callB call_len_seq (by rfl) T.len PySem.boot_len (pa_cons (pv 1) pa_nil)) (nomark _)) (pe_slice sl_list (pv 3) po_none (po_some (pe_un un_neg pe_int))) (pv 3)))
      (pss_one (ps_ret (pe_tup (pa_cons (pe_call GR hr (by rfl) Re.gl Re.fn.kp Re.bi .nil pass0 (pa_cons (pv 0) (pa_cons (pv 1) (pa_cons (pv 5) pa_nil)))) (pa_cons (pe_call GE hr (by rfl) En.gl En.fn.kp En.bi .nil pass0 (pa_cons (pv 1) (pa_cons (pv 3) (pa_cons (pv 4) pa_nil)))) pa_nil))))))), ?_⟩
    refine ⟨_, rfl, _, rfl, c, _, e, rfl, hc, by rw [List.length_map]; exact he, ?_⟩
    refine ⟨_, rfl, _, rfl, _, rfl, p, it, c, cnt, is, bs, e, rfl, M.at_, hc, hb, fun H1 r1 l begun fol s1 en nr1 hr1 hl bl => ?_⟩
    refine ⟨r1, _, rfl, SqT.of hr1, rfl, _, _, rfl, _, _, rfl, rfl, ?_⟩
    have hc1 := s1.tup hc
    have ne : bs.length < fol → begun ≠ [] := fun z => by
      obtain ⟨o, b, h1, _⟩ := en.last z he
      intro e
      rw [e] at h1
      cases h1
    -- what follows the choice of complete instructions
    have rest : ∀ (H2 : Hp) (lc : Addr), Same H1 H2 → H2 lc = some (.lst ((compOf bs.length begun fol).map natV)) →
        (tRet (tTup (tCons (tCall (spReadI K C) [] E0 (tCons (tVar 0) (tCons (tVar 1) (tCons (tVar 5) tNil)))) (tCons (tCall (spEnding K) [] E0 (tCons (tVar 1) (tCons (tVar 3) (tCons (tVar 4) tNil)))) tNil)))) { nx := fun _ H' => Q .non H', rt := Q } [some (.ref p), some (.ref c), some (.int (e : Int)), some (.ref l), some (.int (fol : Int)), some (.ref lc)] H2 := by
      intro H2 lc s2 hlc
      have cm : ∀ o ∈ compOf bs.length begun fol, o ∈ begun := fun o ho => by
        unfold compOf at ho
        split at ho
        · exact List.dropLast_subset _ ho
        · exact ho
      have cl : (compOf bs.length begun fol).length ≤ begun.length := by
        unfold compOf
        split
        · rw [List.length_dropLast]; omega
        · exact Nat.le_refl _
      refine ⟨_, rfl, _, rfl, _, rfl, p, it, c, lc, cnt, lg, is, rs, bs, compOf bs.length begun fol, rfl, M.same (s1.trans s2), s2.tup hc1, hlc, by omega, fun o ho => (en.lt o (cm o ho)).2, fun H3 r3 s3 nr3 D3 => ?_⟩
      refine ⟨_, rfl, _, rfl, _, rfl, c, l, _, begun, fol, rfl, s3.tup (s2.tup hc1), s3 _ _ (s2 _ _ hl), by rw [List.length_map]; exact ne, fun H4 r4 s4 nr4 D4 => ?_⟩
      rw [List.length_map] at D4
      refine ⟨by show 2 ≤ sizeLine; decide, fun r nr => ?_⟩
      have s5 := same_upd (o := HO.tup [V.ref r3, V.ref r4]) nr
      have s05 := s1.trans (s2.trans (s3.trans (s4.trans s5)))
      refine q _ r begun fol s05 ((s1.trans (s2.trans (s3.trans s4))).free nr) en bl ?_
      exact .tup (SqT.of upd_same) (.cons ((D3.same s4).same s5) (.cons (D4.same s5) .nil))
    refine ⟨_, rfl, _, rfl, c, _, rfl, .inr hc1, _, _, rfl, rfl, _, rfl, ?_⟩
    rw [List.length_map]
    by_cases h : (bs.length : Int) < (fol : Int)
    · rw [decide_eq_true h]
      refine iteT ⟨_, rfl, _, rfl, _, rfl, l, _, rfl, SqL.of hl, fun lc nlc => ?_⟩
      refine rest _ lc (same_upd nlc) ?_
      rw [upd_same, cut_but]
      unfold compOf
      rw [if_pos (by omega), List.map_dropLast]
    · rw [decide_eq_false h]
      refine iteF ⟨_, rfl, ?_⟩
      refine rest _ l (Same.refl _) ?_
      unfold compOf
      rw [if_neg (by omega)]
      exact hl
end
end Ov
namespace Ov
open PySem PySem.Spec PyProof.Rows L2
/-! ### data, read back -/
mutual
theorem Dx.dp {K : PySem.W.Frag} {H : Hp} : ∀ {v : V} {d : PyData}, Dx K H v d → d.hasDict = false → Dp K H v d
  | _, _, .non, _ => .non
  | _, _, .bl b, _ => .bl b
  | _, _, .int i, _ => .int i
  | _, _, .str x, _ => .str x
  | _, _, .dct h, z => by simp [PyData.hasDict] at z
  | _, _, .lst h a, z => .lst h (DxAll.dp a (by simpa only [PyData.hasDict] using z))
  | _, _, .tup h a, z => .tup h (DxAll.dp a (by simpa only [PyData.hasDict] using z))
theorem DxAll.dp {K : PySem.W.Frag} {H : Hp} : ∀ {vs : List V} {ds : List PyData}, DxAll K H vs ds → PyData.hasDictAll ds = false → DpAll K H vs ds
  | _, _, .nil, _ => .nil
  | _, _, .cons (ds := ds) h a, z => by
    simp only [PyData.hasDictAll, Bool.or_eq_false_iff] at z
    exact .cons (Dx.dp h z.1) (DxAll.dp a z.2)
end
theorem dx_str {K : PySem.W.Frag} {H : Hp} {v : V} {x : Str} (h : Dx K H v (.str x)) : v = .str x := by cases h; rfl
theorem dx_int {K : PySem.W.Frag} {H : Hp} {v : V} {x : Int} (h : Dx K H v (.int x)) : v = .int x := by cases h; rfl
theorem dx_oD {K : PySem.W.Frag} {H : Hp} {v : V} {o : Option Int} (h : Dx K H v (oD o)) : v = oV o := by
  cases o with
  | none => cases h; rfl
  | some b => cases h; rfl
theorem dx_opts {K : PySem.W.Frag} {H : Hp} : ∀ {os : List (Option Int)} {vs : List V}, DxAll K H vs (os.map oD) → vs = os.map oV
  | [], _, h => by cases h; rfl
  | o :: os, _, h => by
    cases h with
    | cons h a => rw [dx_oD h, dx_opts a]; rfl
theorem dx_intsI {K : PySem.W.Frag} {H : Hp} : ∀ {os : List Int} {vs : List V}, DxAll K H vs (os.map PyData.int) → vs = os.map V.int
  | [], _, h => by cases h; rfl
  | o :: os, _, h => by
    cases h with
    | cons h a => rw [dx_int h, dx_intsI a]; rfl
theorem dx_tup {K : PySem.W.Frag} {H : Hp} {v : V} {ds : List PyData} (h : Dx K H v (.tuple ds)) : ∃ a xs, v = .ref a ∧ SqT K H a xs ∧ DxAll K H xs ds := by
  cases h with
  | tup h a => exact ⟨_, _, rfl, h, a⟩
theorem dx_step {K : PySem.W.Frag} {H : Hp} {v : V} {x : PStep} (h : Dx K H v (stepD x)) : ∃ a b, v = .ref a ∧ SqT K H a [.str (txt x.1.nm), .ref b] ∧ SqT K H b (x.2.map oV) := by
  obtain ⟨a, xs, rfl, h1, a1⟩ := dx_tup h
  cases a1 with
  | cons d1 a1 =>
    cases a1 with
    | cons d2 a1 =>
      cases a1
      obtain ⟨b, ys, rfl, h2, a2⟩ := dx_tup d2
      rw [dx_str d1] at h1
      rw [dx_opts a2] at h2
      exact ⟨a, b, rfl, h1, h2⟩
theorem dx_rowD {K : PySem.W.Frag} {H : Hp} {v : V} {is : List I4} {bs : List Int} {o : Nat} (h : Dx K H v (rowD is bs o)) : ∃ a b, v = .ref a ∧ SqT K H a [natV o, .str (txt (nmOf is (bs.getD o 0))), .ref b] ∧ SqT K H b ((opsOf bs o (laOf is (bs.getD o 0))).map V.int) := by
  obtain ⟨a, xs, rfl, h1, a1⟩ := dx_tup h
  cases a1 with
  | cons d1 a1 =>
    cases a1 with
    | cons d2 a1 =>
      cases a1 with
      | cons d3 a1 =>
        cases a1
        obtain ⟨b, ys, rfl, h2, a2⟩ := dx_tup d3
        rw [dx_int d1, dx_str d2] at h1
        rw [dx_intsI a2] at h2
        exact ⟨a, b, rfl, h1, h2⟩
/-! ### the steps that a decoder executes -/
def stepAt (is : List I4) (bs : List Int) (o : Nat) : Option PStep := match is.find? (fun x => decide ((x.op : Int) = bs.getD o 0)) with
  | some x => if x.pad = true then none else some (x, (opsOf bs o x.ln).map some)
  | none => none
def stepsOf (is : List I4) (bs : List Int) (begun : List Nat) : List PStep := begun.filterMap (stepAt is bs)
def foundOf (is : List I4) (bs : List Int) (begun : List Nat) (fol : Nat) : Option (List PStep) := if fol = bs.length then some (stepsOf is bs begun) else none
def foundD : Option (List PStep) → PyData
  | none => .none
  | some gs => .tuple (gs.map stepD)
theorem nm_inj {is : List I4} (nd : (is.map I4.nm).Nodup) {x y : I4} (hx : x ∈ is) (hy : y ∈ is) (e : x.nm = y.nm) : x = y := by
  induction is with
  | nil => cases hx
  | cons z is ih =>
    rw [List.map_cons, List.nodup_cons] at nd
    rcases List.mem_cons.mp hx with rfl | hx'
    · rcases List.mem_cons.mp hy with rfl | hy'
      · rfl
      · exact absurd (List.mem_map.mpr ⟨y, hy', e.symm⟩) nd.1
    · rcases List.mem_cons.mp hy with rfl | hy'
      · exact absurd (List.mem_map.mpr ⟨x, hx', e⟩) nd.1
      · exact ih nd.2 hx' hy'
theorem step_of {is : List I4} (nd : (is.map I4.nm).Nodup) {x : I4} (hx : x ∈ is) : stepI is (txt x.nm) = if x.pad = true then none else some x := by
  cases hp : x.pad with
  | true =>
    rw [if_pos rfl]
    cases h : stepI is (txt x.nm) with
    | none => rfl
    | some y =>
      obtain ⟨y1, y2, y3⟩ := stepI_in h
      have e := nm_inj nd y1 hx (txt_inj y3)
      rw [e, hp] at y2
      cases y2
  | false =>
    rw [if_neg (by decide)]
    cases h : stepI is (txt x.nm) with
    | none =>
      unfold stepI at h
      have z := List.find?_eq_none.mp h x (List.mem_filter.mpr ⟨hx, by rw [hp]; rfl⟩)
      exact absurd (decide_eq_true rfl) z
    | some y =>
      obtain ⟨y1, y2, y3⟩ := stepI_in h
      rw [nm_inj nd y1 hx (txt_inj y3)]
theorem at_of {is : List I4} {b : Int} (h : 0 < laOf is b) : ∃ x, x ∈ is ∧ is.find? (fun x => decide ((x.op : Int) = b)) = some x ∧ laOf is b = x.ln ∧ nmOf is b = x.nm := by
  unfold laOf at h
  cases e : is.find? (fun x => decide ((x.op : Int) = b)) with
  | none => rw [e] at h; cases h
  | some x =>
    refine ⟨x, List.mem_of_find?_eq_some e, rfl, ?_, ?_⟩
    · unfold laOf; rw [e]
    · unfold nmOf; rw [e]
theorem stepAt_of {is : List I4} {bs : List Int} {o : Nat} {x : I4} (h : is.find? (fun x => decide ((x.op : Int) = bs.getD o 0)) = some x) : stepAt is bs o = if x.pad = true then none else some (x, (opsOf bs o x.ln).map some) := by
  unfold stepAt
  rw [h]
theorem opts_some (os : List Int) : (os.map some).map oD = os.map PyData.int := by rw [List.map_map]; rfl
theorem optv_some (os : List Int) : (os.map some).map oV = os.map V.int := by rw [List.map_map]; rfl
section
variable {P : Program} {w : World} {K : PySem.W.Frag} {mg : Str → Option Value} {base : Heap}
/-! ### executed -/
def endComplete : PyData := .tuple [.str "complete"]
theorem end_ne (n : Nat) (begun : List Nat) (fol : Nat) : PyData.eqv (endD n begun fol) endComplete = decide (fol = n) := by
  unfold endD endComplete
  by_cases h1 : fol < n
  · rw [if_pos h1, decide_eq_false (by omega)]
    simp [PyData.eqv, PyData.eqvAll]
  · rw [if_neg h1]
    by_cases h2 : n < fol
    · rw [if_pos h2, decide_eq_false (by omega)]
      simp [PyData.eqv, PyData.eqvAll]
    · rw [if_neg h2, decide_eq_true (by omega)]
      simp [PyData.eqv, PyData.eqvAll]
theorem end_shaped (n : Nat) (begun : List Nat) (fol : Nat) : SeqAt.shaped (endD n begun fol) = true ∧ (endD n begun fol).hasDict = false := by
  have sh : ∀ (x : Str) (ds : List PyData), PyData.strOk x = true → PyData.canLayAll0 ds = true → PyData.depthAll ds ≤ 1 → SeqAt.shaped (.tuple (.str x :: ds)) = true := fun x ds h1 h2 h3 => by
    refine Bool.and_eq_true_iff.mpr ⟨?_, decide_eq_true ?_⟩
    · simp only [PyData.canLay0, PyData.canLayAll0]
      rw [h1, h2]
      rfl
    · simp only [PyData.depth, PyData.depthAll]
      omega
  unfold endD
  split
  · exact ⟨sh _ _ (by decide +kernel) (by simp [PyData.canLayAll0, PyData.canLay0]) (by simp [PyData.depthAll, PyData.depth]), rfl⟩
  · split
    · exact ⟨sh _ _ (by decide +kernel) (by simp [PyData.canLayAll0, PyData.canLay0]) (by simp [PyData.depthAll, PyData.depth]), rfl⟩
    · exact ⟨sh _ _ (by decide +kernel) (by simp [PyData.canLayAll0, PyData.canLay0]) (by simp [PyData.depthAll, PyData.depth]), rfl⟩
def spExec (K : PySem.W.Frag) (C : Addr) : Sp := fun vs H Q _ => ∃ (p it c : Addr) (cnt lg : Nat) (is : List I4) (rs : List Addr) (bs : List Int) (e : Nat), vs = [.ref p, .ref c, .int (e : Int)] ∧ Mach C H p cnt lg it is rs ∧ SqT K H c (bs.map V.int) ∧ bs.length ≤ 100000 ∧ e ≤ bs.length ∧
  ∀ H' v begun fol, Same H H' → Ended (laOf is) bs e begun fol → begun.length ≤ bs.length → Dx K H' v (foundD (foundOf is bs begun fol)) → Q v H'
abbrev nExec : List Str := ["instruction_set", "code", "entry", "read", "ending", "lengths", "offset", "name", "operands"]
theorem scExec : FnScope nExec ["instruction_set", "code", "entry"] (defScope s_executed) := ⟨rfl, rfl, rfl, by decide +kernel, rfl, by decide +kernel, by decide +kernel⟩
theorem ok_exec {f fD fL C : Addr} {fdD fdL : FuncData} {fd : FuncData} {k : Nat} (F : FunD K "executed" "executed" (defArgs s_executed) (defBody s_executed) (defScope s_executed) [.int 0] [] f fd) (T : Bi mg)
    (gD : mg "decode" = some (.ref fD)) (kD : PySem.W.keepIn K (.ref fD) = true) (bD : Binds K fdD ["instruction_set", "code", "entry"] []) (GD : FnOk P w K mg base CX0 k fD fdD ["instruction_set", "code", "entry"] (spDecode K C))
    (Sl : Def K mg "step_lengths" s_step_lengths fL fdL ["instruction_set"]) (GSl : FnOk P w K mg base CX0 k fL fdL ["instruction_set"] (spStepL C)) :
    FnOk P w K mg base CX0 (k + 1) f fd ["instruction_set", "code", "entry"] (spExec K C) := by
  refine F.ok scExec (fun vs H Q E h => ?_) (fun cdv A' outer s H vs Q E hr h => ?_)
  · obtain ⟨p, it, c, cnt, lg, is, rs, bs, e, rfl, _⟩ := h
    rfl
  · obtain ⟨p, it, c, cnt, lg, is, rs, bs, e, rfl, M, hc, hb, he, q⟩ := h
    refine ⟨_, pss_cons (ps_asg (pe_call GD hr (by rfl) gD kD bD .nil pass0 (pa_cons (pv 0) (pa_cons (pv 1) (pa_cons (pv 2) pa_nil)))) (pg_tup rfl (pgs_cons (pg_name (i := 3) scExec.nd rfl (.inl rfl)) (pgs_cons (pg_name (i := 4) scExec.nd rfl (.inl rfl)) pgs_nil))))
      (pss_cons (ps_if (pt_cmpR (op_neD hr.units) (pv 4) (pe_tup (pa_cons pe_str pa_nil)) (nomark _)) (pss_one (ps_ret pe_non)) pss_nil)
      (pss_cons (ps_set (i := 5) scExec.nd rfl (.inr rfl) (pe_call GSl hr (by rfl) Sl.gl Sl.fn.kp Sl.bi .nil pass0 (pa_cons (pv 0) pa_nil)))
      (pss_one (ps_ret (pe_callTy call_tuple_of (by rfl) T.tuple (by decide +kernel) (pa_cons
        (pe_lc (own := [("offset", 6), ("name", 7), ("operands", 8)]) (g := gTup K 3 (gCons (gName 6) (gCons (gName 7) (gCons (gName 8) gNil)))) (by rfl) scExec.nd (pi_tup (pv 3))
          (blkOk_by (own := [("offset", 6), ("name", 7), ("operands", 8)]) (N := nExec) (sc := defScope s_executed) (by decide +kernel))
          (fun _ _ _ _ _ => pg_tup rfl (pgs_cons (pg_name (i := 6) scExec.nd rfl (Or.inl rfl)) (pgs_cons (pg_name (i := 7) scExec.nd rfl (Or.inl rfl)) (pgs_cons (pg_name (i := 8) scExec.nd rfl (Or.inl rfl)) pgs_nil))))
          (fun _ _ _ _ _ => pts_one (pt_cmp (pc_din (hu_of hr) (pv 7) (pv 5)))) (fun _ _ _ _ _ => pe_tup (pa_cons (pv 7) (pa_cons (pv 8) pa_nil)))) pa_nil)))))), ?_⟩
    have few := M.ok.few
    refine ⟨_, rfl, _, rfl, _, rfl, p, it, c, cnt, lg, is, rs, bs, e, rfl, M, hc, hb, he, fun H1 r begun fol s1 nr en bl D => ?_⟩
    obtain ⟨a, xs, ea, ha, Da⟩ := dx_tup D
    cases ea
    cases Da with
    | @cons v1 _ _ _ d1 Da =>
    cases Da with
    | @cons v2 _ _ _ d2 Da =>
    cases Da
    obtain ⟨a1, rws, rfl, h1, A1⟩ := dx_tup d1
    refine ⟨r, _, rfl, ha, rfl, _, _, rfl, _, _, rfl, rfl, ?_⟩
    have es := end_shaped bs.length begun fol
    refine ⟨_, rfl, by show 1 ≤ sizeLine; decide, fun l nl => ?_⟩
    have s2 := same_upd (o := HO.tup [V.str "complete"]) nl
    refine ⟨_, endComplete, (d2.same s2).dp es.2, .tup (SqT.of upd_same) (.cons (.str _) .nil), es.1, (end_shaped 0 [] 0).1, _, rfl, ?_⟩
    rw [end_ne]
    generalize upd H1 l (HO.tup [V.str "complete"]) = H2 at *
    have s02 := s1.trans s2
    by_cases hf : fol = bs.length
    · rw [decide_eq_true hf]
      have ec : compOf bs.length begun fol = begun := by unfold compOf; rw [if_neg (by omega)]
      rw [ec] at A1
      have ef : foundOf is bs begun fol = some (stepsOf is bs begun) := if_pos hf
      refine iteF ⟨_, rfl, p, it, cnt, lg, is, rs, rfl, M.same s02, fun H3 L s3 nL hL => ?_⟩
      have h13 := (s2.trans s3).tup h1
      have A13 := A1.same (s2.trans s3)
      refine ⟨_, rfl, a1, rfl, ⟨_, h13⟩, fun D nD => lc_tup (K := K) (a := a1) (xs := rws) (fun i G => ∃ T' vs, Same H3 T' ∧ Coll K T' G D vs (((begun.take i).filterMap (stepAt is bs)).map stepD)) ?_ (fun i G _ ⟨T', vs, st, cl⟩ => (st.trans cl.th).tup h13) ?_ ?_⟩
      · exact ⟨H3, [], Same.refl _, ⟨same_upd nD, nD, upd_same, .nil⟩⟩
      · rintro i x G hx ⟨T', vs, st, cl⟩
        obtain ⟨d, hd, Dd⟩ := A13.at hx
        rw [List.getElem?_map] at hd
        obtain ⟨o, ho, rfl⟩ := Option.map_eq_some_iff.mp hd
        obtain ⟨_, b, hbo, hlb⟩ := en.lt o (List.mem_of_getElem? ho)
        have gd : bs.getD o 0 = b := by rw [List.getD_eq_getElem?_getD, hbo]; rfl
        obtain ⟨y, yin, hy, ely, eny⟩ := at_of hlb
        have sA := stepAt_of (bs := bs) (o := o) (x := y) (by rw [gd]; exact hy)
        obtain ⟨a2, b2, rfl, q1, q2⟩ := dx_rowD (Dd.same st)
        rw [gd, eny] at q1
        rw [gd, ely] at q2
        refine ⟨a2, _, rfl, cl.th.tup q1, rfl, _, _, rfl, _, _, rfl, _, _, rfl, rfl, rfl, _, rfl, _, rfl, L, _, rfl, DGet.k (k := Sum.inr (txt y.nm)) (cl.th _ _ (st _ _ hL)), _, rfl, ?_⟩
        rw [take_more ho, List.filterMap_append, List.filterMap_cons, List.filterMap_nil, sA, val_step, step_of M.ok.nd yin]
        have vl : vs.length ≤ 100000 := by
          rw [cl.all.len, List.length_map]
          refine Nat.le_trans (List.length_filterMap_le _ _) ?_
          rw [List.length_take]
          omega
        cases hp : y.pad with
        | true =>
          rw [if_pos rfl]
          refine iteF ⟨T', vs, st, ?_⟩
          rw [List.append_nil]
          exact cl
        | false =>
          rw [if_neg (by decide)]
          refine iteT ⟨_, rfl, _, rfl, by show 2 ≤ sizeLine; decide, fun t nt => ?_⟩
          have g := (Grow.refl cl.th).put (HO.tup [V.str (txt y.nm), V.ref b2]) nt
          have cl2 := cl.grow g
          refine ⟨vs, cl2.at_, by rw [sizeLine_eq]; omega, _, vs ++ [V.ref t], st.trans g.tt, ?_⟩
          rw [List.map_append]
          refine cl2.push (.tup (SqT.of upd_same) (.cons (.str _) (.cons (.tup (g.tt.tup q2) ?_) .nil)))
          rw [opts_some]
          exact dx_ints _
      · rintro G ⟨T', vs, st, cl⟩
        have rl : rws.length = begun.length := by rw [A1.len, List.length_map]
        rw [rl, List.take_length] at cl
        refine ⟨D, _, rfl, .inl ⟨SqL.of cl.at_, fun r2 nr2 => ?_⟩⟩
        have s5 := same_upd (o := HO.tup vs) nr2
        refine q _ _ begun fol (s02.trans (s3.trans (st.trans (cl.th.trans s5)))) en bl ?_
        rw [ef]
        exact .tup (SqT.of upd_same) (cl.all.same (cl.th.trans s5))
    · rw [decide_eq_false hf]
      refine iteT (q H2 _ begun fol s02 en bl ?_)
      unfold foundOf
      rw [if_neg hf]
      exact .non
end
end Ov
namespace Ov
open PySem PySem.Spec PyProof.Rows L2
/-! ### steps beside wanted ones -/
def optFit : Option Int → Option Int → Bool
  | none, _ => true
  | some b, g => decide (some b = g)
def stepFit (w g : PStep) : Bool := decide (txt g.1.nm = txt w.1.nm) && (g.2.zip w.2).all fun q => optFit q.2 q.1
def fits : Option (List PStep) → List PStep → Bool
  | none, _ => false
  | some gs, ps => decide (gs.length = ps.length) && (gs.zip ps).all fun q => stepFit q.2 q.1
theorem optFit_some (b : Int) (g : Option Int) : optFit (some b) g = decide (some b = g) := rfl
theorem fits_some (gs ps : List PStep) : fits (some gs) ps = (decide (gs.length = ps.length) && (gs.zip ps).all fun q => stepFit q.2 q.1) := rfl
theorem opt_fit {b : Int} {o : Int} : decide (V.int b = V.int o) = optFit (some b) (some o) := by
  rw [optFit_some]
  by_cases h : b = o
  · subst h; simp
  · rw [decide_eq_false (fun z => h (V.int.inj z)), decide_eq_false (fun z => h (Option.some.inj z))]
theorem stepOk_prog {cnt lg : Nat} {is : List I4} (ok : TabOk cnt lg is) {x : PStep} (h : StepOk cnt is x) : isStepD cnt is (stepD x) = true := by
  have e : isStepD cnt is (stepD x) = isOps cnt x.1.ln (.tuple (x.2.map oD)) := by
    have z := step_of ok.nd h.mem
    rw [h.pad, if_neg (by decide)] at z
    simp [stepD, isStepD, isNm, z]
  have e2 : isOps cnt x.1.ln (.tuple (x.2.map oD)) = (decide ((x.2.map oD).length + 1 = x.1.ln) && (x.2.map oD).all (opOk cnt)) := by simp [isOps]
  rw [e, e2, List.length_map, decide_eq_true h.len, Bool.true_and, List.all_eq_true]
  intro d hd
  obtain ⟨o, ho, rfl⟩ := List.mem_map.mp hd
  cases o with
  | none => rfl
  | some b =>
    have := h.low b ho
    show btw 0 ((cnt : Int) - 1) (.int b) = true
    unfold btw
    simp only [Bool.and_eq_true, decide_eq_true_eq]
    omega
theorem plan_prog {cnt lg : Nat} {is : List I4} (ok : TabOk cnt lg is) {ps : List PStep} (h : ∀ x ∈ ps, StepOk cnt is x) (l : ps.length ≤ 12) : isProgD cnt is (.tuple (ps.map stepD)) = true := by
  have e : isProgD cnt is (.tuple (ps.map stepD)) = (decide ((ps.map stepD).length ≤ 12) && (ps.map stepD).all (isStepD cnt is)) := by simp [isProgD]
  rw [e, List.length_map, decide_eq_true l, Bool.true_and, List.all_eq_true]
  intro d hd
  obtain ⟨x, hx, rfl⟩ := List.mem_map.mp hd
  exact stepOk_prog ok (h x hx)
theorem steps_some {is : List I4} {bs : List Int} {begun : List Nat} {g : PStep} (h : g ∈ stepsOf is bs begun) : ∃ os : List Int, g.2 = os.map some := by
  obtain ⟨o, _, e⟩ := List.mem_filterMap.mp h
  unfold stepAt at e
  split at e
  · split at e
    · cases e
    · cases e
      exact ⟨_, rfl⟩
  · cases e
section
variable {P : Program} {w : World} {K : PySem.W.Frag} {mg : Str → Option Value} {base : Heap}
/-! ### is_match -/
def spMatch (K : PySem.W.Frag) : Sp := fun vs H Q _ => ∃ (v1 v2 : V) (x : I4) (os : List Int) (y : PStep), vs = [v1, v2] ∧ Dx K H v1 (stepD (x, os.map some)) ∧ Dx K H v2 (stepD y) ∧ os.length ≤ 1000 ∧ ∀ H', Same H H' → Q (.bl (stepFit y (x, os.map some))) H'
abbrev nMatch : List Str := ["step", "wanted", "name", "operands", "wanted_name", "wanted_operands", "byte", "item"]
theorem scMatch : FnScope nMatch ["step", "wanted"] (defScope s_is_match) := ⟨rfl, rfl, rfl, by decide +kernel, rfl, by decide +kernel, by decide +kernel⟩
theorem ok_match {f : Addr} {fd : FuncData} {k : Nat} (F : Fun K "is_match" "is_match" s_is_match f fd) (T : Bi mg) : FnOk P w K mg base CX0 (k + 1) f fd ["step", "wanted"] (spMatch K) := by
  refine F.ok scMatch (fun vs H Q E h => ?_) (fun cdv A' outer s H vs Q E hr h => ?_)
  · obtain ⟨v1, v2, x, os, y, rfl, _⟩ := h
    rfl
  · obtain ⟨v1, v2, x, os, y, rfl, D1, D2, ol, q⟩ := h
    refine ⟨_, pss_cons (ps_asg (pv 0) (pg_tup rfl (pgs_cons (pg_name (i := 2) scMatch.nd rfl (.inl rfl)) (pgs_cons (pg_name (i := 3) scMatch.nd rfl (.inl rfl)) pgs_nil))))
      (pss_cons (ps_asg (pv 1) (pg_tup rfl (pgs_cons (pg_name (i := 4) scMatch.nd rfl (.inl rfl)) (pgs_cons (pg_name (i := 5) scMatch.nd rfl (.inl rfl)) pgs_nil))))
      (pss_cons (ps_if (pt_cmpR op_ne (pv 2) (pv 4) (nomark _)) (pss_one (ps_ret pe_bl)) pss_nil)
      (pss_one (ps_ret (pe_callB (cr_all rfl) (by rfl) T.all (by decide +kernel) (pa_cons
        (pe_lc (own := [("byte", 6), ("item", 7)]) (g := gTup K 2 (gCons (gName 6) (gCons (gName 7) gNil))) (tt := tYes) (by rfl) scMatch.nd (RZ.pi_zipA (by rfl) T.zip (pa_cons (pv 3) (pa_cons (pv 5) pa_nil)))
          (blkOk_by (own := [("byte", 6), ("item", 7)]) (N := nMatch) (sc := defScope s_is_match) (by decide +kernel))
          (fun _ _ _ _ _ => pg_tup rfl (pgs_cons (pg_name (i := 6) scMatch.nd rfl (Or.inl rfl)) (pgs_cons (pg_name (i := 7) scMatch.nd rfl (Or.inl rfl)) pgs_nil)))
          (fun _ _ _ _ _ => pts_nil) (fun _ _ _ _ _ => pe_or (pe_cmpR op_isN (pv 7) pe_non (nomark _)) (pe_one (pe_cmpR op_eq (pv 7) (pv 6) (nomark _))))) pa_nil)))))), ?_⟩
    obtain ⟨a1, b1, rfl, h1, g1⟩ := dx_step D1
    obtain ⟨a2, b2, rfl, h2, g2⟩ := dx_step D2
    rw [optv_some] at g1
    refine ⟨_, rfl, a1, _, rfl, h1, rfl, _, _, rfl, _, _, rfl, rfl, _, rfl, a2, _, rfl, h2, rfl, _, _, rfl, _, _, rfl, rfl, ?_⟩
    refine ⟨_, rfl, _, rfl, rfl, _, rfl, ?_⟩
    have q0 := q H (Same.refl _)
    by_cases hn : txt x.nm = txt y.1.nm
    · rw [decide_eq_true (congrArg V.str hn)]
      refine iteF ⟨_, rfl, _, rfl, b1, b2, _, _, rfl, .inr ⟨g1, g2, fun D nD => lc_it (walk_zipT (xs := os.map V.int) (ys := y.2.map oV) rfl) (fun i G => Mk H G D (((((os.map some).zip y.2).take i).map fun q => optFit q.2 q.1).map V.bl)) (.start nD) (fun i G _ p => ⟨p.same.tup g1, p.same.tup g2⟩) (fun i v G G' hi p yy => ?_) (fun G p => ?_)⟩⟩
      · obtain ⟨t, x1, x2, rfl, nt, rfl, f1, f2⟩ := yy
        have f1' : (os.map V.int)[i]? = some x1 := f1
        have f2' : (y.2.map oV)[i]? = some x2 := f2
        rw [List.getElem?_map] at f1' f2'
        obtain ⟨b, hb, rfl⟩ := Option.map_eq_some_iff.mp f1'
        obtain ⟨o, ho, rfl⟩ := Option.map_eq_some_iff.mp f2'
        have hz : ((os.map some).zip y.2)[i]? = some (some b, o) := by
          rw [List.getElem?_zip_eq_some]
          exact ⟨by rw [List.getElem?_map, hb]; rfl, ho⟩
        have i1 : i < os.length := (List.getElem?_eq_some_iff.mp hb).1
        have st := same_upd (o := HO.tup [V.int b, oV o]) nt
        have fin : ∀ bb : Bool, bb = optFit o (some b) → ∃ acc, upd G t (HO.tup [V.int b, oV o]) D = some (.lst acc) ∧ acc.length < sizeLine ∧ Mk H (upd (upd G t (HO.tup [V.int b, oV o])) D (.lst (acc ++ [V.bl bb]))) D (((((os.map some).zip y.2).take (i + 1)).map fun q => optFit q.2 q.1).map V.bl) := fun bb e => by
          subst e
          refine ⟨_, st _ _ p.at_, by rw [List.length_map, List.length_map, List.length_take]; exact small1000 (by omega), ?_⟩
          rw [take_more hz, List.map_append, List.map_append]
          exact p.put st
        refine ⟨t, _, rfl, SqT.of upd_same, rfl, _, _, rfl, _, _, rfl, rfl, rfl, _, rfl, rfl, _, rfl, ?_⟩
        cases o with
        | none => exact iteT (fin true rfl)
        | some z =>
          refine iteF ⟨_, rfl, _, rfl, rfl, ?_⟩
          exact fin _ opt_fit
      · refine ⟨D, _, rfl, .inl (.inl p.at_), ?_⟩
        have z := q G p.same
        unfold stepFit at z
        rw [decide_eq_true hn, Bool.true_and] at z
        rw [show min (os.map V.int).length (y.2.map oV).length = ((os.map some).zip y.2).length by rw [List.length_zip, List.length_map, List.length_map, List.length_map], List.take_length, List.all_map]
        exact z
    · rw [decide_eq_false (fun z => hn (V.str.inj z))]
      refine iteT ?_
      unfold stepFit at q0
      rw [decide_eq_false hn, Bool.false_and] at q0
      exact q0
/-! ### check_program, where the value is a program -/
def spCkP (K : PySem.W.Frag) (C : Addr) : Sp := fun vs H Q _ => ∃ (p it : Addr) (cnt lg : Nat) (is : List I4) (rs : List Addr) (v : V) (d : PyData), vs = [.ref p, v] ∧ Mach C H p cnt lg it is rs ∧ Dx K H v d ∧ isProgD cnt is d = true ∧ ∀ H', Same H H' → Q .non H'
theorem scCkP : FnScope ["instruction_set", "program"] ["instruction_set", "program"] (defScope s_check_program) := ⟨rfl, rfl, rfl, by decide +kernel, rfl, by decide +kernel, by decide +kernel⟩
theorem ok_ckP {f fP C : Addr} {fd fdP : FuncData} {k : Nat} (F : Fun K "check_program" "check_program" s_check_program f fd)
    (Pr : Def K mg "is_program" s_is_program fP fdP ["instruction_set", "value"]) (GP : FnOk P w K mg base CX0 k fP fdP ["instruction_set", "value"] (spProg K C)) : FnOk P w K mg base CX0 (k + 1) f fd ["instruction_set", "program"] (spCkP K C) := by
  refine F.ok scCkP (fun vs H Q E h => ?_) (fun cdv A' outer s H vs Q E hr h => ?_)
  · obtain ⟨p, it, cnt, lg, is, rs, v, d, rfl, _⟩ := h
    rfl
  · obtain ⟨p, it, cnt, lg, is, rs, v, d, rfl, M, D, ok, q⟩ := h
    refine ⟨_, pss_one (ps_if (pt_not (pt_val (pe_call GP hr (by rfl) Pr.gl Pr.fn.kp Pr.bi .nil pass0 (pa_cons (pv 0) (pa_cons (pv 1) pa_nil))))) (pss_one ps_never) pss_nil), ?_⟩
    refine ⟨_, rfl, _, rfl, p, it, cnt, lg, is, rs, v, d, rfl, M, D, fun H' s' => ?_⟩
    rw [ok]
    exact ⟨_, rfl, iteF (q H' s')⟩
/-! ### runs -/
def spRuns (K : PySem.W.Frag) (C : Addr) : Sp := fun vs H Q _ => ∃ (p it c : Addr) (cnt lg : Nat) (is : List I4) (rs : List Addr) (bs : List Int) (e : Nat) (v : V) (ps : List PStep), vs = [.ref p, .ref c, .int (e : Int), v] ∧ Mach C H p cnt lg it is rs ∧ SqT K H c (bs.map V.int) ∧ bs.length ≤ 1000 ∧ e ≤ bs.length ∧
  Dx K H v (.tuple (ps.map stepD)) ∧ (∀ x ∈ ps, StepOk cnt is x) ∧ ps.length ≤ 12 ∧ ∀ H' begun fol, Same H H' → Ended (laOf is) bs e begun fol → begun.length ≤ bs.length → Q (.bl (fits (foundOf is bs begun fol) ps)) H'
abbrev nRuns : List Str := ["instruction_set", "code", "entry", "program", "steps", "step", "wanted"]
theorem scRuns : FnScope nRuns ["instruction_set", "code", "entry", "program"] (defScope s_runs) := ⟨rfl, rfl, rfl, by decide +kernel, rfl, by decide +kernel, by decide +kernel⟩
theorem ok_runs {f fC fP fE fM C : Addr} {fd fdC fdP fdE fdM : FuncData} {k : Nat} (F : Fun K "runs" "runs" s_runs f fd) (T : Bi mg)
    (Ce : Def K mg "check_entry" sCheckEntry fC fdC ["code", "entry"]) (GC : FnOk P w K mg base CX0 k fC fdC ["code", "entry"] (spCkE K))
    (Cp : Def K mg "check_program" s_check_program fP fdP ["instruction_set", "program"]) (GP : FnOk P w K mg base CX0 k fP fdP ["instruction_set", "program"] (spCkP K C))
    (gE : mg "executed" = some (.ref fE)) (kE : PySem.W.keepIn K (.ref fE) = true) (bE : Binds K fdE ["instruction_set", "code", "entry"] []) (GE : FnOk P w K mg base CX0 k fE fdE ["instruction_set", "code", "entry"] (spExec K C))
    (Ma : Def K mg "is_match" s_is_match fM fdM ["step", "wanted"]) (GM : FnOk P w K mg base CX0 k fM fdM ["step", "wanted"] (spMatch K)) :
    FnOk P w K mg base CX0 (k + 1) f fd ["instruction_set", "code", "entry", "program"] (spRuns K C) := by
  refine F.ok scRuns (fun vs H Q E h => ?_) (fun cdv A' outer s H vs Q E hr h => ?_)
  · obtain ⟨p, it, c, cnt, lg, is, rs, bs, e, v, ps, rfl, _⟩ := h
    rfl
  · obtain ⟨p, it, c, cnt, lg, is, rs, bs, e, v, ps, rfl, M, hc, hb, he, D, pok, pl, q⟩ := h
    refine ⟨_, pss_cons (ps_expr (pe_call GC hr (by rfl) Ce.gl Ce.fn.kp Ce.bi .nil pass0 (pa_cons (pv 1) (pa_cons (pv 2) pa_nil))))
      (pss_cons (ps_expr (pe_call GP hr (by rfl) Cp.gl Cp.fn.kp Cp.bi .nil pass0 (pa_cons (pv 0) (pa_cons (pv 3) pa_nil))))
      (pss_cons (ps_set (i := 4) scRuns.nd rfl (.inl rfl) (pe_call GE hr (by rfl) gE kE bE .nil pass0 (pa_cons (pv 0) (pa_cons (pv 1) (pa_cons (pv 2) pa_nil)))))
      (pss_cons (ps_if (PW.pt (pw_or (pt_cmpR op_isN (pv 4) pe_non (nomark _)) (pw_or1 (pt_cmpR op_ne (pe_callB call_len_seq (by rfl) T.len PySem.boot_len (pa_cons (pv 4) pa_nil)) (pe_callB call_len_seq (by rfl) T.len PySem.boot_len (pa_cons (pv 3) pa_nil)) (nomark _))))) (pss_one (ps_ret pe_bl)) pss_nil)
      (pss_one (ps_ret (pe_callB (cr_all rfl) (by rfl) T.all (by decide +kernel) (pa_cons
        (pe_lc (own := [("step", 5), ("wanted", 6)]) (g := gTup K 2 (gCons (gName 5) (gCons (gName 6) gNil))) (tt := tYes) (by rfl) scRuns.nd (RZ.pi_zipA (by rfl) T.zip (pa_cons (pv 4) (pa_cons (pv 3) pa_nil)))
          (blkOk_by (own := [("step", 5), ("wanted", 6)]) (N := nRuns) (sc := defScope s_runs) (by decide +kernel))
          (fun _ _ _ _ _ => pg_tup rfl (pgs_cons (pg_name (i := 5) scRuns.nd rfl (Or.inl rfl)) (pgs_cons (pg_name (i := 6) scRuns.nd rfl (Or.inl rfl)) pgs_nil)))
          (fun _ _ _ _ _ => pts_nil) (fun _ _ _ _ _ => pe_call GM hr (by rfl) Ma.gl Ma.fn.kp Ma.bi .nil pass0 (pa_cons (pv 5) (pa_cons (pv 6) pa_nil)))) pa_nil))))))), ?_⟩
    refine ⟨_, rfl, _, rfl, c, _, e, rfl, hc, by rw [List.length_map]; exact he, ?_⟩
    refine ⟨_, rfl, _, rfl, p, it, cnt, lg, is, rs, v, _, rfl, M, D, plan_prog M.ok pok pl, fun H1 s1 => ?_⟩
    refine ⟨_, rfl, _, rfl, _, rfl, p, it, c, cnt, lg, is, rs, bs, e, rfl, M.same s1, s1.tup hc, by omega, he, fun H2 u begun fol s2 en bl Du => ?_⟩
    have s02 := s1.trans s2
    obtain ⟨a, xs, rfl, ha, Da⟩ := dx_tup (D.same s02)
    refine ⟨_, rfl, rfl, _, rfl, ?_⟩
    have q2 := q H2 begun fol s02 en bl
    cases hf : foundOf is bs begun fol with
    | none =>
      rw [hf] at Du q2
      cases Du
      exact iteT q2
    | some gs =>
      rw [hf] at Du
      have gsome : ∀ g ∈ gs, ∃ os : List Int, g.2 = os.map some := fun g hg => by
        unfold foundOf at hf
        split at hf
        · cases hf
          exact steps_some hg
        · cases hf
      have gshort : ∀ g ∈ gs, g.2.length ≤ 1000 := fun g hg => by
        unfold foundOf at hf
        split at hf
        · cases hf
          obtain ⟨o, _, e⟩ := List.mem_filterMap.mp hg
          unfold stepAt at e
          split at e
          · split at e
            · cases e
            · cases e
              show ((opsOf bs o _).map some).length ≤ 1000
              unfold opsOf
              rw [List.length_map, List.length_take, List.length_drop]
              omega
          · cases e
        · cases hf
      obtain ⟨b, ys, rfl, hb2, Db⟩ := dx_tup Du
      refine iteF ⟨_, rfl, b, _, rfl, .inr hb2, _, rfl, a, _, rfl, .inr ha, rfl, _, rfl, ?_⟩
      have ly : ys.length = gs.length := by rw [Db.len, List.length_map]
      have lx : xs.length = ps.length := by rw [Da.len, List.length_map]
      by_cases hl : gs.length = ps.length
      · rw [decide_eq_true (show V.int (ys.length : Int) = V.int (xs.length : Int) by rw [ly, lx, hl])]
        refine iteF ⟨_, rfl, _, rfl, b, a, _, _, rfl, .inr ⟨hb2, ha, fun D nD => lc_it (walk_zipT (xs := ys) (ys := xs) rfl) (fun i G => Mk H2 G D ((((gs.zip ps).take i).map fun q => stepFit q.2 q.1).map V.bl)) (.start nD) (fun i G _ p => ⟨p.same.tup hb2, p.same.tup ha⟩) (fun i v G G' hi p yy => ?_) (fun G p => ?_)⟩⟩
        · obtain ⟨t, x1, x2, rfl, nt, rfl, f1, f2⟩ := yy
          have f1' : ys[i]? = some x1 := f1
          have f2' : xs[i]? = some x2 := f2
          obtain ⟨d1, hd1, D1⟩ := Db.at f1'
          obtain ⟨d2, hd2, D2⟩ := Da.at f2'
          rw [List.getElem?_map] at hd1 hd2
          obtain ⟨g, hg, rfl⟩ := Option.map_eq_some_iff.mp hd1
          obtain ⟨y, hy, rfl⟩ := Option.map_eq_some_iff.mp hd2
          have hz : (gs.zip ps)[i]? = some (g, y) := by
            rw [List.getElem?_zip_eq_some]
            exact ⟨hg, hy⟩
          have gm := List.mem_of_getElem? hg
          obtain ⟨os, eos⟩ := gsome g gm
          have ol := gshort g gm
          have eg : g = (g.1, os.map some) := by rw [← eos]
          rw [eos, List.length_map] at ol
          have i1 : i < ps.length := (List.getElem?_eq_some_iff.mp hy).1
          have st := same_upd (o := HO.tup [x1, x2]) nt
          have sp := p.same.trans st
          refine ⟨t, _, rfl, SqT.of upd_same, rfl, _, _, rfl, _, _, rfl, rfl, rfl, _, rfl, _, rfl, x1, x2, g.1, os, y, rfl, eg ▸ D1.same sp, D2.same sp, ol, fun G3 s3 => ?_⟩
          refine ⟨_, s3 _ _ (st _ _ p.at_), by rw [List.length_map, List.length_map, List.length_take]; exact small1000 (by omega), ?_⟩
          rw [take_more hz, List.map_append, List.map_append, ← eg]
          exact p.put (st.trans s3)
        · refine ⟨D, _, rfl, .inl (.inl p.at_), ?_⟩
          have z := q G begun fol (s02.trans p.same) en bl
          rw [hf] at z
          rw [fits_some, decide_eq_true hl, Bool.true_and] at z
          rw [show min ys.length xs.length = (gs.zip ps).length by rw [List.length_zip, ly, lx], List.take_length, List.all_map]
          exact z
      · rw [decide_eq_false (show ¬ V.int (ys.length : Int) = V.int (xs.length : Int) from fun z => hl (by have := V.int.inj z; omega))]
        refine iteT ?_
        rw [hf] at q2
        rw [fits_some, decide_eq_false hl, Bool.false_and] at q2
        exact q2
end
end Ov
namespace Ov
open PySem PySem.Spec PyProof.Rows L2
/-! ### programs and entries that an overlay is asked for -/
def planD (ps : List PStep) : PyData := .tuple (ps.map stepD)
/-- so many programs, each of so many steps that the set knows -/
structure Plns (cnt : Nat) (is : List I4) (pss : List (List PStep)) : Prop where
  one : 1 ≤ pss.length
  few : pss.length ≤ 3
  ok : ∀ ps ∈ pss, ps.length ≤ 12 ∧ ∀ x ∈ ps, StepOk cnt is x
section
variable {P : Program} {w : World} {K : PySem.W.Frag} {mg : Str → Option Value} {base : Heap}
/-! ### check_programs -/
def spCkPs (K : PySem.W.Frag) (C : Addr) : Sp := fun vs H Q _ => ∃ (p it l : Addr) (cnt lg : Nat) (is : List I4) (rs : List Addr) (xs : List V) (pss : List (List PStep)), vs = [.ref p, .ref l] ∧ Mach C H p cnt lg it is rs ∧ SqT K H l xs ∧ DxAll K H xs (pss.map planD) ∧ Plns cnt is pss ∧ ∀ H', Same H H' → Q .non H'
theorem scCkPs : FnScope ["instruction_set", "programs", "program"] ["instruction_set", "programs"] (defScope s_check_programs) := ⟨rfl, rfl, rfl, by decide +kernel, rfl, by decide +kernel, by decide +kernel⟩
theorem ok_ckPs {f fP C : Addr} {fd fdP : FuncData} {k : Nat} (F : Fun K "check_programs" "check_programs" s_check_programs f fd) (T : Bi mg) (mP : ∃ t, mg "MOST_PROGRAMS" = some (.int 3 t))
    (Cp : Def K mg "check_program" s_check_program fP fdP ["instruction_set", "program"]) (GP : FnOk P w K mg base CX0 k fP fdP ["instruction_set", "program"] (spCkP K C)) :
    FnOk P w K mg base CX0 (k + 1) f fd ["instruction_set", "programs"] (spCkPs K C) := by
  obtain ⟨tP, mP⟩ := mP
  refine F.ok scCkPs (fun vs H Q E h => ?_) (fun cdv A' outer s H vs Q E hr h => ?_)
  · obtain ⟨p, it, l, cnt, lg, is, rs, xs, pss, rfl, _⟩ := h
    rfl
  · obtain ⟨p, it, l, cnt, lg, is, rs, xs, pss, rfl, M, hl, D, ok, q⟩ := h
    refine ⟨_, pss_cons (ps_if (PW.pt (pw_or (pt_not (pt_val (pe_callB call_isi (by rfl) T.isi (by decide +kernel) (pa_cons (pv 1) (pa_cons (pe_bltn (v := .ty "tuple") (u := .type "tuple") (by rfl) T.tuple (by decide +kernel) rfl) pa_nil)))))
        (pw_or1 (pt_not (pt_chain op_le op_le pe_int (pe_callB call_len_seq (by rfl) T.len PySem.boot_len (pa_cons (pv 1) pa_nil)) (pe_glob (v := .int 3) (by rfl) mP ⟨_, rfl⟩)))))) (pss_one ps_never) pss_nil)
      (pss_one (ps_for PassesOwn.never rfl (pi_tup (pv 1)) (pg_name (i := 2) scCkPs.nd rfl (.inl rfl))
        (pss_one (ps_expr (pe_call GP hr (by rfl) Cp.gl Cp.fn.kp Cp.bi .nil pass0 (pa_cons (pv 0) (pa_cons (pv 2) pa_nil))))))), ?_⟩
    have xl : xs.length = pss.length := by rw [D.len, List.length_map]
    have one := ok.one
    have few := ok.few
    refine ⟨_, rfl, _, _, _, _, _, rfl, .ty _, (Dx.tup hl D).ty, kit_ty (by decide +kernel : kitB "tuple" "tuple" = some true), _, rfl, iteF ?_⟩
    refine ⟨_, rfl, l, _, rfl, .inr hl, _, _, rfl, rfl, _, rfl, ?_⟩
    rw [xl, decide_eq_true (show (1 : Int) ≤ (pss.length : Int) by omega)]
    refine iteT ⟨_, _, rfl, rfl, _, rfl, ?_⟩
    rw [decide_eq_true (show (pss.length : Int) ≤ 3 by omega)]
    refine iteF ?_
    refine ⟨_, rfl, l, rfl, ⟨_, hl⟩, for_tup (K := K) (a := l) (xs := xs) (fun i σ G => ∃ y2, σ = [some (.ref p), some (.ref l), y2] ∧ Same H G) ⟨_, rfl, Same.refl _⟩ (fun i σ G _ ⟨_, _, s⟩ => s.tup hl) ?_ ?_⟩
    · rintro i v σ G hv ⟨y2, rfl, s1⟩
      obtain ⟨d, hd, Dv⟩ := D.at hv
      rw [List.getElem?_map] at hd
      obtain ⟨ps, hps, rfl⟩ := Option.map_eq_some_iff.mp hd
      obtain ⟨l12, sok⟩ := ok.ok ps (List.mem_of_getElem? hps)
      refine ⟨_, rfl, _, rfl, p, it, cnt, lg, is, rs, v, _, rfl, M.same s1, Dv.same s1, plan_prog M.ok sok l12, fun G2 s2 => ⟨_, rfl, s1.trans s2⟩⟩
    · rintro σ G ⟨y2, rfl, s1⟩
      exact q _ s1
/-! ### are_entries, check_entries -/
/-- entries: the first is 0, each behind the one in front, none above 12 -/
structure Ents (gs : List Nat) : Prop where
  hd : gs.head? = some 0
  asc : (gs.map fun n : Nat => (n : Int)).Pairwise (· < ·)
  low : ∀ g ∈ gs, g ≤ 12
  few : gs.length ≤ 13
abbrev entV (gs : List Nat) : List V := (gs.map fun n : Nat => (n : Int)).map V.int
def spAreE (K : PySem.W.Frag) : Sp := fun vs H Q _ => ∃ (g : Addr) (gs : List Nat), vs = [.ref g] ∧ SqT K H g (entV gs) ∧ Ents gs ∧ ∀ H', Same H H' → Q (.bl true) H'
theorem scAreE : FnScope ["value", "item"] ["value"] (defScope s_are_entries) := ⟨rfl, rfl, rfl, by decide +kernel, rfl, by decide +kernel, by decide +kernel⟩
theorem ok_areE {f fB fA : Addr} {fd fdB fdA : FuncData} {k : Nat} (F : Fun K "are_entries" "are_entries" s_are_entries f fd) (T : Bi mg) (mE : ∃ t, mg "GREATEST_ENTRY" = some (.int 12 t))
    (Bt : Def K mg "is_integer_between" sBetween fB fdB ["value", "least", "most"]) (GB : FnOk P w K mg base CX0 k fB fdB ["value", "least", "most"] spBetween)
    (As : Def K mg "is_ascending" sAscending fA fdA ["numbers"]) (GA : FnOk P w K mg base CX0 k fA fdA ["numbers"] (spAscending K)) :
    FnOk P w K mg base CX0 (k + 1) f fd ["value"] (spAreE K) := by
  obtain ⟨tE, mE⟩ := mE
  refine F.ok scAreE (fun vs H Q E h => ?_) (fun cdv A' outer s H vs Q E hr h => ?_)
  · obtain ⟨g, gs, rfl, _⟩ := h
    rfl
  · obtain ⟨g, gs, rfl, hg, ok, q⟩ := h
    refine ⟨_, pss_cons (ps_if (PW.pt (pw_or (pt_not (pt_val (pe_callB call_isi (by rfl) T.isi (by decide +kernel) (pa_cons (pv 0) (pa_cons (pe_bltn (v := .ty "tuple") (u := .type "tuple") (by rfl) T.tuple (by decide +kernel) rfl) pa_nil)))))
        (pw_or1 (pt_not (pt_val (pe_callB (cr_all rfl) (by rfl) T.all (by decide +kernel) (pa_cons (pe_lc (own := [("item", 1)]) (g := gName 1) (tt := tYes) (by rfl) scAreE.nd (pi_tup (pv 0))
          (blkOk_by (own := [("item", 1)]) (N := ["value", "item"]) (sc := defScope s_are_entries) (by decide +kernel))
          (fun _ _ _ _ _ => pg_name (i := 1) scAreE.nd rfl (Or.inl rfl)) (fun _ _ _ _ _ => pts_nil)
          (fun _ _ _ _ _ => pe_call GB hr (by rfl) Bt.gl Bt.fn.kp Bt.bi .nil pass0 (pa_cons (pv 1) (pa_cons pe_int (pa_cons (pe_glob (v := .int 12) (by rfl) mE ⟨_, rfl⟩) pa_nil))))) pa_nil))))))) (pss_one (ps_ret pe_bl)) pss_nil)
      (pss_one (ps_ret (pe_and (pe_cmpR op_gt (pe_callB call_len_seq (by rfl) T.len PySem.boot_len (pa_cons (pv 0) pa_nil)) pe_int (nomark _)) (pe_and (pe_cmpR op_eq (pe_ix ix_tup (pv 0) pe_int (fun _ _ => rfl)) pe_int (nomark _)) (pe_one (pe_call GA hr (by rfl) As.gl As.fn.kp As.bi .nil pass0 (pa_cons (pv 0) pa_nil))))))), ?_⟩
    obtain ⟨g0, gr, rfl⟩ : ∃ g0 gr, gs = g0 :: gr := by
      cases gs with
      | nil => exact absurd ok.hd (by simp)
      | cons a r => exact ⟨a, r, rfl⟩
    obtain rfl : g0 = 0 := by simpa using ok.hd
    have D : DxAll K H (entV (0 :: gr)) (((0 :: gr).map fun n : Nat => (n : Int)).map PyData.int) := dx_ints _
    refine ⟨_, rfl, _, _, _, _, _, rfl, .ty _, (Dx.tup hg D).ty, kit_ty (by decide +kernel : kitB "tuple" "tuple" = some true), _, rfl, iteF ?_⟩
    refine ⟨_, rfl, g, rfl, ⟨_, hg⟩, fun L nL => lc_tup (K := K) (a := g) (xs := entV (0 :: gr)) (fun i G => Mk H G L ((List.replicate i true).map V.bl)) (.start nL) (fun i G _ mk => mk.same.tup hg) ?_ ?_⟩
    · intro i v G hv mk
      rw [List.getElem?_map, List.getElem?_map] at hv
      obtain ⟨z, hz, rfl⟩ := Option.map_eq_some_iff.mp hv
      obtain ⟨gn, hgn, rfl⟩ := Option.map_eq_some_iff.mp hz
      have l12 := ok.low gn (List.mem_of_getElem? hgn)
      have il := (List.getElem?_eq_some_iff.mp hgn).1
      have few := ok.few
      refine ⟨rfl, _, rfl, (gn : Int), 0, 12, rfl, by omega, by omega, ?_⟩
      refine ⟨_, mk.at_, by rw [List.length_map, List.length_replicate, sizeLine_eq]; omega, ?_⟩
      rw [List.replicate_succ', List.map_append]
      exact mk.put (Same.refl _)
    intro G mk
    refine ⟨L, _, rfl, SqL.of mk.at_, ?_⟩
    rw [all_true]
    have hgG := mk.same.tup hg
    refine ⟨_, rfl, iteF ?_⟩
    refine ⟨_, rfl, g, _, rfl, .inr hgG, _, _, rfl, rfl, _, rfl, ?_⟩
    rw [decide_eq_true (show (0 : Int) < ((entV (0 :: gr)).length : Int) by rw [List.length_map, List.length_map, List.length_cons]; omega)]
    refine iteT ⟨_, rfl, g, _, _, _, rfl, rfl, hgG, atI_nat (j := 0) (v := .int 0) rfl, rfl, _, rfl, ?_⟩
    rw [decide_eq_true rfl]
    refine iteT ⟨_, rfl, g, _, rfl, hgG, by have := ok.few; rw [List.length_map]; omega, ok.asc, fun G2 s2 => ?_⟩
    exact q _ (mk.same.trans s2)
def spCkEs (K : PySem.W.Frag) : Sp := fun vs H Q _ => ∃ (l g : Addr) (xs : List V) (gs : List Nat), vs = [.ref l, .ref g] ∧ SqT K H l xs ∧ SqT K H g (entV gs) ∧ Ents gs ∧ gs.length = xs.length ∧ ∀ H', Same H H' → Q .non H'
theorem scCkEs : FnScope ["programs", "entries"] ["programs", "entries"] (defScope s_check_entries) := ⟨rfl, rfl, rfl, by decide +kernel, rfl, by decide +kernel, by decide +kernel⟩
theorem ok_ckEs {f fA : Addr} {fd fdA : FuncData} {k : Nat} (F : Fun K "check_entries" "check_entries" s_check_entries f fd) (T : Bi mg)
    (Ar : Def K mg "are_entries" s_are_entries fA fdA ["value"]) (GA : FnOk P w K mg base CX0 k fA fdA ["value"] (spAreE K)) :
    FnOk P w K mg base CX0 (k + 1) f fd ["programs", "entries"] (spCkEs K) := by
  refine F.ok scCkEs (fun vs H Q E h => ?_) (fun cdv A' outer s H vs Q E hr h => ?_)
  · obtain ⟨l, g, xs, gs, rfl, _⟩ := h
    rfl
  · obtain ⟨l, g, xs, gs, rfl, hl, hg, ok, le, q⟩ := h
    refine ⟨_, pss_one (ps_if (PW.pt (pw_or (pt_not (pt_val (pe_call GA hr (by rfl) Ar.gl Ar.fn.kp Ar.bi .nil pass0 (pa_cons (pv 1) pa_nil))))
        (pw_or1 (pt_cmpR op_ne (pe_callB call_len_seq (by rfl) T.len PySem.boot_len (pa_cons (pv 1) pa_nil)) (pe_callB call_len_seq (by rfl) T.len PySem.boot_len (pa_cons (pv 0) pa_nil)) (nomark _))))) (pss_one ps_never) pss_nil), ?_⟩
    refine ⟨_, rfl, g, gs, rfl, hg, ok, fun H1 s1 => ⟨_, rfl, iteF ?_⟩⟩
    refine ⟨_, rfl, g, _, rfl, .inr (s1.tup hg), _, rfl, l, _, rfl, .inr (s1.tup hl), rfl, _, rfl, ?_⟩
    rw [List.length_map, List.length_map, le, decide_eq_true rfl]
    exact iteF (q _ s1)
end
end Ov
namespace Ov
open PySem PySem.Spec PyProof.Rows L2
/-! ### decoder_count -/
def rLenV (K : PySem.W.Frag) : List V → Hp → VK → Prop := fun args G R => ∃ a items, args = [.ref a] ∧ (SqL K G a items ∨ SqT K G a items) ∧ R (.int items.length) G
theorem cr_lenV {X : Cx} : CallR X (.builtin "len") (rLenV X.K) := call_len_seq
/-- the longest rest of a padding instruction -/
def lrOf (is : List I4) : Nat := ((is.filter (·.pad)).map fun x => x.ln - 1).foldl max 0
def opsN (ps : List PStep) : Nat := (ps.map fun x => x.2.length).sum
/-- the states of one decoder -/
def dcnt (is : List I4) (ps : List PStep) : Nat := 1 + ps.length + opsN ps + (ps.length + 1) * lrOf is
theorem sum_take (ps : List PStep) : ((ps.map fun x => ((x.2.length : Nat) : Int))).sum = ((opsN ps : Nat) : Int) := by
  unfold opsN
  induction ps with
  | nil => rfl
  | cons a r ih => rw [List.map_cons, List.sum_cons, List.map_cons, List.sum_cons, ih, Int.natCast_add]
section
variable {P : Program} {w : World} {K : PySem.W.Frag} {mg : Str → Option Value} {base : Heap}
def spLRest (C : Addr) : Sp := fun vs H Q _ => ∃ (p it : Addr) (cnt lg : Nat) (is : List I4) (rs : List Addr), vs = [.ref p] ∧ Mach C H p cnt lg it is rs ∧ ∀ H', Same H H' → Q (.int (lrOf is : Int)) H'
def spDcnt (K : PySem.W.Frag) (C : Addr) : Sp := fun vs H Q _ => ∃ (p it : Addr) (cnt lg : Nat) (is : List I4) (rs : List Addr) (v : V) (ps : List PStep), vs = [.ref p, v] ∧ Mach C H p cnt lg it is rs ∧ Dx K H v (planD ps) ∧ ps.length ≤ 12 ∧ ∀ H', Same H H' → Q (.int (dcnt is ps : Int)) H'
abbrev nDcnt : List Str := ["instruction_set", "program", "operand_count", "name", "operands"]
theorem scDcnt : FnScope nDcnt ["instruction_set", "program"] (defScope s_decoder_count) := ⟨rfl, rfl, rfl, by decide +kernel, rfl, by decide +kernel, by decide +kernel⟩
theorem ok_dcnt {f fL C : Addr} {fd fdL : FuncData} {k : Nat} (F : Fun K "decoder_count" "decoder_count" s_decoder_count f fd) (T : Bi mg)
    (Lr : Def K mg "longest_rest" s_longest_rest fL fdL ["instruction_set"]) (GL : FnOk P w K mg base CX0 k fL fdL ["instruction_set"] (spLRest C)) :
    FnOk P w K mg base CX0 (k + 1) f fd ["instruction_set", "program"] (spDcnt K C) := by
  refine F.ok scDcnt (fun vs H Q E h => ?_) (fun cdv A' outer s H vs Q E hr h => ?_)
  · obtain ⟨p, it, cnt, lg, is, rs, v, ps, rfl, _⟩ := h
    rfl
  · obtain ⟨p, it, cnt, lg, is, rs, v, ps, rfl, M, D, l12, q⟩ := h
    refine ⟨_, pss_cons (ps_set (i := 2) scDcnt.nd rfl (.inl rfl) (pe_callB (cr_sum rfl) (by rfl) T.sum (by decide +kernel) (pa_cons (pe_lc (own := [("name", 3), ("operands", 4)]) (g := gTup K 2 (gCons (gName 3) (gCons (gName 4) gNil))) (tt := tYes) (te := tCB (rLenV K) (tCons (tVar 4) tNil)) (by rfl) scDcnt.nd (pi_tup (pv 1))
          (blkOk_by (own := [("name", 3), ("operands", 4)]) (N := nDcnt) (sc := defScope s_decoder_count) (by decide +kernel))
          (fun _ _ _ _ _ => pg_tup rfl (pgs_cons (pg_name (i := 3) scDcnt.nd rfl (Or.inl rfl)) (pgs_cons (pg_name (i := 4) scDcnt.nd rfl (Or.inl rfl)) pgs_nil)))
          (fun _ _ _ _ _ => pts_nil) (fun _ _ _ _ _ => pe_callB (r := rLenV K) cr_lenV (by rfl) T.len PySem.boot_len (pa_cons (pv 4) pa_nil))) pa_nil)))
      (pss_one (ps_ret (pe_op op_add (pe_op op_add (pe_op op_add pe_int (pe_callB call_len_seq (by rfl) T.len PySem.boot_len (pa_cons (pv 1) pa_nil))) (pv 2)) (pe_op op_mul (pe_op op_add (pe_callB call_len_seq (by rfl) T.len PySem.boot_len (pa_cons (pv 1) pa_nil)) pe_int) (pe_call GL hr (by rfl) Lr.gl Lr.fn.kp Lr.bi .nil pass0 (pa_cons (pv 0) pa_nil)))))), ?_⟩
    cases D with
    | @tup a ys _ ha DA =>
      have yl : ys.length = ps.length := by rw [DA.len, List.length_map]
      refine ⟨_, rfl, a, rfl, ⟨_, ha⟩, fun D nD => lc_tup (K := K) (a := a) (xs := ys) (fun i G => Mk H G D (((ps.take i).map fun x => ((x.2.length : Nat) : Int)).map V.int)) (.start nD) (fun i G _ mk => mk.same.tup ha) ?_ ?_⟩
      · intro i v G hv mk
        obtain ⟨d, hd, Dv⟩ := DA.at hv
        rw [List.getElem?_map] at hd
        obtain ⟨y, hy, rfl⟩ := Option.map_eq_some_iff.mp hd
        have hi := (List.getElem?_eq_some_iff.mp hy).1
        cases Dv with
        | @tup b us _ hb Ub =>
          cases Ub with
          | @cons u0 _ r0 _ h0 t0 =>
            cases t0 with
            | @cons u1 _ r1 _ h1 t1 =>
              cases t1
              cases h1 with
              | @tup c zs _ hc Uc =>
                have zl : zs.length = y.2.length := by rw [Uc.len, List.length_map]
                refine ⟨b, _, rfl, mk.same.tup hb, rfl, _, _, rfl, _, _, rfl, rfl, rfl, _, rfl, c, zs, rfl, .inr (mk.same.tup hc), _, mk.at_, by rw [List.length_map, List.length_map, List.length_take, sizeLine_eq]; omega, ?_⟩
                rw [zl, take_more hy, List.map_append, List.map_append]
                exact mk.put (Same.refl _)
      · intro G mk
        rw [yl, List.take_length] at mk
        refine ⟨D, _, rfl, SqL.of mk.at_, ?_⟩
        rw [sum_take]
        have haG := mk.same.tup ha
        refine ⟨_, rfl, a, _, rfl, .inr haG, _, _, rfl, rfl, _, rfl, _, _, rfl, rfl, _, rfl, a, _, rfl, .inr haG, _, _, rfl, rfl, _, rfl, p, it, cnt, lg, is, rs, rfl, M.same mk.same, fun G2 s2 => ?_⟩
        have e : (1 : Int) + (ys.length : Int) + ((opsN ps : Nat) : Int) + ((ys.length : Int) + 1) * ((lrOf is : Nat) : Int) = ((dcnt is ps : Nat) : Int) := by
          rw [yl]
          unfold dcnt
          rw [Int.natCast_add, Int.natCast_mul, Int.natCast_add, Int.natCast_add, Int.natCast_add]
          rfl
        refine ⟨_, _, rfl, rfl, .inl ⟨by omega, by omega⟩, _, _, rfl, rfl, ?_⟩
        show Q (V.int ((1 : Int) + (ys.length : Int) + ((opsN ps : Nat) : Int) + ((ys.length : Int) + 1) * ((lrOf is : Nat) : Int))) G2
        rw [e]
        exact q _ (mk.same.trans s2)
end
end Ov
namespace Ov
open PySem PySem.Spec PyProof.Rows L2
section
variable {P : Program} {w : World} {K : PySem.W.Frag} {mg : Str → Option Value} {base : Heap}
/-! ### state_count -/
def stcN (is : List I4) (pss : List (List PStep)) (gs : List Nat) : Nat := pss.foldl (fun n ps => n * dcnt is ps) (gs.getLast?.getD 0 + 1)
def spStc (K : PySem.W.Frag) (C : Addr) : Sp := fun vs H Q _ => ∃ (p it l g : Addr) (cnt lg : Nat) (is : List I4) (rs : List Addr) (xs : List V) (pss : List (List PStep)) (gs : List Nat), vs = [.ref p, .ref l, .ref g] ∧ Mach C H p cnt lg it is rs ∧ SqT K H l xs ∧ DxAll K H xs (pss.map planD) ∧ Plns cnt is pss ∧ SqT K H g (entV gs) ∧ Ents gs ∧ gs.length = pss.length ∧ (∀ ps ∈ pss, dcnt is ps ≤ 1000) ∧ ∀ H', Same H H' → Q (.int (stcN is pss gs : Int)) H'
abbrev nStc : List Str := ["instruction_set", "programs", "entries", "count", "program"]
theorem scStc : FnScope nStc ["instruction_set", "programs", "entries"] (defScope s_state_count) := ⟨rfl, rfl, rfl, by decide +kernel, rfl, by decide +kernel, by decide +kernel⟩
theorem ok_stc {f fP fE fD C : Addr} {fd fdP fdE fdD : FuncData} {k : Nat} (F : Fun K "state_count" "state_count" s_state_count f fd) (T : Bi mg)
    (Cp : Def K mg "check_programs" s_check_programs fP fdP ["instruction_set", "programs"]) (GP : FnOk P w K mg base CX0 k fP fdP ["instruction_set", "programs"] (spCkPs K C))
    (Ce : Def K mg "check_entries" s_check_entries fE fdE ["programs", "entries"]) (GE : FnOk P w K mg base CX0 k fE fdE ["programs", "entries"] (spCkEs K))
    (Dc : Def K mg "decoder_count" s_decoder_count fD fdD ["instruction_set", "program"]) (GD : FnOk P w K mg base CX0 k fD fdD ["instruction_set", "program"] (spDcnt K C)) :
    FnOk P w K mg base CX0 (k + 1) f fd ["instruction_set", "programs", "entries"] (spStc K C) := by
  refine F.ok scStc (fun vs H Q E h => ?_) (fun cdv A' outer s H vs Q E hr h => ?_)
  · obtain ⟨p, it, l, g, cnt, lg, is, rs, xs, pss, gs, rfl, _⟩ := h
    rfl
  · obtain ⟨p, it, l, g, cnt, lg, is, rs, xs, pss, gs, rfl, M, hl, D, ok, hg, oe, le, small, q⟩ := h
    refine ⟨_, pss_cons (ps_expr (pe_call GP hr (by rfl) Cp.gl Cp.fn.kp Cp.bi .nil pass0 (pa_cons (pv 0) (pa_cons (pv 1) pa_nil))))
      (pss_cons (ps_expr (pe_call GE hr (by rfl) Ce.gl Ce.fn.kp Ce.bi .nil pass0 (pa_cons (pv 1) (pa_cons (pv 2) pa_nil))))
      (pss_cons (ps_set (i := 3) scStc.nd rfl (.inl rfl) (pe_op op_add (pe_ix ix_tup (pv 2) (pe_un un_neg pe_int) (fun _ _ => rfl)) pe_int))
      (pss_cons (ps_for PassesOwn.never rfl (pi_tup (pv 1)) (pg_name (i := 4) scStc.nd rfl (.inl rfl))
        (pss_one (ps_aug (i := 3) scStc.nd rfl (.inl rfl) (pe_call GD hr (by rfl) Dc.gl Dc.fn.kp Dc.bi .nil pass0 (pa_cons (pv 0) (pa_cons (pv 4) pa_nil))) iop_mul)))
      (pss_one (ps_ret (pv 3)))))), ?_⟩
    have xl : xs.length = pss.length := by rw [D.len, List.length_map]
    refine ⟨_, rfl, _, rfl, p, it, l, cnt, lg, is, rs, xs, pss, rfl, M, hl, D, ok, fun H1 s1 => ?_⟩
    refine ⟨_, rfl, _, rfl, l, g, xs, gs, rfl, s1.tup hl, s1.tup hg, oe, by rw [le, xl], fun H2 s2 => ?_⟩
    have s02 := s1.trans s2
    obtain ⟨gr, z, rfl⟩ : ∃ (gr : List Nat) (z : Nat), gs = gr ++ [z] := by
      rcases List.eq_nil_or_concat gs with e0 | ⟨gr, z, e0⟩
      · rw [e0] at oe
        exact absurd oe.hd (by simp)
      · exact ⟨gr, z, by rw [e0, List.concat_eq_append]⟩
    have hg' : SqT K H g (entV gr ++ [V.int (z : Int)]) := by
      have e : entV (gr ++ [z]) = entV gr ++ [V.int (z : Int)] := by
        show ((gr ++ [z]).map fun n : Nat => (n : Int)).map V.int = _
        rw [List.map_append, List.map_append]
        rfl
      rw [← e]
      exact hg
    have q' : ∀ H', Same H H' → Q (.int ((pss.foldl (fun n ps => n * dcnt is ps) (z + 1) : Nat) : Int)) H' := fun H' s => by
      have := q H' s
      unfold stcN at this
      rw [show (gr ++ [z]).getLast?.getD 0 = z by simp] at this
      exact this
    refine ⟨_, rfl, _, rfl, g, _, _, _, rfl, rfl, s02.tup hg', atI_last _ _, _, _, rfl, rfl, ?_⟩
    refine ⟨_, rfl, l, rfl, ⟨_, s02.tup hl⟩, for_tup (K := K) (a := l) (xs := xs) (fun i σ G => ∃ y4, σ = [some (.ref p), some (.ref l), some (.ref g), some (.int (((pss.take i).foldl (fun n ps => n * dcnt is ps) (z + 1) : Nat) : Int)), y4] ∧ Same H G) ⟨_, rfl, s02⟩ (fun i σ G _ ⟨_, _, s⟩ => s.tup hl) ?_ ?_⟩
    · rintro i v σ G hv ⟨y4, rfl, sG⟩
      obtain ⟨d, hd, Dv⟩ := D.at hv
      rw [List.getElem?_map] at hd
      obtain ⟨ps, hps, rfl⟩ := Option.map_eq_some_iff.mp hd
      obtain ⟨l12, _⟩ := ok.ok ps (List.mem_of_getElem? hps)
      have sd := small ps (List.mem_of_getElem? hps)
      refine ⟨_, rfl, _, rfl, _, rfl, p, it, cnt, lg, is, rs, v, ps, rfl, M.same sG, Dv.same sG, l12, fun G2 s2 => ⟨_, _, rfl, rfl, .inr ⟨by omega, by omega⟩, ?_⟩⟩
      rw [take_more hps, List.foldl_append]
      exact ⟨_, rfl, sG.trans s2⟩
    · rintro σ G ⟨y4, rfl, sG⟩
      rw [xl, List.take_length]
      exact ⟨_, rfl, q' _ sG⟩
end
end Ov
namespace Ov
open PySem PySem.Spec PyProof.Rows L2
section
variable {P : Program} {w : World} {K : PySem.W.Frag} {mg : Str → Option Value} {base : Heap}
/-! ### check_overlay -/
def spCkO (K : PySem.W.Frag) (C : Addr) : Sp := fun vs H Q _ => ∃ (p it l g : Addr) (cnt lg : Nat) (is : List I4) (rs : List Addr) (xs : List V) (pss : List (List PStep)) (gs : List Nat), vs = [.ref p, .ref l, .ref g] ∧ Mach C H p cnt lg it is rs ∧ SqT K H l xs ∧ DxAll K H xs (pss.map planD) ∧ Plns cnt is pss ∧ SqT K H g (entV gs) ∧ Ents gs ∧ gs.length = pss.length ∧ (∀ ps ∈ pss, dcnt is ps ≤ 1000) ∧ stcN is pss gs ≤ 5000 ∧ ∀ H', Same H H' → Q .non H'
theorem scCkO : FnScope ["instruction_set", "programs", "entries", "count"] ["instruction_set", "programs", "entries"] (defScope s_check_overlay) := ⟨rfl, rfl, rfl, by decide +kernel, rfl, by decide +kernel, by decide +kernel⟩
theorem ok_ckO {f fS C : Addr} {fd fdS : FuncData} {k : Nat} (F : Fun K "check_overlay" "check_overlay" s_check_overlay f fd) (mS : ∃ t, mg "MOST_STATES" = some (.int 5000 t))
    (Sc : Def K mg "state_count" s_state_count fS fdS ["instruction_set", "programs", "entries"]) (GS : FnOk P w K mg base CX0 k fS fdS ["instruction_set", "programs", "entries"] (spStc K C)) :
    FnOk P w K mg base CX0 (k + 1) f fd ["instruction_set", "programs", "entries"] (spCkO K C) := by
  obtain ⟨tS, mS⟩ := mS
  refine F.ok scCkO (fun vs H Q E h => ?_) (fun cdv A' outer s H vs Q E hr h => ?_)
  · obtain ⟨p, it, l, g, cnt, lg, is, rs, xs, pss, gs, rfl, _⟩ := h
    rfl
  · obtain ⟨p, it, l, g, cnt, lg, is, rs, xs, pss, gs, rfl, M, hl, D, ok, hg, oe, le, small, few, q⟩ := h
    refine ⟨_, pss_cons (ps_set (i := 3) scCkO.nd rfl (.inl rfl) (pe_call GS hr (by rfl) Sc.gl Sc.fn.kp Sc.bi .nil pass0 (pa_cons (pv 0) (pa_cons (pv 1) (pa_cons (pv 2) pa_nil)))))
      (pss_one (ps_if (pt_cmpR op_gt (pv 3) (pe_glob (v := .int 5000) (by rfl) mS ⟨_, rfl⟩) (nomark _)) (pss_one ps_never) pss_nil)), ?_⟩
    refine ⟨_, rfl, _, rfl, _, rfl, p, it, l, g, cnt, lg, is, rs, xs, pss, gs, rfl, M, hl, D, ok, hg, oe, le, small, fun H1 s1 => ?_⟩
    refine ⟨_, rfl, _, _, rfl, rfl, _, rfl, ?_⟩
    rw [decide_eq_false (show ¬ ((5000 : Int) < (stcN is pss gs : Int)) by omega)]
    exact iteF (q _ s1)
end
end Ov
namespace Ov
open PySem PySem.Spec PyProof.Rows L2
abbrev sPadLens : Stmt := inClass cInstructionSet 3
/-! ### a set of ints by a comprehension over a tuple -/
theorem sc_tupI {w : World} {K : PySem.W.Frag} {a : Addr} {xs : List V} {g : TG} {tt : TT} {te : TE} {vs : List Nat} {σ : L2.St} {H1 : Hp} {D : Addr} {Qd : Hp → Prop} (Pv : Nat → Hp → Prop) (h0 : Pv 0 (upd H1 D (SetO w D (fun _ => false) 0))) (stays : ∀ i G, i ≤ xs.length → Pv i G → SqT K G a xs)
    (turn : ∀ i x G, xs[i]? = some x → Pv i G → TurnI w D g tt te (wipe σ vs) vs x G (Pv (i + 1))) (done : ∀ G, Pv xs.length G → Qd G) :
    ∃ W : Nat → Nat → Hp → Prop, (∃ m, W 0 m (upd H1 D (SetO w D (fun _ => false) 0))) ∧ ∀ i m G, W i m G → ((Itt K a).stop i G ∧ Qd G) ∨ ((Itt K a).go i G ∧ ∃ N : Hp → Prop, (∀ G', N G' → ∃ m', m' < m ∧ W (i + 1) m' G') ∧ ∀ x G', (Itt K a).yld i G x G' → TurnI w D g tt te (wipe σ vs) vs x G' N) := by
  refine ⟨fun i m G => m + i = xs.length ∧ Pv i G, ⟨xs.length, rfl, h0⟩, ?_⟩
  rintro i m G ⟨e, p⟩
  have st := stays i G (by omega) p
  rcases Nat.lt_or_ge i xs.length with lt | ge
  · refine .inr ⟨⟨xs, xs[i], st, List.getElem?_eq_getElem lt⟩, Pv (i + 1), fun G' p' => ⟨m - 1, by omega, by omega, p'⟩, ?_⟩
    rintro x G' ⟨rfl, y⟩
    exact turn i x _ (y xs st) p
  · obtain rfl : i = xs.length := by omega
    exact .inl ⟨⟨xs, st, Nat.le_refl _⟩, done G p⟩
/-! ### lengths of padding -/
structure PadL (is : List I4) (ns : List Int) : Prop where
  asc : ns.Pairwise (· < ·)
  mem : ∀ k : Int, k ∈ ns ↔ ∃ x ∈ is, x.pad = true ∧ (x.ln : Int) = k
theorem nodup_lenF : ∀ (L : Nat) (hs : List Nat), hs.Nodup → (∀ h ∈ hs, h < L) → hs.length ≤ L
  | 0, [], _, _ => Nat.le_refl _
  | 0, h :: _, _, b => absurd (b h List.mem_cons_self) (Nat.not_lt_zero _)
  | L + 1, hs, nd, b => by
    have ih := nodup_lenF L (hs.erase L) (nd.erase L) fun h hh => by
      have z := (nd.mem_erase_iff).mp hh
      have := b h z.2
      have := z.1
      omega
    by_cases m : L ∈ hs
    · rw [List.length_erase_of_mem m] at ih
      omega
    · rw [List.erase_of_not_mem m] at ih
      omega
section
variable {P : Program} {w : World} {K : PySem.W.Frag} {mg : Str → Option Value} {base : Heap}
def spPadLens (C : Addr) : Sp := fun vs H Q _ => ∃ (p it : Addr) (cnt lg : Nat) (is : List I4) (rs : List Addr), vs = [.ref p] ∧ Mach C H p cnt lg it is rs ∧ ∀ H' r ns, Same H H' → H r = none → PadL is ns → ns.length ≤ 50 → H' r = some (.tup (ns.map V.int)) → Q (.ref r) H'
theorem scPadLens : FnScope ["self", "opcode", "name", "length", "is_padding"] ["self"] (defScope sPadLens) := ⟨rfl, rfl, rfl, by decide +kernel, rfl, by decide +kernel, by decide +kernel⟩
theorem ok_padLens {f C : Addr} {fd : FuncData} {k : Nat} (F : Fun K "padding_lengths" "InstructionSet.padding_lengths" sPadLens f fd) (T : Bi mg) (S : SetTxt K mg C) : FnOk P w K mg base CX0 (k + 1) f fd ["self"] (spPadLens C) := by
  refine F.ok scPadLens (fun vs H Q E h => ?_) (fun cdv A' outer s H vs Q E hr h => ?_)
  · obtain ⟨p, it, cnt, lg, is, rs, rfl, _⟩ := h
    rfl
  · obtain ⟨p, it, cnt, lg, is, rs, rfl, M, q⟩ := h
    refine ⟨_, pss_one (ps_ret (pe_callTy call_tuple_of (by rfl) T.tuple (by decide +kernel) (pa_cons (pe_callB (cr_sortedSet rfl) (by rfl) T.sorted (by decide +kernel) (pa_cons (pe_scI (own := [("opcode", 1), ("name", 2), ("length", 3), ("is_padding", 4)]) (g := gTup K 4 (gCons (gName 1) (gCons (gName 2) (gCons (gName 3) (gCons (gName 4) gNil))))) (by rfl) scPadLens.nd (pi_tup (pe_fld (pv 0) rfl))
          (blkOk_by (own := [("opcode", 1), ("name", 2), ("length", 3), ("is_padding", 4)]) (N := ["self", "opcode", "name", "length", "is_padding"]) (sc := defScope sPadLens) (by decide +kernel))
          (fun _ _ _ _ _ => pg_tup rfl (pgs_cons (pg_name (i := 1) scPadLens.nd rfl (Or.inl rfl)) (pgs_cons (pg_name (i := 2) scPadLens.nd rfl (Or.inl rfl)) (pgs_cons (pg_name (i := 3) scPadLens.nd rfl (Or.inl rfl)) (pgs_cons (pg_name (i := 4) scPadLens.nd rfl (Or.inl rfl)) pgs_nil)))))
          (fun _ _ _ _ _ => pts_one (pt_val (pv 4))) (fun _ _ _ _ _ => pv 3)) pa_nil)) pa_nil))), ?_⟩
    obtain ⟨dx, d1, d2, hp, h1, h2⟩ := M.at_.ob
    have hit := M.its
    have rl := M.rows.1
    have few := M.ok.few
    refine ⟨_, rfl, p, C, dx, _, _, rfl, hp, S.cl, S.nI, flds_its _ _ _ _, it, rfl, ⟨_, SqT.of hit⟩, fun D nD => sc_tupI (K := K) (a := it) (xs := rs.map V.ref) (fun i G => Same H G ∧ ∃ (Sx : Int → Bool) (ds : List Nat), G D = some (SetO w D Sx ds.length) ∧ ds.Nodup ∧ (∀ d ∈ ds, d < 13 ∧ Sx (d : Int) = true) ∧ ∀ k : Int, Sx k = true ↔ ∃ x ∈ is.take i, x.pad = true ∧ (x.ln : Int) = k) ?_ (fun i G _ p => p.1.tup (SqT.of hit)) ?_ ?_⟩
    · exact ⟨same_upd nD, fun _ => false, [], upd_same, List.nodup_nil, (fun _ z => nomatch z), fun k => ⟨fun z => (nomatch z), fun ⟨x, hx, _⟩ => by simp at hx⟩⟩
    · rintro i x G hx ⟨sG, Sx, ds, hD, nd, lt, mem⟩
      obtain ⟨hi, r, rfl, hr2, _⟩ := rows_at M.rows hx
      have dl : ds.length ≤ 13 := nodup_lenF 13 ds nd fun d hd => (lt d hd).1
      refine ⟨r, _, rfl, SqT.of (sG _ _ hr2), rfl, _, _, rfl, _, _, rfl, _, _, rfl, _, _, rfl, rfl, rfl, _, rfl, _, rfl, ?_⟩
      have more : ∀ y, y ∈ is.take (i + 1) ↔ y ∈ is.take i ∨ y = is[i] := fun y => by rw [take_more (List.getElem?_eq_getElem hi), List.mem_append, List.mem_singleton]
      have ln12 : (is[i]).ln < 13 := by
        have := M.ok.len _ (List.getElem_mem hi)
        have := M.ok.lb
        omega
      by_cases pd : (is[i]).pad = true
      · rw [pd]
        refine iteT ⟨_, rfl, ((is[i]).ln : Int), Sx, ds.length, rfl, hD, by show ds.length + 1 < 4096; omega, fun b o e => by rw [upd_ne (ne_of_none e nD)]; exact sG b o e, ?_⟩
        have mem2 : ∀ k : Int, (Sx k || decide (k = ((is[i]).ln : Int))) = true ↔ ∃ x ∈ is.take (i + 1), x.pad = true ∧ (x.ln : Int) = k := fun k => by
          rw [Bool.or_eq_true, mem k, decide_eq_true_eq]
          constructor
          · rintro (⟨x, h1, h2, h3⟩ | rfl)
            · exact ⟨x, (more x).mpr (.inl h1), h2, h3⟩
            · exact ⟨_, (more _).mpr (.inr rfl), pd, rfl⟩
          · rintro ⟨x, h1, h2, h3⟩
            rcases (more x).mp h1 with h | rfl
            · exact .inl ⟨x, h, h2, h3⟩
            · exact .inr h3.symm
        by_cases inS : Sx ((is[i]).ln : Int) = true
        · exact ⟨fun j => Sx j || decide (j = ((is[i]).ln : Int)), ds, by rw [upd_same, if_pos inS]; rfl, nd, fun d hd => ⟨(lt d hd).1, Bool.or_eq_true_iff.mpr (.inl (lt d hd).2)⟩, mem2⟩
        · have fresh : (is[i]).ln ∉ ds := fun z => inS (lt _ z).2
          refine ⟨fun j => Sx j || decide (j = ((is[i]).ln : Int)), ds ++ [(is[i]).ln], by rw [upd_same, if_neg inS, List.length_append]; rfl, ?_, fun d hd => ?_, mem2⟩
          · rw [List.nodup_append]
            exact ⟨nd, by simp, fun x hx y hy z => by rw [List.mem_singleton.mp hy] at z; exact fresh (z ▸ hx)⟩
          · rcases List.mem_append.mp hd with h | h
            · exact ⟨(lt d h).1, Bool.or_eq_true_iff.mpr (.inl (lt d h).2)⟩
            · rw [List.mem_singleton.mp h]
              exact ⟨ln12, Bool.or_eq_true_iff.mpr (.inr (decide_eq_true rfl))⟩
      · rw [Bool.not_eq_true] at pd
        rw [pd]
        refine iteF ⟨sG, Sx, ds, hD, nd, lt, fun k => ?_⟩
        rw [mem k]
        constructor
        · rintro ⟨x, h1, h2, h3⟩
          exact ⟨x, (more x).mpr (.inl h1), h2, h3⟩
        · rintro ⟨x, h1, h2, h3⟩
          rcases (more x).mp h1 with h | rfl
          · exact ⟨x, h, h2, h3⟩
          · rw [pd] at h2; cases h2
    · rintro G ⟨sG, Sx, ds, hD, nd, lt, mem⟩
      rw [List.length_map, rl, List.take_length] at mem
      have dl : ds.length ≤ 13 := nodup_lenF 13 ds nd fun d hd => (lt d hd).1
      refine ⟨D, Sx, ds.length, rfl, hD, by omega, fun ns lp asc mem' len np => ?_⟩
      refine ⟨lp, _, rfl, .inl ⟨SqL.of upd_same, fun r nr => ?_⟩⟩
      have s1 := same_upd (o := HO.lst (ns.map V.int)) np
      have s2 := same_upd (o := HO.tup (ns.map V.int)) nr
      have s12 := sG.trans s1
      exact q _ r ns (s12.trans s2) (s12.free nr) ⟨asc, fun k => (mem' k).trans (mem k)⟩ (by omega) upd_same
end
end Ov
namespace Ov
open PySem PySem.Spec PyProof.Rows L2
theorem fmax_ge : ∀ (l : List Nat) (a : Nat), a ≤ l.foldl max a ∧ ∀ x ∈ l, x ≤ l.foldl max a
  | [], a => ⟨Nat.le_refl _, fun _ h => nomatch h⟩
  | b :: l, a => by
    obtain ⟨h1, h2⟩ := fmax_ge l (max a b)
    refine ⟨Nat.le_trans (Nat.le_max_left a b) h1, fun x hx => ?_⟩
    rcases List.mem_cons.mp hx with rfl | hx
    · exact Nat.le_trans (Nat.le_max_right a x) h1
    · exact h2 x hx
theorem fmax_le : ∀ (l : List Nat) (a m : Nat), a ≤ m → (∀ x ∈ l, x ≤ m) → l.foldl max a ≤ m
  | [], _, _, h, _ => h
  | b :: l, a, m, h, k => fmax_le l (max a b) m (Nat.max_le.mpr ⟨h, k b List.mem_cons_self⟩) fun x hx => k x (List.mem_cons_of_mem _ hx)
theorem lr_last {is : List I4} {ns : List Int} {n : Int} (pos : ∀ x ∈ is, 1 ≤ x.ln) (PL : PadL is (ns ++ [n])) : ((lrOf is : Nat) : Int) = n - 1 := by
  obtain ⟨x, hx, xp, xn⟩ := (PL.mem n).mp (List.mem_append_right _ List.mem_cons_self)
  have up : ∀ y ∈ is, y.pad = true → (y.ln : Int) ≤ n := fun y hy yp => by
    have hm := (PL.mem (y.ln : Int)).mpr ⟨y, hy, yp, rfl⟩
    rcases List.mem_append.mp hm with h | h
    · have := (List.pairwise_append.mp PL.asc).2.2 _ h n List.mem_cons_self
      omega
    · rw [List.mem_singleton.mp h]
      exact Int.le_refl _
  have x1 := pos x hx
  have g := (fmax_ge ((is.filter (·.pad)).map fun x => x.ln - 1) 0).2 (x.ln - 1) (List.mem_map.mpr ⟨x, List.mem_filter.mpr ⟨hx, xp⟩, rfl⟩)
  have l := fmax_le ((is.filter (·.pad)).map fun x => x.ln - 1) 0 (x.ln - 1) (Nat.zero_le _) fun z hz => by
    obtain ⟨y, hy, rfl⟩ := List.mem_map.mp hz
    obtain ⟨hy1, hy2⟩ := List.mem_filter.mp hy
    have := up y hy1 hy2
    omega
  have e : lrOf is = x.ln - 1 := Nat.le_antisymm l g
  rw [e]
  omega
theorem lr_none {is : List I4} (PL : PadL is []) : lrOf is = 0 := by
  have e : is.filter (·.pad) = [] := List.filter_eq_nil_iff.mpr fun x hx xp => by
    have := (PL.mem (x.ln : Int)).mpr ⟨x, hx, xp, rfl⟩
    cases this
  unfold lrOf
  rw [e]
  rfl
section
variable {P : Program} {w : World} {K : PySem.W.Frag} {mg : Str → Option Value} {base : Heap}
theorem scLRest : FnScope ["instruction_set", "lengths"] ["instruction_set"] (defScope s_longest_rest) := ⟨rfl, rfl, rfl, by decide +kernel, rfl, by decide +kernel, by decide +kernel⟩
end
end Ov
namespace Ov
open PySem PySem.Spec PyProof.Rows L2
section
variable {P : Program} {w : World} {K : PySem.W.Frag} {mg : Str → Option Value} {base : Heap}
/-! ### is_code -/
def isCode (cnt : Nat) : PyData → Bool
  | .tuple ds => ds.all (btw 0 ((cnt : Int) - 1))
  | _ => false
def spIsCode (K : PySem.W.Frag) (C : Addr) : Sp := fun vs H Q _ => ∃ (p it : Addr) (cnt : Nat) (is : List I4) (v : V) (d : PyData), vs = [.ref p, v] ∧ SetAt C H p cnt it is ∧ Dx K H v d ∧ (∀ ds, d = .tuple ds → ds.length ≤ 1000) ∧ ∀ H', Same H H' → Q (.bl (isCode cnt d)) H'
theorem scIsCode : FnScope ["instruction_set", "value", "greatest", "byte"] ["instruction_set", "value"] (defScope sIsCode) := ⟨rfl, rfl, rfl, by decide +kernel, rfl, by decide +kernel, by decide +kernel⟩
theorem ok_isCode {f fB C : Addr} {fd fdB : FuncData} {k : Nat} (F : Fun K "is_code" "is_code" sIsCode f fd) (T : Bi mg) (S : SetTxt K mg C)
    (B : Def K mg "is_integer_between" sBetween fB fdB ["value", "least", "most"]) (GB : FnOk P w K mg base CX0 k fB fdB ["value", "least", "most"] (spBetweenX K)) : FnOk P w K mg base CX0 (k + 1) f fd ["instruction_set", "value"] (spIsCode K C) := by
  refine F.ok scIsCode (fun vs H Q E h => ?_) (fun cdv A' outer s H vs Q E hr h => ?_)
  · obtain ⟨p, it, cnt, is, v, d, rfl, _⟩ := h
    rfl
  · obtain ⟨p, it, cnt, is, v, d, rfl, SA, D, hl, q⟩ := h
    refine ⟨_, pss_cons (ps_if (pt_not (pt_val (pe_callB call_isi (by rfl) T.isi (by decide +kernel) (pa_cons (pv 1) (pa_cons (pe_bltn (v := .ty "tuple") (u := .type "tuple") (by rfl) T.tuple (by decide +kernel) rfl) pa_nil))))) (pss_one (ps_ret pe_bl)) pss_nil)
      (pss_cons (ps_set (i := 2) scIsCode.nd rfl (.inr rfl) (pe_op op_sub (pe_fld (pv 0) rfl) pe_int))
      (pss_one (ps_ret (pe_callB (cr_all rfl) (by rfl) T.all (by decide +kernel) (pa_cons
        (pe_lc (own := [("byte", 3)]) (g := gName 3) (tt := tYes) (by rfl) scIsCode.nd (pi_tup (pv 1)) (blkOk_by (own := [("byte", 3)]) (N := ["instruction_set", "value", "greatest", "byte"]) (sc := defScope sIsCode) (by decide +kernel))
          (fun _ _ _ _ _ => pg_name (i := 3) scIsCode.nd rfl (Or.inl rfl)) (fun _ _ _ _ _ => pts_nil)
          (fun _ _ _ _ _ => pe_call GB hr (by rfl) B.gl B.fn.kp B.bi .nil pass0 (pa_cons (pv 3) (pa_cons pe_int (pa_cons (pv 2) pa_nil))))) pa_nil))))), ?_⟩
    refine ⟨_, rfl, _, _, _, _, _, rfl, .ty _, D.ty, kit_ty (kit_t d), _, rfl, ?_⟩
    cases D with
    | non => exact iteT (q H (Same.refl _))
    | str x => exact iteT (q H (Same.refl _))
    | dct h => exact iteT (q H (Same.refl _))
    | lst h a => exact iteT (q H (Same.refl _))
    | bl b => exact iteT (q H (Same.refl _))
    | int i => exact iteT (q H (Same.refl _))
    | @tup a xs ds hs ha =>
      have h1000 := hl ds rfl
      have el := ha.len
      obtain ⟨dx, d1, d2, hp, _⟩ := SA.ob
      refine iteF ⟨_, rfl, p, C, dx, _, _, rfl, hp, S.cl, S.nB, flds_cnt _ _ _ _, _, _, rfl, rfl, ?_⟩
      refine ⟨_, rfl, a, rfl, ⟨_, hs⟩, fun D nD => lc_tup (K := K) (a := a) (xs := xs) (fun i H2 => Mk H H2 D (((ds.take i).map (btw 0 ((cnt : Int) - 1))).map V.bl)) (.start nD) (fun i H2 _ p => p.same.tup hs) ?_ ?_⟩
      · intro i x H2 hx mk
        obtain ⟨d, hd, D2⟩ := ha.at hx
        refine ⟨rfl, _, rfl, _, rfl, x, d, 0, (cnt : Int) - 1, rfl, D2.same mk.same, _, mk.at_, (by rw [List.length_map, List.length_map, List.length_take]; exact small1000 (by omega)), ?_⟩
        rw [take_more hd, List.map_append, List.map_append]
        exact mk.put (Same.refl _)
      intro H2 mk
      refine ⟨D, _, rfl, SqL.of mk.at_, ?_⟩
      rw [el, List.take_length, List.all_map]
      exact q H2 mk.same
end
end Ov
namespace Ov
open PySem PySem.Spec PyProof.Rows L2
/-! ### longest_rest -/
theorem no_methP (cnt : Nat) (it d1 d2 : Addr) : (flds cnt it d1 d2).lookup ("padding_lengths" : Str) = none := by
  unfold flds
  rw [lookup_putF, if_neg (by decide +kernel), lookup_putF, if_neg (by decide +kernel), lookup_putF, if_neg (by decide +kernel), lookup_putF, if_neg (by decide +kernel)]
  rfl
section
variable {P : Program} {w : World} {K : PySem.W.Frag} {mg : Str → Option Value} {base : Heap}
abbrev nLrest : List Str := ["instruction_set", "lengths"]
theorem scLrest : FnScope nLrest ["instruction_set"] (defScope s_longest_rest) := ⟨rfl, rfl, rfl, by decide +kernel, rfl, by decide +kernel, by decide +kernel⟩
theorem ok_lrest {f C fIPl : Addr} {fd fdIPl : FuncData} {k : Nat} (F : Fun K "longest_rest" "longest_rest" s_longest_rest f fd) (T : Bi mg) (S : SetTxt K mg C) (MIPl : Meth K C "padding_lengths" fIPl) (bIPl : Binds K fdIPl ["self"] []) (GIPl : FnOk P w K mg base CX0 k fIPl fdIPl ["self"] (spPadLens C)) :
    FnOk P w K mg base CX0 (k + 1) f fd ["instruction_set"] (spLRest C) := by
  refine F.ok scLrest (fun vs H Q E h => ?_) (fun cdv A' outer s H vs Q E hr h => ?_)
  · obtain ⟨p, it, cnt, lg, is, rs, rfl, _⟩ := h
    rfl
  · obtain ⟨p, it, cnt, lg, is, rs, rfl, M, q⟩ := h
    refine ⟨_, pss_cons (ps_set (i := 1) scLrest.nd rfl (.inl rfl) (pe_meth0 (pv 0) S.cl MIPl GIPl hr bIPl .nil pass0))
      (pss_one (ps_ret (pe_ifExp (pt_cmpR op_gt (pe_callB call_len_seq (by rfl) T.len PySem.boot_len (pa_cons (pv 1) pa_nil)) pe_int (nomark _)) (pe_op op_sub (pe_ix ix_tup (pv 1) (pe_un un_neg pe_int) (fun _ _ => rfl)) pe_int) pe_int))), ?_⟩
    have pos : ∀ x ∈ is, 1 ≤ x.ln := fun x hx => (M.ok.len x hx).1
    obtain ⟨dx, d1, d2, hp, _⟩ := M.at_.ob
    refine ⟨_, rfl, p, dx, _, rfl, hp, no_methP _ _ _ _, p, it, cnt, lg, is, rs, rfl, M, fun H2 r2 ns s2 nr2 PL few hr2 => ?_⟩
    refine ⟨_, rfl, r2, _, rfl, .inr (SqT.of hr2), _, _, rfl, rfl, _, rfl, ?_⟩
    rw [List.length_map]
    rcases List.eq_nil_or_concat ns with e0 | ⟨mr, z, e0⟩
    · subst e0
      rw [decide_eq_false (show ¬ ((0 : Int) < (([] : List Int).length : Int)) by decide)]
      have z := q H2 s2
      rw [lr_none PL] at z
      exact iteF z
    · rw [List.concat_eq_append] at e0
      subst e0
      rw [decide_eq_true (show (0 : Int) < ((mr ++ [z]).length : Int) by rw [List.length_append, List.length_singleton]; omega)]
      have hz := q H2 s2
      rw [lr_last pos PL] at hz
      rw [List.map_append] at hr2
      exact iteT ⟨_, rfl, _, rfl, r2, _, _, _, rfl, rfl, SqT.of hr2, atI_last _ _, _, _, rfl, rfl, hz⟩
/-! ### is_overlay -/
/-- what a decoder from e finds, told by the code alone -/
def foundAt (is : List I4) (bs : List Int) (e : Nat) : Option (List PStep) := if cdEnd (laOf is) (some e) bs = some 0 then some (stepsOf is bs (stF (laOf is) 0 (some e) bs)) else none
theorem found_at {is : List I4} {bs : List Int} {e : Nat} {begun : List Nat} {fol : Nat} (en : Ended (laOf is) bs e begun fol) : foundOf is bs begun fol = foundAt is bs e := by
  unfold foundOf foundAt
  rw [en.cd, en.st]
  by_cases h : fol = bs.length
  · subst h
    rw [if_pos rfl, if_neg (Nat.lt_irrefl _), Nat.sub_self, if_pos rfl]
  · rw [if_neg h]
    by_cases h2 : fol < bs.length
    · rw [if_pos h2, if_neg (fun z => nomatch z)]
    · rw [if_neg h2, if_neg (fun z => by have := Option.some.inj z; omega)]
def ovB (is : List I4) (bs : List Int) (pss : List (List PStep)) (gs : List Nat) : Bool := decide (gs.getLast?.getD 0 ≤ bs.length) && (gs.zip pss).all fun q => fits (foundAt is bs q.1) q.2
def intD : PyData → Int
  | .int i => i
  | _ => 0
def bsD : PyData → List Int
  | .tuple ds => ds.map intD
  | _ => []
def isOvD (cnt : Nat) (is : List I4) (pss : List (List PStep)) (gs : List Nat) (d : PyData) : Bool := isCode cnt d && ovB is (bsD d) pss gs
theorem code_ints {cnt : Nat} {d : PyData} (h : isCode cnt d = true) : d = .tuple ((bsD d).map PyData.int) ∧ ∀ b ∈ bsD d, 0 ≤ b ∧ b < (cnt : Int) := by
  cases d with
  | tuple ds =>
    have h' : ∀ x ∈ ds, btw 0 ((cnt : Int) - 1) x = true := List.all_eq_true.mp h
    have one : ∀ x ∈ ds, PyData.int (intD x) = x ∧ 0 ≤ intD x ∧ intD x < (cnt : Int) := fun x hx => by
      have z := h' x hx
      cases x with
      | int i =>
        have z' := Bool.and_eq_true_iff.mp z
        have a := of_decide_eq_true z'.1
        have b := of_decide_eq_true z'.2
        exact ⟨rfl, a, by show i < _; omega⟩
      | _ => cases z
    refine ⟨?_, fun b hb => ?_⟩
    · show PyData.tuple ds = .tuple ((ds.map intD).map PyData.int)
      rw [List.map_map]
      congr 1
      exact (List.map_id ds).symm.trans (List.map_congr_left fun x hx => (one x hx).1.symm)
    · obtain ⟨x, hx, rfl⟩ := List.mem_map.mp hb
      exact (one x hx).2
  | _ => cases h
theorem ents_le {gs : List Nat} (oe : Ents gs) {z : Nat} (hz : gs.getLast? = some z) : ∀ g ∈ gs, g ≤ z := fun g hg => by
  obtain ⟨gr, rfl⟩ : ∃ gr, gs = gr ++ [z] := by
    rcases List.eq_nil_or_concat gs with e | ⟨gr, y, e⟩
    · rw [e] at hz; cases hz
    · rw [List.concat_eq_append] at e
      rw [e] at hz
      simp at hz
      exact ⟨gr, by rw [e, hz]⟩
  rcases List.mem_append.mp hg with h | h
  · have a := oe.asc
    rw [List.map_append] at a
    have := (List.pairwise_append.mp a).2.2 (g : Int) (List.mem_map.mpr ⟨g, h, rfl⟩) (z : Int) (by simp)
    omega
  · rw [List.mem_singleton.mp h]; exact Nat.le_refl _
def spIsOv (K : PySem.W.Frag) (C : Addr) : Sp := fun vs H Q _ => ∃ (p it l g : Addr) (cnt lg : Nat) (is : List I4) (rs : List Addr) (xs : List V) (pss : List (List PStep)) (gs : List Nat) (v : V) (d : PyData), vs = [.ref p, .ref l, .ref g, v] ∧ Mach C H p cnt lg it is rs ∧ SqT K H l xs ∧ DxAll K H xs (pss.map planD) ∧ Plns cnt is pss ∧ SqT K H g (entV gs) ∧ Ents gs ∧ gs.length = pss.length ∧ (∀ ps ∈ pss, dcnt is ps ≤ 1000) ∧ stcN is pss gs ≤ 5000 ∧
  Dx K H v d ∧ (∀ ds, d = .tuple ds → ds.length ≤ 1000) ∧ ∀ H', Same H H' → Q (.bl (isOvD cnt is pss gs d)) H'
abbrev nIsOv : List Str := ["instruction_set", "programs", "entries", "value", "entry", "program"]
theorem scIsOv : FnScope nIsOv ["instruction_set", "programs", "entries", "value"] (defScope s_is_overlay) := ⟨rfl, rfl, rfl, by decide +kernel, rfl, by decide +kernel, by decide +kernel⟩
theorem ok_isOv {f C fRu fIc fCkO : Addr} {fd fdRu fdIc fdCkO : FuncData} {k : Nat} (F : Fun K "is_overlay" "is_overlay" s_is_overlay f fd) (T : Bi mg) (Ru : Def K mg "runs" s_runs fRu fdRu ["instruction_set", "code", "entry", "program"]) (GRu : FnOk P w K mg base CX0 k fRu fdRu ["instruction_set", "code", "entry", "program"] (spRuns K C)) (Ic : Def K mg "is_code" sIsCode fIc fdIc ["instruction_set", "value"]) (GIc : FnOk P w K mg base CX0 k fIc fdIc ["instruction_set", "value"] (spIsCode K C)) (CkO : Def K mg "check_overlay" s_check_overlay fCkO fdCkO ["instruction_set", "programs", "entries"]) (GCkO : FnOk P w K mg base CX0 k fCkO fdCkO ["instruction_set", "programs", "entries"] (spCkO K C)) :
    FnOk P w K mg base CX0 (k + 1) f fd ["instruction_set", "programs", "entries", "value"] (spIsOv K C) := by
  refine F.ok scIsOv (fun vs H Q E h => ?_) (fun cdv A' outer s H vs Q E hr h => ?_)
  · obtain ⟨p, it, l, g, cnt, lg, is, rs, xs, pss, gs, v, d, rfl, _⟩ := h
    rfl
  · obtain ⟨p, it, l, g, cnt, lg, is, rs, xs, pss, gs, v, d, rfl, M, hl, D, ok, hg, oe, le, small, few, Dv, d1000, q⟩ := h
    refine ⟨_, pss_cons (ps_expr (pe_call GCkO hr (by rfl) CkO.gl CkO.fn.kp CkO.bi .nil pass0 (pa_cons (pv 0) (pa_cons (pv 1) (pa_cons (pv 2) pa_nil)))))
      (pss_cons (ps_if (PW.pt (pw_or (pt_not (pt_val (pe_call GIc hr (by rfl) Ic.gl Ic.fn.kp Ic.bi .nil pass0 (pa_cons (pv 0) (pa_cons (pv 3) pa_nil))))) (pw_or1 (pt_cmpR op_lt (pe_callB call_len_seq (by rfl) T.len PySem.boot_len (pa_cons (pv 3) pa_nil)) (pe_ix ix_tup (pv 2) (pe_un un_neg pe_int) (fun _ _ => rfl)) (nomark _))))) (pss_one (ps_ret pe_bl)) pss_nil)
      (pss_one (ps_ret (pe_callB (cr_all rfl) (by rfl) T.all (by decide +kernel) (pa_cons (pe_lc (own := [("entry", 4), ("program", 5)]) (g := (gTup K 2 (gCons (gName 4) (gCons (gName 5) gNil)))) (tt := tYes) (by rfl) scIsOv.nd (RZ.pi_zipA (by rfl) T.zip (pa_cons (pv 2) (pa_cons (pv 1) pa_nil))) (blkOk_by (own := [("entry", 4), ("program", 5)]) (N := nIsOv) (sc := defScope s_is_overlay) (by decide +kernel)) (fun _ _ _ _ _ => (pg_tup rfl (pgs_cons (pg_name (i := 4) scIsOv.nd rfl (Or.inl rfl)) (pgs_cons (pg_name (i := 5) scIsOv.nd rfl (Or.inl rfl)) pgs_nil)))) (fun _ _ _ _ _ => pts_nil) (fun _ _ _ _ _ => (pe_call GRu hr (by rfl) Ru.gl Ru.fn.kp Ru.bi .nil pass0 (pa_cons (pv 0) (pa_cons (pv 3) (pa_cons (pv 4) (pa_cons (pv 5) pa_nil))))))) pa_nil))))), ?_⟩
    have xl : xs.length = pss.length := by rw [D.len, List.length_map]
    obtain ⟨gr, z, rfl⟩ : ∃ (gr : List Nat) (z : Nat), gs = gr ++ [z] := by
      rcases List.eq_nil_or_concat gs with e0 | ⟨gr, z, e0⟩
      · rw [e0] at oe
        exact absurd oe.hd (by simp)
      · exact ⟨gr, z, by rw [e0, List.concat_eq_append]⟩
    have ez : (gr ++ [z]).getLast?.getD 0 = z := by simp
    have hg' : SqT K H g (entV gr ++ [V.int (z : Int)]) := by
      have e : entV (gr ++ [z]) = entV gr ++ [V.int (z : Int)] := by
        show ((gr ++ [z]).map fun n : Nat => (n : Int)).map V.int = _
        rw [List.map_append, List.map_append]
        rfl
      rw [← e]
      exact hg
    refine ⟨_, rfl, _, rfl, _, rfl, p, it, l, g, cnt, lg, is, rs, xs, pss, _, rfl, M, hl, D, ok, hg, oe, le, small, few, fun H1 s1 => ?_⟩
    refine ⟨_, rfl, _, rfl, p, it, cnt, is, v, d, rfl, M.at_.same s1, Dv.same s1, d1000, fun H2 s2 => ?_⟩
    have s02 := s1.trans s2
    cases hc : isCode cnt d with
    | false =>
      have z := q H2 s02
      unfold isOvD at z
      rw [hc, Bool.false_and] at z
      exact ⟨_, rfl, iteT z⟩
    | true =>
      have q' : ∀ H', Same H H' → Q (.bl (ovB is (bsD d) pss (gr ++ [z]))) H' := fun H' s => by
        have y := q H' s
        unfold isOvD at y
        rw [hc, Bool.true_and] at y
        exact y
      obtain ⟨ed, bb⟩ := code_ints hc
      generalize bsD d = bs at *
      subst ed
      have bl : bs.length ≤ 1000 := by have := d1000 _ rfl; rw [List.length_map] at this; exact this
      obtain ⟨c, ys, rfl, hcd, Dc⟩ := dx_tup Dv
      have ey := dx_intsI Dc
      subst ey
      refine ⟨_, rfl, iteF ?_⟩
      refine ⟨_, rfl, c, _, rfl, .inr (s02.tup hcd), _, rfl, _, rfl, g, _, _, _, rfl, rfl, s02.tup hg', atI_last _ _, _, _, rfl, rfl, _, rfl, ?_⟩
      rw [List.length_map]
      unfold ovB at q'
      rw [ez] at q'
      by_cases h1 : z ≤ bs.length
      · rw [decide_eq_false (show ¬ (bs.length : Int) < (z : Int) by omega)]
        rw [decide_eq_true h1, Bool.true_and] at q'
        refine iteF ?_
        have hgz : ∀ e ∈ gr ++ [z], e ≤ bs.length := fun e he => Nat.le_trans (ents_le oe (by simp) e he) h1
        generalize gr ++ [z] = gs at *
        refine ⟨_, rfl, _, rfl, g, l, _, _, rfl, .inr ⟨s02.tup hg, s02.tup hl, fun L nL => lc_it (walk_zipT (K := K) (a := g) (b := l) (xs := entV gs) (ys := xs) rfl) (fun i G => Mk H2 G L ((((gs.zip pss).take i).map fun q => fits (foundAt is bs q.1) q.2).map V.bl)) (.start nL) (fun i G _ mk => ⟨(s02.trans mk.same).tup hg, (s02.trans mk.same).tup hl⟩) (fun j u G G5 hi mk yy => ?_) (fun G mk => ?_)⟩⟩
        · obtain ⟨t, x1, x2, rfl, nt, rfl, f1, f2⟩ := yy
          have f1' : (entV gs)[j]? = some x1 := f1
          have f2' : xs[j]? = some x2 := f2
          rw [List.getElem?_map, List.getElem?_map] at f1'
          obtain ⟨e1, he1, rfl⟩ := Option.map_eq_some_iff.mp f1'
          obtain ⟨e, he, rfl⟩ := Option.map_eq_some_iff.mp he1
          obtain ⟨d2, hd2, D2⟩ := D.at f2'
          rw [List.getElem?_map] at hd2
          obtain ⟨ps, hps, rfl⟩ := Option.map_eq_some_iff.mp hd2
          obtain ⟨l12, sok⟩ := ok.ok ps (List.mem_of_getElem? hps)
          have st := same_upd (o := HO.tup [V.int (e : Int), x2]) nt
          have s3 := (s02.trans mk.same).trans st
          have jl := (List.getElem?_eq_some_iff.mp he).1
          have hz : (gs.zip pss)[j]? = some (e, ps) := by
            rw [List.getElem?_zip_eq_some]
            exact ⟨he, hps⟩
          refine ⟨t, _, rfl, SqT.of upd_same, rfl, _, _, rfl, _, _, rfl, rfl, rfl, _, rfl, _, rfl, _, rfl, _, rfl, p, it, c, cnt, lg, is, rs, bs, e, x2, ps, rfl, M.same s3, s3.tup hcd, bl, hgz e (List.mem_of_getElem? he), D2.same s3, sok, l12, fun G6 begun fol s6 en bl6 => ?_⟩
          rw [found_at en]
          refine ⟨_, s6 _ _ (st _ _ mk.at_), ?_, ?_⟩
          · rw [List.length_map, List.length_map, List.length_take, List.length_zip]
            have := oe.few
            exact small1000 (by omega)
          · rw [take_more hz, List.map_append, List.map_append]
            exact mk.put (st.trans s6)
        · have el : min (entV gs).length xs.length = (gs.zip pss).length := by rw [List.length_zip, List.length_map, List.length_map, xl]
          rw [el, List.take_length] at mk
          refine ⟨L, _, rfl, SqL.of mk.at_, ?_⟩
          rw [List.all_map]
          exact q' G (s02.trans mk.same)
      · rw [decide_eq_true (show (bs.length : Int) < (z : Int) by omega)]
        rw [decide_eq_false h1, Bool.false_and] at q'
        exact iteT (q' H2 s02)
end
end Ov
namespace Ov
open PySem PySem.Spec PyProof.Rows L2
def rLen (K : PySem.W.Frag) : List V → Hp → VK → Prop := fun args G R => ∃ a items, args = [.ref a] ∧ (SqL K G a items ∨ SqT K G a items) ∧ R (.int items.length) G
theorem cr_len {X : Cx} : CallR X (.builtin "len") (rLen X.K) := call_len_seq
end Ov
namespace Ov
open PySem PySem.Spec PyProof.Rows L2
/-! ### the world of a law: a part that stands (T), lists that change (M), the box at p with what is left to be drawn (f) -/
def Chg : HO → Prop
  | .lst _ => True
  | .dK _ => True
  | .dT _ => True
  | .set _ _ => True
  | .ins _ _ _ => True
  | .own _ => True
  | _ => False
structure Wd (p : Addr) (T M H : Hp) (f : Nat) : Prop where
  th : Same T H
  mh : Same M H
  dis : ∀ b, M b ≠ none → T b = none
  nt : ∀ b u, M b = some u → Chg u
  tp : T p = none
  mp : M p = none
  box : ∃ n, BoxAt H p n ∧ n + f ≤ 2 ^ 37
/-- all of a heap but the box and what changes -/
def rest (p : Addr) (M H : Hp) : Hp := fun b => if b = p then none else match M b with
  | some _ => none
  | none => H b
section
variable {p : Addr} {T T' M H H' : Hp} {f : Nat} {L : Addr} {o : HO}
theorem Wd.mono (W : Wd p T M H f) {f' : Nat} (h : f' ≤ f) : Wd p T M H f' := { W with box := by obtain ⟨n, B, l⟩ := W.box; exact ⟨n, B, by omega⟩ }
theorem Wd.pne (W : Wd p T M H f) : H p ≠ none := by obtain ⟨n, B, _⟩ := W.box; exact B.ne
theorem Wd.free (W : Wd p T M H f) {a : Addr} (n : H a = none) : T a = none ∧ M a = none ∧ a ≠ p := ⟨W.th.free n, W.mh.free n, fun z => W.pne (z ▸ n)⟩
theorem Wd.put (W : Wd p T M H f) {a : Addr} (o : HO) (n : H a = none) : Wd p (upd T a o) M (upd H a o) f := by
  obtain ⟨t0, m0, ap⟩ := W.free n
  refine ⟨fun b x e => ?_, W.mh.trans (same_upd n), fun b e => ?_, W.nt, by rw [upd_ne (Ne.symm ap)]; exact W.tp, W.mp, ?_⟩
  · by_cases h : b = a
    · subst h; rw [upd_same] at e ⊢; exact e
    · rw [upd_ne h] at e ⊢; exact W.th _ _ e
  · rw [upd_ne (show b ≠ a from fun z => e (by rw [z]; exact m0))]; exact W.dis b e
  · obtain ⟨k, B, l⟩ := W.box
    exact ⟨k, B.same (same_upd n), l⟩
theorem Wd.putT (W : Wd p T M H f) {a : Addr} (o : HO) (n : H a = none) : Same T (upd T a o) := same_upd (W.free n).1
theorem Wd.newM (W : Wd p T M H f) {L : Addr} (o : HO) (n : H L = none) (ho : Chg o) : Wd p T (upd M L o) (upd H L o) f := by
  obtain ⟨t0, m0, ap⟩ := W.free n
  refine ⟨W.th.trans (same_upd n), fun b x e => ?_, fun b e => ?_, fun b xs e => ?_, W.tp, by rw [upd_ne (Ne.symm ap)]; exact W.mp, ?_⟩
  · by_cases h : b = L
    · subst h; rw [upd_same] at e ⊢; exact e
    · rw [upd_ne h] at e ⊢; exact W.mh _ _ e
  · by_cases h : b = L
    · subst h; exact t0
    · rw [upd_ne h] at e; exact W.dis b e
  · by_cases h : b = L
    · subst h; rw [upd_same] at e; cases e; exact ho
    · rw [upd_ne h] at e; exact W.nt b xs e
  · obtain ⟨k, B, l⟩ := W.box
    exact ⟨k, B.same (same_upd n), l⟩
theorem Wd.setM (W : Wd p T M H f) {L : Addr} (o : HO) (n : M L ≠ none) (ho : Chg o) : Wd p T (upd M L o) (upd H L o) f := by
  have t0 := W.dis L n
  have ap : L ≠ p := fun z => n (z ▸ W.mp)
  refine ⟨fun b x e => ?_, fun b x e => ?_, fun b e => ?_, fun b xs e => ?_, W.tp, by rw [upd_ne (Ne.symm ap)]; exact W.mp, ?_⟩
  · rw [upd_ne (ne_of_none e t0)]; exact W.th _ _ e
  · by_cases h : b = L
    · subst h; rw [upd_same] at e ⊢; exact e
    · rw [upd_ne h] at e ⊢; exact W.mh _ _ e
  · by_cases h : b = L
    · subst h; exact t0
    · rw [upd_ne h] at e; exact W.dis b e
  · by_cases h : b = L
    · subst h; rw [upd_same] at e; cases e; exact ho
    · rw [upd_ne h] at e; exact W.nt b xs e
  · obtain ⟨k, ⟨a, b, c, e, r⟩, l⟩ := W.box
    exact ⟨k, ⟨a, b, c, by rw [upd_ne (Ne.symm ap)]; exact e, r⟩, l⟩
theorem Wd.setL (W : Wd p T (upd M L o) H f) (o' : HO) (ho : Chg o') : Wd p T (upd M L o') (upd H L o') f := by
  have z := W.setM (L := L) o' (by rw [upd_same]; exact fun z => nomatch z) ho
  rwa [upd_upd] at z
theorem Wd.at (W : Wd p T (upd M L o) H f) : H L = some o := W.mh _ _ upd_same
theorem Wd.less (W : Wd p T M H f) {M' : Hp} (s : Same M' M) : Wd p T M' H f :=
  ⟨W.th, fun b o e => W.mh _ _ (s _ _ e), fun b e => W.dis b (fun z => by
    cases h : M' b with
    | none => exact e h
    | some o => rw [s _ _ h] at z; cases z), fun b xs e => W.nt b xs (s _ _ e), W.tp, s.free W.mp, W.box⟩
theorem Wd.drop (W : Wd p T (upd M L o) H f) (n : M L = none) : Wd p T M H f := W.less (same_upd n)
theorem Wd.freeze (W : Wd p T (upd M L o) H f) (n : M L = none) : Wd p (upd T L o) M H f := by
  have t0 := W.dis L (by rw [upd_same]; exact fun z => nomatch z)
  have lp : p ≠ L := fun z => by have := W.mp; rw [z, upd_same] at this; cases this
  have W2 := W.drop n
  refine ⟨fun b x e => ?_, W2.mh, fun b e => ?_, W2.nt, by rw [upd_ne lp]; exact W.tp, W2.mp, W.box⟩
  · by_cases h : b = L
    · subst h; rw [upd_same] at e; cases e; exact W.at
    · rw [upd_ne h] at e; exact W.th _ _ e
  · rw [upd_ne (show b ≠ L from fun z => e (by rw [z]; exact n))]; exact W2.dis b e
theorem Wd.frT (W : Wd p T (upd M L o) H f) : Same T (upd T L o) := same_upd (W.dis L (by rw [upd_same]; exact fun z => nomatch z))
theorem Wd.pure (W : Wd p T M H f) (s : Same H H') : Wd p T M H' f := ⟨W.th.trans s, W.mh.trans s, W.dis, W.nt, W.tp, W.mp, by obtain ⟨n, B, l⟩ := W.box; exact ⟨n, B.same s, l⟩⟩
theorem rest_same : Same (rest p M H) H := fun b o e => by
  unfold rest at e
  by_cases h : b = p
  · rw [if_pos h] at e; cases e
  · rw [if_neg h] at e
    cases q : M b with
    | some x => rw [q] at e; cases e
    | none => rw [q] at e; exact e
theorem Wd.restT (W : Wd p T M H f) : Same T (rest p M H) := fun b o e => by
  unfold rest
  rw [if_neg (ne_of_none e W.tp)]
  cases q : M b with
  | some x => rw [W.dis b (by rw [q]; exact fun z => nomatch z)] at e; cases e
  | none => exact W.th _ _ e
theorem Wd.rest (W : Wd p T M H f) : Wd p (rest p M H) M H f := ⟨rest_same, W.mh, (fun b e => by
    unfold Ov.rest
    by_cases h : b = p
    · rw [if_pos h]
    · rw [if_neg h]
      cases q : M b with
      | some x => rfl
      | none => exact absurd q e), W.nt, by unfold Ov.rest; rw [if_pos rfl], W.mp, W.box⟩
theorem Wd.tup (W : Wd p T M H f) {a : Addr} {xs : List V} (h : H a = some (.tup xs)) : Ov.rest p M H a = some (.tup xs) := by
  unfold Ov.rest
  rw [if_neg (fun z => by obtain ⟨n, ⟨_, _, _, e, _⟩, _⟩ := W.box; rw [z, e] at h; cases h)]
  cases q : M a with
  | some x => have := W.mh _ _ q; rw [h] at this; cases this; exact (W.nt a _ q).elim
  | none => exact h
theorem Wd.sqT (W : Wd p T M H f) {K : PySem.W.Frag} {a : Addr} {xs : List V} (h : SqT K H a xs) : SqT K (Ov.rest p M H) a xs := by
  rcases h with (h | ⟨o, h⟩) | h
  · exact .inl (.inl (W.tup h))
  · refine .inl (.inr ⟨o, ?_⟩)
    unfold Ov.rest
    rw [if_neg (fun z => by obtain ⟨n, ⟨_, _, _, e, _⟩, _⟩ := W.box; rw [z, e] at h; cases h)]
    cases q : M a with
    | some x => have := W.mh _ _ q; rw [h] at this; cases this; exact (W.nt a _ q).elim
    | none => exact h
  · exact .inr h
/-- a number is drawn -/
theorem Wd.take (W : Wd p T M H (f + 1)) {m : Int} {Q : VK} (m0 : 0 < m) (m1 : m < 2 ^ 200) (k : ∀ H' d, Wd p T M H' f → 0 ≤ d → d < m → (∀ b, H b = none → H' b = none) → Q (.int d) H') : spTake [.ref p, .int m] H Q E0 := by
  obtain ⟨n, B, l⟩ := W.box
  refine ⟨p, m, n, rfl, B, by omega, m0, m1, fun H' d b B' d0 d1 fr => k H' d ⟨fun c o e => b _ _ (W.th _ _ e) (ne_of_none e W.tp), fun c o e => b _ _ (W.mh _ _ e) (ne_of_none e W.mp), W.dis, W.nt, W.tp, W.mp, n + 1, B', by omega⟩ d0 d1 fr⟩
theorem Wd.tk (W : Wd p T M H (f + 1)) : ∃ n, BoxAt H p n ∧ n ≤ 2 ^ 37 ∧ ∀ {H'}, But p H H' → BoxAt H' p (n + 1) → Wd p T M H' f := by
  obtain ⟨n, B, l⟩ := W.box
  exact ⟨n, B, by omega, fun b B' => ⟨fun c o e => b _ _ (W.th _ _ e) (ne_of_none e W.tp), fun c o e => b _ _ (W.mh _ _ e) (ne_of_none e W.mp), W.dis, W.nt, W.tp, W.mp, n + 1, B', by omega⟩⟩
/-- one of a list -/
theorem Wd.of_ (W : Wd p T M H (f + 1)) {l : Addr} {xs : List V} {Q : VK} (hl : T l = some (.lst xs)) (l0 : 0 < xs.length) (l1 : xs.length ≤ 1000) (k : ∀ H' v, v ∈ xs → Wd p T M H' f → Q v H') : spOf [.ref p, .ref l] H Q E0 := by
  obtain ⟨n, B, le⟩ := W.box
  refine ⟨p, l, n, xs, rfl, B, by omega, W.th _ _ hl, ne_of_none hl W.tp, l0, l1, fun H' v hv b B' fr => k H' v hv ⟨fun c o e => b _ _ (W.th _ _ e) (ne_of_none e W.tp), fun c o e => b _ _ (W.mh _ _ e) (ne_of_none e W.mp), W.dis, W.nt, W.tp, W.mp, n + 1, B', by omega⟩⟩
theorem Wd.gb (W : Wd p T M H f) {n f' : Nat} (g : GB p T H T' H') (B : BoxAt H' p n) (l : n + f' ≤ 2 ^ 37) : Wd p T' M H' f' :=
  ⟨g.th, fun c o e => g.hh _ _ (W.mh _ _ e) (ne_of_none e W.mp), fun b e => g.new b (W.dis b e) (fun z => by
    cases q : M b with
    | none => exact e q
    | some x => rw [W.mh _ _ q] at z; cases z), W.nt, g.new p W.tp W.pne, W.mp, n, B, l⟩
end
end Ov
namespace Ov
open PySem PySem.Spec PyProof.Rows L2
/-! ### what expressions give in the world of a law; c: how much is drawn -/
def Ev (p : Addr) (M : Hp) (c : Nat) (t : TE) (σ : L2.St) (T : Hp) (R : Hp → V → Prop) : Prop :=
  ∀ T1 H f Q, Same T T1 → Wd p T1 M H (f + c) → (∀ T' H' v, Same T1 T' → Wd p T' M H' f → R T' v → Q v H') → t σ H Q
def EvA (p : Addr) (M : Hp) (c : Nat) (t : TA) (σ : L2.St) (T : Hp) (R : Hp → List V → Prop) : Prop :=
  ∀ T1 H f Q, Same T T1 → Wd p T1 M H (f + c) → (∀ T' H' v, Same T1 T' → Wd p T' M H' f → R T' v → Q v H') → t σ H Q
def EvO (p : Addr) (M : Hp) (c : Nat) (t : TO) (σ : L2.St) (T : Hp) (o : Option Int) : Prop :=
  ∀ T1 H f Q, Same T T1 → Wd p T1 M H (f + c) → (∀ T' H', Same T1 T' → Wd p T' M H' f → Q o H') → t σ H Q
def Mon {α : Type} (R : Hp → α → Prop) : Prop := ∀ T T' v, Same T T' → R T v → R T' v
abbrev IsV (v0 : V) : Hp → V → Prop := fun _ v => v = v0
abbrev IntV (lo hi : Int) : Hp → V → Prop := fun _ v => ∃ d : Int, v = .int d ∧ lo ≤ d ∧ d < hi
abbrev TupV (K : PySem.W.Frag) (xs : List V) : Hp → V → Prop := fun T v => ∃ a, v = .ref a ∧ SqT K T a xs
abbrev BytV (K : PySem.W.Frag) (cnt : Int) (m : Nat) : Hp → V → Prop := fun T v => ∃ (a : Addr) (bs : List Int), v = .ref a ∧ SqT K T a (bs.map V.int) ∧ bs.length ≤ m ∧ ∀ b ∈ bs, 0 ≤ b ∧ b < cnt
abbrev DxV (K : PySem.W.Frag) (d : PyData) : Hp → V → Prop := fun T v => Dx K T v d
abbrev LstV (P : Hp → List V → Prop) : Hp → V → Prop := fun T v => ∃ a xs, v = .ref a ∧ T a = some (.lst xs) ∧ P T xs
section
variable {K : PySem.W.Frag} {p : Addr} {T T' M H H' : Hp} {σ : L2.St} {c c1 c2 : Nat} {ta tb te : TE} {R R1 R2 : Hp → V → Prop}
theorem mon_is (v : V) : Mon (IsV v) := fun _ _ _ _ h => h
theorem mon_int (a b : Int) : Mon (IntV a b) := fun _ _ _ _ h => h
theorem mon_tup (xs : List V) : Mon (TupV K xs) := fun _ _ _ s h => by obtain ⟨a, e, h⟩ := h; exact ⟨a, e, s.tup h⟩
theorem mon_byt (cnt : Int) (m : Nat) : Mon (BytV K cnt m) := fun _ _ _ s h => by obtain ⟨a, bs, e, h, r⟩ := h; exact ⟨a, bs, e, s.tup h, r⟩
theorem mon_dx (d : PyData) : Mon (DxV K d) := fun _ _ _ s h => Dx.same s h
theorem mon_lst {P : Hp → List V → Prop} (m : Mon P) : Mon (LstV P) := fun _ _ _ s h => by obtain ⟨a, xs, e, h, r⟩ := h; exact ⟨a, xs, e, s _ _ h, m _ _ _ s r⟩
theorem Ev.imp (e : Ev p M c te σ T R1) (h : ∀ T' v, Same T T' → R1 T' v → R T' v) : Ev p M c te σ T R := fun T1 H f Q s W k => e T1 H f Q s W fun T' H' v s' W' r => k T' H' v s' W' (h T' v (s.trans s') r)
theorem Ev.mono (e : Ev p M c1 te σ T R) (h : c1 ≤ c) : Ev p M c te σ T R := fun T1 H f Q s W k => e T1 H (f + (c - c1)) Q s (W.mono (by omega)) fun T' H' v s' W' r => k T' H' v s' (W'.mono (by omega)) r
theorem ev_var {i : Nat} {v : V} (h : σ[i]? = some (some v)) (r : ∀ T', Same T T' → R T' v) : Ev p M 0 (tVar i) σ T R := fun T1 H f Q s W k => ⟨v, h, k T1 H v (Same.refl _) W (r T1 s)⟩
theorem ev_is {i : Nat} {v : V} (h : σ[i]? = some (some v)) : Ev p M 0 (tVar i) σ T (IsV v) := ev_var h fun _ _ => rfl
theorem ev_c (v : V) : Ev p M 0 (tC v) σ T (IsV v) := fun T1 H f Q s W k => k T1 H v (Same.refl _) W rfl
theorem Ev.two {r : V → V → Hp → VK → Prop} (e1 : Ev p M c1 ta σ T R1) (m1 : Mon R1) (e2 : Ev p M c2 tb σ T R2)
    (h : ∀ T1 H f v w Q, Same T T1 → Wd p T1 M H f → R1 T1 v → R2 T1 w → (∀ T' H' z, Same T1 T' → Wd p T' M H' f → R T' z → Q z H') → r v w H Q) : Ev p M (c1 + c2) (tOp r ta tb) σ T R := fun T1 H f Q s W k =>
  e1 T1 H (f + c2) _ s (W.mono (by omega)) fun T2 H2 v s2 W2 r1 => e2 T2 H2 f _ (s.trans s2) W2 fun T3 H3 w s3 W3 r2 => h T3 H3 f v w Q (s.trans (s2.trans s3)) W3 (m1 _ _ _ s3 r1) r2 fun T4 H4 z s4 W4 r4 => k T4 H4 z (s2.trans (s3.trans s4)) W4 r4
theorem ev_ints {g : Int → Int → V} {i j : Int} (e1 : Ev p M c1 ta σ T (IsV (.int i))) (e2 : Ev p M c2 tb σ T (IsV (.int j))) : Ev p M (c1 + c2) (tOp (rI0 g) ta tb) σ T (IsV (g i j)) :=
  e1.two (mon_is _) e2 fun T1 H f v w Q s W h1 h2 k => ⟨i, j, h1, h2, k T1 H _ (Same.refl _) W rfl⟩
theorem ev_intsP {g : Int → Int → V} (e1 : Ev p M c1 ta σ T R1) (m1 : Mon R1) (e2 : Ev p M c2 tb σ T R2) (h : ∀ T' v w, R1 T' v → R2 T' w → ∃ i j, v = .int i ∧ w = .int j ∧ R T' (g i j)) : Ev p M (c1 + c2) (tOp (rI0 g) ta tb) σ T R :=
  e1.two m1 e2 fun T1 H f v w Q s W h1 h2 k => by
    obtain ⟨i, j, ei, ej, r⟩ := h T1 v w h1 h2
    exact ⟨i, j, ei, ej, k T1 H _ (Same.refl _) W r⟩
theorem ev_cat {xs ys : List V} (e1 : Ev p M c1 ta σ T (TupV K xs)) (e2 : Ev p M c2 tb σ T (TupV K ys)) (hl : xs.length + ys.length ≤ sizeLine) : Ev p M (c1 + c2) (tOp (rCatA K) ta tb) σ T (TupV K (xs ++ ys)) :=
  e1.two (mon_tup _) e2 fun T1 H f v w Q s W h1 h2 k => by
    obtain ⟨a, rfl, ha⟩ := h1
    obtain ⟨b, rfl, hb⟩ := h2
    refine ⟨a, b, xs, ys, rfl, rfl, W.th.tup ha, W.th.tup hb, hl, fun e => ?_, fun _ e => ?_, fun _ _ q np => ?_⟩
    · subst e; exact k T1 H _ (Same.refl _) W ⟨b, rfl, hb⟩
    · subst e; exact k T1 H _ (Same.refl _) W ⟨a, rfl, by rw [List.append_nil]; exact ha⟩
    · exact k _ _ _ (W.putT _ np) (W.put _ np) ⟨q, rfl, SqT.of upd_same⟩
theorem ev_catB {cnt : Int} {m1 m2 : Nat} (e1 : Ev p M c1 ta σ T (BytV K cnt m1)) (e2 : Ev p M c2 tb σ T (BytV K cnt m2)) (hl : m1 + m2 ≤ 100000) : Ev p M (c1 + c2) (tOp (rCatA K) ta tb) σ T (BytV K cnt (m1 + m2)) :=
  e1.two (mon_byt _ _) e2 fun T1 H f v w Q s W h1 h2 k => by
    obtain ⟨a, xs, rfl, ha, lx, bx⟩ := h1
    obtain ⟨b, ys, rfl, hb, ly, bys⟩ := h2
    have res : ∀ {q : Addr} {T2 : Hp}, SqT K T2 q (xs.map V.int ++ ys.map V.int) → BytV K cnt (m1 + m2) T2 (.ref q) := fun {q T2} h => ⟨q, xs ++ ys, rfl, by rw [List.map_append]; exact h, by rw [List.length_append]; omega, fun z hz => (List.mem_append.mp hz).elim (bx z) (bys z)⟩
    refine ⟨a, b, _, _, rfl, rfl, W.th.tup ha, W.th.tup hb, by rw [List.length_map, List.length_map, sizeLine_eq]; omega, fun e => ?_, fun _ e => ?_, fun _ _ q np => ?_⟩
    · exact k T1 H _ (Same.refl _) W (res (by rw [e]; exact hb))
    · exact k T1 H _ (Same.refl _) W (res (by rw [e, List.append_nil]; exact ha))
    · exact k _ _ _ (W.putT _ np) (W.put _ np) (res (SqT.of upd_same))
theorem evo_none : EvO p M 0 tNoPart σ T none := fun T1 H f Q s W k => k T1 H (Same.refl _) W
theorem evo_some {i : Int} (e : Ev p M c te σ T (IsV (.int i))) : EvO p M c (tPart te) σ T (some i) := fun T1 H f Q s W k => e T1 H f _ s W fun T' H' v s' W' r => ⟨i, r, k T' H' s' W'⟩
theorem ev_sl {xs : List V} {lo hi : Option Int} {tl th : TO} {c3 : Nat} (e1 : Ev p M c1 te σ T (TupV K xs)) (e2 : EvO p M c2 tl σ T lo) (e3 : EvO p M c3 th σ T hi) : Ev p M (c1 + c2 + c3) (tSl (rSlA K) te tl th) σ T (TupV K (cutV xs lo hi)) := fun T1 H f Q s W k =>
  e1 T1 H (f + c3 + c2) _ s (W.mono (by omega)) fun T2 H2 v s2 W2 r2 => e2 T2 H2 (f + c3) _ (s.trans s2) W2 fun T3 H3 s3 W3 => e3 T3 H3 f _ (s.trans (s2.trans s3)) W3 fun T4 H4 s4 W4 => by
    obtain ⟨a, rfl, ha⟩ := r2
    have ha4 := (s3.trans s4).tup ha
    refine ⟨a, xs, rfl, W4.th.tup ha4, fun e => ?_, fun _ q np => ?_⟩
    · exact k _ _ _ (s2.trans (s3.trans s4)) W4 ⟨a, rfl, by rw [cut_all e]; exact ha4⟩
    · exact k _ _ _ ((s2.trans (s3.trans s4)).trans (W4.putT _ np)) (W4.put _ np) ⟨q, rfl, SqT.of upd_same⟩
theorem cut_intsW (ns : List Int) (lo hi : Option Int) : ∃ ms : List Int, cutV (ns.map V.int) lo hi = ms.map V.int ∧ ms.length ≤ ns.length ∧ ∀ x ∈ ms, x ∈ ns := by
  refine ⟨(ns.drop (HT.sIx (ns.map V.int).length 0 lo)).take (HT.sIx (ns.map V.int).length (ns.map V.int).length hi - HT.sIx (ns.map V.int).length 0 lo), ?_, ?_, ?_⟩
  · unfold cutV
    rw [List.map_take, List.map_drop]
  · rw [List.length_take, List.length_drop]
    omega
  · exact fun x hx => List.mem_of_mem_drop (List.mem_of_mem_take hx)
theorem ev_slB {cnt : Int} {m : Nat} {lo hi : Option Int} {tl th : TO} {c3 : Nat} (e1 : Ev p M c1 te σ T (BytV K cnt m)) (e2 : EvO p M c2 tl σ T lo) (e3 : EvO p M c3 th σ T hi) : Ev p M (c1 + c2 + c3) (tSl (rSlA K) te tl th) σ T (BytV K cnt m) := fun T1 H f Q s W k =>
  e1 T1 H (f + c3 + c2) _ s (W.mono (by omega)) fun T2 H2 v s2 W2 r2 => e2 T2 H2 (f + c3) _ (s.trans s2) W2 fun T3 H3 s3 W3 => e3 T3 H3 f _ (s.trans (s2.trans s3)) W3 fun T4 H4 s4 W4 => by
    obtain ⟨a, bs, rfl, ha, lb, bb⟩ := r2
    obtain ⟨ms, em, lm, im⟩ := cut_intsW bs lo hi
    have ha4 := (s3.trans s4).tup ha
    refine ⟨a, _, rfl, W4.th.tup ha4, fun e => ?_, fun _ q np => ?_⟩
    · exact k _ _ _ (s2.trans (s3.trans s4)) W4 ⟨a, bs, rfl, ha4, lb, bb⟩
    · exact k _ _ _ ((s2.trans (s3.trans s4)).trans (W4.putT _ np)) (W4.put _ np) ⟨q, ms, rfl, by rw [← em]; exact SqT.of upd_same, by omega, fun z hz => bb z (im z hz)⟩
theorem eva_nil : EvA p M 0 tNil σ T (fun _ vs => vs = []) := fun T1 H f Q s W k => k T1 H [] (Same.refl _) W rfl
theorem eva_cons {tr : TA} {Rs : Hp → List V → Prop} (e1 : Ev p M c1 ta σ T R1) (m1 : Mon R1) (e2 : EvA p M c2 tr σ T Rs) : EvA p M (c1 + c2) (tCons ta tr) σ T (fun T' vs => ∃ v vr, vs = v :: vr ∧ R1 T' v ∧ Rs T' vr) := fun T1 H f Q s W k =>
  e1 T1 H (f + c2) _ s (W.mono (by omega)) fun T2 H2 v s2 W2 r1 => e2 T2 H2 f _ (s.trans s2) W2 fun T3 H3 vr s3 W3 r2 => k T3 H3 _ (s2.trans s3) W3 ⟨v, vr, rfl, m1 _ _ _ s3 r1, r2⟩
/-- all of them R -/
abbrev AllV (R : Hp → V → Prop) (n : Nat) : Hp → List V → Prop := fun T vs => vs.length = n ∧ ∀ v ∈ vs, R T v
theorem mon_all (m : Mon R) (n : Nat) : Mon (AllV R n) := fun _ _ _ s h => ⟨h.1, fun v hv => m _ _ _ s (h.2 v hv)⟩
theorem eva_nil' : EvA p M 0 tNil σ T (AllV R 0) := fun T1 H f Q s W k => k T1 H [] (Same.refl _) W ⟨rfl, fun _ h => nomatch h⟩
theorem eva_all {tr : TA} {n : Nat} (m : Mon R) (e1 : Ev p M c1 ta σ T R) (e2 : EvA p M c2 tr σ T (AllV R n)) : EvA p M (c1 + c2) (tCons ta tr) σ T (AllV R (n + 1)) := fun T1 H f Q s W k =>
  e1 T1 H (f + c2) _ s (W.mono (by omega)) fun T2 H2 v s2 W2 r1 => e2 T2 H2 f _ (s.trans s2) W2 fun T3 H3 vr s3 W3 r2 => k T3 H3 _ (s2.trans s3) W3 ⟨by rw [List.length_cons, r2.1], fun u hu => by
    rcases List.mem_cons.mp hu with rfl | hu
    · exact m _ _ _ s3 r1
    · exact r2.2 u hu⟩
theorem ev_lst {t : TA} {P : Hp → List V → Prop} (m : Mon P) (e : EvA p M c t σ T P) (hl : ∀ T' vs, P T' vs → vs.length ≤ sizeLine) : Ev p M c (tLst t) σ T (LstV P) := fun T1 H f Q s W k =>
  e T1 H f _ s W fun T2 H2 vs s2 W2 r => ⟨hl _ _ r, fun q np => k _ _ _ (s2.trans (W2.putT _ np)) (W2.put _ np) ⟨q, vs, rfl, upd_same, m _ _ _ (W2.putT _ np) r⟩⟩
theorem ev_tup {t : TA} {P : Hp → List V → Prop} (m : Mon P) (e : EvA p M c t σ T P) (hl : ∀ T' vs, P T' vs → vs.length ≤ sizeLine) : Ev p M c (tTup t) σ T (fun T' v => ∃ a xs, v = .ref a ∧ T' a = some (.tup xs) ∧ P T' xs) := fun T1 H f Q s W k =>
  e T1 H f _ s W fun T2 H2 vs s2 W2 r => ⟨hl _ _ r, fun q np => k _ _ _ (s2.trans (W2.putT _ np)) (W2.put _ np) ⟨q, vs, rfl, upd_same, m _ _ _ (W2.putT _ np) r⟩⟩
theorem ev_tup1B {cnt : Int} (e : Ev p M c ta σ T (IntV 0 cnt)) : Ev p M (c + 0) (tTup (tCons ta tNil)) σ T (BytV K cnt 1) :=
  (ev_tup (P := fun T' vs => ∃ v vr, vs = v :: vr ∧ IntV 0 cnt T' v ∧ vr = []) (fun _ _ _ _ h => h) (eva_cons e (mon_int _ _) eva_nil) (fun T' vs h => by obtain ⟨v, vr, rfl, _, rfl⟩ := h; show 1 ≤ sizeLine; decide)).imp fun T' v s h => by
    obtain ⟨a, xs, rfl, ha, v, vr, rfl, ⟨d, rfl, d0, d1⟩, rfl⟩ := h
    exact ⟨a, [d], rfl, SqT.of ha, by simp, fun b hb => by rw [List.mem_singleton.mp hb]; exact ⟨d0, d1⟩⟩
theorem ev_take {m : Int} (e1 : Ev p M c1 ta σ T (IsV (.ref p))) (e2 : Ev p M c2 tb σ T (IsV (.int m))) (m0 : 0 < m) (m1 : m < 2 ^ 200) : Ev p M (c1 + c2 + 1) (tCall spTake [] E0 (tCons ta (tCons tb tNil))) σ T (IntV 0 m) := fun T1 H f Q s W k =>
  e1 T1 H (f + 1 + c2) _ s (W.mono (by omega)) fun T2 H2 v s2 W2 r1 => e2 T2 H2 (f + 1) _ (s.trans s2) W2 fun T3 H3 w s3 W3 r2 => by
    cases r1; cases r2
    show spTake [.ref p, .int m] H3 Q E0
    exact W3.take m0 m1 fun H4 d W4 d0 d1 _ => k T3 H4 _ (s2.trans s3) W4 ⟨d, rfl, d0, d1⟩
theorem ev_of {P : Hp → List V → Prop} (e1 : Ev p M c1 ta σ T (IsV (.ref p))) (e2 : Ev p M c2 tb σ T (LstV P)) (h : ∀ T' xs, Same T T' → P T' xs → 0 < xs.length ∧ xs.length ≤ 1000 ∧ ∀ v ∈ xs, R T' v) : Ev p M (c1 + c2 + 1) (tCall spOf [] E0 (tCons ta (tCons tb tNil))) σ T R := fun T1 H f Q s W k =>
  e1 T1 H (f + 1 + c2) _ s (W.mono (by omega)) fun T2 H2 v s2 W2 r1 => e2 T2 H2 (f + 1) _ (s.trans s2) W2 fun T3 H3 w s3 W3 r2 => by
    cases r1
    obtain ⟨a, xs, rfl, ha, r⟩ := r2
    obtain ⟨l0, l1, al⟩ := h T3 xs (s.trans (s2.trans s3)) r
    show spOf [.ref p, .ref a] H3 Q E0
    exact W3.of_ ha l0 l1 fun H4 d hd W4 => k T3 H4 _ (s2.trans s3) W4 (al d hd)
/-- lists joined -/
theorem ev_catL {P1 P2 P : Hp → List V → Prop} (e1 : Ev p M c1 ta σ T (LstV P1)) (m1 : Mon P1) (e2 : Ev p M c2 tb σ T (LstV P2)) (h : ∀ T' xs ys, P1 T' xs → P2 T' ys → P T' (xs ++ ys) ∧ xs.length + ys.length ≤ sizeLine) (m : Mon P) : Ev p M (c1 + c2) (tOp rCat ta tb) σ T (LstV P) :=
  e1.two (mon_lst m1) e2 fun T1 H f v w Q s W h1 h2 k => by
    obtain ⟨a, xs, rfl, ha, r1⟩ := h1
    obtain ⟨b, ys, rfl, hb, r2⟩ := h2
    obtain ⟨r, hl⟩ := h T1 xs ys r1 r2
    exact ⟨a, b, xs, ys, rfl, rfl, W.th _ _ ha, W.th _ _ hb, hl, fun q np => k _ _ _ (W.putT _ np) (W.put _ np) ⟨q, _, rfl, upd_same, m _ _ _ (W.putT _ np) r⟩⟩
theorem ev_ix {xs : List V} {j : Int} {v : V} (e1 : Ev p M c1 ta σ T (TupV K xs)) (e2 : Ev p M c2 tb σ T (IsV (.int j))) (h : atI xs j = some v) : Ev p M (c1 + c2) (tOp (rIxT K) ta tb) σ T (IsV v) :=
  e1.two (mon_tup _) e2 fun T1 H f u w Q s W h1 h2 k => by
    obtain ⟨a, rfl, ha⟩ := h1
    exact ⟨a, xs, j, v, rfl, h2, W.th.tup ha, h, k T1 H _ (Same.refl _) W rfl⟩
theorem ev_len {xs : List V} (e : Ev p M c te σ T (TupV K xs)) : Ev p M (c + 0) (tCB (fun args H Q => ∃ a ys, args = [V.ref a] ∧ (SqL K H a ys ∨ SqT K H a ys) ∧ Q (.int ys.length) H) (tCons te tNil)) σ T (IsV (.int xs.length)) := fun T1 H f Q s W k =>
  e T1 H f _ s W fun T2 H2 v s2 W2 r => by
    obtain ⟨a, rfl, ha⟩ := r
    exact ⟨a, xs, rfl, .inr (W2.th.tup ha), k _ _ _ s2 W2 rfl⟩
/-- tuple(list) of what stands -/
theorem ev_tupL {P : Hp → List V → Prop} (e : Ev p M c te σ T (LstV P)) (m : Mon P) : Ev p M (c + 0) (tCB (fun xs H Q => ∃ a ys, xs = [V.ref a] ∧ ((SqL K H a ys ∧ ∀ l, H l = none → Q (.ref l) (upd H l (.tup ys))) ∨ (SqT K H a ys ∧ Q (.ref a) H))) (tCons te tNil)) σ T (fun T' v => ∃ a xs, v = .ref a ∧ T' a = some (.tup xs) ∧ P T' xs) := fun T1 H f Q s W k =>
  e T1 H f _ s W fun T2 H2 v s2 W2 r => by
    obtain ⟨a, xs, rfl, ha, r⟩ := r
    exact ⟨a, xs, rfl, .inl ⟨SqL.of (W2.th _ _ ha), fun l nl => k _ _ _ (s2.trans (W2.putT _ nl)) (W2.put _ nl) ⟨l, xs, rfl, upd_same, m _ _ _ (W2.putT _ nl) r⟩⟩⟩
/-! ### statements -/
theorem st_set {i F : Nat} {D : Ends} {u : TS} (e : Ev p M c te σ T R) (W : Wd p T M H F) (k : ∀ T' H' v, Same T T' → Wd p T' M H' (F - c) → R T' v → u D (σ.set i (some v)) H') (hf : c ≤ F := by omega) : tSeq (tAsg te (gName i)) u D σ H :=
  e T H (F - c) _ (Same.refl _) (W.mono (by omega)) k
theorem st_par {i j F : Nat} {D : Ends} {u : TS} (e1 : Ev p M c1 ta σ T R1) (m1 : Mon R1) (e2 : Ev p M c2 tb σ T R2) (W : Wd p T M H F) (k : ∀ T' H' v w, Same T T' → Wd p T' M H' (F - (c1 + c2)) → R1 T' v → R2 T' w → u D ((σ.set i (some v)).set j (some w)) H') (hf : c1 + c2 ≤ F := by omega) : tSeq (tPar i j (tCons ta (tCons tb tNil))) u D σ H :=
  e1 T H (F - (c1 + c2) + c2) _ (Same.refl _) (W.mono (by omega)) fun T1 H1 v s1 W1 r1 => e2 T1 H1 (F - (c1 + c2)) _ s1 W1 fun T2 H2 w s2 W2 r2 => ⟨v, w, rfl, k T2 H2 v w (s1.trans s2) W2 (m1 _ _ _ s2 r1) r2⟩
theorem st_ret {F : Nat} {D : Ends} (e : Ev p M c te σ T R) (W : Wd p T M H F) (k : ∀ T' H' v, Same T T' → Wd p T' M H' (F - c) → R T' v → D.rt v H') (hf : c ≤ F := by omega) : tRet te D σ H :=
  e T H (F - c) _ (Same.refl _) (W.mono (by omega)) k
/-! ### comprehensions -/
theorem lcW_tup {a D : Addr} {xs : List V} {g : TG} {tt : TT} {te : TE} {vs : List Nat} {Qd : Hp → Prop} {F : Nat} (W : Wd p T M H F) (nD : H D = none) (ha : SqT K T a xs) (hx : xs.length ≤ 100000) (c : Nat) (P : Nat → Hp → List V → Prop) (p0 : P 0 T []) (hf : c * xs.length ≤ F)
    (hs : ∀ (i : Nat) (x : V) (T' H' : Hp) (acc : List V) (f : Nat) (N : V → Hp → Prop) (N0 : Hp → Prop), xs[i]? = some x → Same T T' → Wd p T' (upd M D (.lst acc)) H' (f + c) → P i T' acc →
      (∀ T2 H4 y, Same T' T2 → Wd p T2 (upd M D (.lst acc)) H4 f → P (i + 1) T2 (acc ++ [y]) → N y H4) → (∀ T2 H3, Same T' T2 → Wd p T2 (upd M D (.lst acc)) H3 f → P (i + 1) T2 acc → N0 H3) →
      g x (wipe σ vs) H' fun σ2 H2 => wipe σ2 vs = wipe σ vs ∧ tt σ2 H2 fun b H3 => if b = true then te σ2 H3 N else N0 H3)
    (hd : ∀ T' H' acc, Same T T' → Wd p T' (upd M D (.lst acc)) H' (F - c * xs.length) → P xs.length T' acc → acc.length ≤ xs.length → Qd H') :
    ∃ W : Nat → Nat → Hp → Prop, (∃ m, W 0 m (upd H D (.lst []))) ∧ ∀ i m H, W i m H →
      ((Itt K a).stop i H ∧ Qd H) ∨ ((Itt K a).go i H ∧ ∃ Nx : Hp → Prop, (∀ H', Nx H' → ∃ m', m' < m ∧ W (i + 1) m' H') ∧ ∀ x H', (Itt K a).yld i H x H' → g x (wipe σ vs) H' fun σ2 H2 => wipe σ2 vs = wipe σ vs ∧ tt σ2 H2 fun b H3 =>
        if b = true then te σ2 H3 fun y H4 => ∃ acc, H4 D = some (.lst acc) ∧ acc.length < sizeLine ∧ Nx (upd H4 D (.lst (acc ++ [y]))) else Nx H3) := by
  refine lc_tup (K := K) (a := a) (xs := xs) (fun i G => ∃ T' acc, Same T T' ∧ Wd p T' (upd M D (.lst acc)) G (F - c * i) ∧ P i T' acc ∧ acc.length ≤ i) ⟨T, [], Same.refl _, W.newM _ nD trivial, p0, Nat.le_refl _⟩ (fun i G _ ⟨T', acc, s, W', _⟩ => W'.th.tup (s.tup ha)) ?_ ?_
  · rintro i x G hi ⟨T', acc, s, W', pi, la⟩
    have il : i < xs.length := (List.getElem?_eq_some_iff.mp hi).1
    have e1 : c * i + c ≤ c * xs.length := by
      rw [← Nat.mul_succ]
      exact Nat.mul_le_mul_left c il
    have e2 : c * (i + 1) = c * i + c := Nat.mul_succ c i
    refine hs i x T' G acc (F - c * (i + 1)) _ _ hi s (W'.mono (by omega)) pi (fun T2 H4 y s2 W2 p2 => ⟨acc, W2.at, by rw [sizeLine_eq]; omega, T2, acc ++ [y], s.trans s2, W2.setL _ trivial, p2, by rw [List.length_append, List.length_singleton]; omega⟩) (fun T2 H3 s2 W2 p2 => ⟨T2, acc, s.trans s2, W2, p2, by omega⟩)
  · rintro G ⟨T', acc, s, W', pi, la⟩
    exact hd T' G acc s W' pi la
theorem lcW_range {D : Addr} {n : Nat} {lo : Int} {g : TG} {tt : TT} {te : TE} {vs : List Nat} {Qd : Hp → Prop} {F : Nat} (W : Wd p T M H F) (nD : H D = none) (hx : n ≤ 100000) (c : Nat) (P : Nat → Hp → List V → Prop) (p0 : P 0 T []) (hf : c * n ≤ F)
    (hs : ∀ (i : Nat) (T' H' : Hp) (acc : List V) (f : Nat) (N : V → Hp → Prop) (N0 : Hp → Prop), i < n → Same T T' → Wd p T' (upd M D (.lst acc)) H' (f + c) → P i T' acc →
      (∀ T2 H4 y, Same T' T2 → Wd p T2 (upd M D (.lst acc)) H4 f → P (i + 1) T2 (acc ++ [y]) → N y H4) → (∀ T2 H3, Same T' T2 → Wd p T2 (upd M D (.lst acc)) H3 f → P (i + 1) T2 acc → N0 H3) →
      g (.int (lo + i)) (wipe σ vs) H' fun σ2 H2 => wipe σ2 vs = wipe σ vs ∧ tt σ2 H2 fun b H3 => if b = true then te σ2 H3 N else N0 H3)
    (hd : ∀ T' H' acc, Same T T' → Wd p T' (upd M D (.lst acc)) H' (F - c * n) → P n T' acc → acc.length ≤ n → Qd H') :
    ∃ W : Nat → Nat → Hp → Prop, (∃ m, W 0 m (upd H D (.lst []))) ∧ ∀ i m H, W i m H →
      ((Itr lo n).stop i H ∧ Qd H) ∨ ((Itr lo n).go i H ∧ ∃ Nx : Hp → Prop, (∀ H', Nx H' → ∃ m', m' < m ∧ W (i + 1) m' H') ∧ ∀ x H', (Itr lo n).yld i H x H' → g x (wipe σ vs) H' fun σ2 H2 => wipe σ2 vs = wipe σ vs ∧ tt σ2 H2 fun b H3 =>
        if b = true then te σ2 H3 fun y H4 => ∃ acc, H4 D = some (.lst acc) ∧ acc.length < sizeLine ∧ Nx (upd H4 D (.lst (acc ++ [y]))) else Nx H3) := by
  refine lc_range (lo := lo) (n := n) (fun i G => ∃ T' acc, Same T T' ∧ Wd p T' (upd M D (.lst acc)) G (F - c * i) ∧ P i T' acc ∧ acc.length ≤ i) ⟨T, [], Same.refl _, W.newM _ nD trivial, p0, Nat.le_refl _⟩ ?_ ?_
  · rintro i G il ⟨T', acc, s, W', pi, la⟩
    have e1 : c * i + c ≤ c * n := by
      rw [← Nat.mul_succ]
      exact Nat.mul_le_mul_left c il
    have e2 : c * (i + 1) = c * i + c := Nat.mul_succ c i
    refine hs i T' G acc (F - c * (i + 1)) _ _ il s (W'.mono (by omega)) pi (fun T2 H4 y s2 W2 p2 => ⟨acc, W2.at, by rw [sizeLine_eq]; omega, T2, acc ++ [y], s.trans s2, W2.setL _ trivial, p2, by rw [List.length_append, List.length_singleton]; omega⟩) (fun T2 H3 s2 W2 p2 => ⟨T2, acc, s.trans s2, W2, p2, by omega⟩)
  · rintro G ⟨T', acc, s, W', pi, la⟩
    exact hd T' G acc s W' pi la
end
end Ov
namespace Ov
open PySem PySem.Spec PyProof.Rows L2
theorem la_hit {is : List I4} {b : Int} {i : Nat} (h : ∀ x ∈ is.take i, (x.op : Int) ≠ b) (hi : i < is.length) (e : ((is[i]).op : Int) = b) : laOf is b = (is[i]).ln := by
  unfold laOf
  have z : is.find? (fun x => decide ((x.op : Int) = b)) = some is[i] := by
    have sp : is = is.take i ++ is[i] :: is.drop (i + 1) := by rw [List.getElem_cons_drop, List.take_append_drop]
    generalize is[i] = y at *
    rw [sp, List.find?_append, List.find?_eq_none.mpr (fun x hx => by rw [decide_eq_true_eq]; exact h x hx), Option.none_or, List.find?_cons, decide_eq_true e]
  rw [z]
theorem la_miss {is : List I4} {b : Int} (h : ∀ x ∈ is, (x.op : Int) ≠ b) : laOf is b = 0 := by
  unfold laOf
  rw [List.find?_eq_none.mpr (fun x hx => by rw [decide_eq_true_eq]; exact h x hx)]
theorem But.tup {K : PySem.W.Frag} {H H' : Hp} {l d : Addr} {xs ys : List V} (b : But l H H') (hl : H l = some (.lst xs)) (h : SqT K H d ys) : SqT K H' d ys := by
  rcases h with (h | ⟨o, h⟩) | h
  · exact .inl (.inl (b _ _ h (fun z => by rw [z, hl] at h; cases h)))
  · exact .inl (.inr ⟨o, b _ _ h (fun z => by rw [z, hl] at h; cases h)⟩)
  · exact .inr h
section
variable {P : Program} {w : World} {K : PySem.W.Frag} {mg : Str → Option Value} {base : Heap}
/-! ### _law_length_at -/
def spLLenAt : Sp := fun vs H Q _ => ∃ (t it : Addr) (cnt lg : Nat) (is : List I4) (rs : List Addr) (b : Int), vs = [.ref t, .int b] ∧ Tab H t cnt lg is it rs ∧ Q (.int (laOf is b : Int)) H
theorem scLLenAt : FnScope ["_law_table_here", "_law_byte", "_law_opcode", "_law_name", "_law_length", "_law_is_padding"] ["_law_table_here", "_law_byte"] (defScope sLLenAt) := ⟨rfl, rfl, rfl, by decide +kernel, rfl, by decide +kernel, by decide +kernel⟩
theorem ok_llenAt {f : Addr} {fd : FuncData} {k : Nat} (F : Fun K "_law_length_at" "_law_length_at" sLLenAt f fd) : FnOk P w K mg base CX0 (k + 1) f fd ["_law_table_here", "_law_byte"] spLLenAt := by
  refine F.ok scLLenAt (fun vs H Q E h => ?_) (fun cdv A' outer s H vs Q E hr h => ?_)
  · obtain ⟨t, it, cnt, lg, is, rs, b, rfl, _⟩ := h
    rfl
  · obtain ⟨t, it, cnt, lg, is, rs, b, rfl, Tb, q⟩ := h
    refine ⟨_, pss_cons (ps_for PassesOwn.never rfl (pi_tup (pe_ix ix_tup (pv 0) pe_int (fun _ _ => rfl))) (pg_tup rfl (pgs_cons (pg_name (i := 2) scLLenAt.nd rfl (.inl rfl)) (pgs_cons (pg_name (i := 3) scLLenAt.nd rfl (.inl rfl)) (pgs_cons (pg_name (i := 4) scLLenAt.nd rfl (.inl rfl)) (pgs_cons (pg_name (i := 5) scLLenAt.nd rfl (.inl rfl)) pgs_nil)))))
        (pss_one (ps_if (pt_cmpR op_eq (pv 2) (pv 1) (nomark _)) (pss_one (ps_ret (pv 4))) pss_nil)))
      (pss_one (ps_ret pe_int)), ?_⟩
    have i1 : ∀ x y : V, atI [x, y] 1 = some y := fun x y => atI_nat (j := 1) rfl
    have hit := Tb.its
    have rl := Tb.rows.1
    refine ⟨_, rfl, t, _, _, _, rfl, rfl, SqT.of Tb.at_, i1 _ _, it, rfl, ⟨_, SqT.of hit⟩, for_tup (K := K) (a := it) (xs := rs.map V.ref) (fun i σ H' => H' = H ∧ (∀ x ∈ is.take i, (x.op : Int) ≠ b) ∧ ∃ y2 y3 y4 y5, σ = [some (.ref t), some (.int b), y2, y3, y4, y5]) ⟨rfl, (fun x hx => by simp at hx), _, _, _, _, rfl⟩ (fun i σ H' _ ⟨e, _⟩ => by rw [e]; exact SqT.of hit) ?_ ?_⟩
    · rintro i x σ H' hx ⟨rfl, no, y2, y3, y4, y5, rfl⟩
      obtain ⟨hi, r, rfl, hr2, _⟩ := rows_at Tb.rows hx
      refine ⟨r, _, rfl, SqT.of hr2, rfl, _, _, rfl, _, _, rfl, _, _, rfl, _, _, rfl, rfl, ?_⟩
      refine ⟨_, rfl, _, rfl, rfl, _, rfl, ?_⟩
      by_cases h : ((is[i]).op : Int) = b
      · rw [decide_eq_true (by rw [h])]
        refine iteT ⟨_, rfl, ?_⟩
        rw [la_hit no hi h] at q
        exact q
      · rw [decide_eq_false (fun z => h (V.int.inj z))]
        refine iteF ⟨rfl, fun x hx => ?_, _, _, _, _, rfl⟩
        rw [take_more (List.getElem?_eq_getElem hi)] at hx
        rcases List.mem_append.mp hx with hx | hx
        · exact no x hx
        · rw [List.mem_singleton.mp hx]; exact h
    · rintro σ H' ⟨rfl, no, y2, y3, y4, y5, rfl⟩
      rw [List.length_map, rl, List.take_length] at no
      rw [la_miss no] at q
      exact q
end
end Ov
namespace Ov
open PySem PySem.Spec PyProof.Rows L2
/-! ### the law's own reading -/
def preD (is : List I4) (bs : List Int) (o : Nat) : PyData := .tuple [.int (bs.getD o 0), .tuple ((opsOf bs o (laOf is (bs.getD o 0))).map PyData.int)]
def rowI (x : I4) : PyData := .tuple [.int (x.op : Int), .str (txt x.nm), .int (x.ln : Int), .bool x.pad]
def knX (is : List I4) (bs : List Int) (o : Nat) : I4 := (is.find? (fun x => decide ((x.op : Int) = bs.getD o 0))).getD ⟨0, [], 0, false⟩
def knD (is : List I4) (bs : List Int) (o : Nat) : PyData := .tuple [rowI (knX is bs o), .tuple ((opsOf bs o (laOf is (bs.getD o 0))).map PyData.int)]
theorem dx_bool {K : PySem.W.Frag} {H : Hp} {v : V} {x : Bool} (h : Dx K H v (.bool x)) : v = .bl x := by cases h; rfl
theorem dx_two {K : PySem.W.Frag} {H : Hp} {v : V} {d e : PyData} (h : Dx K H v (.tuple [d, e])) : ∃ a x y, v = .ref a ∧ SqT K H a [x, y] ∧ Dx K H x d ∧ Dx K H y e := by
  obtain ⟨a, xs, rfl, h1, a1⟩ := dx_tup h
  cases a1 with
  | cons d1 a1 =>
    cases a1 with
    | cons d2 a1 =>
      cases a1
      exact ⟨a, _, _, rfl, h1, d1, d2⟩
theorem dx_rowI {K : PySem.W.Frag} {H : Hp} {v : V} {x : I4} (h : Dx K H v (rowI x)) : ∃ a, v = .ref a ∧ SqT K H a x.vs := by
  obtain ⟨a, xs, rfl, h1, a1⟩ := dx_tup h
  cases a1 with
  | cons d1 a1 =>
    cases a1 with
    | cons d2 a1 =>
      cases a1 with
      | cons d3 a1 =>
        cases a1 with
        | cons d4 a1 =>
          cases a1
          rw [dx_int d1, dx_str d2, dx_int d3, dx_bool d4] at h1
          exact ⟨a, rfl, h1⟩
theorem dx_row {K : PySem.W.Frag} {H : Hp} {r : Addr} {x : I4} (h : SqT K H r x.vs) : Dx K H (.ref r) (rowI x) := .tup h (.cons (.int _) (.cons (.str _) (.cons (.int _) (.cons (.bl _) .nil))))
def selO (is : List I4) (rs : List Addr) (b : Int) : List (Addr × I4) := (rs.zip is).filter fun q => decide ((q.2.op : Int) = b)
theorem selO_more {is : List I4} {rs : List Addr} {b : Int} {i : Nat} {r : Addr} {x : I4} (h1 : rs[i]? = some r) (h2 : is[i]? = some x) : selO (is.take (i + 1)) (rs.take (i + 1)) b = selO (is.take i) (rs.take i) b ++ (if (x.op : Int) = b then [(r, x)] else []) := by
  unfold selO
  have tz : ∀ j, (rs.take j).zip (is.take j) = (rs.zip is).take j := fun j => by simp only [List.zip, List.take_zipWith]
  rw [tz, tz, take_more (List.getElem?_zip_eq_some (z := (r, x)) |>.mpr ⟨h1, h2⟩), List.filter_append]
  by_cases e : (x.op : Int) = b
  · rw [if_pos e, List.filter_cons_of_pos (by simpa using e)]; rfl
  · rw [if_neg e, List.filter_cons_of_neg (by simpa using e)]; rfl
theorem find_zipO (f : I4 → Bool) : ∀ (rs : List Addr) (is : List I4), rs.length = is.length → ((rs.zip is).find? fun q => f q.2).map (·.2) = is.find? f
  | [], [], _ => rfl
  | [], _ :: _, h => by cases h
  | _ :: _, [], h => by cases h
  | r :: rs, x :: is, h => by
    rw [List.zip_cons_cons, List.find?_cons, List.find?_cons]
    cases e : f x with
    | true => rfl
    | false => exact find_zipO f rs is (by simpa using h)
theorem selO_head {is : List I4} {rs : List Addr} {b : Int} {x : I4} (l : rs.length = is.length) (h : is.find? (fun x => decide ((x.op : Int) = b)) = some x) : ∃ (r : Addr) (t : List (Addr × I4)) (i : Nat), selO is rs b = (r, x) :: t ∧ rs[i]? = some r ∧ is[i]? = some x := by
  have z := find_zipO (fun x => decide ((x.op : Int) = b)) rs is l
  rw [h] at z
  obtain ⟨⟨r, y⟩, hq, rfl⟩ := Option.map_eq_some_iff.mp z
  have hh : (selO is rs b).head? = some (r, y) := by unfold selO; rw [List.head?_filter]; exact hq
  obtain ⟨t, ht⟩ : ∃ t, selO is rs b = (r, y) :: t := by
    cases e : selO is rs b with
    | nil => rw [e] at hh; cases hh
    | cons a t => rw [e] at hh; cases hh; exact ⟨t, rfl⟩
  obtain ⟨i, hi⟩ := List.mem_iff_getElem?.mp (List.mem_of_find?_eq_some hq)
  rw [List.getElem?_zip_eq_some] at hi
  exact ⟨r, t, i, ht, hi.1, hi.2⟩
def offO (n : Nat) (σ : L2.St) : Nat := match σ with
  | [_, _, _, _, some (.int o), _] => n - o.toNat
  | _ => 0
section
variable {P : Program} {w : World} {K : PySem.W.Frag} {mg : Str → Option Value} {base : Heap}
/-! ### _law_read -/
def spRead (K : PySem.W.Frag) : Sp := fun vs H Q _ => ∃ (t it c : Addr) (cnt lg : Nat) (is : List I4) (rs : List Addr) (bs : List Int) (e : Nat), vs = [.ref t, .ref c, .int (e : Int)] ∧ Tab H t cnt lg is it rs ∧ SqT K H c (bs.map V.int) ∧ bs.length ≤ 100000 ∧ e ≤ bs.length ∧
  (∀ H' begun fol, Same H H' → Ended (laOf is) bs e begun fol → fol ≠ bs.length → Q .non H') ∧
  (∀ H' T' D vs begun, Same H T' → Coll K T' H' D vs (begun.map (preD is bs)) → Ended (laOf is) bs e begun bs.length → begun.length ≤ bs.length → Q (.ref D) H')
abbrev nRead : List Str := ["_law_table_here", "_law_row", "_law_begin", "_law_found", "_law_at", "_law_size"]
theorem scRead : FnScope nRead ["_law_table_here", "_law_row", "_law_begin"] (defScope s_law_read) := ⟨rfl, rfl, rfl, by decide +kernel, rfl, by decide +kernel, by decide +kernel⟩
theorem ok_read {f fL : Addr} {fd fdL : FuncData} {k : Nat} (F : Fun K "_law_read" "_law_read" s_law_read f fd) (T : Bi mg)
    (L : Def K mg "_law_length_at" sLLenAt fL fdL ["_law_table_here", "_law_byte"]) (GL : FnOk P w K mg base CX0 k fL fdL ["_law_table_here", "_law_byte"] spLLenAt) :
    FnOk P w K mg base CX0 (k + 1) f fd ["_law_table_here", "_law_row", "_law_begin"] (spRead K) := by
  refine F.ok scRead (fun vs H Q E h => ?_) (fun cdv A' outer s H vs Q E hr h => ?_)
  · obtain ⟨t, it, c, cnt, lg, is, rs, bs, e, rfl, _⟩ := h
    rfl
  · obtain ⟨t, it, c, cnt, lg, is, rs, bs, e, rfl, Tb, hc, hb, he, qn, qs⟩ := h
    refine ⟨_, pss_cons (ps_par (i := 3) (j := 4) (by rfl) scRead.nd rfl rfl (by decide) rfl rfl (pa_cons (pe_lst pa_nil) (pa_cons (pv 2) pa_nil)) (by rfl))
      (pss_cons (ps_while PassesOwn.never (pt_cmpR op_lt (pv 4) (pe_callB call_len_seq (by rfl) T.len PySem.boot_len (pa_cons (pv 1) pa_nil)) (nomark _))
        (pss_cons (ps_set (i := 5) scRead.nd rfl (.inl rfl) (pe_call GL hr (by rfl) L.gl L.fn.kp L.bi .nil pass0 (pa_cons (pv 0) (pa_cons (pe_ix ix_tup (pv 1) (pv 4) (fun _ _ => rfl)) pa_nil))))
        (pss_cons (ps_if (PW.pt (pw_or (pt_cmpR op_eq (pv 5) pe_int (nomark _)) (pw_or1 (pt_cmpR op_gt (pe_op op_add (pv 4) (pv 5)) (pe_callB call_len_seq (by rfl) T.len PySem.boot_len (pa_cons (pv 1) pa_nil)) (nomark _))))) (pss_one (ps_ret pe_non)) pss_nil)
        (pss_cons (ps_expr (pe_bm PySem.F.plainAttrs_list PySem.F.slot_list_append PySem.F.type_list_append mt_append (pv 3) (pa_cons (pe_tup (pa_cons (pe_ix ix_tup (pv 1) (pv 4) (fun _ _ => rfl)) (pa_cons (pe_slice sl_tupA (pv 1) (po_some (pe_op op_add (pv 4) pe_int)) (po_some (pe_op op_add (pv 4) (pv 5)))) pa_nil))) pa_nil)))
        (pss_one (ps_set (i := 4) scRead.nd rfl (.inl rfl) (pe_op op_add (pv 4) (pv 5))))))))
      (pss_one (ps_ret (pv 3)))), ?_⟩
    refine ⟨Nat.zero_le _, fun D nD => ⟨_, rfl, _, _, rfl, ?_⟩⟩
    refine while_by (fun σ G => ∃ (begun : List Nat) (o : Nat) (T' : Hp) (vs : List V) (y5 : Option V), σ = [some (.ref t), some (.ref c), some (.int (e : Int)), some (.ref D), some (.int (o : Int)), y5] ∧ Same H T' ∧ Coll K T' G D vs (begun.map (preD is bs)) ∧ Going (laOf is) bs e begun o ∧ o ≤ bs.length) (fun σ _ => offO bs.length σ)
      ⟨[], e, H, [], none, rfl, Same.refl _, ⟨same_upd nD, nD, upd_same, .nil⟩, Going.start bs e, he⟩ ?_ ?_
    · rintro σ G ⟨begun, o, T', vs, y5, rfl, st, cl, g, ho⟩
      have sG := st.trans cl.th
      have c2 := sG.tup hc
      have few := g.few
      have bl : begun.length ≤ bs.length := by omega
      refine ⟨_, rfl, _, rfl, c, _, rfl, .inr c2, _, _, rfl, rfl, _, rfl, ?_⟩
      rw [List.length_map]
      by_cases h1 : (o : Int) < (bs.length : Int)
      · rw [decide_eq_true h1]
        have ho : o < bs.length := by omega
        have hb' : bs[o]? = some bs[o] := List.getElem?_eq_getElem ho
        have gd : bs.getD o 0 = bs[o] := by rw [List.getD_eq_getElem?_getD, hb']; rfl
        have iv : atI (bs.map V.int) (o : Int) = some (.int bs[o]) := atI_nat (by rw [List.getElem?_map, hb']; rfl)
        refine iteT ⟨_, rfl, _, rfl, _, rfl, c, _, _, _, rfl, rfl, c2, iv, t, it, cnt, lg, is, rs, bs[o], rfl, Tb.same sG, ?_⟩
        refine ⟨_, rfl, rfl, _, rfl, ?_⟩
        by_cases h2 : laOf is bs[o] = 0
        · rw [decide_eq_true (show V.int (laOf is bs[o] : Int) = V.int 0 by rw [h2]; rfl)]
          exact iteT (qn G begun o sG (g.stop hb' h2) (by omega))
        · rw [decide_eq_false (show ¬ V.int (laOf is bs[o] : Int) = V.int 0 from fun z => h2 (by have := V.int.inj z; omega))]
          refine iteF ⟨_, rfl, _, rfl, _, _, rfl, rfl, _, rfl, c, _, rfl, .inr c2, _, _, rfl, rfl, _, rfl, ?_⟩
          rw [List.length_map]
          have g2 := g.step hb' (show 0 < laOf is bs[o] by omega)
          by_cases h3 : (bs.length : Int) < (o : Int) + (laOf is bs[o] : Int)
          · rw [decide_eq_true h3]
            exact iteT (qn G _ _ sG (g2.over (by omega)) (by omega))
          · rw [decide_eq_false h3]
            refine iteF ⟨_, rfl, .inl ⟨rfl, _, SqL.of cl.at_⟩, _, rfl, _, rfl, c, _, _, _, rfl, rfl, c2, iv, ?_⟩
            refine ⟨_, rfl, _, rfl, _, _, rfl, rfl, _, rfl, _, rfl, _, rfl, _, _, rfl, rfl, _, rfl, cut_x cl.th (st.tup hc) fun l3 H3 T3 gr S3 => ?_⟩
            have e3 : cutV (bs.map V.int) (some ((o : Int) + 1)) (some ((o : Int) + (laOf is bs[o] : Int))) = (opsOf bs o (laOf is bs[o])).map V.int := by
              rw [show (o : Int) + 1 = ((o + 1 : Nat) : Int) by omega, show (o : Int) + (laOf is bs[o] : Int) = ((o + laOf is bs[o] : Nat) : Int) by omega, cut_mid _ _ _ (by omega)]
              unfold opsOf
              rw [← List.map_drop, ← List.map_take, show o + laOf is bs[o] - (o + 1) = laOf is bs[o] - 1 by omega]
            rw [e3] at S3
            refine ⟨by show 2 ≤ sizeLine; decide, fun r nr => ?_⟩
            have gr2 := gr.put (HO.tup [V.int bs[o], V.ref l3]) nr
            have cl2 := cl.grow gr2
            have sr := same_upd (o := HO.tup [V.int bs[o], V.ref l3]) (none_of gr.th nr)
            have D2 : Dx K (upd T3 r (HO.tup [V.int bs[o], V.ref l3])) (.ref r) (preD is bs o) := by
              unfold preD
              rw [gd]
              exact .tup (SqT.of upd_same) (.cons (.int _) (.cons (.tup (sr.tup S3) (dx_ints _)) .nil))
            refine ⟨D, _, _, rfl, rfl, cl2.at_, ?_, ?_⟩
            · rw [cl.all.len, List.length_map, sizeLine_eq]; omega
            refine ⟨_, rfl, _, rfl, _, _, rfl, rfl, ⟨begun ++ [o], o + laOf is bs[o], _, vs ++ [V.ref r], _, rfl, st.trans gr2.tt, ?_, g2, by omega⟩, ?_⟩
            · rw [List.map_append]
              exact cl2.push D2
            · show bs.length - ((o : Int) + (laOf is bs[o] : Int)).toNat < bs.length - (o : Int).toNat
              omega
      · rw [decide_eq_false h1]
        have eo : o = bs.length := by omega
        subst eo
        exact iteF ⟨_, rfl, qs G T' D vs begun st cl (g.over (Nat.le_refl _)) bl⟩
    · rintro σ H2 Q1 Q2 hQ ⟨v, h1, v2, h2, a, xs, h3, h4, i, j, h5, h6, b, h7, h8⟩
      exact ⟨v, h1, v2, h2, a, xs, h3, h4, i, j, h5, h6, b, h7, hQ _ _ h8⟩
/-! ### _law_known -/
def spKnown (K : PySem.W.Frag) : Sp := fun vs H Q _ => ∃ (t it : Addr) (cnt lg : Nat) (is : List I4) (rs : List Addr) (b : Int) (x : I4), vs = [.ref t, .int b] ∧ Tab H t cnt lg is it rs ∧ is.find? (fun x => decide ((x.op : Int) = b)) = some x ∧
  ∀ H' (r : Addr) (i : Nat), Same H H' → rs[i]? = some r → is[i]? = some x → Q (.ref r) H'
theorem scKnown : FnScope ["_law_table_here", "_law_opcode", "_law_instruction"] ["_law_table_here", "_law_opcode"] (defScope s_law_known) := ⟨rfl, rfl, rfl, by decide +kernel, rfl, by decide +kernel, by decide +kernel⟩
theorem ok_known {f : Addr} {fd : FuncData} {k : Nat} (F : Fun K "_law_known" "_law_known" s_law_known f fd) : FnOk P w K mg base CX0 (k + 1) f fd ["_law_table_here", "_law_opcode"] (spKnown K) := by
  refine F.ok scKnown (fun vs H Q E h => ?_) (fun cdv A' outer s H vs Q E hr h => ?_)
  · obtain ⟨t, it, cnt, lg, is, rs, b, x, rfl, _⟩ := h
    rfl
  · obtain ⟨t, it, cnt, lg, is, rs, b, x, rfl, Tb, hx, q⟩ := h
    refine ⟨_, pss_one (ps_ret (pe_ix ix_list (pe_lc (own := [("_law_instruction", 2)]) (g := gName 2) (tt := tTest (tOp rEq (tOp (rIxT K) (tVar 2) (tC (.int 0))) (tVar 1))) (by rfl) scKnown.nd (pi_tup (pe_ix ix_tup (pv 0) pe_int (fun _ _ => rfl)))
        (blkOk_by (own := [("_law_instruction", 2)]) (N := ["_law_table_here", "_law_opcode", "_law_instruction"]) (sc := defScope s_law_known) (by decide +kernel))
        (fun _ _ _ _ _ => pg_name (i := 2) scKnown.nd rfl (Or.inl rfl)) (fun _ _ _ _ _ => pts_one (pt_cmpR op_eq (pe_ix (r := rIxT K) ix_tup (pv 2) pe_int (fun _ _ => rfl)) (pv 1) (nomark _))) (fun _ _ _ _ _ => pv 2)) pe_int (fun _ _ => rfl))), ?_⟩
    have i1 : ∀ x y : V, atI [x, y] 1 = some y := fun x y => atI_nat (j := 1) rfl
    have rl := Tb.rows.1
    have few := Tb.ok.few
    refine ⟨_, rfl, t, _, _, _, rfl, rfl, SqT.of Tb.at_, i1 _ _, it, rfl, ⟨_, SqT.of Tb.its⟩, fun D nD => lc_tup (K := K) (a := it) (xs := rs.map V.ref) (fun i G => Mk H G D ((selO (is.take i) (rs.take i) b).map fun q => V.ref q.1)) (.start nD) (fun i G _ mk => mk.same.tup (SqT.of Tb.its)) ?_ ?_⟩
    · intro i y G hy mk
      obtain ⟨hi, r, rfl, hr2, hri⟩ := rows_at Tb.rows hy
      have at0 : atI (is[i]).vs 0 = some (.int ((is[i]).op : Int)) := atI_nat (j := 0) rfl
      refine ⟨rfl, _, rfl, r, _, _, _, rfl, rfl, SqT.of (mk.same _ _ hr2), at0, _, rfl, rfl, _, rfl, ?_⟩
      rw [selO_more hri (List.getElem?_eq_getElem hi), List.map_append]
      by_cases e : ((is[i]).op : Int) = b
      · rw [decide_eq_true (congrArg V.int e), if_pos e]
        refine iteT ⟨_, rfl, _, mk.at_, ?_, mk.put (Same.refl _)⟩
        rw [List.length_map]
        refine small1000 ?_
        unfold selO
        refine Nat.le_trans (List.length_filter_le _ _) ?_
        rw [List.length_zip, List.length_take]
        omega
      · rw [decide_eq_false (fun z => e (V.int.inj z)), if_neg e]
        refine iteF ?_
        rw [List.map_nil, List.append_nil]
        exact mk
    intro G mk
    rw [List.length_map, rl, List.take_length, ← rl, List.take_length] at mk
    obtain ⟨r, tl, i, hs, h1, h2⟩ := selO_head rl hx
    rw [hs, List.map_cons] at mk
    exact ⟨D, _, _, _, rfl, rfl, SqL.of mk.at_, atI_nat (j := 0) rfl, q G r i mk.same h1 h2⟩
/-! ### _law_steps -/
def spSteps (K : PySem.W.Frag) : Sp := fun vs H Q _ => ∃ (t it c : Addr) (cnt lg : Nat) (is : List I4) (rs : List Addr) (bs : List Int) (e : Nat), vs = [.ref t, .ref c, .int (e : Int)] ∧ Tab H t cnt lg is it rs ∧ SqT K H c (bs.map V.int) ∧ bs.length ≤ 100000 ∧ e ≤ bs.length ∧
  ∀ H' v begun fol, Same H H' → Ended (laOf is) bs e begun fol → Dx K H' v (foundD (foundOf is bs begun fol)) → Q v H'
abbrev nSteps : List Str := ["_law_table_here", "_law_row", "_law_begin", "_law_found", "_law_some", "_law_opcode", "_law_given", "_law_instruction"]
theorem scSteps : FnScope nSteps ["_law_table_here", "_law_row", "_law_begin"] (defScope s_law_steps) := ⟨rfl, rfl, rfl, by decide +kernel, rfl, by decide +kernel, by decide +kernel⟩
theorem ok_steps {f fR fK : Addr} {fd fdR fdK : FuncData} {k : Nat} (F : Fun K "_law_steps" "_law_steps" s_law_steps f fd) (T : Bi mg)
    (R : Def K mg "_law_read" s_law_read fR fdR ["_law_table_here", "_law_row", "_law_begin"]) (GR : FnOk P w K mg base CX0 k fR fdR ["_law_table_here", "_law_row", "_law_begin"] (spRead K))
    (Kn : Def K mg "_law_known" s_law_known fK fdK ["_law_table_here", "_law_opcode"]) (GK : FnOk P w K mg base CX0 k fK fdK ["_law_table_here", "_law_opcode"] (spKnown K)) :
    FnOk P w K mg base CX0 (k + 1) f fd ["_law_table_here", "_law_row", "_law_begin"] (spSteps K) := by
  refine F.ok scSteps (fun vs H Q E h => ?_) (fun cdv A' outer s H vs Q E hr h => ?_)
  · obtain ⟨t, it, c, cnt, lg, is, rs, bs, e, rfl, _⟩ := h
    rfl
  · obtain ⟨t, it, c, cnt, lg, is, rs, bs, e, rfl, Tb, hc, hb, he, q⟩ := h
    refine ⟨_, pss_cons (ps_set (i := 3) scSteps.nd rfl (.inl rfl) (pe_call GR hr (by rfl) R.gl R.fn.kp R.bi .nil pass0 (pa_cons (pv 0) (pa_cons (pv 1) (pa_cons (pv 2) pa_nil)))))
      (pss_cons (ps_if (pt_cmpR op_isN (pv 3) pe_non (nomark _)) (pss_one (ps_ret pe_non)) pss_nil)
      (pss_cons (ps_setLc (i := 4) (own := [("_law_opcode", 5), ("_law_given", 6)]) (g := gTup K 2 (gCons (gName 5) (gCons (gName 6) gNil))) (tt := tYes) (by rfl) scSteps.nd rfl rfl (sw_true rfl rfl rfl (by decide +kernel)) (pi_list (pv 3))
          (blkOk_by (own := [("_law_opcode", 5), ("_law_given", 6)]) (N := nSteps) (sc := defScope s_law_steps) (by decide +kernel))
          (fun _ _ _ _ _ => pg_tup rfl (pgs_cons (pg_name (i := 5) scSteps.nd rfl (Or.inl rfl)) (pgs_cons (pg_name (i := 6) scSteps.nd rfl (Or.inl rfl)) pgs_nil))) (fun _ _ _ _ _ => pts_nil)
          (fun _ _ _ _ _ => pe_tup (pa_cons (pe_call GK hr (by rfl) Kn.gl Kn.fn.kp Kn.bi .nil pass0 (pa_cons (pv 0) (pa_cons (pv 5) pa_nil))) (pa_cons (pv 6) pa_nil))))
      (pss_one (ps_ret (pe_callTy call_tuple_of (by rfl) T.tuple (by decide +kernel) (pa_cons
        (pe_lc (own := [("_law_instruction", 7), ("_law_given", 6)]) (g := gTup K 2 (gCons (gName 7) (gCons (gName 6) gNil))) (tt := tNot (tB (tOp (rIxT K) (tVar 7) (tC (.int 3))))) (by rfl) scSteps.nd (pi_list (pv 4))
          (blkOk_by (own := [("_law_instruction", 7), ("_law_given", 6)]) (N := nSteps) (sc := defScope s_law_steps) (by decide +kernel))
          (fun _ _ _ _ _ => pg_tup rfl (pgs_cons (pg_name (i := 7) scSteps.nd rfl (Or.inl rfl)) (pgs_cons (pg_name (i := 6) scSteps.nd rfl (Or.inl rfl)) pgs_nil))) (fun _ _ _ _ _ => pts_one (pt_not (pt_val (pe_ix (r := rIxT K) ix_tup (pv 7) pe_int (fun _ _ => rfl)))))
          (fun _ _ _ _ _ => pe_tup (pa_cons (pe_ix (r := rIxT K) ix_tup (pv 7) pe_int (fun _ _ => rfl)) (pa_cons (pv 6) pa_nil)))) pa_nil)))))), ?_⟩
    refine ⟨_, rfl, _, rfl, _, rfl, t, it, c, cnt, lg, is, rs, bs, e, rfl, Tb, hc, hb, he, fun H1 begun fol s1 en hf => ?_, fun H1 T1 D vs begun sT cl en bl => ?_⟩
    · refine ⟨_, rfl, rfl, _, rfl, iteT (q H1 _ begun fol s1 en ?_)⟩
      unfold foundOf
      rw [if_neg hf]
      exact .non
    · have ef : foundOf is bs begun bs.length = some (stepsOf is bs begun) := if_pos rfl
      have s1 := sT.trans cl.th
      have atO : ∀ o ∈ begun, ∃ x, x ∈ is ∧ is.find? (fun x => decide ((x.op : Int) = bs.getD o 0)) = some x ∧ laOf is (bs.getD o 0) = x.ln ∧ knX is bs o = x := fun o ho => by
        obtain ⟨_, b, hbo, hlb⟩ := en.lt o ho
        have gd : bs.getD o 0 = b := by rw [List.getD_eq_getElem?_getD, hbo]; rfl
        rw [← gd] at hlb
        obtain ⟨x, x1, x2, x3, _⟩ := at_of hlb
        refine ⟨x, x1, x2, x3, ?_⟩
        unfold knX
        rw [x2]
        rfl
      refine ⟨_, rfl, rfl, _, rfl, iteF ⟨_, rfl, D, rfl, ⟨_, SqL.of cl.at_⟩, fun D2 nD2 => lc_list (K := K) (a := D) (xs := vs) (fun i G => ∃ T' us, Same H1 T' ∧ Coll K T' G D2 us ((begun.take i).map (knD is bs))) ⟨H1, [], Same.refl _, ⟨same_upd nD2, nD2, upd_same, .nil⟩⟩ (fun i G _ ⟨T', us, st, c2⟩ => SqL.of (c2.th _ _ (st _ _ cl.at_))) ?_ ?_⟩⟩
      · rintro i v G hv ⟨T', us, st, c2⟩
        obtain ⟨d, hd, Dd⟩ := cl.all.at hv
        rw [List.getElem?_map] at hd
        obtain ⟨o, ho, rfl⟩ := Option.map_eq_some_iff.mp hd
        obtain ⟨x, x1, x2, x3, x4⟩ := atO o (List.mem_of_getElem? ho)
        have sT' : Same T1 T' := cl.th.trans st
        obtain ⟨a, y1, y2, rfl, ha, D1, D2'⟩ := dx_two (Dd.same sT')
        rw [dx_int D1] at ha
        have sG := s1.trans (st.trans c2.th)
        have TbT := Tb.same (s1.trans st)
        refine ⟨a, _, rfl, c2.th.tup ha, rfl, _, _, rfl, _, _, rfl, rfl, rfl, _, rfl, _, rfl, t, it, cnt, lg, is, rs, _, x, rfl, Tb.same sG, x2, fun G3 r j s3 hr1 hi1 => ?_⟩
        refine ⟨_, rfl, by show 2 ≤ sizeLine; decide, fun u nu => ?_⟩
        have g0 : Grow T' G T' G3 := ⟨s3, Same.refl _, c2.th.trans s3, fun _ e _ => e⟩
        have g := g0.put (HO.tup [V.ref r, y2]) nu
        have c3 := c2.grow g
        refine ⟨us, c3.at_, ?_, _, us ++ [V.ref u], st.trans g.tt, ?_⟩
        · rw [c2.all.len, List.length_map, List.length_take, sizeLine_eq]; omega
        · rw [take_more ho, List.map_append]
          refine c3.push ?_
          unfold knD
          rw [x4]
          exact .tup (SqT.of upd_same) (.cons (dx_row (SqT.of (g.tt _ _ (TbT.rows.2 j r x hr1 hi1)))) (.cons (D2'.same g.tt) .nil))
      · rintro G ⟨T', us, st, c2⟩
        have vl : vs.length = begun.length := by rw [cl.all.len, List.length_map]
        rw [vl, List.take_length] at c2
        have sG := s1.trans (st.trans c2.th)
        refine ⟨_, rfl, D2, rfl, ⟨_, SqL.of c2.at_⟩, fun D3 nD3 => lc_list (K := K) (a := D2) (xs := us) (fun i G2 => ∃ T2 ws, Same G T2 ∧ Coll K T2 G2 D3 ws (((begun.take i).filterMap (stepAt is bs)).map stepD)) ⟨G, [], Same.refl _, ⟨same_upd nD3, nD3, upd_same, .nil⟩⟩ (fun i G2 _ ⟨T2, ws, st2, c3⟩ => SqL.of (c3.th _ _ (st2 _ _ c2.at_))) ?_ ?_⟩
        · rintro i v G2 hv ⟨T2, ws, st2, c3⟩
          obtain ⟨d, hd, Dd⟩ := c2.all.at hv
          rw [List.getElem?_map] at hd
          obtain ⟨o, ho, rfl⟩ := Option.map_eq_some_iff.mp hd
          obtain ⟨x, x1, x2, x3, x4⟩ := atO o (List.mem_of_getElem? ho)
          have sA := stepAt_of (bs := bs) (o := o) (x := x) x2
          unfold knD at Dd
          rw [x4, x3] at Dd
          obtain ⟨a, y1, y2, rfl, ha, D1, D2'⟩ := dx_two (Dd.same (c2.th.trans st2))
          obtain ⟨r, rfl, hr2⟩ := dx_rowI D1
          have at3 : atI x.vs 3 = some (.bl x.pad) := atI_nat (j := 3) rfl
          have at1 : atI x.vs 1 = some (.str (txt x.nm)) := atI_nat (j := 1) rfl
          refine ⟨a, _, rfl, c3.th.tup ha, rfl, _, _, rfl, _, _, rfl, rfl, rfl, _, rfl, r, _, _, _, rfl, rfl, c3.th.tup hr2, at3, _, rfl, ?_⟩
          rw [take_more ho, List.filterMap_append, List.filterMap_cons, List.filterMap_nil, sA]
          have wl : ws.length ≤ 100000 := by
            rw [c3.all.len, List.length_map]
            refine Nat.le_trans (List.length_filterMap_le _ _) ?_
            rw [List.length_take]
            omega
          cases hp : x.pad with
          | true =>
            rw [if_pos rfl]
            refine iteF ⟨T2, ws, st2, ?_⟩
            rw [List.append_nil]
            exact c3
          | false =>
            rw [if_neg (by decide)]
            refine iteT ⟨_, rfl, r, _, _, _, rfl, rfl, c3.th.tup hr2, at1, _, rfl, by show 2 ≤ sizeLine; decide, fun u nu => ?_⟩
            have g := (Grow.refl c3.th).put (HO.tup [V.str (txt x.nm), y2]) nu
            have c4 := c3.grow g
            refine ⟨ws, c4.at_, by rw [sizeLine_eq]; omega, _, ws ++ [V.ref u], st2.trans g.tt, ?_⟩
            rw [List.map_append]
            refine c4.push (.tup (SqT.of upd_same) (.cons (.str _) (.cons ?_ .nil)))
            show Dx K _ y2 (.tuple (((opsOf bs o x.ln).map some).map oD))
            rw [opts_some]
            exact D2'.same g.tt
        · rintro G2 ⟨T2, ws, st2, c3⟩
          have ul : us.length = begun.length := by rw [c2.all.len, List.length_map]
          rw [ul, List.take_length] at c3
          refine ⟨D3, _, rfl, .inl ⟨SqL.of c3.at_, fun r2 nr2 => ?_⟩⟩
          have s5 := same_upd (o := HO.tup ws) nr2
          refine q _ _ begun bs.length (sG.trans (st2.trans (c3.th.trans s5))) en ?_
          rw [ef]
          exact .tup (SqT.of upd_same) (c3.all.same (c3.th.trans s5))
end
end Ov
namespace Ov
open PySem PySem.Spec PyProof.Rows L2
/-- found steps: bytes all known -/
def FoundOk (gs : List PStep) : Prop := ∀ g ∈ gs, (∃ os : List Int, g.2 = os.map some) ∧ g.2.length ≤ 1000
theorem found_ok {is : List I4} {bs : List Int} {begun : List Nat} {fol : Nat} {gs : List PStep} (hb : bs.length ≤ 1000) (hf : foundOf is bs begun fol = some gs) : FoundOk gs := fun g hg => by
  unfold foundOf at hf
  split at hf
  · cases hf
    refine ⟨steps_some hg, ?_⟩
    obtain ⟨o, _, e⟩ := List.mem_filterMap.mp hg
    unfold stepAt at e
    split at e
    · split at e
      · cases e
      · cases e
        show ((opsOf bs o _).map some).length ≤ 1000
        unfold opsOf
        rw [List.length_map, List.length_take, List.length_drop]
        omega
    · cases e
  · cases hf
theorem zip_flip {α β : Type} (f : α → β → Bool) : ∀ (a : List α) (b : List β), (a.zip b).all (fun q => f q.1 q.2) = (b.zip a).all (fun q => f q.2 q.1)
  | [], b => by cases b <;> rfl
  | x :: a, [] => rfl
  | x :: a, y :: b => by rw [List.zip_cons_cons, List.zip_cons_cons, List.all_cons, List.all_cons, zip_flip f a b]
theorem all_bad {α : Type} {l : List α} {f : α → Bool} {i : Nat} {x : α} (h : l[i]? = some x) (b : f x = false) : l.all f = false := by
  rw [List.all_eq_false]
  exact ⟨x, List.mem_of_getElem? h, by rw [b]; decide⟩
section
variable {P : Program} {w : World} {K : PySem.W.Frag} {mg : Str → Option Value} {base : Heap}
/-! ### _law_fits -/
def spFits (K : PySem.W.Frag) : Sp := fun vs H Q _ => ∃ (v u : V) (ps : List PStep) (fo : Option (List PStep)), vs = [v, u] ∧ Dx K H v (.tuple (ps.map stepD)) ∧ Dx K H u (foundD fo) ∧ (∀ gs, fo = some gs → FoundOk gs) ∧ ∀ H', Same H H' → Q (.bl (fits fo ps)) H'
abbrev nFits : List Str := ["_law_plan_here", "_law_found", "_law_name", "_law_wanted", "_law_its_name", "_law_given", "_law_some", "_law_want", "_law_byte"]
theorem scFits : FnScope nFits ["_law_plan_here", "_law_found"] (defScope s_law_fits) := ⟨rfl, rfl, rfl, by decide +kernel, rfl, by decide +kernel, by decide +kernel⟩
theorem ok_fits {f : Addr} {fd : FuncData} {k : Nat} (F : Fun K "_law_fits" "_law_fits" s_law_fits f fd) (T : Bi mg) : FnOk P w K mg base CX0 (k + 1) f fd ["_law_plan_here", "_law_found"] (spFits K) := by
  refine F.ok scFits (fun vs H Q E h => ?_) (fun cdv A' outer s H vs Q E hr h => ?_)
  · obtain ⟨v, u, ps, fo, rfl, _⟩ := h
    rfl
  · obtain ⟨v, u, ps, fo, rfl, Dv, Du, fok, q⟩ := h
    refine ⟨_, pss_cons (ps_if (PW.pt (pw_or (pt_cmpR op_isN (pv 1) pe_non (nomark _)) (pw_or1 (pt_cmpR op_ne (pe_callB call_len_seq (by rfl) T.len PySem.boot_len (pa_cons (pv 0) pa_nil)) (pe_callB call_len_seq (by rfl) T.len PySem.boot_len (pa_cons (pv 1) pa_nil)) (nomark _))))) (pss_one (ps_ret pe_bl)) pss_nil)
      (pss_cons (ps_for PassesOwn.never rfl (RZ.pi_zipA (by rfl) T.zip (pa_cons (pv 0) (pa_cons (pv 1) pa_nil))) (pg_tup rfl (pgs_cons (pg_tup rfl (pgs_cons (pg_name (i := 2) scFits.nd rfl (.inl rfl)) (pgs_cons (pg_name (i := 3) scFits.nd rfl (.inl rfl)) pgs_nil))) (pgs_cons (pg_tup rfl (pgs_cons (pg_name (i := 4) scFits.nd rfl (.inl rfl)) (pgs_cons (pg_name (i := 5) scFits.nd rfl (.inl rfl)) pgs_nil))) pgs_nil)))
        (pss_cons (ps_setLc (i := 6) (own := [("_law_want", 7), ("_law_byte", 8)]) (g := gTup K 2 (gCons (gName 7) (gCons (gName 8) gNil))) (tt := tYes) (by rfl) scFits.nd rfl rfl (sw_true rfl rfl rfl (by decide +kernel)) (RZ.pi_zipA (by rfl) T.zip (pa_cons (pv 3) (pa_cons (pv 5) pa_nil)))
            (blkOk_by (own := [("_law_want", 7), ("_law_byte", 8)]) (N := nFits) (sc := defScope s_law_fits) (by decide +kernel))
            (fun _ _ _ _ _ => pg_tup rfl (pgs_cons (pg_name (i := 7) scFits.nd rfl (Or.inl rfl)) (pgs_cons (pg_name (i := 8) scFits.nd rfl (Or.inl rfl)) pgs_nil))) (fun _ _ _ _ _ => pts_nil)
            (fun _ _ _ _ _ => pe_or (pe_cmpR op_isN (pv 7) pe_non (nomark _)) (pe_one (pe_cmpR op_eq (pv 7) (pv 8) (nomark _)))))
        (pss_one (ps_if (PW.pt (pw_or (pt_cmpR op_ne (pv 2) (pv 4) (nomark _)) (pw_or1 (pt_not (pt_val (pe_callB (cr_all rfl) (by rfl) T.all (by decide +kernel) (pa_cons (pv 6) pa_nil))))))) (pss_one (ps_ret pe_bl)) pss_nil))))
      (pss_one (ps_ret pe_bl))), ?_⟩
    have q0 := q H (Same.refl _)
    refine ⟨_, rfl, rfl, _, rfl, ?_⟩
    cases fo with
    | none =>
      cases Du
      exact iteT q0
    | some gs =>
      have fok := fok gs rfl
      obtain ⟨a, xs, rfl, ha, Da⟩ := dx_tup Dv
      obtain ⟨b, ys, rfl, hb, Db⟩ := dx_tup Du
      have lx : xs.length = ps.length := by rw [Da.len, List.length_map]
      have ly : ys.length = gs.length := by rw [Db.len, List.length_map]
      refine iteF ⟨_, rfl, a, _, rfl, .inr ha, _, rfl, b, _, rfl, .inr hb, rfl, _, rfl, ?_⟩
      by_cases hl : gs.length = ps.length
      · rw [decide_eq_true (show V.int (xs.length : Int) = V.int (ys.length : Int) by rw [ly, lx, hl])]
        have ef : fits (some gs) ps = (gs.zip ps).all fun q => stepFit q.2 q.1 := by rw [fits_some, decide_eq_true hl, Bool.true_and]
        rw [ef] at q
        refine iteF ⟨_, rfl, _, rfl, a, b, _, _, rfl, .inr ⟨ha, hb, for_it (walk_zipT (K := K) (a := a) (b := b) (xs := xs) (ys := ys) rfl) (fun i σ G => Same H G ∧ ((gs.zip ps).take i).all (fun q => stepFit q.2 q.1) = true ∧ ∃ y2 y3 y4 y5 y6, σ = [some (.ref a), some (.ref b), y2, y3, y4, y5, y6, none, none])
          ⟨Same.refl _, by simp, _, _, _, _, _, rfl⟩ (fun i σ G _ ⟨sG, _⟩ => ⟨sG.tup ha, sG.tup hb⟩) ?_ ?_⟩⟩
        · rintro i v σ G G' hi ⟨sG, al, y2, y3, y4, y5, y6, rfl⟩ yy
          obtain ⟨t, x1, x2, rfl, nt, rfl, f1, f2⟩ := yy
          have f1' : xs[i]? = some x1 := f1
          have f2' : ys[i]? = some x2 := f2
          obtain ⟨d1, hd1, D1⟩ := Da.at f1'
          obtain ⟨d2, hd2, D2⟩ := Db.at f2'
          rw [List.getElem?_map] at hd1 hd2
          obtain ⟨y, hy, rfl⟩ := Option.map_eq_some_iff.mp hd1
          obtain ⟨g, hg, rfl⟩ := Option.map_eq_some_iff.mp hd2
          have hz : (gs.zip ps)[i]? = some (g, y) := by
            rw [List.getElem?_zip_eq_some]
            exact ⟨hg, hy⟩
          obtain ⟨⟨os, eos⟩, ol⟩ := fok g (List.mem_of_getElem? hg)
          rw [eos, List.length_map] at ol
          have st := same_upd (o := HO.tup [x1, x2]) nt
          have sp := sG.trans st
          obtain ⟨a1, b1, rfl, h1, g1⟩ := dx_step (D1.same sp)
          obtain ⟨a2, b2, rfl, h2, g2⟩ := dx_step (D2.same sp)
          rw [eos, optv_some] at g2
          refine ⟨t, _, rfl, SqT.of upd_same, rfl, _, _, rfl, ?_⟩
          refine ⟨a1, _, rfl, h1, rfl, _, _, rfl, _, _, rfl, rfl, ?_⟩
          refine ⟨_, _, rfl, ?_⟩
          refine ⟨a2, _, rfl, h2, rfl, _, _, rfl, _, _, rfl, rfl, ?_⟩
          refine ⟨rfl, ?_⟩
          generalize upd G t (HO.tup [V.ref a1, V.ref a2]) = G2 at *
          refine ⟨_, rfl, _, rfl, b1, b2, _, _, rfl, .inr ⟨g1, g2, fun D nD => lc_it (walk_zipT (xs := y.2.map oV) (ys := os.map V.int) rfl) (fun i G => Mk G2 G D ((((y.2.zip (os.map some)).take i).map fun q => optFit q.1 q.2).map V.bl)) (.start nD) (fun i G _ p => ⟨p.same.tup g1, p.same.tup g2⟩) (fun j v G4 G5 hi p yy => ?_) (fun G4 p => ?_)⟩⟩
          · obtain ⟨t, x1, x2, rfl, nt, rfl, f1, f2⟩ := yy
            have f1' : (y.2.map oV)[j]? = some x1 := f1
            have f2' : (os.map V.int)[j]? = some x2 := f2
            rw [List.getElem?_map] at f1' f2'
            obtain ⟨o, ho, rfl⟩ := Option.map_eq_some_iff.mp f1'
            obtain ⟨b, hb, rfl⟩ := Option.map_eq_some_iff.mp f2'
            have hz : (y.2.zip (os.map some))[j]? = some (o, some b) := by
              rw [List.getElem?_zip_eq_some]
              exact ⟨ho, by rw [List.getElem?_map, hb]; rfl⟩
            have i1 : j < os.length := (List.getElem?_eq_some_iff.mp hb).1
            have st := same_upd (o := HO.tup [oV o, V.int b]) nt
            have fin : ∀ bb : Bool, bb = optFit o (some b) → ∃ acc, upd G4 t (HO.tup [oV o, V.int b]) D = some (.lst acc) ∧ acc.length < sizeLine ∧ Mk G2 (upd (upd G4 t (HO.tup [oV o, V.int b])) D (.lst (acc ++ [V.bl bb]))) D ((((y.2.zip (os.map some)).take (j + 1)).map fun q => optFit q.1 q.2).map V.bl) := fun bb e => by
              subst e
              refine ⟨_, st _ _ p.at_, by rw [List.length_map, List.length_map, List.length_take]; exact small1000 (by omega), ?_⟩
              rw [take_more hz, List.map_append, List.map_append]
              exact p.put st
            refine ⟨t, _, rfl, SqT.of upd_same, rfl, _, _, rfl, _, _, rfl, rfl, rfl, _, rfl, rfl, _, rfl, ?_⟩
            cases o with
            | none => exact iteT (fin true rfl)
            | some z =>
              refine iteF ⟨_, rfl, _, rfl, rfl, ?_⟩
              exact fin _ opt_fit
          · have el : min (y.2.map oV).length (os.map V.int).length = (y.2.zip (os.map some)).length := by rw [List.length_zip, List.length_map, List.length_map, List.length_map]
            rw [el, List.take_length] at p
            have ez : ((y.2.zip (os.map some)).map fun q => optFit q.1 q.2).all id = ((os.map some).zip y.2).all fun q => optFit q.2 q.1 := by
              rw [List.all_map]
              exact zip_flip optFit _ _
            have sG4 := sp.trans p.same
            have bad : stepFit y g = false → Q (.bl false) G4 := fun b => by
              have z := q G4 sG4
              rw [all_bad hz b] at z
              exact z
            have good : stepFit y g = true → ((gs.zip ps).take (i + 1)).all (fun q => stepFit q.2 q.1) = true := fun b => by
              rw [take_more hz, List.all_append, al, List.all_cons, b]
              rfl
            have eg : stepFit y g = (decide (txt g.1.nm = txt y.1.nm) && ((os.map some).zip y.2).all fun q => optFit q.2 q.1) := by
              unfold stepFit
              rw [eos]
            refine ⟨_, rfl, _, rfl, rfl, _, rfl, ?_⟩
            by_cases hn : txt y.1.nm = txt g.1.nm
            · rw [decide_eq_true (congrArg V.str hn)]
              rw [decide_eq_true hn.symm, Bool.true_and, ← ez] at eg
              refine iteF ⟨_, rfl, D, _, rfl, SqL.of p.at_, _, rfl, ?_⟩
              cases hall : ((y.2.zip (os.map some)).map fun q => optFit q.1 q.2).all id with
              | true =>
                rw [hall] at eg
                exact iteF ⟨sG4, good eg, _, _, _, _, _, rfl⟩
              | false =>
                rw [hall] at eg
                exact iteT (bad eg)
            · rw [decide_eq_false (fun z => hn (V.str.inj z))]
              rw [decide_eq_false (fun z => hn z.symm), Bool.false_and] at eg
              exact iteT (bad eg)
        · rintro σ G ⟨sG, al, y2, y3, y4, y5, y6, rfl⟩
          rw [show min xs.length ys.length = (gs.zip ps).length by rw [List.length_zip, ly, lx, Nat.min_comm], List.take_length] at al
          have z := q G sG
          rw [al] at z
          exact z
      · rw [decide_eq_false (show ¬ V.int (xs.length : Int) = V.int (ys.length : Int) from fun z => hl (by have := V.int.inj z; omega))]
        refine iteT ?_
        rw [fits_some, decide_eq_false hl, Bool.false_and] at q0
        exact q0
end
end Ov
namespace Ov
open PySem PySem.Spec PyProof.Rows L2
/-! ### things bent: sizes -/
structure Fine (D N : Nat) (d : PyData) : Prop where
  sh : d.showable = true
  dep : d.depth ≤ D
  nd : nodes d ≤ N
theorem Fine.mono {D N D' N' : Nat} {d : PyData} (h : Fine D N d) (a : D ≤ D') (b : N ≤ N') : Fine D' N' d := ⟨h.sh, Nat.le_trans h.dep a, Nat.le_trans h.nd b⟩
theorem Fine.shz {D N k : Nat} {d : PyData} (h : Fine D N d) (a : D ≤ k) (b : N ≤ 8000) : Shz d k := ⟨h.sh, Nat.le_trans h.dep a, Nat.le_trans h.nd b⟩
theorem Shows.fine {d : PyData} (s : Shows d) : Fine d.depth (nodes d) d := ⟨s.sh, Nat.le_refl _, Nat.le_refl _⟩
theorem fine_int {i : Int} (h : i.natAbs < 2 ^ 1000) : Fine 0 1 (.int i) := ⟨(shows_int h).sh, by simp [PyData.depth], by simp [nodes]⟩
theorem fine_bool (b : Bool) : Fine 0 1 (.bool b) := ⟨(shows_bool b).sh, by simp [PyData.depth], by simp [nodes]⟩
theorem fine_none : Fine 0 1 .none := ⟨shows_none.sh, by simp [PyData.depth], by simp [nodes]⟩
theorem fine_str {x : Str} (h : (reprText x).length ≤ 100) : Fine 0 101 (.str x) := ⟨(shows_str h).sh, by simp [PyData.depth], by simp only [nodes]; omega⟩
theorem fine_dict : Fine 1 100 (.dict []) := ⟨shows_dict.sh, by simp [PyData.depth, PyData.depthKv], dict0_nodes⟩
structure FineA (D N : Nat) (ds : List PyData) : Prop where
  sh : PyData.showableAll ds = true
  dep : PyData.depthAll ds ≤ D
  nd : nodesAll ds ≤ N
theorem FineA.nil : FineA 0 0 [] := ⟨by simp [PyData.showableAll], by simp [PyData.depthAll], by simp [nodesAll]⟩
theorem FineA.cons {D N M : Nat} {d : PyData} {ds : List PyData} (h : Fine D N d) (t : FineA D M ds) : FineA D (N + M) (d :: ds) := by
  refine ⟨?_, ?_, ?_⟩
  · simp only [PyData.showableAll]; rw [h.sh, t.sh]; rfl
  · simp only [PyData.depthAll]; exact Nat.max_le.mpr ⟨h.dep, t.dep⟩
  · simp only [nodesAll]; exact Nat.add_le_add h.nd t.nd
theorem FineA.app {D N M : Nat} {a b : List PyData} (h : FineA D N a) (t : FineA D M b) : FineA D (N + M) (a ++ b) := by
  refine ⟨by rw [showableAll_app, h.sh, t.sh]; rfl, ?_, by rw [nodesAll_app]; exact Nat.add_le_add h.nd t.nd⟩
  rw [depthAll_app]
  exact Nat.max_le.mpr ⟨h.dep, t.dep⟩
theorem FineA.mono {D N D' N' : Nat} {d : List PyData} (h : FineA D N d) (a : D ≤ D') (b : N ≤ N') : FineA D' N' d := ⟨h.sh, Nat.le_trans h.dep a, Nat.le_trans h.nd b⟩
theorem FineA.tup {D N : Nat} {ds : List PyData} (h : FineA D N ds) : Fine (D + 1) (N + 1) (.tuple ds) := ⟨by simp only [PyData.showable]; exact h.sh, by simp only [PyData.depth]; have := h.dep; omega, by simp only [nodes]; have := h.nd; omega⟩
theorem FineA.lst {D N : Nat} {ds : List PyData} (h : FineA D N ds) : Fine (D + 1) (N + 1) (.list ds) := ⟨by simp only [PyData.showable]; exact h.sh, by simp only [PyData.depth]; have := h.dep; omega, by simp only [nodes]; have := h.nd; omega⟩
theorem FineA.all {D N : Nat} {ds : List PyData} (h : ∀ d ∈ ds, Fine D N d) : FineA D (ds.length * N) ds := by
  induction ds with
  | nil => exact FineA.nil.mono (Nat.zero_le _) (Nat.zero_le _)
  | cons d ds ih =>
    have := FineA.cons (h d List.mem_cons_self) (ih fun x hx => h x (List.mem_cons_of_mem _ hx))
    exact this.mono (Nat.le_refl _) (by rw [List.length_cons, Nat.succ_mul]; omega)
theorem parts_of {ds : List PyData} (h : PyData.showableAll ds = true) {j : Nat} {e : PyData} (he : ds[j]? = some e) :
    e.showable = true ∧ PyData.showableAll (ds.take j) = true ∧ PyData.showableAll (ds.drop (j + 1)) = true ∧ e.depth ≤ PyData.depthAll ds ∧ PyData.depthAll (ds.take j) ≤ PyData.depthAll ds ∧ PyData.depthAll (ds.drop (j + 1)) ≤ PyData.depthAll ds ∧ nodesAll ds = nodesAll (ds.take j) + nodes e + nodesAll (ds.drop (j + 1)) := by
  have e1 : ds = ds.take j ++ e :: ds.drop (j + 1) := by
    obtain ⟨hj, ej⟩ := List.getElem?_eq_some_iff.mp he
    rw [← ej, List.getElem_cons_drop, List.take_append_drop]
  generalize ds.take j = A, ds.drop (j + 1) = B at *
  subst e1
  rw [showableAll_app] at h
  simp only [PyData.showableAll, Bool.and_eq_true] at h
  rw [depthAll_app, nodesAll_app]
  simp only [PyData.depthAll, nodesAll]
  exact ⟨h.2.1, h.1, h.2.2, by omega, by omega, by omega, by omega⟩
theorem nodes_pos : ∀ d : PyData, 1 ≤ nodes d
  | .none => by simp [nodes]
  | .bool _ => by simp [nodes]
  | .int _ => by simp [nodes]
  | .str _ => by simp [nodes]
  | .list _ => by simp [nodes]
  | .tuple _ => by simp [nodes]
  | .dict _ => by simp [nodes]
theorem len_nodes : ∀ ds : List PyData, ds.length ≤ nodesAll ds
  | [] => Nat.zero_le _
  | d :: ds => by
    have := nodes_pos d
    have := len_nodes ds
    simp only [nodesAll, List.length_cons]
    omega
theorem DzAll.mem {H : Hp} : ∀ {vs : List V} {ds : List PyData}, DzAll H vs ds → ∀ {v : V}, v ∈ vs → ∃ d, d ∈ ds ∧ Dz H v d
  | _, _, .nil, v, h => by cases h
  | _, _, .cons a t, v, h => by
    rcases List.mem_cons.mp h with rfl | h
    · exact ⟨_, List.mem_cons_self, a⟩
    · obtain ⟨d, hd, D⟩ := t.mem h
      exact ⟨d, List.mem_cons_of_mem _ hd, D⟩
theorem nm_short {cnt lg : Nat} {is : List I4} (ok : TabOk cnt lg is) {x : I4} (h : x ∈ is) : (reprText (txt x.nm)).length ≤ 100 := by
  have a := ok.nms x h
  have z := PySem.StrLaws.reprText_len (txt x.nm) (fun c hc => by
    have : c ∈ x.nm := by simpa [txt] using hc
    have := a.2.2 c this
    exact Nat.lt_of_le_of_lt this.2 (by decide))
  rw [txt_len] at z
  omega
theorem cutF1 (k : Nat) (xs : List V) : cutV xs (some ((k : Int) + 1)) none = xs.drop (k + 1) := by
  rw [show (k : Int) + 1 = ((k + 1 : Nat) : Int) by omega]
  exact cut_from (k + 1) xs
theorem cutM1 (k : Nat) (xs : List V) : cutV xs (some (k : Int)) (some ((k : Int) + 1)) = (xs.drop k).take 1 := by
  rw [show (k : Int) + 1 = ((k + 1 : Nat) : Int) by omega]
  unfold cutV
  rw [show HT.sIx xs.length 0 (some (k : Int)) = min k xs.length from HT.sIx_nat xs.length 0 k, show HT.sIx xs.length xs.length (some ((k + 1 : Nat) : Int)) = min (k + 1) xs.length from HT.sIx_nat xs.length xs.length (k + 1)]
  rcases Nat.le_total xs.length k with c | c
  · rw [Nat.min_eq_right c, List.drop_of_length_le c, List.drop_of_length_le (Nat.le_refl _), List.take_nil, List.take_nil]
  · rw [Nat.min_eq_left c]
    rcases Nat.lt_or_ge k xs.length with d | d
    · rw [Nat.min_eq_left (by omega), show k + 1 - k = 1 by omega]
    · rw [List.drop_of_length_le d, List.take_nil, List.take_nil]
section
variable {K : PySem.W.Frag} {T H : Hp} {Q : VK}
theorem cat_z {a b : Addr} {xs ys : List V} (st : Same T H) (ha : T a = some (.tup xs)) (hb : T b = some (.tup ys)) (hl : xs.length + ys.length ≤ sizeLine) (q : ∀ l H' T', Grow T H T' H' → T' l = some (.tup (xs ++ ys)) → Q (.ref l) H') : rCatA K (.ref a) (.ref b) H Q := by
  refine ⟨a, b, xs, ys, rfl, rfl, SqT.of (st _ _ ha), SqT.of (st _ _ hb), hl, fun e => ?_, fun _ e => ?_, fun _ _ p np => ?_⟩
  · subst e
    exact q b H T (.refl st) hb
  · subst e
    exact q a H T (.refl st) (by rw [List.append_nil]; exact ha)
  · exact q p _ _ ((Grow.refl st).put _ np) upd_same
theorem cut_z {a : Addr} {xs : List V} {lo hi : Option Int} (st : Same T H) (ha : T a = some (.tup xs)) (q : ∀ l H' T', Grow T H T' H' → T' l = some (.tup (cutV xs lo hi)) → Q (.ref l) H') : rSlA K (.ref a) lo hi H Q := by
  refine ⟨a, xs, rfl, SqT.of (st _ _ ha), fun e => ?_, fun _ p np => ?_⟩
  · exact q a H T (.refl st) (by rw [cut_all e]; exact ha)
  · exact q p _ _ ((Grow.refl st).put _ np) upd_same
end
theorem Grow.lay {T H T' H' : Hp} (g : Grow T H T' H') {a : Addr} (o : HO) (n : H' a = none) : Grow T H T' (upd H' a o) := ⟨g.hh.trans (same_upd n), g.tt, g.th.trans (same_upd n), g.new⟩
theorem Grow.set {T H T' H' : Hp} (g : Grow T H T' H') {L : Addr} (o : HO) (nH : H L = none) (nT : T' L = none) : Grow T H T' (upd H' L o) :=
  ⟨fun b x e => by rw [upd_ne (ne_of_none e nH)]; exact g.hh b x e, g.tt, fun b x e => by rw [upd_ne (ne_of_none e nT)]; exact g.th b x e, g.new⟩
theorem dz_map {α : Type} {H : Hp} {f : α → V} {g : α → PyData} : ∀ {l : List α}, (∀ x ∈ l, Dz H (f x) (g x)) → DzAll H (l.map f) (l.map g)
  | [], _ => .nil
  | x :: l, h => .cons (h x List.mem_cons_self) (dz_map fun y hy => h y (List.mem_cons_of_mem _ hy))
theorem lvl_up {P : Program} {w : World} {K : PySem.W.Frag} {mg : Str → Option Value} {base : Heap} {CX : CXT} {k k' : Nat} {f : Addr} {fd : FuncData} {ps : List Str} {sp : Sp} (F : FnOk P w K mg base CX k f fd ps sp) (h : k ≤ k') : FnOk P w K mg base CX k' f fd ps sp := ⟨F.len, fun A outer s H args us vs Q E room => F.run A outer s H args us vs Q E (room.mono h)⟩
theorem step_fine {cnt lg : Nat} {is : List I4} (ok : TabOk cnt lg is) {x : PStep} (h : StepOk cnt is x) : Fine 2 114 (stepD x) := by
  have xl := ok.len x.1 h.mem
  have lb := ok.lb
  have hl := h.len
  have o : ∀ d ∈ x.2.map oD, Fine 0 1 d := fun d hd => by
    obtain ⟨b, hb, rfl⟩ := List.mem_map.mp hd
    cases b with
    | none => exact fine_none
    | some b =>
      have := h.low b hb
      have := ok.cb
      exact fine_int (Nat.lt_of_lt_of_le (show b.natAbs < 2 ^ 9 by omega) (Nat.pow_le_pow_right (by decide) (by decide)))
  have t := (FineA.all o).tup
  rw [List.length_map] at t
  have a : Fine 1 101 (.str (txt x.1.nm)) := (fine_str (nm_short ok h.mem)).mono (by decide) (Nat.le_refl _)
  exact (FineA.cons a (FineA.cons t (FineA.nil.mono (Nat.zero_le _) (Nat.le_refl _)))).tup.mono (by omega) (by omega)
theorem steps_fine {cnt lg : Nat} {is : List I4} (ok : TabOk cnt lg is) {ds : List PyData} (h : ∀ d ∈ ds, ∃ x, StepOk cnt is x ∧ d = stepD x) : Fine 3 (ds.length * 114 + 1) (.tuple ds) ∧ Fine 3 (ds.length * 114 + 1) (.list ds) := by
  have a : FineA 2 (ds.length * 114) ds := FineA.all fun d hd => by
    obtain ⟨x, hx, rfl⟩ := h d hd
    exact step_fine ok hx
  exact ⟨a.tup, a.lst⟩
end Ov
namespace Ov
open PySem PySem.Spec PyProof.Rows L2
/-! ### plans that are given out of found steps, plans near a plan -/
theorem DxAll.take {K : PySem.W.Frag} {H : Hp} : ∀ {vs : List V} {ds : List PyData} (n : Nat), DxAll K H vs ds → DxAll K H (vs.take n) (ds.take n)
  | _, _, 0, _ => .nil
  | _, _, n + 1, .nil => .nil
  | _, _, n + 1, .cons h a => .cons h (a.take n)
theorem DzAll.rev {H : Hp} : ∀ {vs : List V} {ds : List PyData}, DzAll H vs ds → DzAll H vs.reverse ds.reverse
  | _, _, .nil => .nil
  | _, _, .cons h a => by rw [List.reverse_cons, List.reverse_cons]; exact a.rev.app (.cons h .nil)
mutual
theorem Dx.hide {K : PySem.W.Frag} {H : Hp} {p : Addr} {ys : List V} (hp : H p = some (.lst ys)) : ∀ {v : V} {d : PyData}, Dx K H v d → noList d = true → Dx K (hide p H) v d
  | _, _, .non, _ => .non
  | _, _, .bl b, _ => .bl b
  | _, _, .int i, _ => .int i
  | _, _, .str x, _ => .str x
  | _, _, .dct h, _ => .dct (hide_at h (fun z => by rw [z, hp] at h; cases h))
  | _, _, .lst h a, z => by simp [noList] at z
  | _, _, .tup h a, z => .tup (But.tup (l := p) (but_hide) hp h) (DxAll.hide hp a (by simpa only [noList] using z))
theorem DxAll.hide {K : PySem.W.Frag} {H : Hp} {p : Addr} {ys : List V} (hp : H p = some (.lst ys)) : ∀ {vs : List V} {ds : List PyData}, DxAll K H vs ds → noListAll ds = true → DxAll K (hide p H) vs ds
  | _, _, .nil, _ => .nil
  | _, _, .cons h a, z => by
    simp only [noListAll, Bool.and_eq_true] at z
    exact .cons (Dx.hide hp h z.1) (DxAll.hide hp a z.2)
end
theorem noL_opts : ∀ os : List (Option Int), noListAll (os.map oD) = true
  | [] => by simp [noListAll]
  | none :: os => by simp [noListAll, noList, oD, noL_opts os]
  | some b :: os => by simp [noListAll, noList, oD, noL_opts os]
theorem noL_step (x : PStep) : noList (stepD x) = true := by
  unfold stepD
  simp only [noList, noListAll]
  rw [noL_opts]
  rfl
theorem noL_steps : ∀ xs : List PStep, noListAll (xs.map stepD) = true
  | [] => by simp [noListAll]
  | x :: xs => by
    rw [List.map_cons]
    simp only [noListAll]
    rw [noL_step, noL_steps xs]
    rfl
/-- a plan that stands in T -/
def PlanZ (cnt : Nat) (is : List I4) (T : Hp) (m : Nat) (v : V) : Prop := ∃ ps : List PStep, Dz T v (.tuple (ps.map stepD)) ∧ ps.length ≤ m ∧ ∀ x ∈ ps, StepOk cnt is x
theorem PlanZ.same {cnt : Nat} {is : List I4} {T T' : Hp} {m : Nat} {v : V} (h : PlanZ cnt is T m v) (s : Same T T') : PlanZ cnt is T' m v := by
  obtain ⟨ps, a, b, c⟩ := h
  exact ⟨ps, a.same s, b, c⟩
theorem dz_tup {H : Hp} {v : V} {ds : List PyData} (h : Dz H v (.tuple ds)) : ∃ a xs, v = .ref a ∧ H a = some (.tup xs) ∧ DzAll H xs ds := by
  cases h with
  | tup h a => exact ⟨_, _, rfl, h, a⟩
theorem dz_str {H : Hp} {v : V} {x : Str} (h : Dz H v (.str x)) : v = .str x := by cases h; rfl
theorem dz_oD {H : Hp} {v : V} {o : Option Int} (h : Dz H v (oD o)) : v = oV o := by
  cases o with
  | none => cases h; rfl
  | some b => cases h; rfl
theorem dz_optsI {H : Hp} : ∀ {os : List (Option Int)} {vs : List V}, DzAll H vs (os.map oD) → vs = os.map oV
  | [], _, h => by cases h; rfl
  | o :: os, _, h => by
    cases h with
    | cons h a => rw [dz_oD h, dz_optsI a]; rfl
theorem dz_stepI {H : Hp} {v : V} {x : PStep} (h : Dz H v (stepD x)) : ∃ a b, v = .ref a ∧ H a = some (.tup [.str (txt x.1.nm), .ref b]) ∧ H b = some (.tup (x.2.map oV)) := by
  obtain ⟨a, xs, rfl, h1, a1⟩ := dz_tup h
  cases a1 with
  | cons d1 a1 =>
    cases a1 with
    | cons d2 a1 =>
      cases a1
      obtain ⟨b, ys, rfl, h2, a2⟩ := dz_tup d2
      rw [dz_str d1] at h1
      rw [dz_optsI a2] at h2
      exact ⟨a, b, rfl, h1, h2⟩
theorem Dz.rec_ref {H : Hp} {r : Addr} {ds : List PyData} (h : Dz H (.ref r) (.tuple ds)) : H r = some (.tup (match H r with | some (.tup xs) => xs | _ => [])) ∧ DzAll H (match H r with | some (.tup xs) => xs | _ => []) ds := by
  cases h with
  | tup h a => rw [h]; exact ⟨rfl, a⟩
theorem cut_c {K : PySem.W.Frag} {σ : L2.St} {H : Hp} {a : Addr} {lo : Option Int} {Q : VK} (h : rSlA K (.ref a) lo none H Q) : tNoPart σ H (fun u H3 => rSlA K (.ref a) lo u H3 Q) := h
/-- plans in a list in the making, beside the box -/
structure HoldP (cnt : Nat) (is : List I4) (T H : Hp) (p D : Addr) (n : Nat) (vs : List V) : Prop where
  ht : Same T H
  tp : T p = none
  tD : T D = none
  ne : D ≠ p
  at_ : H D = some (.lst vs)
  all : ∀ v ∈ vs, PlanZ cnt is T 13 v
  box : BoxAt H p n
theorem HoldP.gb {cnt : Nat} {is : List I4} {T H T' G : Hp} {p D : Addr} {n m : Nat} {vs : List V} (h : HoldP cnt is T H p D n vs) (g : GB p T H T' G) (B : BoxAt G p m) : HoldP cnt is T' G p D m vs :=
  ⟨g.th, g.new _ h.tp h.box.ne, g.new _ h.tD (by rw [h.at_]; exact fun z => nomatch z), h.ne, g.hh _ _ h.at_ h.ne, fun v hv => (h.all v hv).same g.tt, B⟩
theorem HoldP.put {cnt : Nat} {is : List I4} {T H : Hp} {p D : Addr} {n : Nat} {vs us : List V} (h : HoldP cnt is T H p D n vs) (A : ∀ v ∈ us, PlanZ cnt is T 13 v) : HoldP cnt is T (upd H D (.lst us)) p D n us :=
  ⟨fun b o e => by rw [upd_ne (ne_of_none e h.tD)]; exact h.ht _ _ e, h.tp, h.tD, h.ne, upd_same, A, h.box.upd h.ne⟩
section
variable {P : Program} {w : World} {K : PySem.W.Frag} {mg : Str → Option Value} {base : Heap}
/-! ### _law_open -/
def spOpen (K : PySem.W.Frag) : Sp := fun vs H Q _ => ∃ (p : Addr) (n cnt : Nat) (is : List I4) (T : Hp) (v : V) (gs : List PStep), vs = [.ref p, v] ∧ BoxAt H p n ∧ n ≤ 2 ^ 38 ∧ Same T H ∧ T p = none ∧ Dx K T v (.tuple (gs.map stepD)) ∧ gs.length ≤ 12 ∧ (∀ g ∈ gs, StepOk cnt is g ∧ g.2.length ≤ 12) ∧
  ∀ H' T' r (ps : List PStep), GB p T H T' H' → BoxAt H' p (n + 300) → Dz T' (.ref r) (.tuple (ps.map stepD)) → ps.length ≤ 12 → (∀ x ∈ ps, StepOk cnt is x) → Q (.ref r) H'
abbrev nOpen : List Str := ["_law_box_here", "_law_found", "_law_plan_here", "_law_name", "_law_given", "_law_wanted", "_law_byte"]
theorem scOpen : FnScope nOpen ["_law_box_here", "_law_found"] (defScope s_law_open) := ⟨rfl, rfl, rfl, by decide +kernel, rfl, by decide +kernel, by decide +kernel⟩
theorem ok_open {f fT : Addr} {fd fdT : FuncData} {k : Nat} (F : Fun K "_law_open" "_law_open" s_law_open f fd) (Ti : Bi mg)
    (Tk : Def K mg "_law_take" sTake fT fdT ["_law_box_here", "_law_many"]) (GT : FnOk P w K mg base CX0 k fT fdT ["_law_box_here", "_law_many"] spTake) :
    FnOk P w K mg base CX0 (k + 1) f fd ["_law_box_here", "_law_found"] (spOpen K) := by
  refine F.ok scOpen (fun vs H Q E h => ?_) (fun cdv A' outer s H vs Q E hr h => ?_)
  · obtain ⟨p, n, cnt, is, T, v, gs, rfl, _⟩ := h
    rfl
  · obtain ⟨p, n, cnt, is, T, v, gs, rfl, B, hn, st, tp, Dv, gl, gok, q⟩ := h
    obtain ⟨a, xs, rfl, ha, Da⟩ := dx_tup Dv
    have lx : xs.length = gs.length := by rw [Da.len, List.length_map]
    refine ⟨_, pss_cons (ps_set (i := 2) scOpen.nd rfl (.inl rfl) (pe_lst pa_nil))
      (pss_cons (ps_for PassesOwn.never rfl (pi_tup (pv 1)) (pg_tup rfl (pgs_cons (pg_name (i := 3) scOpen.nd rfl (.inl rfl)) (pgs_cons (pg_name (i := 4) scOpen.nd rfl (.inl rfl)) pgs_nil)))
        (pss_cons (ps_setLc (i := 5) (own := [("_law_byte", 6)]) (g := gName 6) (tt := tYes) (by rfl) scOpen.nd rfl rfl (sw_true rfl rfl rfl (by decide +kernel)) (pi_tup (pv 4))
            (blkOk_by (own := [("_law_byte", 6)]) (N := nOpen) (sc := defScope s_law_open) (by decide +kernel))
            (fun _ _ _ _ _ => pg_name (i := 6) scOpen.nd rfl (Or.inl rfl)) (fun _ _ _ _ _ => pts_nil)
            (fun _ _ _ _ _ => pe_ifExp (pt_cmpR op_eq (pe_call GT hr (by rfl) Tk.gl Tk.fn.kp Tk.bi .nil pass0 (pa_cons (pv 0) (pa_cons pe_int pa_nil))) pe_int (nomark _)) pe_non (pv 6)))
        (pss_one (ps_expr (pe_bm PySem.F.plainAttrs_list PySem.F.slot_list_append PySem.F.type_list_append mt_append (pv 2) (pa_cons (pe_tup (pa_cons (pv 3) (pa_cons (pe_callTy call_tuple_of (by rfl) Ti.tuple (by decide +kernel) (pa_cons (pv 5) pa_nil)) pa_nil))) pa_nil))))))
      (pss_one (ps_ret (pe_callTy call_tuple_of (by rfl) Ti.tuple (by decide +kernel) (pa_cons (pv 2) pa_nil))))), ?_⟩
    refine ⟨Nat.zero_le _, fun L nL => ?_⟩
    have h0 := HoldZ.start st tp B nL
    have gL : GB p T H T (upd H L (.lst [])) := (GB.refl st).lay _ nL
    refine ⟨_, rfl, a, rfl, ⟨_, gL.th.tup ha⟩, for_tup (K := K) (a := a) (xs := xs) (fun i σ G => ∃ (T2 : Hp) (vs : List V) (ps : List PStep) (y3 y4 y5 : Option V), σ = [some (.ref p), some (.ref a), some (.ref L), y3, y4, y5, none] ∧ GB p T H T2 G ∧ HoldZ T T2 G p L (n + 12 * i) vs (ps.map stepD) ∧ ps.length = i ∧ ∀ x ∈ ps, StepOk cnt is x)
      ⟨T, [], [], none, none, none, rfl, gL, h0, rfl, (fun _ h => nomatch h)⟩ (fun i σ G _ ⟨T2, vs, ps, y3, y4, y5, _, gG, _⟩ => (gG.tt.trans gG.th).tup ha) ?_ ?_⟩
    · rintro i v σ G hv ⟨T2, vs, ps, y3, y4, y5, rfl, gG, hG, pl, pok⟩
      have hi : i < gs.length := by rw [← lx]; exact (List.getElem?_eq_some_iff.mp hv).1
      obtain ⟨d, hd, Dd⟩ := Da.at hv
      rw [List.getElem?_map] at hd
      obtain ⟨g, hg, rfl⟩ := Option.map_eq_some_iff.mp hd
      obtain ⟨gk, gl12⟩ := gok g (List.mem_of_getElem? hg)
      obtain ⟨a1, b1, rfl, h1, h2⟩ := dx_step Dd
      have sT := hG.tt.trans hG.ht
      refine ⟨a1, _, rfl, sT.tup h1, rfl, _, _, rfl, _, _, rfl, rfl, ?_⟩
      refine ⟨_, rfl, b1, rfl, ⟨_, sT.tup h2⟩, fun W nW => lc_tup (K := K) (a := b1) (xs := g.2.map oV) (fun j G => ∃ os : List (Option Int), GB p T H T2 G ∧ HoldZ T T2 G p L (n + 12 * i + j) vs (ps.map stepD) ∧ T2 W = none ∧ G W = some (.lst (os.map oV)) ∧ os.length = j ∧ ∀ b, some b ∈ os → 0 ≤ b ∧ b < (cnt : Int)) ?_ (fun j G _ ⟨os, g5, h5, _⟩ => (h5.tt.trans h5.ht).tup h2) ?_ ?_⟩
      · have eW := (GB.refl (p := p) hG.ht).lay (HO.lst []) nW
        exact ⟨[], gG.trans eW, hG.gb eW (hG.box.same (same_upd nW)), hG.ht.free nW, upd_same, rfl, (fun _ h => nomatch h)⟩
      · rintro j x G5 hx ⟨os, g5, h5, tW, hW, ol, olow⟩
        rw [List.getElem?_map] at hx
        obtain ⟨o, ho, rfl⟩ := Option.map_eq_some_iff.mp hx
        have hj : j < g.2.length := (List.getElem?_eq_some_iff.mp ho).1
        have nWH : H W = none := by
          cases z : H W with
          | none => rfl
          | some o =>
            have := gG.up W (by rw [z]; exact fun y => nomatch y)
            exact absurd nW this
        have Wp : W ≠ p := fun z => by rw [z] at hW; obtain ⟨_, _, _, e, _⟩ := hG.box; rw [z, e] at nW; cases nW
        have WL : W ≠ L := fun z => by rw [z, hG.at_] at nW; cases nW
        refine ⟨rfl, _, rfl, p, (3 : Int), _, rfl, h5.box, by omega, by decide, by decide, fun G6 z b6 B6 z0 z1 f6 => ?_⟩
        have e6 := GB.box h5.ht h5.tp b6 B6
        have h6 := h5.gb e6 B6
        have g6 := g5.trans e6
        have hW6 := e6.hh _ _ hW Wp
        have fin : ∀ o' : Option Int, (∀ c, o' = some c → 0 ≤ c ∧ c < (cnt : Int)) → ∃ acc, G6 W = some (.lst acc) ∧ acc.length < sizeLine ∧ ∃ os : List (Option Int), GB p T H T2 (upd G6 W (.lst (acc ++ [oV o']))) ∧ HoldZ T T2 (upd G6 W (.lst (acc ++ [oV o']))) p L (n + 12 * i + (j + 1)) vs (ps.map stepD) ∧ T2 W = none ∧ (upd G6 W (.lst (acc ++ [oV o']))) W = some (.lst (os.map oV)) ∧ os.length = j + 1 ∧ ∀ b, some b ∈ os → 0 ≤ b ∧ b < (cnt : Int) := fun o' ob => by
          refine ⟨_, hW6, by rw [List.length_map, ol, sizeLine_eq]; omega, os ++ [o'], g6.set _ nWH tW, ?_, tW, by rw [upd_same, List.map_append]; rfl, by rw [List.length_append, ol]; rfl, fun c hc => ?_⟩
          · refine ⟨h6.tt, fun b o e => by rw [upd_ne (ne_of_none e tW)]; exact h6.ht b o e, h6.tp, h6.tD, h6.ne, by rw [upd_ne (Ne.symm WL)]; exact h6.at_, h6.all, ?_⟩
            exact (h6.box.upd Wp).mono (by omega)
          · rcases List.mem_append.mp hc with hc | hc
            · exact olow c hc
            · exact ob c (List.mem_singleton.mp hc).symm
        refine ⟨rfl, _, rfl, ?_⟩
        by_cases cz : z = 0
        · rw [decide_eq_true (congrArg V.int cz)]
          exact iteT (fin none (fun c z => nomatch z))
        · rw [decide_eq_false (fun y => cz (V.int.inj y))]
          exact iteF ⟨_, rfl, fin o (fun c z => gk.low c (z ▸ List.mem_of_getElem? ho))⟩
      · rintro G5 ⟨os, g5, h5, tW, hW, ol, olow⟩
        have hm : (g.2.map oV).length ≤ 12 := by rw [List.length_map]; exact gl12
        rw [List.length_map] at ol
        have nLH : H L = none := nL
        refine ⟨_, rfl, .inl ⟨rfl, _, SqL.of h5.at_⟩, _, rfl, _, rfl, W, _, rfl, .inl ⟨SqL.of hW, fun u nu => ?_⟩⟩
        have k1 := (Grow.refl h5.ht).put (HO.tup (os.map oV)) nu
        have D1 : Dz (upd T2 u (HO.tup (os.map oV))) (.ref u) (.tuple (os.map oD)) := .tup upd_same (dz_opts os)
        have h9 := h5.grow k1
        have g9 := g5.trans (.of k1)
        generalize upd T2 u (HO.tup (os.map oV)) = T4, upd G5 u (HO.tup (os.map oV)) = G6 at *
        refine ⟨by show 2 ≤ sizeLine; decide, fun r2 nr2 => ?_⟩
        have k2 := (Grow.refl h9.ht).put (HO.tup [V.str (txt g.1.nm), V.ref u]) nr2
        have D2 : Dz (upd T4 r2 (HO.tup [V.str (txt g.1.nm), V.ref u])) (.ref r2) (stepD (g.1, os)) := .tup upd_same (.cons (.str _) (.cons (D1.same k2.tt) .nil))
        have h10 := h9.grow k2
        have g10 := g9.trans (.of k2)
        generalize upd T4 r2 (HO.tup [V.str (txt g.1.nm), V.ref u]) = T5, upd G6 r2 (HO.tup [V.str (txt g.1.nm), V.ref u]) = G7 at *
        have vl : vs.length = i := by rw [h10.all.len, List.length_map, pl]
        refine ⟨L, _, _, rfl, rfl, h10.at_, by rw [vl, sizeLine_eq]; omega, T5, vs ++ [V.ref r2], ps ++ [(g.1, os)], _, _, _, rfl, g10.set _ nLH h10.tD, ?_, by rw [List.length_append, pl]; rfl, fun y hy => ?_⟩
        · rw [List.map_append]
          exact (h10.push (.cons D2 .nil)).mono (by omega)
        · rcases List.mem_append.mp hy with hy | hy
          · exact pok y hy
          · rw [List.mem_singleton.mp hy]
            exact ⟨gk.mem, gk.pad, by show os.length + 1 = g.1.ln; rw [ol]; exact gk.len, olow⟩
    · rintro σ G ⟨T2, vs, ps, y3, y4, y5, rfl, gG, hG, pl, pok⟩
      refine ⟨_, rfl, L, _, rfl, .inl ⟨SqL.of hG.at_, fun r nr => ?_⟩⟩
      have k1 := (Grow.refl hG.ht).put (HO.tup vs) nr
      refine q _ _ r ps (gG.trans (.of k1)) ((hG.box.same k1.hh).mono (by omega)) (.tup upd_same (hG.all.same k1.tt)) ?_ pok
      rw [pl, lx]
      exact gl
end
end Ov
namespace Ov
open PySem PySem.Spec PyProof.Rows L2
section
variable {P : Program} {w : World} {K : PySem.W.Frag} {mg : Str → Option Value} {base : Heap}
/-! ### _law_gates -/
def spGates : Sp := fun vs H Q _ => ∃ (p : Addr) (T M : Hp) (f many most : Nat), vs = [.ref p, .int (many : Int), .int (most : Int)] ∧ Wd p T M H (f + 3) ∧ 1 ≤ many ∧ many ≤ 3 ∧ 1 ≤ most ∧ most ≤ 6 ∧
  ∀ H' T' r gs, Same T T' → Wd p T' M H' f → T' r = some (.tup (entV gs)) → Ents gs → gs.length = many → Q (.ref r) H'
abbrev nGates : List Str := ["_law_box_here", "_law_many", "_law_most", "_law_found"]
theorem scGates : FnScope nGates ["_law_box_here", "_law_many", "_law_most"] (defScope s_law_gates) := ⟨rfl, rfl, rfl, by decide +kernel, rfl, by decide +kernel, by decide +kernel⟩
theorem ok_gates {f fTk : Addr} {fd fdTk : FuncData} {k : Nat} (F : Fun K "_law_gates" "_law_gates" s_law_gates f fd) (T : Bi mg) (Tk : Def K mg "_law_take" sTake fTk fdTk ["_law_box_here", "_law_many"]) (GTk : FnOk P w K mg base CX0 k fTk fdTk ["_law_box_here", "_law_many"] (spTake)) :
    FnOk P w K mg base CX0 (k + 1) f fd ["_law_box_here", "_law_many", "_law_most"] (spGates) := by
  refine F.ok scGates (fun vs H Q E h => ?_) (fun cdv A' outer s H vs Q E hr h => ?_)
  · obtain ⟨p, T, M, f, many, most, rfl, _⟩ := h
    rfl
  · obtain ⟨p, T0, M, f, many, most, rfl, W, m1, m3, o1, o6, q⟩ := h
    refine ⟨_, pss_cons (ps_set (i := 3) scGates.nd rfl (.inl rfl) (pe_lst (pa_cons pe_int pa_nil)))
      (pss_cons (ps_while PassesOwn.never (pt_cmpR op_lt (pe_callB call_len_seq (by rfl) T.len PySem.boot_len (pa_cons (pv 3) pa_nil)) (pv 1) (nomark _)) (pss_one (ps_expr (pe_bm PySem.F.plainAttrs_list PySem.F.slot_list_append PySem.F.type_list_append mt_append (pv 3) (pa_cons (pe_op op_add (pe_op op_add (pe_ix ix_list (pv 3) (pe_un un_neg pe_int) (fun _ _ => rfl)) pe_int) (pe_call GTk hr (by rfl) Tk.gl Tk.fn.kp Tk.bi .nil pass0 (pa_cons (pv 0) (pa_cons (pv 2) pa_nil)))) pa_nil)))))
      (pss_one (ps_ret (pe_callTy call_tuple_of (by rfl) T.tuple (by decide +kernel) (pa_cons (pv 3) pa_nil))))), ?_⟩
    refine ⟨by show 1 ≤ sizeLine; decide, fun L nL => ?_⟩
    have nM := (W.free nL).2.1
    refine while_by (fun σ G => ∃ gs : List Nat, σ = [some (.ref p), some (.int (many : Int)), some (.int (most : Int)), some (.ref L)] ∧ Wd p T0 (upd M L (.lst (entV gs))) G (f + (4 - gs.length)) ∧ 1 ≤ gs.length ∧ gs.length ≤ many ∧ gs.head? = some 0 ∧ (gs.map fun n : Nat => (n : Int)).Pairwise (· < ·) ∧ ∀ g ∈ gs, g ≤ 6 * (gs.length - 1)) (fun _ G => 3 - lenAt G L)
      ⟨[0], rfl, W.newM _ nL trivial, Nat.le_refl _, m1, rfl, by simp, by simp⟩ ?_ ?_
    · rintro σ G ⟨gs, rfl, Wg, l1, lm, hd, asc, low⟩
      have hL := Wg.at
      refine ⟨_, rfl, L, _, rfl, .inl (SqL.of hL), _, rfl, _, _, rfl, rfl, _, rfl, ?_⟩
      rw [List.length_map, List.length_map]
      by_cases h1 : (gs.length : Int) < (many : Int)
      · rw [decide_eq_true h1]
        obtain ⟨gr, z, rfl⟩ : ∃ (gr : List Nat) (z : Nat), gs = gr ++ [z] := by
          rcases List.eq_nil_or_concat gs with e0 | ⟨gr, z, e0⟩
          · rw [e0] at l1; exact absurd l1 (by decide)
          · exact ⟨gr, z, by rw [e0, List.concat_eq_append]⟩
        have ee : entV (gr ++ [z]) = entV gr ++ [V.int (z : Int)] := by
          show ((gr ++ [z]).map fun n : Nat => (n : Int)).map V.int = _
          rw [List.map_append, List.map_append]
          rfl
        have ln : (gr ++ [z]).length = gr.length + 1 := by rw [List.length_append]; rfl
        have hat : atI (entV (gr ++ [z])) (-1) = some (V.int (z : Int)) := by rw [ee]; exact atI_last _ _
        obtain ⟨n0, B0, n1, up⟩ := (Wg.mono (f' := f + (4 - (gr.length + 2)) + 1) (by omega)).tk
        refine iteT ⟨_, rfl, .inl ⟨rfl, _, SqL.of hL⟩, _, rfl, _, rfl, L, _, _, _, rfl, rfl, SqL.of hL, hat, _, _, rfl, rfl, _, rfl, _, rfl, p, (most : Int), n0, rfl, B0, by omega, by omega, by omega, fun G2 d b2 B2 d0 d1 _ => ?_⟩
        have W2 := up b2 B2
        refine ⟨_, _, rfl, rfl, L, _, _, rfl, rfl, W2.at, by rw [List.length_map, List.length_map, sizeLine_eq]; omega, ?_⟩
        obtain ⟨dn, rfl⟩ : ∃ dn : Nat, d = (dn : Int) := ⟨d.toNat, by omega⟩
        have e2 : entV (gr ++ [z]) ++ [V.int ((z : Int) + 1 + (dn : Int))] = entV (gr ++ [z] ++ [z + 1 + dn]) := by
          show _ = ((gr ++ [z] ++ [z + 1 + dn]).map fun n : Nat => (n : Int)).map V.int
          rw [List.map_append, List.map_append]
          rfl
        have zl := low z (by simp)
        have up : ∀ g ∈ gr ++ [z], g ≤ z := fun g hg => by
          rcases List.mem_append.mp hg with h | h
          · rw [List.map_append] at asc
            have := (List.pairwise_append.mp asc).2.2 (g : Int) (List.mem_map.mpr ⟨g, h, rfl⟩) (z : Int) (by simp)
            omega
          · rw [List.mem_singleton.mp h]; exact Nat.le_refl _
        refine ⟨⟨gr ++ [z] ++ [z + 1 + dn], rfl, ?_, ?_, ?_, ?_, ?_, ?_⟩, ?_⟩
        · have l5 : (gr ++ [z] ++ [z + 1 + dn]).length = gr.length + 2 := by rw [List.length_append, ln]; rfl
          rw [← e2, l5]
          exact W2.setL _ trivial
        · rw [List.length_append]; omega
        · rw [List.length_append, ln]; show gr.length + 1 + 1 ≤ many; omega
        · rw [List.head?_append, hd]; rfl
        · rw [List.map_append]
          refine List.pairwise_append.mpr ⟨asc, by simp, fun a ha b hb => ?_⟩
          obtain ⟨g, hg, rfl⟩ := List.mem_map.mp ha
          have eb : b = ((z + 1 + dn : Nat) : Int) := by simpa using hb
          have := up g hg
          omega
        · intro g hg
          rw [List.length_append, ln]
          show g ≤ 6 * (gr.length + 1 + 1 - 1)
          rcases List.mem_append.mp hg with h | h
          · have := up g h; omega
          · rw [List.mem_singleton.mp h]; omega
        · rw [lenAt_of hL]
          show 3 - lenAt (upd G2 L (HO.lst (entV (gr ++ [z]) ++ [V.int ((z : Int) + 1 + (dn : Int))]))) L < _
          rw [lenAt_of upd_same, List.length_append, List.length_map, List.length_map, ln]
          show 3 - (gr.length + 1 + 1) < _
          omega
      · rw [decide_eq_false h1]
        refine iteF ⟨_, rfl, L, _, rfl, .inl ⟨SqL.of hL, fun r nr => ?_⟩⟩
        refine q _ _ r gs (Wg.putT _ nr) (((Wg.put _ nr).drop nM).mono (by omega)) upd_same ⟨hd, asc, fun g hg => ?_, by omega⟩ (by omega)
        have := low g hg
        omega
    · rintro σ H2 Q1 Q2 hQ ⟨v, h1, a, xs, h3, h4, v2, h2, i, j, h5, h6, b, h7, h8⟩
      exact ⟨v, h1, a, xs, h3, h4, v2, h2, i, j, h5, h6, b, h7, hQ _ _ h8⟩
/-! ### _law_states -/
theorem fmaxI {is : List I4} (pos : ∀ x ∈ is, 1 ≤ x.ln) {m : Int} (m1 : m ∈ (((is.filter fun x : I4 => x.pad).map fun x : I4 => (x.ln : Int)) ++ [1])) (m2 : ∀ z ∈ (((is.filter fun x : I4 => x.pad).map fun x : I4 => (x.ln : Int)) ++ [1]), z ≤ m) : m - 1 = ((lrOf is : Nat) : Int) := by
  have g1 := m2 1 (by simp)
  have l : lrOf is ≤ (m - 1).toNat := fmax_le _ 0 _ (Nat.zero_le _) fun z hz => by
    obtain ⟨y, hy, rfl⟩ := List.mem_map.mp hz
    have := m2 (y.ln : Int) (List.mem_append_left _ (List.mem_map.mpr ⟨y, hy, rfl⟩))
    omega
  have g : (m - 1).toNat ≤ lrOf is := by
    rcases List.mem_append.mp m1 with h | h
    · obtain ⟨y, hy, rfl⟩ := List.mem_map.mp h
      have := (fmax_ge ((is.filter fun x : I4 => x.pad).map fun x => x.ln - 1) 0).2 (y.ln - 1) (List.mem_map.mpr ⟨y, hy, rfl⟩)
      unfold lrOf
      omega
    · rw [List.mem_singleton.mp h]; exact Nat.zero_le _
  omega
def spStates (K : PySem.W.Frag) : Sp := fun vs H Q _ => ∃ (t it l g : Addr) (cnt lg : Nat) (is : List I4) (rs : List Addr) (xs : List V) (pss : List (List PStep)) (gs : List Nat), vs = [.ref t, .ref l, .ref g] ∧ Tab H t cnt lg is it rs ∧ SqT K H l xs ∧ DxAll K H xs (pss.map planD) ∧ SqT K H g (entV gs) ∧ gs ≠ [] ∧ (∀ ps ∈ pss, ps.length ≤ 12 ∧ dcnt is ps ≤ 1000) ∧ ∀ H', Same H H' → Q (.int (stcN is pss gs : Int)) H'
abbrev nStates : List Str := ["_law_table_here", "_law_plans", "_law_gates_here", "_law_some", "_law_found", "_law_long", "_law_plan_here", "_law_operands", "_law_opcode", "_law_name", "_law_size", "_law_is_padding", "_law_wanted"]
theorem scStates : FnScope nStates ["_law_table_here", "_law_plans", "_law_gates_here"] (defScope s_law_states) := ⟨rfl, rfl, rfl, by decide +kernel, rfl, by decide +kernel, by decide +kernel⟩
theorem ok_states {f : Addr} {fd : FuncData} {k : Nat} (F : Fun K "_law_states" "_law_states" s_law_states f fd) (T : Bi mg) :
    FnOk P w K mg base CX0 (k + 1) f fd ["_law_table_here", "_law_plans", "_law_gates_here"] (spStates K) := by
  refine F.ok scStates (fun vs H Q E h => ?_) (fun cdv A' outer s H vs Q E hr h => ?_)
  · obtain ⟨t, it, l, g, cnt, lg, is, rs, xs, pss, gs, rfl, _⟩ := h
    rfl
  · obtain ⟨t, it, l, g, cnt, lg, is, rs, xs, pss, gs, rfl, Tb, hl, D, hg, gne, small, q⟩ := h
    refine ⟨_, pss_cons (ps_setLc (i := 3) (own := [("_law_opcode", 8), ("_law_name", 9), ("_law_size", 10), ("_law_is_padding", 11)]) (g := (gTup K 4 (gCons (gName 8) (gCons (gName 9) (gCons (gName 10) (gCons (gName 11) gNil)))))) (by rfl) scStates.nd rfl rfl (sw_true rfl rfl rfl (by decide +kernel)) (pi_tup (pe_ix ix_tup (pv 0) pe_int (fun _ _ => rfl))) (blkOk_by (own := [("_law_opcode", 8), ("_law_name", 9), ("_law_size", 10), ("_law_is_padding", 11)]) (N := nStates) (sc := defScope s_law_states) (by decide +kernel)) (fun _ _ _ _ _ => (pg_tup rfl (pgs_cons (pg_name (i := 8) scStates.nd rfl (Or.inl rfl)) (pgs_cons (pg_name (i := 9) scStates.nd rfl (Or.inl rfl)) (pgs_cons (pg_name (i := 10) scStates.nd rfl (Or.inl rfl)) (pgs_cons (pg_name (i := 11) scStates.nd rfl (Or.inl rfl)) pgs_nil)))))) (fun _ _ _ _ _ => pts_one (pt_val (pv 11))) (fun _ _ _ _ _ => (pv 10)))
      (pss_cons (ps_par (i := 4) (j := 5) (by rfl) scStates.nd rfl rfl (by decide) rfl rfl (pa_cons (pe_op op_add (pe_ix ix_tup (pv 2) (pe_un un_neg pe_int) (fun _ _ => rfl)) pe_int) (pa_cons (pe_callB (cr_max rfl) (by rfl) T.max (by decide +kernel) (pa_cons (pe_op op_cat (pv 3) (pe_lst (pa_cons pe_int pa_nil))) pa_nil)) pa_nil)) (by rfl))
      (pss_cons (ps_for PassesOwn.never rfl (pi_tup (pv 1)) (pg_name (i := 6) scStates.nd rfl (.inl rfl)) (pss_cons (ps_set (i := 7) scStates.nd rfl (.inl rfl) (pe_callB (cr_sum rfl) (by rfl) T.sum (by decide +kernel) (pa_cons (pe_lc (own := [("_law_name", 9), ("_law_wanted", 12)]) (g := (gTup K 2 (gCons (gName 9) (gCons (gName 12) gNil)))) (tt := tYes) (te := (tCB (rLen K) (tCons (tVar 12) tNil))) (by rfl) scStates.nd (pi_tup (pv 6)) (blkOk_by (own := [("_law_name", 9), ("_law_wanted", 12)]) (N := nStates) (sc := defScope s_law_states) (by decide +kernel)) (fun _ _ _ _ _ => (pg_tup rfl (pgs_cons (pg_name (i := 9) scStates.nd rfl (Or.inl rfl)) (pgs_cons (pg_name (i := 12) scStates.nd rfl (Or.inl rfl)) pgs_nil)))) (fun _ _ _ _ _ => pts_nil) (fun _ _ _ _ _ => (pe_callB (r := rLen K) cr_len (by rfl) T.len PySem.boot_len (pa_cons (pv 12) pa_nil)))) pa_nil)))
      (pss_one (ps_set (i := 4) scStates.nd rfl (.inl rfl) (pe_op op_mul (pv 4) (pe_op op_add (pe_op op_add (pe_op op_add pe_int (pe_callB call_len_seq (by rfl) T.len PySem.boot_len (pa_cons (pv 6) pa_nil))) (pv 7)) (pe_op op_mul (pe_op op_add (pe_callB call_len_seq (by rfl) T.len PySem.boot_len (pa_cons (pv 6) pa_nil)) pe_int) (pe_op op_sub (pv 5) pe_int))))))))
      (pss_one (ps_ret (pv 4))))), ?_⟩
    have hit := Tb.its
    have rl := Tb.rows.1
    have few := Tb.ok.few
    have pos : ∀ x ∈ is, 1 ≤ x.ln := fun x hx => (Tb.ok.len x hx).1
    have xl : xs.length = pss.length := by rw [D.len, List.length_map]
    have i1 : ∀ x y : V, atI [x, y] 1 = some y := fun x y => atI_nat (j := 1) rfl
    obtain ⟨gr, z, rfl⟩ : ∃ (gr : List Nat) (z : Nat), gs = gr ++ [z] := by
      rcases List.eq_nil_or_concat gs with e0 | ⟨gr, z, e0⟩
      · exact absurd e0 gne
      · exact ⟨gr, z, by rw [e0, List.concat_eq_append]⟩
    have hg' : SqT K H g (entV gr ++ [V.int (z : Int)]) := by
      have e : entV (gr ++ [z]) = entV gr ++ [V.int (z : Int)] := by
        show ((gr ++ [z]).map fun n : Nat => (n : Int)).map V.int = _
        rw [List.map_append, List.map_append]
        rfl
      rw [← e]
      exact hg
    have q' : ∀ H', Same H H' → Q (.int ((pss.foldl (fun n ps => n * dcnt is ps) (z + 1) : Nat) : Int)) H' := fun H' s => by
      have := q H' s
      unfold stcN at this
      rw [show (gr ++ [z]).getLast?.getD 0 = z by simp] at this
      exact this
    have fm : ∀ i : Nat, i < is.length → is.take (i + 1) = is.take i ++ [is.getD i ⟨0, [], 0, false⟩] := fun i hi => by
      rw [take_more (List.getElem?_eq_getElem hi), List.getD_eq_getElem?_getD, List.getElem?_eq_getElem hi]; rfl
    refine ⟨_, rfl, t, _, _, _, rfl, rfl, SqT.of Tb.at_, i1 _ _, it, rfl, ⟨_, SqT.of hit⟩, fun L nL => lc_tup (K := K) (a := it) (xs := rs.map V.ref) (fun i H2 => Mk H H2 L ((((is.take i).filter fun x : I4 => x.pad).map fun x : I4 => (x.ln : Int)).map V.int)) (.start nL) (fun i H2 _ p => p.same.tup (SqT.of hit)) ?_ ?_⟩
    · intro i x H2 hx mk
      obtain ⟨hi, r, rfl, hr2, _⟩ := rows_at Tb.rows hx
      refine ⟨r, _, rfl, SqT.of (mk.same _ _ hr2), rfl, _, _, rfl, _, _, rfl, _, _, rfl, _, _, rfl, rfl, rfl, _, rfl, _, rfl, ?_⟩
      rw [take_more (List.getElem?_eq_getElem hi), List.filter_append, List.map_append, List.map_append]
      cases hp : (is[i]).pad with
      | true =>
        rw [List.filter_cons_of_pos (by simpa using hp)]
        refine iteT ⟨_, rfl, _, mk.at_, ?_, mk.put (Same.refl _)⟩
        rw [List.length_map, List.length_map]
        have := List.length_filter_le (fun x : I4 => x.pad) (is.take i)
        rw [List.length_take] at this
        exact small1000 (by omega)
      | false =>
        rw [List.filter_cons_of_neg (by simp [hp])]
        refine iteF ?_
        simpa using mk
    intro H2 mk
    rw [List.length_map, rl, List.take_length] at mk
    have s2 := mk.same
    refine ⟨_, rfl, _, rfl, g, _, _, _, rfl, rfl, s2.tup hg', atI_last _ _, _, _, rfl, rfl, _, rfl, by show 1 ≤ sizeLine; decide, fun L1 n1 => ?_⟩
    have s3 := same_upd (o := HO.lst [V.int 1]) n1
    have fl : ((((is.filter fun x : I4 => x.pad).map fun x : I4 => (x.ln : Int)).map V.int)).length ≤ 71 := by
      rw [List.length_map, List.length_map]
      have := List.length_filter_le (fun x : I4 => x.pad) is
      omega
    refine ⟨L, L1, _, _, rfl, rfl, s3 _ _ mk.at_, upd_same, by rw [sizeLine_eq]; show _ + 1 ≤ _; omega, fun L2 n2 => ?_⟩
    have s4 := same_upd (o := HO.lst (((((is.filter fun x : I4 => x.pad).map fun x : I4 => (x.ln : Int)).map V.int)) ++ [V.int 1])) n2
    have h4 : upd (upd H2 L1 (HO.lst [V.int 1])) L2 (HO.lst (((((is.filter fun x : I4 => x.pad).map fun x : I4 => (x.ln : Int)).map V.int)) ++ [V.int 1])) L2 = some (.lst ((((is.filter fun x : I4 => x.pad).map fun x : I4 => (x.ln : Int)) ++ [1]).map V.int)) := by rw [upd_same, List.map_append]; rfl
    have s04 := s2.trans (s3.trans s4)
    generalize upd (upd H2 L1 (HO.lst [V.int 1])) L2 (HO.lst (((((is.filter fun x : I4 => x.pad).map fun x : I4 => (x.ln : Int)).map V.int)) ++ [V.int 1])) = H4 at *
    refine ⟨L2, _, rfl, SqL.of h4, by rw [List.length_append]; show 0 < _ + 1; omega, fun m m1 m2 => ⟨_, _, rfl, ?_⟩⟩
    have em := fmaxI pos m1 m2
    refine ⟨_, rfl, l, rfl, ⟨_, s04.tup hl⟩, for_tup (K := K) (a := l) (xs := xs) (fun i σ G => ∃ y6 y7, σ = [some (.ref t), some (.ref l), some (.ref g), some (.ref L), some (.int (((pss.take i).foldl (fun n ps => n * dcnt is ps) (z + 1) : Nat) : Int)), some (.int m), y6, y7, none, none, none, none, none] ∧ Same H G) ⟨_, _, rfl, s04⟩ (fun i σ G _ ⟨_, _, _, s⟩ => s.tup hl) ?_ ?_⟩
    · rintro i v σ G hv ⟨y6, y7, rfl, sG⟩
      obtain ⟨d, hd, Dv⟩ := D.at hv
      rw [List.getElem?_map] at hd
      obtain ⟨ps, hps, rfl⟩ := Option.map_eq_some_iff.mp hd
      obtain ⟨l12, sd⟩ := small ps (List.mem_of_getElem? hps)
      have Dv := Dv.same sG
      cases Dv with
      | @tup a ys _ ha DA =>
        have yl : ys.length = ps.length := by rw [DA.len, List.length_map]
        refine ⟨_, rfl, a, rfl, ⟨_, ha⟩, fun D nD => lc_tup (K := K) (a := a) (xs := ys) (fun i G2 => Mk G G2 D (((ps.take i).map fun x => ((x.2.length : Nat) : Int)).map V.int)) (.start nD) (fun i G2 _ mk => mk.same.tup ha) ?_ ?_⟩
        · intro j v G2 hv mk
          obtain ⟨d, hd, Dv⟩ := DA.at hv
          rw [List.getElem?_map] at hd
          obtain ⟨y, hy, rfl⟩ := Option.map_eq_some_iff.mp hd
          have hi := (List.getElem?_eq_some_iff.mp hy).1
          obtain ⟨a1, b1, rfl, hb, hc⟩ := dx_step Dv
          refine ⟨a1, _, rfl, mk.same.tup hb, rfl, _, _, rfl, _, _, rfl, rfl, rfl, _, rfl, b1, _, rfl, .inr (mk.same.tup hc), _, mk.at_, by rw [List.length_map, List.length_map, List.length_take, sizeLine_eq]; omega, ?_⟩
          rw [List.length_map, take_more hy, List.map_append, List.map_append]
          exact mk.put (Same.refl _)
        · intro G2 mk
          rw [yl, List.take_length] at mk
          refine ⟨D, _, rfl, SqL.of mk.at_, ?_⟩
          rw [sum_take]
          have haG := mk.same.tup ha
          refine ⟨_, rfl, _, rfl, a, _, rfl, .inr haG, _, _, rfl, rfl, _, rfl, _, _, rfl, rfl, _, rfl, a, _, rfl, .inr haG, _, _, rfl, rfl, _, rfl, _, _, rfl, rfl, ?_⟩
          have e : (1 : Int) + (ys.length : Int) + ((opsN ps : Nat) : Int) + ((ys.length : Int) + 1) * (m - 1) = ((dcnt is ps : Nat) : Int) := by
            rw [yl, em]
            unfold dcnt
            rw [Int.natCast_add, Int.natCast_mul, Int.natCast_add, Int.natCast_add, Int.natCast_add]
            rfl
          refine ⟨_, _, rfl, rfl, .inl ⟨by omega, by omega⟩, _, _, rfl, rfl, _, _, rfl, rfl, .inr ?_, ?_⟩
          · show -(2 ^ 64) < (1 : Int) + (ys.length : Int) + ((opsN ps : Nat) : Int) + ((ys.length : Int) + 1) * (m - 1) ∧ (1 : Int) + (ys.length : Int) + ((opsN ps : Nat) : Int) + ((ys.length : Int) + 1) * (m - 1) < 2 ^ 64
            rw [e]
            exact ⟨by omega, by omega⟩
          · refine ⟨some (.ref a), some (.int ((opsN ps : Nat) : Int)), ?_, sG.trans mk.same⟩
            show [some (V.ref t), some (V.ref l), some (V.ref g), some (V.ref L), some (V.int ((((pss.take i).foldl (fun n ps => n * dcnt is ps) (z + 1) : Nat) : Int) * ((1 : Int) + (ys.length : Int) + ((opsN ps : Nat) : Int) + ((ys.length : Int) + 1) * (m - 1)))), some (V.int m), some (V.ref a), some (V.int ((opsN ps : Nat) : Int)), none, none, none, none, none] = _
            rw [e, take_more hps, List.foldl_append]
            rfl
    · rintro σ G ⟨y6, y7, rfl, sG⟩
      rw [xl, List.take_length]
      exact ⟨_, rfl, q' _ sG⟩
/-! ### _law_near -/
def spNearB (K : PySem.W.Frag) : Sp := fun vs H Q _ => ∃ (p t it c : Addr) (T M : Hp) (f cnt lg m : Nat) (is : List I4) (rs : List Addr) (bs : List Int), vs = [.ref p, .ref t, .ref c] ∧ Wd p T M H (f + 20) ∧ Tab T t cnt lg is it rs ∧ SqT K T c (bs.map V.int) ∧ bs.length ≤ m ∧ m ≤ 200 ∧ (∀ b ∈ bs, 0 ≤ b ∧ b < (cnt : Int)) ∧
  ∀ H' T' v, Same T T' → Wd p T' M H' f → BytV K (cnt : Int) (m + m + 12) T' v → Q v H'
abbrev nNear : List Str := ["_law_box_here", "_law_table_here", "_law_row", "_law_at", "_law_skipped", "_law_more", "_law_byte", "_law_some", "_law_one", "_law_spot"]
theorem scNear : FnScope nNear ["_law_box_here", "_law_table_here", "_law_row"] (defScope s_law_near) := ⟨rfl, rfl, rfl, by decide +kernel, rfl, by decide +kernel, by decide +kernel⟩
theorem ok_near {f fOf fTk : Addr} {fd fdOf fdTk : FuncData} {k : Nat} (F : Fun K "_law_near" "_law_near" s_law_near f fd) (T : Bi mg) (Of : Def K mg "_law_of" sOf fOf fdOf ["_law_box_here", "_law_some"]) (GOf : FnOk P w K mg base CX0 k fOf fdOf ["_law_box_here", "_law_some"] (spOf)) (Tk : Def K mg "_law_take" sTake fTk fdTk ["_law_box_here", "_law_many"]) (GTk : FnOk P w K mg base CX0 k fTk fdTk ["_law_box_here", "_law_many"] (spTake)) :
    FnOk P w K mg base CX0 (k + 1) f fd ["_law_box_here", "_law_table_here", "_law_row"] (spNearB K) := by
  refine F.ok scNear (fun vs H Q E h => ?_) (fun cdv A' outer s H vs Q E hr h => ?_)
  · obtain ⟨p, t, it, c, T, M, f, cnt, lg, m, is, rs, bs, rfl, _⟩ := h
    rfl
  · obtain ⟨p, t, it, c, T0, M, f, cnt, lg, m, is, rs, bs, rfl, W, Tb, hc, bl, ml, bb, q⟩ := h
    refine ⟨_, pss_cons (ps_par (i := 3) (j := 4) (by rfl) scNear.nd rfl rfl (by decide) rfl rfl (pa_cons (pe_call GTk hr (by rfl) Tk.gl Tk.fn.kp Tk.bi .nil pass0 (pa_cons (pv 0) (pa_cons (pe_op op_add (pe_callB call_len_seq (by rfl) T.len PySem.boot_len (pa_cons (pv 2) pa_nil)) pe_int) pa_nil))) (pa_cons (pe_call GOf hr (by rfl) Of.gl Of.fn.kp Of.bi .nil pass0 (pa_cons (pv 0) (pa_cons (pe_lc (own := [("_law_one", 8)]) (g := (gName 8)) (tt := (tB (tOp (rIxT K) (tVar 8) (tC (.int 3))))) (by rfl) scNear.nd (pi_tup (pe_ix ix_tup (pv 1) pe_int (fun _ _ => rfl))) (blkOk_by (own := [("_law_one", 8)]) (N := nNear) (sc := defScope s_law_near) (by decide +kernel)) (fun _ _ _ _ _ => (pg_name (i := 8) scNear.nd rfl (Or.inl rfl))) (fun _ _ _ _ _ => pts_one (pt_val (pe_ix (r := rIxT K) ix_tup (pv 8) pe_int (fun _ _ => rfl)))) (fun _ _ _ _ _ => (pv 8))) pa_nil))) pa_nil)) (by rfl))
      (C8.pss_cut (ps_set (i := 5) scNear.nd rfl (.inl rfl) (pe_op op_catA (pe_tup (pa_cons (pe_ix ix_tup (pv 4) pe_int (fun _ _ => rfl)) pa_nil)) (pe_callTy call_tuple_of (by rfl) T.tuple (by decide +kernel) (pa_cons (pe_lc (own := [("_law_spot", 9)]) (g := (gName 9)) (tt := tYes) (te := (tCall (spTake) [] E0 (tCons (tVar 0) (tCons (tOp (rIxT K) (tVar 1) (tC (.int 0))) tNil)))) (by rfl) scNear.nd (pi_range1 (by rfl) T.range (pa_cons (pe_op op_sub (pe_ix ix_tup (pv 4) pe_int (fun _ _ => rfl)) pe_int) pa_nil)) (blkOk_by (own := [("_law_spot", 9)]) (N := nNear) (sc := defScope s_law_near) (by decide +kernel)) (fun _ _ _ _ _ => (pg_name (i := 9) scNear.nd rfl (Or.inl rfl))) (fun _ _ _ _ _ => pts_nil) (fun _ _ _ _ _ => (pe_call GTk hr (by rfl) Tk.gl Tk.fn.kp Tk.bi .nil pass0 (pa_cons (pv 0) (pa_cons (pe_ix (r := rIxT K) ix_tup (pv 1) pe_int (fun _ _ => rfl)) pa_nil))))) pa_nil))))
      (pss_cons (ps_set (i := 6) scNear.nd rfl (.inl rfl) (pe_call GTk hr (by rfl) Tk.gl Tk.fn.kp Tk.bi .nil pass0 (pa_cons (pv 0) (pa_cons (pe_ix ix_tup (pv 1) pe_int (fun _ _ => rfl)) pa_nil))))
      (pss_cons (ps_set (i := 7) scNear.nd rfl (.inl rfl) (pe_lst (pa_cons (pe_op op_catA (pe_op op_catA (pe_slice sl_tupA (pv 2) po_none (po_some (pv 3))) (pe_tup (pa_cons (pv 6) pa_nil))) (pe_slice sl_tupA (pv 2) (po_some (pv 3)) po_none)) (pa_cons (pe_op op_catA (pe_slice sl_tupA (pv 2) po_none (po_some (pv 3))) (pe_slice sl_tupA (pv 2) (po_some (pe_op op_add (pv 3) pe_int)) po_none)) (pa_cons (pe_op op_catA (pe_op op_catA (pe_slice sl_tupA (pv 2) po_none (po_some (pv 3))) (pe_tup (pa_cons (pv 6) pa_nil))) (pe_slice sl_tupA (pv 2) (po_some (pe_op op_add (pv 3) pe_int)) po_none)) pa_nil)))))
      (pss_one (ps_ret (pe_call GOf hr (by rfl) Of.gl Of.fn.kp Of.bi .nil pass0 (pa_cons (pv 0) (pa_cons (pe_op op_cat (pv 7) (pe_lst (pa_cons (pe_op op_catA (pe_op op_catA (pe_slice sl_tupA (pv 2) po_none (po_some (pv 3))) (pv 5)) (pe_slice sl_tupA (pv 2) (po_some (pv 3)) po_none)) (pa_cons (pe_op op_catA (pv 5) (pv 2)) (pa_cons (pe_op op_catA (pv 2) (pv 5)) pa_nil))))) pa_nil)))))))), ?_⟩
    have i0 : ∀ x y : V, atI [x, y] 0 = some x := fun x y => atI_nat (j := 0) rfl
    have i1 : ∀ x y : V, atI [x, y] 1 = some y := fun x y => atI_nat (j := 1) rfl
    have few := Tb.ok.few
    have cb := Tb.ok.cb
    have lb := Tb.ok.lb
    have rl := Tb.rows.1
    -- a place, an instruction of padding
    obtain ⟨n0, B0, n1, up⟩ := (W.mono (f' := f + 18 + 1) (by omega)).tk
    refine ⟨_, rfl, _, rfl, c, _, rfl, .inr (W.th.tup hc), _, _, rfl, rfl, p, _, n0, rfl, B0, by omega, by rw [List.length_map]; omega, by rw [List.length_map]; omega, fun H1 at_ b1 B1 a0 a1 _ => ?_⟩
    have W1 := up b1 B1
    clear up
    refine ⟨_, rfl, _, rfl, t, _, _, _, rfl, rfl, SqT.of (W1.th _ _ Tb.at_), i1 _ _, it, rfl, ⟨_, SqT.of (W1.th _ _ Tb.its)⟩, fun D nD => lcW_tup (K := K) (a := it) (xs := rs.map V.ref) W1 nD (SqT.of Tb.its) (by rw [List.length_map]; omega) 0
      (fun i _ acc => (∀ v ∈ acc, ∃ (j : Nat) (r : Addr) (x : I4), v = .ref r ∧ rs[j]? = some r ∧ is[j]? = some x) ∧ (0 < i → acc ≠ [])) ⟨by simp, fun h => absurd h (by decide)⟩ (by omega) ?_ ?_⟩
    · rintro i x T' H' acc f' N N0 hx s' W' ⟨al, ne⟩ kN k0
      obtain ⟨hi, r, rfl, hr2, hri⟩ := rows_at (Tb.same s').rows hx
      have hxi : is[i]? = some is[i] := List.getElem?_eq_getElem hi
      have at3 : atI (is[i]).vs 3 = some (.bl (is[i]).pad) := atI_nat (j := 3) rfl
      refine ⟨rfl, _, rfl, r, _, _, _, rfl, rfl, SqT.of (W'.th _ _ hr2), at3, _, rfl, ?_⟩
      cases hp : (is[i]).pad with
      | true =>
        refine iteT ⟨_, rfl, kN T' H' _ (Same.refl _) W' ⟨fun v hv => ?_, fun _ => by simp⟩⟩
        rcases List.mem_append.mp hv with h | h
        · exact al v h
        · rw [List.mem_singleton.mp h]; exact ⟨i, r, _, rfl, hri, hxi⟩
      | false =>
        refine iteF (k0 T' H' (Same.refl _) W' ⟨al, fun _ => ne (Nat.pos_of_ne_zero fun z => ?_)⟩)
        subst z
        rw [Tb.ok.fst _ hxi] at hp
        cases hp
    rintro T2 H2 acc s2 W2 ⟨al, ne⟩ lacc
    rw [List.length_map] at lacc
    have nDM : M D = none := (W1.free nD).2.1
    have W2f := W2.freeze nDM
    have s3 := s2.trans W2.frT
    have hD : upd T2 D (HO.lst acc) D = some (.lst acc) := upd_same
    generalize upd T2 D (HO.lst acc) = T3 at *
    obtain ⟨n0, B2, n1, up⟩ := (W2f.mono (f' := f + 16 + 1) (by omega)).tk
    have r0 : 0 < rs.length := by rw [rl]; exact List.length_pos_iff.mpr Tb.ok.ne
    refine ⟨p, D, n0, acc, rfl, B2, by omega, W2f.th _ _ hD, ne_of_none hD W2f.tp, List.length_pos_iff.mpr (ne (by rw [List.length_map]; exact r0)), by omega, fun H4 v hv b4 B4 _ => ?_⟩
    have W4 := up b4 B4
    clear up
    obtain ⟨j, r, x, rfl, hrj, hxj⟩ := al v hv
    have hr := Tb.rows.2 j r x hrj hxj
    have xin := List.mem_of_getElem? hxj
    have xl := Tb.ok.len x xin
    have xo := Tb.ok.ops x xin
    have at0 : atI x.vs 0 = some (.int (x.op : Int)) := atI_nat (j := 0) rfl
    have at2 : atI x.vs 2 = some (.int (x.ln : Int)) := atI_nat (j := 2) rfl
    refine ⟨_, _, rfl, ?_⟩
    clear al ne hD b4 B4 b1 B1 B0 B2 W2 W1 nD nDM
    have hr3 := s3 _ _ hr
    -- a whole instruction of padding
    refine ⟨fun σ G => ∃ (T8 : Hp) (mo : Addr) (ms : List Int), σ = [some (.ref p), some (.ref t), some (.ref c), some (.int at_), some (.ref r), some (.ref mo), none, none, none, none] ∧ Same T0 T8 ∧ Wd p T8 M G (f + 4) ∧ SqT K T8 mo (ms.map V.int) ∧ ms.length ≤ 12 ∧ ∀ b ∈ ms, 0 ≤ b ∧ b < (cnt : Int), ?_, ?_⟩
    rotate_left
    · rintro σ H8 ⟨T8, mo, ms, rfl, s8, W8, hmo, lm, mb⟩
      have T8b := Tb.same s8
      have hc8 := s8.tup hc
      have vT : ∀ {σ : L2.St}, σ[1]? = some (some (.ref t)) → Ev p M 0 (tVar 1) σ T8 (TupV K [.int (cnt : Int), .ref it]) := fun h => ev_var h fun T' s => ⟨t, rfl, SqT.of (s _ _ T8b.at_)⟩
      refine st_set (ev_take (ev_is rfl) (ev_ix (vT rfl) (ev_c _) (i0 _ _)) (by omega) (by omega)) W8 fun T9 H9 v9 s9 W9 ⟨y, hy, y0, y1⟩ => ?_
      subst hy
      have vR : ∀ {σ : L2.St}, σ[2]? = some (some (.ref c)) → Ev p M 0 (tVar 2) σ T9 (BytV K (cnt : Int) m) := fun h => ev_var h fun T' s => ⟨c, bs, rfl, s.tup (s9.tup hc8), bl, bb⟩
      have vB : ∀ {σ : L2.St}, σ[6]? = some (some (.int y)) → Ev p M (0 + 0) (tTup (tCons (tVar 6) tNil)) σ T9 (BytV K (cnt : Int) 1) := fun h => ev_tup1B (ev_var h fun _ _ => ⟨y, rfl, y0, y1⟩)
      have vS : ∀ {σ : L2.St}, σ[3]? = some (some (.int at_)) → EvO p M (0 + 0) (tPart (tOp (rI0 fun i j => .int (i + j)) (tVar 3) (tC (.int 1)))) σ T9 (some (at_ + 1)) := fun h => evo_some (ev_ints (ev_is h) (ev_c _))
      have up : ∀ {te : TE} {σ : L2.St} {n : Nat} {T : Hp} {c : Nat}, Ev p M c te σ T (BytV K (cnt : Int) n) → n ≤ m + m + 12 → Ev p M c te σ T (BytV K (cnt : Int) (m + m + 12)) := fun e h => e.imp fun T' v _ r => by
        obtain ⟨a, bs, e1, e2, e3, e4⟩ := r
        exact ⟨a, bs, e1, e2, by omega, e4⟩
      refine st_set (ev_lst (mon_all (mon_byt _ _) 3) (eva_all (mon_byt _ _) (up (ev_catB (ev_catB (ev_slB (vR rfl) evo_none (evo_some (ev_is rfl))) (vB rfl) (by omega)) (ev_slB (vR rfl) (evo_some (ev_is rfl)) evo_none) (by omega)) (by omega))
        (eva_all (mon_byt _ _) (up (ev_catB (ev_slB (vR rfl) evo_none (evo_some (ev_is rfl))) (ev_slB (vR rfl) (vS rfl) evo_none) (by omega)) (by omega))
        (eva_all (mon_byt _ _) (up (ev_catB (ev_catB (ev_slB (vR rfl) evo_none (evo_some (ev_is rfl))) (vB rfl) (by omega)) (ev_slB (vR rfl) (vS rfl) evo_none) (by omega)) (by omega)) eva_nil'))) (fun _ vs h => by rw [h.1]; decide)) W9 fun T10 H10 v10 s10 W10 r10 => ?_
      have vR : ∀ {σ : L2.St}, σ[2]? = some (some (.ref c)) → Ev p M 0 (tVar 2) σ T10 (BytV K (cnt : Int) m) := fun h => ev_var h fun T' s => ⟨c, bs, rfl, s.tup ((s9.trans s10).tup hc8), bl, bb⟩
      have vM : ∀ {σ : L2.St}, σ[5]? = some (some (.ref mo)) → Ev p M 0 (tVar 5) σ T10 (BytV K (cnt : Int) 12) := fun h => ev_var h fun T' s => ⟨mo, ms, rfl, s.tup ((s9.trans s10).tup hmo), lm, mb⟩
      have up : ∀ {te : TE} {σ : L2.St} {n : Nat} {T : Hp} {c : Nat}, Ev p M c te σ T (BytV K (cnt : Int) n) → n ≤ m + m + 12 → Ev p M c te σ T (BytV K (cnt : Int) (m + m + 12)) := fun e h => e.imp fun T' v _ r => by
        obtain ⟨a, bs, e1, e2, e3, e4⟩ := r
        exact ⟨a, bs, e1, e2, by omega, e4⟩
      refine st_ret (ev_of (R := BytV K (cnt : Int) (m + m + 12)) (ev_is rfl) (ev_catL (P := AllV (BytV K (cnt : Int) (m + m + 12)) 6) (ev_var rfl fun T' s => mon_lst (mon_all (mon_byt _ _) 3) _ _ _ s r10) (mon_all (mon_byt _ _) 3)
        (ev_lst (mon_all (mon_byt _ _) 3) (eva_all (mon_byt _ _) (up (ev_catB (ev_catB (ev_slB (vR rfl) evo_none (evo_some (ev_is rfl))) (vM rfl) (by omega)) (ev_slB (vR rfl) (evo_some (ev_is rfl)) evo_none) (by omega)) (by omega))
          (eva_all (mon_byt _ _) (up (ev_catB (vM rfl) (vR rfl) (by omega)) (by omega))
          (eva_all (mon_byt _ _) (up (ev_catB (vR rfl) (vM rfl) (by omega)) (by omega)) eva_nil'))) (fun _ vs h => by rw [h.1]; decide))
        (fun T' xs ys h1 h2 => ⟨⟨by rw [List.length_append, h1.1, h2.1], fun v hv => (List.mem_append.mp hv).elim (h1.2 v) (h2.2 v)⟩, by rw [h1.1, h2.1]; decide⟩) (mon_all (mon_byt _ _) 6))
        (fun T' xs _ h => ⟨by rw [h.1]; decide, by rw [h.1]; decide, h.2⟩)) W10 fun T11 H11 v11 s11 W11 r11 => ?_
      exact q H11 T11 v11 (s8.trans (s9.trans (s10.trans s11))) (W11.mono (by omega)) r11
    refine ⟨_, rfl, r, _, _, _, rfl, rfl, SqT.of (W4.th _ _ hr3), at0, by show 1 ≤ sizeLine; decide, fun u nu => ?_⟩
    have W5 := W4.put (HO.tup [V.int (x.op : Int)]) nu
    have s5 := s3.trans (W4.putT (HO.tup [V.int (x.op : Int)]) nu)
    have hu : upd T3 u (HO.tup [V.int (x.op : Int)]) u = some (.tup [V.int (x.op : Int)]) := upd_same
    generalize upd T3 u (HO.tup [V.int (x.op : Int)]) = T5, upd H4 u (HO.tup [V.int (x.op : Int)]) = H5 at *
    have T5b := Tb.same s5
    refine ⟨_, rfl, r, _, _, _, rfl, rfl, SqT.of (W5.th _ _ (s5 _ _ hr)), at2, _, _, rfl, rfl, _, rfl, by omega, by omega, fun D nD => lcW_range (n := ((x.ln : Int) - 1).toNat) W5 nD (by omega) 1 (fun i _ acc => ∃ ms : List Int, acc = ms.map V.int ∧ ms.length = i ∧ ∀ b ∈ ms, 0 ≤ b ∧ b < (cnt : Int)) ⟨[], rfl, rfl, by simp⟩ (by omega) ?_ ?_⟩
    · rintro i T' H' acc f' N N0 hi s' W' ⟨ms, rfl, lm, mb⟩ kN k0
      have T6 := T5b.same s'
      obtain ⟨n0, B0, n1, up⟩ := W'.tk
      refine ⟨rfl, _, rfl, _, rfl, t, _, _, _, rfl, rfl, SqT.of (W'.th _ _ T6.at_), i0 _ _, p, (cnt : Int), n0, rfl, B0, by omega, by omega, by omega, fun H2 d b2 B2 d0 d1 _ => kN T' H2 _ (Same.refl _) (up b2 B2) ⟨ms ++ [d], by rw [List.map_append]; rfl, by rw [List.length_append, lm]; rfl, fun b hb => ?_⟩⟩
      rcases List.mem_append.mp hb with h | h
      · exact mb b h
      · rw [List.mem_singleton.mp h]; exact ⟨d0, d1⟩
    rintro T6 H6 acc s6 W6 ⟨ms, rfl, lm, mb⟩ lacc
    have nDM : M D = none := (W5.free nD).2.1
    refine ⟨D, _, rfl, .inl ⟨SqL.of W6.at, fun l nl => ?_⟩⟩
    have W7 := (W6.put (HO.tup (ms.map V.int)) nl).drop nDM
    have s7 := s6.trans (W6.putT (HO.tup (ms.map V.int)) nl)
    have hl7 : upd T6 l (HO.tup (ms.map V.int)) l = some (.tup (ms.map V.int)) := upd_same
    generalize upd T6 l (HO.tup (ms.map V.int)) = T7, upd H6 l (HO.tup (ms.map V.int)) = H7 at *
    have W7 := W7.mono (f' := f + 4) (by omega)
    have hu7 := s7 _ _ hu
    refine ⟨u, l, _, _, rfl, rfl, SqT.of (W7.th _ _ hu7), SqT.of (W7.th _ _ hl7), by rw [List.length_map, sizeLine_eq]; show 1 + _ ≤ _; omega, (fun e => nomatch e), fun _ e => ?_, fun _ _ a na => ?_⟩
    · have e' : ms = [] := List.map_eq_nil_iff.mp e
      subst e'
      exact ⟨T7, u, [(x.op : Int)], rfl, s5.trans s7, W7, SqT.of hu7, by simp, fun b hb => by rw [List.mem_singleton.mp hb]; omega⟩
    · refine ⟨_, a, (x.op : Int) :: ms, rfl, (s5.trans s7).trans (W7.putT _ na), W7.put _ na, SqT.of upd_same, by rw [List.length_cons]; omega, fun b hb => ?_⟩
      rcases List.mem_cons.mp hb with rfl | hb
      · omega
      · exact mb b hb
end
end Ov
namespace Ov
open PySem PySem.Spec PyProof.Rows L2
section
variable {P : Program} {w : World} {K : PySem.W.Frag} {mg : Str → Option Value} {base : Heap}
/-! ### _law_is_row -/
def spIsRow (K : PySem.W.Frag) : Sp := fun vs H Q _ => ∃ (t it : Addr) (cnt lg : Nat) (is : List I4) (rs : List Addr) (v : V) (d : PyData), vs = [.ref t, v] ∧ Tab H t cnt lg is it rs ∧ Dx K H v d ∧ (∀ ds, d = .tuple ds → ds.length ≤ 1000) ∧ ∀ H', Same H H' → Q (.bl (isCode cnt d)) H'
abbrev nIsRow : List Str := ["_law_table_here", "_law_item", "_law_one"]
theorem scIsRow : FnScope nIsRow ["_law_table_here", "_law_item"] (defScope s_law_is_row) := ⟨rfl, rfl, rfl, by decide +kernel, rfl, by decide +kernel, by decide +kernel⟩
theorem ok_isRow {f : Addr} {fd : FuncData} {k : Nat} (F : Fun K "_law_is_row" "_law_is_row" s_law_is_row f fd) (T : Bi mg) :
    FnOk P w K mg base CX0 (k + 1) f fd ["_law_table_here", "_law_item"] (spIsRow K) := by
  refine F.ok scIsRow (fun vs H Q E h => ?_) (fun cdv A' outer s H vs Q E hr h => ?_)
  · obtain ⟨t, it, cnt, lg, is, rs, v, d, rfl, _⟩ := h
    rfl
  · obtain ⟨t, it, cnt, lg, is, rs, v, d, rfl, Tb, D, hl, q⟩ := h
    refine ⟨_, pss_cons (ps_if (pt_not (pt_val (pe_callB call_isi (by rfl) T.isi (by decide +kernel) (pa_cons (pv 1) (pa_cons (pe_bltn (v := .ty "tuple") (u := .type "tuple") (by rfl) T.tuple (by decide +kernel) rfl) pa_nil))))) (pss_one (ps_ret pe_bl)) pss_nil)
      (pss_one (ps_ret (pe_callB (cr_all rfl) (by rfl) T.all (by decide +kernel) (pa_cons (pe_lc (own := [("_law_one", 2)]) (g := (gName 2)) (tt := tYes) (te := (tAndV (tCB (rIsi K) (tCons (tVar 2) (tCons (tC (.ty "int")) tNil))) (tAndV (tNotV (tCB (rIsi K) (tCons (tVar 2) (tCons (tC (.ty "bool")) tNil)))) (tChain (rI0 fun i j => .bl (decide (i ≤ j))) (rI0 fun i j => .bl (decide (i < j))) (tC (.int 0)) (tVar 2) (tOp (rIxT K) (tVar 0) (tC (.int 0))))))) (by rfl) scIsRow.nd (pi_tup (pv 1)) (blkOk_by (own := [("_law_one", 2)]) (N := nIsRow) (sc := defScope s_law_is_row) (by decide +kernel)) (fun _ _ _ _ _ => (pg_name (i := 2) scIsRow.nd rfl (Or.inl rfl))) (fun _ _ _ _ _ => pts_nil) (fun _ _ _ _ _ => (pe_and (pe_callB (r := rIsi K) call_isi (by rfl) T.isi (by decide +kernel) (pa_cons (pv 2) (pa_cons (pe_bltn (v := .ty "int") (u := .type "int") (by rfl) T.int (by decide +kernel) rfl) pa_nil))) (pe_and (pe_not (pe_callB (r := rIsi K) call_isi (by rfl) T.isi (by decide +kernel) (pa_cons (pv 2) (pa_cons (pe_bltn (v := .ty "bool") (u := .type "bool") (by rfl) T.bool (by decide +kernel) rfl) pa_nil)))) (pe_one (pe_chain op_le op_lt pe_int (pv 2) (pe_ix (r := rIxT K) ix_tup (pv 0) pe_int (fun _ _ => rfl)))))))) pa_nil)))), ?_⟩
    have i0 : ∀ x y : V, atI [x, y] 0 = some x := fun x y => atI_nat (j := 0) rfl
    refine ⟨_, rfl, _, _, _, _, _, rfl, .ty _, D.ty, kit_ty (kit_t d), _, rfl, ?_⟩
    cases D with
    | non => exact iteT (q H (Same.refl _))
    | str x => exact iteT (q H (Same.refl _))
    | dct h => exact iteT (q H (Same.refl _))
    | lst h a => exact iteT (q H (Same.refl _))
    | bl b => exact iteT (q H (Same.refl _))
    | int i => exact iteT (q H (Same.refl _))
    | @tup a xs ds hs ha =>
      have h1000 := hl ds rfl
      have el := ha.len
      refine iteF ⟨_, rfl, a, rfl, ⟨_, hs⟩, fun D nD => lc_tup (K := K) (a := a) (xs := xs) (fun i H2 => Mk H H2 D (((ds.take i).map (btw 0 ((cnt : Int) - 1))).map V.bl)) (.start nD) (fun i H2 _ p => p.same.tup hs) ?_ ?_⟩
      · intro i x H2 hx mk
        obtain ⟨d, hd, D2⟩ := ha.at hx
        have D3 := D2.same mk.same
        have sz : (((ds.take i).map (btw 0 ((cnt : Int) - 1))).map V.bl).length < sizeLine := by rw [List.length_map, List.length_map, List.length_take]; exact small1000 (by omega)
        rw [take_more hd, List.map_append, List.map_append]
        have fin : ∀ b : Bool, b = btw 0 ((cnt : Int) - 1) d → ∃ acc, H2 D = some (.lst acc) ∧ acc.length < sizeLine ∧ Mk H (upd H2 D (.lst (acc ++ [V.bl b]))) D (((ds.take i).map (btw 0 ((cnt : Int) - 1))).map V.bl ++ ([d].map (btw 0 ((cnt : Int) - 1))).map V.bl) := fun b e => by
          subst e
          exact ⟨_, mk.at_, sz, mk.put (Same.refl _)⟩
        refine ⟨rfl, _, rfl, _, _, _, _, _, rfl, .ty _, D3.ty, kit_ty (kit_i d), _, rfl, ?_⟩
        cases D3 with
        | non => exact iteF (fin false rfl)
        | str x => exact iteF (fin false rfl)
        | dct h => exact iteF (fin false rfl)
        | lst h a => exact iteF (fin false rfl)
        | tup h a => exact iteF (fin false rfl)
        | bl b => exact iteT ⟨_, rfl, _, _, _, _, _, rfl, .ty _, (Dx.bl b).ty (K := K) (H := H2), kit_ty (kit_b _), _, rfl, _, rfl, iteF (fin false rfl)⟩
        | int n =>
          refine iteT ⟨_, rfl, _, _, _, _, _, rfl, .ty _, (Dx.int n).ty (K := K) (H := H2), kit_ty (kit_b _), _, rfl, _, rfl, iteT ?_⟩
          refine ⟨_, rfl, _, _, rfl, rfl, _, rfl, ?_⟩
          by_cases h1 : (0 : Int) ≤ n
          · rw [decide_eq_true h1]
            refine iteT ⟨_, rfl, t, _, _, _, rfl, rfl, SqT.of (mk.same _ _ Tb.at_), i0 _ _, _, _, rfl, rfl, fin _ ?_⟩
            show decide (n < (cnt : Int)) = (decide (0 ≤ n) && decide (n ≤ (cnt : Int) - 1))
            rw [decide_eq_true h1, Bool.true_and]
            exact decide_eq_decide.mpr (by omega)
          · rw [decide_eq_false h1]
            exact iteF (fin false (by show false = (decide (0 ≤ n) && _); rw [decide_eq_false h1]; rfl))
      intro H2 mk
      refine ⟨D, _, rfl, SqL.of mk.at_, ?_⟩
      rw [el, List.take_length, List.all_map]
      exact q H2 mk.same
/-! ### _law_is_over -/
def spIsOver (K : PySem.W.Frag) : Sp := fun vs H Q _ => ∃ (t it l g c : Addr) (cnt lg : Nat) (is : List I4) (rs : List Addr) (xs : List V) (pss : List (List PStep)) (gs : List Nat) (bs : List Int), vs = [.ref t, .ref l, .ref g, .ref c] ∧ Tab H t cnt lg is it rs ∧ SqT K H l xs ∧ DxAll K H xs (pss.map planD) ∧ SqT K H g (entV gs) ∧ Ents gs ∧ gs.length = pss.length ∧ SqT K H c (bs.map V.int) ∧ bs.length ≤ 1000 ∧ ∀ H', Same H H' → Q (.bl (ovB is bs pss gs)) H'
abbrev nIsOver : List Str := ["_law_table_here", "_law_plans", "_law_gates_here", "_law_row", "_law_plan_here", "_law_gate"]
theorem scIsOver : FnScope nIsOver ["_law_table_here", "_law_plans", "_law_gates_here", "_law_row"] (defScope s_law_is_over) := ⟨rfl, rfl, rfl, by decide +kernel, rfl, by decide +kernel, by decide +kernel⟩
theorem ok_isOver {f fLFi fLSp : Addr} {fd fdLFi fdLSp : FuncData} {k : Nat} (F : Fun K "_law_is_over" "_law_is_over" s_law_is_over f fd) (T : Bi mg) (LFi : Def K mg "_law_fits" s_law_fits fLFi fdLFi ["_law_plan_here", "_law_found"]) (GLFi : FnOk P w K mg base CX0 k fLFi fdLFi ["_law_plan_here", "_law_found"] (spFits K)) (LSp : Def K mg "_law_steps" s_law_steps fLSp fdLSp ["_law_table_here", "_law_row", "_law_begin"]) (GLSp : FnOk P w K mg base CX0 k fLSp fdLSp ["_law_table_here", "_law_row", "_law_begin"] (spSteps K)) :
    FnOk P w K mg base CX0 (k + 1) f fd ["_law_table_here", "_law_plans", "_law_gates_here", "_law_row"] (spIsOver K) := by
  refine F.ok scIsOver (fun vs H Q E h => ?_) (fun cdv A' outer s H vs Q E hr h => ?_)
  · obtain ⟨t, it, l, g, c, cnt, lg, is, rs, xs, pss, gs, bs, rfl, _⟩ := h
    rfl
  · obtain ⟨t, it, l, g, c, cnt, lg, is, rs, xs, pss, gs, bs, rfl, Tb, hl, D, hg, oe, le, hc, bl, q⟩ := h
    refine ⟨_, pss_cons (ps_if (pt_cmpR op_lt (pe_callB call_len_seq (by rfl) T.len PySem.boot_len (pa_cons (pv 3) pa_nil)) (pe_ix ix_tup (pv 2) (pe_un un_neg pe_int) (fun _ _ => rfl)) (nomark _)) (pss_one (ps_ret pe_bl)) pss_nil)
      (pss_one (ps_ret (pe_callB (cr_all rfl) (by rfl) T.all (by decide +kernel) (pa_cons (pe_lc (own := [("_law_plan_here", 4), ("_law_gate", 5)]) (g := (gTup K 2 (gCons (gName 4) (gCons (gName 5) gNil)))) (tt := tYes) (by rfl) scIsOver.nd (RZ.pi_zipA (by rfl) T.zip (pa_cons (pv 1) (pa_cons (pv 2) pa_nil))) (blkOk_by (own := [("_law_plan_here", 4), ("_law_gate", 5)]) (N := nIsOver) (sc := defScope s_law_is_over) (by decide +kernel)) (fun _ _ _ _ _ => (pg_tup rfl (pgs_cons (pg_name (i := 4) scIsOver.nd rfl (Or.inl rfl)) (pgs_cons (pg_name (i := 5) scIsOver.nd rfl (Or.inl rfl)) pgs_nil)))) (fun _ _ _ _ _ => pts_nil) (fun _ _ _ _ _ => (pe_call GLFi hr (by rfl) LFi.gl LFi.fn.kp LFi.bi .nil pass0 (pa_cons (pv 4) (pa_cons (pe_call GLSp hr (by rfl) LSp.gl LSp.fn.kp LSp.bi .nil pass0 (pa_cons (pv 0) (pa_cons (pv 3) (pa_cons (pv 5) pa_nil)))) pa_nil))))) pa_nil)))), ?_⟩
    have xl : xs.length = pss.length := by rw [D.len, List.length_map]
    obtain ⟨gr, z, rfl⟩ : ∃ (gr : List Nat) (z : Nat), gs = gr ++ [z] := by
      rcases List.eq_nil_or_concat gs with e0 | ⟨gr, z, e0⟩
      · rw [e0] at oe
        exact absurd oe.hd (by simp)
      · exact ⟨gr, z, by rw [e0, List.concat_eq_append]⟩
    have ez : (gr ++ [z]).getLast?.getD 0 = z := by simp
    have hg' : SqT K H g (entV gr ++ [V.int (z : Int)]) := by
      have e : entV (gr ++ [z]) = entV gr ++ [V.int (z : Int)] := by
        show ((gr ++ [z]).map fun n : Nat => (n : Int)).map V.int = _
        rw [List.map_append, List.map_append]
        rfl
      rw [← e]
      exact hg
    refine ⟨_, rfl, c, _, rfl, .inr hc, _, rfl, _, rfl, g, _, _, _, rfl, rfl, hg', atI_last _ _, _, _, rfl, rfl, _, rfl, ?_⟩
    rw [List.length_map]
    unfold ovB at q
    rw [ez] at q
    by_cases h1 : z ≤ bs.length
    · rw [decide_eq_false (show ¬ (bs.length : Int) < (z : Int) by omega)]
      rw [decide_eq_true h1] at q
      refine iteF ?_
      have hgz : ∀ e ∈ gr ++ [z], e ≤ bs.length := fun e he => Nat.le_trans (ents_le oe (by simp) e he) h1
      generalize gr ++ [z] = gs at *
      refine ⟨_, rfl, _, rfl, l, g, _, _, rfl, .inr ⟨hl, hg, fun L nL => lc_it (walk_zipT (K := K) (a := l) (b := g) (xs := xs) (ys := entV gs) rfl) (fun i G => Mk H G L ((((gs.zip pss).take i).map fun q => fits (foundAt is bs q.1) q.2).map V.bl)) (.start nL) (fun i G _ mk => ⟨mk.same.tup hl, mk.same.tup hg⟩) (fun j u G G5 hi mk yy => ?_) (fun G mk => ?_)⟩⟩
      · obtain ⟨tt, x1, x2, rfl, nt, rfl, f1, f2⟩ := yy
        have f2' : xs[j]? = some x1 := f1
        have f1' : (entV gs)[j]? = some x2 := f2
        rw [List.getElem?_map, List.getElem?_map] at f1'
        obtain ⟨e1, he1, rfl⟩ := Option.map_eq_some_iff.mp f1'
        obtain ⟨e, he, rfl⟩ := Option.map_eq_some_iff.mp he1
        obtain ⟨d2, hd2, D2⟩ := D.at f2'
        rw [List.getElem?_map] at hd2
        obtain ⟨ps, hps, rfl⟩ := Option.map_eq_some_iff.mp hd2
        have st := same_upd (o := HO.tup [x1, V.int (e : Int)]) nt
        have s3 := mk.same.trans st
        have jl := (List.getElem?_eq_some_iff.mp he).1
        have hz : (gs.zip pss)[j]? = some (e, ps) := by
          rw [List.getElem?_zip_eq_some]
          exact ⟨he, hps⟩
        refine ⟨tt, _, rfl, SqT.of upd_same, rfl, _, _, rfl, _, _, rfl, rfl, rfl, _, rfl, _, rfl, _, rfl, _, rfl, t, it, c, cnt, lg, is, rs, bs, e, rfl, Tb.same s3, s3.tup hc, by omega, hgz e (List.mem_of_getElem? he), fun G6 v begun fol s6 en Dv => ?_⟩
        refine ⟨x1, v, ps, foundOf is bs begun fol, rfl, (D2.same s3).same s6, Dv, fun gs h => found_ok bl h, fun G7 s7 => ?_⟩
        rw [found_at en]
        refine ⟨_, s7 _ _ (s6 _ _ (st _ _ mk.at_)), ?_, ?_⟩
        · rw [List.length_map, List.length_map, List.length_take, List.length_zip]
          have := oe.few
          exact small1000 (by omega)
        · rw [take_more hz, List.map_append, List.map_append]
          exact mk.put (st.trans (s6.trans s7))
      · have el : min xs.length (entV gs).length = (gs.zip pss).length := by rw [List.length_zip, List.length_map, List.length_map, xl, Nat.min_comm]
        rw [el, List.take_length] at mk
        refine ⟨L, _, rfl, SqL.of mk.at_, ?_⟩
        rw [List.all_map]
        exact q G mk.same
    · rw [decide_eq_true (show (bs.length : Int) < (z : Int) by omega)]
      rw [decide_eq_false h1] at q
      exact iteT (q H (Same.refl _))
end
end Ov
namespace Ov
open PySem PySem.Spec PyProof.Rows L2
/-! ### what the defs of a law leave in its world -/
def none0 : Hp := fun _ => none
section
variable {p : Addr} {T M H H' : Hp} {f : Nat} {K : PySem.W.Frag}
theorem Wd.init (s : Same H H') (n : H p = none) (B : BoxAt H' p 0) : Wd p H none0 H' (2 ^ 37) :=
  ⟨s, (fun _ _ e => nomatch e), fun b e => absurd rfl e, (fun _ _ e => nomatch e), n, rfl, 0, B, by omega⟩
theorem Wd.but (W : Wd p T M H f) (b : But p H H') {n f' : Nat} (B : BoxAt H' p n) (l : n + f' ≤ 2 ^ 37) : Wd p T M H' f' :=
  ⟨fun c o e => b _ _ (W.th _ _ e) (ne_of_none e W.tp), fun c o e => b _ _ (W.mh _ _ e) (ne_of_none e W.mp), W.dis, W.nt, W.tp, W.mp, n, B, l⟩
theorem rest_but {H H' : Hp} (b : But p H H') : Same (rest p M H) (rest p M H') := fun c o e => by
  have e2 := rest_same _ _ e
  unfold rest at e ⊢
  by_cases h : c = p
  · rw [if_pos h] at e; cases e
  · rw [if_neg h] at e ⊢
    cases q : M c with
    | some x => rw [q] at e; cases e
    | none => exact b _ _ e2 h
mutual
theorem Dx.restW (W : Wd p T M H f) (nd : ∀ b, M b ≠ some (.dK [])) : ∀ {v : V} {d : PyData}, Dx K H v d → noList d = true → Dx K (rest p M H) v d
  | _, _, .non, _ => .non
  | _, _, .bl b, _ => .bl b
  | _, _, .int i, _ => .int i
  | _, _, .str x, _ => .str x
  | _, _, .dct (a := a) h, _ => .dct (by
      unfold rest
      rw [if_neg (fun z => by obtain ⟨n, ⟨_, _, _, e, _⟩, _⟩ := W.box; rw [z, e] at h; cases h)]
      cases q : M a with
      | some x => have := W.mh _ _ q; rw [h] at this; cases this; exact absurd q (nd a)
      | none => exact h)
  | _, _, .lst _ _, z => by simp [noList] at z
  | _, _, .tup h a, z => .tup (W.sqT h) (DxAll.restW W nd a (by simpa [noList] using z))
theorem DxAll.restW (W : Wd p T M H f) (nd : ∀ b, M b ≠ some (.dK [])) : ∀ {vs : List V} {ds : List PyData}, DxAll K H vs ds → noListAll ds = true → DxAll K (rest p M H) vs ds
  | _, _, .nil, _ => .nil
  | _, _, .cons h a, z => by
    have z' := Bool.and_eq_true_iff.mp (show (noList _ && noListAll _) = true by simpa only [noListAll] using z)
    exact .cons (Dx.restW W nd h z'.1) (DxAll.restW W nd a z'.2)
end
theorem nd0 : ∀ b, none0 b ≠ some (.dK []) := fun _ z => nomatch z
theorem ndL {M : Hp} (h : ∀ b, M b ≠ some (.dK [])) (L : Addr) (xs : List V) : ∀ b, upd M L (.lst xs) b ≠ some (.dK []) := fun b z => by
  by_cases e : b = L
  · rw [e, upd_same] at z; cases z
  · rw [upd_ne e] at z; exact h b z
theorem rest0 {T H : Hp} (W : Wd p T none0 H f) {a : Addr} {o : HO} (h : H a = some o) (l : ∀ xs, o ≠ .lst xs) : rest p none0 H a = some o := by
  unfold rest
  rw [if_neg (fun z => by obtain ⟨n, ⟨_, _, _, e, _⟩, _⟩ := W.box; rw [z, e] at h; cases h; exact l _ rfl)]
  exact h
theorem Tab.restW (W : Wd p T M H f) {t : Addr} {cnt lg : Nat} {is : List I4} {it : Addr} {rs : List Addr} (h : Tab H t cnt lg is it rs) : Tab (rest p M H) t cnt lg is it rs :=
  ⟨W.tup h.at_, W.tup h.its, ⟨h.rows.1, fun i r x h1 h2 => W.tup (h.rows.2 i r x h1 h2)⟩, h.ok⟩
theorem Mach.rest0 {C : Addr} (W : Wd p T none0 H f) {x : Addr} {cnt lg : Nat} {is : List I4} {it : Addr} {rs : List Addr} (h : Mach C H x cnt lg it is rs) : Mach C (rest p none0 H) x cnt lg it is rs := by
  obtain ⟨dx, d1, d2, h1, h2, h3⟩ := h.at_.ob
  exact ⟨⟨dx, d1, d2, Ov.rest0 W h1 (fun _ z => nomatch z), Ov.rest0 W h2 (fun _ z => nomatch z), Ov.rest0 W h3 (fun _ z => nomatch z)⟩, W.tup h.its, ⟨h.rows.1, fun i r x h1 h2 => W.tup (h.rows.2 i r x h1 h2)⟩, h.ok⟩
/-- a new instruction set -/
theorem Wd.mach {C : Addr} (W : Wd p T none0 H f) {x dx cnt lg : Nat} {is : List I4} {it : Addr} {rs : List Addr} {H5 : Hp} (its : T it = some (.tup (rs.map V.ref))) (rows : Rows T rs is) (ok : TabOk cnt lg is) (nx : H x = none) (ndx : H dx = none)
    (SA : SetAt C H5 x cnt it is) (kp : ∀ b o, (upd (upd H dx (.own x)) x (.ins C dx [])) b = some o → b ≠ x → H5 b = some o) : Wd p T none0 H5 f ∧ Mach C H5 x cnt lg it is rs := by
  have s4x : Same H (upd (upd H dx (.own x)) x (.ins C dx [])) := fun b o e => by
    rw [upd_ne (ne_of_none e nx), upd_ne (ne_of_none e ndx)]
    exact e
  have s45 : Same H H5 := fun b o e => kp b o (s4x b o e) (ne_of_none e nx)
  have W5 := W.pure s45
  exact ⟨W5, SA, W5.th _ _ its, rows.same W5.th, ok⟩
theorem Wd.grow (W : Wd p T M H f) {T' : Hp} (g : Grow T H T' H') : Wd p T' M H' f := by
  obtain ⟨n, B, l⟩ := W.box
  exact W.gb (.of g) (B.same g.hh) l
/-- a list display that will change -/
theorem st_lstM {σ : L2.St} {c i F : Nat} {t : TA} {D : Ends} {u : TS} {R : Hp → List V → Prop} (e : EvA p M c t σ T R) (W : Wd p T M H F)
    (k : ∀ T' H' L vs, Same T T' → M L = none → L ≠ p → Wd p T' (upd M L (.lst vs)) H' (F - c) → R T' vs → u D (σ.set i (some (.ref L))) H') (hl : ∀ T' vs, R T' vs → vs.length ≤ sizeLine) (hf : c ≤ F := by omega) : tSeq (tAsg (tLst t) (gName i)) u D σ H :=
  e T H (F - c) _ (Same.refl _) (W.mono (by omega)) fun T2 H2 vs s2 W2 r => ⟨hl _ _ r, fun q nq => k T2 _ q vs s2 (W2.free nq).2.1 (W2.free nq).2.2 (W2.newM _ nq trivial) r⟩
/-- two lists joined to one that will change -/
theorem st_catM {σ : L2.St} {c1 c2 i F : Nat} {ta tb : TE} {D : Ends} {u : TS} {P1 P2 : Hp → List V → Prop} (e1 : Ev p M c1 ta σ T (LstV P1)) (m1 : Mon P1) (e2 : Ev p M c2 tb σ T (LstV P2)) (W : Wd p T M H F)
    (k : ∀ T' H' L xs ys, Same T T' → M L = none → L ≠ p → Wd p T' (upd M L (.lst (xs ++ ys))) H' (F - (c1 + c2)) → P1 T' xs → P2 T' ys → u D (σ.set i (some (.ref L))) H') (hl : ∀ T' xs ys, P1 T' xs → P2 T' ys → xs.length + ys.length ≤ sizeLine) (hf : c1 + c2 ≤ F := by omega) : tSeq (tAsg (tOp rCat ta tb) (gName i)) u D σ H :=
  e1 T H (F - (c1 + c2) + c2) _ (Same.refl _) (W.mono (by omega)) fun T2 H2 v s2 W2 r1 => e2 T2 H2 (F - (c1 + c2)) _ s2 W2 fun T3 H3 w s3 W3 r2 => by
    obtain ⟨a, xs, rfl, ha, r1⟩ := r1
    obtain ⟨b, ys, rfl, hb, r2⟩ := r2
    have r1 := m1 _ _ _ s3 r1
    exact ⟨a, b, xs, ys, rfl, rfl, W3.th _ _ (s3 _ _ ha), W3.th _ _ hb, hl _ _ _ r1 r2, fun q nq => k T3 _ q xs ys (s2.trans s3) (W3.free nq).2.1 (W3.free nq).2.2 (W3.newM _ nq trivial) r1 r2⟩
variable {σ : L2.St} {c c1 c2 : Nat} {ta tb te : TE} {R : Hp → V → Prop}
theorem ev_tup1 {v : V} (e : Ev p M c ta σ T (IsV v)) : Ev p M (c + 0) (tTup (tCons ta tNil)) σ T (TupV K [v]) :=
  (ev_tup (P := fun T' vs => ∃ v' vr, vs = v' :: vr ∧ IsV v T' v' ∧ vr = []) (fun _ _ _ _ h => h) (eva_cons e (mon_is _) eva_nil) (fun T' vs h => by obtain ⟨v, vr, rfl, _, rfl⟩ := h; show 1 ≤ sizeLine; decide)).imp fun T' v s h => by
    obtain ⟨a, xs, rfl, ha, v, vr, rfl, rfl, rfl⟩ := h
    exact ⟨a, rfl, SqT.of ha⟩
theorem ev_tup0 : Ev p M 0 (tTup tNil) σ T (TupV K []) := fun T1 H f Q s W k => ⟨Nat.zero_le _, fun q nq => k _ _ _ (W.putT _ nq) (W.put _ nq) ⟨q, rfl, SqT.of upd_same⟩⟩
theorem ev_lst0 : Ev p M 0 (tLst tNil) σ T (fun T' v => ∃ a, v = .ref a ∧ T' a = some (.lst [])) := fun T1 H f Q s W k => ⟨Nat.zero_le _, fun q nq => k _ _ _ (W.putT _ nq) (W.put _ nq) ⟨q, rfl, upd_same⟩⟩
theorem ev_dct0 : Ev p M 0 tDNewK σ T (fun T' v => ∃ a, v = .ref a ∧ T' a = some (.dK [])) := fun T1 H f Q s W k q nq => k _ _ _ (W.putT _ nq) (W.put _ nq) ⟨q, rfl, upd_same⟩
theorem ev_listOf {xs : List V} (e : Ev p M c te σ T (TupV K xs)) : Ev p M (c + 0) (tCB (fun zs H Q => ∃ a ys, zs = [V.ref a] ∧ (SqL K H a ys ∨ SqT K H a ys) ∧ ∀ l, H l = none → Q (.ref l) (upd H l (.lst ys))) (tCons te tNil)) σ T (LstV fun _ ys => ys = xs) := fun T1 H f Q s W k =>
  e T1 H f _ s W fun T2 H2 v s2 W2 r => by
    obtain ⟨a, rfl, ha⟩ := r
    exact ⟨a, xs, rfl, .inr (W2.th.tup ha), fun l nl => k _ _ _ (s2.trans (W2.putT _ nl)) (W2.put _ nl) ⟨l, xs, rfl, upd_same, rfl⟩⟩
theorem ev_negc {i : Int} : Ev p M 0 (tUn (rU fun i => .int (-i)) (tC (.int i))) σ T (IsV (.int (-i))) := fun T1 H f Q s W k => ⟨i, rfl, k _ _ _ (Same.refl _) W rfl⟩
end
end Ov
namespace Ov
open PySem PySem.Spec PyProof.Rows L2
/-- four values by keywords, in the turned order -/
def rev4 {α : Type} : List α → List α → List α
  | [], [a, b, c, d] => [d, c, b, a]
  | _, _ => []
theorem rev4_len {α : Type} {us ws : List α} (h : (rev4 us ws).length = 4) : ∃ a b c d, us = [] ∧ ws = [a, b, c, d] := by
  match us, ws, h with
  | [], [a, b, c, d], _ => exact ⟨a, b, c, d, rfl, rfl⟩
  | [], [], h => cases h
  | [], [_], h => cases h
  | [], [_, _], h => cases h
  | [], [_, _, _], h => cases h
  | [], _ :: _ :: _ :: _ :: _ :: _, h => cases h
  | _ :: _, _, h => cases h
theorem rev4_rel {vs : List V} {us : List Value} {zs : List V} {ws : List Value} (r : Vals vs us) (rz : Vals zs ws) : Vals (rev4 vs zs) (rev4 us ws) := by
  cases r with
  | nil =>
    cases rz with
    | nil => exact .nil
    | cons r1 rz =>
      cases rz with
      | nil => exact .nil
      | cons r2 rz =>
        cases rz with
        | nil => exact .nil
        | cons r3 rz =>
          cases rz with
          | nil => exact .nil
          | cons r4 rz =>
            cases rz with
            | nil => exact .cons r4 (.cons r3 (.cons r2 (.cons r1 .nil)))
            | cons r5 rz => exact .nil
  | cons r1 r => exact .nil
end Ov
namespace Ov
open PySem PySem.Spec PyProof.Rows L2
theorem fit_all {la : Int → Nat} : ∀ (bs : List Int) (k : Nat) (s : Option Nat), cdEnd la s bs = some 0 → ∀ o ∈ stF la k s bs, k ≤ o ∧ ∀ b, bs[o - k]? = some b → o + la b ≤ k + bs.length
  | [], k, s, _, o, ho => by simp [stF] at ho
  | x :: r, k, s, hc, o, ho => by
    rw [cdEnd_cons] at hc
    have e : stF la k s (x :: r) = stF la k s [x] ++ stF la (k + 1) (cdStep la s x) r := stF_app k s [x] r
    rw [e, stF_one] at ho
    rcases List.mem_append.mp ho with ho1 | ho
    · split at ho1
      · rename_i hs
        obtain ⟨rfl, hl⟩ := hs
        have eo : o = k := List.mem_singleton.mp ho1
        subst eo
        refine ⟨Nat.le_refl _, fun b hb => ?_⟩
        rw [Nat.sub_self] at hb
        have eb : x = b := Option.some.inj hb
        subst eb
        have es : cdStep la (some 0) x = some (la x - 1) := by show (if la x = 0 then none else some (la x - 1)) = _; rw [if_neg (by omega)]
        rw [es] at hc
        rw [List.length_cons]
        by_cases z : r.length ≤ la x - 1
        · rw [cd_over z] at hc
          have := Option.some.inj hc
          omega
        · omega
      · cases ho1
    · obtain ⟨h1, h2⟩ := fit_all r (k + 1) _ hc o ho
      refine ⟨by omega, fun b hb => ?_⟩
      have z := h2 b (by rw [show o - k = (o - (k + 1)) + 1 by omega, List.getElem?_cons_succ] at hb; exact hb)
      rw [List.length_cons]
      omega
theorem _root_.Ov.Ended.fit {la : Int → Nat} {bs : List Int} {e : Nat} {begun : List Nat} (en : Ended la bs e begun bs.length) : ∀ o ∈ begun, ∀ b, bs[o]? = some b → o + la b ≤ bs.length := fun o ho b hb => by
  have hc := en.cd
  rw [if_neg (by omega), Nat.sub_self] at hc
  have hs := en.st
  rw [hs] at ho
  have z := (fit_all bs 0 _ hc o ho).2 b (by rw [Nat.sub_zero]; exact hb)
  omega
theorem decoded_ok {cnt lg : Nat} {is : List I4} (ok : TabOk cnt lg is) {bs : List Int} (bb : ∀ b ∈ bs, 0 ≤ b ∧ b < (cnt : Int)) {e fol : Nat} {begun : List Nat} (he : e ≤ bs.length) (en : Ended (laOf is) bs e begun fol) {gs : List PStep} (h : foundOf is bs begun fol = some gs) : ∀ g ∈ gs, StepOk cnt is g ∧ g.2.length ≤ 12 := by
  intro g hg
  unfold foundOf at h
  split at h
  · rename_i hf
    cases h
    obtain ⟨o, ho, hs⟩ := List.mem_filterMap.mp hg
    obtain ⟨ob, b, hb, hl⟩ := en.lt o ho
    have gd : bs.getD o 0 = b := by rw [List.getD_eq_getElem?_getD, hb]; rfl
    obtain ⟨x, x1, x2, x3, _⟩ := at_of hl
    have sA := stepAt_of (bs := bs) (o := o) (x := x) (by rw [gd]; exact x2)
    rw [sA] at hs
    cases hp : x.pad with
    | true => rw [hp, if_pos rfl] at hs; cases hs
    | false =>
      rw [hp, if_neg (by decide)] at hs
      cases hs
      have xl := ok.len x x1
      have lb := ok.lb
      have fits_ : o + x.ln ≤ bs.length := by
        subst hf
        have z := en.fit o ho b hb
        rw [x3] at z
        exact z
      have ol : (opsOf bs o x.ln).length + 1 = x.ln := by
        unfold opsOf
        rw [List.length_take, List.length_drop]
        omega
      refine ⟨⟨x1, hp, by show ((opsOf bs o x.ln).map some).length + 1 = x.ln; rw [List.length_map]; exact ol, fun c hc => ?_⟩, by show ((opsOf bs o x.ln).map some).length ≤ 12; rw [List.length_map]; omega⟩
      obtain ⟨c', hc', e'⟩ := List.mem_map.mp hc
      cases e'
      exact bb c (List.mem_of_mem_drop (List.mem_of_mem_take hc'))
  · cases h
end Ov
namespace Ov
open PySem PySem.Spec PyProof.Rows L2
theorem shows_two (a b : Bool) : Shows (.list [.bool a, .bool b]) :=
  ⟨by simp [PyData.showable, PyData.showableAll], fun z => by simp [PyData.hasDict, PyData.hasDictAll] at z, by simp [PyData.depth, PyData.depthAll], by simp [nodes, nodesAll]⟩
theorem fine_ints {ns : List Int} (h : ∀ n ∈ ns, n.natAbs < 2 ^ 1000) : FineA 0 ns.length (ns.map PyData.int) := by
  have z := FineA.all (D := 0) (N := 1) (ds := ns.map PyData.int) fun d hd => by
    obtain ⟨n, hn, rfl⟩ := List.mem_map.mp hd
    exact fine_int (h n hn)
  rw [List.length_map, Nat.mul_one] at z
  exact z
/-! ### no dicts in what is shown -/
theorem nd_opts : ∀ os : List (Option Int), PyData.hasDictAll (os.map oD) = false
  | [] => rfl
  | none :: os => by rw [List.map_cons]; simp only [PyData.hasDictAll, oD, PyData.hasDict]; rw [nd_opts os]; rfl
  | some b :: os => by rw [List.map_cons]; simp only [PyData.hasDictAll, oD, PyData.hasDict]; rw [nd_opts os]; rfl
theorem nd_step (x : PStep) : (stepD x).hasDict = false := by
  unfold stepD
  simp only [PyData.hasDict, PyData.hasDictAll]
  rw [nd_opts]
  rfl
theorem nd_steps : ∀ xs : List PStep, PyData.hasDictAll (xs.map stepD) = false
  | [] => rfl
  | x :: xs => by rw [List.map_cons]; simp only [PyData.hasDictAll]; rw [nd_step, nd_steps xs]; rfl
theorem nd_plans : ∀ pss : List (List PStep), PyData.hasDictAll (pss.map planD) = false
  | [] => rfl
  | x :: xs => by
    rw [List.map_cons]
    simp only [PyData.hasDictAll]
    rw [nd_plans xs]
    unfold planD
    simp only [PyData.hasDict]
    rw [nd_steps]
    rfl
theorem noL_plans : ∀ pss : List (List PStep), noListAll (pss.map planD) = true
  | [] => rfl
  | x :: xs => by
    rw [List.map_cons]
    simp only [noListAll]
    rw [noL_plans xs]
    unfold planD
    simp only [noList]
    rw [noL_steps]
    rfl
theorem nd_ints : ∀ ns : List Int, PyData.hasDictAll (ns.map PyData.int) = false
  | [] => rfl
  | n :: ns => by rw [List.map_cons]; simp only [PyData.hasDictAll, PyData.hasDict]; rw [nd_ints ns]; rfl
/-- a thing that may be asked about -/
structure ItemOk (d : PyData) : Prop where
  fine : Fine 3 3000 d
  dict : d.hasDict = true → noList d = true
  len : ∀ ds, d = .tuple ds → ds.length ≤ 1000
abbrev ThV (K : PySem.W.Frag) : Hp → V → Prop := fun T v => ∃ d, Dx K T v d ∧ ItemOk d
theorem mon_th {K : PySem.W.Frag} : Mon (ThV K) := fun _ _ _ s h => by obtain ⟨d, D, o⟩ := h; exact ⟨d, D.same s, o⟩
theorem item_ints {ns : List Int} (h : ∀ n ∈ ns, n.natAbs < 2 ^ 1000) (l : ns.length ≤ 1000) : ItemOk (.tuple (ns.map PyData.int)) :=
  ⟨(fine_ints h).tup.mono (by decide) (by omega), (fun z => by simp only [PyData.hasDict] at z; rw [nd_ints] at z; cases z), fun ds e => by cases e; rw [List.length_map]; exact l⟩
theorem item_list {ns : List Int} (h : ∀ n ∈ ns, n.natAbs < 2 ^ 1000) (l : ns.length ≤ 1000) : ItemOk (.list (ns.map PyData.int)) :=
  ⟨(fine_ints h).lst.mono (by decide) (by omega), (fun z => by simp only [PyData.hasDict] at z; rw [nd_ints] at z; cases z), fun ds e => by cases e⟩
theorem item_more {ns : List Int} {d : PyData} (h : ∀ n ∈ ns, n.natAbs < 2 ^ 1000) (l : ns.length ≤ 900) (o : Fine 1 1000 d) (nd : d.hasDict = false) : ItemOk (.tuple (ns.map PyData.int ++ [d])) :=
  ⟨(((fine_ints h).mono (Nat.zero_le 1) (Nat.le_refl _)).app (FineA.cons o (FineA.nil.mono (Nat.zero_le _) (Nat.le_refl _)))).tup.mono (by decide) (by omega), fun z => by
    simp only [PyData.hasDict] at z
    rw [hasDictAll_app, nd_ints] at z
    simp [PyData.hasDictAll, nd] at z, fun ds e => by cases e; rw [List.length_append, List.length_map]; show _ + 1 ≤ _; omega⟩
theorem item_flat {d : PyData} (f : Fine 1 1000 d) (nd : d.hasDict = false) (nt : ∀ ds, d ≠ .tuple ds) : ItemOk d := ⟨f.mono (by decide) (by decide), (fun z => by rw [nd] at z; cases z), fun ds e => absurd e (nt ds)⟩
theorem item_dict : ItemOk (.dict []) := ⟨fine_dict.mono (by decide) (by decide), fun _ => by simp [noList], fun ds e => by cases e⟩
theorem shows_kept {cnt lg : Nat} {is : List I4} (ok : TabOk cnt lg is) {d : PyData} (o : ItemOk d) {pss : List (List PStep)} (l3 : pss.length ≤ 3) (pok : ∀ ps ∈ pss, ps.length ≤ 12 ∧ ∀ x ∈ ps, StepOk cnt is x) {gs : List Nat} (oe : Ents gs) :
    Shows (.tuple [d, .tuple (pss.map planD), .tuple ((gs.map fun n : Nat => (n : Int)).map PyData.int)]) := by
  have fp : FineA 3 (pss.length * 1369) (pss.map planD) := by
    have z := FineA.all (D := 3) (N := 1369) (ds := pss.map planD) fun e he => by
      obtain ⟨ps, hps, rfl⟩ := List.mem_map.mp he
      obtain ⟨h1, h2⟩ := pok ps hps
      refine (steps_fine ok (ds := ps.map stepD) fun d hd => ?_).1.mono (Nat.le_refl _) (by rw [List.length_map]; omega)
      obtain ⟨y, hy, rfl⟩ := List.mem_map.mp hd
      exact ⟨y, h2 y hy, rfl⟩
    rw [List.length_map] at z
    exact z
  have fg : Fine 1 15 (.tuple ((gs.map fun n : Nat => (n : Int)).map PyData.int)) := (fine_ints fun n hn => by
    obtain ⟨g, hg, rfl⟩ := List.mem_map.mp hn
    have := oe.low g hg
    exact Nat.lt_of_lt_of_le (show (g : Int).natAbs < 2 ^ 4 by omega) (Nat.pow_le_pow_right (by decide) (by decide))).tup.mono (by decide) (by rw [List.length_map]; have := oe.few; omega)
  have f : Fine 5 8000 (.tuple [d, .tuple (pss.map planD), .tuple ((gs.map fun n : Nat => (n : Int)).map PyData.int)]) :=
    (FineA.cons (o.fine.mono (by decide) (Nat.le_refl _)) (FineA.cons (fp.tup.mono (by decide) (Nat.le_refl _)) (FineA.cons (fg.mono (by decide) (Nat.le_refl _)) (FineA.nil.mono (Nat.zero_le 4) (Nat.le_refl _))))).tup.mono (by decide) (by omega)
  refine ⟨f.sh, fun z => ?_, Nat.le_trans f.dep (by decide), f.nd⟩
  simp only [PyData.hasDict, PyData.hasDictAll] at z
  rw [nd_plans, nd_ints] at z
  simp only [noList, noListAll]
  rw [noL_plans, noListAll_ints, o.dict (by simpa using z)]
  rfl
/-! ### how many states at most -/
theorem lr_le {cnt lg : Nat} {is : List I4} (ok : TabOk cnt lg is) : lrOf is ≤ 11 := fmax_le _ 0 11 (by decide) fun z hz => by
  obtain ⟨y, hy, rfl⟩ := List.mem_map.mp hz
  have := ok.len y (List.mem_filter.mp hy).1
  have := ok.lb
  omega
theorem ops_le {cnt lg : Nat} {is : List I4} (ok : TabOk cnt lg is) : ∀ ps : List PStep, (∀ x ∈ ps, StepOk cnt is x) → opsN ps ≤ 11 * ps.length
  | [], _ => Nat.le_refl _
  | x :: ps, h => by
    have h1 := ops_le ok ps fun y hy => h y (List.mem_cons_of_mem _ hy)
    have hx := h x List.mem_cons_self
    have := ok.len x.1 hx.mem
    have := ok.lb
    have := hx.len
    unfold opsN at h1 ⊢
    rw [List.map_cons, List.sum_cons, List.length_cons]
    omega
theorem dcnt_le {cnt lg : Nat} {is : List I4} (ok : TabOk cnt lg is) {ps : List PStep} (l : ps.length ≤ 12) (h : ∀ x ∈ ps, StepOk cnt is x) : dcnt is ps ≤ 1000 := by
  have h1 := lr_le ok
  have h2 := ops_le ok ps h
  have h3 : (ps.length + 1) * lrOf is ≤ 13 * 11 := Nat.mul_le_mul (by omega) h1
  unfold dcnt
  omega
section
variable {P : Program} {w : World} {K : PySem.W.Frag} {mg : Str → Option Value} {base : Heap}
/-! ### law -/
def spLaw (K : PySem.W.Frag) : Sp := fun vs H Q _ => ∃ (a : Addr) (ns : List Int), vs = [.ref a] ∧ SqL K H a (ns.map V.int) ∧ ns.length ≤ 63 ∧ ∀ H', Q (.bl true) H'
abbrev nLaw : List Str := ["_law_script", "_law_k", "_law_box_here", "_law_table_here", "_law_machine", "_law_many", "_law_row", "_law_gates_here", "_law_found", "_law_plans", "_law_one", "_law_things", "_law_turn", "_law_near_here", "_law_item", "_law_kept", "_law_due", "_law_told", "_law_gate"]
theorem scLaw : FnScope nLaw ["_law_script"] (defScope sLaw) := ⟨rfl, rfl, rfl, by decide +kernel, rfl, by decide +kernel, by decide +kernel⟩
theorem ok_law {f C fIsOverlay fLIsOver fLIsRow fTk fLNear fLStates fLPn fLOp fLSp fBy fLGates fIi fTb fBo : Addr} {fd fdIsOverlay fdLIsOver fdLIsRow fdTk fdLNear fdLStates fdLPn fdLOp fdLSp fdBy fdLGates fdIi fdTb fdBo : FuncData} {k : Nat} (F : Fun K "law" "law" sLaw f fd) (T : Bi mg) (S : SetTxt K mg C) (IsOverlay : Def K mg "is_overlay" s_is_overlay fIsOverlay fdIsOverlay ["instruction_set", "programs", "entries", "value"]) (GIsOverlay : FnOk P w K mg base CX0 (k + 1) fIsOverlay fdIsOverlay ["instruction_set", "programs", "entries", "value"] (spIsOv K C)) (KIsOverlay : KBinds K fdIsOverlay ["instruction_set", "programs", "entries", "value"] ["value", "entries", "programs", "instruction_set"] rev4 rev4) (LIsOver : Def K mg "_law_is_over" s_law_is_over fLIsOver fdLIsOver ["_law_table_here", "_law_plans", "_law_gates_here", "_law_row"]) (GLIsOver : FnOk P w K mg base CX0 (k + 1) fLIsOver fdLIsOver ["_law_table_here", "_law_plans", "_law_gates_here", "_law_row"] (spIsOver K)) (LIsRow : Def K mg "_law_is_row" s_law_is_row fLIsRow fdLIsRow ["_law_table_here", "_law_item"]) (GLIsRow : FnOk P w K mg base CX0 (k + 1) fLIsRow fdLIsRow ["_law_table_here", "_law_item"] (spIsRow K)) (Tk : Def K mg "_law_take" sTake fTk fdTk ["_law_box_here", "_law_many"]) (GTk : FnOk P w K mg base CX0 (k + 1) fTk fdTk ["_law_box_here", "_law_many"] (spTake)) (LNear : Def K mg "_law_near" s_law_near fLNear fdLNear ["_law_box_here", "_law_table_here", "_law_row"]) (GLNear : FnOk P w K mg base CX0 (k + 1) fLNear fdLNear ["_law_box_here", "_law_table_here", "_law_row"] (spNearB K)) (LStates : Def K mg "_law_states" s_law_states fLStates fdLStates ["_law_table_here", "_law_plans", "_law_gates_here"]) (GLStates : FnOk P w K mg base CX0 (k + 1) fLStates fdLStates ["_law_table_here", "_law_plans", "_law_gates_here"] (spStates K)) (LPn : Def K mg "_law_plan" s_law_plan fLPn fdLPn ["_law_box_here", "_law_table_here", "_law_most"]) (GLPn : FnOk P w K mg base CX0 (k + 1) fLPn fdLPn ["_law_box_here", "_law_table_here", "_law_most"] (spPlan)) (LOp : Def K mg "_law_open" s_law_open fLOp fdLOp ["_law_box_here", "_law_found"]) (GLOp : FnOk P w K mg base CX0 (k + 1) fLOp fdLOp ["_law_box_here", "_law_found"] (spOpen K)) (LSp : Def K mg "_law_steps" s_law_steps fLSp fdLSp ["_law_table_here", "_law_row", "_law_begin"]) (GLSp : FnOk P w K mg base CX0 (k + 1) fLSp fdLSp ["_law_table_here", "_law_row", "_law_begin"] (spSteps K)) (By : Def K mg "_law_bytes" sBytes fBy fdBy ["_law_box_here", "_law_table_here", "_law_many"]) (GBy : FnOk P w K mg base CX0 (k + 1) fBy fdBy ["_law_box_here", "_law_table_here", "_law_many"] (spBytes)) (LGates : Def K mg "_law_gates" s_law_gates fLGates fdLGates ["_law_box_here", "_law_many", "_law_most"]) (GLGates : FnOk P w K mg base CX0 (k + 1) fLGates fdLGates ["_law_box_here", "_law_many", "_law_most"] (spGates)) (MIi : L2.Mk K C fIi) (bIi : Binds K fdIi ["self", "byte_count", "instructions"] []) (GIi : FnOk P w K mg base CX0 k fIi fdIi ["self", "byte_count", "instructions"] (spInitI C)) (Tb : Def K mg "_law_table" sTable fTb fdTb ["_law_box_here", "_law_most_bytes", "_law_longest"]) (GTb : FnOk P w K mg base CX0 (k + 1) fTb fdTb ["_law_box_here", "_law_most_bytes", "_law_longest"] (spTable)) (Bo : Def K mg "_law_box" sBox fBo fdBo ["_law_script", "_law_k"]) (GBo : FnOk P w K mg base CX0 (k + 1) fBo fdBo ["_law_script", "_law_k"] (spBox K)) :
    FnG P w K mg base (k + 2) f fd ["_law_script"] (spLaw K) := by
  refine okG F scLaw (fun vs H Q E h => ?_) (fun cdv A' outer s H vs Q E gd hr h => ?_)
  · obtain ⟨a, ns, rfl, _⟩ := h
    rfl
  · obtain ⟨a, ns, rfl, hS, hlen, q⟩ := h
    refine ⟨_, pss_cons (ps_for PassesOwn.never rfl (pi_range1 (by rfl) T.range (pa_cons (pe_callB (call_max2 rfl) (by rfl) T.max (by decide +kernel) (pa_cons pe_int (pa_cons (pe_callB (call_min2 rfl) (by rfl) T.min (by decide +kernel) (pa_cons pe_int (pa_cons (pe_callB call_len_seq (by rfl) T.len PySem.boot_len (pa_cons (pv 0) pa_nil)) pa_nil))) pa_nil))) pa_nil)) (pg_name (i := 1) scLaw.nd rfl (.inl rfl)) (pss_cons (ps_set (i := 2) scLaw.nd rfl (.inl rfl) (pe_call GBo hr (by rfl) Bo.gl Bo.fn.kp Bo.bi .nil pass0 (pa_cons (pv 0) (pa_cons (pv 1) pa_nil))))
      (pss_cons (ps_set (i := 3) scLaw.nd rfl (.inr rfl) (pe_call GTb hr (by rfl) Tb.gl Tb.fn.kp Tb.bi .nil pass0 (pa_cons (pv 2) (pa_cons pe_int (pa_cons pe_int pa_nil)))))
      (pss_cons (ps_par (i := 4) (j := 5) (by rfl) scLaw.nd rfl rfl (by decide) rfl rfl (pa_cons (pe_make MIi GIi hr (by rfl) S.mgC bIi .nil pass0 (pa_cons (pe_ix ix_tup (pv 3) pe_int (fun _ _ => rfl)) (pa_cons (pe_ix ix_tup (pv 3) pe_int (fun _ _ => rfl)) pa_nil))) (pa_cons (pe_op op_add pe_int (pe_call GTk hr (by rfl) Tk.gl Tk.fn.kp Tk.bi .nil pass0 (pa_cons (pv 2) (pa_cons pe_int pa_nil)))) pa_nil)) (by rfl))
      (pss_cons (ps_asg (pe_tup (pa_cons (pe_call GBy hr (by rfl) By.gl By.fn.kp By.bi .nil pass0 (pa_cons (pv 2) (pa_cons (pv 3) (pa_cons (pe_call GTk hr (by rfl) Tk.gl Tk.fn.kp Tk.bi .nil pass0 (pa_cons (pv 2) (pa_cons pe_int pa_nil))) pa_nil)))) (pa_cons (pe_call GLGates hr (by rfl) LGates.gl LGates.fn.kp LGates.bi .nil pass0 (pa_cons (pv 2) (pa_cons (pv 5) (pa_cons pe_int pa_nil)))) pa_nil))) (pg_tup rfl (pgs_cons (pg_name (i := 6) scLaw.nd rfl (.inr rfl)) (pgs_cons (pg_name (i := 7) scLaw.nd rfl (.inl rfl)) pgs_nil))))
      (pss_cons (ps_setLc (i := 8) (own := [("_law_gate", 18)]) (g := (gName 18)) (tt := tYes) (te := (tCall (spSteps K) [] E0 (tCons (tVar 3) (tCons (tVar 6) (tCons (tCB _ (tCons (tVar 18) (tCons (tCB (rLen K) (tCons (tVar 6) tNil)) tNil))) tNil))))) (by rfl) scLaw.nd rfl rfl (sw_true rfl rfl rfl (by decide +kernel)) (pi_tup (pv 7)) (blkOk_by (own := [("_law_gate", 18)]) (N := nLaw) (sc := defScope sLaw) (by decide +kernel)) (fun _ _ _ _ _ => (pg_name (i := 18) scLaw.nd rfl (Or.inl rfl))) (fun _ _ _ _ _ => pts_nil) (fun _ _ _ _ _ => (pe_call GLSp hr (by rfl) LSp.gl LSp.fn.kp LSp.bi .nil pass0 (pa_cons (pv 3) (pa_cons (pv 6) (pa_cons (pe_callB (call_min2 rfl) (by rfl) T.min (by decide +kernel) (pa_cons (pv 18) (pa_cons (pe_callB (r := rLen K) cr_len (by rfl) T.len PySem.boot_len (pa_cons (pv 6) pa_nil)) pa_nil))) pa_nil))))))
      (pss_cons (ps_set (i := 9) scLaw.nd rfl (.inl rfl) (pe_lst pa_nil))
      (pss_cons (ps_for PassesOwn.never rfl (pi_list (pv 8)) (pg_name (i := 10) scLaw.nd rfl (.inl rfl)) (pss_one (ps_expr (pe_bm PySem.F.plainAttrs_list PySem.F.slot_list_append PySem.F.type_list_append mt_append (pv 9) (pa_cons (pe_ifExp (pt_cmpR op_isN (pv 10) pe_non (nomark _)) (pe_call GLPn hr (by rfl) LPn.gl LPn.fn.kp LPn.bi .nil pass0 (pa_cons (pv 2) (pa_cons (pv 3) (pa_cons pe_int pa_nil)))) (pe_call GLOp hr (by rfl) LOp.gl LOp.fn.kp LOp.bi .nil pass0 (pa_cons (pv 2) (pa_cons (pe_slice sl_tupA (pv 10) po_none (po_some pe_int)) pa_nil)))) pa_nil)))))
      (pss_cons (ps_set (i := 9) scLaw.nd rfl (.inl rfl) (pe_callTy call_tuple_of (by rfl) T.tuple (by decide +kernel) (pa_cons (pv 9) pa_nil)))
      (pss_cons (ps_if (pt_cmpR op_gt (pe_call GLStates hr (by rfl) LStates.gl LStates.fn.kp LStates.bi .nil pass0 (pa_cons (pv 3) (pa_cons (pv 9) (pa_cons (pv 7) pa_nil)))) pe_int (nomark _)) (pss_one ps_continue) pss_nil)
      (pss_cons (ps_set (i := 11) scLaw.nd rfl (.inl rfl) (pe_lst (pa_cons (pv 6) (pa_cons (pe_tup pa_nil) (pa_cons (pe_callTy call_list_of (by rfl) T.list (by decide +kernel) (pa_cons (pv 6) pa_nil)) (pa_cons (pe_op op_catA (pv 6) (pe_tup (pa_cons (pe_ix ix_tup (pv 3) pe_int (fun _ _ => rfl)) pa_nil))) (pa_cons (pe_op op_catA (pv 6) (pe_tup (pa_cons (pe_un un_neg pe_int) pa_nil))) (pa_cons (pe_op op_catA (pv 6) (pe_tup (pa_cons pe_non pa_nil))) (pa_cons (pe_op op_catA (pv 6) (pe_tup (pa_cons pe_bl pa_nil))) pa_nil)))))))))
      (pss_cons (ps_set (i := 11) scLaw.nd rfl (.inl rfl) (pe_op op_cat (pv 11) (pe_lst (pa_cons pe_non (pa_cons pe_bl (pa_cons pe_int (pa_cons pe_str (pa_cons (pe_lst pa_nil) (pa_cons pe_dnewK pa_nil)))))))))
      (pss_cons (ps_for PassesOwn.never rfl (pi_range1 (by rfl) T.range (pa_cons pe_int pa_nil)) (pg_name (i := 12) scLaw.nd rfl (.inl rfl)) (pss_cons (ps_set (i := 13) scLaw.nd rfl (.inl rfl) (pe_call GLNear hr (by rfl) LNear.gl LNear.fn.kp LNear.bi .nil pass0 (pa_cons (pv 2) (pa_cons (pv 3) (pa_cons (pv 6) pa_nil)))))
      (pss_one (ps_expr (pe_bm PySem.F.plainAttrs_list PySem.F.slot_list_append PySem.F.type_list_append mt_append (pv 11) (pa_cons (pe_ifExp (pt_cmpR op_eq (pe_call GTk hr (by rfl) Tk.gl Tk.fn.kp Tk.bi .nil pass0 (pa_cons (pv 2) (pa_cons pe_int pa_nil))) pe_int (nomark _)) (pe_call GLNear hr (by rfl) LNear.gl LNear.fn.kp LNear.bi .nil pass0 (pa_cons (pv 2) (pa_cons (pv 3) (pa_cons (pv 13) pa_nil)))) (pv 13)) pa_nil))))))
      (pss_cons (ps_expr (pe_bm PySem.F.plainAttrs_list PySem.F.slot_list_append PySem.F.type_list_append mt_append (pv 11) (pa_cons (pe_tup (pa_cons (pv 6) pa_nil)) pa_nil)))
      (pss_one (ps_for PassesOwn.never rfl (pi_list (pv 11)) (pg_name (i := 14) scLaw.nd rfl (.inl rfl)) (pss_cons (ps_set (i := 15) scLaw.nd rfl (.inl rfl) (pe_callB (call_repr_x gd hr) (by rfl) T.repr (by decide +kernel) (pa_cons (pe_tup (pa_cons (pv 14) (pa_cons (pv 9) (pa_cons (pv 7) pa_nil)))) pa_nil)))
      (C8.pss_cut (ps_set (i := 16) scLaw.nd rfl (.inl rfl) (pe_and (pe_call GLIsRow hr (by rfl) LIsRow.gl LIsRow.fn.kp LIsRow.bi .nil pass0 (pa_cons (pv 3) (pa_cons (pv 14) pa_nil))) (pe_one (pe_call GLIsOver hr (by rfl) LIsOver.gl LIsOver.fn.kp LIsOver.bi .nil pass0 (pa_cons (pv 3) (pa_cons (pv 9) (pa_cons (pv 7) (pa_cons (pv 14) pa_nil))))))))
      (pss_cons (ps_set (i := 17) scLaw.nd rfl (.inl rfl) (pe_lst (pa_cons (pe_call GIsOverlay hr (by rfl) IsOverlay.gl IsOverlay.fn.kp IsOverlay.bi .nil pass0 (pa_cons (pv 4) (pa_cons (pv 9) (pa_cons (pv 7) (pa_cons (pv 14) pa_nil))))) pa_nil)))
      (pss_cons (ps_expr (pe_bm PySem.F.plainAttrs_list PySem.F.slot_list_append PySem.F.type_list_append mt_append (pv 17) (pa_cons (pe_callK0 GIsOverlay hr (by rfl) IsOverlay.gl IsOverlay.fn.kp KIsOverlay pass0 (pk_cons (pv 14) (pk_cons (pv 7) (pk_cons (pv 9) (pk_cons (pv 4) pk_nil))))) pa_nil)))
      (pss_one (ps_if (PW.pt (pw_or (pt_cmpR op_ne (pe_callB (call_repr_x gd hr) (by rfl) T.repr (by decide +kernel) (pa_cons (pv 17) pa_nil)) (pe_callB (call_repr_x gd hr) (by rfl) T.repr (by decide +kernel) (pa_cons (pe_lst (pa_cons (pv 16) (pa_cons (pv 16) pa_nil))) pa_nil)) (nomark _)) (pw_or1 (pt_cmpR op_ne (pe_callB (call_repr_x gd hr) (by rfl) T.repr (by decide +kernel) (pa_cons (pe_tup (pa_cons (pv 14) (pa_cons (pv 9) (pa_cons (pv 7) pa_nil)))) pa_nil)) (pv 15) (nomark _))))) (pss_one (ps_ret pe_bl)) pss_nil))))))))))))))))))))))
      (pss_one (ps_ret pe_bl)), ?_⟩
    refine ⟨_, rfl, a, _, rfl, .inl hS, _, _, rfl, _, _, rfl, _, rfl, ?_, ?_, for_range (lo := 0) (fun i σ H2 => ∃ y1 y2 y3 y4 y5 y6 y7 y8 y9 y10 y11 y12 y13 y14 y15 y16 y17, σ = [some (.ref a), y1, y2, y3, y4, y5, y6, y7, y8, y9, y10, y11, y12, y13, y14, y15, y16, y17, none] ∧ Same H H2)
      ⟨_, _, _, _, _, _, _, _, _, _, _, _, _, _, _, _, _, rfl, Same.refl _⟩ ?_ (fun σ G _ => q G)⟩
    · split <;> split <;> omega
    · split <;> split <;> omega
    rintro i σ G0 hi ⟨y1, y2, y3, y4, y5, y6, y7, y8, y9, y10, y11, y12, y13, y14, y15, y16, y17, rfl, s0⟩
    have hi4 : i < 63 := by
      revert hi
      split <;> split <;> omega
    have i0 : ∀ x y : V, atI [x, y] 0 = some x := fun x y => atI_nat (j := 0) rfl
    have i1 : ∀ x y : V, atI [x, y] 1 = some y := fun x y => atI_nat (j := 1) rfl
    rw [Int.zero_add]
    -- the box, the table
    refine ⟨_, rfl, _, rfl, a, ns, i, rfl, s0.seq hS, by omega, fun H1 p s1 np B1 => ?_⟩
    have W1 := Wd.init s1 np B1
    refine ⟨_, rfl, p, 0, 5, 3, rfl, B1, by decide, by decide, by decide, by decide, by decide, fun H2 t cnt is it rs b2 B2 nt Tb2 _ => ?_⟩
    have W2a := W1.but b2 B2 (f' := 2 ^ 36 + 100000) (by decide)
    have W2 := W2a.rest
    have s2 := W2a.restT
    have Tb := Tb2.restW W2a
    generalize rest p none0 H2 = T2 at *
    clear W1 W2a B1 B2 b2 Tb2 s1 np
    have cb := Tb.ok.cb
    -- the instruction set, how many programs
    refine ⟨_, rfl, t, _, _, _, rfl, rfl, SqT.of (W2.th _ _ Tb.at_), i0 _ _, _, rfl, t, _, _, _, rfl, rfl, SqT.of (W2.th _ _ Tb.at_), i1 _ _, fun x dx nx ndx hne => ?_⟩
    have s4x : Same H2 (upd (upd H2 dx (.own x)) x (.ins C dx [])) := fun b o e => by
      rw [upd_ne (ne_of_none e nx), upd_ne (ne_of_none e ndx)]
      exact e
    refine ⟨x, dx, cnt, 3, it, rs, is, rfl, upd_same, s4x _ _ (W2.th _ _ Tb.its), (Tb.rows.same W2.th).same s4x, Tb.ok, fun H3 SA kp => ⟨rfl, ?_⟩⟩
    obtain ⟨W3a, M3⟩ := W2.mach Tb.its Tb.rows Tb.ok nx ndx SA kp
    have W3 := W3a.rest
    have s3 := s2.trans W3a.restT
    have Tb := Tb.same W3a.restT
    have Mc := M3.rest0 W3a
    generalize rest p none0 H3 = T3 at *
    clear W2 W3a M3 nx ndx hne s4x SA kp s2
    obtain ⟨n4, B4, l4, up4⟩ := (W3.mono (f' := 2 ^ 36 + 90000 + 1) (by omega)).tk
    refine ⟨_, rfl, p, 3, n4, rfl, B4, by omega, by decide, by decide, fun H4 d b4 B4' d0 d1 _ => ⟨_, _, rfl, rfl, _, _, rfl, ?_⟩⟩
    have W4 := up4 b4 B4'
    clear up4 B4 B4' b4 W3
    obtain ⟨mn, emn, mn1, mn3⟩ : ∃ mn : Nat, (1 : Int) + d = (mn : Int) ∧ 1 ≤ mn ∧ mn ≤ 3 := ⟨(1 + d).toNat, by omega, by omega, by omega⟩
    -- a code, the entries
    obtain ⟨n5, B5, l5, up5⟩ := (W4.mono (f' := 2 ^ 36 + 80000 + 1) (by omega)).tk
    refine ⟨_, rfl, _, rfl, _, rfl, p, 9, n5, rfl, B5, by omega, by decide, by decide, fun H5 m b5 B5' m0 m1 _ => ?_⟩
    have W5 := up5 b5 B5'
    clear up5 B5 B5' b5 W4
    obtain ⟨mr, rfl⟩ : ∃ mr : Nat, m = (mr : Int) := ⟨m.toNat, by omega⟩
    obtain ⟨n6, B6, l6⟩ := W5.box
    refine ⟨p, t, n6, cnt, 3, is, it, rs, mr, rfl, B6, by omega, Tb.same W5.th, by omega, fun H6 c bs b6 B6' nc hc bb bl => ?_⟩
    have W6a := W5.but b6 B6' (f' := 2 ^ 36 + 70000) (by omega)
    have W6 := W6a.rest
    have s6 := s3.trans W6a.restT
    have Tb := Tb.same W6a.restT
    have Mc := Mc.same W6a.restT
    have hc := W6a.tup hc
    generalize rest p none0 H6 = T6 at *
    clear W6a B6 B6' b6 W5 s3 nc
    refine ⟨_, rfl, _, rfl, p, T6, none0, 2 ^ 36 + 60000, mn, 2, (show [V.ref p, V.int ((1 : Int) + d), V.int 2] = _ by rw [emn]; rfl), W6.mono (by omega), mn1, mn3, by decide, by decide, fun H7 T7 g gs s7 W7 hg oe lgs => ?_⟩
    have s67 := s6.trans s7
    have Tb := Tb.same s7
    have Mc := Mc.same s7
    have hc := s7 _ _ hc
    refine ⟨by show 2 ≤ sizeLine; decide, fun u nu => ⟨u, _, rfl, SqT.of upd_same, rfl, _, _, rfl, _, _, rfl, rfl, ?_⟩⟩
    have W8 := W7.pure (same_upd (o := HO.tup [V.ref c, V.ref g]) nu)
    generalize upd H7 u (HO.tup [V.ref c, V.ref g]) = H8 at *
    clear W6 W7 s6 s7 nu
    have bl9 : bs.length ≤ 8 := by omega
    have nol : ∀ fo : Option (List PStep), noList (foundD fo) = true := fun fo => by
      cases fo with
      | none => rfl
      | some gs =>
        show noList (.tuple (gs.map stepD)) = true
        simp only [noList]
        exact noL_steps _
    -- what each decoder finds
    refine ⟨_, rfl, g, rfl, ⟨_, SqT.of (W8.th _ _ hg)⟩, fun D nD => lcW_tup (K := K) (a := g) (xs := entV gs) W8 nD (SqT.of hg) (by rw [List.length_map, List.length_map]; omega) 0
      (fun i T' acc => ∃ fos : List (Option (List PStep)), DxAll K T' acc (fos.map foundD) ∧ fos.length = i ∧ ∀ fo ∈ fos, ∀ gs', fo = some gs' → ∀ g ∈ gs', StepOk cnt is g ∧ g.2.length ≤ 12) ⟨[], .nil, rfl, by simp⟩ (by omega) ?_ ?_⟩
    · rintro j y T' H' acc f' N N0 hy s' W' ⟨fos, Df, lf, okf⟩ kN k0
      rw [List.getElem?_map, List.getElem?_map] at hy
      obtain ⟨z, hz, rfl⟩ := Option.map_eq_some_iff.mp hy
      obtain ⟨e, he, rfl⟩ := Option.map_eq_some_iff.mp hz
      have emin : (if (((bs.map V.int).length : Nat) : Int) < (e : Int) then (((bs.map V.int).length : Nat) : Int) else (e : Int)) = ((min e bs.length : Nat) : Int) := by
        rw [List.length_map]
        split <;> omega
      have Tb' := Tb.same (s'.trans W'.th)
      refine ⟨rfl, _, rfl, _, rfl, _, rfl, _, rfl, c, _, rfl, .inr (SqT.of (W'.th _ _ (s' _ _ hc))), _, _, rfl, ?_⟩
      refine ⟨t, it, c, cnt, 3, is, rs, bs, min e bs.length, (show [V.ref t, V.ref c, V.int (if (((bs.map V.int).length : Nat) : Int) < (e : Int) then (((bs.map V.int).length : Nat) : Int) else (e : Int))] = _ by rw [emin]), Tb', SqT.of (W'.th _ _ (s' _ _ hc)), by omega, Nat.min_le_right _ _, fun H4 v begun fol s4 en Dv => ?_⟩
      have W4 := W'.pure s4
      have Dr := Dv.restW W4 (ndL nd0 D acc) (nol _)
      refine kN _ H4 v W4.restT W4.rest ⟨fos ++ [foundOf is bs begun fol], by rw [List.map_append]; exact (Df.same W4.restT).app (.cons Dr .nil), by rw [List.length_append, lf]; rfl, fun fo hfo gs' e' => ?_⟩
      rcases List.mem_append.mp hfo with h | h
      · exact okf fo h gs' e'
      · rw [List.mem_singleton.mp h] at e'
        exact decoded_ok Tb.ok bb (Nat.min_le_right _ _) en e'
    rintro T9 H9 acc s9 W9 ⟨fos, Df, lf, okf⟩ lacc
    rw [List.length_map, List.length_map] at lf lacc
    have la : acc.length = gs.length := by rw [Df.len, List.length_map]; exact lf
    have W9f := W9.freeze rfl
    have sF := W9.frT
    have hD : upd T9 D (HO.lst acc) D = some (.lst acc) := upd_same
    have s9' := s67.trans (s9.trans sF)
    have Tb := Tb.same (s9.trans sF)
    have Mc := Mc.same (s9.trans sF)
    have hc := sF _ _ (s9 _ _ hc)
    have hg := sF _ _ (s9 _ _ hg)
    have Df := Df.same sF
    generalize upd T9 D (HO.lst acc) = T10 at *
    clear W8 W9 sF s9 nD s67
    -- the programs
    refine ⟨Nat.zero_le _, fun L nL => ?_⟩
    have nLM : none0 L = none := rfl
    have W10 := W9f.newM (HO.lst []) nL trivial
    clear W9f
    refine ⟨_, rfl, D, rfl, ⟨_, SqL.of (W10.th _ _ hD)⟩, for_list (K := K) (a := D) (xs := acc) (fun j σ G => ∃ (T' : Hp) (us : List V) (pss : List (List PStep)) (y10 : Option V), σ = [some (.ref a), some (.int (i : Int)), some (.ref p), some (.ref t), some (.ref x), some (.int ((1 : Int) + d)), some (.ref c), some (.ref g), some (.ref D), some (.ref L), y10, y11, y12, y13, y14, y15, y16, y17, none] ∧ Same T10 T' ∧ Wd p T' (upd none0 L (.lst us)) G (2 ^ 36 + 50000 + 300 * (acc.length - j)) ∧ DxAll K T' us (pss.map planD) ∧ pss.length = j ∧ ∀ ps ∈ pss, ps.length ≤ 12 ∧ ∀ x ∈ ps, StepOk cnt is x)
      ⟨T10, [], [], _, rfl, Same.refl _, W10.mono (by omega), .nil, rfl, by simp⟩ (fun j σ G _ ⟨T', us, pss, y10, _, s', W', _⟩ => SqL.of (W'.th _ _ (s' _ _ hD))) ?_ ?_⟩
    · rintro j u σ G hu ⟨T', us, pss, y10, rfl, s', W', Du, lp, pok⟩
      have jl := (List.getElem?_eq_some_iff.mp hu).1
      obtain ⟨df, hdf, Dv⟩ := Df.at hu
      rw [List.getElem?_map] at hdf
      obtain ⟨fo, hfo, rfl⟩ := Option.map_eq_some_iff.mp hdf
      have fok := okf fo (List.mem_of_getElem? hfo)
      have Dv := Dv.same s'
      have W' := W'.mono (f' := 2 ^ 36 + 50000 + 300 * (acc.length - (j + 1)) + 300) (by omega)
      obtain ⟨nb, Bb, lb⟩ := W'.box
      have ul : us.length ≤ 3 := by rw [Du.len, List.length_map]; omega
      have fin : ∀ {G5 U5 : Hp} {r : Addr} {ps : List PStep}, GB p T' G U5 G5 → BoxAt G5 p (nb + 300) → Dz U5 (.ref r) (.tuple (ps.map stepD)) → ps.length ≤ 12 → (∀ x ∈ ps, StepOk cnt is x) →
          G5 L = some (.lst us) ∧ ∃ (T' : Hp) (us' : List V) (pss : List (List PStep)), us ++ [V.ref r] = us' ∧ Same T10 T' ∧ Wd p T' (upd none0 L (.lst us')) (upd G5 L (.lst (us ++ [V.ref r]))) (2 ^ 36 + 50000 + 300 * (acc.length - (j + 1))) ∧ DxAll K T' us' (pss.map planD) ∧ pss.length = j + 1 ∧ ∀ ps ∈ pss, ps.length ≤ 12 ∧ ∀ x ∈ ps, StepOk cnt is x := fun {G5 U5 r ps} g5 B5 D5 l5 k5 => by
        have W5 := W'.gb g5 B5 (f' := 2 ^ 36 + 50000 + 300 * (acc.length - (j + 1))) (by omega)
        refine ⟨W5.at, U5, _, pss ++ [ps], rfl, s'.trans g5.tt, W5.setL _ trivial, by rw [List.map_append]; exact (Du.same g5.tt).app (.cons D5.dx .nil), by rw [List.length_append, lp]; rfl, fun ps' h => ?_⟩
        rcases List.mem_append.mp h with h | h
        · exact pok ps' h
        · rw [List.mem_singleton.mp h]; exact ⟨l5, k5⟩
      refine ⟨_, rfl, .inl ⟨rfl, _, SqL.of W'.at⟩, _, rfl, rfl, _, rfl, ?_⟩
      cases fo with
      | none =>
        cases Dv
        refine iteT ⟨_, rfl, _, rfl, p, t, it, nb, cnt, 3, 2, is, rs, T', rfl, Bb, by omega, W'.th, W'.tp, Tb.same s', by decide, fun G5 U5 r ps g5 B5 D5 l5 k5 => ?_⟩
        obtain ⟨hL, T6, us', pss', eu, f2, f3, f4, f5, f6⟩ := fin g5 B5 D5 (by omega) k5
        exact ⟨L, _, _, rfl, rfl, hL, by rw [sizeLine_eq]; omega, T6, us', pss', _, rfl, f2, f3, f4, f5, f6⟩
      | some gs' =>
        have fok := fok gs' rfl
        obtain ⟨va, xs, rfl, hva, A⟩ := dx_tup Dv
        refine iteF ⟨_, rfl, _, rfl, _, rfl, cut_x W'.th hva fun la G4 U4 g4 S4 => ?_⟩
        have S4' : SqT K U4 la (xs.take 12) := by
          have z := cut_to 12 xs
          rw [show ((12 : Nat) : Int) = 12 from rfl] at z
          rw [z] at S4
          exact S4
        have A4 : Dx K U4 (.ref la) (.tuple ((gs'.take 12).map stepD)) := by
          rw [List.map_take]
          exact .tup S4' ((A.same g4.tt).take 12)
        have W4 := W'.grow g4
        refine ⟨p, nb, cnt, is, U4, .ref la, gs'.take 12, rfl, Bb.same g4.hh, by omega, W4.th, W4.tp, A4, by rw [List.length_take]; omega, fun g hg => fok g (List.mem_of_mem_take hg), fun G5 U5 r ps g5 B5 D5 l5 k5 => ?_⟩
        obtain ⟨hL, T6, us', pss', eu, f2, f3, f4, f5, f6⟩ := fin ((GB.of g4).trans g5) B5 D5 l5 k5
        exact ⟨L, _, _, rfl, rfl, hL, by rw [sizeLine_eq]; omega, T6, us', pss', _, rfl, f2, f3, f4, f5, f6⟩
    rintro σ G ⟨T11, us, pss, y10, rfl, s11, W11, Du, lp, pok⟩
    refine ⟨_, rfl, L, _, rfl, .inl ⟨SqL.of W11.at, fun l nl => ?_⟩⟩
    have W12 := (W11.put (HO.tup us) nl).drop nLM
    have s12 := s11.trans (W11.putT (HO.tup us) nl)
    have hl : upd T11 l (HO.tup us) l = some (.tup us) := upd_same
    have Du := Du.same (W11.putT (HO.tup us) nl)
    have s12' := s9'.trans s12
    have Tb := Tb.same s12
    have Mc := Mc.same s12
    have hc := s12 _ _ hc
    have hg := s12 _ _ hg
    have hD := s12 _ _ hD
    generalize upd T11 l (HO.tup us) = T12, upd G l (HO.tup us) = H12 at *
    clear W11 s11 s12 nl W10 nL nLM Df okf s9'
    have ppl : ∀ ps ∈ pss, ps.length ≤ 12 ∧ dcnt is ps ≤ 1000 := fun ps hps => ⟨(pok ps hps).1, dcnt_le Tb.ok (pok ps hps).1 (pok ps hps).2⟩
    have lgp : gs.length = pss.length := by omega
    -- too many states
    refine ⟨_, rfl, _, rfl, _, rfl, t, it, l, g, cnt, 3, is, rs, us, pss, gs, rfl, Tb.same W12.th, SqT.of (W12.th _ _ hl), Du.same W12.th, SqT.of (W12.th _ _ hg), (fun z => by rw [z] at oe; exact absurd oe.hd (by simp)), ppl, fun H13 s13 => ⟨_, _, rfl, rfl, _, rfl, ?_⟩⟩
    have W13 := W12.pure s13
    clear W12 s13
    by_cases few : (5000 : Int) < (stcN is pss gs : Int)
    · rw [decide_eq_true few]
      exact iteT ⟨_, _, _, _, _, _, _, _, _, _, _, _, _, _, _, _, _, rfl, s0.trans (s12'.trans W13.th)⟩
    rw [decide_eq_false few]
    refine iteF ?_
    have small : ∀ z ∈ bs, z.natAbs < 2 ^ 1000 := fun z hz => by
      have := bb z hz
      exact Nat.lt_of_lt_of_le (show z.natAbs < 2 ^ 9 by omega) (Nat.pow_le_pow_right (by decide) (by decide))
    have vR : ∀ {σ : L2.St} {T : Hp} {M : Hp}, Same T12 T → σ[6]? = some (some (.ref c)) → Ev p M 0 (tVar 6) σ T (TupV K (bs.map V.int)) := fun s h => ev_var h fun T' s' => ⟨c, rfl, SqT.of (s' _ _ (s _ _ hc))⟩
    have cat1 : ∀ {σ : L2.St} {T : Hp} {M : Hp} {te : TE} {c : Nat} {v : V} {d : PyData}, Ev p M c te σ T (TupV K (bs.map V.int ++ [v])) → (∀ T', Dx K T' v d) → Fine 1 1000 d → d.hasDict = false → Ev p M c te σ T (ThV K) := fun e hv f nd => e.imp fun T' u _ r => by
      obtain ⟨a, rfl, ha⟩ := r
      exact ⟨_, .tup ha ((dx_ints bs).app (.cons (hv T') .nil)), item_more small (by omega) f nd⟩
    -- things
    refine st_set (i := 11) (ev_lst (mon_all mon_th 7) (eva_all mon_th ((vR (Same.refl _) rfl).imp fun T' u _ r => by
          obtain ⟨a, rfl, ha⟩ := r
          exact ⟨_, .tup ha (dx_ints bs), item_ints small (by omega)⟩)
        (eva_all mon_th (ev_tup0.imp fun T' u _ r => by
          obtain ⟨a, rfl, ha⟩ := r
          exact ⟨_, .tup (ds := ([] : List Int).map PyData.int) ha .nil, item_ints (ns := []) (by simp) (by decide)⟩)
        (eva_all mon_th ((ev_listOf (vR (Same.refl _) rfl)).imp fun T' u _ r => by
          obtain ⟨a, xs, rfl, ha, rfl⟩ := r
          exact ⟨_, .lst (SqL.of ha) (dx_ints bs), item_list small (by omega)⟩)
        (eva_all mon_th (cat1 (d := .int (cnt : Int)) (ev_cat (vR (Same.refl _) rfl) (ev_tup1 (ev_ix (ev_var rfl fun T' s' => ⟨t, rfl, SqT.of (s' _ _ Tb.at_)⟩) (ev_c _) (i0 _ _))) (by rw [List.length_map, sizeLine_eq]; show _ + 1 ≤ _; omega)) (fun _ => .int _) ((fine_int (Nat.lt_of_lt_of_le (show (cnt : Int).natAbs < 2 ^ 10 by omega) (Nat.pow_le_pow_right (by decide) (by decide)))).mono (by decide) (by decide)) rfl)
        (eva_all mon_th (cat1 (d := .int (-1)) (ev_cat (vR (Same.refl _) rfl) (ev_tup1 ev_negc) (by rw [List.length_map, sizeLine_eq]; show _ + 1 ≤ _; omega)) (fun _ => .int _) ((fine_int (by decide)).mono (by decide) (by decide)) rfl)
        (eva_all mon_th (cat1 (d := .none) (ev_cat (vR (Same.refl _) rfl) (ev_tup1 (ev_c _)) (by rw [List.length_map, sizeLine_eq]; show _ + 1 ≤ _; omega)) (fun _ => .non) (fine_none.mono (by decide) (by decide)) rfl)
        (eva_all mon_th (cat1 (d := .bool true) (ev_cat (vR (Same.refl _) rfl) (ev_tup1 (ev_c _)) (by rw [List.length_map, sizeLine_eq]; show _ + 1 ≤ _; omega)) (fun _ => .bl _) ((fine_bool _).mono (by decide) (by decide)) rfl) eva_nil'))))))) (fun _ vs h => by rw [h.1]; decide)) W13 fun T14 H14 v14 s14 W14 r14 => ?_
    have vT : ∀ {σ : L2.St} {T : Hp} {M : Hp} {i : Nat} {v : V}, σ[i]? = some (some v) → LstV (AllV (ThV K) 7) T v → Ev p M 0 (tVar i) σ T (LstV (AllV (ThV K) 7)) := fun h r => ev_var h fun T' s => mon_lst (mon_all mon_th 7) _ _ _ s r
    refine st_catM (i := 11) (P1 := AllV (ThV K) 7) (P2 := AllV (ThV K) 6) (vT rfl r14) (mon_all mon_th 7) (ev_lst (mon_all mon_th 6) (eva_all mon_th ((ev_c _).imp fun T' u _ r => by cases r; exact ⟨_, .non, item_flat (fine_none.mono (by decide) (by decide)) rfl (fun _ z => nomatch z)⟩)
        (eva_all mon_th ((ev_c _).imp fun T' u _ r => by cases r; exact ⟨_, .bl _, item_flat ((fine_bool _).mono (by decide) (by decide)) rfl (fun _ z => nomatch z)⟩)
        (eva_all mon_th ((ev_c _).imp fun T' u _ r => by cases r; exact ⟨_, .int _, item_flat ((fine_int (by decide)).mono (by decide) (by decide)) rfl (fun _ z => nomatch z)⟩)
        (eva_all mon_th ((ev_c _).imp fun T' u _ r => by cases r; exact ⟨_, .str _, item_flat ((fine_str (by decide +kernel)).mono (by decide) (by decide)) rfl (fun _ z => nomatch z)⟩)
        (eva_all mon_th (ev_lst0.imp fun T' u _ r => by
          obtain ⟨a, rfl, ha⟩ := r
          exact ⟨_, .lst (SqL.of ha) .nil, item_list (ns := []) (by simp) (by decide)⟩)
        (eva_all mon_th (ev_dct0.imp fun T' u _ r => by
          obtain ⟨a, rfl, ha⟩ := r
          exact ⟨_, .dct ha, item_dict⟩) eva_nil')))))) (fun _ vs h => by rw [h.1]; decide)) W14 (fun T15 H15 L xs0 ys0 s15 nL Lp W15 a7 a6 => ?_) (fun _ xs ys h1 h2 => by rw [h1.1, h2.1]; decide)
    have s15' := s14.trans s15
    have a13 : AllV (ThV K) 13 T15 (xs0 ++ ys0) := ⟨by rw [List.length_append, a7.1, a6.1], fun v hv => (List.mem_append.mp hv).elim (a7.2 v) (a6.2 v)⟩
    generalize xs0 ++ ys0 = zs0 at *
    clear a7 a6 W14 W13 r14 s14 s15 vT
    have W15 := W15.mono (f' := 2 ^ 36 + 100 * 12) (by omega)
    have th_byt : ∀ {T : Hp} {a : Addr} {ms : List Int}, SqT K T a (ms.map V.int) → (∀ b ∈ ms, 0 ≤ b ∧ b < (cnt : Int)) → ms.length ≤ 200 → ThV K T (.ref a) := fun h b l => ⟨_, .tup h (dx_ints _), item_ints (fun n hn => by
      have := b n hn
      exact Nat.lt_of_lt_of_le (show n.natAbs < 2 ^ 9 by omega) (Nat.pow_le_pow_right (by decide) (by decide))) (by omega)⟩
    -- codes near to it
    refine ⟨_, rfl, by decide, by decide, for_range (lo := 0) (n := 12) (fun j σ G => ∃ (T' : Hp) (zs : List V) (y12 y13 : Option V), σ = [some (.ref a), some (.int (i : Int)), some (.ref p), some (.ref t), some (.ref x), some (.int ((1 : Int) + d)), some (.ref c), some (.ref g), some (.ref D), some (.ref l), y10, some (.ref L), y12, y13, y14, y15, y16, y17, none] ∧ Same T15 T' ∧ Wd p T' (upd none0 L (.lst zs)) G (2 ^ 36 + 100 * (12 - j)) ∧ AllV (ThV K) (13 + j) T' zs)
      ⟨T15, zs0, _, _, rfl, Same.refl _, W15, a13⟩ ?_ ?_⟩
    · rintro j σ G hj ⟨T', zs, z12, z13, rfl, s', W', az⟩
      have hj12 : j < 12 := hj
      have W' := W'.mono (f' := 2 ^ 36 + 100 * (12 - (j + 1)) + 80 + 20) (by omega)
      have Tb' := Tb.same (s15'.trans s')
      have hc' := s' _ _ (s15' _ _ hc)
      refine ⟨_, rfl, _, rfl, _, rfl, p, t, it, c, T', _, _, cnt, 3, 8, is, rs, bs, rfl, W', Tb', SqT.of hc', bl9, by decide, bb, fun H16 T16 v s16 W16 ⟨ra, rb, ev, hra, lr, br⟩ => ?_⟩
      subst ev
      obtain ⟨n17, B17, l17, up17⟩ := (W16.mono (f' := 2 ^ 36 + 100 * (12 - (j + 1)) + 70 + 1) (by omega)).tk
      refine ⟨_, rfl, .inl ⟨rfl, _, SqL.of W16.at⟩, _, rfl, p, 2, n17, rfl, B17, by omega, by decide, by decide, fun H17 y b17 B17' y0 y1 _ => ⟨rfl, _, rfl, ?_⟩⟩
      have W17 := up17 b17 B17'
      have zl := az.1
      by_cases e0 : y = 0
      · subst e0
        have W17 := W17.mono (f' := 2 ^ 36 + 100 * (12 - (j + 1)) + 20) (by omega)
        refine iteT ⟨_, rfl, _, rfl, _, rfl, p, t, it, ra, T16, _, _, cnt, 3, 28, is, rs, rb, rfl, W17, Tb'.same s16, hra, lr, by decide, br, fun H18 T18 v s18 W18 ⟨ra2, rb2, ev, hra2, lr2, br2⟩ => ?_⟩
        subst ev
        refine ⟨L, _, _, rfl, rfl, W18.at, by rw [sizeLine_eq]; omega, T18, zs ++ [.ref ra2], _, _, rfl, s'.trans (s16.trans s18), W18.setL (HO.lst _) trivial, by rw [List.length_append, zl]; rfl, fun v hv => ?_⟩
        rcases List.mem_append.mp hv with h | h
        · exact mon_th _ _ _ (s16.trans s18) (az.2 v h)
        · rw [List.mem_singleton.mp h]; exact th_byt hra2 br2 (by omega)
      · rw [decide_eq_false (fun z => e0 (V.int.inj z))]
        refine iteF ⟨_, rfl, L, _, _, rfl, rfl, W17.at, by rw [sizeLine_eq]; omega, T16, zs ++ [.ref ra], _, _, rfl, s'.trans s16, (W17.setL (HO.lst _) trivial).mono (by omega), by rw [List.length_append, zl]; rfl, fun v hv => ?_⟩
        rcases List.mem_append.mp hv with h | h
        · exact mon_th _ _ _ s16 (az.2 v h)
        · rw [List.mem_singleton.mp h]; exact th_byt hra br (by omega)
    rintro σ G ⟨T16, zs, z12, z13, rfl, s16, W16, az⟩
    have zl := az.1
    refine ⟨_, rfl, .inl ⟨rfl, _, SqL.of W16.at⟩, _, rfl, by show 1 ≤ sizeLine; decide, fun u nu => ⟨L, _, _, rfl, rfl, (W16.put _ nu).at, by rw [sizeLine_eq, zl]; decide, ?_⟩⟩
    have W17 := ((W16.put (HO.tup [V.ref c]) nu).setL (HO.lst (zs ++ [V.ref u])) trivial).freeze nL
    have s17 := W16.putT (HO.tup [V.ref c]) nu
    have s17b : Same (upd T16 u (HO.tup [V.ref c])) (upd (upd T16 u (HO.tup [V.ref c])) L (HO.lst (zs ++ [V.ref u]))) := ((W16.put (HO.tup [V.ref c]) nu).setL (HO.lst (zs ++ [V.ref u])) trivial).frT
    have az2 : ∀ v ∈ zs ++ [V.ref u], ThV K (upd (upd T16 u (HO.tup [V.ref c])) L (HO.lst (zs ++ [V.ref u]))) v := fun v hv => by
      rcases List.mem_append.mp hv with h | h
      · exact mon_th _ _ _ (s17.trans s17b) (az.2 v h)
      · rw [List.mem_singleton.mp h]
        have hcu := (s17.trans s17b) _ _ (s16 _ _ (s15' _ _ hc))
        refine ⟨.tuple [.tuple (bs.map PyData.int)], .tup (SqT.of (s17b _ _ upd_same)) (.cons (.tup (SqT.of hcu) (dx_ints bs)) .nil), ?_⟩
        have io := item_ints small (show bs.length ≤ 1000 by omega)
        have ff := (fine_ints small).tup
        refine ⟨((FineA.cons ff (FineA.nil.mono (Nat.zero_le _) (Nat.le_refl _))).tup).mono (by decide) (by omega), fun z => ?_, fun ds e => by cases e; show 1 ≤ 1000; decide⟩
        simp only [PyData.hasDict, PyData.hasDictAll] at z
        rw [nd_ints] at z
        cases z
    have hL : upd (upd T16 u (HO.tup [V.ref c])) L (HO.lst (zs ++ [V.ref u])) L = some (.lst (zs ++ [V.ref u])) := upd_same
    have s18 : Same T12 (upd (upd T16 u (HO.tup [V.ref c])) L (HO.lst (zs ++ [V.ref u]))) := s15'.trans (s16.trans (s17.trans s17b))
    generalize upd (upd T16 u (HO.tup [V.ref c])) L (HO.lst (zs ++ [V.ref u])) = T18, upd (upd G u (HO.tup [V.ref c])) L (HO.lst (zs ++ [V.ref u])) = H18 at *
    generalize zs ++ [V.ref u] = ts at *
    have sH := s18.trans W17.th
    have hLH := W17.th _ _ hL
    have az3 : ∀ v ∈ ts, ThV K H18 v := fun v hv => mon_th _ _ _ W17.th (az2 v hv)
    have s0H := s0.trans (s12'.trans sH)
    have TbH := Tb.same sH
    have McH := Mc.same sH
    have hgH := sH _ _ hg
    have hlH := sH _ _ hl
    have DuH := Du.same sH
    clear W17 az2 s17 s17b W16 az W15 a13 s16 s15' s18 hL th_byt vR cat1
    -- each of them
    refine ⟨_, rfl, L, rfl, ⟨_, SqL.of hLH⟩, for_list (K := K) (a := L) (xs := ts) (fun j σ G => ∃ y14 y15 y16 y17 : Option V, σ = [some (.ref a), some (.int (i : Int)), some (.ref p), some (.ref t), some (.ref x), some (.int ((1 : Int) + d)), some (.ref c), some (.ref g), some (.ref D), some (.ref l), y10, some (.ref L), z12, z13, y14, y15, y16, y17, none] ∧ Same H18 G)
      ⟨_, _, _, _, rfl, Same.refl _⟩ (fun j σ G _ ⟨_, _, _, _, _, sG⟩ => SqL.of (sG _ _ hLH)) ?_ (fun σ G ⟨y14, y15, y16, y17, e, sG⟩ => ⟨_, _, _, _, _, _, _, _, _, _, _, _, _, _, _, _, _, e, s0H.trans sG⟩)⟩
    rintro j u σ G hu ⟨y14, y15, y16, y17, rfl, sG⟩
    obtain ⟨du, Du1, ok1⟩ := az3 u (List.mem_of_getElem? hu)
    have Du1 := Du1.same sG
    have SK := shows_kept Tb.ok ok1 (show pss.length ≤ 3 by omega) pok oe
    have DK : ∀ {G2 : Hp} {q1 : Addr}, Same G G2 → G2 q1 = some (.tup [u, .ref l, .ref g]) → Dx K G2 (.ref q1) (.tuple [du, .tuple (pss.map planD), .tuple ((gs.map fun n : Nat => (n : Int)).map PyData.int)]) := fun s2 h =>
      .tup (SqT.of h) (.cons (Du1.same s2) (.cons (.tup (SqT.of (s2 _ _ (sG _ _ hlH))) (DuH.same (sG.trans s2))) (.cons (.tup (SqT.of (s2 _ _ (sG _ _ hgH))) (dx_ints _)) .nil)))
    refine ⟨_, rfl, _, rfl, _, rfl, by show 3 ≤ sizeLine; decide, fun q1 nq1 => ⟨_, _, rfl, DK (same_upd nq1) upd_same, SK, ?_⟩⟩
    have x1 := same_upd (o := HO.tup [u, V.ref l, V.ref g]) nq1
    generalize upd G q1 (HO.tup [u, V.ref l, V.ref g]) = G1 at *
    -- what is due
    refine ⟨fun σ G2 => σ = [some (.ref a), some (.int (i : Int)), some (.ref p), some (.ref t), some (.ref x), some (.int ((1 : Int) + d)), some (.ref c), some (.ref g), some (.ref D), some (.ref l), y10, some (.ref L), z12, z13, some u, some (.str (PyData.shown (.tuple [du, .tuple (pss.map planD), .tuple ((gs.map fun n : Nat => (n : Int)).map PyData.int)]))), some (.bl (isOvD cnt is pss gs du)), y17, none] ∧ Same G G2, ?_, ?_⟩
    · refine ⟨_, rfl, _, rfl, t, it, cnt, 3, is, rs, u, du, rfl, TbH.same (sG.trans x1), Du1.same x1, ok1.len, fun G2 s2 => ⟨_, rfl, ?_⟩⟩
      have x2 := x1.trans s2
      unfold isOvD
      cases hcode : isCode cnt du with
      | false => exact iteF ⟨rfl, x2⟩
      | true =>
        rw [Bool.true_and]
        obtain ⟨ed, bbd⟩ := code_ints hcode
        have l1000 : (bsD du).length ≤ 1000 := by
          have := ok1.len _ ed
          rw [List.length_map] at this
          exact this
        have Du2 := Du1.same x2
        rw [ed] at Du2
        obtain ⟨ca, cs, rfl, hca, Dc⟩ := dx_tup Du2
        have ecs := dx_intsI Dc
        subst ecs
        exact iteT ⟨_, rfl, _, rfl, _, rfl, _, rfl, t, it, l, g, ca, cnt, 3, is, rs, us, pss, gs, bsD du, rfl, TbH.same (sG.trans x2), SqT.of (x2 _ _ (sG _ _ hlH)), DuH.same (sG.trans x2), SqT.of (x2 _ _ (sG _ _ hgH)), oe, lgp, hca, l1000, fun G3 s3 => ⟨rfl, x2.trans s3⟩⟩
    rintro σ G2 ⟨rfl, x2⟩
    have asked : ∀ {G3 : Hp}, Same G G3 → Mach C G3 x cnt 3 it is rs ∧ SqT K G3 l us ∧ DxAll K G3 us (pss.map planD) ∧ SqT K G3 g (entV gs) ∧ Dx K G3 u du := fun {G3} x3 =>
      ⟨McH.same (sG.trans x3), SqT.of (x3 _ _ (sG _ _ hlH)), DuH.same (sG.trans x3), SqT.of (x3 _ _ (sG _ _ hgH)), Du1.same x3⟩
    have pls : Plns cnt is pss := ⟨by omega, by omega, pok⟩
    have dl : ∀ ps ∈ pss, dcnt is ps ≤ 1000 := fun ps hps => (ppl ps hps).2
    have fe : stcN is pss gs ≤ 5000 := by omega
    generalize hdue : isOvD cnt is pss gs du = due at *
    obtain ⟨m1, m2, m3, m4, m5⟩ := asked x2
    refine ⟨_, rfl, _, rfl, _, rfl, _, rfl, x, it, l, g, cnt, 3, is, rs, us, pss, gs, u, du, rfl, m1, m2, m3, pls, m4, oe, lgp, dl, fe, m5, ok1.len, fun G3 s3 => ?_⟩
    rw [hdue]
    have x3 := x2.trans s3
    refine ⟨by show 1 ≤ sizeLine; decide, fun q2 nq2 => ?_⟩
    have x4 := x3.trans (same_upd (o := HO.lst [V.bl due]) nq2)
    have hq2 : upd G3 q2 (HO.lst [V.bl due]) q2 = some (.lst [V.bl due]) := upd_same
    have nG2 : G q2 = none := x3.free nq2
    generalize upd G3 q2 (HO.lst [V.bl due]) = G4 at *
    obtain ⟨m1, m2, m3, m4, m5⟩ := asked x4
    refine ⟨_, rfl, .inl ⟨rfl, _, SqL.of hq2⟩, _, rfl, _, rfl, _, rfl, _, rfl, x, it, l, g, cnt, 3, is, rs, us, pss, gs, u, du, rfl, m1, m2, m3, pls, m4, oe, lgp, dl, fe, m5, ok1.len, fun G5 s5 => ?_⟩
    rw [hdue]
    refine ⟨q2, _, _, rfl, rfl, s5 _ _ hq2, by show 1 < sizeLine; decide, ?_⟩
    have x5 := x4.trans s5
    have x6 : Same G (upd G5 q2 (HO.lst ([V.bl due] ++ [V.bl due]))) := fun b o e => by
      rw [upd_ne (ne_of_none e nG2)]
      exact x5 b o e
    have hq3 : (upd G5 q2 (HO.lst ([V.bl due] ++ [V.bl due]))) q2 = some (.lst [V.bl due, V.bl due]) := upd_same
    generalize upd G5 q2 (HO.lst ([V.bl due] ++ [V.bl due])) = G6 at *
    refine ⟨_, rfl, _, _, rfl, .lst (SqL.of hq3) (.cons (.bl _) (.cons (.bl _) .nil)), shows_two _ _, ?_⟩
    refine ⟨_, rfl, _, rfl, by show 2 ≤ sizeLine; decide, fun q4 nq4 => ?_⟩
    have x7 := x6.trans (same_upd (o := HO.lst [V.bl due, V.bl due]) nq4)
    refine ⟨_, _, rfl, .lst (SqL.of upd_same) (.cons (.bl _) (.cons (.bl _) .nil)), shows_two _ _, rfl, _, rfl, ?_⟩
    generalize upd G6 q4 (HO.lst [V.bl due, V.bl due]) = G7 at *
    refine iteNS rfl ⟨_, rfl, _, rfl, _, rfl, by show 3 ≤ sizeLine; decide, fun q5 nq5 => ?_⟩
    have x8 := same_upd (o := HO.tup [u, V.ref l, V.ref g]) nq5
    refine ⟨_, _, rfl, DK (x7.trans x8) upd_same, SK, _, rfl, rfl, _, rfl, ?_⟩
    exact iteNS rfl ⟨_, _, _, _, rfl, sG.trans (x7.trans x8)⟩
end
end Ov
namespace Ov
open PySem PySem.Spec PyProof.Rows L2
theorem up {P : Program} {w : World} {K : PySem.W.Frag} {mg : Str → Option Value} {base : Heap} {CX : CXT} {k k' : Nat} {f : Addr} {fd : FuncData} {ps : List Str} {sp : Sp} (F : FnOk P w K mg base CX k f fd ps sp) (h : k ≤ k') : FnOk P w K mg base CX k' f fd ps sp := ⟨F.len, fun A outer s H args us vs Q E room => F.run A outer s H args us vs Q E (room.mono h)⟩
/-! ### what the top has written, and the law's own head -/
theorem all_mk {P : Program} {w : World} {K : PySem.W.Frag} {h : Heap} {mg : Str → Option Value} {fa f0 f1 f2 f3 f4 f5 f6 f7 f8 f9 f10 f11 f12 f13 f14 f15 f16 f17 f18 f19 f20 f21 f22 f23 f24 f25 f26 f27 f28 f29 f30 f31 f32 f33 f34 f35 f36 f37 f38 f39 f40 f41 f42 f43 f44 : Addr} (X : K.In h) (G : h.Ns mainGlobals mg) (hfa : mg "law" = some (.ref fa))
    {od0 an0 od1 an1 od2 an2 od3 an3 od4 an4 od5 an5 od6 an6 od7 an7 od8 an8 od9 an9 od10 an10 od11 an11 od12 an12 od13 an13 od14 an14 od15 an15 od16 an16 od17 an17 od18 an18 od19 an19 od20 an20 od21 an21 od22 an22 od23 an23 od24 an24 od25 an25 od26 an26 od27 an27 od28 an28 od29 an29 od30 an30 od31 an31 od32 an32 od33 an33 od34 an34 od35 an35 od36 an36 od37 an37 od38 an38 od39 an39 od40 an40 od41 an41 od42 an42 od43 an43 od44 an44 : Option Addr} {sl0 sl1 sl2 sl3 sl4 sl5 sl6 sl7 sl8 sl9 sl10 sl11 sl12 sl13 sl14 sl15 sl16 sl17 sl18 sl19 sl20 sl21 sl22 sl23 sl24 sl25 sl26 sl27 sl28 sl29 sl30 sl31 sl32 sl33 sl34 sl35 sl36 sl37 sl38 sl39 sl40 sl41 sl42 sl43 sl44 : Array (Option Value)} {oc0 kV0 dc0 pm0 cd0 ct0 oc1 kV1 dc1 pm1 cd1 ct1 oc2 kV2 dc2 pm2 cd2 ct2 oc3 kV3 dc3 pm3 cd3 ct3 oc4 kV4 dc4 pm4 cd4 ct4 oc5 kV5 dc5 pm5 cd5 ct5 oc6 kV6 dc6 pm6 cd6 ct6 oc7 kV7 dc7 pm7 cd7 ct7 oc8 kV8 dc8 pm8 cd8 ct8 oc9 kV9 dc9 pm9 cd9 ct9 oc10 kV10 dc10 pm10 cd10 ct10 oc11 kV11 dc11 pm11 cd11 ct11 oc12 kV12 dc12 pm12 cd12 ct12 oc13 kV13 dc13 pm13 cd13 ct13 oc14 kV14 dc14 pm14 cd14 ct14 oc15 kV15 dc15 pm15 cd15 ct15 oc16 kV16 dc16 pm16 cd16 ct16 oc17 kV17 dc17 pm17 cd17 ct17 oc18 kV18 dc18 pm18 cd18 ct18 oc19 kV19 dc19 pm19 cd19 ct19 oc20 kV20 dc20 pm20 cd20 ct20 oc21 kV21 dc21 pm21 cd21 ct21 oc22 kV22 dc22 pm22 cd22 ct22 oc23 kV23 dc23 pm23 cd23 ct23 oc24 kV24 dc24 pm24 cd24 ct24 oc25 kV25 dc25 pm25 cd25 ct25 oc26 kV26 dc26 pm26 cd26 ct26 oc27 kV27 dc27 pm27 cd27 ct27 oc28 kV28 dc28 pm28 cd28 ct28 oc29 kV29 dc29 pm29 cd29 ct29 oc30 kV30 dc30 pm30 cd30 ct30 oc31 kV31 dc31 pm31 cd31 ct31 oc32 kV32 dc32 pm32 cd32 ct32 oc33 kV33 dc33 pm33 cd33 ct33 oc34 kV34 dc34 pm34 cd34 ct34 oc35 kV35 dc35 pm35 cd35 ct35 oc36 kV36 dc36 pm36 cd36 ct36 oc37 kV37 dc37 pm37 cd37 ct37 oc38 kV38 dc38 pm38 cd38 ct38 oc39 kV39 dc39 pm39 cd39 ct39 oc40 kV40 dc40 pm40 cd40 ct40 oc41 kV41 dc41 pm41 cd41 ct41 oc42 kV42 dc42 pm42 cd42 ct42 oc43 kV43 dc43 pm43 cd43 ct43 oc44 kV44 dc44 pm44 cd44 ct44 : Value}
    {tk0 tk1 tk2 tk3 tk4 tk5 tk6 tk7 : Tok}
    (a0 : PySem.W.nsIn K mainGlobals "law" = some (some (.ref f0))) (l0 : K.lookup f0 = some ⟨oc0, od0, .func (PySem.W.fnOf "law" "law" (defArgs sLaw) (defBody sLaw) (defScope sLaw) .none kV0 dc0 pm0 an0 cd0 ct0), sl0⟩) (c0 : PySem.W.codeIn K cd0 "law" = true) (k0 : PySem.W.keepIn K (.ref f0) = true)
    (a1 : PySem.W.nsIn K mainGlobals "is_overlay" = some (some (.ref f1))) (l1 : K.lookup f1 = some ⟨oc1, od1, .func (PySem.W.fnOf "is_overlay" "is_overlay" (defArgs s_is_overlay) (defBody s_is_overlay) (defScope s_is_overlay) .none kV1 dc1 pm1 an1 cd1 ct1), sl1⟩) (c1 : PySem.W.codeIn K cd1 "is_overlay" = true) (k1 : PySem.W.keepIn K (.ref f1) = true)
    (a2 : PySem.W.nsIn K mainGlobals "_law_is_over" = some (some (.ref f2))) (l2 : K.lookup f2 = some ⟨oc2, od2, .func (PySem.W.fnOf "_law_is_over" "_law_is_over" (defArgs s_law_is_over) (defBody s_law_is_over) (defScope s_law_is_over) .none kV2 dc2 pm2 an2 cd2 ct2), sl2⟩) (c2 : PySem.W.codeIn K cd2 "_law_is_over" = true) (k2 : PySem.W.keepIn K (.ref f2) = true)
    (a3 : PySem.W.nsIn K mainGlobals "_law_is_row" = some (some (.ref f3))) (l3 : K.lookup f3 = some ⟨oc3, od3, .func (PySem.W.fnOf "_law_is_row" "_law_is_row" (defArgs s_law_is_row) (defBody s_law_is_row) (defScope s_law_is_row) .none kV3 dc3 pm3 an3 cd3 ct3), sl3⟩) (c3 : PySem.W.codeIn K cd3 "_law_is_row" = true) (k3 : PySem.W.keepIn K (.ref f3) = true)
    (a4 : PySem.W.nsIn K mainGlobals "_law_take" = some (some (.ref f4))) (l4 : K.lookup f4 = some ⟨oc4, od4, .func (PySem.W.fnOf "_law_take" "_law_take" (defArgs sTake) (defBody sTake) (defScope sTake) .none kV4 dc4 pm4 an4 cd4 ct4), sl4⟩) (c4 : PySem.W.codeIn K cd4 "_law_take" = true) (k4 : PySem.W.keepIn K (.ref f4) = true)
    (a5 : PySem.W.nsIn K mainGlobals "_law_near" = some (some (.ref f5))) (l5 : K.lookup f5 = some ⟨oc5, od5, .func (PySem.W.fnOf "_law_near" "_law_near" (defArgs s_law_near) (defBody s_law_near) (defScope s_law_near) .none kV5 dc5 pm5 an5 cd5 ct5), sl5⟩) (c5 : PySem.W.codeIn K cd5 "_law_near" = true) (k5 : PySem.W.keepIn K (.ref f5) = true)
    (a6 : PySem.W.nsIn K mainGlobals "_law_states" = some (some (.ref f6))) (l6 : K.lookup f6 = some ⟨oc6, od6, .func (PySem.W.fnOf "_law_states" "_law_states" (defArgs s_law_states) (defBody s_law_states) (defScope s_law_states) .none kV6 dc6 pm6 an6 cd6 ct6), sl6⟩) (c6 : PySem.W.codeIn K cd6 "_law_states" = true) (k6 : PySem.W.keepIn K (.ref f6) = true)
    (a7 : PySem.W.nsIn K mainGlobals "_law_plan" = some (some (.ref f7))) (l7 : K.lookup f7 = some ⟨oc7, od7, .func (PySem.W.fnOf "_law_plan" "_law_plan" (defArgs s_law_plan) (defBody s_law_plan) (defScope s_law_plan) .none kV7 dc7 pm7 an7 cd7 ct7), sl7⟩) (c7 : PySem.W.codeIn K cd7 "_law_plan" = true) (k7 : PySem.W.keepIn K (.ref f7) = true)
    (a8 : PySem.W.nsIn K mainGlobals "_law_open" = some (some (.ref f8))) (l8 : K.lookup f8 = some ⟨oc8, od8, .func (PySem.W.fnOf "_law_open" "_law_open" (defArgs s_law_open) (defBody s_law_open) (defScope s_law_open) .none kV8 dc8 pm8 an8 cd8 ct8), sl8⟩) (c8 : PySem.W.codeIn K cd8 "_law_open" = true) (k8 : PySem.W.keepIn K (.ref f8) = true)
    (a9 : PySem.W.nsIn K mainGlobals "_law_steps" = some (some (.ref f9))) (l9 : K.lookup f9 = some ⟨oc9, od9, .func (PySem.W.fnOf "_law_steps" "_law_steps" (defArgs s_law_steps) (defBody s_law_steps) (defScope s_law_steps) .none kV9 dc9 pm9 an9 cd9 ct9), sl9⟩) (c9 : PySem.W.codeIn K cd9 "_law_steps" = true) (k9 : PySem.W.keepIn K (.ref f9) = true)
    (a10 : PySem.W.nsIn K mainGlobals "_law_bytes" = some (some (.ref f10))) (l10 : K.lookup f10 = some ⟨oc10, od10, .func (PySem.W.fnOf "_law_bytes" "_law_bytes" (defArgs sBytes) (defBody sBytes) (defScope sBytes) .none kV10 dc10 pm10 an10 cd10 ct10), sl10⟩) (c10 : PySem.W.codeIn K cd10 "_law_bytes" = true) (k10 : PySem.W.keepIn K (.ref f10) = true)
    (a11 : PySem.W.nsIn K mainGlobals "_law_gates" = some (some (.ref f11))) (l11 : K.lookup f11 = some ⟨oc11, od11, .func (PySem.W.fnOf "_law_gates" "_law_gates" (defArgs s_law_gates) (defBody s_law_gates) (defScope s_law_gates) .none kV11 dc11 pm11 an11 cd11 ct11), sl11⟩) (c11 : PySem.W.codeIn K cd11 "_law_gates" = true) (k11 : PySem.W.keepIn K (.ref f11) = true)
    (a12 : PySem.W.nsIn K mainGlobals "_law_table" = some (some (.ref f12))) (l12 : K.lookup f12 = some ⟨oc12, od12, .func (PySem.W.fnOf "_law_table" "_law_table" (defArgs sTable) (defBody sTable) (defScope sTable) .none kV12 dc12 pm12 an12 cd12 ct12), sl12⟩) (c12 : PySem.W.codeIn K cd12 "_law_table" = true) (k12 : PySem.W.keepIn K (.ref f12) = true)
    (a13 : PySem.W.nsIn K mainGlobals "_law_box" = some (some (.ref f13))) (l13 : K.lookup f13 = some ⟨oc13, od13, .func (PySem.W.fnOf "_law_box" "_law_box" (defArgs sBox) (defBody sBox) (defScope sBox) .none kV13 dc13 pm13 an13 cd13 ct13), sl13⟩) (c13 : PySem.W.codeIn K cd13 "_law_box" = true) (k13 : PySem.W.keepIn K (.ref f13) = true)
    (a14 : PySem.W.nsIn K mainGlobals "runs" = some (some (.ref f14))) (l14 : K.lookup f14 = some ⟨oc14, od14, .func (PySem.W.fnOf "runs" "runs" (defArgs s_runs) (defBody s_runs) (defScope s_runs) .none kV14 dc14 pm14 an14 cd14 ct14), sl14⟩) (c14 : PySem.W.codeIn K cd14 "runs" = true) (k14 : PySem.W.keepIn K (.ref f14) = true)
    (a15 : PySem.W.nsIn K mainGlobals "is_code" = some (some (.ref f15))) (l15 : K.lookup f15 = some ⟨oc15, od15, .func (PySem.W.fnOf "is_code" "is_code" (defArgs sIsCode) (defBody sIsCode) (defScope sIsCode) .none kV15 dc15 pm15 an15 cd15 ct15), sl15⟩) (c15 : PySem.W.codeIn K cd15 "is_code" = true) (k15 : PySem.W.keepIn K (.ref f15) = true)
    (a16 : PySem.W.nsIn K mainGlobals "check_overlay" = some (some (.ref f16))) (l16 : K.lookup f16 = some ⟨oc16, od16, .func (PySem.W.fnOf "check_overlay" "check_overlay" (defArgs s_check_overlay) (defBody s_check_overlay) (defScope s_check_overlay) .none kV16 dc16 pm16 an16 cd16 ct16), sl16⟩) (c16 : PySem.W.codeIn K cd16 "check_overlay" = true) (k16 : PySem.W.keepIn K (.ref f16) = true)
    (a17 : PySem.W.nsIn K mainGlobals "check_entry" = some (some (.ref f17))) (l17 : K.lookup f17 = some ⟨oc17, od17, .func (PySem.W.fnOf "check_entry" "check_entry" (defArgs sCheckEntry) (defBody sCheckEntry) (defScope sCheckEntry) .none kV17 dc17 pm17 an17 cd17 ct17), sl17⟩) (c17 : PySem.W.codeIn K cd17 "check_entry" = true) (k17 : PySem.W.keepIn K (.ref f17) = true)
    (a18 : PySem.W.nsIn K mainGlobals "check_program" = some (some (.ref f18))) (l18 : K.lookup f18 = some ⟨oc18, od18, .func (PySem.W.fnOf "check_program" "check_program" (defArgs s_check_program) (defBody s_check_program) (defScope s_check_program) .none kV18 dc18 pm18 an18 cd18 ct18), sl18⟩) (c18 : PySem.W.codeIn K cd18 "check_program" = true) (k18 : PySem.W.keepIn K (.ref f18) = true)
    {dT19 : Addr} {xoc19 : Value} {xod19 : Option Addr} {xn19 : Nat} {xsl19 : Array (Option Value)} {xtk19_0 : Tok}
    (a19 : PySem.W.nsIn K mainGlobals "executed" = some (some (.ref f19))) (l19 : K.lookup f19 = some ⟨oc19, od19, .func (PySem.W.fnOf "executed" "executed" (defArgs s_executed) (defBody s_executed) (defScope s_executed) (.ref dT19) kV19 dc19 pm19 an19 cd19 ct19), sl19⟩) (c19 : PySem.W.codeIn K cd19 "executed" = true) (k19 : PySem.W.keepIn K (.ref f19) = true)
    (ld19 : K.lookup dT19 = some ⟨xoc19, xod19, .seq #[.int 0 xtk19_0] xn19, xsl19⟩)
    (a20 : PySem.W.nsIn K mainGlobals "is_match" = some (some (.ref f20))) (l20 : K.lookup f20 = some ⟨oc20, od20, .func (PySem.W.fnOf "is_match" "is_match" (defArgs s_is_match) (defBody s_is_match) (defScope s_is_match) .none kV20 dc20 pm20 an20 cd20 ct20), sl20⟩) (c20 : PySem.W.codeIn K cd20 "is_match" = true) (k20 : PySem.W.keepIn K (.ref f20) = true)
    (a21 : PySem.W.nsIn K mainGlobals "is_integer_between" = some (some (.ref f21))) (l21 : K.lookup f21 = some ⟨oc21, od21, .func (PySem.W.fnOf "is_integer_between" "is_integer_between" (defArgs sBetween) (defBody sBetween) (defScope sBetween) .none kV21 dc21 pm21 an21 cd21 ct21), sl21⟩) (c21 : PySem.W.codeIn K cd21 "is_integer_between" = true) (k21 : PySem.W.keepIn K (.ref f21) = true)
    (a22 : PySem.W.nsIn K mainGlobals "is_integer" = some (some (.ref f22))) (l22 : K.lookup f22 = some ⟨oc22, od22, .func (PySem.W.fnOf "is_integer" "is_integer" (defArgs sIsInt) (defBody sIsInt) (defScope sIsInt) .none kV22 dc22 pm22 an22 cd22 ct22), sl22⟩) (c22 : PySem.W.codeIn K cd22 "is_integer" = true) (k22 : PySem.W.keepIn K (.ref f22) = true)
    (a23 : PySem.W.nsIn K mainGlobals "is_program" = some (some (.ref f23))) (l23 : K.lookup f23 = some ⟨oc23, od23, .func (PySem.W.fnOf "is_program" "is_program" (defArgs s_is_program) (defBody s_is_program) (defScope s_is_program) .none kV23 dc23 pm23 an23 cd23 ct23), sl23⟩) (c23 : PySem.W.codeIn K cd23 "is_program" = true) (k23 : PySem.W.keepIn K (.ref f23) = true)
    (a24 : PySem.W.nsIn K mainGlobals "step_lengths" = some (some (.ref f24))) (l24 : K.lookup f24 = some ⟨oc24, od24, .func (PySem.W.fnOf "step_lengths" "step_lengths" (defArgs s_step_lengths) (defBody s_step_lengths) (defScope s_step_lengths) .none kV24 dc24 pm24 an24 cd24 ct24), sl24⟩) (c24 : PySem.W.codeIn K cd24 "step_lengths" = true) (k24 : PySem.W.keepIn K (.ref f24) = true)
    (a25 : PySem.W.nsIn K mainGlobals "is_step" = some (some (.ref f25))) (l25 : K.lookup f25 = some ⟨oc25, od25, .func (PySem.W.fnOf "is_step" "is_step" (defArgs s_is_step) (defBody s_is_step) (defScope s_is_step) .none kV25 dc25 pm25 an25 cd25 ct25), sl25⟩) (c25 : PySem.W.codeIn K cd25 "is_step" = true) (k25 : PySem.W.keepIn K (.ref f25) = true)
    {dT26 : Addr} {xoc26 : Value} {xod26 : Option Addr} {xn26 : Nat} {xsl26 : Array (Option Value)} {xtk26_0 : Tok}
    (a26 : PySem.W.nsIn K mainGlobals "decode" = some (some (.ref f26))) (l26 : K.lookup f26 = some ⟨oc26, od26, .func (PySem.W.fnOf "decode" "decode" (defArgs sDecode) (defBody sDecode) (defScope sDecode) (.ref dT26) kV26 dc26 pm26 an26 cd26 ct26), sl26⟩) (c26 : PySem.W.codeIn K cd26 "decode" = true) (k26 : PySem.W.keepIn K (.ref f26) = true)
    (ld26 : K.lookup dT26 = some ⟨xoc26, xod26, .seq #[.int 0 xtk26_0] xn26, xsl26⟩)
    (a27 : PySem.W.nsIn K mainGlobals "walk" = some (some (.ref f27))) (l27 : K.lookup f27 = some ⟨oc27, od27, .func (PySem.W.fnOf "walk" "walk" (defArgs sWalk) (defBody sWalk) (defScope sWalk) .none kV27 dc27 pm27 an27 cd27 ct27), sl27⟩) (c27 : PySem.W.codeIn K cd27 "walk" = true) (k27 : PySem.W.keepIn K (.ref f27) = true)
    (a28 : PySem.W.nsIn K mainGlobals "read_instructions" = some (some (.ref f28))) (l28 : K.lookup f28 = some ⟨oc28, od28, .func (PySem.W.fnOf "read_instructions" "read_instructions" (defArgs sReadI) (defBody sReadI) (defScope sReadI) .none kV28 dc28 pm28 an28 cd28 ct28), sl28⟩) (c28 : PySem.W.codeIn K cd28 "read_instructions" = true) (k28 : PySem.W.keepIn K (.ref f28) = true)
    (a29 : PySem.W.nsIn K mainGlobals "ending" = some (some (.ref f29))) (l29 : K.lookup f29 = some ⟨oc29, od29, .func (PySem.W.fnOf "ending" "ending" (defArgs sEnding) (defBody sEnding) (defScope sEnding) .none kV29 dc29 pm29 an29 cd29 ct29), sl29⟩) (c29 : PySem.W.codeIn K cd29 "ending" = true) (k29 : PySem.W.keepIn K (.ref f29) = true)
    (a30 : PySem.W.nsIn K mainGlobals "state_count" = some (some (.ref f30))) (l30 : K.lookup f30 = some ⟨oc30, od30, .func (PySem.W.fnOf "state_count" "state_count" (defArgs s_state_count) (defBody s_state_count) (defScope s_state_count) .none kV30 dc30 pm30 an30 cd30 ct30), sl30⟩) (c30 : PySem.W.codeIn K cd30 "state_count" = true) (k30 : PySem.W.keepIn K (.ref f30) = true)
    (a31 : PySem.W.nsIn K mainGlobals "check_programs" = some (some (.ref f31))) (l31 : K.lookup f31 = some ⟨oc31, od31, .func (PySem.W.fnOf "check_programs" "check_programs" (defArgs s_check_programs) (defBody s_check_programs) (defScope s_check_programs) .none kV31 dc31 pm31 an31 cd31 ct31), sl31⟩) (c31 : PySem.W.codeIn K cd31 "check_programs" = true) (k31 : PySem.W.keepIn K (.ref f31) = true)
    (a32 : PySem.W.nsIn K mainGlobals "check_entries" = some (some (.ref f32))) (l32 : K.lookup f32 = some ⟨oc32, od32, .func (PySem.W.fnOf "check_entries" "check_entries" (defArgs s_check_entries) (defBody s_check_entries) (defScope s_check_entries) .none kV32 dc32 pm32 an32 cd32 ct32), sl32⟩) (c32 : PySem.W.codeIn K cd32 "check_entries" = true) (k32 : PySem.W.keepIn K (.ref f32) = true)
    (a33 : PySem.W.nsIn K mainGlobals "decoder_count" = some (some (.ref f33))) (l33 : K.lookup f33 = some ⟨oc33, od33, .func (PySem.W.fnOf "decoder_count" "decoder_count" (defArgs s_decoder_count) (defBody s_decoder_count) (defScope s_decoder_count) .none kV33 dc33 pm33 an33 cd33 ct33), sl33⟩) (c33 : PySem.W.codeIn K cd33 "decoder_count" = true) (k33 : PySem.W.keepIn K (.ref f33) = true)
    (a34 : PySem.W.nsIn K mainGlobals "are_entries" = some (some (.ref f34))) (l34 : K.lookup f34 = some ⟨oc34, od34, .func (PySem.W.fnOf "are_entries" "are_entries" (defArgs s_are_entries) (defBody s_are_entries) (defScope s_are_entries) .none kV34 dc34 pm34 an34 cd34 ct34), sl34⟩) (c34 : PySem.W.codeIn K cd34 "are_entries" = true) (k34 : PySem.W.keepIn K (.ref f34) = true)
    (a35 : PySem.W.nsIn K mainGlobals "is_ascending" = some (some (.ref f35))) (l35 : K.lookup f35 = some ⟨oc35, od35, .func (PySem.W.fnOf "is_ascending" "is_ascending" (defArgs sAscending) (defBody sAscending) (defScope sAscending) .none kV35 dc35 pm35 an35 cd35 ct35), sl35⟩) (c35 : PySem.W.codeIn K cd35 "is_ascending" = true) (k35 : PySem.W.keepIn K (.ref f35) = true)
    (a36 : PySem.W.nsIn K mainGlobals "longest_rest" = some (some (.ref f36))) (l36 : K.lookup f36 = some ⟨oc36, od36, .func (PySem.W.fnOf "longest_rest" "longest_rest" (defArgs s_longest_rest) (defBody s_longest_rest) (defScope s_longest_rest) .none kV36 dc36 pm36 an36 cd36 ct36), sl36⟩) (c36 : PySem.W.codeIn K cd36 "longest_rest" = true) (k36 : PySem.W.keepIn K (.ref f36) = true)
    (a37 : PySem.W.nsIn K mainGlobals "_law_fits" = some (some (.ref f37))) (l37 : K.lookup f37 = some ⟨oc37, od37, .func (PySem.W.fnOf "_law_fits" "_law_fits" (defArgs s_law_fits) (defBody s_law_fits) (defScope s_law_fits) .none kV37 dc37 pm37 an37 cd37 ct37), sl37⟩) (c37 : PySem.W.codeIn K cd37 "_law_fits" = true) (k37 : PySem.W.keepIn K (.ref f37) = true)
    (a38 : PySem.W.nsIn K mainGlobals "_law_read" = some (some (.ref f38))) (l38 : K.lookup f38 = some ⟨oc38, od38, .func (PySem.W.fnOf "_law_read" "_law_read" (defArgs s_law_read) (defBody s_law_read) (defScope s_law_read) .none kV38 dc38 pm38 an38 cd38 ct38), sl38⟩) (c38 : PySem.W.codeIn K cd38 "_law_read" = true) (k38 : PySem.W.keepIn K (.ref f38) = true)
    (a39 : PySem.W.nsIn K mainGlobals "_law_known" = some (some (.ref f39))) (l39 : K.lookup f39 = some ⟨oc39, od39, .func (PySem.W.fnOf "_law_known" "_law_known" (defArgs s_law_known) (defBody s_law_known) (defScope s_law_known) .none kV39 dc39 pm39 an39 cd39 ct39), sl39⟩) (c39 : PySem.W.codeIn K cd39 "_law_known" = true) (k39 : PySem.W.keepIn K (.ref f39) = true)
    (a40 : PySem.W.nsIn K mainGlobals "_law_length_at" = some (some (.ref f40))) (l40 : K.lookup f40 = some ⟨oc40, od40, .func (PySem.W.fnOf "_law_length_at" "_law_length_at" (defArgs sLLenAt) (defBody sLLenAt) (defScope sLLenAt) .none kV40 dc40 pm40 an40 cd40 ct40), sl40⟩) (c40 : PySem.W.codeIn K cd40 "_law_length_at" = true) (k40 : PySem.W.keepIn K (.ref f40) = true)
    (a41 : PySem.W.nsIn K mainGlobals "_law_of" = some (some (.ref f41))) (l41 : K.lookup f41 = some ⟨oc41, od41, .func (PySem.W.fnOf "_law_of" "_law_of" (defArgs sOf) (defBody sOf) (defScope sOf) .none kV41 dc41 pm41 an41 cd41 ct41), sl41⟩) (c41 : PySem.W.codeIn K cd41 "_law_of" = true) (k41 : PySem.W.keepIn K (.ref f41) = true)
    (a42 : PySem.W.nsIn K mainGlobals "are_instructions" = some (some (.ref f42))) (l42 : K.lookup f42 = some ⟨oc42, od42, .func (PySem.W.fnOf "are_instructions" "are_instructions" (defArgs sAreInstr) (defBody sAreInstr) (defScope sAreInstr) .none kV42 dc42 pm42 an42 cd42 ct42), sl42⟩) (c42 : PySem.W.codeIn K cd42 "are_instructions" = true) (k42 : PySem.W.keepIn K (.ref f42) = true)
    (a43 : PySem.W.nsIn K mainGlobals "is_instruction" = some (some (.ref f43))) (l43 : K.lookup f43 = some ⟨oc43, od43, .func (PySem.W.fnOf "is_instruction" "is_instruction" (defArgs sIsInstr) (defBody sIsInstr) (defScope sIsInstr) .none kV43 dc43 pm43 an43 cd43 ct43), sl43⟩) (c43 : PySem.W.codeIn K cd43 "is_instruction" = true) (k43 : PySem.W.keepIn K (.ref f43) = true)
    (a44 : PySem.W.nsIn K mainGlobals "is_name" = some (some (.ref f44))) (l44 : K.lookup f44 = some ⟨oc44, od44, .func (PySem.W.fnOf "is_name" "is_name" (defArgs sIsName) (defBody sIsName) (defScope sIsName) .none kV44 dc44 pm44 an44 cd44 ct44), sl44⟩) (c44 : PySem.W.codeIn K cd44 "is_name" = true) (k44 : PySem.W.keepIn K (.ref f44) = true)
    {C0 m0_0 m0_1 m0_2 : Addr} {mod0_0 man0_0 mod0_1 man0_1 mod0_2 man0_2 : Option Addr} {msl0_0 msl0_1 msl0_2 : Array (Option Value)} {moc0_0 mkV0_0 mdc0_0 mpm0_0 mcd0_0 mct0_0 moc0_1 mkV0_1 mdc0_1 mpm0_1 mcd0_1 mct0_1 moc0_2 mkV0_2 mdc0_2 mpm0_2 mcd0_2 mct0_2 : Value}
    (clA0 : PySem.W.nsIn K mainGlobals "InstructionSet" = some (some (.ref C0)))
    (ma0_0 : PySem.W.findIn K (.ref C0) "__init__" = some (some (.ref m0_0))) (mi0_0 : PySem.W.isFn K (.ref m0_0) = true) (ml0_0 : K.lookup m0_0 = some ⟨moc0_0, mod0_0, .func (PySem.W.fnOf "__init__" "InstructionSet.__init__" (defArgs sInitI) (defBody sInitI) (defScope sInitI) .none mkV0_0 mdc0_0 mpm0_0 man0_0 mcd0_0 mct0_0), msl0_0⟩) (mc0_0 : PySem.W.codeIn K mcd0_0 "InstructionSet.__init__" = true) (mk0_0 : PySem.W.keepIn K (.ref m0_0) = true)
    (ma0_1 : PySem.W.findIn K (.ref C0) "length_at" = some (some (.ref m0_1))) (mi0_1 : PySem.W.isFn K (.ref m0_1) = true) (ml0_1 : K.lookup m0_1 = some ⟨moc0_1, mod0_1, .func (PySem.W.fnOf "length_at" "InstructionSet.length_at" (defArgs sLenAt) (defBody sLenAt) (defScope sLenAt) .none mkV0_1 mdc0_1 mpm0_1 man0_1 mcd0_1 mct0_1), msl0_1⟩) (mc0_1 : PySem.W.codeIn K mcd0_1 "InstructionSet.length_at" = true) (mk0_1 : PySem.W.keepIn K (.ref m0_1) = true)
    (ma0_2 : PySem.W.findIn K (.ref C0) "padding_lengths" = some (some (.ref m0_2))) (mi0_2 : PySem.W.isFn K (.ref m0_2) = true) (ml0_2 : K.lookup m0_2 = some ⟨moc0_2, mod0_2, .func (PySem.W.fnOf "padding_lengths" "InstructionSet.padding_lengths" (defArgs sPadLens) (defBody sPadLens) (defScope sPadLens) .none mkV0_2 mdc0_2 mpm0_2 man0_2 mcd0_2 mct0_2), msl0_2⟩) (mc0_2 : PySem.W.codeIn K mcd0_2 "InstructionSet.padding_lengths" = true) (mk0_2 : PySem.W.keepIn K (.ref m0_2) = true)
    (pg0 : PySem.W.plainGet K C0 Str.empty = true) (hd0 : PySem.W.hasDictIn K C0 = true) (po0 : PySem.W.plainOver K C0 = true) (sa0 : PySem.W.findIn K (.ref C0) "__setattr__" = some (some (.builtin "object.__setattr__"))) (mks0 : PySem.W.makesIn K C0 = true) (kc0 : PySem.W.keepIn K (.ref C0) = true)
    (na0_0 : PySem.W.findIn K (.ref C0) "byte_count" = some none)
    (na0_1 : PySem.W.findIn K (.ref C0) "instructions" = some none)
    (na0_2 : PySem.W.findIn K (.ref C0) "length_of_opcode" = some none)
    (na0_3 : PySem.W.findIn K (.ref C0) "opcode_of_name" = some none)
    (cst0 : PySem.W.nsIn K mainGlobals "MOST_STEPS" = some (some (.int 12 tk0)))
    (cst1 : PySem.W.nsIn K mainGlobals "MOST_STATES" = some (some (.int 5000 tk1)))
    (cst2 : PySem.W.nsIn K mainGlobals "MOST_PROGRAMS" = some (some (.int 3 tk2)))
    (cst3 : PySem.W.nsIn K mainGlobals "GREATEST_ENTRY" = some (some (.int 12 tk3)))
    (cst4 : PySem.W.nsIn K mainGlobals "LEAST_BYTE_COUNT" = some (some (.int 2 tk4)))
    (cst5 : PySem.W.nsIn K mainGlobals "MOST_BYTE_COUNT" = some (some (.int 256 tk5)))
    (cst6 : PySem.W.nsIn K mainGlobals "MOST_LETTERS" = some (some (.int 8 tk6)))
    (cst7 : PySem.W.nsIn K mainGlobals "MOST_LENGTH" = some (some (.int 12 tk7)))
    (bz0 : PySem.W.nsIn K mainGlobals "isinstance" = some none)
    (bz1 : PySem.W.nsIn K mainGlobals "int" = some none)
    (bz2 : PySem.W.nsIn K mainGlobals "bool" = some none)
    (bz3 : PySem.W.nsIn K mainGlobals "tuple" = some none)
    (bz4 : PySem.W.nsIn K mainGlobals "list" = some none)
    (bz5 : PySem.W.nsIn K mainGlobals "all" = some none)
    (bz6 : PySem.W.nsIn K mainGlobals "any" = some none)
    (bz7 : PySem.W.nsIn K mainGlobals "zip" = some none)
    (bz8 : PySem.W.nsIn K mainGlobals "len" = some none)
    (bz9 : PySem.W.nsIn K mainGlobals "range" = some none)
    (bz10 : PySem.W.nsIn K mainGlobals "abs" = some none)
    (bz11 : PySem.W.nsIn K mainGlobals "sorted" = some none)
    (bz12 : PySem.W.nsIn K mainGlobals "min" = some none)
    (bz13 : PySem.W.nsIn K mainGlobals "repr" = some none)
    (bz14 : PySem.W.nsIn K mainGlobals "max" = some none)
    (bz15 : PySem.W.nsIn K mainGlobals "sum" = some none)
    (bz16 : PySem.W.nsIn K mainGlobals "enumerate" = some none)
    (bz17 : PySem.W.nsIn K mainGlobals "str" = some none)
    (bz18 : PySem.W.nsIn K mainGlobals "set" = some none)
    (bz19 : PySem.W.nsIn K mainGlobals "dict" = some none)
    (bz20 : PySem.W.nsIn K mainGlobals "ValueError" = some none)
    : ∃ fd : FuncData, (∀ (s : Shared) (v : Value), BindsTo s fd ⟨[v], []⟩ [("_law_script", v)]) ∧ ∀ base : Heap, K.In base → base.Ns mainGlobals mg → FnG P w K mg base 11 fa fd ["_law_script"] (spLaw K) := by
  have e := hfa.symm.trans (PySem.W.mg_of X G a0)
  cases e
  have T : Bi mg := ⟨PySem.W.mg_none_of X G bz0, PySem.W.mg_none_of X G bz1, PySem.W.mg_none_of X G bz2, PySem.W.mg_none_of X G bz3, PySem.W.mg_none_of X G bz4, PySem.W.mg_none_of X G bz5, PySem.W.mg_none_of X G bz6, PySem.W.mg_none_of X G bz7, PySem.W.mg_none_of X G bz8, PySem.W.mg_none_of X G bz9, PySem.W.mg_none_of X G bz10, PySem.W.mg_none_of X G bz11, PySem.W.mg_none_of X G bz12, PySem.W.mg_none_of X G bz13, PySem.W.mg_none_of X G bz14, PySem.W.mg_none_of X G bz15, PySem.W.mg_none_of X G bz16, PySem.W.mg_none_of X G bz17, PySem.W.mg_none_of X G bz18, PySem.W.mg_none_of X G bz19, PySem.W.mg_none_of X G bz20⟩
  have FLaw := fun_mk (st := sLaw) l0 c0 k0
  have FIsOverlay := fun_mk (st := s_is_overlay) l1 c1 k1
  have DIsOverlay : Def K mg "is_overlay" s_is_overlay f1 _ ["instruction_set", "programs", "entries", "value"] := ⟨FIsOverlay, PySem.W.mg_of X G a1, FIsOverlay.binds (ps := ["instruction_set", "programs", "entries", "value"]) fun _ _ _ _ _ _ us hl => match us, hl with | [_, _, _, _], _ => rfl⟩
  have FLIsOver := fun_mk (st := s_law_is_over) l2 c2 k2
  have DLIsOver : Def K mg "_law_is_over" s_law_is_over f2 _ ["_law_table_here", "_law_plans", "_law_gates_here", "_law_row"] := ⟨FLIsOver, PySem.W.mg_of X G a2, FLIsOver.binds (ps := ["_law_table_here", "_law_plans", "_law_gates_here", "_law_row"]) fun _ _ _ _ _ _ us hl => match us, hl with | [_, _, _, _], _ => rfl⟩
  have FLIsRow := fun_mk (st := s_law_is_row) l3 c3 k3
  have DLIsRow : Def K mg "_law_is_row" s_law_is_row f3 _ ["_law_table_here", "_law_item"] := ⟨FLIsRow, PySem.W.mg_of X G a3, FLIsRow.binds (ps := ["_law_table_here", "_law_item"]) fun _ _ _ _ _ _ us hl => match us, hl with | [_, _], _ => rfl⟩
  have FTk := fun_mk (st := sTake) l4 c4 k4
  have DTk : Def K mg "_law_take" sTake f4 _ ["_law_box_here", "_law_many"] := ⟨FTk, PySem.W.mg_of X G a4, FTk.binds (ps := ["_law_box_here", "_law_many"]) fun _ _ _ _ _ _ us hl => match us, hl with | [_, _], _ => rfl⟩
  have FLNear := fun_mk (st := s_law_near) l5 c5 k5
  have DLNear : Def K mg "_law_near" s_law_near f5 _ ["_law_box_here", "_law_table_here", "_law_row"] := ⟨FLNear, PySem.W.mg_of X G a5, FLNear.binds (ps := ["_law_box_here", "_law_table_here", "_law_row"]) fun _ _ _ _ _ _ us hl => match us, hl with | [_, _, _], _ => rfl⟩
  have FLStates := fun_mk (st := s_law_states) l6 c6 k6
  have DLStates : Def K mg "_law_states" s_law_states f6 _ ["_law_table_here", "_law_plans", "_law_gates_here"] := ⟨FLStates, PySem.W.mg_of X G a6, FLStates.binds (ps := ["_law_table_here", "_law_plans", "_law_gates_here"]) fun _ _ _ _ _ _ us hl => match us, hl with | [_, _, _], _ => rfl⟩
  have FLPn := fun_mk (st := s_law_plan) l7 c7 k7
  have DLPn : Def K mg "_law_plan" s_law_plan f7 _ ["_law_box_here", "_law_table_here", "_law_most"] := ⟨FLPn, PySem.W.mg_of X G a7, FLPn.binds (ps := ["_law_box_here", "_law_table_here", "_law_most"]) fun _ _ _ _ _ _ us hl => match us, hl with | [_, _, _], _ => rfl⟩
  have FLOp := fun_mk (st := s_law_open) l8 c8 k8
  have DLOp : Def K mg "_law_open" s_law_open f8 _ ["_law_box_here", "_law_found"] := ⟨FLOp, PySem.W.mg_of X G a8, FLOp.binds (ps := ["_law_box_here", "_law_found"]) fun _ _ _ _ _ _ us hl => match us, hl with | [_, _], _ => rfl⟩
  have FLSp := fun_mk (st := s_law_steps) l9 c9 k9
  have DLSp : Def K mg "_law_steps" s_law_steps f9 _ ["_law_table_here", "_law_row", "_law_begin"] := ⟨FLSp, PySem.W.mg_of X G a9, FLSp.binds (ps := ["_law_table_here", "_law_row", "_law_begin"]) fun _ _ _ _ _ _ us hl => match us, hl with | [_, _, _], _ => rfl⟩
  have FBy := fun_mk (st := sBytes) l10 c10 k10
  have DBy : Def K mg "_law_bytes" sBytes f10 _ ["_law_box_here", "_law_table_here", "_law_many"] := ⟨FBy, PySem.W.mg_of X G a10, FBy.binds (ps := ["_law_box_here", "_law_table_here", "_law_many"]) fun _ _ _ _ _ _ us hl => match us, hl with | [_, _, _], _ => rfl⟩
  have FLGates := fun_mk (st := s_law_gates) l11 c11 k11
  have DLGates : Def K mg "_law_gates" s_law_gates f11 _ ["_law_box_here", "_law_many", "_law_most"] := ⟨FLGates, PySem.W.mg_of X G a11, FLGates.binds (ps := ["_law_box_here", "_law_many", "_law_most"]) fun _ _ _ _ _ _ us hl => match us, hl with | [_, _, _], _ => rfl⟩
  have FTb := fun_mk (st := sTable) l12 c12 k12
  have DTb : Def K mg "_law_table" sTable f12 _ ["_law_box_here", "_law_most_bytes", "_law_longest"] := ⟨FTb, PySem.W.mg_of X G a12, FTb.binds (ps := ["_law_box_here", "_law_most_bytes", "_law_longest"]) fun _ _ _ _ _ _ us hl => match us, hl with | [_, _, _], _ => rfl⟩
  have FBo := fun_mk (st := sBox) l13 c13 k13
  have DBo : Def K mg "_law_box" sBox f13 _ ["_law_script", "_law_k"] := ⟨FBo, PySem.W.mg_of X G a13, FBo.binds (ps := ["_law_script", "_law_k"]) fun _ _ _ _ _ _ us hl => match us, hl with | [_, _], _ => rfl⟩
  have FRu := fun_mk (st := s_runs) l14 c14 k14
  have DRu : Def K mg "runs" s_runs f14 _ ["instruction_set", "code", "entry", "program"] := ⟨FRu, PySem.W.mg_of X G a14, FRu.binds (ps := ["instruction_set", "code", "entry", "program"]) fun _ _ _ _ _ _ us hl => match us, hl with | [_, _, _, _], _ => rfl⟩
  have FIc := fun_mk (st := sIsCode) l15 c15 k15
  have DIc : Def K mg "is_code" sIsCode f15 _ ["instruction_set", "value"] := ⟨FIc, PySem.W.mg_of X G a15, FIc.binds (ps := ["instruction_set", "value"]) fun _ _ _ _ _ _ us hl => match us, hl with | [_, _], _ => rfl⟩
  have FCkO := fun_mk (st := s_check_overlay) l16 c16 k16
  have DCkO : Def K mg "check_overlay" s_check_overlay f16 _ ["instruction_set", "programs", "entries"] := ⟨FCkO, PySem.W.mg_of X G a16, FCkO.binds (ps := ["instruction_set", "programs", "entries"]) fun _ _ _ _ _ _ us hl => match us, hl with | [_, _, _], _ => rfl⟩
  have FCheckEntry := fun_mk (st := sCheckEntry) l17 c17 k17
  have DCheckEntry : Def K mg "check_entry" sCheckEntry f17 _ ["code", "entry"] := ⟨FCheckEntry, PySem.W.mg_of X G a17, FCheckEntry.binds (ps := ["code", "entry"]) fun _ _ _ _ _ _ us hl => match us, hl with | [_, _], _ => rfl⟩
  have FCheckProgram := fun_mk (st := s_check_program) l18 c18 k18
  have DCheckProgram : Def K mg "check_program" s_check_program f18 _ ["instruction_set", "program"] := ⟨FCheckProgram, PySem.W.mg_of X G a18, FCheckProgram.binds (ps := ["instruction_set", "program"]) fun _ _ _ _ _ _ us hl => match us, hl with | [_, _], _ => rfl⟩
  have FExecuted : FunD K "executed" "executed" (defArgs s_executed) (defBody s_executed) (defScope s_executed) [.int 0] [] f19 _ := ⟨⟨_, _, .ref dT19, _, _, _, _, _, _, _, rfl, l19, c19, .inr ⟨by simp, dT19, _, [.int 0 xtk19_0], _, rfl, ld19, rfl, .cons ⟨_, rfl⟩ (.nil)⟩, .inl rfl⟩, k19⟩
  obtain ⟨dsExecuted_0, vExecuted_0, bExecuted_0⟩ := FExecuted.binds1 (ps := ["instruction_set", "code", "entry"]) 2 0 (by simp) rfl (fun T kV doc pm an cdv ct us its h1 h2 => match us, its, h1, h2 with | [_, _], [_], _, _ => ⟨_, rfl, rfl⟩)
  obtain ⟨dsExecuted_1, vExecuted_1, bExecuted_1⟩ := FExecuted.binds1 (ps := ["instruction_set", "code", "entry"]) 3 1 (by simp) rfl (fun T kV doc pm an cdv ct us its h1 h2 => match us, its, h1, h2 with | [_, _, _], [_], _, _ => ⟨_, rfl, rfl⟩)
  cases vExecuted_1
  have gExecuted := PySem.W.mg_of X G a19
  have FIsMatch := fun_mk (st := s_is_match) l20 c20 k20
  have DIsMatch : Def K mg "is_match" s_is_match f20 _ ["step", "wanted"] := ⟨FIsMatch, PySem.W.mg_of X G a20, FIsMatch.binds (ps := ["step", "wanted"]) fun _ _ _ _ _ _ us hl => match us, hl with | [_, _], _ => rfl⟩
  have FBt := fun_mk (st := sBetween) l21 c21 k21
  have DBt : Def K mg "is_integer_between" sBetween f21 _ ["value", "least", "most"] := ⟨FBt, PySem.W.mg_of X G a21, FBt.binds (ps := ["value", "least", "most"]) fun _ _ _ _ _ _ us hl => match us, hl with | [_, _, _], _ => rfl⟩
  have FIsInteger := fun_mk (st := sIsInt) l22 c22 k22
  have DIsInteger : Def K mg "is_integer" sIsInt f22 _ ["value"] := ⟨FIsInteger, PySem.W.mg_of X G a22, FIsInteger.binds (ps := ["value"]) fun _ _ _ _ _ _ us hl => match us, hl with | [_], _ => rfl⟩
  have FIsProgram := fun_mk (st := s_is_program) l23 c23 k23
  have DIsProgram : Def K mg "is_program" s_is_program f23 _ ["instruction_set", "value"] := ⟨FIsProgram, PySem.W.mg_of X G a23, FIsProgram.binds (ps := ["instruction_set", "value"]) fun _ _ _ _ _ _ us hl => match us, hl with | [_, _], _ => rfl⟩
  have FStepLengths := fun_mk (st := s_step_lengths) l24 c24 k24
  have DStepLengths : Def K mg "step_lengths" s_step_lengths f24 _ ["instruction_set"] := ⟨FStepLengths, PySem.W.mg_of X G a24, FStepLengths.binds (ps := ["instruction_set"]) fun _ _ _ _ _ _ us hl => match us, hl with | [_], _ => rfl⟩
  have FIsStep := fun_mk (st := s_is_step) l25 c25 k25
  have DIsStep : Def K mg "is_step" s_is_step f25 _ ["instruction_set", "lengths", "value"] := ⟨FIsStep, PySem.W.mg_of X G a25, FIsStep.binds (ps := ["instruction_set", "lengths", "value"]) fun _ _ _ _ _ _ us hl => match us, hl with | [_, _, _], _ => rfl⟩
  have FDecode : FunD K "decode" "decode" (defArgs sDecode) (defBody sDecode) (defScope sDecode) [.int 0] [] f26 _ := ⟨⟨_, _, .ref dT26, _, _, _, _, _, _, _, rfl, l26, c26, .inr ⟨by simp, dT26, _, [.int 0 xtk26_0], _, rfl, ld26, rfl, .cons ⟨_, rfl⟩ (.nil)⟩, .inl rfl⟩, k26⟩
  obtain ⟨dsDecode_0, vDecode_0, bDecode_0⟩ := FDecode.binds1 (ps := ["instruction_set", "code", "entry"]) 2 0 (by simp) rfl (fun T kV doc pm an cdv ct us its h1 h2 => match us, its, h1, h2 with | [_, _], [_], _, _ => ⟨_, rfl, rfl⟩)
  obtain ⟨dsDecode_1, vDecode_1, bDecode_1⟩ := FDecode.binds1 (ps := ["instruction_set", "code", "entry"]) 3 1 (by simp) rfl (fun T kV doc pm an cdv ct us its h1 h2 => match us, its, h1, h2 with | [_, _, _], [_], _, _ => ⟨_, rfl, rfl⟩)
  cases vDecode_1
  have gDecode := PySem.W.mg_of X G a26
  have FWalk := fun_mk (st := sWalk) l27 c27 k27
  have DWalk : Def K mg "walk" sWalk f27 _ ["instruction_set", "code", "entry"] := ⟨FWalk, PySem.W.mg_of X G a27, FWalk.binds (ps := ["instruction_set", "code", "entry"]) fun _ _ _ _ _ _ us hl => match us, hl with | [_, _, _], _ => rfl⟩
  have FReadInstructions := fun_mk (st := sReadI) l28 c28 k28
  have DReadInstructions : Def K mg "read_instructions" sReadI f28 _ ["instruction_set", "code", "offsets"] := ⟨FReadInstructions, PySem.W.mg_of X G a28, FReadInstructions.binds (ps := ["instruction_set", "code", "offsets"]) fun _ _ _ _ _ _ us hl => match us, hl with | [_, _, _], _ => rfl⟩
  have FEnding := fun_mk (st := sEnding) l29 c29 k29
  have DEnding : Def K mg "ending" sEnding f29 _ ["code", "begun", "following"] := ⟨FEnding, PySem.W.mg_of X G a29, FEnding.binds (ps := ["code", "begun", "following"]) fun _ _ _ _ _ _ us hl => match us, hl with | [_, _, _], _ => rfl⟩
  have FStateCount := fun_mk (st := s_state_count) l30 c30 k30
  have DStateCount : Def K mg "state_count" s_state_count f30 _ ["instruction_set", "programs", "entries"] := ⟨FStateCount, PySem.W.mg_of X G a30, FStateCount.binds (ps := ["instruction_set", "programs", "entries"]) fun _ _ _ _ _ _ us hl => match us, hl with | [_, _, _], _ => rfl⟩
  have FCheckPrograms := fun_mk (st := s_check_programs) l31 c31 k31
  have DCheckPrograms : Def K mg "check_programs" s_check_programs f31 _ ["instruction_set", "programs"] := ⟨FCheckPrograms, PySem.W.mg_of X G a31, FCheckPrograms.binds (ps := ["instruction_set", "programs"]) fun _ _ _ _ _ _ us hl => match us, hl with | [_, _], _ => rfl⟩
  have FCheckEntries := fun_mk (st := s_check_entries) l32 c32 k32
  have DCheckEntries : Def K mg "check_entries" s_check_entries f32 _ ["programs", "entries"] := ⟨FCheckEntries, PySem.W.mg_of X G a32, FCheckEntries.binds (ps := ["programs", "entries"]) fun _ _ _ _ _ _ us hl => match us, hl with | [_, _], _ => rfl⟩
  have FDecoderCount := fun_mk (st := s_decoder_count) l33 c33 k33
  have DDecoderCount : Def K mg "decoder_count" s_decoder_count f33 _ ["instruction_set", "program"] := ⟨FDecoderCount, PySem.W.mg_of X G a33, FDecoderCount.binds (ps := ["instruction_set", "program"]) fun _ _ _ _ _ _ us hl => match us, hl with | [_, _], _ => rfl⟩
  have FAreEntries := fun_mk (st := s_are_entries) l34 c34 k34
  have DAreEntries : Def K mg "are_entries" s_are_entries f34 _ ["value"] := ⟨FAreEntries, PySem.W.mg_of X G a34, FAreEntries.binds (ps := ["value"]) fun _ _ _ _ _ _ us hl => match us, hl with | [_], _ => rfl⟩
  have FAs := fun_mk (st := sAscending) l35 c35 k35
  have DAs : Def K mg "is_ascending" sAscending f35 _ ["numbers"] := ⟨FAs, PySem.W.mg_of X G a35, FAs.binds (ps := ["numbers"]) fun _ _ _ _ _ _ us hl => match us, hl with | [_], _ => rfl⟩
  have FLongestRest := fun_mk (st := s_longest_rest) l36 c36 k36
  have DLongestRest : Def K mg "longest_rest" s_longest_rest f36 _ ["instruction_set"] := ⟨FLongestRest, PySem.W.mg_of X G a36, FLongestRest.binds (ps := ["instruction_set"]) fun _ _ _ _ _ _ us hl => match us, hl with | [_], _ => rfl⟩
  have FLFi := fun_mk (st := s_law_fits) l37 c37 k37
  have DLFi : Def K mg "_law_fits" s_law_fits f37 _ ["_law_plan_here", "_law_found"] := ⟨FLFi, PySem.W.mg_of X G a37, FLFi.binds (ps := ["_law_plan_here", "_law_found"]) fun _ _ _ _ _ _ us hl => match us, hl with | [_, _], _ => rfl⟩
  have FLRead := fun_mk (st := s_law_read) l38 c38 k38
  have DLRead : Def K mg "_law_read" s_law_read f38 _ ["_law_table_here", "_law_row", "_law_begin"] := ⟨FLRead, PySem.W.mg_of X G a38, FLRead.binds (ps := ["_law_table_here", "_law_row", "_law_begin"]) fun _ _ _ _ _ _ us hl => match us, hl with | [_, _, _], _ => rfl⟩
  have FLKnown := fun_mk (st := s_law_known) l39 c39 k39
  have DLKnown : Def K mg "_law_known" s_law_known f39 _ ["_law_table_here", "_law_opcode"] := ⟨FLKnown, PySem.W.mg_of X G a39, FLKnown.binds (ps := ["_law_table_here", "_law_opcode"]) fun _ _ _ _ _ _ us hl => match us, hl with | [_, _], _ => rfl⟩
  have FLLengthAt := fun_mk (st := sLLenAt) l40 c40 k40
  have DLLengthAt : Def K mg "_law_length_at" sLLenAt f40 _ ["_law_table_here", "_law_byte"] := ⟨FLLengthAt, PySem.W.mg_of X G a40, FLLengthAt.binds (ps := ["_law_table_here", "_law_byte"]) fun _ _ _ _ _ _ us hl => match us, hl with | [_, _], _ => rfl⟩
  have FOf := fun_mk (st := sOf) l41 c41 k41
  have DOf : Def K mg "_law_of" sOf f41 _ ["_law_box_here", "_law_some"] := ⟨FOf, PySem.W.mg_of X G a41, FOf.binds (ps := ["_law_box_here", "_law_some"]) fun _ _ _ _ _ _ us hl => match us, hl with | [_, _], _ => rfl⟩
  have FAreInstructions := fun_mk (st := sAreInstr) l42 c42 k42
  have DAreInstructions : Def K mg "are_instructions" sAreInstr f42 _ ["byte_count", "value"] := ⟨FAreInstructions, PySem.W.mg_of X G a42, FAreInstructions.binds (ps := ["byte_count", "value"]) fun _ _ _ _ _ _ us hl => match us, hl with | [_, _], _ => rfl⟩
  have FIsInstruction := fun_mk (st := sIsInstr) l43 c43 k43
  have DIsInstruction : Def K mg "is_instruction" sIsInstr f43 _ ["byte_count", "value"] := ⟨FIsInstruction, PySem.W.mg_of X G a43, FIsInstruction.binds (ps := ["byte_count", "value"]) fun _ _ _ _ _ _ us hl => match us, hl with | [_, _], _ => rfl⟩
  have FIsName := fun_mk (st := sIsName) l44 c44 k44
  have DIsName : Def K mg "is_name" sIsName f44 _ ["value"] := ⟨FIsName, PySem.W.mg_of X G a44, FIsName.binds (ps := ["value"]) fun _ _ _ _ _ _ us hl => match us, hl with | [_], _ => rfl⟩
  have FIi := fun_mk (st := sInitI) ml0_0 mc0_0 mk0_0
  have bIi := FIi.binds (ps := ["self", "byte_count", "instructions"]) fun _ _ _ _ _ _ us hl => match us, hl with | [_, _, _], _ => rfl
  have FLa := fun_mk (st := sLenAt) ml0_1 mc0_1 mk0_1
  have bLa := FLa.binds (ps := ["self", "byte"]) fun _ _ _ _ _ _ us hl => match us, hl with | [_, _], _ => rfl
  have FPl := fun_mk (st := sPadLens) ml0_2 mc0_2 mk0_2
  have bPl := FPl.binds (ps := ["self"]) fun _ _ _ _ _ _ us hl => match us, hl with | [_], _ => rfl
  have CKMoststeps : ∃ t, mg "MOST_STEPS" = some (.int 12 t) := ⟨_, PySem.W.mg_of X G cst0⟩
  have CKMoststates : ∃ t, mg "MOST_STATES" = some (.int 5000 t) := ⟨_, PySem.W.mg_of X G cst1⟩
  have CKMostprograms : ∃ t, mg "MOST_PROGRAMS" = some (.int 3 t) := ⟨_, PySem.W.mg_of X G cst2⟩
  have CKGreatestentry : ∃ t, mg "GREATEST_ENTRY" = some (.int 12 t) := ⟨_, PySem.W.mg_of X G cst3⟩
  have CKLeastbytecount : ∃ t, mg "LEAST_BYTE_COUNT" = some (.int 2 t) := ⟨_, PySem.W.mg_of X G cst4⟩
  have CKMostbytecount : ∃ t, mg "MOST_BYTE_COUNT" = some (.int 256 t) := ⟨_, PySem.W.mg_of X G cst5⟩
  have CKMostletters : ∃ t, mg "MOST_LETTERS" = some (.int 8 t) := ⟨_, PySem.W.mg_of X G cst6⟩
  have CKMostlength : ∃ t, mg "MOST_LENGTH" = some (.int 12 t) := ⟨_, PySem.W.mg_of X G cst7⟩

  refine ⟨PySem.W.fnOf "law" "law" (defArgs sLaw) (defBody sLaw) (defScope sLaw) .none kV0 dc0 pm0 an0 cd0 ct0, fun s v => .of_eq rfl, fun base _ _ => ?_⟩
  have S : SetTxt K mg C0 := ⟨⟨pg0, hd0, po0, sa0⟩, na0_0, na0_1, na0_2, na0_3, PySem.W.mg_of X G clA0⟩
  have Gisintegerbetween_spBetween : FnOk P w K mg base CX0 2 _ _ ["value", "least", "most"] (spBetween) := ok_between FBt T DIsInteger
  have Gcheckentry_spCkEK : FnOk P w K mg base CX0 3 _ _ ["code", "entry"] (spCkE K) := ok_ckE FCheckEntry T DBt (up Gisintegerbetween_spBetween (by decide))
  have Gsteplengths_spStepLC : FnOk P w K mg base CX0 4 _ _ ["instruction_set"] (spStepL C0) := ok_stepL FStepLengths S
  have Gisintegerbetween_spBetweenXK : FnOk P w K mg base CX0 2 _ _ ["value", "least", "most"] (spBetweenX K) := ok_betweenX FBt T DIsInteger
  have Gisstep_spStepKC : FnOk P w K mg base CX0 4 _ _ ["instruction_set", "lengths", "value"] (spStep K C0) := ok_step FIsStep T S DBt (up Gisintegerbetween_spBetweenXK (by decide))
  have Gisprogram_spProgKC : FnOk P w K mg base CX0 5 _ _ ["instruction_set", "value"] (spProg K C0) := ok_prog FIsProgram T CKMoststeps DStepLengths (up Gsteplengths_spStepLC (by decide)) DIsStep (up Gisstep_spStepKC (by decide))
  have Gcheckprogram_spCkPKC : FnOk P w K mg base CX0 6 _ _ ["instruction_set", "program"] (spCkP K C0) := ok_ckP FCheckProgram DIsProgram (up Gisprogram_spProgKC (by decide))
  have GInstructionSetlengthat_spLenAtC : FnOk P w K mg base CX0 1 _ _ ["self", "byte"] (spLenAt C0) := ok_lenAt FLa S
  have Gwalk_spWalkKC : FnOk P w K mg base CX0 3 _ _ ["instruction_set", "code", "entry"] (spWalk K C0) := ok_walk FWalk T S ⟨ma0_1, mi0_1, mk0_1⟩ bLa (up GInstructionSetlengthat_spLenAtC (by decide))
  have Greadinstructions_spReadIKC : FnOk P w K mg base CX0 3 _ _ ["instruction_set", "code", "offsets"] (spReadI K C0) := ok_readI FReadInstructions T S ⟨ma0_1, mi0_1, mk0_1⟩ bLa (up GInstructionSetlengthat_spLenAtC (by decide))
  have Gending_spEndingK : FnOk P w K mg base CX0 3 _ _ ["code", "begun", "following"] (spEnding K) := ok_ending FEnding T
  have Gdecode_spDecodeKC : FnOk P w K mg base CX0 4 _ _ ["instruction_set", "code", "entry"] (spDecode K C0) := ok_decode FDecode T DCheckEntry (up Gcheckentry_spCkEK (by decide)) DWalk (up Gwalk_spWalkKC (by decide)) DReadInstructions (up Greadinstructions_spReadIKC (by decide)) DEnding (up Gending_spEndingK (by decide))
  have Gexecuted_spExecKC : FnOk P w K mg base CX0 5 _ _ ["instruction_set", "code", "entry"] (spExec K C0) := ok_exec FExecuted T gDecode FDecode.kp bDecode_1 (up Gdecode_spDecodeKC (by decide)) DStepLengths (up Gsteplengths_spStepLC (by decide))
  have Gismatch_spMatchK : FnOk P w K mg base CX0 1 _ _ ["step", "wanted"] (spMatch K) := ok_match FIsMatch T
  have Gruns_spRunsKC : FnOk P w K mg base CX0 7 _ _ ["instruction_set", "code", "entry", "program"] (spRuns K C0) := ok_runs FRu T DCheckEntry (up Gcheckentry_spCkEK (by decide)) DCheckProgram (up Gcheckprogram_spCkPKC (by decide)) gExecuted FExecuted.kp bExecuted_1 (up Gexecuted_spExecKC (by decide)) DIsMatch (up Gismatch_spMatchK (by decide))
  have Giscode_spIsCodeKC : FnOk P w K mg base CX0 3 _ _ ["instruction_set", "value"] (spIsCode K C0) := ok_isCode FIc T S DBt (up Gisintegerbetween_spBetweenXK (by decide))
  have Gcheckprograms_spCkPsKC : FnOk P w K mg base CX0 7 _ _ ["instruction_set", "programs"] (spCkPs K C0) := ok_ckPs FCheckPrograms T CKMostprograms DCheckProgram (up Gcheckprogram_spCkPKC (by decide))
  have Gisascending_spAscendingK : FnOk P w K mg base CX0 1 _ _ ["numbers"] (spAscending K) := ok_ascending FAs T
  have Gareentries_spAreEK : FnOk P w K mg base CX0 3 _ _ ["value"] (spAreE K) := ok_areE FAreEntries T CKGreatestentry DBt (up Gisintegerbetween_spBetween (by decide)) DAs (up Gisascending_spAscendingK (by decide))
  have Gcheckentries_spCkEsK : FnOk P w K mg base CX0 4 _ _ ["programs", "entries"] (spCkEs K) := ok_ckEs FCheckEntries T DAreEntries (up Gareentries_spAreEK (by decide))
  have GInstructionSetpaddinglengths_spPadLensC : FnOk P w K mg base CX0 1 _ _ ["self"] (spPadLens C0) := ok_padLens FPl T S
  have Glongestrest_spLRestC : FnOk P w K mg base CX0 2 _ _ ["instruction_set"] (spLRest C0) := ok_lrest FLongestRest T S ⟨ma0_2, mi0_2, mk0_2⟩ bPl (up GInstructionSetpaddinglengths_spPadLensC (by decide))
  have Gdecodercount_spDcntKC : FnOk P w K mg base CX0 3 _ _ ["instruction_set", "program"] (spDcnt K C0) := ok_dcnt FDecoderCount T DLongestRest (up Glongestrest_spLRestC (by decide))
  have Gstatecount_spStcKC : FnOk P w K mg base CX0 8 _ _ ["instruction_set", "programs", "entries"] (spStc K C0) := ok_stc FStateCount T DCheckPrograms (up Gcheckprograms_spCkPsKC (by decide)) DCheckEntries (up Gcheckentries_spCkEsK (by decide)) DDecoderCount (up Gdecodercount_spDcntKC (by decide))
  have Gcheckoverlay_spCkOKC : FnOk P w K mg base CX0 9 _ _ ["instruction_set", "programs", "entries"] (spCkO K C0) := ok_ckO FCkO CKMoststates DStateCount (up Gstatecount_spStcKC (by decide))
  have Gisoverlay_spIsOvKC : FnOk P w K mg base CX0 10 _ _ ["instruction_set", "programs", "entries", "value"] (spIsOv K C0) := ok_isOv FIsOverlay T DRu (up Gruns_spRunsKC (by decide)) DIc (up Giscode_spIsCodeKC (by decide)) DCkO (up Gcheckoverlay_spCkOKC (by decide))
  have Glawfits_spFitsK : FnOk P w K mg base CX0 1 _ _ ["_law_plan_here", "_law_found"] (spFits K) := ok_fits FLFi T
  have Glawlengthat_spLLenAt : FnOk P w K mg base CX0 1 _ _ ["_law_table_here", "_law_byte"] (spLLenAt) := ok_llenAt FLLengthAt
  have Glawread_spReadK : FnOk P w K mg base CX0 2 _ _ ["_law_table_here", "_law_row", "_law_begin"] (spRead K) := ok_read FLRead T DLLengthAt (up Glawlengthat_spLLenAt (by decide))
  have Glawknown_spKnownK : FnOk P w K mg base CX0 2 _ _ ["_law_table_here", "_law_opcode"] (spKnown K) := ok_known FLKnown
  have Glawsteps_spStepsK : FnOk P w K mg base CX0 3 _ _ ["_law_table_here", "_law_row", "_law_begin"] (spSteps K) := ok_steps FLSp T DLRead (up Glawread_spReadK (by decide)) DLKnown (up Glawknown_spKnownK (by decide))
  have Glawisover_spIsOverK : FnOk P w K mg base CX0 4 _ _ ["_law_table_here", "_law_plans", "_law_gates_here", "_law_row"] (spIsOver K) := ok_isOver FLIsOver T DLFi (up Glawfits_spFitsK (by decide)) DLSp (up Glawsteps_spStepsK (by decide))
  have Glawisrow_spIsRowK : FnOk P w K mg base CX0 1 _ _ ["_law_table_here", "_law_item"] (spIsRow K) := ok_isRow FLIsRow T
  have Glawtake_spTake : FnOk P w K mg base CX0 1 _ _ ["_law_box_here", "_law_many"] (spTake) := ok_take FTk
  have Glawof_spOf : FnOk P w K mg base CX0 2 _ _ ["_law_box_here", "_law_some"] (spOf) := ok_of FOf T DTk
  have Glawnear_spNearBK : FnOk P w K mg base CX0 3 _ _ ["_law_box_here", "_law_table_here", "_law_row"] (spNearB K) := ok_near FLNear T DOf (up Glawof_spOf (by decide)) DTk (up Glawtake_spTake (by decide))
  have Glawstates_spStatesK : FnOk P w K mg base CX0 1 _ _ ["_law_table_here", "_law_plans", "_law_gates_here"] (spStates K) := ok_states FLStates T
  have Glawplan_spPlan : FnOk P w K mg base CX0 3 _ _ ["_law_box_here", "_law_table_here", "_law_most"] (spPlan) := ok_plan FLPn T DOf (up Glawof_spOf (by decide)) DTk (up Glawtake_spTake (by decide))
  have Glawopen_spOpenK : FnOk P w K mg base CX0 2 _ _ ["_law_box_here", "_law_found"] (spOpen K) := ok_open FLOp T DTk (up Glawtake_spTake (by decide))
  have Glawbytes_spBytes : FnOk P w K mg base CX0 3 _ _ ["_law_box_here", "_law_table_here", "_law_many"] (spBytes) := ok_bytes FBy T DOf (up Glawof_spOf (by decide)) DTk (up Glawtake_spTake (by decide))
  have Glawgates_spGates : FnOk P w K mg base CX0 2 _ _ ["_law_box_here", "_law_many", "_law_most"] (spGates) := ok_gates FLGates T DTk (up Glawtake_spTake (by decide))
  have Gisinstruction_spInstr : FnOk P w K mg base CX0 3 _ _ ["byte_count", "value"] (spInstr) := ok_instr FIsInstruction T DBt (up Gisintegerbetween_spBetween (by decide)) DIsName CKMostletters CKMostlength
  have Gareinstructions_spAreI : FnOk P w K mg base CX0 4 _ _ ["byte_count", "value"] (spAreI) := ok_areI FAreInstructions T DIsInstruction (up Gisinstruction_spInstr (by decide)) DAs (ok_ascL FAs T)
  have GInstructionSetinit_spInitIC : FnOk P w K mg base CX0 5 _ _ ["self", "byte_count", "instructions"] (spInitI C0) := ok_initI FIi T S DBt (up Gisintegerbetween_spBetween (by decide)) DAreInstructions (up Gareinstructions_spAreI (by decide)) CKLeastbytecount CKMostbytecount
  have Glawtable_spTable : FnOk P w K mg base CX0 5 _ _ ["_law_box_here", "_law_most_bytes", "_law_longest"] (spTable) := ok_table FTb T DOf DTk
  have Glawbox_spBoxK : FnOk P w K mg base CX0 1 _ _ ["_law_script", "_law_k"] (spBox K) := ok_box FBo T
  have KWIsOverlay47 : KBinds K (PySem.W.fnOf "is_overlay" "is_overlay" (defArgs s_is_overlay) (defBody s_is_overlay) (defScope s_is_overlay) .none kV1 dc1 pm1 an1 cd1 ct1) ["instruction_set", "programs", "entries", "value"] ["value", "entries", "programs", "instruction_set"] rev4 rev4 := ⟨fun s us ws _ hl => by
      obtain ⟨x, y, z, v, rfl, rfl⟩ := rev4_len hl
      exact .of_eq rfl, rev4_rel⟩
  exact ok_law (k := 9) FLaw T S DIsOverlay (up Gisoverlay_spIsOvKC (by decide)) KWIsOverlay47 DLIsOver (up Glawisover_spIsOverK (by decide)) DLIsRow (up Glawisrow_spIsRowK (by decide)) DTk (up Glawtake_spTake (by decide)) DLNear (up Glawnear_spNearBK (by decide)) DLStates (up Glawstates_spStatesK (by decide)) DLPn (up Glawplan_spPlan (by decide)) DLOp (up Glawopen_spOpenK (by decide)) DLSp (up Glawsteps_spStepsK (by decide)) DBy (up Glawbytes_spBytes (by decide)) DLGates (up Glawgates_spGates (by decide)) ⟨mks0, ma0_0, mi0_0, kc0⟩ bIi (up GInstructionSetinit_spInitIC (by decide)) DTb (up Glawtable_spTable (by decide)) DBo (up Glawbox_spBoxK (by decide))
end Ov
open PySem PySem.W PyProof.Rows
set_option maxRecDepth 100000 in
set_option maxHeartbeats 0 in
theorem PySem.Challenge.cw_overlapcode_k47_overlays_of_any_values_holds : PySem.Challenge.rw_overlapcode_k47_overlays_of_any_values.Holds := by
  w_on; o_law; k_head; (case hw => w_witness2)
  k_fill
  refine Ov.walkG (l := PySem.Challenge.rw_overlapcode_k47_overlays_of_any_values) (n := 63) (k := 11) (x := "_law_script") (sp := fun K => Ov.spLaw K) rfl (by decide) rfl ⟨rfl, by decide, by decide⟩ (fun w h Y => PySem.W.kIn_of Y) ?F (fun _ _ a ns hl hS => ⟨a, ns, rfl, hS, hl, fun _ => rfl⟩)
  case F =>
    intro w mg fa h KX G hmg
    refine' Ov.all_mk KX G hmg ?a0 ?l0 ?c0 ?k0 ?a1 ?l1 ?c1 ?k1 ?a2 ?l2 ?c2 ?k2 ?a3 ?l3 ?c3 ?k3 ?a4 ?l4 ?c4 ?k4 ?a5 ?l5 ?c5 ?k5 ?a6 ?l6 ?c6 ?k6 ?a7 ?l7 ?c7 ?k7 ?a8 ?l8 ?c8 ?k8 ?a9 ?l9 ?c9 ?k9 ?a10 ?l10 ?c10 ?k10 ?a11 ?l11 ?c11 ?k11 ?a12 ?l12 ?c12 ?k12 ?a13 ?l13 ?c13 ?k13 ?a14 ?l14 ?c14 ?k14 ?a15 ?l15 ?c15 ?k15 ?a16 ?l16 ?c16 ?k16 ?a17 ?l17 ?c17 ?k17 ?a18 ?l18 ?c18 ?k18 ?a19 ?l19 ?c19 ?k19 ?ld19 ?a20 ?l20 ?c20 ?k20 ?a21 ?l21 ?c21 ?k21 ?a22 ?l22 ?c22 ?k22 ?a23 ?l23 ?c23 ?k23 ?a24 ?l24 ?c24 ?k24 ?a25 ?l25 ?c25 ?k25 ?a26 ?l26 ?c26 ?k26 ?ld26 ?a27 ?l27 ?c27 ?k27 ?a28 ?l28 ?c28 ?k28 ?a29 ?l29 ?c29 ?k29 ?a30 ?l30 ?c30 ?k30 ?a31 ?l31 ?c31 ?k31 ?a32 ?l32 ?c32 ?k32 ?a33 ?l33 ?c33 ?k33 ?a34 ?l34 ?c34 ?k34 ?a35 ?l35 ?c35 ?k35 ?a36 ?l36 ?c36 ?k36 ?a37 ?l37 ?c37 ?k37 ?a38 ?l38 ?c38 ?k38 ?a39 ?l39 ?c39 ?k39 ?a40 ?l40 ?c40 ?k40 ?a41 ?l41 ?c41 ?k41 ?a42 ?l42 ?c42 ?k42 ?a43 ?l43 ?c43 ?k43 ?a44 ?l44 ?c44 ?k44 ?clA0 ?ma0_0 ?mi0_0 ?ml0_0 ?mc0_0 ?mk0_0 ?ma0_1 ?mi0_1 ?ml0_1 ?mc0_1 ?mk0_1 ?ma0_2 ?mi0_2 ?ml0_2 ?mc0_2 ?mk0_2 ?pg0 ?hd0 ?po0 ?sa0 ?mks0 ?kc0 ?na0_0 ?na0_1 ?na0_2 ?na0_3 ?cst0 ?cst1 ?cst2 ?cst3 ?cst4 ?cst5 ?cst6 ?cst7 ?bz0 ?bz1 ?bz2 ?bz3 ?bz4 ?bz5 ?bz6 ?bz7 ?bz8 ?bz9 ?bz10 ?bz11 ?bz12 ?bz13 ?bz14 ?bz15 ?bz16 ?bz17 ?bz18 ?bz19 ?bz20
    (case a0 => k_is)
    (case l0 => k_is)
    (case c0 => k_is)
    (case k0 => k_is)
    (case a1 => k_is)
    (case l1 => k_is)
    (case c1 => k_is)
    (case k1 => k_is)
    (case a2 => k_is)
    (case l2 => k_is)
    (case c2 => k_is)
    (case k2 => k_is)
    (case a3 => k_is)
    (case l3 => k_is)
    (case c3 => k_is)
    (case k3 => k_is)
    (case a4 => k_is)
    (case l4 => k_is)
    (case c4 => k_is)
    (case k4 => k_is)
    (case a5 => k_is)
    (case l5 => k_is)
    (case c5 => k_is)
    (case k5 => k_is)
    (case a6 => k_is)
    (case l6 => k_is)
    (case c6 => k_is)
    (case k6 => k_is)
    (case a7 => k_is)
    (case l7 => k_is)
    (case c7 => k_is)
    (case k7 => k_is)
    (case a8 => k_is)
    (case l8 => k_is)
    (case c8 => k_is)
    (case k8 => k_is)
    (case a9 => k_is)
    (case l9 => k_is)
    (case c9 => k_is)
    (case k9 => k_is)
    (case a10 => k_is)
    (case l10 => k_is)
    (case c10 => k_is)
    (case k10 => k_is)
    (case a11 => k_is)
    (case l11 => k_is)
    (case c11 => k_is)
    (case k11 => k_is)
    (case a12 => k_is)
    (case l12 => k_is)
    (case c12 => k_is)
    (case k12 => k_is)
    (case a13 => k_is)
    (case l13 => k_is)
    (case c13 => k_is)
    (case k13 => k_is)
    (case a14 => k_is)
    (case l14 => k_is)
    (case c14 => k_is)
    (case k14 => k_is)
    (case a15 => k_is)
    (case l15 => k_is)
    (case c15 => k_is)
    (case k15 => k_is)
    (case a16 => k_is)
    (case l16 => k_is)
    (case c16 => k_is)
    (case k16 => k_is)
    (case a17 => k_is)
    (case l17 => k_is)
    (case c17 => k_is)
    (case k17 => k_is)
    (case a18 => k_is)
    (case l18 => k_is)
    (case c18 => k_is)
    (case k18 => k_is)
    (case a19 => k_is)
    (case l19 => k_is)
    (case c19 => k_is)
    (case k19 => k_is)
    (case ld19 => k_is)
    (case a20 => k_is)
    (case l20 => k_is)
    (case c20 => k_is)
    (case k20 => k_is)
    (case a21 => k_is)
    (case l21 => k_is)
    (case c21 => k_is)
    (case k21 => k_is)
    (case a22 => k_is)
    (case l22 => k_is)
    (case c22 => k_is)
    (case k22 => k_is)
    (case a23 => k_is)
    (case l23 => k_is)
    (case c23 => k_is)
    (case k23 => k_is)
    (case a24 => k_is)
    (case l24 => k_is)
    (case c24 => k_is)
    (case k24 => k_is)
    (case a25 => k_is)
    (case l25 => k_is)
    (case c25 => k_is)
    (case k25 => k_is)
    (case a26 => k_is)
    (case l26 => k_is)
    (case c26 => k_is)
    (case k26 => k_is)
    (case ld26 => k_is)
    (case a27 => k_is)
    (case l27 => k_is)
    (case c27 => k_is)
    (case k27 => k_is)
    (case a28 => k_is)
    (case l28 => k_is)
    (case c28 => k_is)
    (case k28 => k_is)
    (case a29 => k_is)
    (case l29 => k_is)
    (case c29 => k_is)
    (case k29 => k_is)
    (case a30 => k_is)
    (case l30 => k_is)
    (case c30 => k_is)
    (case k30 => k_is)
    (case a31 => k_is)
    (case l31 => k_is)
    (case c31 => k_is)
    (case k31 => k_is)
    (case a32 => k_is)
    (case l32 => k_is)
    (case c32 => k_is)
    (case k32 => k_is)
    (case a33 => k_is)
    (case l33 => k_is)
    (case c33 => k_is)
    (case k33 => k_is)
    (case a34 => k_is)
    (case l34 => k_is)
    (case c34 => k_is)
    (case k34 => k_is)
    (case a35 => k_is)
    (case l35 => k_is)
    (case c35 => k_is)
    (case k35 => k_is)
    (case a36 => k_is)
    (case l36 => k_is)
    (case c36 => k_is)
    (case k36 => k_is)
    (case a37 => k_is)
    (case l37 => k_is)
    (case c37 => k_is)
    (case k37 => k_is)
    (case a38 => k_is)
    (case l38 => k_is)
    (case c38 => k_is)
    (case k38 => k_is)
    (case a39 => k_is)
    (case l39 => k_is)
    (case c39 => k_is)
    (case k39 => k_is)
    (case a40 => k_is)
    (case l40 => k_is)
    (case c40 => k_is)
    (case k40 => k_is)
    (case a41 => k_is)
    (case l41 => k_is)
    (case c41 => k_is)
    (case k41 => k_is)
    (case a42 => k_is)
    (case l42 => k_is)
    (case c42 => k_is)
    (case k42 => k_is)
    (case a43 => k_is)
    (case l43 => k_is)
    (case c43 => k_is)
    (case k43 => k_is)
    (case a44 => k_is)
    (case l44 => k_is)
    (case c44 => k_is)
    (case k44 => k_is)
    (case clA0 => k_is)
    (case ma0_0 => k_is)
    (case mi0_0 => k_is)
    (case ml0_0 => k_is)
    (case mc0_0 => k_is)
    (case mk0_0 => k_is)
    (case ma0_1 => k_is)
    (case mi0_1 => k_is)
    (case ml0_1 => k_is)
    (case mc0_1 => k_is)
    (case mk0_1 => k_is)
    (case ma0_2 => k_is)
    (case mi0_2 => k_is)
    (case ml0_2 => k_is)
    (case mc0_2 => k_is)
    (case mk0_2 => k_is)
    (case pg0 => k_is)
    (case hd0 => k_is)
    (case po0 => k_is)
    (case sa0 => k_is)
    (case mks0 => k_is)
    (case kc0 => k_is)
    (case na0_0 => k_is)
    (case na0_1 => k_is)
    (case na0_2 => k_is)
    (case na0_3 => k_is)
    (case cst0 => k_is)
    (case cst1 => k_is)
    (case cst2 => k_is)
    (case cst3 => k_is)
    (case cst4 => k_is)
    (case cst5 => k_is)
    (case cst6 => k_is)
    (case cst7 => k_is)
    (case bz0 => k_is)
    (case bz1 => k_is)
    (case bz2 => k_is)
    (case bz3 => k_is)
    (case bz4 => k_is)
    (case bz5 => k_is)
    (case bz6 => k_is)
    (case bz7 => k_is)
    (case bz8 => k_is)
    (case bz9 => k_is)
    (case bz10 => k_is)
    (case bz11 => k_is)
    (case bz12 => k_is)
    (case bz13 => k_is)
    (case bz14 => k_is)
    (case bz15 => k_is)
    (case bz16 => k_is)
    (case bz17 => k_is)
    (case bz18 => k_is)
    (case bz19 => k_is)
    (case bz20 => k_is)
