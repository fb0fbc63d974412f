import PyProof.Rows.All
import Wide.All
import OpenK.AllK
import Wide.FinOn
import HandS.ForMost
import HandS.IsInst
import HandS.Zip
import HandS.TupAny
import HandS.Wide
import HandS.More
import HandS.Walk
import HandS.RaiseMore
import HandS.Flow
import HandS.Conv
import HandS.MakeKwOnly
import KE.DataMinMax
import HandS.Small
import HandS.Text
import HandS.Strs
import HandS.Codes
import HandS.ExcInit
import HandS.ExcField
import HandS.ExcIs
import HandS.ExcOwn
import HandS.ExcValue
import KE.KExcIs
import HandS.DictComp
import HandS.TupMul
import PyProof.AutoSeq1
import HandS.SetBool
import HandS.SetFor
import KE.GoesMore
import HandS.TryOnly
import HandS.CallSlots
import HandS.TupLe
import HandS.Defaults
import HandS.Dict
import HandS.SortInts
import HandS.WordsExc
import PySem.Challenge.RW_overlapcode_k82_whole_edit_histories_bes
set_option Elab.async false
set_option linter.all false
set_option maxRecDepth 100000
set_option maxHeartbeats 4000000
/-! Sums of lengths: the mathematics -/
namespace Ov
/-- a sum of the lengths -/
inductive Sum (ls : List Nat) : Nat → Prop
  | zero : Sum ls 0
  | add {l s : Nat} : l ∈ ls → Sum ls s → Sum ls (s + l)

theorem Sum.mono {ls ks : List Nat} (h : ∀ l ∈ ls, l ∈ ks) {s : Nat} (a : Sum ls s) : Sum ks s := by
  induction a with
  | zero => exact .zero
  | add hl _ ih => exact .add (h _ hl) ih

theorem Sum.plus {ls : List Nat} {s t : Nat} (a : Sum ls s) (b : Sum ls t) : Sum ls (s + t) := by
  induction b with
  | zero => exact a
  | add hl _ ih => rw [← Nat.add_assoc]; exact .add hl ih

theorem Sum.times {ls : List Nat} {l : Nat} (h : l ∈ ls) : ∀ (j : Nat), Sum ls (j * l)
  | 0 => by rw [Nat.zero_mul]; exact .zero
  | j + 1 => by rw [Nat.succ_mul]; exact .add h (Sum.times h j)

theorem Sum.step {ls : List Nat} {w : Nat} : Sum ls w ↔ w = 0 ∨ ∃ l ∈ ls, l ≤ w ∧ Sum ls (w - l) := by
  constructor
  · intro a
    cases a with
    | zero => exact .inl rfl
    | @add l s hl hs => exact .inr ⟨l, hl, Nat.le_add_left _ _, by rw [Nat.add_sub_cancel]; exact hs⟩
  · rintro (rfl | ⟨l, hl, hw, hs⟩)
    · exact .zero
    · have := Sum.add hl hs
      rwa [Nat.sub_add_cancel hw] at this

/-- one more length: a sum of the others and so many of it -/
theorem Sum.snoc {ls : List Nat} {L s : Nat} : Sum (ls ++ [L]) s ↔ ∃ j t, Sum ls t ∧ s = t + j * L := by
  constructor
  · intro a
    induction a with
    | zero => exact ⟨0, 0, .zero, by simp⟩
    | @add l s hl _ ih =>
      obtain ⟨j, t, ht, rfl⟩ := ih
      rcases List.mem_append.mp hl with h | h
      · exact ⟨j, t + l, .add h ht, by omega⟩
      · have : l = L := by simpa using h
        subst this
        exact ⟨j + 1, t, ht, by rw [Nat.succ_mul]; omega⟩
  · rintro ⟨j, t, ht, rfl⟩
    exact (ht.mono fun l h => List.mem_append_left _ h).plus (Sum.times (List.mem_append_right _ (List.mem_singleton.mpr rfl)) j)

theorem Sum.single {m s : Nat} : Sum [m] s ↔ ∃ j, s = j * m := by
  have := @Sum.snoc [] m s
  rw [List.nil_append] at this
  rw [this]
  constructor
  · rintro ⟨j, t, ht, rfl⟩
    have : t = 0 := by
      cases ht with
      | zero => rfl
      | add h _ => cases h
    exact ⟨j, by omega⟩
  · rintro ⟨j, rfl⟩
    exact ⟨j, 0, .zero, by omega⟩

/-! ### least sums by remainder -/
/-- a is at most b, where none is above all -/
def leO (a b : Option Nat) : Prop := ∀ y, b = some y → ∃ x, a = some x ∧ x ≤ y
theorem leO.rfl {a : Option Nat} : leO a a := fun y h => ⟨y, h, Nat.le_refl _⟩
theorem leO.trans {a b c : Option Nat} (h : leO a b) (k : leO b c) : leO a c := fun z hz => by
  obtain ⟨y, hy, hyz⟩ := k z hz
  obtain ⟨x, hx, hxy⟩ := h y hy
  exact ⟨x, hx, Nat.le_trans hxy hyz⟩
def leL (a b : List (Option Nat)) : Prop := a.length = b.length ∧ ∀ r, leO (a.getD r none) (b.getD r none)
theorem leL.rfl {a : List (Option Nat)} : leL a a := ⟨_root_.rfl, fun _ => leO.rfl⟩
theorem leL.trans {a b c : List (Option Nat)} (h : leL a b) (k : leL b c) : leL a c := ⟨h.1.trans k.1, fun r => (h.2 r).trans (k.2 r)⟩

/-- one step of the walk: what is reached at r, and the length, at the remainder that follows -/
def relax (L r f : Nat) (a : List (Option Nat)) : List (Option Nat) :=
  match a.getD r none with
  | none => a
  | some x => match a.getD f none with
    | none => a.set f (some (x + L))
    | some y => if x + L < y then a.set f (some (x + L)) else a

theorem getD_set {α : Type} (a : List α) (f r : Nat) (v d : α) : (a.set f v).getD r d = if f = r ∧ r < a.length then v else a.getD r d := by
  simp only [List.getD_eq_getElem?_getD, List.getElem?_set]
  by_cases h : f = r
  · subst h
    by_cases h2 : f < a.length
    · simp [h2]
    · simp [h2, List.getElem?_eq_none (Nat.le_of_not_lt h2)]
  · simp [h]

theorem relax_len (L r f : Nat) (a : List (Option Nat)) : (relax L r f a).length = a.length := by
  unfold relax
  split
  · rfl
  · split
    · simp
    · split <;> simp

theorem relax_le (L r f : Nat) (a : List (Option Nat)) : leL (relax L r f a) a := by
  refine ⟨relax_len .., fun q => ?_⟩
  unfold relax
  split
  · exact leO.rfl
  · rename_i x _
    split
    · rename_i hf
      rw [getD_set]
      by_cases c : f = q ∧ q < a.length
      · rw [if_pos c, ← c.1, hf]
        intro y h; cases h
      · rw [if_neg c]; exact leO.rfl
    · rename_i y hf
      split
      · rename_i hlt
        rw [getD_set]
        by_cases c : f = q ∧ q < a.length
        · rw [if_pos c, ← c.1, hf]
          intro z h
          cases h
          exact ⟨_, rfl, Nat.le_of_lt hlt⟩
        · rw [if_neg c]; exact leO.rfl
      · exact leO.rfl

theorem relax_at (L r f : Nat) (a : List (Option Nat)) (hf : f < a.length) : leO ((relax L r f a).getD f none) ((a.getD r none).map (· + L)) := by
  unfold relax
  split
  · rename_i h
    rw [h]
    intro y h; cases h
  · rename_i x h
    rw [h]
    split
    · rw [getD_set, if_pos ⟨rfl, hf⟩]
      exact leO.rfl
    · rename_i y hy
      split
      · rw [getD_set, if_pos ⟨rfl, hf⟩]
        exact leO.rfl
      · rename_i hn
        rw [hy]
        intro z hz
        have : x + L = z := Option.some.inj hz
        exact ⟨y, rfl, by omega⟩

/-- every entry is of S and has its remainder -/
def Sound (S : Nat → Prop) (m : Nat) (a : List (Option Nat)) : Prop := ∀ r x, a.getD r none = some x → S x ∧ x % m = r

theorem relax_sound {S : Nat → Prop} {m L r : Nat} {a : List (Option Nat)} (hS : ∀ x, S x → S (x + L)) (h : Sound S m a) : Sound S m (relax L r ((r + L) % m) a) := by
  have key : ∀ x, a.getD r none = some x → S (x + L) ∧ (x + L) % m = (r + L) % m := fun x hx => by
    obtain ⟨h1, h2⟩ := h r x hx
    refine ⟨hS x h1, ?_⟩
    rw [← h2, Nat.add_mod (x % m), Nat.mod_mod, ← Nat.add_mod]
  intro q z hz
  unfold relax at hz
  split at hz
  · exact h q z hz
  · rename_i x hx
    obtain ⟨k1, k2⟩ := key x hx
    split at hz
    · rw [getD_set] at hz
      by_cases c : (r + L) % m = q ∧ q < a.length
      · rw [if_pos c] at hz
        cases hz
        exact ⟨k1, k2.trans c.1⟩
      · rw [if_neg c] at hz; exact h q z hz
    · split at hz
      · rw [getD_set] at hz
        by_cases c : (r + L) % m = q ∧ q < a.length
        · rw [if_pos c] at hz
          cases hz
          exact ⟨k1, k2.trans c.1⟩
        · rw [if_neg c] at hz; exact h q z hz
      · exact h q z hz

/-- so many steps from r on: the list, and where the walk stands -/
def steps (L m : Nat) : Nat → Nat → List (Option Nat) → List (Option Nat) × Nat
  | 0, r, a => (a, r)
  | t + 1, r, a => let q := steps L m t r a; (relax L q.2 ((q.2 + L) % m) q.1, (q.2 + L) % m)

theorem steps_at (L m : Nat) (r : Nat) (a : List (Option Nat)) (hr : r < m) : ∀ t, (steps L m t r a).2 = (r + t * L) % m
  | 0 => by simp [steps, Nat.mod_eq_of_lt hr]
  | t + 1 => by
    show ((steps L m t r a).2 + L) % m = _
    rw [steps_at L m r a hr t, Nat.add_mod ((r + t * L) % m), Nat.mod_mod, ← Nat.add_mod, Nat.succ_mul, Nat.add_assoc]

theorem steps_le (L m : Nat) (r : Nat) (a : List (Option Nat)) : ∀ t, leL (steps L m t r a).1 a
  | 0 => leL.rfl
  | t + 1 => (relax_le ..).trans (steps_le L m r a t)

theorem steps_le' (L m : Nat) (r : Nat) (a : List (Option Nat)) (t : Nat) : ∀ d, leL (steps L m (t + d) r a).1 (steps L m t r a).1
  | 0 => leL.rfl
  | d + 1 => (relax_le ..).trans (steps_le' L m r a t d)

theorem steps_sound {S : Nat → Prop} {m L : Nat} {r : Nat} {a : List (Option Nat)} (hS : ∀ x, S x → S (x + L)) (h : Sound S m a) : ∀ t, Sound S m (steps L m t r a).1
  | 0 => h
  | t + 1 => relax_sound hS (steps_sound hS h t)

/-- what stands at the p-th place goes j steps on -/
theorem steps_far {L m : Nat} {r : Nat} {a : List (Option Nat)} (hm : 0 < m) (hl : a.length = m) (hr : r < m) (p : Nat) {y : Nat} (hy : a.getD ((r + p * L) % m) none = some y) :
    ∀ j, ∃ x, ((steps L m (p + j) r a).1).getD ((r + (p + j) * L) % m) none = some x ∧ x ≤ y + j * L
  | 0 => by
    obtain ⟨x, hx, hxy⟩ := (steps_le L m r a p).2 _ y hy
    exact ⟨x, hx, by omega⟩
  | j + 1 => by
    obtain ⟨x, hx, hxy⟩ := steps_far hm hl hr p hy j
    have hp := steps_at L m r a hr (p + j)
    have hlen : (steps L m (p + j) r a).1.length = m := (steps_le L m r a (p + j)).1.trans hl
    have e : (r + (p + (j + 1)) * L) % m = ((steps L m (p + j) r a).2 + L) % m := by
      rw [hp, Nat.add_mod ((r + (p + j) * L) % m), Nat.mod_mod, ← Nat.add_mod, ← Nat.add_assoc p j 1, Nat.succ_mul, Nat.add_assoc]
    rw [e]
    show ∃ x', (relax L (steps L m (p + j) r a).2 (((steps L m (p + j) r a).2 + L) % m) (steps L m (p + j) r a).1).getD _ none = some x' ∧ _
    have := relax_at L (steps L m (p + j) r a).2 (((steps L m (p + j) r a).2 + L) % m) (steps L m (p + j) r a).1 (by rw [hlen]; exact Nat.mod_lt _ hm)
    obtain ⟨x', hx', h2⟩ := this (x + L) (by rw [hp, hx]; rfl)
    exact ⟨x', hx', by rw [Nat.succ_mul]; omega⟩

/-! ### Bezout -/
theorem bezout (a b : Nat) : ∃ x y : Int, x * a + y * b = (Nat.gcd a b : Int) := by
  induction a, b using Nat.gcd.induction with
  | H0 n => exact ⟨0, 1, by simp⟩
  | H1 m n hm ih =>
    obtain ⟨x, y, h⟩ := ih
    refine ⟨y - x * ((n / m : Nat) : Int), x, ?_⟩
    rw [Nat.gcd_rec m n, ← h]
    have e : (n : Int) = (m : Int) * ((n / m : Nat) : Int) + ((n % m : Nat) : Int) := by
      have := Nat.div_add_mod n m
      exact_mod_cast this.symm
    conv => lhs; rw [e]
    rw [Int.sub_mul, Int.mul_add, Int.mul_assoc x, Int.mul_comm (m : Int) ((n / m : Nat) : Int)]
    omega

theorem bezout_mod (m L : Nat) (hm : 0 < m) : ∃ u : Nat, (u * L) % m = Nat.gcd m L % m := by
  obtain ⟨x, y, h⟩ := bezout m L
  refine ⟨(y % m).toNat, ?_⟩
  have hm' : (m : Int) ≠ 0 := by omega
  have hy : 0 ≤ y % (m : Int) := Int.emod_nonneg _ hm'
  have e : ((((y % (m : Int)).toNat * L : Nat) : Int)) % (m : Int) = ((Nat.gcd m L : Nat) : Int) % (m : Int) := by
    rw [Int.natCast_mul, Int.toNat_of_nonneg hy, ← h, Int.mul_emod, Int.emod_emod_of_dvd _ (Int.dvd_refl _), ← Int.mul_emod, Int.add_comm, Int.add_mul_emod_self_right]
  exact_mod_cast e

/-- from the class of r the walk comes by r -/
theorem comes_by (m L r : Nat) (hm : 0 < m) (hr : r < m) : ∃ p, p < m / Nat.gcd m L ∧ (r % Nat.gcd m L + p * L) % m = r := by
  obtain ⟨u, hu⟩ := bezout_mod m L hm
  have hg : 0 < Nat.gcd m L := Nat.gcd_pos_of_pos_left _ hm
  obtain ⟨c, hc⟩ := Nat.gcd_dvd_left m L
  obtain ⟨k, hk⟩ := Nat.gcd_dvd_right m L
  generalize hgg : Nat.gcd m L = g at *
  have hcd : m / g = c := by rw [hc]; exact Nat.mul_div_cancel_left _ hg
  have hcpos : 0 < c := by
    rcases Nat.eq_zero_or_pos c with h | h
    · rw [h] at hc; omega
    · exact h
  refine ⟨(u * (r / g)) % c, by rw [hcd]; exact Nat.mod_lt _ hcpos, ?_⟩
  -- ((u (r/g)) % c) L ≡ u (r/g) L
  have e1 : ((u * (r / g)) % c * L) % m = (u * (r / g) * L) % m := by
    have d := Nat.div_add_mod (u * (r / g)) c
    have : u * (r / g) * L = (u * (r / g)) % c * L + m * ((u * (r / g)) / c * k) := by
      calc u * (r / g) * L = (c * (u * (r / g) / c) + u * (r / g) % c) * L := by rw [d]
        _ = (u * (r / g)) % c * L + c * (u * (r / g) / c) * L := by rw [Nat.add_mul, Nat.add_comm]
        _ = (u * (r / g)) % c * L + m * ((u * (r / g)) / c * k) := by
          congr 1
          conv => lhs; rw [hk]
          conv => rhs; rw [hc]
          simp only [Nat.mul_comm, Nat.mul_left_comm]
    rw [this, Nat.add_mul_mod_self_left]
  have e2 : (u * (r / g) * L) % m = (g * (r / g)) % m := by
    rw [Nat.mul_right_comm, Nat.mul_mod, hu, ← Nat.mul_mod]
  rw [Nat.add_mod, e1, e2, ← Nat.add_mod, Nat.mod_add_div, Nat.mod_eq_of_lt hr]
end Ov
namespace Ov
/-- the walks from the first k places, one behind another -/
def walks (L m T : Nat) : Nat → List (Option Nat) → List (Option Nat)
  | 0, a => a
  | k + 1, a => (steps L m T k (walks L m T k a)).1
def withLen (L : Nat) (a : List (Option Nat)) : List (Option Nat) :=
  walks L a.length (2 * (a.length / Nat.gcd a.length L)) (Nat.gcd a.length L) a

theorem walks_le (L m T : Nat) (a : List (Option Nat)) : ∀ k, leL (walks L m T k a) a
  | 0 => leL.rfl
  | k + 1 => (steps_le ..).trans (walks_le L m T a k)
theorem walks_le' (L m T : Nat) (a : List (Option Nat)) (k : Nat) : ∀ d, leL (walks L m T (k + d) a) (walks L m T k a)
  | 0 => leL.rfl
  | d + 1 => (steps_le ..).trans (walks_le' L m T a k d)
theorem walks_sound {S : Nat → Prop} {m L T : Nat} {a : List (Option Nat)} (hS : ∀ x, S x → S (x + L)) (h : Sound S m a) : ∀ k, Sound S m (walks L m T k a)
  | 0 => h
  | k + 1 => steps_sound hS (walks_sound hS h k) T

theorem withLen_len (L : Nat) (a : List (Option Nat)) : (withLen L a).length = a.length := (walks_le ..).1

/-- what stands at r goes j steps on, j less than a whole round -/
theorem withLen_far {L : Nat} {a : List (Option Nat)} (hm : 0 < a.length) {r y j : Nat} (hr : r < a.length) (hy : a.getD r none = some y) (hj : j < a.length / Nat.gcd a.length L) :
    ∃ x, (withLen L a).getD ((r + j * L) % a.length) none = some x ∧ x ≤ y + j * L := by
  obtain ⟨p, hp, e⟩ := comes_by a.length L r hm hr
  have hg : 0 < Nat.gcd a.length L := Nat.gcd_pos_of_pos_left _ hm
  unfold withLen
  generalize hT : 2 * (a.length / Nat.gcd a.length L) = T
  have hk : r % Nat.gcd a.length L < Nat.gcd a.length L := Nat.mod_lt _ hg
  generalize hk0 : r % Nat.gcd a.length L = k at *
  obtain ⟨d, hd⟩ : ∃ d, Nat.gcd a.length L = (k + 1) + d := ⟨Nat.gcd a.length L - (k + 1), by omega⟩
  have hkm : k < a.length := Nat.lt_of_lt_of_le hk (Nat.le_of_dvd hm (Nat.gcd_dvd_left _ _))
  have hb : (walks L a.length T k a).length = a.length := (walks_le ..).1
  obtain ⟨y', hy', hle⟩ := (walks_le L a.length T a k).2 r y hy
  obtain ⟨x, hx, hxy⟩ := steps_far (L := L) (m := a.length) (r := k) (a := walks L a.length T k a) hm hb hkm p (y := y') (by rw [e]; exact hy') j
  have ej : (k + (p + j) * L) % a.length = (r + j * L) % a.length := by
    rw [Nat.add_mul, ← Nat.add_assoc, Nat.add_mod, e]
    conv => rhs; rw [Nat.add_mod, Nat.mod_eq_of_lt hr]
  rw [ej] at hx
  have l1 := steps_le' L a.length k (walks L a.length T k a) (p + j) (T - (p + j))
  rw [show p + j + (T - (p + j)) = T by omega] at l1
  have l2 := walks_le' L a.length T a (k + 1) d
  rw [← hd] at l2
  obtain ⟨x2, h2, h2'⟩ := (l2.trans l1).2 _ x hx
  exact ⟨x2, h2, by omega⟩

/-- a list tells the least members of S by their remainders -/
structure Rep (S : Nat → Prop) (a : List (Option Nat)) : Prop where
  pos : 0 < a.length
  sound : Sound S a.length a
  least : ∀ s, S s → ∃ x, a.getD (s % a.length) none = some x ∧ x ≤ s

theorem Rep.one {m : Nat} (hm : 0 < m) : Rep (Sum [m]) (some 0 :: List.replicate (m - 1) none) := by
  have hl : (some 0 :: List.replicate (m - 1) (none : Option Nat)).length = m := by simp; omega
  refine ⟨by simp, fun r x h => ?_, fun s hs => ?_⟩
  · rw [hl]
    cases r with
    | zero =>
      have : some 0 = some x := h
      cases this
      exact ⟨.zero, Nat.zero_mod _⟩
    | succ r =>
      exfalso
      rw [List.getD_eq_getElem?_getD, List.getElem?_cons_succ, List.getElem?_replicate] at h
      split at h <;> simp at h
  · obtain ⟨j, rfl⟩ := Sum.single.mp hs
    rw [hl, Nat.mul_mod_left]
    exact ⟨0, rfl, Nat.zero_le _⟩

theorem Rep.more {ls : List Nat} {L m : Nat} {a : List (Option Nat)} (h : Rep (Sum ls) a) (hm : a.length = m) (hin : m ∈ ls) : Rep (Sum (ls ++ [L])) (withLen L a) := by
  have hl := withLen_len L a
  have hp := h.pos
  refine ⟨by rw [hl]; exact hp, ?_, fun s hs => ?_⟩
  · rw [hl]
    refine walks_sound (fun x hx => .add (List.mem_append_right _ (List.mem_singleton.mpr rfl)) hx) (fun r x e => ?_) _
    obtain ⟨h1, h2⟩ := h.sound r x e
    exact ⟨h1.mono fun l hl => List.mem_append_left _ hl, h2⟩
  · rw [hl]
    obtain ⟨j, t, ht, rfl⟩ := Sum.snoc.mp hs
    -- less than a whole round of L's
    have hg : 0 < Nat.gcd a.length L := Nat.gcd_pos_of_pos_left _ hp
    obtain ⟨c, hc⟩ := Nat.gcd_dvd_left a.length L
    obtain ⟨k, hk⟩ := Nat.gcd_dvd_right a.length L
    have hcd : a.length / Nat.gcd a.length L = c := by
      generalize Nat.gcd a.length L = g at *
      rw [hc]
      exact Nat.mul_div_cancel_left _ hg
    have hcpos : 0 < c := by
      rcases Nat.eq_zero_or_pos c with h | h
      · rw [h] at hc; omega
      · exact h
    have ecL : c * L = k * a.length := by
      generalize Nat.gcd a.length L = g at *
      rw [hk, hc]
      simp only [Nat.mul_comm, Nat.mul_left_comm]
    have e : t + j * L = (t + (j / c * k) * a.length) + (j % c) * L := by
      have d := Nat.div_add_mod j c
      calc t + j * L = t + (c * (j / c) + j % c) * L := by rw [d]
        _ = t + (j / c * (c * L) + j % c * L) := by
          rw [Nat.add_mul]; congr 2; rw [Nat.mul_comm c, Nat.mul_assoc]
        _ = _ := by rw [ecL]; rw [Nat.mul_assoc]; omega
    have ht' : Sum ls (t + (j / c * k) * a.length) := ht.plus (by rw [hm]; exact Sum.times hin _)
    obtain ⟨y, hy, hyt⟩ := h.least _ ht'
    obtain ⟨x, hx, hxy⟩ := withLen_far (L := L) hp (Nat.mod_lt _ hp) hy (j := j % c) (by rw [hcd]; exact Nat.mod_lt _ hcpos)
    refine ⟨x, ?_, by rw [e]; omega⟩
    rw [e]
    rw [Nat.add_mod, Nat.mod_mod, ← Nat.add_mod] at hx
    exact hx

/-- the least sums of lengths -/
def leasts : List Nat → List (Option Nat)
  | [] => []
  | m :: ls => ls.foldl (fun a L => withLen L a) (some 0 :: List.replicate (m - 1) none)

theorem fold_rep : ∀ (ls pre : List Nat) (a : List (Option Nat)) (m : Nat), Rep (Sum pre) a → a.length = m → m ∈ pre → Rep (Sum (pre ++ ls)) (ls.foldl (fun a L => withLen L a) a) ∧ (ls.foldl (fun a L => withLen L a) a).length = m
  | [], pre, a, m, h, hm, _ => by simpa using ⟨h, hm⟩
  | L :: ls, pre, a, m, h, hm, hin => by
    have := fold_rep ls (pre ++ [L]) (withLen L a) m (h.more hm hin) ((withLen_len L a).trans hm) (List.mem_append_left _ hin)
    rw [List.append_assoc] at this
    exact this

theorem leasts_rep {m : Nat} (hm : 0 < m) (ls : List Nat) : Rep (Sum (m :: ls)) (leasts (m :: ls)) ∧ (leasts (m :: ls)).length = m :=
  fold_rep ls [m] _ m (Rep.one hm) (by simp; omega) (List.mem_singleton.mpr rfl)

/-- whether a total is a sum, by the least sums -/
def reached (a : List (Option Nat)) (t : Nat) : Bool :=
  if a.length = 0 then t == 0 else match a.getD (t % a.length) none with
    | none => false
    | some x => decide (x ≤ t)

theorem Rep.iff {S : Nat → Prop} {a : List (Option Nat)} (h : Rep S a) (hc : ∀ x, S x → S (x + a.length)) (t : Nat) : reached a t = true ↔ S t := by
  unfold reached
  rw [if_neg (by have := h.pos; omega)]
  have many : ∀ (k x : Nat), S x → S (x + k * a.length) := by
    intro k
    induction k with
    | zero => intro x hx; simpa using hx
    | succ k ih => intro x hx; rw [Nat.succ_mul, ← Nat.add_assoc]; exact hc _ (ih x hx)
  constructor
  · intro e
    split at e
    · cases e
    · rename_i x hx
      obtain ⟨h1, h2⟩ := h.sound _ x hx
      have hle : x ≤ t := of_decide_eq_true e
      have : t = x + (t / a.length - x / a.length) * a.length := by
        have d1 := Nat.div_add_mod t a.length
        have d2 := Nat.div_add_mod x a.length
        rw [h2] at d2
        have hd : x / a.length ≤ t / a.length := Nat.div_le_div_right hle
        rw [Nat.sub_mul, Nat.mul_comm (t / a.length), Nat.mul_comm (x / a.length)]
        have : a.length * (x / a.length) ≤ a.length * (t / a.length) := Nat.mul_le_mul_left _ hd
        omega
      rw [this]
      exact many _ _ h1
  · intro hs
    obtain ⟨x, hx, hxt⟩ := h.least t hs
    rw [hx]
    exact decide_eq_true hxt

theorem isSum_iff (ls : List Nat) (hpos : ∀ l ∈ ls, 0 < l) (t : Nat) : reached (leasts ls) t = true ↔ Sum ls t := by
  cases ls with
  | nil =>
    show (t == 0) = true ↔ _
    constructor
    · intro h
      have : t = 0 := by simpa using h
      rw [this]; exact .zero
    · intro h
      cases h with
      | zero => rfl
      | add h _ => cases h
  | cons m ls =>
    have hm : 0 < m := hpos m List.mem_cons_self
    obtain ⟨h, hl⟩ := leasts_rep hm ls
    exact h.iff (fun x hx => by rw [hl]; exact .add List.mem_cons_self hx) t
end Ov
/-! Least sums: how great they are, and how they are found one by one; the greatest common divisor -/
namespace Ov
theorem countP_le {α : Type} {p q : α → Bool} : ∀ {l : List α}, (∀ x ∈ l, p x = true → q x = true) → l.countP p ≤ l.countP q
  | [], _ => Nat.le_refl _
  | x :: l, h => by
    have ih := countP_le (l := l) fun y hy => h y (List.mem_cons_of_mem _ hy)
    have hx := h x List.mem_cons_self
    rw [List.countP_cons, List.countP_cons]
    cases hp : p x
    · simp only [Bool.false_eq_true, if_false]
      omega
    · rw [hx hp]; omega
theorem countP_lt {α : Type} {p q : α → Bool} : ∀ {l : List α} (x : α), x ∈ l → p x = false → q x = true → (∀ x ∈ l, p x = true → q x = true) → l.countP p < l.countP q
  | [], _, hx, _, _, _ => by cases hx
  | y :: l, x, hx, h1, h2, h => by
    rw [List.countP_cons, List.countP_cons]
    have hy := h y List.mem_cons_self
    rcases List.mem_cons.mp hx with e | hx
    · subst e
      have ih := countP_le (l := l) fun y hy => h y (List.mem_cons_of_mem _ hy)
      rw [h1, h2]
      simp only [Bool.false_eq_true, if_false, if_true]
      omega
    · have ih := countP_lt x hx h1 h2 fun y hy => h y (List.mem_cons_of_mem _ hy)
      cases hp : p y
      · simp only [Bool.false_eq_true, if_false]
        omega
      · rw [hy hp]; omega
/-- an entry below x -/
def below (x : Nat) : Option Nat → Bool
  | some y => decide (y < x)
  | none => false
theorem mem_of_getD {a : List (Option Nat)} {r x : Nat} (h : a.getD r none = some x) : some x ∈ a := by
  rw [List.getD_eq_getElem?_getD] at h
  cases e : a[r]? with
  | none => rw [e] at h; cases h
  | some o =>
    rw [e] at h
    have : o = some x := h
    rw [← this]
    exact List.mem_of_getElem? e
theorem rank_bound {ls : List Nat} {a : List (Option Nat)} (h : Rep (Sum ls) a) {M : Nat} (hM : ∀ l ∈ ls, 0 < l ∧ l ≤ M) : ∀ (x r : Nat), a.getD r none = some x → x ≤ a.countP (below x) * M := by
  intro x
  induction x using Nat.strongRecOn with
  | ind x ih =>
    intro r hr
    rcases Nat.eq_zero_or_pos x with h0 | h0
    · omega
    obtain ⟨sx, rx⟩ := h.sound r x hr
    rcases Sum.step.mp sx with h1 | ⟨l, hl, hlx, sy⟩
    · omega
    obtain ⟨l0, lM⟩ := hM l hl
    obtain ⟨z, hz, hzy⟩ := h.least _ sy
    obtain ⟨sz, rz⟩ := h.sound _ z hz
    have ezy : z = x - l := by
      rcases Nat.lt_or_ge z (x - l) with c | c
      · exfalso
        obtain ⟨x', hx', hle⟩ := h.least (z + l) (.add hl sz)
        have em : (z + l) % a.length = r := by
          rw [Nat.add_mod, rz, ← Nat.add_mod, Nat.sub_add_cancel hlx, rx]
        rw [em, hr] at hx'
        have : x = x' := Option.some.inj hx'
        omega
      · omega
    subst ezy
    have hy := ih (x - l) (by omega) _ hz
    have hlt : a.countP (below (x - l)) < a.countP (below x) := by
      refine countP_lt (some (x - l)) (mem_of_getD hz) ?_ ?_ ?_
      · exact decide_eq_false (Nat.lt_irrefl _)
      · exact decide_eq_true (by omega)
      · intro o _ ho
        cases o with
        | none => cases ho
        | some y =>
          have := of_decide_eq_true ho
          exact decide_eq_true (by omega)
    have := Nat.mul_le_mul_right M (Nat.succ_le_of_lt hlt)
    rw [Nat.succ_mul] at this
    omega
theorem least_le {ls : List Nat} {a : List (Option Nat)} (h : Rep (Sum ls) a) {M : Nat} (hM : ∀ l ∈ ls, 0 < l ∧ l ≤ M) {x r : Nat} (hr : a.getD r none = some x) : x ≤ (a.length - 1) * M := by
  have h1 := rank_bound h hM x r hr
  have h2 : a.countP (below x) < a.length := by
    have : a.countP (below x) < a.countP (fun _ => true) := countP_lt (some x) (mem_of_getD hr) (decide_eq_false (Nat.lt_irrefl _)) rfl fun _ _ _ => rfl
    rwa [List.countP_true] at this
  exact Nat.le_trans h1 (Nat.mul_le_mul_right M (by omega))
/-! ### found one by one -/
def cutO (i : Nat) : Option Nat → Option Nat
  | some x => if x < i then some x else none
  | none => none
theorem cutO_lt {i x : Nat} (h : x < i) : cutO i (some x) = some x := if_pos h
theorem cutO_ge {i x : Nat} (h : ¬ x < i) : cutO i (some x) = none := if_neg h
def seen (i : Nat) (a : List (Option Nat)) : List (Option Nat) := a.map (cutO i)
theorem seen_len (i : Nat) (a : List (Option Nat)) : (seen i a).length = a.length := List.length_map ..
theorem seen_zero (a : List (Option Nat)) : seen 0 a = List.replicate a.length none := by
  unfold seen
  rw [List.eq_replicate_iff]
  refine ⟨List.length_map .., fun o ho => ?_⟩
  obtain ⟨x, _, rfl⟩ := List.mem_map.mp ho
  cases x with
  | none => rfl
  | some x => exact cutO_ge (Nat.not_lt_zero _)
theorem seen_at (i : Nat) (a : List (Option Nat)) (r : Nat) : (seen i a).getD r none = cutO i (a.getD r none) := by
  unfold seen
  rw [List.getD_eq_getElem?_getD, List.getD_eq_getElem?_getD, List.getElem?_map]
  cases a[r]? <;> rfl
theorem ext_getD {a b : List (Option Nat)} (hl : a.length = b.length) (h : ∀ r, r < a.length → a.getD r none = b.getD r none) : a = b := by
  refine List.ext_getElem hl fun i h1 h2 => ?_
  have := h i h1
  rw [List.getD_eq_getElem?_getD, List.getD_eq_getElem?_getD, List.getElem?_eq_getElem h1, List.getElem?_eq_getElem h2] at this
  exact this
theorem seen_set {S : Nat → Prop} {a : List (Option Nat)} (h : Rep S a) {i : Nat} (hs : S i) (hn : (seen i a).getD (i % a.length) none = none) : (seen i a).set (i % a.length) (some i) = seen (i + 1) a := by
  obtain ⟨x, hx, hxi⟩ := h.least i hs
  rw [seen_at, hx] at hn
  have ex : x = i := by
    by_cases c : x < i
    · rw [cutO_lt c] at hn; cases hn
    · omega
  subst ex
  refine ext_getD (by rw [List.length_set, seen_len, seen_len]) fun r hr => ?_
  rw [List.length_set, seen_len] at hr
  rw [getD_set, seen_at, seen_at, seen_len]
  by_cases c : x % a.length = r
  · subst c
    rw [if_pos ⟨rfl, hr⟩, hx]
    exact (cutO_lt (Nat.lt_succ_self _)).symm
  · rw [if_neg fun z => c z.1]
    cases e : a.getD r none with
    | none => rfl
    | some y =>
      have hy := (h.sound r y e).2
      have : y ≠ x := fun z => c (by rw [← z]; exact hy)
      by_cases d : y < x
      · rw [cutO_lt d, cutO_lt (show y < x + 1 by omega)]
      · rw [cutO_ge d, cutO_ge (show ¬ y < x + 1 by omega)]
theorem seen_keep {S : Nat → Prop} {a : List (Option Nat)} (h : Rep S a) {i : Nat} (hn : S i → (seen i a).getD (i % a.length) none ≠ none) : seen i a = seen (i + 1) a := by
  refine ext_getD (by rw [seen_len, seen_len]) fun r hr => ?_
  rw [seen_at, seen_at]
  cases e : a.getD r none with
  | none => rfl
  | some y =>
    obtain ⟨sy, ry⟩ := h.sound r y e
    have : y ≠ i := fun z => by
      subst z
      refine hn sy ?_
      rw [seen_at, ry, e]
      exact cutO_ge (Nat.lt_irrefl _)
    by_cases d : y < i
    · rw [cutO_lt d, cutO_lt (show y < i + 1 by omega)]
    · rw [cutO_ge d, cutO_ge (show ¬ y < i + 1 by omega)]
theorem seen_all {a : List (Option Nat)} {M : Nat} (h : ∀ r x, a.getD r none = some x → x ≤ M) : seen (M + 1) a = a := by
  refine ext_getD (seen_len ..) fun r hr => ?_
  rw [seen_at]
  cases e : a.getD r none with
  | none => rfl
  | some y => exact cutO_lt (Nat.lt_succ_of_le (h r y e))
/-! ### the greatest common divisor -/
def gcdAll (ls : List Nat) : Nat := ls.foldl Nat.gcd 0
theorem foldl_gcd_dvd : ∀ (ls : List Nat) (g : Nat), ls.foldl Nat.gcd g ∣ g ∧ ∀ l ∈ ls, ls.foldl Nat.gcd g ∣ l
  | [], g => ⟨Nat.dvd_refl _, (fun _ h => nomatch h)⟩
  | l :: ls, g => by
    obtain ⟨h1, h2⟩ := foldl_gcd_dvd ls (Nat.gcd g l)
    refine ⟨Nat.dvd_trans h1 (Nat.gcd_dvd_left g l), fun x hx => ?_⟩
    rcases List.mem_cons.mp hx with rfl | hx
    · exact Nat.dvd_trans h1 (Nat.gcd_dvd_right _ _)
    · exact h2 x hx
theorem dvd_foldl_gcd {d : Nat} : ∀ (ls : List Nat) (g : Nat), d ∣ g → (∀ l ∈ ls, d ∣ l) → d ∣ ls.foldl Nat.gcd g
  | [], g, h, _ => h
  | l :: ls, g, h, k => dvd_foldl_gcd ls (Nat.gcd g l) (Nat.dvd_gcd h (k l List.mem_cons_self)) fun x hx => k x (List.mem_cons_of_mem _ hx)
theorem gcdAll_dvd {ls : List Nat} {l : Nat} (h : l ∈ ls) : gcdAll ls ∣ l := (foldl_gcd_dvd ls 0).2 l h
theorem dvd_gcdAll {ls : List Nat} {d : Nat} (h : ∀ l ∈ ls, d ∣ l) : d ∣ gcdAll ls := dvd_foldl_gcd ls 0 (Nat.dvd_zero d) h
/-- those below n that pass, where the greatest that passes is g -/
theorem filter_top {p : Nat → Bool} {g : Nat} (hg : p g = true) (hno : ∀ i, g < i → p i = false) : ∀ n, g < n → (List.range n).filter p = (List.range g).filter p ++ [g]
  | 0, h => by omega
  | n + 1, h => by
    rw [List.range_succ, List.filter_append]
    by_cases e : g = n
    · subst e
      rw [List.filter_cons, hg]
      rfl
    · rw [filter_top hg hno n (by omega), List.filter_cons, hno n (by omega)]
      simp
end Ov
/-! Conductors and gaps -/
namespace Ov
theorem res_step {all : List Nat} {m : Nat} (hm : 0 < m) : ∀ (rest : List Nat) (g A : Nat), Sum all A → A % m = g % m → (∀ l ∈ rest, l ∈ all) → ∃ B, Sum all B ∧ B % m = (rest.foldl Nat.gcd g) % m
  | [], g, A, hA, e, _ => ⟨A, hA, e⟩
  | l :: rest, g, A, hA, e, hl => by
    obtain ⟨x, y, h⟩ := bezout g l
    have hm' : (m : Int) ≠ 0 := by omega
    have hx : 0 ≤ x % (m : Int) := Int.emod_nonneg _ hm'
    have hy : 0 ≤ y % (m : Int) := Int.emod_nonneg _ hm'
    have many : ∀ (k s : Nat), Sum all s → Sum all (k * s) := fun k s hs => by
      induction k with
      | zero => rw [Nat.zero_mul]; exact .zero
      | succ k ih => rw [Nat.succ_mul]; exact ih.plus hs
    refine res_step hm rest (Nat.gcd g l) ((x % (m : Int)).toNat * A + (y % (m : Int)).toNat * l) ((many _ _ hA).plus (Sum.times (hl l List.mem_cons_self) _)) ?_ fun z hz => hl z (List.mem_cons_of_mem _ hz)
    have e' : (A : Int) % (m : Int) = (g : Int) % (m : Int) := by exact_mod_cast e
    have key : ((((x % (m : Int)).toNat * A + (y % (m : Int)).toNat * l : Nat) : Int)) % (m : Int) = ((Nat.gcd g l : Nat) : Int) % (m : Int) := by
      rw [Int.natCast_add, Int.natCast_mul, Int.natCast_mul, Int.toNat_of_nonneg hx, Int.toNat_of_nonneg hy, ← h]
      rw [Int.add_emod, Int.mul_emod (x % m), Int.emod_emod_of_dvd _ (Int.dvd_refl _), e', ← Int.mul_emod, Int.mul_emod (y % m), Int.emod_emod_of_dvd _ (Int.dvd_refl _), ← Int.mul_emod, ← Int.add_emod]
    exact_mod_cast key
theorem res_all {m : Nat} {rest : List Nat} (hm : 0 < m) (hg : gcdAll (m :: rest) = 1) (r : Nat) : ∃ s, Sum (m :: rest) s ∧ s % m = r % m := by
  have e0 : gcdAll (m :: rest) = rest.foldl Nat.gcd m := by
    unfold gcdAll
    rw [List.foldl_cons, Nat.gcd_zero_left]
  obtain ⟨B, hB, eB⟩ := res_step (all := m :: rest) hm rest m m (by have := Sum.times (ls := m :: rest) (List.mem_cons_self (a := m) (l := rest)) 1; rwa [Nat.one_mul] at this) rfl fun l hl => List.mem_cons_of_mem _ hl
  rw [← e0, hg] at eB
  refine ⟨r * B, ?_, ?_⟩
  · induction r with
    | zero => rw [Nat.zero_mul]; exact .zero
    | succ r ih => rw [Nat.succ_mul]; exact ih.plus hB
  · rw [Nat.mul_mod, eB, ← Nat.mul_mod, Nat.mul_one]
/-- every remainder is reached: the list holds numbers alone -/
theorem rep_full {m : Nat} {rest : List Nat} (hm : 0 < m) (hg : gcdAll (m :: rest) = 1) {a : List (Option Nat)} (h : Rep (Sum (m :: rest)) a) (hl : a.length = m) : ∃ xs : List Nat, a = xs.map some ∧ xs.length = m ∧ ∀ (r : Nat) (hr : r < xs.length), xs[r] % m = r ∧ Sum (m :: rest) xs[r] := by
  have hall : ∀ (r : Nat) (hr : r < a.length), ∃ x, a[r] = some x := fun r hr => by
    obtain ⟨s, hs, e⟩ := res_all hm hg r
    obtain ⟨x, hx, _⟩ := h.least s hs
    rw [hl, e, Nat.mod_eq_of_lt (by omega), List.getD_eq_getElem?_getD, List.getElem?_eq_getElem hr] at hx
    exact ⟨x, hx⟩
  have e : a = (a.map fun o => o.getD 0).map some := by
    refine List.ext_getElem (by simp) fun i h1 h2 => ?_
    obtain ⟨x, hx⟩ := hall i h1
    simp [hx]
  refine ⟨a.map fun o => o.getD 0, e, by rw [List.length_map, hl], fun r hr => ?_⟩
  rw [List.length_map] at hr
  obtain ⟨x, hx⟩ := hall r hr
  obtain ⟨s1, s2⟩ := h.sound r x (by rw [List.getD_eq_getElem?_getD, List.getElem?_eq_getElem hr, hx]; rfl)
  rw [hl] at s2
  have ex : (a.map fun o => o.getD 0)[r]'(by rw [List.length_map]; exact hr) = x := by simp [hx]
  rw [ex]
  exact ⟨s2, s1⟩
theorem sum_iff_le {m : Nat} {rest : List Nat} (hm : 0 < m) {xs : List Nat} (h : Rep (Sum (m :: rest)) (xs.map some)) (hl : xs.length = m) (w : Nat) (hw : w % m < xs.length) : Sum (m :: rest) w ↔ xs[w % m] ≤ w := by
  have := h.iff (fun x hx => by rw [List.length_map, hl]; exact .add List.mem_cons_self hx) w
  rw [← this]
  unfold reached
  rw [List.length_map, hl, if_neg (by omega), List.getD_eq_getElem?_getD, List.getElem?_map, List.getElem?_eq_getElem hw]
  show decide (xs[w % m] ≤ w) = true ↔ _
  exact decide_eq_true_iff
/-! ### the greatest -/
theorem foldl_max_ge : ∀ (l : List Nat) (n : Nat), n ≤ l.foldl max n ∧ ∀ x ∈ l, x ≤ l.foldl max n
  | [], n => ⟨Nat.le_refl _, (fun _ h => nomatch h)⟩
  | y :: l, n => by
    obtain ⟨h1, h2⟩ := foldl_max_ge l (max n y)
    refine ⟨Nat.le_trans (Nat.le_max_left n y) h1, fun x hx => ?_⟩
    rcases List.mem_cons.mp hx with rfl | hx
    · exact Nat.le_trans (Nat.le_max_right n x) h1
    · exact h2 x hx
theorem foldl_max_mem : ∀ (l : List Nat) (n : Nat), l.foldl max n = n ∨ l.foldl max n ∈ l
  | [], n => .inl rfl
  | y :: l, n => by
    rcases foldl_max_mem l (max n y) with h | h
    · rw [List.foldl_cons, h]
      rcases Nat.le_total n y with c | c
      · rw [Nat.max_eq_right c]; exact .inr List.mem_cons_self
      · rw [Nat.max_eq_left c]; exact .inl rfl
    · exact .inr (List.mem_cons_of_mem _ h)
def top' : List Nat → Nat
  | [] => 0
  | x :: l => l.foldl max x
theorem top_ge {l : List Nat} {x : Nat} (h : x ∈ l) : x ≤ top' l := by
  cases l with
  | nil => cases h
  | cons y l =>
    rcases List.mem_cons.mp h with rfl | h
    · exact (foldl_max_ge l _).1
    · exact (foldl_max_ge l _).2 x h
theorem top_mem {l : List Nat} (h : l ≠ []) : top' l ∈ l := by
  cases l with
  | nil => exact absurd rfl h
  | cons y l =>
    rcases foldl_max_mem l y with e | e
    · show l.foldl max y ∈ _
      rw [e]; exact List.mem_cons_self
    · exact List.mem_cons_of_mem _ e
/-! ### gaps -/
/-- so many below N, of those with remainder r, are below x -/
def cnt (m N r x : Nat) : Nat := (min N x + (m - 1 - r)) / m
theorem cnt_step {m N r x : Nat} (hm : 0 < m) (hr : r < m) (hx : x % m = r) : cnt m (N + 1) r x = cnt m N r x + (if N % m = r ∧ N < x then 1 else 0) := by
  unfold cnt
  by_cases c : N < x
  · rw [Nat.min_eq_left (show N + 1 ≤ x from c), Nat.min_eq_left (Nat.le_of_lt c), show N + 1 + (m - 1 - r) = (N + (m - 1 - r)) + 1 by omega, Nat.succ_div]
    have e : m ∣ N + (m - 1 - r) + 1 ↔ N % m = r := by
      rw [show N + (m - 1 - r) + 1 = N + (m - r) by omega]
      constructor
      · intro ⟨k, hk⟩
        have h1 : N = (k - 1) * m + r := by
          have hk0 : 0 < k := by
            rcases Nat.eq_zero_or_pos k with z | z
            · rw [z] at hk; omega
            · exact z
          have : m * k = m * (k - 1) + m := by
            rw [← Nat.mul_succ]
            congr 1
            omega
          rw [Nat.mul_comm (k - 1) m]
          omega
        rw [h1, Nat.add_comm, Nat.add_mul_mod_self_right, Nat.mod_eq_of_lt hr]
      · intro h
        refine ⟨N / m + 1, ?_⟩
        have d := Nat.div_add_mod N m
        rw [h] at d
        rw [Nat.mul_succ]
        omega
    by_cases d : N % m = r
    · rw [if_pos (e.mpr d), if_pos ⟨d, c⟩]
    · rw [if_neg (fun z => d (e.mp z)), if_neg (fun z => d z.1)]
  · rw [Nat.min_eq_right (show x ≤ N + 1 by omega), Nat.min_eq_right (show x ≤ N by omega), if_neg (fun z => c z.2)]
    rfl
theorem cnt_end {m N r x : Nat} (hm : 0 < m) (hr : r < m) (hx : x % m = r) (hN : x ≤ N) : cnt m N r x = x / m := by
  unfold cnt
  rw [Nat.min_eq_right hN]
  have d := Nat.div_add_mod x m
  rw [hx] at d
  rw [show x + (m - 1 - r) = (m - 1) + x / m * m by rw [Nat.mul_comm]; omega, Nat.add_mul_div_right _ _ hm, Nat.div_eq_of_lt (by omega), Nat.zero_add]
theorem cnt_zero {m r x : Nat} (hm : 0 < m) : cnt m 0 r x = 0 := by
  unfold cnt
  rw [Nat.zero_min, Nat.zero_add]
  exact Nat.div_eq_of_lt (by omega)
theorem sum_zero : ∀ {l : List Nat}, (∀ x ∈ l, x = 0) → l.sum = 0
  | [], _ => rfl
  | x :: l, h => by
    rw [List.sum_cons, h x List.mem_cons_self, sum_zero fun y hy => h y (List.mem_cons_of_mem _ hy)]
theorem sum_one (j y : Nat) (f : Nat → Bool) : ∀ n, j < n → ((List.range n).map fun r => if j = r ∧ f r = true then 1 else 0).sum = if f j = true then 1 else 0
  | 0, h => by omega
  | n + 1, h => by
    rw [List.range_succ, List.map_append, List.sum_append]
    by_cases e : j = n
    · subst e
      have z : ((List.range j).map fun r => if j = r ∧ f r = true then 1 else 0).sum = 0 := by
        apply sum_zero
        intro x hx
        obtain ⟨r, hr, rfl⟩ := List.mem_map.mp hx
        have := List.mem_range.mp hr
        rw [if_neg (fun z => by omega)]
      rw [z]
      by_cases c : f j = true <;> simp [c]
    · rw [sum_one j y f n (by omega)]
      simp [e]
theorem map_sum_add (f g : Nat → Nat) : ∀ l : List Nat, (l.map fun r => f r + g r).sum = (l.map f).sum + (l.map g).sum
  | [] => rfl
  | x :: l => by
    rw [List.map_cons, List.map_cons, List.map_cons, List.sum_cons, List.sum_cons, List.sum_cons, map_sum_add f g l]
    omega
/-- the gaps below N, counted by remainders -/
theorem gaps_cnt {m : Nat} (hm : 0 < m) {xs : List Nat} (hl : xs.length = m) (hx : ∀ (r : Nat) (hr : r < xs.length), xs[r] % m = r) (p : Nat → Bool) (hp : ∀ w (h : w % m < xs.length), p w = decide (w < xs[w % m])) :
    ∀ N, ((List.range N).filter p).length = ((List.range m).map fun r => cnt m N r (xs.getD r 0)).sum
  | 0 => by
    have : ((List.range m).map fun r => cnt m 0 r (xs.getD r 0)).sum = 0 := by
      apply sum_zero
      intro x hx
      obtain ⟨r, _, rfl⟩ := List.mem_map.mp hx
      exact cnt_zero hm
    rw [this]; rfl
  | N + 1 => by
    have ih := gaps_cnt hm hl hx p hp N
    rw [List.range_succ, List.filter_append, List.length_append, ih]
    have e1 : ((List.range m).map fun r => cnt m (N + 1) r (xs.getD r 0)) = (List.range m).map fun r => cnt m N r (xs.getD r 0) + (if N % m = r ∧ decide (N < xs.getD r 0) = true then 1 else 0) := by
      refine List.map_congr_left fun r hr => ?_
      have hrm := List.mem_range.mp hr
      have hg : xs.getD r 0 = xs[r]'(by omega) := by rw [List.getD_eq_getElem?_getD, List.getElem?_eq_getElem (by omega)]; rfl
      rw [cnt_step hm hrm (by rw [hg]; exact hx r (by omega))]
      simp only [decide_eq_true_eq]
    rw [e1, map_sum_add, sum_one (N % m) 0 (fun r => decide (N < xs.getD r 0)) m (Nat.mod_lt _ hm)]
    congr 1
    have hw : N % m < xs.length := by rw [hl]; exact Nat.mod_lt _ hm
    have hg : xs.getD (N % m) 0 = xs[N % m] := by rw [List.getD_eq_getElem?_getD, List.getElem?_eq_getElem hw]; rfl
    rw [List.filter_cons, hp N hw, hg]
    by_cases c : N < xs[N % m] <;> simp [c]
theorem range_getD (xs : List Nat) (f : Nat → Nat) : ((List.range xs.length).map fun r => f (xs.getD r 0)) = xs.map f := by
  refine List.ext_getElem (by simp) fun i h1 h2 => ?_
  have hi : i < xs.length := by simpa using h2
  simp [hi]
theorem gaps_len {m : Nat} (hm : 0 < m) {xs : List Nat} (hl : xs.length = m) (hx : ∀ (r : Nat) (hr : r < xs.length), xs[r] % m = r) (p : Nat → Bool) (hp : ∀ w (h : w % m < xs.length), p w = decide (w < xs[w % m])) {N : Nat} (hN : ∀ x ∈ xs, x ≤ N) :
    ((List.range N).filter p).length = (xs.map (· / m)).sum := by
  rw [gaps_cnt hm hl hx p hp N]
  have : ((List.range m).map fun r => cnt m N r (xs.getD r 0)) = (List.range xs.length).map fun r => (xs.getD r 0) / m := by
    rw [hl]
    refine List.map_congr_left fun r hr => ?_
    have hrm := List.mem_range.mp hr
    have hg : xs.getD r 0 = xs[r]'(by omega) := by rw [List.getD_eq_getElem?_getD, List.getElem?_eq_getElem (by omega)]; rfl
    rw [hg]
    exact cnt_end hm hrm (hx r (by omega)) (hN _ (List.getElem_mem _))
  rw [this, range_getD xs (· / m)]
/-- the last gap, or none -/
theorem gaps_last {m : Nat} (hm : 0 < m) {xs : List Nat} (hl : xs.length = m) (hx : ∀ (r : Nat) (hr : r < xs.length), xs[r] % m = r) (p : Nat → Bool) (hp : ∀ w (h : w % m < xs.length), p w = decide (w < xs[w % m])) {N : Nat} (hN : ∀ x ∈ xs, x ≤ N) :
    (top' xs < m ∧ top' xs + 1 = m ∧ (List.range N).filter p = []) ∨ (m ≤ top' xs ∧ (List.range N).filter p = (List.range (top' xs - m)).filter p ++ [top' xs - m]) := by
  have hne : xs ≠ [] := fun z => by rw [z] at hl; exact absurd hl (by simp; omega)
  have htm := top_mem hne
  obtain ⟨r, hr, er⟩ := List.mem_iff_getElem.mp htm
  have hmod : top' xs % m = r := by rw [← er]; exact hx r hr
  have gap : ∀ w, p w = true → w + m ≤ top' xs := fun w hw => by
    have hwm : w % m < xs.length := by rw [hl]; exact Nat.mod_lt _ hm
    rw [hp w hwm] at hw
    have h1 := of_decide_eq_true hw
    have h2 := hx (w % m) hwm
    have h3 := top_ge (List.getElem_mem hwm)
    have d1 := Nat.div_add_mod w m
    have d2 := Nat.div_add_mod xs[w % m] m
    rw [h2] at d2
    have h4 : w / m < xs[w % m] / m := by
      rcases Nat.lt_or_ge (w / m) (xs[w % m] / m) with c | c
      · exact c
      · have := Nat.mul_le_mul_left m c
        omega
    have h5 : m * (w / m + 1) ≤ m * (xs[w % m] / m) := Nat.mul_le_mul_left m h4
    rw [Nat.mul_succ] at h5
    omega
  rcases Nat.lt_or_ge (top' xs) m with c | c
  · refine .inl ⟨c, ?_, ?_⟩
    · have h1 := hx (m - 1) (by omega)
      have h2 := top_ge (List.getElem_mem (show m - 1 < xs.length by omega))
      have h3 : m - 1 ≤ xs[m - 1]'(by omega) := by
        have h4 := Nat.mod_le (xs[m - 1]'(by omega)) m
        omega
      omega
    · rw [List.filter_eq_nil_iff]
      intro w _ hw
      have := gap w hw
      omega
  · refine .inr ⟨c, filter_top ?_ (fun i hi => ?_) N ?_⟩
    · have hw : (top' xs - m) % m = r := by
        rw [← hmod]
        conv => rhs; rw [← Nat.sub_add_cancel c, Nat.add_mod_right]
      rw [hp _ (by rw [hw]; exact hr)]
      refine decide_eq_true ?_
      have same : ∀ (i : Nat) (hi : i < xs.length), i = r → xs[i] = top' xs := fun i hi e => by subst e; exact er
      have := same _ (by rw [hw]; exact hr) hw
      omega
    · cases e : p i with
      | false => rfl
      | true =>
        have := gap i e
        omega
    · have := hN _ htm
      omega
end Ov
/-! ### decoding: countdowns and starts, byte by byte -/
namespace Ov
section
variable (la : Int → Nat)
/-- what a byte makes of a countdown -/
def cdStep : Option Nat → Int → Option Nat
  | none, _ => none
  | some 0, b => if la b = 0 then none else some (la b - 1)
  | some (l + 1), _ => some l
def cdEnd (s : Option Nat) (bs : List Int) : Option Nat := bs.foldl (cdStep la) s
def stF (k : Nat) (s : Option Nat) : List Int → List Nat
  | [] => []
  | b :: bs => (if s = some 0 ∧ 0 < la b then [k] else []) ++ stF (k + 1) (cdStep la s b) bs
/-- the offset of the invalid byte -/
def spF (k : Nat) (s : Option Nat) : List Int → Option Nat
  | [] => none
  | b :: bs => if s = some 0 ∧ la b = 0 then some k else spF (k + 1) (cdStep la s b) bs
variable {la}
theorem cdEnd_nil (s : Option Nat) : cdEnd la s [] = s := rfl
theorem cdEnd_cons (s : Option Nat) (b : Int) (bs : List Int) : cdEnd la s (b :: bs) = cdEnd la (cdStep la s b) bs := rfl
theorem cdEnd_app (s : Option Nat) (as bs : List Int) : cdEnd la s (as ++ bs) = cdEnd la (cdEnd la s as) bs := by
  unfold cdEnd; rw [List.foldl_append]
theorem stF_app (k : Nat) (s : Option Nat) (as bs : List Int) : stF la k s (as ++ bs) = stF la k s as ++ stF la (k + as.length) (cdEnd la s as) bs := by
  induction as generalizing k s with
  | nil => rfl
  | cons a as ih =>
    show _ ++ stF la (k + 1) _ (as ++ bs) = (_ ++ stF la (k + 1) _ as) ++ _
    rw [ih, List.append_assoc, List.length_cons, cdEnd_cons, show k + 1 + as.length = k + (as.length + 1) by omega]
theorem stF_one (k : Nat) (s : Option Nat) (b : Int) : stF la k s [b] = if s = some 0 ∧ 0 < la b then [k] else [] := by
  show (if s = some 0 ∧ 0 < la b then [k] else []) ++ [] = _
  rw [List.append_nil]
theorem stF_snoc (k : Nat) (s : Option Nat) (as : List Int) (b : Int) : stF la k s (as ++ [b]) = stF la k s as ++ if cdEnd la s as = some 0 ∧ 0 < la b then [k + as.length] else [] := by
  rw [stF_app, stF_one]
theorem cdEnd_snoc (s : Option Nat) (as : List Int) (b : Int) : cdEnd la s (as ++ [b]) = cdStep la (cdEnd la s as) b := cdEnd_app s as [b]
/-- bytes of an instruction that is being read -/
theorem cdEnd_pass (m : Nat) (pre post : List Int) : cdEnd la (some (pre.length + m)) (pre ++ post) = cdEnd la (some m) post := by
  induction pre with
  | nil => rw [List.length_nil, Nat.zero_add]; rfl
  | cons a pre ih =>
    rw [List.length_cons, show pre.length + 1 + m = pre.length + m + 1 by omega]
    show cdEnd la (some (pre.length + m)) (pre ++ post) = _
    exact ih
theorem stF_pass (k m : Nat) (pre post : List Int) : stF la k (some (pre.length + m)) (pre ++ post) = stF la (k + pre.length) (some m) post := by
  induction pre generalizing k with
  | nil => rw [List.length_nil, Nat.zero_add]; rfl
  | cons a pre ih =>
    rw [List.length_cons, show pre.length + 1 + m = pre.length + m + 1 by omega]
    show (if some (pre.length + m + 1) = some 0 ∧ 0 < la a then [k] else []) ++ stF la (k + 1) (some (pre.length + m)) (pre ++ post) = _
    rw [if_neg (by rintro ⟨e, _⟩; cases e), List.nil_append, ih, show k + 1 + pre.length = k + (pre.length + 1) by omega]
theorem cdEnd_none (bs : List Int) : cdEnd la none bs = none := by
  induction bs with
  | nil => rfl
  | cons b bs ih => exact ih
theorem stF_none (k : Nat) (bs : List Int) : stF la k none bs = [] := by
  induction bs generalizing k with
  | nil => rfl
  | cons b bs ih =>
    show (if (none : Option Nat) = some 0 ∧ 0 < la b then [k] else []) ++ stF la (k + 1) none bs = []
    rw [if_neg (by rintro ⟨e, _⟩; cases e), List.nil_append, ih]
theorem cd_over {o : Nat} {bs : List Int} (h : bs.length ≤ o) : cdEnd la (some o) bs = some (o - bs.length) := by
  have := cdEnd_pass (la := la) (o - bs.length) bs []
  rw [List.append_nil, show bs.length + (o - bs.length) = o by omega] at this
  exact this
theorem st_over {k o : Nat} {bs : List Int} (h : bs.length ≤ o) : stF la k (some o) bs = [] := by
  have := stF_pass (la := la) k (o - bs.length) bs []
  rw [List.append_nil, show bs.length + (o - bs.length) = o by omega] at this
  exact this
theorem split_at {bs : List Int} {o : Nat} {b : Int} (h : bs[o]? = some b) : bs = bs.take o ++ b :: bs.drop (o + 1) ∧ (bs.take o).length = o := by
  obtain ⟨hl, e⟩ := List.getElem?_eq_some_iff.mp h
  refine ⟨?_, by rw [List.length_take]; omega⟩
  rw [← e, List.getElem_cons_drop, List.take_append_drop]
theorem cd_step {bs : List Int} {o : Nat} {b : Int} (h : bs[o]? = some b) (hl : 0 < la b) : cdEnd la (some o) bs = cdEnd la (some (o + la b)) bs := by
  obtain ⟨e, l⟩ := split_at h
  have h1 := cdEnd_pass (la := la) 0 (bs.take o) (b :: bs.drop (o + 1))
  have h2 := cdEnd_pass (la := la) (la b) (bs.take o) (b :: bs.drop (o + 1))
  rw [← e, l] at h1 h2
  rw [h2, show o + 0 = o from rfl] at *
  rw [h1]
  obtain ⟨n, en⟩ : ∃ n, la b = n + 1 := ⟨la b - 1, by omega⟩
  rw [cdEnd_cons, cdEnd_cons, en]
  show cdEnd la (if la b = 0 then none else some (la b - 1)) _ = cdEnd la (some n) _
  rw [if_neg (by omega), en]
  rfl
theorem st_step {bs : List Int} {k o : Nat} {b : Int} (h : bs[o]? = some b) (hl : 0 < la b) : stF la k (some o) bs = (k + o) :: stF la k (some (o + la b)) bs := by
  obtain ⟨e, l⟩ := split_at h
  have h1 := stF_pass (la := la) k 0 (bs.take o) (b :: bs.drop (o + 1))
  have h2 := stF_pass (la := la) k (la b) (bs.take o) (b :: bs.drop (o + 1))
  rw [← e, l] at h1 h2
  rw [show o + 0 = o from rfl] at h1
  rw [h1, h2]
  obtain ⟨n, en⟩ : ∃ n, la b = n + 1 := ⟨la b - 1, by omega⟩
  show (if some 0 = some 0 ∧ 0 < la b then [k + o] else []) ++ stF la (k + o + 1) (if la b = 0 then none else some (la b - 1)) _ = (k + o) :: ((if some (la b) = some 0 ∧ 0 < la b then [k + o] else []) ++ stF la (k + o + 1) (cdStep la (some (la b)) b) _)
  rw [if_pos ⟨rfl, hl⟩, if_neg (by omega), if_neg (by rintro ⟨e, _⟩; rw [en] at e; cases e), en]
  rfl
theorem cd_stop {bs : List Int} {o : Nat} {b : Int} (h : bs[o]? = some b) (hl : la b = 0) : cdEnd la (some o) bs = none := by
  obtain ⟨e, l⟩ := split_at h
  have h1 := cdEnd_pass (la := la) 0 (bs.take o) (b :: bs.drop (o + 1))
  rw [← e, l, show o + 0 = o from rfl] at h1
  rw [h1, cdEnd_cons]
  show cdEnd la (if la b = 0 then none else some (la b - 1)) _ = none
  rw [if_pos hl, cdEnd_none]
theorem st_stop {bs : List Int} {k o : Nat} {b : Int} (h : bs[o]? = some b) (hl : la b = 0) : stF la k (some o) bs = [] := by
  obtain ⟨e, l⟩ := split_at h
  have h1 := stF_pass (la := la) k 0 (bs.take o) (b :: bs.drop (o + 1))
  rw [← e, l, show o + 0 = o from rfl] at h1
  rw [h1]
  show (if some 0 = some 0 ∧ 0 < la b then [k + o] else []) ++ stF la (k + o + 1) (if la b = 0 then none else some (la b - 1)) _ = []
  rw [if_neg (by omega), if_pos hl, stF_none]
  rfl
theorem spF_pass (k m : Nat) (pre post : List Int) : spF la k (some (pre.length + m)) (pre ++ post) = spF la (k + pre.length) (some m) post := by
  induction pre generalizing k with
  | nil => rw [List.length_nil, Nat.zero_add]; rfl
  | cons a pre ih =>
    rw [List.length_cons, show pre.length + 1 + m = pre.length + m + 1 by omega]
    show (if some (pre.length + m + 1) = some 0 ∧ la a = 0 then some k else spF la (k + 1) (some (pre.length + m)) (pre ++ post)) = _
    rw [if_neg (by rintro ⟨e, _⟩; cases e), ih, show k + 1 + pre.length = k + (pre.length + 1) by omega]
theorem sp_step {bs : List Int} {k o : Nat} {b : Int} (h : bs[o]? = some b) (hl : 0 < la b) : spF la k (some o) bs = spF la k (some (o + la b)) bs := by
  obtain ⟨e, l⟩ := split_at h
  have h1 := spF_pass (la := la) k 0 (bs.take o) (b :: bs.drop (o + 1))
  have h2 := spF_pass (la := la) k (la b) (bs.take o) (b :: bs.drop (o + 1))
  rw [← e, l] at h1 h2
  rw [show o + 0 = o from rfl] at h1
  rw [h1, h2]
  obtain ⟨n, en⟩ : ∃ n, la b = n + 1 := ⟨la b - 1, by omega⟩
  show (if some 0 = some 0 ∧ la b = 0 then some (k + o) else spF la (k + o + 1) (if la b = 0 then none else some (la b - 1)) _) = (if some (la b) = some 0 ∧ la b = 0 then some (k + o) else spF la (k + o + 1) (cdStep la (some (la b)) b) _)
  rw [if_neg (by omega), if_neg (by omega), if_neg (by rintro ⟨e, _⟩; rw [en] at e; cases e), en]
  rfl
theorem sp_stop {bs : List Int} {k o : Nat} {b : Int} (h : bs[o]? = some b) (hl : la b = 0) : spF la k (some o) bs = some (k + o) := by
  obtain ⟨e, l⟩ := split_at h
  have h1 := spF_pass (la := la) k 0 (bs.take o) (b :: bs.drop (o + 1))
  rw [← e, l, show o + 0 = o from rfl] at h1
  rw [h1]
  show (if some 0 = some 0 ∧ la b = 0 then some (k + o) else _) = _
  rw [if_pos ⟨rfl, hl⟩]
/-- an entry within the code -/
theorem cd_entry {e : Nat} {bs : List Int} (h : e ≤ bs.length) : cdEnd la (some e) bs = cdEnd la (some 0) (bs.drop e) := by
  have := cdEnd_pass (la := la) 0 (bs.take e) (bs.drop e)
  rw [List.take_append_drop, List.length_take, show min e bs.length + 0 = e by omega] at this
  exact this
theorem st_entry {e : Nat} {bs : List Int} (h : e ≤ bs.length) : stF la 0 (some e) bs = stF la e (some 0) (bs.drop e) := by
  have := stF_pass (la := la) 0 0 (bs.take e) (bs.drop e)
  rw [List.take_append_drop, List.length_take, show min e bs.length + 0 = e by omega, show 0 + min e bs.length = e by omega] at this
  exact this
/-- how a walk ends -/
structure Ended (la : Int → Nat) (bs : List Int) (e : Nat) (begun : List Nat) (fol : Nat) : Prop where
  st : begun = stF la 0 (some e) bs
  cd : cdEnd la (some e) bs = if fol < bs.length then none else some (fol - bs.length)
  stop : fol < bs.length → ∃ b, bs[fol]? = some b ∧ la b = 0
  last : bs.length < fol → e ≤ bs.length → ∃ o b, begun.getLast? = some o ∧ bs[o]? = some b ∧ fol = o + la b
  lt : ∀ o ∈ begun, o < bs.length ∧ ∃ b, bs[o]? = some b ∧ 0 < la b
  sp : fol < bs.length → spF la 0 (some e) bs = some fol
/-- a walk under way -/
structure Going (la : Int → Nat) (bs : List Int) (e : Nat) (begun : List Nat) (o : Nat) : Prop where
  st : stF la 0 (some e) bs = begun ++ stF la 0 (some o) bs
  cd : cdEnd la (some e) bs = cdEnd la (some o) bs
  last : bs.length < o → e ≤ bs.length → ∃ q b, begun.getLast? = some q ∧ bs[q]? = some b ∧ o = q + la b
  lt : ∀ q ∈ begun, q < bs.length ∧ ∃ b, bs[q]? = some b ∧ 0 < la b
  few : begun.length ≤ bs.length - e ∧ (bs.length - o) + begun.length ≤ bs.length - e
  sp : spF la 0 (some e) bs = spF la 0 (some o) bs
theorem Going.start (bs : List Int) (e : Nat) : Going la bs e [] e :=
  ⟨rfl, rfl, fun h1 h2 => absurd h1 (by omega), (fun _ h => nomatch h), by simp, rfl⟩
theorem Going.step {bs : List Int} {e o : Nat} {begun : List Nat} (g : Going la bs e begun o) {b : Int} (h : bs[o]? = some b) (hl : 0 < la b) : Going la bs e (begun ++ [o]) (o + la b) := by
  have ho := (List.getElem?_eq_some_iff.mp h).1
  refine ⟨?_, ?_, fun _ _ => ⟨o, b, by simp, h, rfl⟩, fun q hq => ?_, ?_, by rw [g.sp, sp_step h hl]⟩
  · rw [g.st, st_step h hl, Nat.zero_add, List.append_assoc]; rfl
  · rw [g.cd, cd_step h hl]
  · rcases List.mem_append.mp hq with hq | hq
    · exact g.lt q hq
    · rw [List.mem_singleton.mp hq]
      exact ⟨ho, b, h, hl⟩
  · have := g.few
    rw [List.length_append, List.length_singleton]
    omega
theorem Going.over {bs : List Int} {e o : Nat} {begun : List Nat} (g : Going la bs e begun o) (h : bs.length ≤ o) : Ended la bs e begun o :=
  ⟨by rw [g.st, st_over h, List.append_nil], by rw [g.cd, cd_over h, if_neg (by omega)], fun z => absurd z (by omega), g.last, g.lt, fun z => absurd z (by omega)⟩
theorem Going.stop {bs : List Int} {e o : Nat} {begun : List Nat} (g : Going la bs e begun o) {b : Int} (h : bs[o]? = some b) (hl : la b = 0) : Ended la bs e begun o := by
  have ho := (List.getElem?_eq_some_iff.mp h).1
  exact ⟨by rw [g.st, st_stop h hl, List.append_nil], by rw [g.cd, cd_stop h hl, if_pos ho], fun _ => ⟨b, h, hl⟩, g.last, g.lt, fun _ => by rw [g.sp, sp_stop h hl, Nat.zero_add]⟩
theorem Ended.same {bs : List Int} {e : Nat} {b1 b2 : List Nat} {f1 f2 : Nat} (h1 : Ended la bs e b1 f1) (h2 : Ended la bs e b2 f2) : b1 = b2 ∧ f1 = f2 := by
  refine ⟨h1.st.trans h2.st.symm, ?_⟩
  have c := h1.cd.symm.trans h2.cd
  by_cases p1 : f1 < bs.length
  · by_cases p2 : f2 < bs.length
    · exact Option.some.inj ((h1.sp p1).symm.trans (h2.sp p2))
    · rw [if_pos p1, if_neg p2] at c; cases c
  · by_cases p2 : f2 < bs.length
    · rw [if_neg p1, if_pos p2] at c; cases c
    · rw [if_neg p1, if_neg p2] at c
      have := Option.some.inj c
      omega
/-! ### the countdowns of all offsets -/
variable (la)
def cds (s : Option Nat) (bs : List Int) : List (Option Nat) := (List.range (bs.length + 1)).map fun i => cdEnd la s (bs.take i)
variable {la}
theorem cds_len (s : Option Nat) (bs : List Int) : (cds la s bs).length = bs.length + 1 := by
  unfold cds; rw [List.length_map, List.length_range]
theorem cds_at {s : Option Nat} {bs : List Int} {i : Nat} (h : i ≤ bs.length) : (cds la s bs)[i]? = some (cdEnd la s (bs.take i)) := by
  unfold cds
  rw [List.getElem?_map, List.getElem?_range (by omega)]
  rfl
theorem cds_one (s : Option Nat) : cds la s [] = [s] := rfl
theorem cds_snoc (s : Option Nat) (bs : List Int) (b : Int) : cds la s (bs ++ [b]) = cds la s bs ++ [cdStep la (cdEnd la s bs) b] := by
  unfold cds
  rw [List.length_append, List.length_singleton, List.range_succ, List.map_append, List.map_singleton, ← List.length_singleton (a := b), ← List.length_append, List.take_length, cdEnd_snoc]
  congr 1
  refine List.map_congr_left fun i hi => ?_
  have := List.mem_range.mp hi
  rw [List.take_append_of_le_length (by rw [List.length_append, List.length_singleton] at this; omega)]
end
end Ov
namespace Ov
open PySem PySem.Spec PyProof.Rows L2
/-! ### heaps -/
theorem same_upd {H : Hp} {p : Addr} {o : HO} (h : H p = none) : Same H (upd H p o) := fun b x e => by
  rw [upd_ne (ne_of_none e h)]
  exact e
theorem _root_.L2.Same.tup {K : PySem.W.Frag} {H H' : Hp} {a : Addr} {xs : List V} (e : Same H H') (h : SqT K H a xs) : SqT K H' a xs := by
  rcases h with (h | ⟨o, h⟩) | h
  · exact .inl (.inl (e _ _ h))
  · exact .inl (.inr ⟨o, e _ _ h⟩)
  · exact .inr h
/-- a new list in the making at D: all that stood before stands, D is new and holds acc -/
structure Mk (H H' : Hp) (D : Addr) (acc : List V) : Prop where
  same : Same H H'
  new : H D = none
  at_ : H' D = some (.lst acc)
theorem Mk.start {H : Hp} {D : Addr} (h : H D = none) : Mk H (upd H D (.lst [])) D [] := ⟨same_upd h, h, upd_same⟩
theorem Mk.put {H H' H4 : Hp} {D : Addr} {acc acc' : List V} (m : Mk H H' D acc) (s : Same H' H4) : Mk H (upd H4 D (.lst acc')) D acc' :=
  ⟨fun b o e => by rw [upd_ne (ne_of_none e m.new)]; exact s _ _ (m.same _ _ e), m.new, upd_same⟩
/-- two tuples walked abreast -/
theorem walk_zipT {K : PySem.W.Frag} {a b : Addr} {xs ys : List V} {n : Nat} (hn : n = min xs.length ys.length) : Walk (RZ.ItzT K a b) n (fun H => SqT K H a xs ∧ SqT K H b ys) (YPair (fun i => xs[i]?) (fun i => ys[i]?)) := by
  subst hn
  refine ⟨fun i _ hi q => ?_, fun _ q => ⟨xs, ys, q.1, q.2, by omega⟩, fun i H v H' _ q y => ?_⟩
  · have h1 : i < xs.length := by omega
    have h2 : i < ys.length := by omega
    exact ⟨xs, ys, xs[i], ys[i], q.1, q.2, by simp [h1], by simp [h2]⟩
  · obtain ⟨T, x, z, h1, h2, h3, h4, h5⟩ := y
    exact ⟨T, x, z, h1, h2, h3, h4 xs q.1, h5 ys q.2⟩
theorem cut1 (xs : List V) : cutV xs (some 1) none = xs.drop 1 := by
  unfold cutV
  rw [show HT.sIx xs.length 0 (some 1) = min 1 xs.length from HT.sIx_nat xs.length 0 1, HT.sIx_none]
  cases xs with
  | nil => rfl
  | cons x r =>
    rw [show min 1 (x :: r).length = 1 by
      rw [List.length_cons]
      omega]
    show (List.take ((x :: r).length - 1) r) = r
    rw [List.length_cons, Nat.add_sub_cancel]
    exact List.take_length
theorem cut1_whole {xs : List V} (h : HT.sIx xs.length 0 (some 1) = 0 ∧ HT.sIx xs.length xs.length none = xs.length) : xs = [] := by
  have h1 := h.1
  rw [show HT.sIx xs.length 0 (some 1) = min 1 xs.length from HT.sIx_nat xs.length 0 1] at h1
  cases xs with
  | nil => rfl
  | cons x r => rw [List.length_cons] at h1; omega
/-! ### targets: two names -/
theorem pg_two {X : Cx} {x y : Str} {p1 p2 pos : Pos} {kk i j : Nat} (hc : X.calm = true) (hN : X.N.Nodup) (hi : X.N[i]? = some x) (hx : Loc X.env.scope x) (hfx : X.fn x = true ∨ X.env.scope.names.lookup x = some .local) (hj : X.N[j]? = some y) (hy : Loc X.env.scope y) (hfy : X.fn y = true ∨ X.env.scope.names.lookup y = some .local) :
    PG X (.Tuple [.Name x p1, .Name y p2] kk pos) (gTup X.K 2 (gCons (gName i) (gCons (gName j) gNil))) :=
  pg_tup hc (pgs_cons (pg_name hN hi hx hfx) (pgs_cons (pg_name hN hj hy hfy) pgs_nil))
/-! ### repr of a bool, a call by keywords alone -/
section
variable {X : Cx}
def boolText (b : Bool) : Str := if b then "True" else "False"
theorem call_repr_bool : CallR X (.builtin "repr") (fun xs H Q => ∃ b, xs = [.bl b] ∧ Q (.str (boolText b)) H) := by
  intro pins s σ H xs us Q I r h
  obtain ⟨b, rfl, q⟩ := h
  obtain ⟨u, rfl, rx⟩ := vals1 r
  cases (show u = Value.bool b from rx)
  exact PySem.P.repr_of_bool ⟨.str _, H, I.tok _, ⟨_, rfl⟩, q⟩
theorem boolText_inj {a b : Bool} : boolText a = boolText b ↔ a = b := by
  cases a <;> cases b <;> decide
variable {k : Nat} {f : Addr} {fd : FuncData} {ps ks : List Str} {sp : Sp} {CX : CXT} {E : XK} {x : Str} {p pos : Pos} {kws : List PySem.Keyword} {tk : TA} {g : List Value → List Value → List Value} {gV : List V → List V → List V}
theorem pe_callK0 (F : FnOk X.prog X.w X.K X.mg X.base CX k f fd ps sp) (hr : Room k X.A) (hg : Gl X x) (hm : X.mg x = some (.ref f)) (hk : PySem.W.keepIn X.K (.ref f) = true) (hb : KBinds X.K fd ps ks g gV) (hx : Passes CX X E)
    (hkw : PK X kws tk) (hall : (backToKw pos (keywordEach kws X.env)).all (·.1.isSome) = true := by rfl) (hks : (backToKw pos (keywordEach kws X.env)).filterMap (·.1) = ks := by rfl)
    (hdb : (x == ("__debug__" : Str)) = false := by decide)
    (hpl : ((backTo pos (starEach [] X.env)).any (·.1) || (backToKw pos (keywordEach kws X.env)).any (·.1.isNone)) = false := by rfl) :
    PE X (.Call (.Name x p) [] kws pos) (tCallK sp gV E tNil tk) := by
  refine ⟨fun pins s σ H Q I h => ?_⟩
  refine wpAny_Call_Name_kw (ld_glob I hg hm ?_ hdb)
  refine PySem.W.callWith_KW0 (h₀ := X.base) I.ok.mod.kin hk hall ?_ hpl
  refine thn (hkw.run pos pins s σ H _ I h) fun ws s2 ⟨zs, H2, I2, rz, q2⟩ => ⟨I2.kIn, ?_⟩
  rw [hks]
  exact run_fnk F hr hb hx I2 .nil rz q2
end
/-- two values by keywords, in the other order -/
def swap2 {α : Type} : List α → List α → List α
  | [], [a, b] => [b, a]
  | _, _ => []
theorem swap2_len {α : Type} {us ws : List α} (h : (swap2 us ws).length = 2) : ∃ a b, us = [] ∧ ws = [a, b] := by
  match us, ws, h with
  | [], [a, b], _ => exact ⟨a, b, rfl, rfl⟩
  | [], [], h => cases h
  | [], [_], h => cases h
  | [], _ :: _ :: _ :: _, h => cases h
  | _ :: _, _, h => cases h
theorem swap2_rel {vs : List V} {us : List Value} {zs : List V} {ws : List Value} (r : Vals vs us) (rz : Vals zs ws) : Vals (swap2 vs zs) (swap2 us ws) := by
  cases r with
  | nil =>
    cases rz with
    | nil => exact .nil
    | cons r1 rz =>
      cases rz with
      | nil => exact .nil
      | cons r2 rz =>
        cases rz with
        | nil => exact .cons r2 (.cons r1 .nil)
        | cons r3 rz => exact .nil
  | cons r1 r => exact .nil
/-- the built-in names that the text leaves alone -/
structure Bi (mg : Str → Option Value) : Prop where
  isi : mg "isinstance" = none
  int : mg "int" = none
  bool : mg "bool" = none
  tuple : mg "tuple" = none
  list : mg "list" = none
  all : mg "all" = none
  any : mg "any" = none
  zip : mg "zip" = none
  len : mg "len" = none
  range : mg "range" = none
  abs : mg "abs" = none
  sorted : mg "sorted" = none
  min : mg "min" = none
  repr : mg "repr" = none
  max : mg "max" = none
  sum : mg "sum" = none
  enumerate : mg "enumerate" = none
  str : mg "str" = none
  set : mg "set" = none
  dict : mg "dict" = none
  vErr : mg "ValueError" = none
/-! ### small things -/
/-- where a def stands, and that its name tells it -/
structure Def (K : PySem.W.Frag) (mg : Str → Option Value) (x : Str) (st : Stmt) (f : Addr) (fd : FuncData) (ps : List Str) : Prop where
  fn : Fun K x x st f fd
  gl : mg x = some (.ref f)
  bi : Binds K fd ps []
theorem ixN_at {n j : Nat} (hj : j < n) : ixN n (j : Int) = some j := by
  unfold ixN
  rw [if_pos (by omega), if_pos (by omega)]
  simp
theorem flat_rep {α : Type} (x : α) : ∀ n : Nat, (List.replicate n [x]).flatten = List.replicate n x
  | 0 => rfl
  | n + 1 => by rw [List.replicate_succ, List.flatten_cons, flat_rep x n, List.replicate_succ]; rfl
theorem take_more {α : Type} {l : List α} {i : Nat} {x : α} (h : l[i]? = some x) : l.take (i + 1) = l.take i ++ [x] := by
  rw [List.take_add_one, h]; rfl
theorem all_true (n : Nat) : (List.replicate n true).all id = true := by
  rw [List.all_eq_true]
  intro x hx
  exact (List.mem_replicate.mp hx).2
end Ov
namespace Ov
open PySem PySem.Spec PyProof.Rows L2
/-! ### defs that are called where no repr is under way: what they show of lists and tuples is then known -/
/-- the promise of a def, for calls under no guard -/
structure FnG (P : Program) (w : World) (K : PySem.W.Frag) (mg : Str → Option Value) (base : Heap) (k : Nat) (f : Addr) (fd : FuncData) (ps : List Str) (sp : Sp) : Prop where
  len : ∀ vs H Q E, sp vs H Q E → vs.length = ps.length
  run : ∀ (A : Around) (outer : List Env) (s : Shared) (H : Hp) (args : Args) (us : List Value) (vs : List V) (Q : VK) (E : XK),
    A.guards = some [] → Room k A → Env0 P w K mg base A outer s H → BindsTo s fd args (ps.zip us) → Vals vs us → sp vs H Q E →
    codeAny (model P w) A (.call (.ref f) args) (CR CX0 outer P w H s Q E) s
section
variable {P : Program} {w : World} {K : PySem.W.Frag} {mg : Str → Option Value} {base : Heap}
theorem okG {x qual : Str} {st : Stmt} {f : Addr} {fd : FuncData} {N ps : List Str} {k : Nat} {sp : Sp} (F : Fun K x qual st f fd) (S : FnScope N ps (defScope st)) (len : ∀ vs H Q E, sp vs H Q E → vs.length = ps.length)
    (body : ∀ (cdv : Value) (A : Around) (outer : List Env) (s : Shared) (H : Hp) (vs : List V) (Q : VK) (E : XK), A.guards = some [] → Room k (A.deeper (envOfC qual (defScope st) s.heap.objs.size f cdv)) → sp vs H Q E →
      ∃ t, PSs (cxOf CX0 P w K mg base N qual (defScope st) f cdv A outer s H E).nox (defBody st) t ∧ t { nx := fun _ H' => Q .non H', rt := Q } (start N vs) H) :
    FnG P w K mg base (k + 1) f fd ps sp := by
  obtain ⟨oc, od, kV, doc, pm, an, cdv, ct, osl, rfl, lk, hcd⟩ := F.ex
  constructor
  · exact len
  intro A outer s H args us vs Q E gd room env bnd rel pr
  obtain ⟨t, walk, reads⟩ := body cdv A outer s H vs Q E gd (room.deeper _) pr
  have down : ∀ b o, base.get? b = some o → s.heap.get? b = some o := fun b o e => (env.bs b o e).1
  have kin := env.mod.kin.keeps down
  have kinds : ∀ y ∈ ps.zip us, (defScope st).names.lookup y.1 = some .local ∨ ((defScope st).names.lookup y.1 = some .cell ∧ ((cellsFrom (s.heap.objs.size + 1) (defScope st).names []).lookup y.1).isSome = true) := by
    rintro ⟨y, v⟩ hy
    have hm := (List.of_mem_zip hy).1
    exact (S.par y hm).imp id fun q => ⟨q, PySem.W.cellsFrom_some _ _ _ (.inl q)⟩
  refine codeAny_call_function room.depth (kin _ _ lk) rfl S.co S.gen rfl (PySem.W.codeRec_of kin hcd) (bnd _ _ _ _ (wpAny_newFunctionEnv_cells S.kind kinds ?_))
  rintro env' rfl s1 ic
  refine ⟨(env.mod.nolimit.keeps down).keeps ic.toInCall.keep, codeAny_func (wpAny_mono (walk.nox.run [] s1 (start N vs) H _ (inv_start S room.hd env (len _ _ _ _ pr) rel ic) reads) ?_ fun _ _ h => h)⟩
  intro fl s' h
  cases fl with
  | brk => obtain ⟨_, _, _, q⟩ := h; exact q.elim
  | cont => obtain ⟨_, _, _, q⟩ := h; exact q.elim
  | next => obtain ⟨_, H', J, q⟩ := h; exact ⟨.non, H', J.os, J.bare, J.base, J.hok, rfl, q⟩
  | ret u => obtain ⟨v, _, H', J, rv, q⟩ := h; exact ⟨v, H', J.os, J.bare, J.base, J.hok, rv, q⟩
/-- a def that keeps its promise anywhere keeps it there -/
theorem FnG.of {k : Nat} {f : Addr} {fd : FuncData} {ps : List Str} {sp : Sp} (F : FnOk P w K mg base CX0 k f fd ps sp) : FnG P w K mg base k f fd ps sp :=
  ⟨F.len, fun A outer s H args us vs Q E _ => F.run A outer s H args us vs Q E⟩
end
section
variable {X : Cx} {k : Nat} {f : Addr} {fd : FuncData} {ps : List Str} {sp : Sp} {x : Str} {p pos : Pos} {e : Expr} {es : List Expr} {t : TA} {ds : List Value} {dvs : List V}
/-- such a def called by its name -/
theorem pe_callG (F : FnG X.prog X.w X.K X.mg X.base k f fd ps sp) (gd : X.A.guards = some []) (room : Room k X.A) (hg : Gl X x) (hm : X.mg x = some (.ref f)) (hk : PySem.W.keepIn X.K (.ref f) = true) (bi : Binds X.K fd ps [])
    (ha : PA X (e :: es) t) (hdb : (x == ("__debug__" : Str)) = false := by decide) (he : starEach (e :: es) X.env = (false, eval e X.env) :: starEach es X.env := by rfl) (hpl : (backTo pos (starEach es X.env)).any (·.1) = false := by rfl) :
    PE X (.Call (.Name x p) (e :: es) [] pos) (tCall sp [] E0 t) := by
  constructor
  intro pins s σ H Q I h
  refine wpAny_Call_Name_kw (ld_glob I hg hm (PySem.W.callWith_K (h₀ := X.base) I.ok.mod.kin hk (thn (ha.run pos pins s σ H _ I h) ?_) he hpl) hdb)
  rintro us s1 ⟨vs, H1, I1, r, q⟩
  have pr : sp vs H1 Q E0 := by
    have z : sp (vs ++ []) H1 Q E0 := q
    rwa [List.append_nil] at z
  have hl : us.length = ps.length := by rw [← r.length]; exact F.len _ _ _ _ pr
  have bt := bi s1 us I1.kIn (by simpa using hl)
  rw [List.append_nil] at bt
  refine ⟨I1.kIn, wpAny_call (codeAny_mono (F.run X.A X.stack s1 H1 ⟨us, []⟩ us vs Q E0 gd room I1.env0 bt r pr) ?_)⟩
  intro rs s' hq
  match rs, hq with
  | .error e, hq => exact (show False from hq).elim
  | .ok (.ret u), hq => exact I1.after hq
  | .ok .next, hq => exact (show False from hq).elim
  | .ok .brk, hq => exact (show False from hq).elim
  | .ok .cont, hq => exact (show False from hq).elim
/-- what is shown of lists and tuples of any depth -/
theorem call_repr_data (gd : X.A.guards = some []) (room : Room k X.A) : CallR X (.builtin "repr") (fun xs H Q => ∃ a d, xs = [.ref a] ∧ Dp X.K H (.ref a) d ∧ d.showable = true ∧ d.hasDict = false ∧ d.depth ≤ 60 ∧ d.shown.length ≤ sizeLine ∧ Q (.str d.shown) H) := by
  intro pins s σ H xs us Q I r h
  obtain ⟨a, d, rfl, hd, sh, nod, dep, sz, q⟩ := h
  obtain ⟨u, rfl, rx⟩ := vals1 r
  cases (show u = Value.ref a from rx)
  obtain ⟨as, rd⟩ := Dp.reads I d _ _ hd rx
  have un := room.un
  refine repr_of_reads' (h₀ := s.heap) rd sh (fun z => by rw [nod] at z; cases z) gd (by omega) (fun _ _ e => e) ?_ sz
  intro h' u tk kp
  exact ⟨.str d.shown, H, I.kept (t' := tk) kp, ⟨u, rfl⟩, q⟩
end
end Ov
namespace Ov
open PySem PySem.Spec PyProof.Rows L2
/-- the law's call, from its promise under no guard -/
theorem callG {P : Program} {w : World} {K : PySem.W.Frag} {mg mb : Str → Option Value} {k : Nat} {fa a : Addr} {fd : FuncData} {x : Str} {sp : Sp} {s : Shared} {vs : List Value} {ns : List Int}
    (KX : K.In s.heap) (hns : s.heap.Ns mainGlobals mg) (hb : s.heap.Ns builtinsNs mb) (hbb : ∀ x : Str, x ≠ "__name__" → mb x = bootBuiltins x) (hlim : s.heap.NoLimit) (hg : s.gens = #[])
    (ha : s.heap.get? a = some { cls := .type "list", data := .seq vs.toArray }) (hi : IntsAre vs ns) (hl : ns.length ≤ sizeLine) (room : Room k callerA)
    (F : ∀ base : Heap, K.In base → base.Ns mainGlobals mg → FnG P w K mg base k fa fd [x] sp) (bind : ∀ (s : Shared) (u : Value), BindsTo s fd ⟨[u], []⟩ [(x, u)])
    (pr : ∀ H : Hp, SqL K H a (ns.map V.int) → sp [.ref a] H (fun v _ => v = .bl true) fun _ _ _ => False) :
    codeAny (model P w) callerA (.call (.ref fa) ⟨[.ref a], []⟩) (fun r s' => r = .ok (.ret (.bool true)) ∧ OldK s.heap s'.heap ∧ s'.os = s.os ∧ AllBare s'.gens) s := by
  have rv : Vals (ns.map V.int) vs := vals_ints hi
  -- what is tracked: the script, unless it is the module's own
  obtain ⟨H, seq, hok, only, sep, froz⟩ : ∃ H : Hp, SqL K H a (ns.map V.int) ∧ HOk P w H s.heap ∧ (∀ b, H b ≠ none → b = a) ∧ (H a ≠ none → K.lookup a = none) ∧ (∀ b u, H b = some u → ∃ o xs, u = .frz o (.lst xs)) := by
    cases hk : K.lookup a with
    | some o =>
      have e : o = { cls := .type "list", data := .seq vs.toArray } := Option.some.inj ((KX a o hk).symm.trans ha)
      subst e
      exact ⟨fun _ => none, .inr ⟨_, vs.toArray, _, hk, rfl, rfl, rfl, by rw [List.size_toArray, hi.length]; exact hl, by simpa using rv⟩, (fun _ _ z => nomatch z), (fun _ z => absurd rfl z), (fun z => absurd rfl z), (fun _ _ z => nomatch z)⟩
    | none =>
      refine ⟨fun b => if b = a then some (.frz { cls := .type "list", data := .seq vs.toArray } (.lst (ns.map V.int))) else none, .inl (.inr ⟨_, if_pos rfl⟩), ?_, ?_, fun _ => rfl, ?_⟩
      · intro b u z
        by_cases e : b = a
        · subst e
          have z' : HO.frz { cls := .type "list", data := .seq vs.toArray } (.lst (ns.map V.int)) = u := Option.some.inj ((if_pos rfl).symm.trans z)
          subst z'
          exact ⟨ha, by rw [List.length_map]; exact hl, vs, _, rv, ha⟩
        · exact absurd ((if_neg e).symm.trans z) (fun y => nomatch y)
      · intro b z
        by_cases e : b = a
        · exact e
        · exact absurd (if_neg e) z
      · intro b u z
        by_cases e : b = a
        · exact ⟨_, _, (Option.some.inj ((if_pos e).symm.trans z)).symm⟩
        · exact absurd ((if_neg e).symm.trans z) (fun y => nomatch y)
  -- the base: all the rest
  have rest : ∀ {b : Addr} {o : Obj}, s.heap.get? b = some o → H b = none → (hidT s.heap H).get? b = some o := fun e n => hidT_get e n
  have gone : ∀ {b : Addr}, b ≠ a → H b = none := fun {b} n => by
    cases z : H b with
    | none => rfl
    | some u => exact absurd (only b (by rw [z]; exact fun y => nomatch y)) n
  have spaces : ∀ {b : Addr} {m : Str → Option Value}, s.heap.Ns b m → (hidT s.heap H).Ns b m := by
    rintro b m ⟨o, es, ep, e, d, r⟩
    refine ⟨o, es, ep, rest e (gone ?_), d, r⟩
    rintro rfl
    have eo : o = { cls := .type "list", data := .seq vs.toArray } := Option.some.inj (e.symm.trans ha)
    rw [eo] at d
    cases (show Data.seq vs.toArray _ = Data.dict es ep from d)
  have kin : K.In (hidT s.heap H) := fun b o e => rest (KX b o e) (by
    cases z : H b with
    | none => rfl
    | some u =>
      have eb := only b (by rw [z]; exact fun y => nomatch y)
      subst eb
      rw [sep (by rw [z]; exact fun y => nomatch y)] at e
      cases e)
  obtain ⟨mc, lim1, lim2⟩ := hlim
  have env : Env0 P w K mg (hidT s.heap H) callerA [] s H :=
    ⟨rfl, ⟨kin, spaces hns, ⟨mb, spaces hb, hbb⟩, ⟨mc, spaces lim1, lim2⟩⟩, fun b o e => of_hidT e, Nat.le_of_eq (hidT_size _ _), trivial, fun b hb => absurd (show b ∈ ([] : List Addr) from hb) (by simp), hok, .of_eq hg⟩
  refine codeAny_mono ((F _ kin (spaces hns)).run callerA [] s H ⟨[.ref a], []⟩ [.ref a] [.ref a] _ _ rfl room env (bind s (.ref a)) (.cons rfl .nil) (pr H seq)) ?_
  intro r s' h
  match r, h with
  | .error e, h => exact (show False from h).elim
  | .ok .next, h => exact (show False from h).elim
  | .ok .brk, h => exact (show False from h).elim
  | .ok .cont, h => exact (show False from h).elim
  | .ok (.ret u), ⟨v, H', os, bare, un, hok', rel, q⟩ =>
    have ev : v = .bl true := q
    subst ev
    obtain rfl : u = Value.bool true := rel
    refine ⟨rfl, OldK.of_keep fun b o e => ?_, os, bare⟩
    cases z : H b with
    | none => exact un.keep b o e z (fun y => absurd (show b ∈ ([] : List Addr) from y) (by simp)) (by simp)
    | some u =>
      obtain ⟨ob, xs, rfl⟩ := froz b u z
      have h1 := (hok b _ z).1
      have h2 := (hok' b _ (un.frzs b ob _ z)).1
      have eo : o = ob := Option.some.inj (e.symm.trans h1)
      rw [eo]
      exact h2
theorem walkG {l : PySem.W.OpenLaw} {n k : Nat} {q : Program} {loose : List Str} {XP : (Str → Option Value) → Heap → Prop} {YP : World → Heap → Prop} {d : DefRec} {K : Params → PySem.W.Frag} {sp : PySem.W.Frag → Sp} {x : Str}
    (hn : l.most = some n) (hn2 : n ≤ sizeLine) (hdf : d.params.defaults = []) (room : Room k callerA) (hY : ∀ (w : World) (h : Heap), YP w h → (K w.params).In h)
    (F : ∀ (w : World) (mg : Str → Option Value) (fa : Addr) (h : Heap), (K w.params).In h → h.Ns mainGlobals mg → mg d.name = some (.ref fa) →
      ∃ fd : FuncData, (∀ (s : Shared) (u : Value), BindsTo s fd ⟨[u], []⟩ [(x, u)]) ∧ ∀ base : Heap, (K w.params).In base → base.Ns mainGlobals mg → FnG l.prog w (K w.params) mg base k fa fd [x] (sp (K w.params)))
    (pr : ∀ (K : PySem.W.Frag) (H : Hp) (a : Addr) (ns : List Int), ns.length ≤ n → SqL K H a (ns.map V.int) → sp K [.ref a] H (fun v _ => v = .bl true) fun _ _ _ => False) :
    PySem.W.WalkO q loose XP YP l.row.toRowW d [] (fun f vs => PySem.call f vs) := by
  refine Att.attach_call hn hdf ?_
  intro w s₀ s₁ mg mb fa o pm cd doc a vs ns G Y ho hd hcd hmg hobj hints hlen hg
  have kin := hY w _ Y
  obtain ⟨fd, bind, okF⟩ := F w mg fa _ kin G.T.g hmg
  exact callG kin G.T.g G.T.b G.T.builtins G.T.nolimit hg hobj hints (Nat.le_trans hlen hn2) room okF bind fun H seq => pr (K w.params) H a ns hlen seq
end Ov
namespace Ov
open PySem PySem.Spec PyProof.Rows L2
/-! ### how long a shown value may be -/
mutual
def nodes : PyData → Nat
  | .str x => 1 + (reprText x).length
  | .list xs => 1 + nodesAll xs
  | .tuple xs => 1 + nodesAll xs
  | .none => 1
  | .bool _ => 1
  | .int _ => 1
  | .dict kvs => 1 + (dictText (PyData.shownKv kvs)).length
def nodesAll : List PyData → Nat
  | [] => 0
  | x :: xs => nodes x + nodesAll xs
end
theorem strLen0 : (Str.ofString "None").length = 4 := by decide +kernel
theorem listText_le (ts : List Str) : (listText ts).length ≤ piled ts + 2 := by
  rw [listText_eq_join, strLen_append, strLen_append]
  have a : (Str.ofString "[").length = 1 := by decide +kernel
  have b : (Str.ofString "]").length = 1 := by decide +kernel
  cases ts with
  | nil =>
    have : (Str.join (Str.ofString ", ") []).length = 0 := by decide +kernel
    rw [a, b, this]; omega
  | cons t ts =>
    have := join_length_add (t :: ts) (List.cons_ne_nil _ _)
    rw [a, b]; omega
theorem tupleText_le (ts : List Str) : (tupleText ts).length ≤ piled ts + 3 := by
  unfold tupleText
  rw [strLen_append, strLen_append]
  have a : (Str.ofString "(").length = 1 := by decide +kernel
  have b : (Str.ofString (if (ts.length == 1) = true then ",)" else ")" : String)).length ≤ 2 := by
    by_cases h : (ts.length == 1) = true
    · rw [if_pos h]; decide +kernel
    · rw [if_neg h]; decide +kernel
  cases ts with
  | nil =>
    have : (Str.join (Str.ofString ", ") []).length = 0 := by decide +kernel
    rw [a, this]
    exact Nat.le_trans (Nat.add_le_add_left b _) (by omega)
  | cons t ts =>
    have := join_length_add (t :: ts) (List.cons_ne_nil _ _)
    rw [a]
    omega
mutual
theorem shown_le : ∀ d : PyData, d.showable = true → d.shown.length + 10 ≤ 2000 * nodes d
  | .none, _ => by
    simp only [PyData.shown, nodes]
    rw [strLen0]; decide
  | .bool b, _ => by
    simp only [PyData.shown, nodes]
    cases b <;> decide +kernel
  | .int i, h => by
    simp only [PyData.shown, nodes]
    have := int_text_len_1921 (i := i) (by simpa [PyData.showable] using h)
    omega
  | .str x, _ => by
    simp only [PyData.shown, nodes]
    omega
  | .list xs, h => by
    simp only [PyData.shown, nodes]
    have := shownAll_le xs (by simpa [PyData.showable] using h)
    have := listText_le (PyData.shownAll xs)
    omega
  | .tuple xs, h => by
    simp only [PyData.shown, nodes]
    have := shownAll_le xs (by simpa [PyData.showable] using h)
    have := tupleText_le (PyData.shownAll xs)
    omega
  | .dict kvs, _ => by
    simp only [PyData.shown, nodes]
    omega
theorem shownAll_le : ∀ xs : List PyData, PyData.showableAll xs = true → piled (PyData.shownAll xs) ≤ 2000 * nodesAll xs
  | [], _ => by
    simp only [PyData.shownAll, nodesAll]
    decide +kernel
  | x :: xs, h => by
    have h' : x.showable = true ∧ PyData.showableAll xs = true := by simpa [PyData.showableAll] using h
    have h1 := shown_le x h'.1
    have h2 := shownAll_le xs h'.2
    simp only [PyData.shownAll, nodesAll]
    rw [piled_cons]
    omega
end
theorem fits_shown {d : PyData} (h : d.showable = true) (n : nodes d ≤ 8000) : d.shown.length ≤ sizeLine := by
  have := shown_le d h
  rw [sizeLine_eq]
  omega
/-! ### ints and least sums as data -/
theorem dp_ints {K : PySem.W.Frag} {H : Hp} : ∀ ns : List Int, DpAll K H (ns.map V.int) (ns.map PyData.int)
  | [] => .nil
  | n :: ns => .cons (.int n) (dp_ints ns)
/-- a plain value: None, a bool, an int that is not too great to be shown -/
inductive Sc : PyData → Prop
  | non : Sc .none
  | bl (b : Bool) : Sc (.bool b)
  | int (i : Int) (h : i.natAbs.log2 < 1920) : Sc (.int i)
theorem Sc.small {i : Int} (h : i.natAbs < 2 ^ 1000) : Sc (.int i) := by
  refine .int i ?_
  by_cases e : i.natAbs = 0
  · rw [e]; decide
  · exact Nat.lt_of_lt_of_le ((Nat.log2_lt e).mpr h) (by decide)
structure Flat (ds : List PyData) : Prop where
  lay : PyData.canLayAll0 ds = true
  dep : PyData.depthAll ds = 0
  sh : PyData.showableAll ds = true
  nod : PyData.hasDictAll ds = false
  nds : nodesAll ds = ds.length
theorem flat_of : ∀ {ds : List PyData}, (∀ d ∈ ds, Sc d) → Flat ds
  | [], _ => ⟨by simp [PyData.canLayAll0], by simp [PyData.depthAll], by simp [PyData.showableAll], by simp [PyData.hasDictAll], by simp [nodesAll]⟩
  | d :: ds, h => by
    obtain ⟨h1, h2, h3, h4, h5⟩ := flat_of (ds := ds) fun x hx => h x (List.mem_cons_of_mem _ hx)
    have hd := h d List.mem_cons_self
    refine ⟨?_, ?_, ?_, ?_, ?_⟩
    · cases hd <;> simp [PyData.canLayAll0, PyData.canLay0, h1]
    · cases hd <;> simp [PyData.depthAll, PyData.depth, h2]
    · cases hd <;> simp_all [PyData.showableAll, PyData.showable]
    · cases hd <;> simp [PyData.hasDictAll, PyData.hasDict, h4]
    · cases hd <;> simp [nodesAll, nodes, h5] <;> omega
theorem shaped_tup {ds : List PyData} (f : Flat ds) : SeqAt.shaped (.tuple ds) = true := by
  unfold SeqAt.shaped
  simp [PyData.canLay0, PyData.depth, f.lay, f.dep]
theorem shaped_lst {ds : List PyData} (f : Flat ds) : SeqAt.shaped (.list ds) = true := by
  unfold SeqAt.shaped
  simp [PyData.canLay0, PyData.depth, f.lay, f.dep]
theorem flat_ints {ns : List Int} (h : ∀ n ∈ ns, n.natAbs < 2 ^ 1000) : Flat (ns.map PyData.int) := flat_of fun d hd => by
  obtain ⟨n, hn, rfl⟩ := List.mem_map.mp hd
  exact .small (h n hn)
theorem eqv_nil : ∀ ds : List PyData, PyData.eqv (.tuple ds) (.tuple []) = ds.isEmpty
  | [] => by simp [PyData.eqv, PyData.eqvAll]
  | d :: ds => by simp [PyData.eqv, PyData.eqvAll]
end Ov
namespace Ov
open PySem PySem.Spec PyProof.Rows L2
section
variable {X : Cx} {k : Nat}
/-- max of a tuple of ints -/
theorem cr_maxT (hc : X.calm = true) (room : Room k X.A) : CallR X (.builtin "max") (fun vs H Q => ∃ (a : Addr) (n : Int) (ns : List Int), vs = [.ref a] ∧ SqT X.K H a ((n :: ns).map V.int) ∧ Q (.int (ns.foldl max n)) H) := by
  intro pins s σ H vs us Q I r h
  obtain ⟨a, n, ns, rfl, hs, q⟩ := h
  obtain ⟨its, rv, pl, _⟩ := I.tuple hs
  obtain ⟨as, rd⟩ := Dp.readsAll I ((n :: ns).map PyData.int) _ its (dp_ints (n :: ns)) rv
  rw [Vals.ref1 r]
  have un := room.un
  have dep : PyData.depthAll ((n :: ns).map PyData.int) = 0 := by
    generalize n :: ns = l
    induction l with
    | nil => simp [PyData.depthAll]
    | cons x l ih => simp [PyData.depthAll, PyData.depth, ih]
  have ali : PySem.W.AlikeAll ((n :: ns).map PyData.int) := by
    constructor
    · intro x hx y hy
      obtain ⟨i, _, rfl⟩ := List.mem_map.mp hx
      obtain ⟨j, _, rfl⟩ := List.mem_map.mp hy
      simp [PySem.W.alike]
    · intro x hx
      obtain ⟨i, _, rfl⟩ := List.mem_map.mp hx
      exact fun z => nomatch z
  rw [List.map_cons] at rd ali dep
  refine PySem.W.max_tuple_data (I.ok.hd hc) pl (by simpa using rd) ali (by rw [dep]; omega) ?_
  intro i v h' tk bs hi hr kp
  rw [PySem.W.maxD_ints] at hr
  cases hr with
  | int => exact ⟨.int _, H, I.kept kp, ⟨_, rfl⟩, q⟩
end
end Ov
namespace Ov
open PySem PySem.Spec PyProof.Rows L2
/-! ### texts by their codes; a text so many times; list(range(n)) -/
def txt (l : List Nat) : Str := ⟨l.toArray⟩
theorem txt_inj {a b : List Nat} (h : txt a = txt b) : a = b := by
  have : a.toArray = b.toArray := congrArg Str.cps h
  simpa using congrArg Array.toList this
theorem txt_len (l : List Nat) : (txt l).length = l.length := by
  show l.toArray.size = _
  simp
theorem fold_reps : ∀ (k : Nat) (l : List Nat) (acc : Array Nat), (List.replicate k l.toArray).foldl (· ++ ·) acc = acc ++ (List.replicate k l).flatten.toArray
  | 0, l, acc => by simp
  | k + 1, l, acc => by
    rw [List.replicate_succ, List.foldl_cons, fold_reps k l, List.replicate_succ, List.flatten_cons]
    simp
section
variable {X : Cx}
/-- a text times a small number -/
theorem op_mulS : OpR X (binaryOp .Mult) (fun x y H Q => ∃ (l : List Nat) (n : Int), x = .str (txt l) ∧ y = .int n ∧ 0 ≤ n ∧ n ≤ 1000 ∧ l.length ≤ 1000 ∧ Q (.str (txt (List.replicate n.toNat l).flatten)) H) := by
  intro pins s σ H x y v u Q I rx ry h
  obtain ⟨l, n, rfl, rfl, h0, h1, hl, q⟩ := h
  obtain ⟨t, rfl⟩ := rx
  obtain ⟨t', rfl⟩ := ry
  have hlen := txt_len l
  have fin : ∀ (tk tk' : Nat), EP X pins σ Q (.str (txt (List.replicate n.toNat l).flatten) tk) { s with toks := tk' } := fun tk tk' => ⟨.str _, H, I.tok _, ⟨_, rfl⟩, q⟩
  refine PySem.P.mul_str ?_ ?_ ?_ ?_
  · rw [decide_eq_false (show ¬ n < -(2 ^ 63 : Int) by omega), decide_eq_false (show ¬ n ≥ 2 ^ 63 by omega)]
    rfl
  · intro a b
    rw [hlen]
    have hn : 1 ≤ n := by omega
    have : (1000 : Int) ≤ (2 ^ 63 - 1) / n := by
      rw [Int.le_ediv_iff_mul_le (by omega)]
      omega
    omega
  · intro a b
    rw [hlen]
    refine decide_eq_false ?_
    rw [sizeLine_eq]
    have : l.length * n.toNat ≤ 1000 * 1000 := Nat.mul_le_mul hl (by omega)
    omega
  · by_cases c : n < 1
    · rw [if_pos c]
      have hn : n.toNat = 0 := by omega
      have := fin s.toks (s.toks + 1)
      rw [hn] at this
      exact ⟨Nat.zero_le _, this⟩
    · rw [if_neg c]
      by_cases d : (n == 1 || (txt l).length == 0) = true
      · rw [if_pos d]
        have e : txt (List.replicate n.toNat l).flatten = txt l := by
          rcases Bool.or_eq_true_iff.mp d with d | d
          · have : n = 1 := eq_of_beq d
            subst this
            simp
          · have hz : l.length = 0 := by rw [← hlen]; exact eq_of_beq d
            have : l = [] := List.eq_nil_of_length_eq_zero hz
            subst this
            simp
        have := fin t s.toks
        rw [e] at this
        exact this
      · rw [if_neg d]
        have e : (⟨(List.replicate n.toNat (txt l).cps).foldl (· ++ ·) #[]⟩ : Str) = txt (List.replicate n.toNat l).flatten := by
          show (⟨(List.replicate n.toNat l.toArray).foldl (· ++ ·) #[]⟩ : Str) = _
          rw [fold_reps]
          simp [txt]
        rw [e]
        refine ⟨?_, fin s.toks (s.toks + 1)⟩
        rw [txt_len, sizeLine_eq]
        have h2 : (List.replicate n.toNat l).flatten.length = n.toNat * l.length := by simp
        rw [h2]
        have : n.toNat * l.length ≤ 1000 * 1000 := Nat.mul_le_mul (by omega) hl
        omega
/-- list(range(n)) -/
theorem pe_listRange {a : Expr} {ta : TE} {p p2 q pos : Pos} (hg : Gl X "list") (hm : X.mg "list" = none) (hg2 : Gl X "range") (hm2 : X.mg "range" = none) (ha : PE X a ta) (hc : X.calm = true := by rfl)
    (na : starEach [a] X.env = (false, eval a X.env) :: starEach [] X.env := by rfl) :
    PE X (.Call (.Name "list" p) [.Call (.Name "range" p2) [a] [] q] [] pos) (fun σ H Q => ta σ H fun x H1 => ∃ n : Nat, x = .int (n : Int) ∧ n ≤ 100000 ∧ ∀ l, H1 l = none → Q (.ref l) (upd H1 l (.lst ((List.range n).map fun i : Nat => V.int (i : Int))))) := by
  constructor
  intro pins s σ H Q I h
  have bl : bootBuiltins "list" = some (.type "list") := by decide +kernel
  refine Call_ (ld_blt I hg hm bl (PyProof.Rows.callWith_type1 (PyProof.Rows.args_cons ?_ rfl) rfl rfl))
  refine Call_ (ld_blt I hg2 hm2 boot_range (PyProof.Rows.callWith_type1 (PyProof.Rows.args_cons (thn (ha.run pins s σ H _ I h) ?_) na) na rfl))
  rintro v s1 ⟨x, H1, I1, r1, n, rfl, hn, q1⟩
  obtain ⟨t, rfl⟩ := r1
  refine PyProof.Rows.args_nil (call_range_1 (PyProof.Rows.args_nil ?_))
  have hsmall : Builtin.Range.small 0 (n : Int) 1 = true := small_one (by omega) (by omega) (by omega) (by omega)
  refine call_list_range (n := n) (I1.ok.hd hc) (Heap.get?_push_size _ rfl) hsmall ?_ (by omega) ?_
  · rw [rangeSize_nat]
    simp
  · intro h' tk acc c kp hat hit
    have vals : Vals ((List.range n).map fun i : Nat => V.int (i : Int)) acc.toList := by
      obtain ⟨hz, hv⟩ := hit
      have key : ∀ (l : List Value) (k : Nat), (∀ j v, l[j]? = some v → ∃ t, v = Value.int (0 + ((k + j : Nat) : Int) * 1) t) → Vals ((List.range' k l.length).map fun i : Nat => V.int (i : Int)) l := by
        intro l
        induction l with
        | nil => intro k _; exact .nil
        | cons v l ih =>
          intro k hk
          rw [List.length_cons, List.range'_succ, List.map_cons]
          refine .cons ?_ (ih (k + 1) fun j w hj => ?_)
          · obtain ⟨t, e⟩ := hk 0 v rfl
            exact ⟨t, by rw [e, show (0 + ((k + 0 : Nat) : Int) * 1) = (k : Int) by omega]⟩
          · obtain ⟨t, e⟩ := hk (j + 1) w hj
            exact ⟨t, by rw [e, show (0 + ((k + (j + 1) : Nat) : Int) * 1) = (0 + ((k + 1 + j : Nat) : Int) * 1) by omega]⟩
      have := key acc.toList 0 (fun j v hj => by
        obtain ⟨t, e⟩ := hv j v (by simpa using hj)
        exact ⟨t, by rw [e, show (0 + ((0 + j : Nat) : Int) * 1) = (0 + ((j : Nat) : Int) * 1) by omega]⟩)
      rw [Array.length_toList, hz, ← List.range_eq_range'] at this
      exact this
    have old : ∀ b o, s1.heap.get? b = some o → h'.get? b = some o := fun b o e => kp b o (Heap.get?_push_of_some _ e)
    have ez : ∀ (o : Obj), (s1.heap.push o).objs.size = s1.heap.objs.size + 1 := fun o => Heap.size_push _ _
    rw [ez] at hat ⊢
    have fit : ((List.range n).map fun i : Nat => V.int (i : Int)).length ≤ sizeLine := by
      rw [List.length_map, List.length_range, sizeLine_eq]
      omega
    exact ⟨.ref _, upd H1 (s1.heap.objs.size + 1) (.lst _), I1.laid (t' := tk) old (Nat.le_succ _) ⟨fit, acc.toList, c, vals, hat⟩, rfl, q1 _ (I1.hok.fresh (Nat.le_succ _))⟩
end
end Ov
namespace Ov
open PySem PySem.Spec PyProof.Rows L2
/-! ### a set of texts, made of a list of unlike ones: how many it holds -/
/-- the empty set as it is made -/
abbrev noText (led : Bool) : Obj := { cls := .type "set", dict := none, data := .set #[] 0 (.fresh 0 0 led) }
section
variable {prog : Program} {w : World} {A : Around} {R : Result → Shared → Prop} {it : Addr} {fp wr : List Addr} {G : Array GenState → Array GenState → Prop} {n : Nat} {P : Nat → Value → Prop} {St : Nat → Shared → Prop}
theorem has_next {xs : List Str} (nd : xs.Nodup) {i : Nat} (hi : i < xs.length) : (xs.take i).any (· == xs[i]) = false := by
  rw [List.any_eq_false]
  intro y hy e
  have ey : y = xs[i] := eq_of_beq e
  obtain ⟨j, hj, ej⟩ := List.mem_take_iff_getElem.mp hy
  have hlt : j < i := by omega
  exact (List.pairwise_iff_getElem.mp nd j i (by omega) hi hlt) (ej.trans ey)
/-- texts put into it, one behind another -/
theorem texts_in (W : WalksS prog w A.in1 it fp wr G n P St) (S : Addr) (out : S ∉ fp) {xs : List Str} (len : xs.length = n) (nd : xs.Nodup) (few : n + 1 < scanBound)
    (val : ∀ (i : Nat) (hi : i < xs.length) (v : Value), P i v → ∃ t, v = .str xs[i] t) :
    ∀ (left i : Nat) (s : Shared), i + left = n → St i s → s.heap.SetOf (PySem.strKind prog w) S (fun k => (xs.take i).any (· == k)) i →
      (∀ s', Moved (S :: wr) G s s' → s'.heap.SetOf (PySem.strKind prog w) S (fun k => xs.any (· == k)) n → R (.ok (.ret .none)) s') →
      codeAny (model prog w) A (.builtin "set.update.loop" ⟨[.ref S, .ref it], []⟩) R s := by
  have outw : S ∉ wr := fun z => out (W.sub _ z)
  have wide : ∀ b ∈ wr, b ∈ S :: wr := fun b z => List.mem_cons_of_mem _ z
  have carry : ∀ {s s' : Shared} {f : Str → Bool} {c : Nat}, Moved wr G s s' → s.heap.SetOf (PySem.strKind prog w) S f c → s'.heap.SetOf (PySem.strKind prog w) S f c := by
    rintro s s' f c mv ⟨o, es, ep, t, ho, more⟩
    exact ⟨o, es, ep, t, mv.heap S _ outw ho, more⟩
  intro left
  induction left with
  | zero =>
    intro i s e st hS fin
    obtain rfl : i = n := by omega
    refine codeAny_builtin PyProof.Rows.F.entry_set_update_loop ?_
    rw [Around.under_plainId PyProof.Rows.F.plain_set_update_loop _]
    refine wpAny_bind (W.done s _ _ st fun s' mv => wpAny_pure (fin s' (mv.mono wide) ?_))
    have := carry mv hS
    rwa [← len, List.take_length, len] at this
  | succ left ih =>
    intro i s e st hS fin
    have hi : i < xs.length := by omega
    refine codeAny_builtin PyProof.Rows.F.entry_set_update_loop ?_
    rw [Around.under_plainId PyProof.Rows.F.plain_set_update_loop _]
    refine wpAny_bind (W.item i s _ _ (by omega) st ?_)
    intro v s' pv st' mv
    obtain ⟨t, rfl⟩ := val i hi v pv
    refine wpAny_bind (wpAny_holding ?_)
    unfold setAdd
    refine wpAny_holding (wpAny_bind ((PySem.strKind prog w).pyHash (k := xs[i]) (strKind_is _ _ _ _) ?_))
    have held := carry mv hS
    refine wpAny_setAddHashed_of (knd := PySem.strKind prog w) (s := { s' with toks := s'.toks + 1 }) (strKind_is _ _ _ _) rfl held (by omega) ?_
    intro h' but hS2
    rw [has_next nd hi] at hS2
    have grown : h'.SetOf (PySem.strKind prog w) S (fun k => (xs.take (i + 1)).any (· == k)) (i + 1) := by
      refine SetOf_congr hS2 (fun k => ?_) rfl
      rw [List.take_add_one, List.getElem?_eq_getElem hi, List.any_append]
      congr 1
      show decide (k = xs[i]) = ([xs[i]].any (· == k))
      by_cases z : k = xs[i]
      · subst z; simp
      · have : (xs[i] == k) = false := beq_eq_false_iff_ne.mpr fun y => z y.symm
        simp [z, this]
    refine wpAny_pure ⟨plainId_quiet PyProof.Rows.F.plain_set_update_loop _, ih (i + 1) _ (by omega) (W.frame _ s' _ _ st' (Nat.le_succ _) ?_) grown ?_⟩
    · intro b hb o eb
      rw [but.2 b fun z => out (z ▸ hb)]
      exact eb
    · intro s'' mv'' hS''
      refine fin s'' (Moved.trans W.gtrans ((mv.mono wide).then_heap (Nat.le_succ _) ?_) mv'') hS''
      intro b o hb eb
      rw [but.2 b fun z => hb (z ▸ List.mem_cons_self)]
      exact eb
end
section
variable {prog : Program} {w : World} {A : Around} {E : Value → Shared → Prop} {s : Shared}
theorem set_texts {l : Addr} {items : Array Value} {xs : List Str} {Q : Value → Shared → Prop} (hh : A.handled = none) (hl : s.heap.IsList l items) (hi : StrsAre items.toList xs) (nd : xs.Nodup) (few : xs.length + 1 < scanBound)
    (h : ∀ (h' : Heap) (tk : Nat), h'.SetOf (PySem.strKind prog w) s.heap.objs.size (fun k => xs.any (· == k)) xs.length → (∀ b o, b < s.heap.objs.size → s.heap.get? b = some o → h'.get? b = some o) → Q (.ref s.heap.objs.size) { s with heap := h', toks := tk }) :
    wpAny (model prog w) A (call (.type "set") [.ref l]) Q E s := by
  obtain ⟨c, tl, hmro⟩ := PySem.F.called_set.mro
  have q1 := PySem.F.called_set.made
  have q2 := PySem.F.called_set.sub
  have q3 := PySem.F.called_set.notType
  have q4 := PySem.F.called_set.canCreate
  have q5 := PySem.F.typeCall_set_1 (.ref l)
  refine wpAny_call (codeAny_of_tree ?_)
  show wpAny _ _ (callAny (.type "set") _) _ _ _
  refine wpAny_pure ⟨Code.quiet_builtin _ (by decide +kernel), codeAny_builtin PySem.F.entry_type_call ?_⟩
  rw [Around.under_plain (weight_type_call_type "set" [.ref l] []) rfl]
  repeat (any_goals (first | assumption | wp_step))
  refine codeAny_mono (code_set_new_1 (.ref l) (E := E) (Q₁ := fun obj s₁ => ∃ led : Bool, obj = .ref s.heap.objs.size ∧ s₁ = { s with heap := s.heap.push (noText led) }) fun led => ⟨led, rfl, rfl⟩) ?_
  intro r s₁ hr
  match r, hr with
  | .error e, hr => exact hr
  | .ok .next, hr => exact hr.elim
  | .ok .brk, hr => exact hr.elim
  | .ok .cont, hr => exact hr.elim
  | .ok (.ret obj), ⟨led, e1, e2⟩ =>
    subst e1 e2
    have at_ : (s.heap.push (noText led)).get? s.heap.objs.size = some (noText led) := Heap.get?_push_size _ rfl
    have ty : Shared.TypeIs { s with heap := s.heap.push (noText led) } (.ref s.heap.objs.size) "set" := ⟨_, at_, rfl⟩
    have q6 := PySem.F.called_set.init.lookup
    have q7 := PySem.F.called_set.init.bind (.ref s.heap.objs.size)
    repeat (any_goals (first | assumption | wp_step))
    refine codeAny_mono (codeAny_call_builtin (R := wants (fun r s₂ => r = .none ∧ ∃ h' tk, s₂ = { s with heap := h', toks := tk } ∧ h'.SetOf (PySem.strKind prog w) s.heap.objs.size (fun k => xs.any (· == k)) xs.length ∧
        (∀ b o, b < s.heap.objs.size → s.heap.get? b = some o → h'.get? b = some o)) E) PySem.F.called_set.init.plain PySem.F.entry_set_init (check_set_init_1 ty ?_)) ?_
    · obtain ⟨⟨cl, dc, dt, sl⟩, hol, hcl, nl, hdl⟩ := hl
      dsimp only at hcl hdl
      subst hcl hdl
      have below := Heap.lt_size hol
      have hol' : (s.heap.push (noText led)).get? l = some { cls := .type "list", dict := dc, data := .seq items nl, slots := sl } := Heap.get?_push_of_some _ hol
      have hl1 : (s.heap.push (noText led)).IsList l items := ⟨_, hol', rfl, nl, rfl⟩
      have q8 := PySem.F.sub_list_set
      have q9 := PySem.F.sub_list_frozenset
      have q0 : (Value.type "list" == Value.type "dict") = false := by decide
      unfold Builtin.«set.__init__» noKeywords Builtin.Frozenset.updateFrom
      generalize hPI : pyIter = PI
      wp_walk
      subst hPI
      have sz : (s.heap.push (noText led)).objs.size = s.heap.objs.size + 1 := Heap.size_push _ _
      have calm3 : A.in1.in1.in1.handled = none := by simp [hh]
      have apart : l ≠ (s.heap.push (noText led)).objs.size := by rw [sz]; exact Nat.ne_of_lt (Nat.lt_succ_of_lt below)
      have far : s.heap.objs.size ∉ [(s.heap.push (noText led)).objs.size, l] := by
        rw [sz]
        simp only [List.mem_cons, List.not_mem_nil, or_false, not_or]
        exact ⟨Nat.ne_of_lt (Nat.lt_succ_self _), Nat.ne_of_gt below⟩
      have len : xs.length = items.size := by rw [← StrsAre.len_eq hi, Array.length_toList]
      refine wpAny_pyIter_list hl1 (wpAny_bind (wpAny_runValue ?_))
      refine texts_in ((Walks.list calm3 _ l apart items).toS) s.heap.objs.size far len nd (by rw [← len]; exact few) (fun i hlt v hv => ?_) items.size 0 _ (by omega) ⟨⟨_, Heap.get?_push_size _ rfl, rfl, rfl⟩, hl1.push _⟩ ?_ ?_
      · obtain ⟨t, e⟩ := SS.strs_at hi i v (by rw [Array.getElem?_toList]; exact hv)
        refine ⟨t, ?_⟩
        rw [e, List.getD_eq_getElem?_getD, List.getElem?_eq_getElem hlt]
        rfl
      · exact SetOf_congr ((setObjOf_fresh (knd := PySem.strKind prog w) led).setOf (Heap.get?_push_of_some _ at_) (by unfold scanBound; omega)) (fun _ => rfl) rfl
      · rintro ⟨h', g', d', tk', os'⟩ mv hS'
        have eg : g' = s.gens := mv.gens
        have ed : d' = s.drawn := mv.drawn
        have eo : os' = s.os := mv.os
        subst eg ed eo
        refine wpAny_pure (wpAny_pure ⟨rfl, h', tk', rfl, by rw [len]; exact hS', ?_⟩)
        intro b o hb eb
        refine mv.heap b o ?_ (Heap.get?_push_of_some _ (Heap.get?_push_of_some _ eb))
        rw [sz]
        simp only [List.mem_cons, List.not_mem_nil, or_false, not_or]
        exact ⟨Nat.ne_of_lt hb, Nat.ne_of_lt (Nat.lt_succ_of_lt hb)⟩
    · intro r₂ s₂ hr₂
      match r₂, hr₂ with
      | .error e, hr₂ => exact hr₂
      | .ok .next, hr₂ => exact hr₂.elim
      | .ok .brk, hr₂ => exact hr₂.elim
      | .ok .cont, hr₂ => exact hr₂.elim
      | .ok (.ret r), ⟨e1, h', tk, e2, hS', kp⟩ =>
        subst e1 e2
        repeat (any_goals (first | assumption | wp_step))
        exact h _ _ hS' kp
end
section
variable {X : Cx}
/-- len(set(xs)), xs a list of unlike texts -/
theorem pe_lenSetT {a : Expr} {ta : TE} {p p2 q pos : Pos} (hc : X.calm = true) (hg : Gl X "len") (hm : X.mg "len" = none) (hg2 : Gl X "set") (hm2 : X.mg "set" = none) (ha : PE X a ta)
    (na : starEach [a] X.env = (false, eval a X.env) :: starEach [] X.env := by rfl) :
    PE X (.Call (.Name "len" p) [.Call (.Name "set" p2) [a] [] q] [] pos) (fun σ H Q => ta σ H fun x H1 => ∃ (l : Addr) (xs : List Str), x = .ref l ∧ SqL X.K H1 l (xs.map V.str) ∧ xs.Nodup ∧ xs.length ≤ 4000 ∧ Q (.int (xs.length : Int)) H1) := by
  constructor
  intro pins s σ H Q I h
  refine Call_ (ld_blt I hg hm boot_len (PyProof.Rows.callWith_builtin1 (PyProof.Rows.args_cons ?_ rfl) rfl rfl))
  refine Call_ (ld_blt I hg2 hm2 boot_set (PyProof.Rows.callWith_type1 (PyProof.Rows.args_cons (thn (ha.run pins s σ H _ I h) ?_) na) na rfl))
  rintro v s1 ⟨x, H1, I1, r1, l, xs, rfl, hq, nd, few, q1⟩
  cases r1
  refine PyProof.Rows.args_nil ?_
  obtain ⟨its, r, pl, hz⟩ := I1.list hq
  refine set_texts (I1.ok.hd hc) pl.isList (by simpa using strsAre_of r) nd (by unfold scanBound; omega) ?_
  intro h' tk hS kp
  refine PyProof.Rows.args_nil ?_
  obtain ⟨o, es, ep, t, ho, hex, hd, _, _, _, hf, hn⟩ := hS
  have I2 : Inv X pins σ H1 { s1 with heap := h', toks := tk } := I1.kept fun b o e => kp b o (Heap.lt_size e) e
  exact call_len_set ho hex hd hf (by rw [hn]; omega) ⟨.int xs.length, H1, I2.tok _, ⟨_, by rw [hn]⟩, q1⟩
end
end Ov
namespace Ov
open PySem PySem.Spec PyProof.Rows L2
/-! ### things of any kind: None, bools, ints, texts, lists, tuples and empty dicts, of any depth -/
mutual
inductive Dx (K : PySem.W.Frag) (H : Hp) : V → PyData → Prop
  | non : Dx K H .non .none
  | bl (b : Bool) : Dx K H (.bl b) (.bool b)
  | int (i : Int) : Dx K H (.int i) (.int i)
  | str (x : Str) : Dx K H (.str x) (.str x)
  | dct {a : Addr} : H a = some (.dK []) → Dx K H (.ref a) (.dict [])
  | lst {a : Addr} {xs : List V} {ds : List PyData} : SqL K H a xs → DxAll K H xs ds → Dx K H (.ref a) (.list ds)
  | tup {a : Addr} {xs : List V} {ds : List PyData} : SqT K H a xs → DxAll K H xs ds → Dx K H (.ref a) (.tuple ds)
inductive DxAll (K : PySem.W.Frag) (H : Hp) : List V → List PyData → Prop
  | nil : DxAll K H [] []
  | cons {v : V} {vs : List V} {d : PyData} {ds : List PyData} : Dx K H v d → DxAll K H vs ds → DxAll K H (v :: vs) (d :: ds)
end
theorem sqL_same {K : PySem.W.Frag} {H H' : Hp} {a : Addr} {xs : List V} (e : Same H H') (h : SqL K H a xs) : SqL K H' a xs := by
  rcases h with (h | ⟨o, h⟩) | h
  · exact .inl (.inl (e _ _ h))
  · exact .inl (.inr ⟨o, e _ _ h⟩)
  · exact .inr h
mutual
theorem Dx.same {K : PySem.W.Frag} {H H' : Hp} (e : Same H H') : ∀ {v : V} {d : PyData}, Dx K H v d → Dx K H' v d
  | _, _, .non => .non
  | _, _, .bl b => .bl b
  | _, _, .int i => .int i
  | _, _, .str x => .str x
  | _, _, .dct h => .dct (e _ _ h)
  | _, _, .lst h a => .lst (sqL_same e h) (DxAll.same e a)
  | _, _, .tup h a => .tup (e.tup h) (DxAll.same e a)
theorem DxAll.same {K : PySem.W.Frag} {H H' : Hp} (e : Same H H') : ∀ {vs : List V} {ds : List PyData}, DxAll K H vs ds → DxAll K H' vs ds
  | _, _, .nil => .nil
  | _, _, .cons h a => .cons (Dx.same e h) (DxAll.same e a)
end
theorem DxAll.at {K : PySem.W.Frag} {H : Hp} : ∀ {vs : List V} {ds : List PyData}, DxAll K H vs ds → ∀ {i : Nat} {v : V}, vs[i]? = some v → ∃ d, ds[i]? = some d ∧ Dx K H v d
  | _, _, .nil, i, v, e => by simp at e
  | _, _, .cons h a, 0, v, e => by cases e; exact ⟨_, rfl, h⟩
  | _, _, .cons h a, i + 1, v, e => a.at (i := i) e
theorem DxAll.len {K : PySem.W.Frag} {H : Hp} : ∀ {vs : List V} {ds : List PyData}, DxAll K H vs ds → vs.length = ds.length
  | _, _, .nil => rfl
  | _, _, .cons _ a => by rw [List.length_cons, List.length_cons, a.len]
theorem DxAll.app {K : PySem.W.Frag} {H : Hp} : ∀ {vs us : List V} {ds es : List PyData}, DxAll K H vs ds → DxAll K H us es → DxAll K H (vs ++ us) (ds ++ es)
  | _, _, _, _, .nil, b => b
  | _, _, _, _, .cons h a, b => .cons h (a.app b)
theorem dx_ints {K : PySem.W.Frag} {H : Hp} : ∀ ns : List Int, DxAll K H (ns.map V.int) (ns.map PyData.int)
  | [] => .nil
  | n :: ns => .cons (.int n) (dx_ints ns)
/-- the name of a thing's type -/
def tyN : PyData → String
  | .none => "NoneType" | .bool _ => "bool" | .int _ => "int" | .str _ => "str" | .list _ => "list" | .tuple _ => "tuple" | .dict _ => "dict"
theorem Dx.ty {K : PySem.W.Frag} {H : Hp} {v : V} {d : PyData} (h : Dx K H v d) : TyX K H v (.type (tyN d)) := by
  cases h with
  | non => exact .base .non
  | bl b => exact .base (.bl b)
  | int i => exact .base (.int i)
  | str x => exact .base (.str x)
  | dct h => exact .base (.dK h)
  | lst h _ =>
    rcases h with (h | ⟨o, h⟩) | ⟨o, its, n, h, c, _⟩
    · exact .base (.lst h)
    · exact .base (.frz h)
    · exact .kList h c
  | tup h _ =>
    rcases h with (h | ⟨o, h⟩) | ⟨o, its, n, h, c, _⟩
    · exact .base (.tup h)
    · exact .fTuple h
    · exact .kTuple h c
def isT : PyData → Bool | .tuple _ => true | _ => false
def isI : PyData → Bool | .int _ => true | .bool _ => true | _ => false
def isB : PyData → Bool | .bool _ => true | _ => false
def isL : PyData → Bool | .list _ => true | _ => false
def isS : PyData → Bool | .str _ => true | _ => false
theorem kit_t : ∀ d : PyData, kitB (tyN d) "tuple" = some (isT d)
  | .none => (by decide +kernel : kitB "NoneType" "tuple" = some false)
  | .bool _ => (by decide +kernel : kitB "bool" "tuple" = some false)
  | .int _ => (by decide +kernel : kitB "int" "tuple" = some false)
  | .str _ => (by decide +kernel : kitB "str" "tuple" = some false)
  | .list _ => (by decide +kernel : kitB "list" "tuple" = some false)
  | .tuple _ => (by decide +kernel : kitB "tuple" "tuple" = some true)
  | .dict _ => (by decide +kernel : kitB "dict" "tuple" = some false)
theorem kit_i : ∀ d : PyData, kitB (tyN d) "int" = some (isI d)
  | .none => (by decide +kernel : kitB "NoneType" "int" = some false)
  | .bool _ => (by decide +kernel : kitB "bool" "int" = some true)
  | .int _ => (by decide +kernel : kitB "int" "int" = some true)
  | .str _ => (by decide +kernel : kitB "str" "int" = some false)
  | .list _ => (by decide +kernel : kitB "list" "int" = some false)
  | .tuple _ => (by decide +kernel : kitB "tuple" "int" = some false)
  | .dict _ => (by decide +kernel : kitB "dict" "int" = some false)
theorem kit_b : ∀ d : PyData, kitB (tyN d) "bool" = some (isB d)
  | .none => (by decide +kernel : kitB "NoneType" "bool" = some false)
  | .bool _ => (by decide +kernel : kitB "bool" "bool" = some true)
  | .int _ => (by decide +kernel : kitB "int" "bool" = some false)
  | .str _ => (by decide +kernel : kitB "str" "bool" = some false)
  | .list _ => (by decide +kernel : kitB "list" "bool" = some false)
  | .tuple _ => (by decide +kernel : kitB "tuple" "bool" = some false)
  | .dict _ => (by decide +kernel : kitB "dict" "bool" = some false)
theorem kit_l : ∀ d : PyData, kitB (tyN d) "list" = some (isL d)
  | .none => (by decide +kernel : kitB "NoneType" "list" = some false)
  | .bool _ => (by decide +kernel : kitB "bool" "list" = some false)
  | .int _ => (by decide +kernel : kitB "int" "list" = some false)
  | .str _ => (by decide +kernel : kitB "str" "list" = some false)
  | .list _ => (by decide +kernel : kitB "list" "list" = some true)
  | .tuple _ => (by decide +kernel : kitB "tuple" "list" = some false)
  | .dict _ => (by decide +kernel : kitB "dict" "list" = some false)
theorem kit_s : ∀ d : PyData, kitB (tyN d) "str" = some (isS d)
  | .none => (by decide +kernel : kitB "NoneType" "str" = some false)
  | .bool _ => (by decide +kernel : kitB "bool" "str" = some false)
  | .int _ => (by decide +kernel : kitB "int" "str" = some false)
  | .str _ => (by decide +kernel : kitB "str" "str" = some true)
  | .list _ => (by decide +kernel : kitB "list" "str" = some false)
  | .tuple _ => (by decide +kernel : kitB "tuple" "str" = some false)
  | .dict _ => (by decide +kernel : kitB "dict" "str" = some false)
/-! ### what is shown of them -/
mutual
def noList : PyData → Bool
  | .list _ => false
  | .tuple ds => noListAll ds
  | _ => true
def noListAll : List PyData → Bool
  | [] => true
  | d :: ds => noList d && noListAll ds
end
section
variable {X : Cx} {pins : List (Addr × Obj)} {σ : L2.St} {H : Hp} {s : Shared}
mutual
theorem Dx.reads (I : Inv X pins σ H s) : ∀ (d : PyData) (v : V) (u : Value), Dx X.K H v d → RelV v u → ∃ as, Reads s.heap u d as ∧ (noList d = true → sysModules ∉ as)
  | .none, _, _, h, r => by
    cases h
    cases r
    exact ⟨_, Reads.none, fun _ z => nomatch z⟩
  | .bool b, _, _, h, r => by
    cases h
    cases r
    exact ⟨_, Reads.bool b, fun _ z => nomatch z⟩
  | .int i, _, _, h, r => by
    cases h
    obtain ⟨t, rfl⟩ := r
    exact ⟨_, Reads.int i t, fun _ z => nomatch z⟩
  | .str x, _, _, h, r => by
    cases h
    obtain ⟨t, rfl⟩ := r
    exact ⟨_, Reads.str x t, fun _ z => nomatch z⟩
  | .list ds, _, _, h, r => by
    cases h with
    | lst hs ha =>
      cases r
      obtain ⟨its, rv, ⟨o, n, ho, hc, _, hd⟩, _⟩ := I.list hs
      obtain ⟨as, hr, _⟩ := Dx.readsAll I ds _ its ha rv
      exact ⟨_, Reads.list ho hc hd hr, fun z => by simp [noList] at z⟩
  | .tuple ds, _, _, h, r => by
    cases h with
    | tup hs ha =>
      cases r
      obtain ⟨its, rv, ⟨o, ho, hc, n, hd⟩, _⟩ := I.tuple hs
      obtain ⟨as, hr, f⟩ := Dx.readsAll I ds _ its ha rv
      exact ⟨_, Reads.tuple ho hc hd hr, fun z => f (by simpa [noList] using z)⟩
  | .dict kvs, _, _, h, r => by
    cases h with
    | dct hs =>
      cases r
      obtain ⟨_, ns, vs, kv, o, es, ep, ho, hc, hd, hv⟩ := dk_of I.hok hs
      cases kv
      have e0 : es.toList = [] := by
        have z := hv.2.1
        revert z
        generalize es.toList = l
        intro z
        cases z
        rfl
      refine ⟨_, Reads.dict ho hc.1 hd (by rw [e0]; exact .nil) (by rw [e0]; exact .nil), fun _ z => ?_⟩
      rcases List.mem_cons.mp z with z | z
      · rw [← z] at ns
        cases ns
      · cases z
theorem Dx.readsAll (I : Inv X pins σ H s) : ∀ (ds : List PyData) (vs : List V) (us : List Value), DxAll X.K H vs ds → Vals vs us → ∃ as, ReadsAll s.heap us ds as ∧ (noListAll ds = true → sysModules ∉ as)
  | [], _, _, h, r => by
    cases h
    cases r
    exact ⟨_, ReadsAll.nil, fun _ z => nomatch z⟩
  | d :: ds, _, _, h, r => by
    cases h with
    | cons h1 h2 =>
      cases r with
      | cons r1 r2 =>
        obtain ⟨as, q1, f1⟩ := Dx.reads I d _ _ h1 r1
        obtain ⟨bs, q2, f2⟩ := Dx.readsAll I ds _ _ h2 r2
        refine ⟨_, ReadsAll.cons q1 q2, fun z m => ?_⟩
        have z' : noList d = true ∧ noListAll ds = true := by simpa [noListAll] using z
        exact (List.mem_append.mp m).elim (f1 z'.1) (f2 z'.2)
end
end
/-- what can be shown -/
structure Shows (d : PyData) : Prop where
  sh : d.showable = true
  nl : d.hasDict = true → noList d = true
  dep : d.depth ≤ 60
  nd : nodes d ≤ 8000
section
variable {X : Cx} {k : Nat}
theorem call_repr_x (gd : X.A.guards = some []) (room : Room k X.A) : CallR X (.builtin "repr") (fun xs H Q => ∃ v d, xs = [v] ∧ Dx X.K H v d ∧ Shows d ∧ Q (.str d.shown) H) := by
  intro pins s σ H xs us Q I r h
  obtain ⟨v, d, rfl, hd, S, q⟩ := h
  obtain ⟨u, rfl, rx⟩ := vals1 r
  have un := room.un
  have sz := fits_shown S.sh S.nd
  have ref : ∀ a : Addr, u = .ref a → wpAny (model X.prog X.w) X.A (call (.builtin "repr") [u]) (fun u' s' => ∃ v' H', Inv X pins σ H' s' ∧ RelV v' u' ∧ Q v' H') X.xe s := by
    intro a ha
    subst ha
    obtain ⟨as, rd, f⟩ := Dx.reads I d _ _ hd rx
    have dep := S.dep
    refine repr_of_reads' (h₀ := s.heap) rd S.sh (fun z => f (S.nl z)) gd (by omega) (fun _ _ e => e) ?_ sz
    intro h' u tk kp
    exact ⟨.str d.shown, H, I.kept (t' := tk) kp, ⟨u, rfl⟩, q⟩
  cases hd with
  | non =>
    cases (show u = Value.none from rx)
    exact PySem.P.repr_of_none ⟨.str _, H, I.tok _, ⟨_, rfl⟩, q⟩
  | bl b =>
    cases (show u = Value.bool b from rx)
    exact PySem.P.repr_of_bool ⟨.str _, H, I.tok _, ⟨_, rfl⟩, q⟩
  | int i =>
    obtain ⟨t, rfl⟩ := (show ∃ t, u = Value.int i t from rx)
    exact PySem.P.repr_of_int (by simpa [PyData.showable] using S.sh) ⟨.str _, H, I.tok _, ⟨_, rfl⟩, q⟩
  | str x =>
    obtain ⟨t, rfl⟩ := (show ∃ t, u = Value.str x t from rx)
    exact PySem.P.repr_of_str ⟨.str _, H, I.tok _, ⟨_, rfl⟩, q⟩ sz
  | dct h => exact ref _ rx
  | lst h a => exact ref _ rx
  | tup h a => exact ref _ rx
end
end Ov
namespace Ov
open PySem PySem.Spec PyProof.Rows L2
/-! ### exceptions of the program's classes as values: made, read, asked for their class -/
/-- C(e, ..) as a value, C's own __init__ keeping sp -/
def tMkV (C : Addr) (sp : Sp) (ta : TA) : TE := fun σ H Q => ta σ H fun vs H1 => vs.length ≤ 1000 ∧ ∀ a, H1 a = none → sp (.ref a :: vs) (upd H1 a (exo a C none)) (fun v H2 => v = .non ∧ Q (.ref a) H2) (fun _ _ _ => False)
section
variable {X : Cx} {o e : Expr} {es : List Expr} {to te : TE} {ta : TA} {f : Str} {p p' p1 p2 pos : Pos}
theorem pe_oexV {CX : CXT} {x : Str} {C fI : Addr} {k : Nat} {fd : FuncData} {ps : List Str} {sp : Sp} (T : OexC X.K C) (iC : PySem.W.findIn X.K (.ref C) "__init__" = some (some (.ref fI))) (tI : PySem.W.typeIn X.K (.ref fI) = some (.type "function"))
    (F1 : FnOk X.prog X.w X.K X.mg X.base CX k fI fd ps sp) (hr : Room (k + 1) X.A) (hb : Binds X.K fd ps []) (hx : Passes CX X (fun _ _ _ => False)) (hg : Gl X x) (hm : X.mg x = some (.ref C)) (ha : PA X (e :: es) ta)
    (hdb : (x == ("__debug__" : Str)) = false := by decide) (he : starEach (e :: es) X.env = (false, eval e X.env) :: starEach es X.env := by rfl) (hpl : (backTo pos (starEach es X.env)).any (·.1) = false := by rfl) :
    PE X (.Call (.Name x p) (e :: es) [] pos) (tMkV C sp ta) := by
  refine ⟨fun pins s σ H Q I h => ?_⟩
  obtain ⟨nm, q, N, bs, bm, sn, sub, ab, col, dd, k0, k1, k2, k3, k5, hC, hbm⟩ := T.cls
  refine wpAny_Call_Name_kw (ld_glob I hg hm ?_ hdb)
  refine PySem.W.callWith_K (h₀ := X.base) I.ok.mod.kin T.kC (thn (ha.run pos pins s σ H _ I h) fun us s1 ⟨vs, H1, I1, r1, hz, q1⟩ => ⟨I1.kIn, ?_⟩) he hpl
  show wpAny _ _ (call (.ref C) us) _ _ _
  obtain ⟨hp, g, dr, tk, os⟩ := s1
  have hsz : hp.objs.size ≤ hp.objs.size + 1 := Nat.le_succ _
  have hn : H1 (hp.objs.size + 1) = none := I1.hok.fresh hsz
  have hq := q1 (hp.objs.size + 1) hn
  have kk : ∀ b o, hp.get? b = some o → ((hp.push (PySem.W.kdv_tup us)).push (PySem.HandSPX.excO C hp.objs.size)).get? b = some o := fun b o e => Heap.get?_push_of_some _ (Heap.get?_push_of_some _ e)
  have hget : ((hp.push (PySem.W.kdv_tup us)).push (PySem.HandSPX.excO C hp.objs.size)).get? (hp.objs.size + 1) = some (PySem.HandSPX.excO C hp.objs.size) := by heap_get
  have I2 : Inv X pins σ (upd H1 (hp.objs.size + 1) (exo (hp.objs.size + 1) C none)) ⟨(hp.push (PySem.W.kdv_tup us)).push (PySem.HandSPX.excO C hp.objs.size), g, dr, tk, os⟩ :=
    I1.laid (t' := tk) (a := hp.objs.size + 1) (o := exo (hp.objs.size + 1) C none) (h' := (hp.push (PySem.W.kdv_tup us)).push (PySem.HandSPX.excO C hp.objs.size)) kk hsz (exo_ok hget)
  have r2 : Vals (V.ref (hp.objs.size + 1) :: vs) (Value.ref (hp.objs.size + 1) :: us) := .cons rfl r1
  have hl : (Value.ref (hp.objs.size + 1) :: us).length = ps.length := by
    have e := r2.length
    rw [F1.len _ _ _ _ hq] at e
    exact e.symm
  have hus : us.length ≤ sizeLine := by
    rw [← Paired.length r1, sizeLine_eq]
    omega
  have bt := hb _ (Value.ref (hp.objs.size + 1) :: us) I2.kIn (by simpa using hl)
  rw [List.append_nil] at bt
  refine wpAny_call (PySem.HandSPX.call_own F.excBase_ValueError (fun Y => PySem.HandSPX.refsVE_contains Y bm hbm) (I1.kIn _ _ hC) (PySem.W.looks_findIn I1.kIn iC) (fun self => PySem.W.bind_fn I1.kIn self tI) hus
    (codeAny_mono (F1.run _ X.stack _ _ ⟨Value.ref (hp.objs.size + 1) :: us, []⟩ (Value.ref (hp.objs.size + 1) :: us) _ _ (fun _ _ _ => False) (hr.make C us []) (I2.env0.make C us []) bt r2 hq) fun r s' hq' => ?_))
  cases r with
  | error er => exact hx pins σ _ _ er s' I2 hq'
  | ok fl =>
    cases fl with
    | ret u =>
      obtain ⟨v, H', I3, rv, ev, q3⟩ := I2.after hq'
      subst ev
      exact ⟨rv, ⟨V.ref (hp.objs.size + 1), H', I3, rfl, q3⟩⟩
    | next => exact False.elim hq'
    | brk => exact False.elim hq'
    | cont => exact False.elim hq'
/-- C() as a value, no own __init__ -/
theorem pe_exc0V {C : Addr} {bmB : List Value} {B newId initId : String} {x : Str} (F : ExcBaseFacts B newId initId bmB) (q : PySem.W.excIn X.K C bmB newId = true) (gC : X.mg x = some (.ref C)) (kC : PySem.W.keepIn X.K (.ref C) = true) (hg : Gl X x)
    (hdb : (x == ("__debug__" : Str)) = false := by decide) :
    PE X (.Call (.Name x p) [] [] pos) (fun σ H Q => ∀ a, H a = none → Q (.ref a) (upd H a (exo a C none))) := by
  refine ⟨fun pins s σ H Q I h => ?_⟩
  refine wpAny_Call_Name_kw (ld_glob I hg gC ?_ hdb)
  refine PySem.W.callWith_K0 I.kIn kC ?_
  obtain ⟨bm, N, nm, qn, bs, hdct, sn, sub, ab, col, dd, k0, k1, k2, k3, k5, mN, hC, hN, hni, T⟩ := exc_obj I.kIn q
  refine wpAny_call_exc_subT F T hC hN hni (fun h' a hm => ?_) (by show 0 ≤ sizeLine; exact Nat.zero_le _)
  have hn : H a = none := I.hok.gone hm.new
  obtain ⟨t, ht, _, _⟩ := hm.there
  exact ⟨.ref a, upd H a (exo a C none), I.laidN hm.keeps hm.new hn (exo_ok ht), rfl, h a hn⟩
/-- e.f, e an exception that stands in H -/
def tExf (K : PySem.W.Frag) (n : Str) (te : TE) : TE := fun σ H Q => te σ H fun x H1 => ∃ (a C dx : Addr) (fs : List (Str × V)) (v : V), x = .ref a ∧ XfC K C ∧ PySem.W.findIn K (.ref C) n = some none ∧ H1 a = some (exo a C (some dx)) ∧ H1 dx = some (exd dx fs) ∧ fs.lookup n = some v ∧ Q v H1
theorem pe_exf {n : Str} (he : PE X e te) (hb : attributeBase e n X.env (eval e X.env) = eval e X.env := by rfl) : PE X (.Attribute e n pos) (tExf X.K n te) := by
  refine ⟨fun pins s σ H Q I h => ?_⟩
  refine attr_of hb (thn (he.run pins s σ H _ I h) fun u s1 hh => ?_)
  obtain ⟨x, H1, I1, rx, a, C, dx, fs, v, ex, T, hno, ea, ed, l, q⟩ := hh
  subst ex
  obtain rfl : u = Value.ref a := rx
  obtain ⟨t1, ha⟩ := exo_at I1.hok ea
  obtain ⟨mA, hns, hr⟩ := exd_at I1.hok ed
  obtain ⟨od, ho, hl⟩ := lookIn_ns hns
  obtain ⟨u, hu, ru⟩ := RelO.some_of (v := v) (o := mA n) (by rw [← l]; exact hr n)
  have J : PySem.W.InstAt s1.heap a _ C (some od) := ⟨ha, rfl, rfl, ho⟩
  exact HandSPX.exc_get I1.kIn J T.ga T.gg T.exC (PySem.W.findObj_own T.hdC hno rfl (by rw [hl, hu])) (handed_of ru) ⟨v, H1, I1.tok _, ru, q⟩
/-- isinstance(e, c), e an exception that stands in H -/
def rIsX (K : PySem.W.Frag) : List V → Hp → VK → Prop := fun xs H Q => ∃ (a C : Addr) (d : Option Addr) (c : V) (cv : Value) (b : Bool), xs = [.ref a, c] ∧ ExcC K C ∧ H a = some (exo a C d) ∧ (∀ dx, d = some dx → ∃ fs, H dx = some (exd dx fs)) ∧ (∀ u, RelV c u → u = cv) ∧ PySem.W.kitOne K (.ref C) cv = some b ∧ Q (.bl b) H
theorem call_isX : CallR X (.builtin "isinstance") (rIsX X.K) := by
  intro pins s σ H xs us Q I r h
  obtain ⟨a, C, d, c, cv, b, rfl, E, ea, hd, hcv, e, q⟩ := h
  obtain ⟨u1, u2, rfl, r1, r2⟩ := vals2 r
  cases (show u1 = Value.ref a from r1)
  have ec := hcv _ r2
  subst ec
  obtain ⟨t1, ha⟩ := exo_at I.hok ea
  have hc : (PySem.W.clsIn X.K C).isSome = true := by
    obtain ⟨cd, z, _⟩ := PySem.W.any_some E.hd
    rw [z]
    rfl
  cases d with
  | none =>
    have J : PySem.W.InstAt s.heap a _ C none := ⟨ha, rfl, rfl, trivial⟩
    exact PySem.W.kia_one (PySem.W.kitx_exc hc E.hg E.hk E.hs E.ha E.hn E.ht E.hm) I.kIn J e (fun z => nomatch z) fun tk => ⟨.bl b, H, I.tok tk, rfl, q⟩
  | some dx =>
    obtain ⟨fs, ed⟩ := hd dx rfl
    obtain ⟨mA, hns, hr⟩ := exd_at I.hok ed
    obtain ⟨od, ho, hl⟩ := lookIn_ns hns
    have J : PySem.W.InstAt s.heap a _ C (some od) := ⟨ha, rfl, rfl, ho⟩
    exact PySem.W.kia_one (PySem.W.kitx_exc hc E.hg E.hk E.hs E.ha E.hn E.ht E.hm) I.kIn J e (fun z => nomatch z) fun tk => ⟨.bl b, H, I.tok tk, rfl, q⟩
end
end Ov
namespace Ov
open PySem PySem.Spec PyProof.Rows L2
section
variable {X : Cx}
/-- in every block of a comprehension -/
abbrev Blk (X : Cx) (sc : Scope) (R : Cx → Prop) : Prop := ∀ (s : Shared) (H : Hp) (C : Addr) (cl : List (Str × Addr)) (fp : List Addr), R (X.blk s H sc (compEnvC sc cl C X.env) fp)
/-- a local name that is given a new dict by a comprehension on its own row -/
theorem ps_setDc {i : Nat} {y : Str} {py pos ps : Pos} {kx vx tg it : Expr} {ifs : List Expr} {sc : Scope} {own : List (Str × Nat)} {wi : TI} {g : TG} {tt : TT} {tk tv : TE} (hc : X.calm = true) (nd : X.N.Nodup) (hy : X.N[i]? = some y) (loc : X.env.scope.names.lookup y = some .local)
    (sw : swapsWith (.DictComp kx vx [⟨tg, it, ifs, 0⟩] sc pos) (some (.Name y py)) ps.line X.env = pure true) (hi : PI X tg it wi) (ok : BlkOk X.N X.env.scope sc own) (hg : Blk X sc fun Y => PG Y tg g) (ht : Blk X sc fun Y => PTs Y ifs tt)
    (hk : Blk X sc fun Y => PE Y kx tk) (hv : Blk X sc fun Y => PE Y vx tv) (fs : ∀ x, foldedSetIterable it X.env x = pure x := by intro _; rfl) :
    PS X (.Assign [.Name y py] (.DictComp kx vx [⟨tg, it, ifs, 0⟩] sc pos) ps) (tAsg (tDc wi g tt tk tv (own.map (·.2))) (gName i)) := by
  constructor
  intro pins s σ H D I h
  rw [exec_Assign_Name_used _ _ _ _ sw]
  have core := dc_core (pos := pos) (pos' := firstIterPos [⟨tg, it, ifs, 0⟩] pos) (use := some (assign (.Name y py) X.env)) (Qf := fun _ t => SP X pins D .next t) (Q := fun x H1 => gName i x σ H1 D.nx) hc nd I hi ok hg ht hk hv fs h ?key
  · exact wpAny_bind (wpAny_standAt (wpAny_bind (wpAny_bind (thn core fun _ _ z => wpAny_pure (wpAny_pure z)))))
  case key =>
    intro L C t m G J q ns fp
    obtain ⟨p0, p1, _, p3, p4, p5⟩ := fp
    refine wpAny_assign_Name (store_ok2 (v := V.ref L) J nd hy (Or.inl loc) rfl ?_ (Or.inr loc))
    rintro t2 J2 ⟨a, sb, ha⟩
    have away : C ≠ a := ha.elim (fun z => z ▸ p1) (fun z w => p4 y a z w.symm)
    exact ⟨m, ns.sameBut sb away, fun _ sb3 => ⟨_, G, J2.turned (t' := t2.toks) (fun b _ hb e => (sb3.2 b hb).trans e) p0 p1 p3 p4 p5, q⟩⟩
theorem sw_dict {kx vx : Expr} {gs : List Comprehension} {sc : Scope} {pos py : Pos} {y : Str} {l : Nat} {env : Env} (kd : env.scope.kind = .function) (loc : env.scope.names.lookup y = some .local) (row : (py.line == pos.line) = true)
    (no : (sc.names.any fun (n, k) => n == y && (k == .local || k == .cell)) = false) : swapsWith (.DictComp kx vx gs sc pos) (some (.Name y py)) l env = pure true := by
  have h1 : env.blockKind = .function := by rw [Env.blockKind, kd]; rfl
  have h2 : env.kindOf y = some .local := loc
  rw [swapsWith]
  simp only [h1, h2, no, Expr.pos, row]
  rfl
end
end Ov
namespace Ov
open PySem PySem.Spec PyProof.Rows L2
/-! ### tuple * int where nothing new is made, or nothing is left -/
theorem mul_same (l : Addr) (it : Array Value) (n : Nat) (dd : Option Addr) (sl : Array (Option Value)) (x : Int) (u : Tok) (c0 : (decide (x < -(2 ^ 63)) || decide (x ≥ 2 ^ 63)) = false) (c1 : (it.isEmpty || x == 1) = true) :
    Meets (Builtin.«tuple.__mul__» ⟨[.ref l, .int x u], []⟩) (fun _ R s => s.heap.get? l = some { cls := .type "tuple", dict := dd, data := .seq it n, slots := sl } ∧ R (.ok (.ret (Value.ref l))) s) := by
  refine .of_wp fun prog w A R s h => ?_
  rcases s with ⟨hp, g, d, tk, os⟩
  rcases h with ⟨at_, hR⟩
  have ix := AutoSeq1.idx_int
  wp_walk using wpAny_loadPart' at_
  refine wpAny_ite_false (decide_eq_false fun z => by rw [c0] at z; cases z) ?_
  wp_walk using wpAny_loadPart' at_
  exact ⟨_, rfl, hR⟩
theorem mul_none (l : Addr) (it : Array Value) (n : Nat) (dd : Option Addr) (sl : Array (Option Value)) (x : Int) (u : Tok) (c0 : (decide (x < -(2 ^ 63)) || decide (x ≥ 2 ^ 63)) = false) (c1 : (it.isEmpty || x == 1) = false) (c2 : (decide (x ≤ 0) || it.isEmpty) = true) :
    Meets (Builtin.«tuple.__mul__» ⟨[.ref l, .int x u], []⟩) (fun _ R s => s.heap.get? l = some { cls := .type "tuple", dict := dd, data := .seq it n, slots := sl } ∧ R (.ok (.ret (Value.ref s.heap.objs.size))) { s with heap := s.heap.push { cls := Value.type "tuple", data := Data.seq #[] } }) := by
  refine .of_wp fun prog w A R s h => ?_
  rcases s with ⟨hp, g, d, tk, os⟩
  rcases h with ⟨at_, hR⟩
  have ix := AutoSeq1.idx_int
  wp_walk using wpAny_loadPart' at_
  refine wpAny_ite_false (decide_eq_false fun z => by rw [c0] at z; cases z) ?_
  wp_walk using wpAny_loadPart' at_
  exact ⟨_, rfl, hR⟩
/-- tuple * int, 0 to 1000 times -/
def rRepA (K : PySem.W.Frag) : R2 := fun x y H Q => ∃ (l : Addr) (k : Nat) (xs : List V), x = .ref l ∧ y = .int (k : Int) ∧ SqT K H l xs ∧ k ≤ 1000 ∧ xs.length ≤ 1000 ∧ (xs = [] ∨ k = 1 → Q (.ref l) H) ∧ (xs ≠ [] → k ≠ 1 → ∀ p, H p = none → Q (.ref p) (upd H p (.tup (List.replicate k xs).flatten)))
theorem op_repA {X : Cx} : OpR X (binaryOp .Mult) (rRepA X.K) := by
  intro pins s σ H x y v u Q I rx ry h
  have h0 := h
  obtain ⟨l, k, xs, ex, ey, hT, hk, hz, q1, q2⟩ := h
  by_cases big : xs ≠ [] ∧ 2 ≤ k
  · refine op_repT pins s σ H x y v u Q I rx ry ⟨l, (k : Int), xs, ex, ey, hT, big.1, by omega, by omega, hz, fun p np => ?_⟩
    rw [Int.toNat_natCast]
    exact q2 big.1 (by omega) p np
  subst ex ey
  cases rx
  obtain ⟨t, rfl⟩ := ry
  obtain ⟨its, r, ⟨⟨cls, dd, data, sl⟩, ho, hc, n, hd⟩, hs⟩ := I.tuple hT
  dsimp only at hc hd
  subst hc hd
  have le : its.length = xs.length := r.length.symm
  have c0 : (decide ((k : Int) < -(2 ^ 63)) || decide ((k : Int) ≥ 2 ^ 63)) = false := by
    rw [Bool.or_eq_false_iff]
    exact ⟨decide_eq_false (by omega), decide_eq_false (by omega)⟩
  by_cases one : xs = [] ∨ k = 1
  · have c1 : (its.toArray.isEmpty || (k : Int) == 1) = true := by
      rcases one with e | e
      · have : its = [] := List.eq_nil_of_length_eq_zero (by rw [le, e]; rfl)
        rw [this]
        rfl
      · rw [e, Bool.or_eq_true]
        exact .inr rfl
    exact wpAny_binaryOp_repeat_ref (T := "tuple") (U := "int") (by decide) ⟨_, ho, rfl⟩ (fun s' => typeIs_int s' _ t) noFill_tuple_mul F.fills_int_mul F.slot_int_rmul repeat_tuple F.slot_int_index.lookup
      (call_meets F.slot_int_rmul (typeIs_int s _ t) F.entry_int_rmul (F.args_int_rmul_2 _ _) (int_rmul_tuple _ t l its.toArray n dd sl)
        ⟨ho, rfl, ⟨_, ho, rfl⟩, call_meets F.slot_tuple_mul ⟨_, ho, rfl⟩ F.entry_tuple_mul (F.args_tuple_mul_2 _ _) (mul_same l its.toArray n dd sl _ t c0 c1) ⟨ho, .ref l, H, I, rfl, q1 one⟩⟩)
  · have k0 : k = 0 := by
      rcases Nat.lt_or_ge k 2 with z | z
      · have : k ≠ 1 := fun e => one (.inr e)
        omega
      · exact absurd ⟨fun e => one (.inl e), z⟩ big
    subst k0
    have ne : xs ≠ [] := fun e => one (.inl e)
    have c1 : (its.toArray.isEmpty || ((0 : Nat) : Int) == 1) = false := by
      cases its with
      | nil => exact absurd (List.eq_nil_of_length_eq_zero le.symm) ne
      | cons a b => rfl
    have hq := q2 ne (by decide) s.heap.objs.size (I.hok.fresh (Nat.le_refl _))
    refine wpAny_binaryOp_repeat_ref (T := "tuple") (U := "int") (by decide) ⟨_, ho, rfl⟩ (fun s' => typeIs_int s' _ t) noFill_tuple_mul F.fills_int_mul F.slot_int_rmul repeat_tuple F.slot_int_index.lookup
      (call_meets F.slot_int_rmul (typeIs_int s _ t) F.entry_int_rmul (F.args_int_rmul_2 _ _) (int_rmul_tuple _ t l its.toArray n dd sl)
        ⟨ho, rfl, ⟨_, ho, rfl⟩, call_meets F.slot_tuple_mul ⟨_, ho, rfl⟩ F.entry_tuple_mul (F.args_tuple_mul_2 _ _) (mul_none l its.toArray n dd sl _ t c0 c1 rfl) ⟨ho, .ref s.heap.objs.size, _, ?_, rfl, hq⟩⟩)
    exact I.laid (t' := s.toks) (o := .tup []) (fun b ob z => Heap.get?_push_of_some _ z) (Nat.le_refl _) ⟨Nat.zero_le _, [], .nil, IsTup.new _ _⟩
end Ov
namespace Ov
open PySem PySem.Spec PyProof.Rows L2
/-! ### sets of ints made by a comprehension -/
/-- an int that goes into the set at D -/
def PutI (w : World) (D : Addr) (y : V) (H : Hp) (N : Hp → Prop) : Prop := ∃ (c : Int) (S : Int → Bool) (n : Nat), y = .int c ∧ H D = some (SetO w D S n) ∧ n + 1 < scanBound ∧ N (upd H D (SetO w D (fun j => S j || decide (j = c)) (if S c = true then n else n + 1)))
/-- a turn: the item x, the test, the member -/
def TurnI (w : World) (D : Addr) (g : TG) (tt : TT) (te : TE) (σ0 : L2.St) (vs : List Nat) (x : V) (H : Hp) (N : Hp → Prop) : Prop := g x σ0 H fun σ2 H2 => wipe σ2 vs = σ0 ∧ tt σ2 H2 fun b H3 => if b = true then te σ2 H3 fun y H4 => PutI w D y H4 N else N H3
def tScI (w : World) (wi : TI) (g : TG) (tt : TT) (te : TE) (vs : List Nat) : TE := fun σ H Q => wi σ H fun J H1 => ∀ D, H1 D = none → ∃ W : Nat → Nat → Hp → Prop, (∃ m, W 0 m (upd H1 D (SetO w D (fun _ => false) 0))) ∧
  ∀ i m G, W i m G → (J.stop i G ∧ Q (.ref D) G) ∨ (J.go i G ∧ ∃ N : Hp → Prop, (∀ G', N G' → ∃ m', m' < m ∧ W (i + 1) m' G') ∧ ∀ x G', J.yld i G x G' → TurnI w D g tt te (wipe σ vs) vs x G' N)
section
variable {X : Cx}
theorem addI_ok {pins : List (Addr × Obj)} {σ : L2.St} {H : Hp} {s : Shared} {E : Value → Shared → Prop} {D : Addr} {S : Int → Bool} {n : Nat} {y : Int} {u : Value} {Q : Value → Shared → Prop} (I : Inv X pins σ H s) (hD : H D = some (SetO X.w D S n)) (room : n + 1 < scanBound) (ru : RelV (.int y) u)
    (h : ∀ t, Inv X pins σ (upd H D (SetO X.w D (fun j => S j || decide (j = y)) (if S y = true then n else n + 1))) t → Q .none t) : wpAny (model X.prog X.w) X.A (call (.builtin "set.add") [.ref D, u]) Q E s := by
  obtain ⟨tk, rfl⟩ := ru
  refine setR_add (setO_get I hD) room fun g sb nw => h _ ?_
  obtain ⟨o, _, _, _, ho, _⟩ := id nw
  exact I.write (e := D) (t' := s.toks + 1) (by rw [hD]; trivial) (.inl rfl) (fun b _ hb z => (sb.2 b hb).trans z) ⟨o, ho⟩ (setO_new nw)
/-- the object of a new set -/
abbrev set0 (w : World) : Obj := { cls := .type "set", dict := none, data := .set #[] 0 (.fresh 0 0 (!w.params.followText "set-order")) }
theorem pe_scI {el tg it : Expr} {ifs : List Expr} {sc : Scope} {own : List (Str × Nat)} {pos : Pos} {wi : TI} {g : TG} {tt : TT} {te : TE} (hc : X.calm = true) (nd : X.N.Nodup) (hi : PI X tg it wi) (ok : BlkOk X.N X.env.scope sc own)
    (hg : Blk X sc fun Y => PG Y tg g) (ht : Blk X sc fun Y => PTs Y ifs tt) (he : Blk X sc fun Y => PE Y el te) (fs : ∀ x, foldedSetIterable it X.env x = pure x := by intro _; rfl) :
    PE X (.SetComp el [⟨tg, it, ifs, 0⟩] sc pos) (tScI X.w wi g tt te (own.map (·.2))) := by
  constructor
  intro pins s σ H Q I h
  rw [PpSet.eval_SetComp]
  have cells : ∀ y ∈ sc.names, y.2 = .free → ∃ c, X.env.cells.lookup y.1 = some c := fun y hy e => (ok.free y hy e).elim (fun z => I.ok.has _ (Or.inl z)) (fun z => I.ok.has _ (Or.inr z))
  refine wpAny_comprehension_free (use := none) rfl fs (closure_ok cells) ok.kind (fun y hy e => by rw [ok.uniq y hy, e]) (thn (hi.run pins s σ H _ I h) fun _ _ z1 => thn z1 fun _ t2 z2 => ?_)
  obtain ⟨a, fp, tn, J, G2, rfl, I2, T, st2, f2, q⟩ := z2
  refine PpSet.newSet_ok (newEnv_comp ?_)
  obtain ⟨D, eD⟩ : ∃ D, D = t2.heap.objs.size := ⟨_, rfl⟩
  rw [← eD]
  obtain ⟨W, ⟨m0, w0⟩, turn⟩ := q D (I2.hok.fresh (Nat.le_of_eq eD.symm))
  obtain ⟨t3, e3⟩ : ∃ t3 : Shared, t3 = { t2 with heap := t2.heap.push (set0 X.w) } := ⟨_, rfl⟩
  have hp3 : t3.heap = t2.heap.push (set0 X.w) := by rw [e3]
  have I3 : Inv X pins σ (upd G2 D (SetO X.w D (fun _ => false) 0)) t3 := by
    rw [e3]
    refine I2.laid (t' := t2.toks) (fun _ _ z => Heap.get?_push_of_some _ z) (Nat.le_of_eq eD.symm) ?_
    rw [eD]
    exact setO_new (setR_fresh X.w)
  have low : ∀ b ∈ fp, b < t2.heap.objs.size := fun b hb => (T.obj _ _ st2 b hb).elim fun _ z => Heap.lt_size z.1
  have f3 : ∀ b ∈ fp, FpOk X pins (upd G2 D (SetO X.w D (fun _ => false) 0)) b ∧ b < t3.heap.objs.size := fun b hb =>
    ⟨⟨by rw [upd_ne (by rw [eD]; exact Nat.ne_of_lt (low b hb))]; exact (f2 b hb).1, (f2 b hb).2⟩, by rw [hp3, Heap.size_push]; exact Nat.lt_succ_of_lt (low b hb)⟩
  have st3 : tn 0 t3.heap := T.keep _ _ _ st2 fun _ _ _ z => by rw [hp3]; exact Heap.get?_push_of_some _ z
  have I4 := block_start I3 ok nd f3
  generalize hG3 : upd G2 D (SetO X.w D (fun _ => false) 0) = G3 at *
  obtain ⟨C, eC⟩ : ∃ C, C = t3.heap.objs.size := ⟨_, rfl⟩
  obtain ⟨ce, ece⟩ : ∃ ce, ce = compEnvC sc (cellsFrom (t3.heap.objs.size + 1) sc.names (cloFrom X.env.cells sc.names [])) t3.heap.objs.size X.env := ⟨_, rfl⟩
  have pg := hg t3 G3 t3.heap.objs.size (cellsFrom (t3.heap.objs.size + 1) sc.names (cloFrom X.env.cells sc.names [])) fp
  have pt := ht t3 G3 t3.heap.objs.size (cellsFrom (t3.heap.objs.size + 1) sc.names (cloFrom X.env.cells sc.names [])) fp
  have pe := he t3 G3 t3.heap.objs.size (cellsFrom (t3.heap.objs.size + 1) sc.names (cloFrom X.env.cells sc.names [])) fp
  rw [← ece] at pg pt pe I4
  have loc : ce.locals = C := by rw [ece, eC]; rfl
  obtain ⟨t4, e4⟩ : ∃ t4 : Shared, t4 = { t3 with heap := pushCells (t3.heap.push { cls := .type "dict", data := .dict #[] }) sc.names } := ⟨_, rfl⟩
  rw [← e4] at I4
  have st4 : tn 0 t4.heap := T.keep _ _ _ st3 fun _ _ _ z => by rw [e4]; exact pushCells_keeps _ _ _ _ (Heap.get?_push_of_some _ z)
  have nfp : ∀ b ∈ fp, G3 b = none := fun b hb => (f3 b hb).1.1
  have still : ∀ {σ' : L2.St} {G : Hp} {t : Shared}, Inv (X.blk t3 G3 sc ce fp) [] σ' G t → (∀ b ∈ fp, G b = none) → ∀ b ∈ fp, FpOk (X.blk t3 G3 sc ce fp) [] G b := fun {σ' G t} K hn b hb =>
    ⟨hn b hb, (K.ok.exf b hb).1, K.ok.exfs b hb, .inl hb, fun x c z => (K.ok.exf b hb).2 x c z, fun p hp => absurd (show p ∈ ([] : List (Addr × Obj)) ++ [] from hp) (by simp)⟩
  have loop : codeAny (model X.prog X.w) X.A (.compLoop (.SetComp el [⟨tg, it, ifs, 0⟩] sc pos) 0 (.ref a) (.ref D) ce) (compPost (model X.prog X.w) X.A X.xe none (EP X pins σ Q) (.ref D) C) t4 := by
    refine PpSet.compLoopS_any (fun n t => ∃ i G, Inv (X.blk t3 G3 sc ce fp) [] (wipe σ (own.map (·.2))) G t ∧ tn i t.heap ∧ (∀ b ∈ fp, G b = none) ∧ W i n G) ?_ m0 ⟨0, G3, I4, st4, nfp, w0⟩
    rintro n t5 ⟨i, G5, I5, st5, n5, w5⟩
    rcases turn i n G5 w5 with ⟨stop, qq⟩ | ⟨go, N, hN, step⟩
    · refine thnF (T.done (X.blk t3 G3 sc ce fp) rfl rfl rfl hc i [] t5 _ G5 (fun _ _ => False) I5 (still I5 n5) st5 stop) fun r t6 z => ?_
      obtain ⟨rfl, I6⟩ := z
      have I7 : Inv X pins σ G5 t6 := I3.call' (ch := fp) I6.os I6.base I6.hok I6.bare fun b hb => ⟨(f3 b hb).1.2.2.2.1, (f3 b hb).1.2.1, (f3 b hb).1.2.2.2.2.1, (f3 b hb).1.2.2.2.2.2⟩
      have nC : G5 C = none := by rw [← loc]; exact I6.free
      obtain ⟨m, ns, _⟩ := I6.loc
      replace ns : t6.heap.Ns C m := by rw [← loc]; exact ns
      obtain ⟨p0, p1, _, p3, p4, p5⟩ := I3.fpOk (Nat.le_of_eq eC.symm) nC
      exact ⟨m, ns, fun _ sb => ⟨.ref D, G5, I7.turned (t' := t6.toks) (fun b _ hb z => (sb.2 b hb).trans z) p0 p1 p3 p4 p5, rfl, qq⟩⟩
    · refine thnF (T.item (X.blk t3 G3 sc ce fp) rfl rfl rfl hc i [] t5 _ G5 (fun _ _ => False) I5 (still I5 n5) st5 go) fun r t6 z => ?_
      obtain ⟨u, rfl, z⟩ := z
      refine thnF z fun _ t7 ⟨x, G7, I7, r7, y7, st7, n7⟩ => ?_
      refine thnF (pg.run _ t7 _ G7 x u _ (I7.pinned (still I7 n7) (T.obj _ _ st7)) r7 (step x G7 y7)) fun _ t8 ⟨σ8, G8, I8, w8, q8⟩ => ?_
      refine thnF (pt.run _ t8 σ8 G8 _ I8 q8) fun b t9 ⟨G9, I9, q9⟩ => ?_
      have again : ∀ {t : Shared} {G : Hp}, Inv (X.blk t3 G3 sc ce fp) ([] ++ pinsAt fp t7.heap) σ8 G t → N G → ∃ m, m < n ∧ ∃ i G, Inv (X.blk t3 G3 sc ce fp) [] (wipe σ (own.map (·.2))) G t ∧ tn i t.heap ∧ (∀ b ∈ fp, G b = none) ∧ W i m G := fun {t G} K nx => by
        obtain ⟨m', lt, w'⟩ := hN G nx
        have pin : ∀ b ∈ fp, ∀ o, t7.heap.get? b = some o → t.heap.get? b = some o ∧ G b = none := fun b hb o z => by
          have y := K.pin (b, o) (List.mem_append_right _ (List.mem_append_right _ (mem_pinsAt hb z)))
          exact ⟨y.1, y.2.1⟩
        have len : (wipe σ (own.map (·.2))).length = σ8.length := by rw [← w8, wipe_length]
        exact ⟨m', lt, i + 1, G, (K.unpinned (pins := [])).weak len (fun _ _ z => by rw [← w8] at z; exact (wipe_some z).1), T.keep _ _ _ st7 fun b hb o z => (pin b hb o z).1, fun b hb => (T.obj _ _ st7 b hb).elim fun o z => (pin b hb o z.1).2, w'⟩
      cases b with
      | false => exact again I9 q9
      | true =>
        refine thnF (pe.run _ t9 σ8 G9 _ I9 q9) fun v t10 ⟨yv, G10, I10, r10, z⟩ => ?_
        obtain ⟨c, S, k, rfl, hD, room, nx⟩ := z
        exact addI_ok (X := X.blk t3 G3 sc ce fp) I10 hD room r10 fun t11 I11 => again I11 nx
  have start := PpSet.codeAny_compStart_set loop (T.self X.A 0 _ _ _ st4 loop)
  rw [ece, e4, e3] at start
  rw [eC, e3] at start
  exact start
end
end Ov
namespace Ov
open PySem PySem.Spec PyProof.Rows L2
/-! ### set(xs), xs a list of ints -/
section
variable {P : Program} {w : World} {A : Around} {E : Value → Shared → Prop} {s : Shared}
theorem set_of_ints {l : Addr} {its : Array Value} (zs : List Int) {Q : Value → Shared → Prop} (ha : A.handled = none) (hl : s.heap.IsList l its) (hz : IntsAre its.toList zs) (few : zs.length + 1 < scanBound)
    (fin : ∀ (g : Heap) (tk c : Nat), SetR w g s.heap.objs.size (fun j => decide (j ∈ zs)) c → c ≤ zs.length → (∀ b o, s.heap.get? b = some o → g.get? b = some o) → Q (.ref s.heap.objs.size) { s with heap := g, toks := tk }) :
    wpAny (model P w) A (call (.type "set") [.ref l]) Q E s := by
  have n0 : its.size = zs.length := by have z := IntsAre.length hz; rwa [Array.length_toList] at z
  obtain ⟨c0, t0, m0⟩ := PySem.F.called_set.mro
  have m1 := PySem.F.called_set.made; have m2 := PySem.F.called_set.sub
  have m3 := PySem.F.called_set.notType; have m4 := PySem.F.called_set.canCreate
  have m5 := PySem.F.typeCall_set_1 (.ref l)
  refine wpAny_call (codeAny_of_tree ?_); show wpAny _ _ (callAny (.type "set") _) _ _ _
  refine wpAny_pure (And.intro (Code.quiet_builtin _ (by decide +kernel)) (codeAny_builtin PySem.F.entry_type_call ?_)); rewrite [Around.under_plain (weight_type_call_type "set" [Value.ref l] []) rfl]
  repeat any_goals first | assumption | wp_step
  generalize hS0 : s.heap.objs.size = D at *
  have gD : (s.heap.push (set0 w)).get? D = some (set0 w) := by rw [← hS0]; exact Heap.get?_push_size _ rfl
  have tD : Shared.TypeIs { s with heap := s.heap.push (set0 w) } (.ref D) "set" := ⟨_, gD, rfl⟩
  refine codeAny_mono (code_set_led1 (.ref l) (E := E) (Q₁ := fun o s₁ => o = .ref D ∧ s₁ = { s with heap := s.heap.push (set0 w) }) ⟨by rw [hS0], rfl⟩) fun r s₁ hr => ?_
  cases r with
  | error e => exact hr
  | ok fl =>
    cases fl with
    | ret o =>
      obtain ⟨rfl, rfl⟩ := hr
      have i1 := PySem.F.called_set.init.lookup; have i2 := PySem.F.called_set.init.bind (.ref D)
      repeat any_goals first | assumption | wp_step
      refine codeAny_mono (codeAny_call_builtin (R := wants (fun r s₂ => r = .none ∧ ∃ g tk c, s₂ = { s with heap := g, toks := tk } ∧ SetR w g D (fun j => decide (j ∈ zs)) c ∧ c ≤ zs.length ∧ ∀ b o, s.heap.get? b = some o → g.get? b = some o) E) PySem.F.called_set.init.plain PySem.F.entry_set_init (check_set_init_1 tD ?_)) fun r₂ s₂ h₂ => ?_
      · obtain ⟨lo, lg, lc, ln, ld⟩ := hl
        obtain ⟨lcls, ldict, ldata, lslots⟩ := lo
        simp only at lc ld; subst lc; subst ld
        have gl : (s.heap.push (set0 w)).get? l = some { cls := .type "list", dict := ldict, data := .seq its ln, slots := lslots } := Heap.get?_push_of_some _ lg
        have il : (s.heap.push (set0 w)).IsList l its := ⟨_, gl, rfl, ln, rfl⟩
        have x1 := PySem.F.sub_list_set; have x2 := PySem.F.sub_list_frozenset
        have x3 : (Value.type "list" == Value.type "dict") = false := by decide
        unfold Builtin.«set.__init__» noKeywords Builtin.Frozenset.updateFrom; generalize pe : pyIter = it0
        wp_walk
        subst pe; refine wpAny_pyIter_list il (wpAny_bind (wpAny_runValue ?_))
        have l0 : l < D := by rw [← hS0]; exact Heap.lt_size lg
        have sz : (s.heap.push (set0 w)).objs.size = D + 1 := by rw [Heap.size_push, hS0]
        have vals : ∀ (i : Nat) (v : Value), its[i]? = some v → ∃ k t, zs[i]? = some k ∧ v = .int k t := fun i v hv => by
          have lt : i < zs.length := by rw [← n0]; exact (Array.getElem?_eq_some_iff.mp hv).1
          obtain ⟨t, e⟩ := IntsAre.int_at hz i v (by rw [Array.getElem?_toList]; exact hv)
          exact ⟨zs[i], t, List.getElem?_eq_getElem lt, by rw [e, List.getD_eq_getElem?_getD, List.getElem?_eq_getElem lt]; rfl⟩
        refine set_update_ints ((Walks.list (by simp [ha]) _ l (by rw [sz]; exact Nat.ne_of_lt (Nat.lt_succ_of_lt l0)) its).toS) D (by rw [sz]; simp; exact Nat.ne_of_gt l0) zs n0 few vals its.size 0 _ (by omega) (Nat.zero_le _) ⟨⟨_, Heap.get?_push_size _ rfl, rfl, rfl⟩, il.push _⟩ ⟨0, Nat.le_refl 0, setR_new_at (Heap.get?_push_of_some _ gD)⟩ ?_
        rintro ⟨g, g2, d2, tk2, os2⟩ c mv cl hR
        obtain rfl : g2 = s.gens := mv.gens
        obtain rfl : d2 = s.drawn := mv.drawn
        obtain rfl : os2 = s.os := mv.os
        show wpAny _ _ _ _ _ _; refine wpAny_pure ?_; show wpAny _ _ (ret Value.none) _ _ _
        refine wpAny_pure ⟨rfl, g, tk2, c, rfl, hR, by omega, fun b o e => ?_⟩
        have bl : b < D := by rw [← hS0]; exact Heap.lt_size e
        exact mv.heap b o (by rw [sz]; simp; exact ⟨Nat.ne_of_lt bl, Nat.ne_of_lt (Nat.lt_succ_of_lt bl)⟩) (Heap.get?_push_of_some _ (Heap.get?_push_of_some _ e))
      · cases r₂ with
        | error e => exact h₂
        | ok f₂ =>
          cases f₂ with
          | ret r =>
            obtain ⟨rfl, g, tk, c, rfl, z1, z2, z3⟩ := h₂
            repeat any_goals first | assumption | wp_step
            exact fin g tk c z1 z2 z3
          | _ => exact h₂.elim
    | _ => exact hr.elim
end
section
variable {X : Cx}
theorem ints_of {zs : List Int} {us : List Value} (h : Vals (zs.map V.int) us) : IntsAre us zs := by
  induction zs generalizing us with
  | nil => cases h; exact .nil
  | cons z r ih =>
    cases h with
    | cons a b =>
      obtain ⟨t, rfl⟩ := a
      exact .cons z t (ih b)
/-- a new set of the ints of a list; ds are its members -/
def rSetI (K : PySem.W.Frag) (w : World) : List V → Hp → VK → Prop := fun xs H Q => ∃ (l : Addr) (zs : List Int), xs = [V.ref l] ∧ SqL K H l (zs.map V.int) ∧ zs.length < 4000 ∧
  ∀ (a : Addr) (ds : List Int), H a = none → ds.Nodup → (∀ d ∈ ds, d ∈ zs) → Q (.ref a) (upd H a (SetO w a (fun j => decide (j ∈ zs)) ds.length))
theorem cr_setI (hc : X.calm = true) : CallR X (.type "set") (rSetI X.K X.w) := by
  intro pins s σ H xs us Q I r h
  obtain ⟨l, zs, rfl, hl, few, q⟩ := h
  rw [Vals.ref1 r]
  obtain ⟨its, rv, pl, sz⟩ := I.list hl
  have nn : H s.heap.objs.size = none := I.hok.fresh (Nat.le_refl _)
  refine set_of_ints zs (I.ok.hd hc) pl.isList (by simpa using ints_of rv) (by show zs.length + 1 < 4096; omega) fun g tk c R le k => ?_
  obtain ⟨o, es, ep, t, _, _, _, _, z1, z2, _, _, z3, _⟩ := id R
  have len : (es.toList.map keyOf).length = c := by rw [List.length_map, Array.length_toList]; exact z3
  rw [← len] at R
  exact ⟨.ref s.heap.objs.size, _, I.laid (t' := tk) k (Nat.le_refl _) (setO_new R), rfl, q _ _ nn z1 fun d hd => of_decide_eq_true ((z2 d).mpr hd)⟩
/-! ### tuple(range(i, j, c)) -/
def rg3V (i c : Int) (n : Nat) : List V := (List.range n).map fun k => V.int (i + ((k : Nat) : Int) * c)
def tTupRg3 (ta : TA) : TE := fun σ H Q => ta σ H fun vs H1 => ∃ (i j c : Int) (n : Nat), vs = [.int i, .int j, .int c] ∧ RgC i j c n ∧ n ≤ 1000 ∧ ∀ q, H1 q = none → Q (.ref q) (upd H1 q (.tup (rg3V i c n)))
theorem vals_rg3 {i c : Int} {n : Nat} {acc : Array Value} (h : ItemsOf (fun k v => ∃ t, v = .int (i + k * c) t) acc n) : Vals (rg3V i c n) acc.toList := by
  have len : n = acc.toList.length := by rw [Array.length_toList, h.1]
  subst len
  exact vals_of_get acc.toList (fun m => V.int (i + ((m : Nat) : Int) * c)) fun m x hm => by
    obtain ⟨t, ex⟩ := h.2 m x (by rw [← Array.getElem?_toList]; exact hm)
    exact ⟨t, ex⟩
theorem pe_tupRg3 {a b c : Expr} {ta : TA} {p p2 pos pos2 : Pos} (hc : X.calm = true) (hg : Gl X "tuple") (hm : X.mg "tuple" = none) (hgR : Gl X "range") (hmR : X.mg "range" = none) (ha : PA X [a, b, c] ta)
    (na : starEach [.Call (.Name "range" p2) [a, b, c] [] pos2] X.env = (false, eval (.Call (.Name "range" p2) [a, b, c] [] pos2) X.env) :: starEach [] X.env := by rfl)
    (hs : starEach [a, b, c] X.env = (false, eval a X.env) :: starEach [b, c] X.env := by rfl) (hpl : (backTo pos2 (starEach [b, c] X.env)).any (·.1) = false := by rfl) :
    PE X (.Call (.Name "tuple" p) [.Call (.Name "range" p2) [a, b, c] [] pos2] [] pos) (tTupRg3 ta) := by
  refine ⟨fun pins s σ H Q I h => Call_ (ld_blt I hg hm boot_tuple (PyProof.Rows.callWith_type1 (args_cons (Call_ (ld_blt I hgR hmR boot_range (PyProof.Rows.callWith_type1 (thn (ha.run pos2 pins s σ H _ I h) fun us s1 ⟨vs, H1, I1, r1, q1⟩ => ?_) hs hpl))) na) na))⟩
  obtain ⟨lo, up, st, n, rfl, ⟨z0, z1, z2, z3⟩, hn, q⟩ := q1
  obtain _ | ⟨⟨t0, rfl⟩, _ | ⟨⟨t1, rfl⟩, _ | ⟨⟨t2, rfl⟩, _ | _⟩⟩⟩ := r1
  refine call_range_3 z0 (args_nil ?_) (.inl (PyProof.noPylong_small z1))
  have J : Inv X pins σ H1 { s1 with heap := s1.heap.push { cls := .type "range", data := .fields #[.int lo t0, .int up t1, .int st t2] } } := I1.kept (t' := s1.toks) fun _ _ z => Heap.get?_push_of_some _ z
  refine call_tuple_range (n := n) (J.ok.hd hc) (IsRange.new ..) z2 z3 (by omega) fun g tk acc kp its => ?_
  have J3 : Inv X pins σ H1 { s1 with heap := g, toks := tk } := J.kept kp
  have small : (rg3V lo st n).length ≤ sizeLine := by unfold rg3V; rw [List.length_map, List.length_range, sizeLine_eq]; omega
  have new : ObjOk X.prog X.w (upd H1 g.objs.size (.tup (rg3V lo st n))) (g.push { cls := .type "tuple", data := .seq acc }) g.objs.size (.tup (rg3V lo st n)) := ⟨small, acc.toList, vals_rg3 its, (by rw [Array.toArray_toList]; exact IsTup.new _ _)⟩
  exact ⟨.ref g.objs.size, _, J3.laid (t' := tk) (fun _ _ z => Heap.get?_push_of_some _ z) (Nat.le_refl _) new, rfl, q _ (J3.hok.fresh (Nat.le_refl _))⟩
end
end Ov
namespace Ov
open PySem PySem.Spec PyProof.Rows L2
/-! ### enumerate over a tuple -/
/-- the two new objects of such a call -/
theorem enumT_new {vv : Value} {oo : Obj} {HH : Heap → Prop} (BB : Begins vv oo HH) : Meets (Builtin.«enumerate.__new__» ⟨[.type "enumerate", vv], []⟩) (fun _ R st => HH st.heap ∧
    R (.ok (.ret (.ref (st.heap.push oo).objs.size))) { st with heap := (st.heap.push oo).push { cls := .type "enumerate", data := .fields #[.none, .bool false, .ref st.heap.objs.size, rawInt 0, .none, .none] } }) := by
  refine .of_wp fun pr ww AA RR st hyp => ?_
  obtain ⟨hp, gn, dd, tk, os⟩ := st
  obtain ⟨hyp1, hyp2⟩ := hyp
  have subE := sub_enumerate
  have itE : ∀ {A' : Around} {EE : Value → Shared → Prop} {QQ : Value → Shared → Prop}, QQ (.ref hp.objs.size) ⟨hp.push oo, gn, dd, tk, os⟩ → wpAny (model pr ww) A' (pyIter vv) QQ EE ⟨hp, gn, dd, tk, os⟩ := fun qq => BB.iter pr ww _ _ ⟨hp, gn, dd, tk, os⟩ _ hyp1 qq
  wp_walk using itE
  refine wpAny_stack_any fun stk => wpAny_pure ?_
  split
  · rename_i cc _ _ _ _ _
    cases (cc == Value.type "enumerate") <;> (wp_walk using itE) <;> exact ⟨_, rfl, hyp2⟩
  · wp_walk using itE
    exact ⟨_, rfl, hyp2⟩
theorem call_enumT {pr : Program} {ww : World} {AA : Around} {EE : Value → Shared → Prop} {st : Shared} {tt : Addr} {arr : Array Value} {QQ : Value → Shared → Prop} (hT : st.heap.IsTuple tt arr)
    (hyp : ∀ h2, IsEnum h2 (st.heap.objs.size + 1) st.heap.objs.size 0 .none → h2.IsTupleIter st.heap.objs.size tt 0 → (∀ b o, st.heap.get? b = some o → h2.get? b = some o) → QQ (.ref (st.heap.objs.size + 1)) { st with heap := h2 }) :
    wpAny (model pr ww) AA (call (.type "enumerate") [.ref tt]) QQ EE st := by
  refine callType_new F.called_enumerate (by decide) (F.typeCall_enumerate_1 _) (F.newCall_enumerate_1 _) (fun obj => F.args_object_init_2 obj _) F.entry_enumerate_new (enumT_new (begins_tuple tt arr)) ⟨hT, ?_⟩
  have sz : (st.heap.push { cls := .type "tuple_iterator", data := .fields #[.ref tt, .int 0 0] }).objs.size = st.heap.objs.size + 1 := Heap.size_push ..
  show _ ∧ _
  rw [sz]
  have en : IsEnum ((st.heap.push { cls := .type "tuple_iterator", data := .fields #[.ref tt, .int 0 0] }).push { cls := .type "enumerate", data := .fields #[.none, .bool false, .ref st.heap.objs.size, rawInt 0, .none, .none] }) (st.heap.objs.size + 1) st.heap.objs.size 0 .none := by
    have zz := Heap.get?_push_size (st.heap.push { cls := .type "tuple_iterator", data := .fields #[.ref tt, .int 0 0] }) (o := { cls := .type "enumerate", data := .fields #[.none, .bool false, .ref st.heap.objs.size, rawInt 0, .none, .none] }) rfl
    rwa [sz] at zz
  exact ⟨⟨_, en, rfl⟩, hyp _ en ⟨_, Heap.get?_push_of_some _ (Heap.get?_push_size _ rfl), rfl, rfl⟩ fun b o xx => Heap.get?_push_of_some _ (Heap.get?_push_of_some _ xx)⟩
theorem enumT_end {pr : Program} {ww : World} {AA : Around} {EE : Value → Shared → Prop} {st : Shared} {en it tt : Addr} {i : Nat} {arr : Array Value} {old : Value} {QQ : Option Value → Shared → Prop} (calm : AA.handled = none) (hen : IsEnum st.heap en it i old) (hti : st.heap.IsTupleIter it tt i) (ht : st.heap.IsTuple tt arr) (hx : arr[i]? = none)
    (hyp : ∀ h2, Heap.ExtBut it st.heap h2 → QQ none { st with heap := h2 }) : wpAny (model pr ww) AA (pyNext (.ref en)) QQ EE st := by
  have ty : st.TypeIs (.ref en) "enumerate" := ⟨_, hen, rfl⟩
  unfold pyNext
  refine wpAny_bind (wpAny_attempt (wpAny_callSpecial?_slot (name := Str.ofString "__next__") ty F.slot_enumerate_next (wpAny_call_entry F.slot_enumerate_next ty F.entry_enumerate_next ?_ (F.args_enumerate_next_1 _))))
  show wpAny _ _ (field (.ref en) 2 >>= _) _ _ _
  refine wpAny_bind (wpAny_field hen rfl (x := .ref it) rfl (wpAny_bind (wpAny_nextOf_tuple_end calm hti ht hx fun h2 ee ext isStop => ?_)))
  obtain ⟨oo, hoo, hcc⟩ := isStop
  exact wpAny_bind (wpAny_isInstance (T := "StopIteration") (b := true) ⟨oo, hoo, hcc⟩ isSubtype_stop (wpAny_pure (hyp _ ext)))
/-- the tuple at a as it stands, each item in a new pair with its number -/
def IteT (K : PySem.W.Frag) (a : Addr) : It where
  go := fun i H => ∃ (xs : List V) (x : V), SqT K H a xs ∧ xs[i]? = some x
  yld := fun i H v H' => ∃ pr x, v = .ref pr ∧ H pr = none ∧ H' = upd H pr (.tup [.int (i : Nat), x]) ∧ ∀ xs, SqT K H a xs → xs[i]? = some x
  stop := fun i H => ∃ xs : List V, SqT K H a xs ∧ xs.length ≤ i
theorem turn_enumT {P : Program} {w : World} {K : PySem.W.Frag} {elts : List Expr} {kk : Nat} {tpos : Pos} (a en it : Addr) (n1 : en ≠ it) (n2 : a ≠ it) (n3 : a ≠ en) :
    Turn P w K (.Tuple elts kk tpos) (IteT K a) [en, it] en (fun i h => (∃ old, IsEnum h en it ((i : Nat) : Int) old) ∧ h.IsTupleIter it a i) where
  mem := by simp
  obj := fun i h st b hb => by
    obtain ⟨⟨old, hen⟩, ⟨oi, hoi, _, hdi⟩⟩ := st
    rcases (show b = en ∨ b = it by simpa using hb) with rfl | rfl
    · exact ⟨_, hen, fun v q => nomatch q⟩
    · exact ⟨oi, hoi, fun v q => by rw [hdi] at q; cases q⟩
  keep := fun i h h' st kp => by
    obtain ⟨⟨old, hen⟩, hti⟩ := st
    exact ⟨⟨old, kp en (by simp) _ hen⟩, hti.at fun o q => kp it (by simp) o q⟩
  item := by
    intro X hP hw hK hc i pins s σ H E I hf st hg
    subst hP hw hK
    obtain ⟨⟨old, hen⟩, hti⟩ := st
    obtain ⟨xs, x, hq, hx⟩ := hg
    obtain ⟨vals, rv, ht, _⟩ := I.tuple hq
    obtain ⟨u, hu, ru⟩ := rv.get hx
    have enl := Heap.lt_size hen
    have itl : it < s.heap.objs.size := by obtain ⟨_, z, _⟩ := hti; exact Heap.lt_size z
    have ndr : en ∉ [it, a] := fun z => (show en = it ∨ en = a by simpa using z).elim n1 fun z => n3 z.symm
    have ilt : i < vals.toArray.size := by have := (List.getElem?_eq_some_iff.mp hu).1; simpa using this
    refine wpAny_pyNext_enum_itemD (Draws.tuple (A := X.A.in1) (I.ok.hd hc) it a n2 vals.toArray) hen ⟨hti, ht⟩ ilt n1 ndr fun x' h1 tk hx' hout hst2 hT hsz hk => ?_
    have ex : x' = u := by
      have z : vals[i]? = some x' := by simpa using hx'
      exact Option.some.inj (z.symm.trans hu)
    subst ex
    refine ⟨_, rfl, wpAny_letOwnedTupleGo_enum (s := { s with heap := h1, toks := tk + 1 }) hout fun h2 hen2 sb => ?_⟩
    have hT2 : h2.get? s.heap.objs.size = some { cls := .type "tuple", data := .seq #[.int i tk, x'] } := (sb.2 _ (Nat.ne_of_gt enl)).trans hT
    have fresh : ObjOk X.prog X.w (upd H s.heap.objs.size (.tup [.int (i : Nat), x])) h2 s.heap.objs.size (.tup [.int (i : Nat), x]) := ⟨by show 2 ≤ sizeLine; decide, [.int i tk, x'], .cons ⟨_, rfl⟩ (.cons ru .nil), ⟨_, hT2, rfl, _, rfl⟩⟩
    have I2 : Inv X pins σ (upd H s.heap.objs.size (.tup [.int (i : Nat), x])) { s with heap := h2, toks := tk + 1 } := I.turnedNew (ch := [en, it]) (fun b ob hb q => (sb.2 b (fun z => hb (by simp [z]))).trans (hk b ob (fun z => hb (by simp [z])) (fun z => hb (by simp [z])) q)) hf (Nat.le_refl _) fresh
    refine ⟨.ref s.heap.objs.size, _, I2, rfl, ⟨_, x, rfl, I.hok.fresh (Nat.le_refl _), rfl, fun ys hy => by rw [I.tuple_inj hy hq]; exact hx⟩, ⟨⟨x', ?_⟩, hst2.1.at fun o q => (sb.2 it (Ne.symm n1)).trans q⟩, fun b hb => ?_⟩
    · rw [show ((i + 1 : Nat) : Int) = (i : Int) + 1 by omega]; exact hen2
    · have bl : b < s.heap.objs.size := (show b = en ∨ b = it by simpa using hb).elim (fun z => by rw [z]; exact enl) fun z => by rw [z]; exact itl
      rw [upd_ne (Nat.ne_of_lt bl)]; exact (hf b hb).1
  done := by
    intro X hP hw hK hc i pins s σ H E I hf st hg
    subst hP hw hK
    obtain ⟨⟨old, hen⟩, hti⟩ := st
    obtain ⟨xs, hq, hx⟩ := hg
    obtain ⟨vals, rv, ht, _⟩ := I.tuple hq
    obtain ⟨f0, f1, f2, f3, f4, f5⟩ := hf it (by simp)
    have len := rv.length
    exact enumT_end (I.ok.hd hc) hen hti ht (by simp; omega) fun h2 ext => ⟨rfl, I.turned (t' := s.toks) (fun b o hb q => ext b o hb q) f0 f1 f3 f4 f5⟩
  self := fun A i s Q E st h => by
    obtain ⟨⟨_, hen⟩, _⟩ := st
    exact wpAny_pyIter_enum hen h
def iEnumT (K : PySem.W.Frag) (ta : TA) : TI := fun σ H R => ta σ H fun vs H1 => ∃ a xs, vs = [.ref a] ∧ SqT K H1 a xs ∧ R (IteT K a) H1
theorem pi_enumT {X : Cx} {e : Expr} {ta : TA} {p pos tpos : Pos} {elts : List Expr} {kk : Nat} (glob : Gl X "enumerate") (plain : X.mg "enumerate" = none) (arg : PA X [e] ta) (star : starEach [e] X.env = [(false, eval e X.env)] := by rfl) : PI X (.Tuple elts kk tpos) (.Call (.Name "enumerate" p) [e] [] pos) (iEnumT X.K ta) := by
  refine ⟨fun pins s σ H R I h => ?_⟩
  refine Call_ (ld_blt I glob plain boot_enumerate (PyProof.Rows.callWith_type1 (thn (arg.run pos pins s σ H _ I h) fun us s1 ⟨vs, H1, I1, r1, q1⟩ => ?_) star rfl))
  obtain ⟨a, xs, rfl, hq, q⟩ := q1
  obtain ⟨u, rfl, ru⟩ := vals1 r1
  cases (show u = Value.ref a from ru)
  obtain ⟨vals, rv, ht, _⟩ := I1.tuple hq
  have al : a < s1.heap.objs.size := by obtain ⟨_, z, _⟩ := ht; exact Heap.lt_size z
  refine call_enumT ht fun h2 hen hti hk => wpAny_pyIter_enum hen ?_
  refine ⟨s1.heap.objs.size + 1, [s1.heap.objs.size + 1, s1.heap.objs.size], _, _, H1, rfl, I1.kept (t' := s1.toks) hk, turn_enumT a (s1.heap.objs.size + 1) s1.heap.objs.size (Nat.succ_ne_self _) (Nat.ne_of_lt al) (Nat.ne_of_lt (Nat.lt_succ_of_lt al)), ⟨⟨.none, hen⟩, hti⟩, fun b hb => ?_, q⟩
  have ge : s1.heap.objs.size ≤ b := (show b = s1.heap.objs.size + 1 ∨ b = s1.heap.objs.size by simpa using hb).elim (fun z => by rw [z]; exact Nat.le_add_right _ _) fun z => Nat.le_of_eq z.symm
  exact I1.fpOk ge (I1.hok.fresh ge)
theorem walk_enumT {K : PySem.W.Frag} {a : Addr} {xs : List V} {n : Nat} (hn : n = xs.length) : Walk (IteT K a) n (fun H => SqT K H a xs) (fun i H v H' => ∃ pr x, v = .ref pr ∧ H pr = none ∧ H' = upd H pr (.tup [.int (i : Nat), x]) ∧ xs[i]? = some x) := by
  subst hn
  refine ⟨fun i _ hi q => ⟨xs, xs[i], q, List.getElem?_eq_getElem hi⟩, fun _ q => ⟨xs, q, Nat.le_refl _⟩, fun i H v H' _ q y => ?_⟩
  obtain ⟨pr, x, h1, h2, h3, h4⟩ := y
  exact ⟨pr, x, h1, h2, h3, h4 xs q⟩
end Ov
namespace Ov
open PySem PySem.Spec PyProof.Rows L2 PySem.AutoSeq1
/-! ### list.extend with any tuple -/
theorem ext_tup (p q : Addr) (us ws : Array Value) (i j : Nat) (dq : Option Addr) (sq : Array (Option Value)) (few : us.size + ws.size ≤ sizeLine) :
    Meets (Builtin.«list.extend» ⟨[.ref p, .ref q], []⟩) (fun _ R st =>
      st.heap.get? p = some { cls := .type "list", dict := none, data := .seq us i, slots := #[] } ∧
      st.heap.get? q = some { cls := .type "tuple", dict := dq, data := .seq ws j, slots := sq } ∧
      R (.ok (.ret Value.none)) { st with heap := st.heap.update p (Obj.mapSeq fun y => y ++ ws), toks := st.toks }) := by
  have lo : us.size ≤ sizeLine := Nat.le_trans (Nat.le_add_right _ _) few
  have nl : ¬ (!us.isEmpty && Builtin.List.listTooLong (us.size + ws.size)) = true := by
    rw [notLongL few]
    simp
  have both : (us ++ ws).size ≤ sizeLine + 1 := by
    rw [Array.size_append]
    omega
  refine .of_wp ?_
  intro pr wo AA RR st h
  obtain ⟨hp, gs, dr, tk, os⟩ := st
  obtain ⟨e1, e2, h⟩ := h
  have f1 := idx_int
  have f2 := PySem.AutoSeq1.sub_tuple_tuple
  have f3 := PySem.AutoSeq1.sub_list_list
  have f4 := PySem.AutoSeq1.sub_tuple_list
  have f5 := PySem.AutoSeq1.sub_list_tuple
  wp_walk using (wpAny_updateSeq e1 rfl (hz := lo) (_hz' := both)), wpAny_loadPart' e1, wpAny_loadPart' e2
  exact ⟨_, rfl, h⟩
def rExtT (K : PySem.W.Frag) : V → List V → Hp → VK → Prop := fun x vs H Q => ∃ (p q : Addr) (xs zs : List V), x = .ref p ∧ vs = [.ref q] ∧ H p = some (.lst xs) ∧ SqT K H q zs ∧ xs.length + zs.length ≤ sizeLine ∧ Q .non (upd H p (.lst (xs ++ zs)))
theorem mt_extT {X : Cx} : MtM X "list.extend" (rExtT X.K) := by
  intro pins st σ H x ys v us Q I rx ry h
  obtain ⟨p, q, xs, zs, rfl, rfl, hp, hq, few, k⟩ := h
  cases rx
  obtain ⟨u, rfl, ru⟩ := ry.one
  cases ru
  obtain ⟨_, as, i, r1, len1, e1⟩ := I.lstM hp
  obtain ⟨bs, r2, ⟨ob, e2, cl, j, da⟩, _⟩ := I.tuple hq
  obtain ⟨oc, od, dt, os⟩ := ob
  cases cl
  cases da
  have len2 := r2.length
  have sz : as.toArray.size + bs.toArray.size ≤ sizeLine := by
    rw [List.size_toArray, List.size_toArray, ← len1, ← len2]
    exact few
  refine call_meets F.slot_list_extend ⟨_, e1, rfl⟩ F.entry_list_extend (F.args_list_extend_2 _ _) (ext_tup p q as.toArray bs.toArray i j od os sz) ⟨e1, e2, ?_⟩
  refine ⟨.non, _, I.lset (its' := as ++ bs) hp e1 (by simp) (r1.append r2) ?_, rfl, k⟩
  rw [List.length_append]
  exact few
end Ov
namespace Ov
open PySem PySem.Spec PyProof.Rows L2
/-! ### a caught error, kept by a name of the def behind the suite -/
/-- at a: an error at rest, its class and its dict -/
def exz (a : Addr) (cls : Value) (d : Option Addr) : HO := .ext fun g => ∃ (ob : Obj) (us : Array Value), g.get? a = some ob ∧ Zc cls d ob ∧ ob.data = .fields us
theorem exz_ok {P : Program} {w : World} {H : Hp} {g : Heap} {a : Addr} {cls : Value} {d : Option Addr} {ob : Obj} {us : Array Value} (e : g.get? a = some ob) (z : Zc cls d ob) (hd : ob.data = .fields us) : ObjOk P w H g a (exz a cls d) :=
  ⟨⟨ob, us, e, z, hd⟩, ⟨_, e⟩, fun g1 g2 q k => by
    obtain ⟨o2, u2, e2, r⟩ := q
    exact ⟨o2, u2, k _ e2, r⟩⟩
theorem exz_at {P : Program} {w : World} {H : Hp} {g : Heap} {a : Addr} {cls : Value} {d : Option Addr} (ok : HOk P w H g) (h : H a = some (exz a cls d)) : ∃ (ob : Obj) (us : Array Value), g.get? a = some ob ∧ Zc cls d ob ∧ ob.data = .fields us := (ok a _ h).1
section
variable {X : Cx} {pins : List (Addr × Obj)} {σ : L2.St} {H : Hp} {s : Shared}
/-- what stands untracked, and did not stand at the entry, is tracked from now on -/
theorem Inv.seen {a : Addr} {ob : Obj} {us : Array Value} {o : HO} (I : Inv X pins σ H s) (ha : s.heap.get? a = some ob) (hd : ob.data = .fields us) (hn : H a = none) (h0 : X.s_0.heap.get? a = none) (nL : a ≠ X.env.locals) (np : ∀ p ∈ X.pn ++ pins, p.1 ≠ a)
    (new : ObjOk X.prog X.w (upd H a o) s.heap a o) : Inv X pins σ (upd H a o) s := by
  have nc : ∀ x c, X.env.cells.lookup x = some c → c ≠ a := fun x c e z => by
    obtain ⟨v, ho, q1, q2⟩ := I.cell x c e
    rw [z, ha] at q1
    cases q1
    rw [hd] at q2
    cases q2
  have b := I.base
  refine ⟨I.ok, I.os, I.bare, ⟨b.keep, b.slot, fun c u e m hx => ?_, b.there, fun c xs e => ?_, fun c u v e => ?_, fun c ps e => ?_⟩, I.loc, I.cell, ?_, fun x c e => ?_, fun p hp => ?_, ?_, I.len⟩
  · rw [upd_ne (fun z => by rw [z, h0] at e; cases e)]
    exact b.free c u e m hx
  · have z := b.tups c xs e
    rw [upd_ne (ne_of_none z hn)]
    exact z
  · have z := b.frzs c u v e
    rw [upd_ne (ne_of_none z hn)]
    exact z
  · obtain ⟨more, z⟩ := b.tbls c ps e
    exact ⟨more, by rw [upd_ne (ne_of_none z hn)]; exact z⟩
  · rw [upd_ne (Ne.symm nL)]
    exact I.free
  · rw [upd_ne (nc x c e)]
    exact I.freeC x c e
  · obtain ⟨q1, q2, q3⟩ := I.pin p hp
    exact ⟨q1, by rw [upd_ne (np p hp)]; exact q2, q3⟩
  · exact I.hok.laidN (fun _ _ e => e) hn new
/-- the suite's pin, kept for a while -/
theorem Inv.held {a : Addr} {q : Addr × Obj} (I : Inv (X.suite a (q :: (X.pn ++ pins))) [] σ H s) (ok : X.Ok) : Inv X (q :: pins) σ H s := by
  refine ⟨ok, I.os, I.bare, I.base, I.loc, I.cell, I.free, I.freeC, fun p hp => I.pin p ?_, I.hok, I.len⟩
  rw [List.append_nil]
  rcases List.mem_append.mp hp with m | m
  · exact List.mem_cons_of_mem _ (List.mem_append_left _ m)
  · rcases List.mem_cons.mp m with m | m
    · rw [m]
      exact List.mem_cons_self
    · exact List.mem_cons_of_mem _ (List.mem_append_right _ m)
end
/-- what such a clause wishes of an error of the body -/
def wKp (K : PySem.W.Frag) (c : Value) (i : Nat) (ts : Addr → Value → Option Addr → TS) (Wout : WX) (D : Ends) : WX := fun cls d σ H =>
  ∃ yes, PySem.W.exmOne K cls c = some yes ∧
    (yes = true → ∀ a, H a = none → ts a cls d ⟨fun σ1 H1 => D.nx (σ1.set i none) (upd H1 a (exz a cls d)), fun _ _ => False, fun _ _ => False, fun _ _ => False⟩ (σ.set i (some (.ref a))) H) ∧
    (yes = false → Wout cls d σ H)
section
variable {X : Cx} {x n : Str} {c : Value} {i : Nat} {body suite : List Stmt} {st1 : Stmt} {np pos pos' : Pos} {tb : WX → TS} {ts : Addr → Value → Option Addr → TS} {Wout : WX}
theorem ps_keep (hs : X.stack = X.env :: X.outer) (hf : X.env.frame = some X.env.locals) (hex : X.ex = []) (nd : X.N.Nodup) (hi : X.N[i]? = some n)
    (hln : X.env.kindOf n = some .local) (hc : Names X x c) (tk : Takes X Wout)
    (hb : ∀ (W : WX) (pn : List (Addr × Obj)) (xe : Value → Shared → Prop), Takes (X.tr pn xe) W →
      PassesOwn (model X.prog X.w) X.A X.env xe → PSs (X.tr pn xe) body (tb W))
    (hsu : ∀ (a : Addr) (ob : Obj) (cls : Value) (d : Option Addr) (pn : List (Addr × Obj)), Zc cls d ob →
      (∃ us, ob.data = .fields us) → PSs (X.suite a ((a, ob) :: pn)) (st1 :: suite) (ts a cls d)) :
    PS X (.Try body [.ExceptHandler (some (.Name x np)) (some n) (st1 :: suite) pos'] [] [] pos)
      (fun D σ H => tb (wKp X.K c i ts Wout D) D σ H) := by
  constructor
  intro pins s σ H D I h
  have ok := I.ok
  have frs_ : X.A.frames = some (X.env :: X.outer) := by
    rw [ok.frames, hs]
  have own : Loc X.env.scope n := Or.inl hln
  let hd0 : ExceptHandler := .ExceptHandler (some (.Name x np)) (some n) (st1 :: suite) pos'
  refine wpAny_Try_except ?_
  have run := (hb (wKp X.K c i ts Wout D) (X.pn ++ pins)
    (fun e s₁ => wpAny (model X.prog X.w) X.A (noteFrame e X.env)
      (fun _ s₂ => wpAny (model X.prog X.w) X.A (setFlight e none)
        (fun _ s₃ => wpAny (model X.prog X.w) X.A (handleBy e X.env [hd0])
          (SP X pins D) X.xe s₃) X.xe s₂) X.xe s₁) ?_ PassesOwn.looking).run [] s σ H D (I.toTry _) h
  · refine wpAny_mono run (fun fl s1 q => ?_) fun _ _ q => q
    cases fl with
    | next =>
      obtain ⟨σ1, H1, J, r⟩ := q
      exact wpAny_execs_nil ⟨σ1, H1, J.ofTry ok, r⟩
    | brk =>
      obtain ⟨σ1, H1, J, r⟩ := q
      exact ⟨σ1, H1, J.ofTry ok, r⟩
    | cont =>
      obtain ⟨σ1, H1, J, r⟩ := q
      exact ⟨σ1, H1, J.ofTry ok, r⟩
    | ret u =>
      obtain ⟨v, σ1, H1, J, r1, r2⟩ := q
      exact ⟨v, σ1, H1, J.ofTry ok, r1, r2⟩
  · intro u s1 air
    obtain ⟨a, B, sI, ps1, σ1, H1, cls, d, rfl, I1, ground, ups, sky, none1, os1, bare1, yes, hyes, w1, w0⟩ := air
    have J : Inv X pins σ1 H1 sI := I1.ofTry ok
    rw [hs] at sky
    -- the error is new
    have gone : B.get? a = none := by
      rcases sky with ⟨_, q, _⟩ | ⟨_, q, _⟩ | ⟨_, q, _⟩ <;> exact q
    show wpAny (model X.prog X.w) X.A (noteFrame (.ref a) X.env) _ _ _
    refine Sky.land Zc.steady frs_ hf sky fun g3 fl3 up3 => ?_
    have J3 : Inv X pins σ1 H1 { s1 with heap := g3 } := J.landed ground fl3.1 (ups.trans up3) os1 bare1
    obtain ⟨o3, us3, at3, z3, d3⟩ := fl3.there
    have offFrames : ∀ {g : Heap} {o : Obj} {us : Array Value}, g.FunFrames B (X.env :: X.outer) → g.get? a = some o →
        o.data = .fields us → a ∉ frs (X.env :: X.outer) := fun {g o us} ff e1 e2 hm => by
      obtain ⟨_, o', e3, q⟩ := ff.mem hm
      rw [e1] at e3
      cases e3
      exact q _ e2
    have n1 := offFrames fl3.2.2.1 at3 d3
    have nL : a ≠ X.env.locals := fun z => n1 (by
      refine List.mem_filterMap.mpr ⟨X.env, List.mem_cons_self, ?_⟩
      rw [hf, z])
    have nF : a ∉ X.fs := fun hm => by
      obtain ⟨e, e1, e2⟩ := List.mem_filterMap.mp hm
      exact n1 (List.mem_filterMap.mpr ⟨e, List.mem_cons_of_mem _ e1, e2⟩)
    have newI : sI.heap.get? a = none := by
      cases q : sI.heap.get? a with
      | none => rfl
      | some o =>
        have z := ground a o q (by rw [hs]; exact n1)
        rw [gone] at z
        cases z
    have new0 : X.s_0.heap.get? a = none := by
      cases q : X.s_0.heap.get? a with
      | none => rfl
      | some o =>
        obtain ⟨o', z⟩ := J.base.there a o q (by rw [hex]; exact List.not_mem_nil)
        rw [newI] at z
        cases z
    have noPin : ∀ p ∈ X.pn ++ pins, p.1 ≠ a := fun p hp z => by
      have q := (J.pin p hp).1
      rw [z, newI] at q
      cases q
    have S3 := J3.suite at3 d3 none1 nL nF
    refine wpAny_handleBy_cons (codeAny_handlers_test ?_) (by intro q; cases q)
    have looks : PySem.W.Looks (model X.prog X.w) g3 (typeOf (.ref a)) cls := fun A Q E s k q =>
      wpAny_typeOf_ref (k _ _ at3) (by rw [z3.1]; exact q)
    have meets := PySem.W.exm_one (M := model X.prog X.w) J3.kIn looks hyes
    have named : ∀ {Q E : Value → Shared → Prop}, Q c { s1 with heap := g3 } →
        wpAny (model X.prog X.w) (X.A.mark (some (.ref a))) (eval (.Name x np) X.env) Q E { s1 with heap := g3 } := fun {Q E} q => by
      obtain ⟨e1, e2, m | ⟨m1, m2, m3⟩⟩ := hc
      · exact ld_glob (X := X.suite a ((a, o3) :: (X.pn ++ pins))) S3 e1 m q e2
      · exact ld_blt (X := X.suite a ((a, o3) :: (X.pn ++ pins))) S3 e1 m1 m2 q m3 e2
    refine named (meets.here ?_)
    cases yes with
    | true =>
      refine codeAny_handlers_suite_as (HandSPX.lands_againZ fl3 fun g4 fl4 up4 => ?_)
      have J4 : Inv X pins σ1 H1 { s1 with heap := g4 } :=
        J.landed ground fl4.1 ((ups.trans up3).trans up4) os1 bare1
      obtain ⟨o4, us4, at4, z4, d4⟩ := fl4.there
      have S4 := J4.suite at4 d4 none1 nL nF
      refine store_ok (X := X.suite a ((a, o4) :: (X.pn ++ pins))) (v := .ref a) S4 nd hi own rfl (fun s5 S5 => ?_) (.inr hln)
      have go := (hsu a o4 cls d (X.pn ++ pins) z4 ⟨_, d4⟩).run [] s5 _ H1 _ S5 (w1 rfl a none1)
      refine wpAny_mono go (fun fl s6 q => ?_) fun _ _ z => z.elim
      cases fl with
      | next =>
        obtain ⟨σ6, H6, S6, q6⟩ := q
        refine gone_ok (Ov.Inv.held S6 ok) nd hi hln fun s7 J7 => ?_
        have pin7 := J7.pin (a, o4) (List.mem_append_right _ List.mem_cons_self)
        have J8 : Inv X pins (σ6.set i none) H6 s7 :=
          ⟨ok, J7.os, J7.bare, J7.base, J7.loc, J7.cell, J7.free, J7.freeC, fun p hp => J7.pin p (by
            rcases List.mem_append.mp hp with m | m
            · exact List.mem_append_left _ m
            · exact List.mem_append_right _ (List.mem_cons_of_mem _ m)), J7.hok, J7.len⟩
        exact ⟨_, _, Ov.Inv.seen J8 pin7.1 d4 pin7.2.1 new0 nL noPin (exz_ok pin7.1 z4 d4), q6⟩
      | brk => exact (show False from (let ⟨_, _, _, z⟩ := q; z)).elim
      | cont => exact (show False from (let ⟨_, _, _, z⟩ := q; z)).elim
      | ret u => exact (show False from (let ⟨_, _, _, _, _, z⟩ := q; z)).elim
    | false =>
      show wpAny _ X.A (handleBy (.ref a) X.env []) _ _ _
      refine wpAny_handleBy_nil ?_
      obtain ⟨k1, k2, k3, oe, vs, T, oT, ts', at_, hz, hd, h1, hr⟩ := id fl3
      unfold PySem.passOn
      refine wpAny_bind (wpAny_field at_ hd h1 ?_)
      rw [if_neg (by simp)]
      have out : wpAny (model X.prog X.w) X.A (setFlight (.ref a) X.env.frame)
          (fun _ s4 => wpAny (model X.prog X.w) X.A (throw (.ref a) : Sem Flow) (SP X pins D) X.xe s4) X.xe { s1 with heap := g3 } := by
        rw [hf]
        refine HandSPX.setFlight_upZ fl3 fun g4 held4 up4 => wpAny_throw (tk _ _ ?_)
        refine ⟨a, B, sI, pins, σ1, H1, cls, d, rfl, J, ground, (ups.trans up3).trans up4, Or.inr (Or.inr ?_), none1, os1, bare1, w0 rfl⟩
        rw [hs]
        exact held4
      first
        | exact wpAny_bind (wpAny_pure (wpAny_bind out))
        | exact wpAny_bind out
end
end Ov
namespace Ov
open PySem PySem.Spec PyProof.Rows L2
/-! ### what is asked of a kept error -/
section
variable {X : Cx}
/-- the error of class C at a, its dict at dx -/
def ErrZ (H : Hp) (a C dx : Addr) (fs : List (Str × V)) : Prop := H a = some (exz a (.ref C) (some dx)) ∧ H dx = some (.xd fs)
theorem xd_at {P : Program} {w : World} {H : Hp} {h : Heap} {dx : Addr} {fs : List (Str × V)} (ok : HOk P w H h) (e : H dx = some (.xd fs)) : ∃ mA, h.Ns1 dx mA ∧ ∀ f, RelO (fs.lookup f) (mA f) := by
  obtain ⟨mA, z, r⟩ := ok dx _ e
  exact ⟨mA, z, r⟩
theorem ErrZ.same {H H' : Hp} {a C dx : Addr} {fs : List (Str × V)} (h : ErrZ H a C dx fs) (s : Same H H') : ErrZ H' a C dx fs := ⟨s _ _ h.1, s _ _ h.2⟩
/-- isinstance(e, c) -/
def rIsZ (K : PySem.W.Frag) : List V → Hp → VK → Prop := fun xs H Q => ∃ (a C dx : Addr) (fs : List (Str × V)) (c : V) (cv : Value) (b : Bool), xs = [.ref a, c] ∧ ExcC K C ∧ ErrZ H a C dx fs ∧ (∀ u, RelV c u → u = cv) ∧ PySem.W.kitOne K (.ref C) cv = some b ∧ Q (.bl b) H
theorem call_isZ : CallR X (.builtin "isinstance") (rIsZ X.K) := by
  intro pins s σ H xs us Q I r h
  obtain ⟨a, C, dx, fs, c, cv, b, rfl, E, ⟨ea, ed⟩, hcv, e, q⟩ := h
  obtain ⟨u1, u2, rfl, r1, r2⟩ := vals2 r
  cases (show u1 = Value.ref a from r1)
  have ec := hcv _ r2
  subst ec
  obtain ⟨ob, vs, e1, ⟨z1, z2⟩, z3⟩ := exz_at I.hok ea
  have known : (PySem.W.clsIn X.K C).isSome = true := by
    obtain ⟨cd, z, _⟩ := PySem.W.any_some E.hd
    rw [z]
    rfl
  obtain ⟨mA, ns, _⟩ := xd_at I.hok ed
  obtain ⟨od, ho, _⟩ := lookIn_ns ns
  have J : PySem.W.InstAt s.heap a ob C (some od) := ⟨e1, z1, by unfold PySem.W.notCls; rw [z3], by rw [z2]; exact ho⟩
  exact PySem.W.kia_one (PySem.W.kitx_exc known E.hg E.hk E.hs E.ha E.hn E.ht E.hm) I.kIn J e (fun z => nomatch z) fun tk =>
    ⟨.bl b, H, I.tok tk, rfl, q⟩
/-- e.f -/
def tExzf (K : PySem.W.Frag) (n : Str) (te : TE) : TE := fun σ H Q => te σ H fun x H1 => ∃ (a C dx : Addr) (fs : List (Str × V)) (v : V), x = .ref a ∧ XfC K C ∧ PySem.W.findIn K (.ref C) n = some none ∧ ErrZ H1 a C dx fs ∧ fs.lookup n = some v ∧ Q v H1
theorem pe_exzf {e : Expr} {te : TE} {n : Str} {pos : Pos} (he : PE X e te) (hb : attributeBase e n X.env (eval e X.env) = eval e X.env := by rfl) : PE X (.Attribute e n pos) (tExzf X.K n te) := by
  constructor
  intro pins s σ H Q I h
  refine attr_of hb (thn (he.run pins s σ H _ I h) fun u s1 hh => ?_)
  obtain ⟨x, H1, I1, rx, a, C, dx, fs, v, ex, T, hno, ⟨ea, ed⟩, l, q⟩ := hh
  subst ex
  obtain rfl : u = Value.ref a := rx
  obtain ⟨ob, us, e1, ⟨z1, z2⟩, z3⟩ := exz_at I1.hok ea
  obtain ⟨mA, ns, hr⟩ := xd_at I1.hok ed
  obtain ⟨od, ho, hl⟩ := lookIn_ns ns
  obtain ⟨u, hu, ru⟩ := RelO.some_of (v := v) (o := mA n) (by rw [← l]; exact hr n)
  have J : PySem.W.InstAt s1.heap a ob C (some od) := ⟨e1, z1, by unfold PySem.W.notCls; rw [z3], by rw [z2]; exact ho⟩
  refine HandSPX.exc_get I1.kIn J T.ga T.gg T.exC (PySem.W.findObj_own T.hdC hno rfl (by rw [hl, hu])) (handed_of ru) ⟨v, H1, I1.tok _, ru, q⟩
end
end Ov
namespace Ov
open PySem PySem.Spec PyProof.Rows L2
/-! ### an error asked inside its except suite, and its class asked of several at once -/
section
variable {X : Cx}
theorem isz_go {pins : List (Addr × Obj)} {σ : L2.St} {H : Hp} {s : Shared} (I : Inv X pins σ H s) {a C dx : Addr} {ob : Obj} {us : Array Value} {fs : List (Str × V)} (e1 : s.heap.get? a = some ob) (z : Zc (.ref C) (some dx) ob) (z3 : ob.data = .fields us) (E : ExcC X.K C) (ed : H dx = some (.xd fs)) :
    ∃ od, PySem.W.InstAt s.heap a ob C (some od) ∧ PySem.W.KitX X.K (.ref a) (.ref C) (fun h => PySem.W.InstAt h a ob C (some od)) := by
  have known : (PySem.W.clsIn X.K C).isSome = true := by
    obtain ⟨cd, z, _⟩ := PySem.W.any_some E.hd
    rw [z]
    rfl
  obtain ⟨mA, ns, _⟩ := xd_at I.hok ed
  obtain ⟨od, ho, _⟩ := lookIn_ns ns
  exact ⟨od, ⟨e1, z.1, by unfold PySem.W.notCls; rw [z3], by rw [z.2]; exact ho⟩, PySem.W.kitx_exc known E.hg E.hk E.hs E.ha E.hn E.ht E.hm⟩
theorem isz_tup {pins : List (Addr × Obj)} {σ : L2.St} {H : Hp} {s : Shared} {A : Around} (I : Inv X pins σ H s) {a C tp : Addr} {ob : Obj} {od : Obj} {cs : List V} {ws : List Value} {b : Bool} {Q E : Value → Shared → Prop}
    (J : PySem.W.InstAt s.heap a ob C (some od)) (Z : PySem.W.KitX X.K (.ref a) (.ref C) (fun h => PySem.W.InstAt h a ob C (some od))) (hT : H tp = some (.tup cs)) (k : Paired ClsV cs ws) (e : PySem.W.kitAny X.K (.ref C) ws = some b)
    (q : ∀ tk, Q (.bool b) { s with toks := tk }) : wpAny (model X.prog X.w) A (call (.builtin "isinstance") [.ref a, .ref tp]) Q E s := by
  obtain ⟨_, its, rv, o, h1, h2, n, h3⟩ := (show ObjOk X.prog X.w H s.heap tp (.tup cs) from I.hok tp _ hT)
  have e3 := ClsV.all k rv
  subst e3
  obtain ⟨oc, od', dt, sl⟩ := o
  simp only at h2 h3
  subst h2 h3
  exact PySem.W.kia_tup Z I.kIn J h1 e (fun z => nomatch z) q
/-- isinstance(e, (c, ..)) behind the suite -/
def rIsZT (K : PySem.W.Frag) : List V → Hp → VK → Prop := fun xs H Q => ∃ (a C dx tp : Addr) (fs : List (Str × V)) (cs : List V) (us : List Value) (b : Bool), xs = [.ref a, .ref tp] ∧ ExcC K C ∧ ErrZ H a C dx fs ∧ H tp = some (.tup cs) ∧ Paired ClsV cs us ∧ PySem.W.kitAny K (.ref C) us = some b ∧ Q (.bl b) H
theorem call_isZT : CallR X (.builtin "isinstance") (rIsZT X.K) := by
  intro pins s σ H xs us Q I r h
  obtain ⟨a, C, dx, tp, fs, cs, ws, b, rfl, E, ⟨ea, ed⟩, hT, k, e, q⟩ := h
  obtain ⟨u1, u2, rfl, r1, r2⟩ := vals2 r
  cases (show u1 = Value.ref a from r1)
  cases (show u2 = Value.ref tp from r2)
  obtain ⟨ob, vs, e1, z, z3⟩ := exz_at I.hok ea
  obtain ⟨od, J, Z⟩ := isz_go I e1 z z3 E ed
  exact isz_tup I J Z hT k e fun tk => ⟨.bl b, H, I.tok tk, rfl, q⟩
/-- isinstance(e, c) inside the suite: e is pinned there -/
def rIsP (K : PySem.W.Frag) (a : Addr) (cls : Value) (d : Option Addr) : List V → Hp → VK → Prop := fun xs H Q => ∃ (C dx : Addr) (fs : List (Str × V)) (c : V) (cv : Value) (b : Bool), xs = [.ref a, c] ∧ cls = .ref C ∧ d = some dx ∧ ExcC K C ∧ H dx = some (.xd fs) ∧ ClsV c cv ∧ PySem.W.kitOne K (.ref C) cv = some b ∧ Q (.bl b) H
theorem call_isP {a : Addr} {ob : Obj} {cls : Value} {d : Option Addr} (hm : (a, ob) ∈ X.pn) (z : Zc cls d ob) (hd : ∃ us, ob.data = .fields us) : CallR X (.builtin "isinstance") (rIsP X.K a cls d) := by
  intro pins s σ H xs us Q I r h
  obtain ⟨C, dx, fs, c, cv, b, rfl, rfl, rfl, E, ed, k, e, q⟩ := h
  obtain ⟨u1, u2, rfl, r1, r2⟩ := vals2 r
  cases (show u1 = Value.ref a from r1)
  have ec := k.eq r2
  subst ec
  obtain ⟨vs, z3⟩ := hd
  have e1 := (I.pin (a, ob) (List.mem_append_left _ hm)).1
  obtain ⟨od, J, Z⟩ := isz_go I e1 z z3 E ed
  exact PySem.W.kia_one Z I.kIn J e (fun z => nomatch z) fun tk => ⟨.bl b, H, I.tok tk, rfl, q⟩
/-- isinstance(e, (c, ..)) inside the suite -/
def rIsPT (K : PySem.W.Frag) (a : Addr) (cls : Value) (d : Option Addr) : List V → Hp → VK → Prop := fun xs H Q => ∃ (C dx tp : Addr) (fs : List (Str × V)) (cs : List V) (us : List Value) (b : Bool), xs = [.ref a, .ref tp] ∧ cls = .ref C ∧ d = some dx ∧ ExcC K C ∧ H dx = some (.xd fs) ∧ H tp = some (.tup cs) ∧ Paired ClsV cs us ∧ PySem.W.kitAny K (.ref C) us = some b ∧ Q (.bl b) H
theorem call_isPT {a : Addr} {ob : Obj} {cls : Value} {d : Option Addr} (hm : (a, ob) ∈ X.pn) (z : Zc cls d ob) (hd : ∃ us, ob.data = .fields us) : CallR X (.builtin "isinstance") (rIsPT X.K a cls d) := by
  intro pins s σ H xs us Q I r h
  obtain ⟨C, dx, tp, fs, cs, ws, b, rfl, rfl, rfl, E, ed, hT, k, e, q⟩ := h
  obtain ⟨u1, u2, rfl, r1, r2⟩ := vals2 r
  cases (show u1 = Value.ref a from r1)
  cases (show u2 = Value.ref tp from r2)
  obtain ⟨vs, z3⟩ := hd
  have e1 := (I.pin (a, ob) (List.mem_append_left _ hm)).1
  obtain ⟨od, J, Z⟩ := isz_go I e1 z z3 E ed
  exact isz_tup I J Z hT k e fun tk => ⟨.bl b, H, I.tok tk, rfl, q⟩
/-- e.f inside the suite -/
def tExpf (K : PySem.W.Frag) (a : Addr) (cls : Value) (d : Option Addr) (n : Str) (te : TE) : TE := fun σ H Q => te σ H fun x H1 => ∃ (C dx : Addr) (fs : List (Str × V)) (v : V), x = .ref a ∧ cls = .ref C ∧ d = some dx ∧ XfC K C ∧ PySem.W.findIn K (.ref C) n = some none ∧ H1 dx = some (.xd fs) ∧ fs.lookup n = some v ∧ Q v H1
theorem pe_expf {a : Addr} {ob : Obj} {cls : Value} {d : Option Addr} (hm : (a, ob) ∈ X.pn) (z : Zc cls d ob) (hd : ∃ us, ob.data = .fields us) {e : Expr} {te : TE} {n : Str} {pos : Pos} (he : PE X e te) (hb : attributeBase e n X.env (eval e X.env) = eval e X.env := by rfl) : PE X (.Attribute e n pos) (tExpf X.K a cls d n te) := by
  constructor
  intro pins s σ H Q I h
  refine attr_of hb (thn (he.run pins s σ H _ I h) fun u s1 hh => ?_)
  obtain ⟨x, H1, I1, rx, C, dx, fs, v, ex, rfl, rfl, T, hno, ed, l, q⟩ := hh
  subst ex
  obtain rfl : u = Value.ref a := rx
  obtain ⟨vs, z3⟩ := hd
  have e1 := (I1.pin (a, ob) (List.mem_append_left _ hm)).1
  obtain ⟨mA, ns, hr⟩ := xd_at I1.hok ed
  obtain ⟨od, ho, hl⟩ := lookIn_ns ns
  obtain ⟨u, hu, ru⟩ := RelO.some_of (v := v) (o := mA n) (by rw [← l]; exact hr n)
  have J : PySem.W.InstAt s1.heap a ob C (some od) := ⟨e1, z.1, by unfold PySem.W.notCls; rw [z3], by rw [z.2]; exact ho⟩
  refine HandSPX.exc_get I1.kIn J T.ga T.gg T.exC (PySem.W.findObj_own T.hdC hno rfl (by rw [hl, hu])) (handed_of ru) ⟨v, H1, I1.tok _, ru, q⟩
end
end Ov
namespace Ov
open PySem PySem.Spec PyProof.Rows L2
/-! ### errors without a dict of their own: made and raised, kept, asked for their class -/
section
variable {X : Cx}
/-- C(), to be raised: C has no __init__ of its own -/
theorem pmk_own0 {C : Addr} {bmB : List Value} {B newId initId : String} {x : Str} {p pos : Pos} (F : ExcBaseFacts B newId initId bmB) (q : PySem.W.excIn X.K C bmB newId = true) (gC : X.mg x = some (.ref C)) (kC : PySem.W.keepIn X.K (.ref C) = true) (r : Raises X (.ref C)) (hg : Gl X x)
    (hdb : (x == ("__debug__" : Str)) = false := by decide) : PMk X (.Call (.Name x p) [] [] pos) (fun _ H Q => Q (.ref C) none H) := by
  intro pins s σ H Q I h
  refine wpAny_Call_Name_kw (ld_glob I hg gC ?_ hdb)
  refine PySem.W.callWith_K0 I.kIn kC ?_
  obtain ⟨bm, N, nm, qn, bs, hdct, sn, sub, ab, col, dd, k0, k1, k2, k3, k5, mN, hC, hN, hni, T⟩ := exc_obj I.kIn q
  refine wpAny_call_exc_subT F T hC hN hni (fun h' e hm => ?_) (by show 0 ≤ sizeLine; exact Nat.zero_le _)
  exact mk_of I hm r h (I.hok.gone hm.new)
/-- the kept error of class C at a, without a dict -/
def Err0 (H : Hp) (a C : Addr) : Prop := H a = some (exz a (.ref C) none)
theorem Err0.same {H H' : Hp} {a C : Addr} (h : Err0 H a C) (s : Same H H') : Err0 H' a C := s _ _ h
theorem is0_go {pins : List (Addr × Obj)} {σ : L2.St} {H : Hp} {s : Shared} (I : Inv X pins σ H s) {a C : Addr} (E : ExcC X.K C) (h : Err0 H a C) :
    ∃ ob, PySem.W.InstAt s.heap a ob C none ∧ PySem.W.KitX X.K (.ref a) (.ref C) (fun h => PySem.W.InstAt h a ob C none) := by
  have known : (PySem.W.clsIn X.K C).isSome = true := by
    obtain ⟨cd, z, _⟩ := PySem.W.any_some E.hd
    rw [z]
    rfl
  obtain ⟨ob, vs, e1, z, z3⟩ := exz_at I.hok h
  exact ⟨ob, ⟨e1, z.1, by unfold PySem.W.notCls; rw [z3], by rw [z.2]; trivial⟩, PySem.W.kitx_exc known E.hg E.hk E.hs E.ha E.hn E.ht E.hm⟩
/-- isinstance(e, c) -/
def rIs0 (K : PySem.W.Frag) : List V → Hp → VK → Prop := fun xs H Q => ∃ (a C : Addr) (c : V) (cv : Value) (b : Bool), xs = [.ref a, c] ∧ ExcC K C ∧ Err0 H a C ∧ (∀ u, RelV c u → u = cv) ∧ PySem.W.kitOne K (.ref C) cv = some b ∧ Q (.bl b) H
theorem call_is0 : CallR X (.builtin "isinstance") (rIs0 X.K) := by
  intro pins s σ H xs us Q I r h
  obtain ⟨a, C, c, cv, b, rfl, E, ea, hcv, e, q⟩ := h
  obtain ⟨u1, u2, rfl, r1, r2⟩ := vals2 r
  cases (show u1 = Value.ref a from r1)
  have ec := hcv _ r2
  subst ec
  obtain ⟨ob, J, Z⟩ := is0_go I E ea
  exact PySem.W.kia_one Z I.kIn J e (fun z => nomatch z) fun tk => ⟨.bl b, H, I.tok tk, rfl, q⟩
/-- isinstance(e, (c, ..)) -/
def rIs0T (K : PySem.W.Frag) : List V → Hp → VK → Prop := fun xs H Q => ∃ (a C tp : Addr) (cs : List V) (us : List Value) (b : Bool), xs = [.ref a, .ref tp] ∧ ExcC K C ∧ Err0 H a C ∧ H tp = some (.tup cs) ∧ Paired ClsV cs us ∧ PySem.W.kitAny K (.ref C) us = some b ∧ Q (.bl b) H
theorem call_is0T : CallR X (.builtin "isinstance") (rIs0T X.K) := by
  intro pins s σ H xs us Q I r h
  obtain ⟨a, C, tp, cs, ws, b, rfl, E, ea, hT, k, e, q⟩ := h
  obtain ⟨u1, u2, rfl, r1, r2⟩ := vals2 r
  cases (show u1 = Value.ref a from r1)
  cases (show u2 = Value.ref tp from r2)
  obtain ⟨ob, J, Z⟩ := is0_go I E ea
  obtain ⟨_, its, rv, o, h1, h2, n, h3⟩ := (show ObjOk X.prog X.w H s.heap tp (.tup cs) from I.hok tp _ hT)
  have e3 := ClsV.all k rv
  subst e3
  obtain ⟨oc, od', dt, sl⟩ := o
  simp only at h2 h3
  subst h2 h3
  exact PySem.W.kia_tup Z I.kIn J h1 e (fun z => nomatch z) fun tk => ⟨.bl b, H, I.tok tk, rfl, q⟩
end
/-! ### o.m(..) where what is raised is wished for at the caller's slots -/
section
variable {X : Cx} {CX : CXT} {k : Nat} {f C : Addr} {fd : FuncData} {ps : List Str} {sp : Sp} {E : L2.St → XK} {m : Str} {pos apos : Pos} {e o : Expr} {es : List Expr} {ta : TE} {t : TA}
def tMethS (C : Addr) (m : Str) (sp : Sp) (E : L2.St → XK) (to : TE) (ta : TA) : TE := fun σ H Q => to σ H fun x H1 => ∃ a dx fs, x = .ref a ∧ H1 a = some (.ins C dx fs) ∧ fs.lookup m = none ∧ ta σ H1 fun vs H2 => sp (.ref a :: vs) H2 Q (E σ)
theorem pe_methS {pl : Sem Bool} (he : PE X o ta) (c : Cls X.K C) (hm : Meth X.K C m f) (F : FnOk X.prog X.w X.K X.mg X.base CX k f fd ps sp) (hr : Room k X.A) (hb : Binds X.K fd ps []) (hx : ∀ σ, PassesAt CX X σ (E σ)) (ha : PA X (e :: es) t)
    (hst : starEach (e :: es) X.env = (false, eval e X.env) :: starEach es X.env := by rfl) (hpl : (backTo pos (starEach es X.env)).any (·.1) = false := by rfl)
    (ht : eval (.Call (.Attribute o m apos) (e :: es) [] pos) X.env = (do
      let ov ← eval o X.env
      standAt apos.atName
      let (f, first) ← holding [ov] (getMethod ov m pl)
      callWith pos f first (backTo pos (starEach (e :: es) X.env)) (backToKw pos (keywordEach [] X.env))) := by rfl) :
    PE X (.Call (.Attribute o m apos) (e :: es) [] pos) (tMethS C m sp E ta t) := by
  refine ⟨fun pins s σ H Q I h => ?_⟩
  refine PySem.W.methodCall_KW (pl := pl) (thn (he.run pins s σ H _ I h) fun u s1 ⟨x, H1, I1, rx, a, dx, fs, ex, ea, l, q⟩ => ?_) ht
  subst ex
  obtain rfl : u = Value.ref a := rx
  refine getmeth_ok I1 ea c hm l ?_
  refine PySem.W.callWith_K (first := [.ref a]) (h₀ := X.base) I.ok.mod.kin hm.kp (thn (ha.run pos pins s1 σ H1 _ I1 q) fun us s2 ⟨vs, H2, I2, r, q2⟩ => ⟨I2.kIn, ?_⟩) hst hpl
  exact run_fnS (us := .ref a :: us) (vs := .ref a :: vs) F hr hb (hx σ) I2 (.cons rfl r) q2
theorem pe_methS0 {pl : Sem Bool} (he : PE X o ta) (c : Cls X.K C) (hm : Meth X.K C m f) (F : FnOk X.prog X.w X.K X.mg X.base CX k f fd ps sp) (hr : Room k X.A) (hb : Binds X.K fd ps []) (hx : ∀ σ, PassesAt CX X σ (E σ))
    (ht : eval (.Call (.Attribute o m apos) [] [] pos) X.env = (do
      let ov ← eval o X.env
      standAt apos.atName
      let (f, first) ← holding [ov] (getMethod ov m pl)
      callWith pos f first (backTo pos (starEach [] X.env)) (backToKw pos (keywordEach [] X.env))) := by rfl) :
    PE X (.Call (.Attribute o m apos) [] [] pos) (tMethS C m sp E ta tNil) := by
  refine ⟨fun pins s σ H Q I h => ?_⟩
  refine PySem.W.methodCall_KW (pl := pl) (thn (he.run pins s σ H _ I h) fun u s1 ⟨x, H1, I1, rx, a, dx, fs, ex, ea, l, q⟩ => ?_) ht
  subst ex
  obtain rfl : u = Value.ref a := rx
  refine getmeth_ok I1 ea c hm l ?_
  exact PySem.W.callWith_K0 (first := [.ref a]) I1.kIn hm.kp (run_fnS (us := [.ref a]) (vs := [.ref a]) F hr hb (hx σ) I1 (.cons rfl .nil) q)
end
/-! ### a test, its outcomes joined -/
def tCutT (t : TT) : TT := fun σ H Q => ∃ R : Bool → Hp → Prop, t σ H R ∧ ∀ b H1, R b H1 → Q b H1
theorem pt_cut {X : Cx} {e : Expr} {t : TT} (h : PT X e t) : PT X e (tCutT t) := ⟨fun pins s σ H Q I ⟨R, h1, h2⟩ => thn (h.run pins s σ H R I h1) fun d s1 ⟨H1, I1, q1⟩ => ⟨H1, I1, h2 d H1 q1⟩⟩
end Ov
/-! ### maps composed and repeated -/
namespace Ov
abbrev PM := Option Nat × Nat
def contP (ms : List PM) : PM → PM
  | (none, n) => (none, n)
  | (some c, n) => ((ms.getD c (none, 0)).1, n + (ms.getD c (none, 0)).2)
def compM (fs ms : List PM) : List PM := fs.map (contP ms)
def itM (ms : List PM) : Nat → PM → PM
  | 0, p => p
  | n + 1, p => itM ms n (contP ms p)
def repM (ms : List PM) (L n : Nat) : List PM := (List.range L).map fun c => itM ms n (some c, 0)
/-- all that it leads to is below L -/
def Wf (L : Nat) (ms : List PM) : Prop := ms.length = L ∧ ∀ m ∈ ms, ∀ c, m.1 = some c → c < L
def WfP (L : Nat) (p : PM) : Prop := ∀ c, p.1 = some c → c < L
theorem Wf.at {L : Nat} {ms : List PM} (h : Wf L ms) {c : Nat} (hc : c < L) : ms[c]? = some (ms.getD c (none, 0)) := by
  rw [List.getD_eq_getElem?_getD, List.getElem?_eq_getElem (by rw [h.1]; exact hc)]; rfl
theorem Wf.cont {L : Nat} {ms : List PM} (h : Wf L ms) {p : PM} (hp : WfP L p) : WfP L (contP ms p) := by
  rcases p with ⟨_ | c, n⟩
  · intro c e; cases e
  · intro d e
    exact h.2 _ (List.mem_of_getElem? (h.at (hp c rfl))) d e
theorem Wf.it {L : Nat} {ms : List PM} (h : Wf L ms) : ∀ (n : Nat) {p : PM}, WfP L p → WfP L (itM ms n p)
  | 0, _, hp => hp
  | n + 1, _, hp => h.it n (h.cont hp)
theorem itM_add (ms : List PM) : ∀ (a b : Nat) (p : PM), itM ms (a + b) p = itM ms b (itM ms a p)
  | 0, b, p => by rw [Nat.zero_add]; rfl
  | a + 1, b, p => by rw [show a + 1 + b = a + b + 1 by omega]; exact itM_add ms a b (contP ms p)
theorem itM_none (ms : List PM) : ∀ (n k : Nat), itM ms n (none, k) = (none, k)
  | 0, k => rfl
  | n + 1, k => itM_none ms n k
theorem cont_shift (ms : List PM) (s : Option Nat) (n k : Nat) : contP ms (s, n + k) = ((contP ms (s, k)).1, n + (contP ms (s, k)).2) := by
  cases s with
  | none => rfl
  | some c => show (_, n + k + _) = (_, n + (k + _)); rw [Nat.add_assoc]; rfl
theorem it_shift (ms : List PM) : ∀ (b : Nat) (s : Option Nat) (n k : Nat), itM ms b (s, n + k) = ((itM ms b (s, k)).1, n + (itM ms b (s, k)).2)
  | 0, s, n, k => rfl
  | b + 1, s, n, k => by
    show itM ms b (contP ms (s, n + k)) = ((itM ms b (contP ms (s, k))).1, n + (itM ms b (contP ms (s, k))).2)
    rw [cont_shift, it_shift ms b]
theorem rep_len (ms : List PM) (L n : Nat) : (repM ms L n).length = L := by unfold repM; rw [List.length_map, List.length_range]
theorem rep_at {ms : List PM} {L n c : Nat} (h : c < L) : (repM ms L n)[c]? = some (itM ms n (some c, 0)) := by
  unfold repM; rw [List.getElem?_map, List.getElem?_range h]; rfl
theorem rep_wf {L : Nat} {ms : List PM} (h : Wf L ms) (n : Nat) : Wf L (repM ms L n) := by
  refine ⟨rep_len ms L n, fun m hm => ?_⟩
  unfold repM at hm
  obtain ⟨c, hc, rfl⟩ := List.mem_map.mp hm
  exact h.it n (fun d e => by have : c = d := Option.some.inj e; have := List.mem_range.mp hc; omega)
theorem cont_rep {L : Nat} {ms : List PM} (n : Nat) {p : PM} (hp : WfP L p) : contP (repM ms L n) p = itM ms n p := by
  rcases p with ⟨_ | c, k⟩
  · rw [itM_none]; rfl
  · have e : (repM ms L n).getD c (none, 0) = itM ms n (some c, 0) := by rw [List.getD_eq_getElem?_getD, rep_at (hp c rfl)]; rfl
    show (((repM ms L n).getD c (none, 0)).1, k + ((repM ms L n).getD c (none, 0)).2) = _
    rw [e]
    exact (it_shift ms n (some c) k 0).symm
theorem comp_rep {L : Nat} {ms : List PM} (h : Wf L ms) (a b : Nat) : compM (repM ms L a) (repM ms L b) = repM ms L (a + b) := by
  unfold compM
  conv => lhs; arg 2; unfold repM
  rw [List.map_map]
  unfold repM
  refine List.map_congr_left fun c hc => ?_
  have hc' := List.mem_range.mp hc
  show contP (repM ms L b) (itM ms a (some c, 0)) = _
  rw [cont_rep b (h.it a (fun d e => by have : c = d := Option.some.inj e; omega)), itM_add]
theorem rep_zero (ms : List PM) (L : Nat) : repM ms L 0 = (List.range L).map fun c => (some c, 0) := rfl
theorem rep_one {L : Nat} {ms : List PM} (h : Wf L ms) : repM ms L 1 = ms := by
  refine List.ext_getElem? fun c => ?_
  by_cases hc : c < L
  · rw [rep_at hc, h.at hc]
    show some ((ms.getD c (none, 0)).1, 0 + (ms.getD c (none, 0)).2) = _
    rw [Nat.zero_add]
  · rw [List.getElem?_eq_none (by rw [rep_len]; omega), List.getElem?_eq_none (by rw [h.1]; omega)]
theorem comp_assoc {L : Nat} {as bs cs : List PM} (ha : Wf L as) (hb : Wf L bs) : compM (compM as bs) cs = compM as (compM bs cs) := by
  unfold compM
  rw [List.map_map]
  refine List.map_congr_left fun p hp => ?_
  show contP cs (contP bs p) = contP (bs.map (contP cs)) p
  rcases p with ⟨_ | c, k⟩
  · rfl
  · have hc := ha.2 _ hp c rfl
    have e1 : (bs.map (contP cs)).getD c (none, 0) = contP cs (bs.getD c (none, 0)) := by
      rw [List.getD_eq_getElem?_getD, List.getElem?_map, hb.at hc]; rfl
    show contP cs ((bs.getD c (none, 0)).1, k + (bs.getD c (none, 0)).2) = (((bs.map (contP cs)).getD c (none, 0)).1, k + ((bs.map (contP cs)).getD c (none, 0)).2)
    rw [e1, cont_shift]
theorem comp_wf {L : Nat} {as bs : List PM} (ha : Wf L as) (hb : Wf L bs) : Wf L (compM as bs) := by
  refine ⟨by unfold compM; rw [List.length_map]; exact ha.1, fun m hm => ?_⟩
  obtain ⟨p, hp, rfl⟩ := List.mem_map.mp hm
  exact hb.cont (ha.2 p hp)
theorem comp_id {L : Nat} {ms : List PM} (h : Wf L ms) : compM ms (repM ms L 0) = ms ∧ compM (repM ms L 0) ms = ms := by
  have e := rep_one h
  constructor
  · conv => lhs; arg 1; rw [← e]
    rw [comp_rep h, e]
  · conv => lhs; arg 2; rw [← e]
    rw [comp_rep h, Nat.zero_add, e]
/-- a circle -/
theorem cyc {ms : List PM} {h s m : Nat} (e : itM ms s (some h, 0) = (some h, m)) : ∀ (k x : Nat), itM ms (k * s) (some h, x) = (some h, x + k * m)
  | 0, x => by rw [Nat.zero_mul, Nat.zero_mul]; rfl
  | k + 1, x => by
    rw [show (k + 1) * s = s + k * s by rw [Nat.succ_mul, Nat.add_comm], itM_add]
    have := it_shift ms s (some h) x 0
    rw [Nat.add_zero, e] at this
    rw [this, cyc e k, Nat.succ_mul]
    congr 1
    show x + m + k * m = x + (k * m + m)
    omega
theorem it_bound {ms : List PM} {B : Nat} (h : ∀ m ∈ ms, m.2 ≤ B) : ∀ (n : Nat) (p : PM), (itM ms n p).2 ≤ p.2 + n * B
  | 0, p => by rw [Nat.zero_mul]; exact Nat.le_refl _
  | n + 1, p => by
    have z := it_bound h n (contP ms p)
    have c : (contP ms p).2 ≤ p.2 + B := by
      rcases p with ⟨_ | c, k⟩
      · exact Nat.le_add_right _ _
      · show k + (ms.getD c (none, 0)).2 ≤ k + B
        rw [List.getD_eq_getElem?_getD]
        cases e : ms[c]? with
        | none => exact Nat.add_le_add_left (Nat.zero_le _) _
        | some m => exact Nat.add_le_add_left (h m (List.mem_of_getElem? e)) _
    show (itM ms n (contP ms p)).2 ≤ _
    rw [Nat.succ_mul]
    omega
/-! ### maps of codes -/
section
variable {la : Int → Nat}
theorem stF_shift : ∀ (bs : List Int) (k j : Nat) (s : Option Nat), (stF la k s bs).length = (stF la j s bs).length
  | [], _, _, _ => rfl
  | b :: bs, k, j, s => by
    show ((if s = some 0 ∧ 0 < la b then [k] else []) ++ stF la (k + 1) (cdStep la s b) bs).length = ((if s = some 0 ∧ 0 < la b then [j] else []) ++ stF la (j + 1) (cdStep la s b) bs).length
    rw [List.length_append, List.length_append, stF_shift bs (k + 1) (j + 1)]
    split <;> rfl
theorem cdEnd_lt {L : Nat} (hL : ∀ b, la b ≤ L) : ∀ (bs : List Int) (s : Option Nat), (∀ n, s = some n → n < L) → ∀ n, cdEnd la s bs = some n → n < L
  | [], s, h, n, e => h n e
  | b :: bs, s, h, n, e => by
    refine cdEnd_lt hL bs (cdStep la s b) (fun j ej => ?_) n e
    cases s with
    | none => cases ej
    | some q =>
      cases q with
      | zero =>
        have ej' : (if la b = 0 then none else some (la b - 1)) = some j := ej
        split at ej'
        · cases ej'
        · have := Option.some.inj ej'; have := hL b; omega
      | succ q =>
        have : q = j := Option.some.inj ej
        have := h _ rfl
        omega
def mapOf' (la : Int → Nat) (L : Nat) (bs : List Int) : List PM := (List.range L).map fun c => (cdEnd la (some c) bs, (stF la 0 (some c) bs).length)
theorem map_wf {L : Nat} (hL : ∀ b, la b ≤ L) (bs : List Int) : Wf L (mapOf' la L bs) := by
  refine ⟨by unfold mapOf'; rw [List.length_map, List.length_range], fun m hm => ?_⟩
  unfold mapOf' at hm
  obtain ⟨c, hc, rfl⟩ := List.mem_map.mp hm
  exact cdEnd_lt hL bs (some c) (fun n e => by have : c = n := Option.some.inj e; have := List.mem_range.mp hc; omega)
theorem map_app {L : Nat} (hL : ∀ b, la b ≤ L) (as bs : List Int) : compM (mapOf' la L as) (mapOf' la L bs) = mapOf' la L (as ++ bs) := by
  unfold compM
  conv => lhs; arg 2; unfold mapOf'
  rw [List.map_map]
  conv => rhs; unfold mapOf'
  refine List.map_congr_left fun c hc => ?_
  have hc' := List.mem_range.mp hc
  show contP (mapOf' la L bs) (cdEnd la (some c) as, (stF la 0 (some c) as).length) = _
  rw [cdEnd_app, stF_app, List.length_append, Nat.zero_add]
  cases e : cdEnd la (some c) as with
  | none => rw [cdEnd_none, stF_none]; rfl
  | some d =>
    have hd := cdEnd_lt hL as (some c) (fun n z => by have : c = n := Option.some.inj z; omega) d e
    have g : (mapOf' la L bs).getD d (none, 0) = (cdEnd la (some d) bs, (stF la 0 (some d) bs).length) := by
      unfold mapOf'
      rw [List.getD_eq_getElem?_getD, List.getElem?_map, List.getElem?_range hd]; rfl
    show (((mapOf' la L bs).getD d (none, 0)).1, (stF la 0 (some c) as).length + ((mapOf' la L bs).getD d (none, 0)).2) = _
    rw [g, stF_shift bs as.length 0]
theorem map_nil (L : Nat) (ms : List PM) : mapOf' la L [] = repM ms L 0 := rfl
theorem map_rep {L : Nat} (hL : ∀ b, la b ≤ L) (bs : List Int) : ∀ n : Nat, mapOf' la L (List.replicate n bs).flatten = repM (mapOf' la L bs) L n
  | 0 => rfl
  | n + 1 => by
    have e := comp_rep (map_wf hL bs) n 1
    rw [List.replicate_succ', List.flatten_append, ← map_app hL, map_rep hL bs n, List.flatten_singleton, ← e, rep_one (map_wf hL bs)]
end
end Ov
namespace Ov
/-! ### spans: rows and pairs, kept balanced -/
inductive Spn where
  | row : List Int → Spn
  | pair : Spn → Spn → Spn
namespace Spn
def bytes : Spn → List Int
  | row bs => bs
  | pair l r => l.bytes ++ r.bytes
def size : Spn → Nat
  | row bs => bs.length
  | pair l r => l.size + r.size
def height : Spn → Nat
  | row _ => 0
  | pair l r => max l.height r.height + 1
/-- not empty, balanced -/
def okN : Spn → Prop
  | row bs => 0 < bs.length ∧ bs.length ≤ 32
  | pair l r => l.okN ∧ r.okN ∧ l.height ≤ r.height + 1 ∧ r.height ≤ l.height + 1
def ok (t : Spn) : Prop := t = row [] ∨ t.okN
theorem size_eq : ∀ t : Spn, t.size = t.bytes.length
  | row _ => rfl
  | pair l r => by simp only [size, bytes, List.length_append, size_eq l, size_eq r]
theorem okN.pos : ∀ {t : Spn}, t.okN → 0 < t.size
  | row _, h => h.1
  | pair l r, h => by have := okN.pos h.1; simp only [size]; omega
theorem ok.nil {t : Spn} (h : t.ok) : t.size = 0 ↔ t = row [] := by
  rcases h with rfl | h
  · exact ⟨fun _ => rfl, fun _ => rfl⟩
  · have := h.pos
    exact ⟨fun z => by omega, fun z => by rw [z] at this; exact absurd this (Nat.lt_irrefl 0)⟩
theorem ok.pos {t : Spn} (h : t.ok) (z : t.size ≠ 0) : t.okN := by
  rcases h with rfl | h
  · exact absurd rfl z
  · exact h
/-- a balanced tree of this height has at least so many bytes -/
def fewest : Nat → Nat
  | 0 => 1
  | 1 => 2
  | n + 2 => fewest (n + 1) + fewest n
theorem fewest_le : ∀ n : Nat, fewest n ≤ fewest (n + 1)
  | 0 => by decide
  | n + 1 => by show fewest (n + 1) ≤ fewest (n + 1) + fewest n; omega
theorem okN.fewest : ∀ {t : Spn}, t.okN → Spn.fewest t.height ≤ t.size
  | row _, h => h.1
  | pair l r, h => by
    have a := okN.fewest h.1
    have b := okN.fewest h.2.1
    obtain ⟨_, _, h1, h2⟩ := h
    simp only [size, height]
    have key : ∀ {m k : Nat}, k ≤ m → m ≤ k + 1 → Spn.fewest (m + 1) ≤ Spn.fewest m + Spn.fewest k := fun {m k} e1 e2 => by
      by_cases e : m = k
      · subst e
        cases m with
        | zero => decide
        | succ j => show Spn.fewest (j + 1) + Spn.fewest j ≤ _; have := fewest_le j; omega
      · obtain rfl : m = k + 1 := by omega
        exact Nat.le_refl _
    rcases Nat.le_total l.height r.height with e | e
    · rw [Nat.max_eq_right e]
      have := key e h2
      omega
    · rw [Nat.max_eq_left e]
      have := key e h1
      omega
theorem okN.low {t : Spn} (h : t.okN) (s : t.size ≤ 10 ^ 16) : t.height ≤ 80 := by
  have a := h.fewest
  have mono : ∀ n m : Nat, n ≤ m → Spn.fewest n ≤ Spn.fewest m := fun n m e => by
    induction e with
    | refl => exact Nat.le_refl _
    | step _ ih => exact Nat.le_trans ih (fewest_le _)
  refine Nat.le_of_not_lt fun z => ?_
  have b := mono 81 t.height z
  have c : (10 : Nat) ^ 16 < Spn.fewest 81 := by
    decide +kernel
  omega
/-- as the program turns a pair whose heights differ by two -/
def balT (l r : Spn) : Spn :=
  if r.height + 1 < l.height then
    match l with
    | pair ll lr => if lr.height ≤ ll.height then pair ll (pair lr r) else
      match lr with
      | pair a b => pair (pair ll a) (pair b r)
      | row x => pair (pair ll (row x)) r
    | row x => pair (row x) r
  else if l.height + 1 < r.height then
    match r with
    | pair rl rr => if rl.height ≤ rr.height then pair (pair l rl) rr else
      match rl with
      | pair a b => pair (pair l a) (pair b rr)
      | row x => pair l (pair (row x) rr)
    | row x => pair l (row x)
  else pair l r
theorem balT_bytes (l r : Spn) : (balT l r).bytes = l.bytes ++ r.bytes := by
  unfold balT
  split
  · cases l with
    | row x => rfl
    | pair ll lr =>
      dsimp only
      split
      · simp [bytes]
      · cases lr <;> simp [bytes]
  · split
    · cases r with
      | row x => rfl
      | pair rl rr =>
        dsimp only
        split
        · simp [bytes]
        · cases rl <;> simp [bytes]
    · rfl
theorem balT_ok {l r : Spn} (hl : l.okN) (hr : r.okN) (d1 : l.height ≤ r.height + 2) (d2 : r.height ≤ l.height + 2) :
    (balT l r).okN ∧ max l.height r.height ≤ (balT l r).height ∧ (balT l r).height ≤ max l.height r.height + 1 ∧ (l.height ≤ r.height + 1 → r.height ≤ l.height + 1 → (balT l r).height = max l.height r.height + 1) := by
  unfold balT
  split
  · rename_i h
    cases l with
    | row x => simp only [height] at h; omega
    | pair ll lr =>
      obtain ⟨o1, o2, e1, e2⟩ := hl
      simp only [height] at h d1 d2 ⊢
      split
      · rename_i g
        simp only [okN, height]
        exact ⟨⟨o1, ⟨o2, hr, by omega, by omega⟩, by omega, by omega⟩, by omega, by omega, fun z => by omega⟩
      · rename_i g
        cases lr with
        | row x => simp only [height] at *; omega
        | pair a b =>
          obtain ⟨p1, p2, f1, f2⟩ := o2
          simp only [okN, height] at *
          exact ⟨⟨⟨o1, p1, by omega, by omega⟩, ⟨p2, hr, by omega, by omega⟩, by omega, by omega⟩, by omega, by omega, fun z => by omega⟩
  · split
    · rename_i h0 h
      cases r with
      | row x => simp only [height] at h; omega
      | pair rl rr =>
        obtain ⟨o1, o2, e1, e2⟩ := hr
        simp only [height] at h0 h d1 d2 ⊢
        split
        · rename_i g
          simp only [okN, height]
          exact ⟨⟨⟨hl, o1, by omega, by omega⟩, o2, by omega, by omega⟩, by omega, by omega, fun z y => by omega⟩
        · rename_i g
          cases rl with
          | row x => simp only [height] at *; omega
          | pair a b =>
            obtain ⟨p1, p2, f1, f2⟩ := o1
            simp only [okN, height] at *
            exact ⟨⟨⟨hl, p1, by omega, by omega⟩, ⟨p2, o2, by omega, by omega⟩, by omega, by omega⟩, by omega, by omega, fun z y => by omega⟩
    · rename_i h0 h
      simp only [okN, height]
      exact ⟨⟨hl, hr, by omega, by omega⟩, by omega, by omega, fun _ _ => trivial⟩
/-- t is the one behind the other -/
structure Joins (a b t : Spn) : Prop where
  ok : t.ok
  bytes : t.bytes = a.bytes ++ b.bytes
  high : a.okN → b.okN → t.okN ∧ max a.height b.height ≤ t.height ∧ t.height ≤ max a.height b.height + 1
theorem bytes_nil {t : Spn} (h : t.size = 0) : t.bytes = [] := List.length_eq_zero_iff.mp (by rw [← size_eq]; exact h)
theorem Joins.left {a b : Spn} (h : a.size = 0) (hb : b.ok) : Joins a b b := ⟨hb, by rw [bytes_nil h]; rfl, fun x => by have := x.pos; omega⟩
theorem Joins.right {a b : Spn} (h : b.size = 0) (ha : a.ok) : Joins a b a := ⟨ha, by rw [bytes_nil h, List.append_nil], fun _ x => by have := x.pos; omega⟩
theorem Joins.pair {a b : Spn} (ha : a.okN) (hb : b.okN) (h1 : a.height ≤ b.height + 1) (h2 : b.height ≤ a.height + 1) : Joins a b (.pair a b) :=
  ⟨.inr ⟨ha, hb, h1, h2⟩, rfl, fun _ _ => ⟨⟨ha, hb, h1, h2⟩, by simp only [height]; omega, by simp only [height]; omega⟩⟩
theorem Joins.down {l r b t : Spn} (ha : (Spn.pair l r).okN) (hb : b.okN) (h : b.height + 1 < (Spn.pair l r).height) (J : Joins r b t) :
    Joins (.pair l r) b (balT l t) ∧ l.okN ∧ t.okN ∧ l.height ≤ t.height + 2 ∧ t.height ≤ l.height + 2 := by
  obtain ⟨o1, o2, e1, e2⟩ := id ha
  obtain ⟨tn, h1, h2⟩ := J.high o2 hb
  simp only [height] at h
  have x1 : l.height ≤ t.height + 2 := by omega
  have x2 : t.height ≤ l.height + 2 := by omega
  obtain ⟨b1, b2, b3, b4⟩ := balT_ok o1 tn x1 x2
  refine ⟨⟨.inr b1, by rw [balT_bytes, J.bytes]; simp [Spn.bytes], fun _ _ => ⟨b1, ?_, ?_⟩⟩, o1, tn, x1, x2⟩
  · simp only [height]; omega
  · simp only [height]; omega
theorem Joins.up {a l r t : Spn} (ha : a.okN) (hb : (Spn.pair l r).okN) (h : a.height + 1 < (Spn.pair l r).height) (J : Joins a l t) :
    Joins a (.pair l r) (balT t r) ∧ t.okN ∧ r.okN ∧ t.height ≤ r.height + 2 ∧ r.height ≤ t.height + 2 := by
  obtain ⟨o1, o2, e1, e2⟩ := id hb
  obtain ⟨tn, h1, h2⟩ := J.high ha o1
  simp only [height] at h
  have x1 : t.height ≤ r.height + 2 := by omega
  have x2 : r.height ≤ t.height + 2 := by omega
  obtain ⟨b1, b2, b3, b4⟩ := balT_ok tn o2 x1 x2
  refine ⟨⟨.inr b1, by rw [balT_bytes, J.bytes]; simp [Spn.bytes], fun _ _ => ⟨b1, ?_, ?_⟩⟩, tn, o2, x1, x2⟩
  · simp only [height]; omega
  · simp only [height]; omega
/-- the part in front of n and the part behind it -/
structure Cuts (t : Spn) (n : Nat) (a b : Spn) : Prop where
  left : a.ok
  right : b.ok
  front : a.bytes = t.bytes.take n
  behind : b.bytes = t.bytes.drop n
theorem Cuts.start {t : Spn} (h : t.ok) : Cuts t 0 (row []) t := ⟨.inl rfl, h, rfl, rfl⟩
theorem Cuts.stop {t : Spn} (h : t.ok) : Cuts t t.size t (row []) := ⟨h, .inl rfl, by rw [size_eq, List.take_length], by rw [size_eq, List.drop_length]; rfl⟩
theorem Cuts.row {bs : List Int} {n : Nat} (h : bs.length ≤ 32) (h0 : 0 < n) (h1 : n < bs.length) : Cuts (row bs) n (row (bs.take n)) (row (bs.drop n)) :=
  ⟨.inr ⟨by rw [List.length_take]; omega, by rw [List.length_take]; omega⟩, .inr ⟨by rw [List.length_drop]; omega, by rw [List.length_drop]; omega⟩, rfl, rfl⟩
theorem Cuts.inLeft {l r a b t : Spn} {n : Nat} (h : n ≤ l.size) (c : Cuts l n a b) (J : Joins b r t) : Cuts (pair l r) n a t :=
  ⟨c.left, J.ok, by rw [c.front]; show _ = (l.bytes ++ r.bytes).take n; rw [List.take_append_of_le_length (by rw [← size_eq]; exact h)], by rw [J.bytes, c.behind]; show _ = (l.bytes ++ r.bytes).drop n; rw [List.drop_append_of_le_length (by rw [← size_eq]; exact h)]⟩
theorem Cuts.inRight {l r a b t : Spn} {n : Nat} (h : l.size ≤ n) (c : Cuts r (n - l.size) a b) (J : Joins l a t) : Cuts (pair l r) n t b := by
  have e : n = l.bytes.length + (n - l.size) := by rw [← size_eq]; omega
  refine ⟨J.ok, c.right, ?_, ?_⟩
  · rw [J.bytes, c.front]
    show _ = (l.bytes ++ r.bytes).take n
    rw [e, List.take_length_add_append, ← size_eq]
    congr 2
    omega
  · rw [c.behind]
    show _ = (l.bytes ++ r.bytes).drop n
    rw [e, List.drop_length_add_append, ← size_eq]
    congr 1
    omega
theorem Cuts.sizes {t a b : Spn} {n : Nat} (c : Cuts t n a b) (h : n ≤ t.size) : a.size = n ∧ b.size = t.size - n := by
  rw [size_eq a, size_eq b, c.front, c.behind, List.length_take, List.length_drop, ← size_eq]
  omega
theorem Joins.size {a b t : Spn} (J : Joins a b t) : t.size = a.size + b.size := by rw [size_eq, J.bytes, List.length_append, ← size_eq, ← size_eq]
end Spn
end Ov
/-! ### where two decoders meet -/
namespace Ov
def decd : Option Nat → Option Nat → Bool
  | none, _ => true
  | some _, none => true
  | some a, some b => decide (a = b)
def meetAt (k : Nat) : Option Nat → Option Nat → Option Nat
  | some a, some b => if a = b then some k else none
  | _, _ => none
def agr : Option Nat → Option Nat → Bool
  | some a, some b => decide (a = b)
  | _, _ => false
section
variable (la : Int → Nat)
def meetF : Nat → Option Nat → Option Nat → List Int → Option Nat
  | k, s, u, [] => meetAt k s u
  | k, s, u, b :: bs => if decd s u = true then meetAt k s u else meetF (k + 1) (cdStep la s b) (cdStep la u b) bs
variable {la}
theorem decd_step {s u : Option Nat} (b : Int) (h : decd s u = true) : decd (cdStep la s b) (cdStep la u b) = true := by
  rcases s with _ | s
  · cases u <;> rfl
  · rcases u with _ | u
    · show decd (cdStep la (some s) b) none = true
      cases cdStep la (some s) b <;> rfl
    · have e : s = u := of_decide_eq_true h
      subst e
      cases cdStep la (some s) b with
      | none => rfl
      | some v => exact decide_eq_true rfl
theorem decd_end : ∀ (bs : List Int) {s u : Option Nat}, decd s u = true → decd (cdEnd la s bs) (cdEnd la u bs) = true
  | [], _, _, h => h
  | b :: bs, _, _, h => decd_end bs (decd_step b h)
theorem meet_dec {k : Nat} {s u : Option Nat} (h : decd s u = true) : ∀ bs : List Int, meetF la k s u bs = meetAt k s u
  | [] => rfl
  | b :: bs => if_pos h
theorem meet_left : ∀ (as bs : List Int) {k : Nat} {s u : Option Nat}, decd (cdEnd la s as) (cdEnd la u as) = true → meetF la k s u (as ++ bs) = meetF la k s u as
  | [], bs, k, s, u, h => meet_dec h bs
  | a :: as, bs, k, s, u, h => by
    show (if decd s u = true then meetAt k s u else meetF la (k + 1) (cdStep la s a) (cdStep la u a) (as ++ bs)) = if decd s u = true then meetAt k s u else meetF la (k + 1) (cdStep la s a) (cdStep la u a) as
    rw [meet_left as bs h]
theorem meet_right : ∀ (as bs : List Int) {k : Nat} {s u : Option Nat}, decd (cdEnd la s as) (cdEnd la u as) = false → meetF la k s u (as ++ bs) = meetF la (k + as.length) (cdEnd la s as) (cdEnd la u as) bs
  | [], bs, k, s, u, h => rfl
  | a :: as, bs, k, s, u, h => by
    show (if decd s u = true then meetAt k s u else meetF la (k + 1) (cdStep la s a) (cdStep la u a) (as ++ bs)) = meetF la (k + (as.length + 1)) (cdEnd la (cdStep la s a) as) (cdEnd la (cdStep la u a) as) bs
    rw [if_neg (fun z => by have := decd_end (la := la) (a :: as) z; rw [h] at this; cases this), meet_right as bs h, show k + 1 + as.length = k + (as.length + 1) by omega]
theorem meetAt_open {k : Nat} {s u : Option Nat} (h : decd s u = false) : meetAt k s u = none := by
  rcases s with _ | s
  · rfl
  · rcases u with _ | u
    · rfl
    · exact if_neg (of_decide_eq_false h)
theorem meet_open : ∀ (bs : List Int) {k : Nat} {s u : Option Nat}, decd (cdEnd la s bs) (cdEnd la u bs) = false → meetF la k s u bs = none
  | [], k, s, u, h => meetAt_open h
  | b :: bs, k, s, u, h => by
    show (if decd s u = true then meetAt k s u else meetF la (k + 1) (cdStep la s b) (cdStep la u b) bs) = none
    rw [if_neg (fun z => by have := decd_end (la := la) (b :: bs) z; rw [h] at this; cases this)]
    exact meet_open bs h
theorem agr_some {s u : Option Nat} (h : agr s u = true) (k : Nat) : decd s u = true ∧ meetAt k s u = some k ∧ ∃ n, s = some n ∧ u = some n := by
  rcases s with _ | s
  · cases h
  · rcases u with _ | u
    · cases h
    · have e : s = u := of_decide_eq_true h
      subst e
      exact ⟨decide_eq_true rfl, if_pos rfl, s, rfl, rfl⟩
theorem agr_not {s u : Option Nat} (h : agr s u = false) (k : Nat) : meetAt k s u = none ∧ (decd s u = true → s = none ∨ u = none) := by
  rcases s with _ | s
  · exact ⟨rfl, fun _ => .inl rfl⟩
  · rcases u with _ | u
    · exact ⟨rfl, fun _ => .inr rfl⟩
    · have e : ¬ s = u := of_decide_eq_false h
      exact ⟨if_neg e, fun z => absurd (of_decide_eq_true z) e⟩
theorem agr_none (s u : Option Nat) (h : s = none ∨ u = none) : agr s u = false := by
  rcases h with rfl | rfl
  · rfl
  · cases s <;> rfl
theorem agr_dead {s u : Option Nat} (h : s = none ∨ u = none) (bs : List Int) : agr (cdEnd la s bs) (cdEnd la u bs) = false :=
  agr_none _ _ (h.imp (fun z => by rw [z, cdEnd_none]) (fun z => by rw [z, cdEnd_none]))
/-- the first offset at which both are equal and not None -/
theorem meet_hit : ∀ (bs : List Int) (i k : Nat) (s u : Option Nat), i ≤ bs.length → (∀ j < i, agr (cdEnd la s (bs.take j)) (cdEnd la u (bs.take j)) = false) → agr (cdEnd la s (bs.take i)) (cdEnd la u (bs.take i)) = true → meetF la k s u bs = some (k + i)
  | bs, 0, k, s, u, _, _, h => by
    have h' : agr s u = true := h
    obtain ⟨d, e, _⟩ := agr_some h' k
    rw [meet_dec d, e]; rfl
  | [], i + 1, k, s, u, hi, _, _ => absurd hi (by simp)
  | b :: bs, i + 1, k, s, u, hi, hj, h => by
    have h0 : agr s u = false := hj 0 (Nat.succ_pos i)
    have nd : decd s u = false := by
      cases z : decd s u with
      | false => rfl
      | true =>
        have := agr_dead (la := la) ((agr_not h0 k).2 z) ((b :: bs).take (i + 1))
        rw [h] at this
        cases this
    show (if decd s u = true then meetAt k s u else meetF la (k + 1) (cdStep la s b) (cdStep la u b) bs) = _
    rw [nd, if_neg (by decide), meet_hit bs i (k + 1) _ _ (by rw [List.length_cons] at hi; omega) (fun j hj2 => hj (j + 1) (by omega)) h, show k + 1 + i = k + (i + 1) by omega]
theorem meet_miss : ∀ (bs : List Int) (k : Nat) (s u : Option Nat), (∀ j ≤ bs.length, agr (cdEnd la s (bs.take j)) (cdEnd la u (bs.take j)) = false) → meetF la k s u bs = none
  | [], k, s, u, h => (agr_not (h 0 (Nat.le_refl _)) k).1
  | b :: bs, k, s, u, h => by
    show (if decd s u = true then meetAt k s u else meetF la (k + 1) (cdStep la s b) (cdStep la u b) bs) = none
    have z : meetAt k s u = none := (agr_not (h 0 (Nat.zero_le _)) k).1
    rw [meet_miss bs (k + 1) _ _ (fun j hj => h (j + 1) (by rw [List.length_cons]; omega)), z]
    split <;> rfl
theorem meetAt_shift (k j : Nat) (s u : Option Nat) : meetAt (k + j) s u = (meetAt j s u).map (k + ·) := by
    rcases s with _ | s
    · rfl
    · rcases u with _ | u
      · rfl
      · show (if s = u then some (k + j) else none) = (if s = u then some j else none).map _
        split <;> rfl
theorem meet_shift : ∀ (bs : List Int) (k j : Nat) (s u : Option Nat), meetF la (k + j) s u bs = (meetF la j s u bs).map (k + ·)
  | [], k, j, s, u => meetAt_shift k j s u
  | b :: bs, k, j, s, u => by
    have a := meetAt_shift k j s u
    have c := meet_shift bs k (j + 1) (cdStep la s b) (cdStep la u b)
    show (if decd s u = true then meetAt (k + j) s u else meetF la (k + j + 1) (cdStep la s b) (cdStep la u b) bs) = (if decd s u = true then meetAt j s u else meetF la (j + 1) (cdStep la s b) (cdStep la u b) bs).map (k + ·)
    split
    · exact a
    · rw [← c]; rfl
theorem meetAt_le {k : Nat} {s u : Option Nat} {o : Nat} (h' : meetAt k s u = some o) : o ≤ k := by
    rcases s with _ | s
    · cases h'
    · rcases u with _ | u
      · cases h'
      · have h2 : (if s = u then some k else none) = some o := h'
        split at h2
        · have := Option.some.inj h2; omega
        · cases h2
theorem meet_lt : ∀ (bs : List Int) (k : Nat) (s u : Option Nat) (o : Nat), meetF la k s u bs = some o → o ≤ k + bs.length
  | [], k, s, u, o, h => meetAt_le h
  | b :: bs, k, s, u, o, h => by
    have h' : (if decd s u = true then meetAt k s u else meetF la (k + 1) (cdStep la s b) (cdStep la u b) bs) = some o := h
    split at h'
    · have := meetAt_le h'
      omega
    · have := meet_lt bs (k + 1) _ _ o h'
      rw [List.length_cons]; omega
/-- starts are told from where one begins to count -/
theorem stF_from : ∀ (bs : List Int) (k j : Nat) (s : Option Nat), stF la (k + j) s bs = (stF la j s bs).map (k + ·)
  | [], _, _, _ => rfl
  | b :: bs, k, j, s => by
    show (if s = some 0 ∧ 0 < la b then [k + j] else []) ++ stF la (k + j + 1) (cdStep la s b) bs = ((if s = some 0 ∧ 0 < la b then [j] else []) ++ stF la (j + 1) (cdStep la s b) bs).map (k + ·)
    rw [List.map_append, ← stF_from bs k (j + 1)]
    congr 1
    split <;> rfl
theorem stF_at0 (bs : List Int) (k : Nat) (s : Option Nat) (n : Nat) : (stF la k s bs)[n]? = ((stF la 0 s bs)[n]?).map (k + ·) := by
  have := stF_from (la := la) bs k 0 s
  rw [Nat.add_zero] at this
  rw [this, List.getElem?_map]
end
end Ov
namespace Ov
section
variable {la : Int → Nat}
theorem agr_eq {s u : Option Nat} (h : agr s u = true) : s = u ∧ ∃ n, u = some n := by
  obtain ⟨_, _, n, h1, h2⟩ := agr_some h 0
  exact ⟨h1.trans h2.symm, n, h2⟩
theorem agr_of {n : Nat} : agr (some n) (some n) = true := decide_eq_true rfl
/-- what stands at the first offset -/
theorem meet_some : ∀ (bs : List Int) (k : Nat) (s u : Option Nat) (m : Nat), meetF la k s u bs = some m → ∃ j, m = k + j ∧ j ≤ bs.length ∧ agr (cdEnd la s (bs.take j)) (cdEnd la u (bs.take j)) = true
  | [], k, s, u, m, h => by
    have h' : meetAt k s u = some m := h
    refine ⟨0, ?_, Nat.le_refl _, ?_⟩
    all_goals
      rcases s with _ | s
      · cases h'
      · rcases u with _ | u
        · cases h'
        · have h2 : (if s = u then some k else none) = some m := h'
          split at h2
          · rename_i e
            first
              | exact (Option.some.inj h2).symm
              | exact decide_eq_true e
          · cases h2
  | b :: bs, k, s, u, m, h => by
    have h' : (if decd s u = true then meetAt k s u else meetF la (k + 1) (cdStep la s b) (cdStep la u b) bs) = some m := h
    split at h'
    · obtain ⟨j, e1, e2, e3⟩ := meet_some [] k s u m h'
      have : j = 0 := Nat.le_zero.mp e2
      subst this
      exact ⟨0, e1, Nat.zero_le _, e3⟩
    · obtain ⟨j, e1, e2, e3⟩ := meet_some bs (k + 1) _ _ m h'
      exact ⟨j + 1, by omega, by rw [List.length_cons]; omega, e3⟩
termination_by bs => bs.length
/-- it is no later than any agreement -/
theorem meet_le : ∀ (bs : List Int) (i k : Nat) (s u : Option Nat), i ≤ bs.length → agr (cdEnd la s (bs.take i)) (cdEnd la u (bs.take i)) = true → ∃ j, j ≤ i ∧ meetF la k s u bs = some (k + j)
  | bs, 0, k, s, u, _, h => ⟨0, Nat.le_refl _, by
    have h' : agr s u = true := h
    obtain ⟨d, e, _⟩ := agr_some h' k
    rw [meet_dec d, e]; rfl⟩
  | [], i + 1, k, s, u, hi, _ => absurd hi (by simp)
  | b :: bs, i + 1, k, s, u, hi, h => by
    cases z : decd s u with
    | true =>
      cases a : agr s u with
      | true =>
        obtain ⟨d, e, _⟩ := agr_some a k
        exact ⟨0, Nat.zero_le _, by rw [meet_dec d, e]; rfl⟩
      | false =>
        have := agr_dead (la := la) ((agr_not a k).2 z) ((b :: bs).take (i + 1))
        rw [h] at this
        cases this
    | false =>
      obtain ⟨j, hj, e⟩ := meet_le bs i (k + 1) (cdStep la s b) (cdStep la u b) (by rw [List.length_cons] at hi; omega) h
      refine ⟨j + 1, by omega, ?_⟩
      show (if decd s u = true then meetAt k s u else meetF la (k + 1) (cdStep la s b) (cdStep la u b) bs) = _
      rw [z, if_neg (by decide), e, show k + 1 + j = k + (j + 1) by omega]
/-- once the same, always the same -/
theorem same_on {bs : List Int} {s u : Option Nat} {j i : Nat} (h : cdEnd la s (bs.take j) = cdEnd la u (bs.take j)) (hji : j ≤ i) : cdEnd la s (bs.take i) = cdEnd la u (bs.take i) := by
  have e : bs.take i = bs.take j ++ (bs.take i).drop j := by
    conv => lhs; rw [← List.take_append_drop j (bs.take i)]
    rw [List.take_take, Nat.min_eq_left hji]
  rw [e, cdEnd_app, cdEnd_app, h]
theorem behind_take {bs : List Int} {a h i : Nat} (h1 : a ≤ h) (h2 : h + i ≤ bs.length) : (bs.take (h + i)).drop a = (bs.take h).drop a ++ (bs.drop h).take i := by
  rw [show bs.take (h + i) = bs.take h ++ (bs.drop h).take i from List.take_add, List.drop_append_of_le_length (by rw [List.length_take]; omega)]
end
end Ov
namespace Ov
open PySem PySem.Spec PyProof.Rows L2
def top (i : Nat) : Stmt := PySem.Challenge.pw_overlapcode_k82_whole_edit_histories_bes.main.body.getD i (.Pass ⟨0, 0, 0, 0⟩)
abbrev s_wall : Stmt := top 0
abbrev sIsInt : Stmt := top 2
abbrev sBetween : Stmt := top 3
abbrev sAscending : Stmt := top 4
abbrev cOverlapError : Stmt := top 6
abbrev cInvalidInstructionSet : Stmt := top 7
abbrev cInvalidOffset : Stmt := top 8
abbrev cInvalidCode : Stmt := top 9
abbrev cInvalidTimes : Stmt := top 10
abbrev cNothingToUndo : Stmt := top 11
abbrev cInstructionSet : Stmt := top 17
abbrev sAreInstr : Stmt := top 18
abbrev sIsInstr : Stmt := top 19
abbrev sIsName : Stmt := top 20
abbrev sIsCode : Stmt := top 21
abbrev sWalk : Stmt := top 23
abbrev sBehind : Stmt := top 24
abbrev sCodeMap : Stmt := top 26
abbrev sCompose : Stmt := top 27
abbrev sPair : Stmt := top 28
abbrev sCont : Stmt := top 29
abbrev cSpan : Stmt := top 32
abbrev s_span_of : Stmt := top 33
abbrev s_joined : Stmt := top 34
abbrev s_pair_of : Stmt := top 35
abbrev s_balanced : Stmt := top 36
abbrev s_cut : Stmt := top 37
abbrev s_part : Stmt := top 38
abbrev s_repeated : Stmt := top 39
abbrev s_bytes_of : Stmt := top 40
abbrev s_start_in : Stmt := top 41
abbrev s_meeting_in : Stmt := top 42
abbrev s_is_decided : Stmt := top 43
abbrev s_decided_offset : Stmt := top 44
abbrev s_countdown_after : Stmt := top 45
abbrev cCodeBuffer : Stmt := top 49
abbrev s_check_code : Stmt := top 50
abbrev sBox : Stmt := top 52
abbrev sTake : Stmt := top 53
abbrev sOf : Stmt := top 54
abbrev sTable : Stmt := top 55
abbrev sBytes : Stmt := top 56
abbrev sLLenAt : Stmt := top 57
abbrev sLCds : Stmt := top 58
abbrev sLStarts : Stmt := top 59
abbrev sMachine : Stmt := top 60
abbrev sSmall : Stmt := top 61
abbrev s_law_edit : Stmt := top 62
abbrev s_law_after : Stmt := top 63
abbrev s_law_done : Stmt := top 64
abbrev s_law_edited : Stmt := top 65
abbrev s_law_agreed : Stmt := top 66
abbrev s_law_seen : Stmt := top 67
abbrev s_law_all_of : Stmt := top 68
abbrev s_law_is_new : Stmt := top 69
abbrev s_law_is_bare : Stmt := top 70
abbrev sRight : Stmt := top 71
abbrev sLaw : Stmt := top 72
end Ov
namespace Ov
open PySem PySem.Spec PyProof.Rows L2
section
variable {P : Program} {w : World} {K : PySem.W.Frag} {mg : Str → Option Value} {base : Heap}
/-! ### is_integer, is_integer_between -/
def spIsInt : Sp := fun vs H Q _ => ∃ (v : Int), vs = [.int v] ∧ Q (.bl true) H
theorem scIsInt : FnScope ["value"] ["value"] (defScope sIsInt) := ⟨rfl, rfl, rfl, by decide +kernel, rfl, by decide +kernel, by decide +kernel⟩
theorem ok_isInt {f : Addr} {fd : FuncData} {k : Nat} (F : Fun K "is_integer" "is_integer" sIsInt f fd) (T : Bi mg) : FnOk P w K mg base CX0 (k + 1) f fd ["value"] spIsInt := by
  refine F.ok scIsInt (fun vs H Q E h => ?_) (fun cdv A outer s H vs Q E hr h => ?_)
  · obtain ⟨v, rfl, _⟩ := h
    rfl
  · obtain ⟨v, rfl, q⟩ := h
    refine ⟨_, pss_one (ps_ret (pe_and (pe_callB call_isi (by rfl) T.isi (by decide +kernel) (pa_cons (pv 0) (pa_cons (pe_bltn (v := .ty "int") (u := .type "int") (by rfl) T.int (by decide +kernel) rfl) pa_nil)))
      (pe_one (pe_not (pe_callB call_isi (by rfl) T.isi (by decide +kernel) (pa_cons (pv 0) (pa_cons (pe_bltn (v := .ty "bool") (u := .type "bool") (by rfl) T.bool (by decide +kernel) rfl) pa_nil))))))), ?_⟩
    refine ⟨_, rfl, _, _, _, _, _, rfl, .ty _, .base (.int _), kit_ty (by decide +kernel : kitB "int" "int" = some true), _, rfl, iteT ?_⟩
    exact ⟨_, rfl, _, _, _, _, _, rfl, .ty _, .base (.int _), kit_ty (by decide +kernel : kitB "int" "bool" = some false), _, rfl, q⟩
def spBetween : Sp := fun vs H Q _ => ∃ (v lo hi : Int), vs = [.int v, .int lo, .int hi] ∧ lo ≤ v ∧ v ≤ hi ∧ Q (.bl true) H
theorem scBetween : FnScope ["value", "least", "most"] ["value", "least", "most"] (defScope sBetween) := ⟨rfl, rfl, rfl, by decide +kernel, rfl, by decide +kernel, by decide +kernel⟩
theorem ok_between {f fI : Addr} {fd fdI : FuncData} {k : Nat} (F : Fun K "is_integer_between" "is_integer_between" sBetween f fd) (T : Bi mg) (I : Def K mg "is_integer" sIsInt fI fdI ["value"]) : FnOk P w K mg base CX0 (k + 2) f fd ["value", "least", "most"] spBetween := by
  have GI : FnOk P w K mg base CX0 (k + 1) fI fdI ["value"] spIsInt := ok_isInt I.fn T
  refine F.ok scBetween (fun vs H Q E h => ?_) (fun cdv A outer s H vs Q E hr h => ?_)
  · obtain ⟨v, lo, hi, rfl, _⟩ := h
    rfl
  · obtain ⟨v, lo, hi, rfl, h1, h2, q⟩ := h
    refine ⟨_, pss_one (ps_ret (pe_and (pe_call GI hr (by rfl) I.gl I.fn.kp I.bi .nil pass0 (pa_cons (pv 0) pa_nil))
        (pe_one (pe_chain op_le op_le (pv 1) (pv 0) (pv 2))))), ?_⟩
    refine ⟨_, rfl, v, rfl, _, rfl, iteT ?_⟩
    refine ⟨_, rfl, _, rfl, _, _, rfl, rfl, _, rfl, ?_⟩
    rw [decide_eq_true h1]
    refine iteT ⟨_, rfl, _, _, rfl, rfl, ?_⟩
    show Q (.bl (decide (v ≤ hi))) H
    rw [decide_eq_true h2]
    exact q
/-! ### is_ascending -/
def spAscending (K : PySem.W.Frag) : Sp := fun vs H Q _ => ∃ (a : Addr) (ns : List Int), vs = [.ref a] ∧ SqT K H a (ns.map V.int) ∧ ns.length ≤ 1000 ∧ ns.Pairwise (· < ·) ∧ ∀ H', Same H H' → Q (.bl true) H'
theorem scAscending : FnScope ["numbers", "low", "high"] ["numbers"] (defScope sAscending) := ⟨rfl, rfl, rfl, by decide +kernel, rfl, by decide +kernel, by decide +kernel⟩
theorem ok_ascending {f : Addr} {fd : FuncData} {k : Nat} (F : Fun K "is_ascending" "is_ascending" sAscending f fd) (T : Bi mg) : FnOk P w K mg base CX0 (k + 1) f fd ["numbers"] (spAscending K) := by
  refine F.ok scAscending (fun vs H Q E h => ?_) (fun cdv A outer s H vs Q E hr h => ?_)
  · obtain ⟨a, ns, rfl, _⟩ := h
    rfl
  · obtain ⟨a, ns, rfl, hS, hlen, hasc, q⟩ := h
    refine ⟨_, pss_one (ps_ret (pe_callB (cr_all rfl) (by rfl) T.all (by decide +kernel) (pa_cons
      (pe_lc (own := [("low", 1), ("high", 2)]) (g := gTup K 2 (gCons (gName 1) (gCons (gName 2) gNil))) (tt := tYes) (by rfl) scAscending.nd (RZ.pi_zipA (by rfl) T.zip (pa_cons (pv 0) (pa_cons (pe_slice sl_tupA (pv 0) (po_some pe_int) po_none) pa_nil)))
        (blkOk_by (own := [("low", 1), ("high", 2)]) (N := ["numbers", "low", "high"]) (sc := defScope sAscending) (by decide +kernel))
        (fun _ _ _ _ _ => pg_tup rfl (pgs_cons (pg_name (i := 1) scAscending.nd rfl (Or.inl rfl)) (pgs_cons (pg_name (i := 2) scAscending.nd rfl (Or.inl rfl)) pgs_nil)))
        (fun _ _ _ _ _ => pts_nil) (fun _ _ _ _ _ => pe_cmpR op_lt (pv 1) (pv 2) (nomark _))) pa_nil))), ?_⟩
    -- zip(numbers, numbers[1:])
    refine ⟨_, rfl, _, rfl, 1, rfl, a, ns.map V.int, rfl, hS, fun hw => ?_, fun hw c nc => ?_⟩
    · have e0 : ns = [] := List.map_eq_nil_iff.mp (cut1_whole hw)
      subst e0
      refine ⟨a, a, [], [], rfl, .inr ⟨hS, hS, fun D nD => lc_it (walk_zipT (xs := []) (ys := []) rfl) (fun i H2 => i = 0 ∧ Mk H H2 D []) ⟨rfl, .start nD⟩ (fun i H2 _ p => ⟨p.2.same.tup hS, p.2.same.tup hS⟩) (fun i x H2 H3 hi => absurd hi (by show ¬ i < 0; omega)) (fun H2 p => ?_)⟩⟩
      exact ⟨D, [], rfl, .inl (.inl p.2.at_), q H2 p.2.same⟩
    · have s1 : Same H (upd H c (.tup (cutV (ns.map V.int) (some 1) none))) := same_upd nc
      have hc : SqT K (upd H c (.tup (cutV (ns.map V.int) (some 1) none))) c ((ns.drop 1).map V.int) := .inl (.inl (by rw [upd_same, cut1, List.map_drop]))
      refine ⟨a, c, ns.map V.int, (ns.drop 1).map V.int, rfl, .inr ⟨s1.tup hS, hc, fun D nD => lc_it (walk_zipT (xs := ns.map V.int) (ys := (ns.drop 1).map V.int) rfl)
        (fun i H2 => Mk (upd H c (.tup (cutV (ns.map V.int) (some 1) none))) H2 D ((List.replicate i true).map V.bl)) (.start nD) (fun i H2 _ p => ⟨p.same.tup (s1.tup hS), p.same.tup hc⟩) (fun i x H2 H3 hi p y => ?_) (fun H2 p => ?_)⟩⟩
      · obtain ⟨t, x1, x2, rfl, nt, rfl, f1, f2⟩ := y
        have hi' : i < min ns.length (ns.length - 1) := by simpa using hi
        have h1 : i < ns.length := by omega
        have h2 : i + 1 < ns.length := by omega
        have e1 : x1 = .int ns[i] := by
          have : (ns.map V.int)[i]? = some x1 := f1
          rw [List.getElem?_map, List.getElem?_eq_getElem h1] at this
          exact (Option.some.inj this).symm
        have e2 : x2 = .int ns[i + 1] := by
          have : ((ns.drop 1).map V.int)[i]? = some x2 := f2
          rw [List.getElem?_map, List.getElem?_drop, Nat.add_comm 1 i, List.getElem?_eq_getElem h2] at this
          exact (Option.some.inj this).symm
        have hlt : ns[i] < ns[i + 1] := List.pairwise_iff_getElem.mp hasc i (i + 1) h1 h2 (by omega)
        refine ⟨t, [x1, x2], rfl, .inl (.inl upd_same), rfl, x1, [x2], rfl, x2, [], rfl, rfl, rfl, x1, rfl, x2, rfl, _, _, e1, e2, _, (by rw [upd_ne (ne_of_none p.at_ nt)]; exact p.at_), (by rw [List.length_map, List.length_replicate]; exact small1000 (by omega)), ?_⟩
        show Mk _ (upd _ D (.lst (_ ++ [V.bl (decide (ns[i] < ns[i + 1]))]))) D _
        rw [decide_eq_true hlt, List.replicate_succ', List.map_append]
        exact p.put (same_upd nt)
      · refine ⟨D, _, rfl, .inl (.inl p.at_), ?_⟩
        rw [all_true]
        exact q H2 (s1.trans p.same)
end
end Ov
namespace Ov
open PySem PySem.Spec PyProof.Rows L2
/-- a box of numbers: what is left of its own digits, a number, and how many were mixed -/
def BoxAt (H : Hp) (p : Addr) (n : Nat) : Prop := ∃ a b c : Int, H p = some (.lst [.int a, .int b, .int c]) ∧ 0 ≤ a ∧ a < 2 ^ 800 ∧ 0 ≤ b ∧ b < 2 ^ 62 ∧ 0 ≤ c ∧ c ≤ n
theorem BoxAt.mono {H : Hp} {p : Addr} {n m : Nat} (h : BoxAt H p n) (l : n ≤ m) : BoxAt H p m := by
  obtain ⟨a, b, c, e, h1, h2, h3, h4, h5, h6⟩ := h
  exact ⟨a, b, c, e, h1, h2, h3, h4, h5, by omega⟩
theorem BoxAt.same {H H' : Hp} {p : Addr} {n : Nat} (h : BoxAt H p n) (s : Same H H') : BoxAt H' p n := by
  obtain ⟨a, b, c, e, r⟩ := h
  exact ⟨a, b, c, s _ _ e, r⟩
/-- all that stood, but at p, stands -/
def But (p : Addr) (H H' : Hp) : Prop := ∀ b o, H b = some o → b ≠ p → H' b = some o
theorem But.refl (p : Addr) (H : Hp) : But p H H := fun _ _ e _ => e
theorem But.trans {p : Addr} {H H1 H2 : Hp} (a : But p H H1) (b : But p H1 H2) : But p H H2 := fun c o e n => b c o (a c o e n) n
theorem But.of {p : Addr} {H H1 : Hp} (a : Same H H1) : But p H H1 := fun c o e _ => a c o e
theorem But.free {p l : Addr} {H H' : Hp} (e : But p H H') (hp : H p ≠ none) (h : H' l = none) (hp' : H' p ≠ none) : H l = none := by
  cases q : H l with
  | none => rfl
  | some o =>
    by_cases hl : l = p
    · subst hl; exact absurd h hp'
    · rw [e l o q hl] at h; cases h
theorem BoxAt.ne {H : Hp} {p : Addr} {n : Nat} (h : BoxAt H p n) : H p ≠ none := by
  obtain ⟨a, b, c, e, _⟩ := h
  rw [e]; exact fun z => nomatch z
section
variable {P : Program} {w : World} {K : PySem.W.Frag} {mg : Str → Option Value} {base : Heap}
/-! ### _law_box -/
def spBox (K : PySem.W.Frag) : Sp := fun vs H Q _ => ∃ (a : Addr) (ns : List Int) (j : Nat), vs = [.ref a, .int j] ∧ SqL K H a (ns.map V.int) ∧ j ≤ 63 ∧ ∀ H' p, Same H H' → H p = none → BoxAt H' p 0 → Q (.ref p) H'
theorem scBox : FnScope ["_law_script", "_law_k", "_law_cell", "_law_own"] ["_law_script", "_law_k"] (defScope sBox) := ⟨rfl, rfl, rfl, by decide +kernel, rfl, by decide +kernel, by decide +kernel⟩
theorem big_pos : (0 : Int) < 10 ^ (60 : Int).toNat * 10 ^ (60 : Int).toNat * 10 ^ (60 : Int).toNat * 10 ^ (60 : Int).toNat := by decide +kernel
theorem big_lt : (10 : Int) ^ (60 : Int).toNat * 10 ^ (60 : Int).toNat * 10 ^ (60 : Int).toNat * 10 ^ (60 : Int).toNat ≤ 2 ^ 800 := by decide +kernel
/-- what is left of the text behind the cell -/
def tBoxRest : TS := tSeq (tAsg (tOp (rI CMul fun i j => .int (i * j)) (tOp (rI (fun _ j => 0 < j) fun i j => .int (i % j)) (tCB (fun xs H Q => ∃ i, xs = [.int i] ∧ Q (.int (if i < 0 then -i else i)) H) (tCons (tVar 2) tNil))
    (tOp (rI CMulW fun i j => .int (i * j)) (tOp (rI CMulW fun i j => .int (i * j)) (tOp (rI CMulW fun i j => .int (i * j)) (tOp (rI CPow fun i j => .int (i ^ j.toNat)) (tC (.int 10)) (tC (.int 60))) (tOp (rI CPow fun i j => .int (i ^ j.toNat)) (tC (.int 10)) (tC (.int 60)))) (tOp (rI CPow fun i j => .int (i ^ j.toNat)) (tC (.int 10)) (tC (.int 60)))) (tOp (rI CPow fun i j => .int (i ^ j.toNat)) (tC (.int 10)) (tC (.int 60)))))
    (tCB (fun xs H Q => (∃ i, xs = [.int i] ∧ Q (.int i) H) ∨ ∃ k, xs = [.bl k] ∧ Q (.int (if k then 1 else 0)) H) (tCons (tOp (rI0 fun i j => .bl (decide (j ≤ i))) (tCB (fun xs H Q => ∃ i, xs = [.int i] ∧ Q (.int (if i < 0 then -i else i)) H) (tCons (tVar 2) tNil)) (tOp (rI CPow fun i j => .int (i ^ j.toNat)) (tC (.int 10)) (tC (.int 18)))) tNil))) (gName 3))
  (tRet (tLst (tCons (tVar 3) (tCons (tOp (rI (fun _ j => 0 < j) fun i j => .int (i % j)) (tOp (rI CMul fun i j => .int (i * j)) (tOp (rI0 fun i j => .int (i + j)) (tOp (rI0 fun i j => .int (i + j)) (tOp (rI (fun _ j => 0 < j) fun i j => .int (i % j)) (tVar 2) (tC (.int 2305843009213693951))) (tOp (rI CMul fun i j => .int (i * j)) (tOp (rI CMul fun i j => .int (i * j)) (tC (.int 7919)) (tVar 1)) (tVar 1))) (tC (.int 43))) (tC (.int 48271))) (tC (.int 2305843009213693921))) (tCons (tC (.int 0)) tNil)))))
theorem own_ok {x : Int} (h0 : 0 ≤ x) (h1 : x < 2 ^ 800) (c : Bool) : 0 ≤ x * (if c = true then 1 else 0) ∧ x * (if c = true then 1 else 0) < 2 ^ 800 := by
  cases c
  · rw [if_neg (by decide), Int.mul_zero]
    exact ⟨by decide, by decide +kernel⟩
  · rw [if_pos rfl, Int.mul_one]
    exact ⟨h0, h1⟩
theorem bit_ok (c : Bool) : -(2 ^ 64) < (if c = true then (1 : Int) else 0) ∧ (if c = true then (1 : Int) else 0) < 2 ^ 64 := by
  cases c <;> exact ⟨by decide, by decide⟩
theorem box_rest {H : Hp} {D : Ends} {a : Addr} {j : Nat} {cell : Int} {y : Option V} (hj : j ≤ 63) (q : ∀ (H' : Hp) (p : Addr), Same H H' → H p = none → BoxAt H' p 0 → D.rt (V.ref p) H') : tBoxRest D [some (.ref a), some (.int j), some (.int cell), y] H := by
  have h60 : ((10 : Int) ^ (60 : Int).toNat).natAbs < 2 ^ 200 := by decide +kernel
  have h120 : ((10 : Int) ^ (60 : Int).toNat * 10 ^ (60 : Int).toNat).natAbs < 2 ^ 400 := by decide +kernel
  have h180 : ((10 : Int) ^ (60 : Int).toNat * 10 ^ (60 : Int).toNat * 10 ^ (60 : Int).toNat).natAbs < 2 ^ 600 := by decide +kernel
  have hp : CPow 10 60 := ⟨by decide, by decide, by decide⟩
  have hp2 : CPow 10 18 := ⟨by decide, by decide, by decide⟩
  refine ⟨_, rfl, _, rfl, _, _, rfl, rfl, hp, _, _, rfl, rfl, hp, _, _, rfl, rfl, wide_mul h60 h60 (by decide) (by decide) (by decide), _, _, rfl, rfl, hp, _, _, rfl, rfl, wide_mul h120 h60 (by decide) (by decide) (by decide), _, _, rfl, rfl, hp, _, _, rfl, rfl, wide_mul h180 h60 (by decide) (by decide) (by decide), _, _, rfl, rfl, big_pos, ?_⟩
  have hm0 : 0 ≤ (if cell < 0 then -cell else cell) % (10 ^ (60 : Int).toNat * 10 ^ (60 : Int).toNat * 10 ^ (60 : Int).toNat * 10 ^ (60 : Int).toNat) := Int.emod_nonneg _ (Int.ne_of_gt big_pos)
  have hm1 : (if cell < 0 then -cell else cell) % (10 ^ (60 : Int).toNat * 10 ^ (60 : Int).toNat * 10 ^ (60 : Int).toNat * 10 ^ (60 : Int).toNat) < 2 ^ 800 := Int.lt_of_lt_of_le (Int.emod_lt_of_pos _ big_pos) big_lt
  dsimp only
  generalize (if cell < 0 then -cell else cell) % (10 ^ (60 : Int).toNat * 10 ^ (60 : Int).toNat * 10 ^ (60 : Int).toNat * 10 ^ (60 : Int).toNat) = own at *
  refine ⟨_, rfl, _, rfl, _, _, rfl, rfl, hp2, _, _, rfl, rfl, .inr ⟨_, rfl, _, _, rfl, rfl, ?_, ?_⟩⟩
  · exact .inr (bit_ok _)
  dsimp only
  generalize decide ((10 : Int) ^ (18 : Int).toNat ≤ if cell < 0 then -cell else cell) = bb
  obtain ⟨ho0, ho1⟩ := own_ok hm0 hm1 bb
  generalize own * (if bb = true then 1 else 0) = o2 at *
  have hc0 : 0 ≤ cell % 2305843009213693951 := Int.emod_nonneg _ (by decide)
  have hc1 : cell % 2305843009213693951 < 2305843009213693951 := Int.emod_lt_of_pos _ (by decide)
  have hkk : (0 : Int) ≤ 7919 * (j : Int) * (j : Int) := Int.mul_nonneg (Int.mul_nonneg (by decide) (by omega)) (by omega)
  refine ⟨_, rfl, _, rfl, _, _, rfl, rfl, (show (0 : Int) < 2305843009213693951 by decide), _, rfl, _, _, rfl, rfl, .inl ⟨by decide, by decide⟩, _, rfl, _, _, rfl, rfl, .inr ⟨by omega, by omega⟩, _, _, rfl, rfl, _, _, rfl, rfl, _, _, rfl, rfl, .inr ⟨by decide, by decide⟩, _, _, rfl, rfl, (show (0 : Int) < 2305843009213693921 by decide), by show 3 ≤ sizeLine; decide, fun p np => ?_⟩
  exact q _ p (same_upd np) np ⟨_, _, _, upd_same, ho0, ho1, Int.emod_nonneg _ (by decide), Int.lt_of_lt_of_le (Int.emod_lt_of_pos _ (by decide)) (by decide), by decide, by decide⟩
theorem ok_box {f : Addr} {fd : FuncData} {k : Nat} (F : Fun K "_law_box" "_law_box" sBox f fd) (T : Bi mg) : FnOk P w K mg base CX0 (k + 1) f fd ["_law_script", "_law_k"] (spBox K) := by
  refine F.ok scBox (fun vs H Q E h => ?_) (fun cdv A' outer s H vs Q E hr h => ?_)
  · obtain ⟨a, ns, j, rfl, _⟩ := h
    rfl
  · obtain ⟨a, ns, j, rfl, hS, hj, q⟩ := h
    refine ⟨_, pss_cons (ps_set (i := 2) scBox.nd rfl (.inl rfl) (pe_ifExp (pt_cmpR op_lt (pv 1) (pe_callB call_len_seq (by rfl) T.len PySem.boot_len (pa_cons (pv 0) pa_nil)) (nomark _)) (pe_ix ix_list (pv 0) (pv 1) (fun _ _ => rfl)) pe_int))
      (pss_cons (ps_set (i := 3) scBox.nd rfl (.inl rfl) (pe_op op_mul (pe_op op_mod (pe_callB call_abs (by rfl) T.abs (by decide +kernel) (pa_cons (pv 2) pa_nil))
          (pe_op op_mulW (pe_op op_mulW (pe_op op_mulW (pe_op op_pow pe_int pe_int) (pe_op op_pow pe_int pe_int)) (pe_op op_pow pe_int pe_int)) (pe_op op_pow pe_int pe_int)))
        (pe_callTy call_int1 (by rfl) T.int (by decide +kernel) (pa_cons (pe_cmpR op_ge (pe_callB call_abs (by rfl) T.abs (by decide +kernel) (pa_cons (pv 2) pa_nil)) (pe_op op_pow pe_int pe_int) (nomark _)) pa_nil))))
      (pss_one (ps_ret (pe_lst (pa_cons (pv 3) (pa_cons (pe_op op_mod (pe_op op_mul (pe_op op_add (pe_op op_add (pe_op op_mod (pv 2) pe_int) (pe_op op_mul (pe_op op_mul pe_int (pv 1)) (pv 1))) pe_int) pe_int) pe_int) (pa_cons pe_int pa_nil))))))), ?_⟩
    refine ⟨_, rfl, _, rfl, a, _, rfl, .inl hS, _, _, rfl, rfl, _, rfl, ite2 (fun c => ?_) (fun c => ?_)⟩
    · have hj' : j < ns.length := by
        have := of_decide_eq_true c
        rw [List.length_map] at this
        omega
      refine ⟨_, rfl, _, rfl, a, _, _, _, rfl, rfl, hS, atI_nat (v := .int ns[j]) (by rw [List.getElem?_map, List.getElem?_eq_getElem hj']; rfl), ?_⟩
      exact box_rest (D := { nx := fun _ H' => Q .non H', rt := Q }) (y := none) hj q
    · exact box_rest (D := { nx := fun _ H' => Q .non H', rt := Q }) (y := none) hj q
end
end Ov
namespace Ov
open PySem PySem.Spec PyProof.Rows L2
section
variable {P : Program} {w : World} {K : PySem.W.Frag} {mg : Str → Option Value} {base : Heap}
/-! ### _law_take -/
def spTake : Sp := fun vs H Q _ => ∃ (p : Addr) (m : Int) (n : Nat), vs = [.ref p, .int m] ∧ BoxAt H p n ∧ n ≤ 2 ^ 40 ∧ 0 < m ∧ m < 2 ^ 200 ∧ ∀ H' (d : Int), But p H H' → BoxAt H' p (n + 1) → 0 ≤ d → d < m → (∀ b, H b = none → H' b = none) → Q (.int d) H'
theorem scTake : FnScope ["_law_box_here", "_law_many", "_law_digit", "_law_mixed"] ["_law_box_here", "_law_many"] (defScope sTake) := ⟨rfl, rfl, rfl, by decide +kernel, rfl, by decide +kernel, by decide +kernel⟩
theorem ok_take {f : Addr} {fd : FuncData} {k : Nat} (F : Fun K "_law_take" "_law_take" sTake f fd) : FnOk P w K mg base CX0 (k + 1) f fd ["_law_box_here", "_law_many"] spTake := by
  refine F.ok scTake (fun vs H Q E h => ?_) (fun cdv A' outer s H vs Q E hr h => ?_)
  · obtain ⟨p, m, n, rfl, _⟩ := h
    rfl
  · obtain ⟨p, m, n, rfl, ⟨a, b, c, hp, a0, a1, b0, b1, c0, c1⟩, hn, m0, m1, q⟩ := h
    refine ⟨_, pss_cons (ps_if (pt_cmpR op_gt (pe_ix ix_list (pv 0) pe_int (fun _ _ => rfl)) pe_int (nomark _))
        (pss_cons (ps_set (i := 2) scTake.nd rfl (.inl rfl) (pe_op op_mod (pe_ix ix_list (pv 0) pe_int (fun _ _ => rfl)) (pv 1)))
        (pss_cons (ps_asg (pe_op op_fdivW (pe_ix ix_list (pv 0) pe_int (fun _ _ => rfl)) (pv 1)) (pg_sub (pv 0) pe_int set_list))
        (pss_one (ps_ret (pv 2))))) pss_nil)
      (pss_cons (ps_asg (pe_op op_add (pe_ix ix_list (pv 0) pe_int (fun _ _ => rfl)) pe_int) (pg_sub (pv 0) pe_int set_list))
      (pss_cons (ps_set (i := 3) scTake.nd rfl (.inl rfl) (pe_op op_mod (pe_op op_mul (pe_op op_add (pe_op op_add (pe_ix ix_list (pv 0) pe_int (fun _ _ => rfl)) (pe_op op_mul (pe_op op_mul pe_int (pe_ix ix_list (pv 0) pe_int (fun _ _ => rfl))) (pe_ix ix_list (pv 0) pe_int (fun _ _ => rfl)))) pe_int) pe_int) pe_int))
      (pss_cons (ps_set (i := 3) scTake.nd rfl (.inl rfl) (pe_op op_mod (pe_op op_mul (pv 3) (pe_op op_add (pe_op op_mod (pv 3) pe_int) (pe_op op_mul pe_int (pe_ix ix_list (pv 0) pe_int (fun _ _ => rfl))))) pe_int))
      (pss_one (ps_ret (pe_op op_mod (pe_op op_add (pe_op op_fdiv (pv 3) pe_int) (pe_op op_fdiv (pv 3) pe_int)) (pv 1))))))), ?_⟩
    have i0 : ∀ x y z : V, atI [x, y, z] 0 = some x := fun x y z => atI_nat (j := 0) rfl
    have i1 : ∀ x y z : V, atI [x, y, z] 1 = some y := fun x y z => atI_nat (j := 1) rfl
    have i2 : ∀ x y z : V, atI [x, y, z] 2 = some z := fun x y z => atI_nat (j := 2) rfl
    refine ⟨_, rfl, p, _, _, _, rfl, rfl, SqL.of hp, i0 _ _ _, _, _, rfl, rfl, _, rfl, ?_⟩
    by_cases ha : 0 < a
    · rw [decide_eq_true ha]
      refine iteT ?_
      refine ⟨_, rfl, p, _, _, _, rfl, rfl, SqL.of hp, i0 _ _ _, _, rfl, _, _, rfl, rfl, m0, ?_⟩
      refine ⟨_, rfl, p, _, _, _, rfl, rfl, SqL.of hp, i0 _ _ _, _, rfl, _, _, rfl, rfl, wide_div (b := 200) m0 (by omega) (by decide) (by decide), _, rfl, p, _, _, 0, rfl, rfl, hp, rfl, _, rfl, ?_⟩
      refine q _ _ (fun x o e hx => by rw [upd_ne hx]; exact e) ⟨a / m, b, c, upd_same, ?_, ?_, b0, b1, c0, by omega⟩ (Int.emod_nonneg _ (by omega)) (Int.emod_lt_of_pos _ m0) (fun x e => by rw [upd_ne (fun z => by rw [z, hp] at e; cases e)]; exact e)
      · exact Int.ediv_nonneg a0 (by omega)
      · exact Int.lt_of_le_of_lt (Int.ediv_le_self _ a0) a1
    · rw [decide_eq_false ha]
      refine iteF ?_
      refine ⟨_, rfl, p, _, _, _, rfl, rfl, SqL.of hp, i2 _ _ _, _, _, rfl, rfl, _, rfl, p, _, _, 2, rfl, rfl, hp, rfl, ?_⟩
      have hp2 : (upd H p (.lst (([V.int a, V.int b, V.int c] : List V).set 2 (V.int (c + 1))))) p = some (.lst [V.int a, V.int b, V.int (c + 1)]) := upd_same
      have s2 : But p H (upd H p (.lst (([V.int a, V.int b, V.int c] : List V).set 2 (V.int (c + 1))))) := fun x o e hx => by rw [upd_ne hx]; exact e
      have f2 : ∀ x, H x = none → (upd H p (.lst (([V.int a, V.int b, V.int c] : List V).set 2 (V.int (c + 1))))) x = none := fun x e => by rw [upd_ne (fun z => by rw [z, hp] at e; cases e)]; exact e
      generalize upd H p (.lst (([V.int a, V.int b, V.int c] : List V).set 2 (V.int (c + 1)))) = H2 at *
      have hc2 : c + 1 ≤ 2 ^ 40 + 1 := by omega
      refine ⟨_, rfl, p, _, _, _, rfl, rfl, SqL.of hp2, i1 _ _ _, _, rfl, p, _, _, _, rfl, rfl, SqL.of hp2, i2 _ _ _, _, _, rfl, rfl, .inl ⟨by decide, by decide⟩, _, rfl, p, _, _, _, rfl, rfl, SqL.of hp2, i2 _ _ _, _, _, rfl, rfl, .inr ⟨by omega, by omega⟩, _, _, rfl, rfl, _, _, rfl, rfl, _, _, rfl, rfl, .inr ⟨by decide, by decide⟩, _, _, rfl, rfl, (show (0 : Int) < 2305843009213693921 by decide), ?_⟩
      dsimp only
      have x0 : 0 ≤ (b + 65537 * (c + 1) * (c + 1) + 11) * 48271 % 2305843009213693921 := Int.emod_nonneg _ (by decide)
      have x1 : (b + 65537 * (c + 1) * (c + 1) + 11) * 48271 % 2305843009213693921 < 2305843009213693921 := Int.emod_lt_of_pos _ (by decide)
      generalize (b + 65537 * (c + 1) * (c + 1) + 11) * 48271 % 2305843009213693921 = x at *
      refine ⟨_, rfl, _, rfl, _, _, rfl, rfl, (show (0 : Int) < 1000003 by decide), _, rfl, p, _, _, _, rfl, rfl, SqL.of hp2, i2 _ _ _, _, _, rfl, rfl, .inl ⟨by decide, by decide⟩, _, _, rfl, rfl, _, _, rfl, rfl, .inl ⟨by omega, by omega⟩, _, _, rfl, rfl, (show (0 : Int) < 2305843009213693907 by decide), ?_⟩
      dsimp only
      generalize x * (x % 1000003 + 99991 * (c + 1)) % 2305843009213693907 = y at *
      refine ⟨_, rfl, _, _, rfl, rfl, ⟨by decide, by decide⟩, _, rfl, _, _, rfl, rfl, ⟨by decide, by decide⟩, _, _, rfl, rfl, _, rfl, _, _, rfl, rfl, m0, ?_⟩
      exact q _ _ s2 ⟨a, b, c + 1, hp2, a0, a1, b0, b1, by omega, by omega⟩ (Int.emod_nonneg _ (by omega)) (Int.emod_lt_of_pos _ m0) f2
/-! ### _law_of -/
def spOf : Sp := fun vs H Q _ => ∃ (p l : Addr) (n : Nat) (xs : List V), vs = [.ref p, .ref l] ∧ BoxAt H p n ∧ n ≤ 2 ^ 40 ∧ H l = some (.lst xs) ∧ l ≠ p ∧ 0 < xs.length ∧ xs.length ≤ 1000 ∧ ∀ H' (v : V), v ∈ xs → But p H H' → BoxAt H' p (n + 1) → (∀ b, H b = none → H' b = none) → Q v H'
theorem scOf : FnScope ["_law_box_here", "_law_some"] ["_law_box_here", "_law_some"] (defScope sOf) := ⟨rfl, rfl, rfl, by decide +kernel, rfl, by decide +kernel, by decide +kernel⟩
theorem ok_of {f fT : Addr} {fd fdT : FuncData} {k : Nat} (F : Fun K "_law_of" "_law_of" sOf f fd) (T : Bi mg) (Tk : Def K mg "_law_take" sTake fT fdT ["_law_box_here", "_law_many"]) : FnOk P w K mg base CX0 (k + 2) f fd ["_law_box_here", "_law_some"] spOf := by
  have GT : FnOk P w K mg base CX0 (k + 1) fT fdT ["_law_box_here", "_law_many"] spTake := ok_take Tk.fn
  refine F.ok scOf (fun vs H Q E h => ?_) (fun cdv A' outer s H vs Q E hr h => ?_)
  · obtain ⟨p, l, n, xs, rfl, _⟩ := h
    rfl
  · obtain ⟨p, l, n, xs, rfl, B, hn, hl, hlp, h0, h1, q⟩ := h
    refine ⟨_, pss_one (ps_ret (pe_ix ix_list (pv 1) (pe_call GT hr (by rfl) Tk.gl Tk.fn.kp Tk.bi .nil pass0 (pa_cons (pv 0) (pa_cons (pe_callB call_len_seq (by rfl) T.len PySem.boot_len (pa_cons (pv 1) pa_nil)) pa_nil))) (fun _ _ => rfl))), ?_⟩
    refine ⟨_, rfl, _, rfl, _, rfl, l, _, rfl, .inl (SqL.of hl), p, _, n, rfl, B, hn, by omega, by omega, fun H' d bt B' d0 d1 fr => ?_⟩
    obtain ⟨i, rfl⟩ : ∃ i : Nat, d = i := ⟨d.toNat, by omega⟩
    have hi : i < xs.length := by omega
    exact ⟨l, xs, _, xs[i], rfl, rfl, SqL.of (bt _ _ hl hlp), atI_nat (List.getElem?_eq_getElem hi), q H' _ (List.getElem_mem hi) bt B' fr⟩
end
end Ov
namespace Ov
open PySem PySem.Spec PyProof.Rows L2
/-! ### names of instructions -/
def tail (c : Nat) : Nat := if c = 122 then 121 else 122
def nameOf (c t k : Nat) : List Nat := List.replicate (1 + t) c ++ List.replicate k (tail c)
theorem tail_ne (c : Nat) : tail c ≠ c := by
  unfold tail
  split <;> omega
theorem nameOf_inj {c t k c' t' k' : Nat} (h : nameOf c t k = nameOf c' t' k') : c = c' ∧ k = k' := by
  have hc : c = c' := by
    unfold nameOf at h
    rw [Nat.add_comm 1 t, Nat.add_comm 1 t', List.replicate_succ, List.replicate_succ] at h
    exact (List.cons.inj h).1
  subst hc
  refine ⟨rfl, ?_⟩
  have cnt : ∀ t k, (nameOf c t k).count (tail c) = k := fun t k => by
    unfold nameOf
    rw [List.count_append, List.count_replicate, List.count_replicate_self, if_neg]
    · omega
    · intro z
      exact tail_ne c (Eq.symm (by simpa using z))
  rw [← cnt t k, h, cnt]
theorem nameOf_len (c t k : Nat) : (nameOf c t k).length = 1 + t + k := by
  unfold nameOf
  rw [List.length_append, List.length_replicate, List.length_replicate]
theorem nameOf_low {c t k : Nat} (h1 : 97 ≤ c) (h2 : c ≤ 122) : ∀ x ∈ nameOf c t k, 97 ≤ x ∧ x ≤ 122 := by
  intro x hx
  unfold nameOf at hx
  rcases List.mem_append.mp hx with hx | hx
  · rw [(List.mem_replicate.mp hx).2]; exact ⟨h1, h2⟩
  · rw [(List.mem_replicate.mp hx).2]
    unfold tail
    split <;> omega
/-- an instruction -/
structure I4 where
  op : Nat
  nm : List Nat
  ln : Nat
  pad : Bool
/-- what is drawn for the place at -/
structure Drawn (lg first at_ : Nat) (x : I4) : Prop where
  nm : ∃ t, t < 3 ∧ x.nm = nameOf (97 + (first + 5 * at_) % 26) t (at_ / 26)
  ln : 1 ≤ x.ln ∧ x.ln ≤ lg
  pad : at_ = 0 → x.pad = true
/-- a valid table of instructions -/
structure TabOk (cnt lg : Nat) (is : List I4) : Prop where
  cb : 2 ≤ cnt ∧ cnt ≤ 256
  lb : lg ≤ 12
  ne : is ≠ []
  few : is.length ≤ 71
  asc : (is.map I4.op).Pairwise (· < ·)
  ops : ∀ x ∈ is, x.op < cnt
  len : ∀ x ∈ is, 1 ≤ x.ln ∧ x.ln ≤ lg
  nms : ∀ x ∈ is, 1 ≤ x.nm.length ∧ x.nm.length ≤ 8 ∧ ∀ c ∈ x.nm, 97 ≤ c ∧ c ≤ 122
  nd : (is.map I4.nm).Nodup
  fst : ∀ x, is[0]? = some x → x.pad = true
theorem names_nodup {lg first : Nat} {is : List I4} (hd : ∀ i x, is[i]? = some x → Drawn lg first i x) : (is.map I4.nm).Nodup := by
  rw [List.nodup_iff_pairwise_ne, List.pairwise_map, List.pairwise_iff_getElem]
  intro i j hi hj hij e
  obtain ⟨t, _, e1⟩ := (hd i _ (List.getElem?_eq_getElem hi)).nm
  obtain ⟨t', _, e2⟩ := (hd j _ (List.getElem?_eq_getElem hj)).nm
  rw [e1, e2] at e
  obtain ⟨h1, h2⟩ := nameOf_inj e
  omega
/-- an instruction as it stands -/
def I4.vs (x : I4) : List V := [.int (x.op : Int), .str (txt x.nm), .int (x.ln : Int), .bl x.pad]
/-- instructions, each a tuple of its own, in a tuple (or list) -/
def Rows (H : Hp) (rs : List Addr) (is : List I4) : Prop := rs.length = is.length ∧ ∀ (i : Nat) (r : Addr) (x : I4), rs[i]? = some r → is[i]? = some x → H r = some (.tup x.vs)
theorem Rows.same {H H' : Hp} {rs : List Addr} {is : List I4} (h : Rows H rs is) (s : Same H H') : Rows H' rs is := ⟨h.1, fun i r x h1 h2 => s _ _ (h.2 i r x h1 h2)⟩
theorem Rows.but {H H' : Hp} {p : Addr} {n : Nat} {rs : List Addr} {is : List I4} (h : Rows H rs is) (b : But p H H') (B : BoxAt H p n) : Rows H' rs is := by
  refine ⟨h.1, fun i r x h1 h2 => ?_⟩
  have hr := h.2 i r x h1 h2
  refine b _ _ hr fun z => ?_
  obtain ⟨a, b, c, e, _⟩ := B
  rw [z, e] at hr
  cases hr
theorem Rows.more {H : Hp} {rs : List Addr} {is : List I4} {r : Addr} {x : I4} (h : Rows H rs is) (hr : H r = some (.tup x.vs)) : Rows H (rs ++ [r]) (is ++ [x]) := by
  refine ⟨by rw [List.length_append, List.length_append, h.1]; rfl, fun i r' x' h1 h2 => ?_⟩
  by_cases c : i < rs.length
  · rw [List.getElem?_append_left c] at h1
    rw [List.getElem?_append_left (by rw [← h.1]; exact c)] at h2
    exact h.2 i r' x' h1 h2
  · have hl := (List.getElem?_eq_some_iff.mp h1).1
    rw [List.length_append] at hl
    have e : i = rs.length := by
      have : ([r] : List Addr).length = 1 := rfl
      omega
    subst e
    rw [List.getElem?_append_right (Nat.le_refl _), Nat.sub_self] at h1
    rw [h.1, List.getElem?_append_right (Nat.le_refl _), Nat.sub_self] at h2
    have e1 : r = r' := Option.some.inj h1
    have e2 : x = x' := Option.some.inj h2
    subst e1 e2
    exact hr
/-- a table: (byte count, instructions) -/
structure Tab (H : Hp) (t : Addr) (cnt lg : Nat) (is : List I4) (it : Addr) (rs : List Addr) : Prop where
  at_ : H t = some (.tup [.int (cnt : Int), .ref it])
  its : H it = some (.tup (rs.map V.ref))
  rows : Rows H rs is
  ok : TabOk cnt lg is
theorem Tab.same {H H' : Hp} {t : Addr} {cnt lg : Nat} {is : List I4} {it : Addr} {rs : List Addr} (h : Tab H t cnt lg is it rs) (s : Same H H') : Tab H' t cnt lg is it rs := ⟨s _ _ h.at_, s _ _ h.its, h.rows.same s, h.ok⟩
theorem ne_box {H : Hp} {p a : Addr} {n : Nat} {xs : List V} (B : BoxAt H p n) (h : H a = some (.tup xs)) : a ≠ p := fun z => by
  obtain ⟨_, _, _, e, _⟩ := B
  rw [z, e] at h
  cases h
theorem Tab.but {H H' : Hp} {p : Addr} {n : Nat} {t : Addr} {cnt lg : Nat} {is : List I4} {it : Addr} {rs : List Addr} (h : Tab H t cnt lg is it rs) (b : But p H H') (B : BoxAt H p n) : Tab H' t cnt lg is it rs :=
  ⟨b _ _ h.at_ (ne_box B h.at_), b _ _ h.its (ne_box B h.its), h.rows.but b B, h.ok⟩
theorem abc_at : ∀ i : Nat, i < 26 → atI (Str.ofString "abcdefghijklmnopqrstuvwxyz").cps.toList (i : Int) = some (97 + i) := by
  intro i hi
  refine atI_nat ?_
  rcases i with _ | _ | _ | _ | _ | _ | _ | _ | _ | _ | _ | _ | _ | _ | _ | _ | _ | _ | _ | _ | _ | _ | _ | _ | _ | _ | i <;> first | (exfalso; omega) | decide +kernel
theorem txt_add (a b : List Nat) : txt a ++ txt b = txt (a ++ b) := by
  show (⟨a.toArray ++ b.toArray⟩ : Str) = ⟨(a ++ b).toArray⟩
  simp
/-- how long the list at l is -/
def lenAt (H : Hp) (l : Addr) : Nat := match H l with
  | some (.lst xs) => xs.length
  | _ => 0
theorem lenAt_of {H : Hp} {l : Addr} {xs : List V} (h : H l = some (.lst xs)) : lenAt H l = xs.length := by
  unfold lenAt
  rw [h]
end Ov
namespace Ov
open PySem PySem.Spec PyProof.Rows L2
theorem erase_map {α β : Type} (f : α → β) : ∀ (l : List α) (j : Nat), (l.map f).eraseIdx j = (l.eraseIdx j).map f
  | [], j => rfl
  | a :: l, 0 => rfl
  | a :: l, j + 1 => by
    rw [List.map_cons, List.eraseIdx_cons_succ, List.eraseIdx_cons_succ, List.map_cons, erase_map f l j]
section
variable {P : Program} {w : World} {K : PySem.W.Frag} {mg : Str → Option Value} {base : Heap}
/-! ### _law_table -/
def spTable : Sp := fun vs H Q _ => ∃ (p : Addr) (n mb lg : Nat), vs = [.ref p, .int (mb : Int), .int (lg : Int)] ∧ BoxAt H p n ∧ n ≤ 2 ^ 39 ∧ 2 ≤ mb ∧ mb ≤ 256 ∧ 1 ≤ lg ∧ lg ≤ 12 ∧
  ∀ H' t cnt is it rs, But p H H' → BoxAt H' p (n + 1000) → H t = none → Tab H' t cnt lg is it rs → cnt ≤ mb → Q (.ref t) H'
theorem scTable : FnScope ["_law_box_here", "_law_most_bytes", "_law_longest", "_law_count", "_law_many", "_law_opcodes", "_law_found", "_law_first", "_law_at", "_law_opcode", "_law_letter", "_law_name", "_law_length"] ["_law_box_here", "_law_most_bytes", "_law_longest"] (defScope sTable) := ⟨rfl, rfl, rfl, by decide +kernel, rfl, by decide +kernel, by decide +kernel⟩
theorem ok_table {f fO fT : Addr} {fd fdO fdT : FuncData} {k : Nat} (F : Fun K "_law_table" "_law_table" sTable f fd) (T : Bi mg) (O : Def K mg "_law_of" sOf fO fdO ["_law_box_here", "_law_some"]) (Tk : Def K mg "_law_take" sTake fT fdT ["_law_box_here", "_law_many"]) :
    FnOk P w K mg base CX0 (k + 3) f fd ["_law_box_here", "_law_most_bytes", "_law_longest"] spTable := by
  have GO : FnOk P w K mg base CX0 (k + 2) fO fdO ["_law_box_here", "_law_some"] spOf := ok_of O.fn T Tk
  have GT : FnOk P w K mg base CX0 (k + 2) fT fdT ["_law_box_here", "_law_many"] spTake := ok_take Tk.fn
  refine F.ok scTable (fun vs H Q E h => ?_) (fun cdv A' outer s H vs Q E hr h => ?_)
  · obtain ⟨p, n, mb, lg, rfl, _⟩ := h
    rfl
  · obtain ⟨p, n, mb, lg, rfl, B, hn, mb1, mb2, lg1, lg2, q⟩ := h
    refine ⟨_, pss_cons (ps_set (i := 3) scTable.nd rfl (.inl rfl) (pe_op op_add pe_int (pe_call GT hr (by rfl) Tk.gl Tk.fn.kp Tk.bi .nil pass0 (pa_cons (pv 0) (pa_cons (pe_op op_sub (pv 1) pe_int) pa_nil)))))
      (pss_cons (ps_par (i := 4) (j := 5) (by rfl) scTable.nd rfl rfl (by decide) rfl rfl (pa_cons (pe_op op_add pe_int (pe_call GT hr (by rfl) Tk.gl Tk.fn.kp Tk.bi .nil pass0 (pa_cons (pv 0) (pa_cons (pe_callB (call_min2 rfl) (by rfl) T.min (by decide +kernel) (pa_cons pe_int (pa_cons (pv 3) pa_nil))) pa_nil))))
          (pa_cons (pe_listRange (by rfl) T.list (by rfl) T.range (pv 3)) pa_nil)) (by rfl))
      (C8.pss_cut (ps_if (PW.pt (pw_and (pt_cmpR op_gt (pv 3) pe_int (nomark _)) (pw_and1 (pt_cmpR op_eq (pe_op op_mod (pv 3) pe_int) pe_int (nomark _))))) (pss_one (ps_set (i := 4) scTable.nd rfl (.inl rfl) (pe_op op_add pe_int (pe_op op_fdiv (pv 3) pe_int)))) pss_nil)
      (pss_cons (ps_while PassesOwn.never (pt_cmpR op_gt (pe_callB call_len_seq (by rfl) T.len PySem.boot_len (pa_cons (pv 5) pa_nil)) (pv 4) (nomark _))
        (pss_one (ps_expr (pe_bm PySem.F.plainAttrs_list PySem.F.slot_list_pop PySem.F.type_list_pop mt_popAt (pv 5) (pa_cons (pe_call GT hr (by rfl) Tk.gl Tk.fn.kp Tk.bi .nil pass0 (pa_cons (pv 0) (pa_cons (pe_callB call_len_seq (by rfl) T.len PySem.boot_len (pa_cons (pv 5) pa_nil)) pa_nil))) pa_nil)))))
      (pss_cons (ps_par (i := 6) (j := 7) (by rfl) scTable.nd rfl rfl (by decide) rfl rfl (pa_cons (pe_lst pa_nil) (pa_cons (pe_call GT hr (by rfl) Tk.gl Tk.fn.kp Tk.bi .nil pass0 (pa_cons (pv 0) (pa_cons pe_int pa_nil))) pa_nil)) (by rfl))
      (pss_cons (ps_for PassesOwn.never rfl (pi_enum (by rfl) T.enumerate (pa_cons (pv 5) pa_nil)) (pg_tup rfl (pgs_cons (pg_name (i := 8) scTable.nd rfl (.inl rfl)) (pgs_cons (pg_name (i := 9) scTable.nd rfl (.inl rfl)) pgs_nil)))
        (pss_cons (ps_set (i := 10) scTable.nd rfl (.inl rfl) (pe_ix ix_str pe_str (pe_op op_mod (pe_op op_add (pv 7) (pe_op op_mul pe_int (pv 8))) pe_int) (fun _ _ => rfl)))
        (pss_cons (ps_set (i := 11) scTable.nd rfl (.inl rfl) (pe_op op_add_str (pe_op op_mulS (pv 10) (pe_op op_add pe_int (pe_call GT hr (by rfl) Tk.gl Tk.fn.kp Tk.bi .nil pass0 (pa_cons (pv 0) (pa_cons pe_int pa_nil)))))
          (pe_op op_mulS (pe_ifExp (pt_cmpR op_eq (pv 10) pe_str (nomark _)) pe_str pe_str) (pe_op op_fdiv (pv 8) pe_int))))
        (pss_cons (ps_set (i := 12) scTable.nd rfl (.inl rfl) (pe_call GO hr (by rfl) O.gl O.fn.kp O.bi .nil pass0 (pa_cons (pv 0) (pa_cons (pe_lst (pa_cons pe_int (pa_cons pe_int (pa_cons pe_int (pa_cons (pe_op op_add pe_int (pe_call GT hr (by rfl) Tk.gl Tk.fn.kp Tk.bi .nil pass0 (pa_cons (pv 0) (pa_cons (pv 2) pa_nil)))) pa_nil))))) pa_nil))))
        (pss_one (ps_expr (pe_bm PySem.F.plainAttrs_list PySem.F.slot_list_append PySem.F.type_list_append mt_append (pv 6) (pa_cons (pe_tup (pa_cons (pv 9) (pa_cons (pv 11) (pa_cons (pe_callB (call_min2 rfl) (by rfl) T.min (by decide +kernel) (pa_cons (pv 12) (pa_cons (pv 2) pa_nil)))
          (pa_cons (pe_or (pe_cmpR op_eq (pv 8) pe_int (nomark _)) (pe_one (pe_cmpR op_eq (pe_call GT hr (by rfl) Tk.gl Tk.fn.kp Tk.bi .nil pass0 (pa_cons (pv 0) (pa_cons pe_int pa_nil))) pe_int (nomark _)))) pa_nil))))) pa_nil))))))))
      (pss_one (ps_ret (pe_tup (pa_cons (pv 3) (pa_cons (pe_callTy call_tuple_of (by rfl) T.tuple (by decide +kernel) (pa_cons (pv 6) pa_nil)) pa_nil)))))))))), ?_⟩
    -- the byte count
    refine ⟨_, rfl, _, rfl, _, _, rfl, rfl, p, _, n, rfl, B, by omega, by omega, by omega, fun H1 c b1 B1 c0 c1 f1 => ⟨_, _, rfl, rfl, ?_⟩⟩
    obtain ⟨cnt, ec⟩ : ∃ cnt : Nat, 2 + c = (cnt : Int) := ⟨(2 + c).toNat, by omega⟩
    have hc2 : 2 ≤ cnt ∧ cnt ≤ mb := by omega
    dsimp only
    rw [ec]
    -- how many, and all opcodes
    refine ⟨_, rfl, _, rfl, _, _, rfl, p, _, n + 1, rfl, B1, by omega, by split <;> omega, by split <;> omega, fun H2 e b2 B2 e0 e1 f2 => ?_⟩
    refine ⟨_, _, rfl, rfl, _, rfl, cnt, rfl, by omega, fun l nl => ⟨_, _, rfl, ?_⟩⟩
    obtain ⟨mn0, em⟩ : ∃ m : Nat, 1 + e = (m : Int) := ⟨(1 + e).toNat, by omega⟩
    have hm0 : 1 ≤ mn0 ∧ mn0 ≤ 71 := by
      have : e < 6 := by
        revert e1
        split <;> omega
      omega
    dsimp only
    rw [em]
    have b02 : But p H H2 := b1.trans b2
    have hlp : l ≠ p := fun z => B2.ne (z ▸ nl)
    have hHl : H l = none := b02.free B.ne nl B2.ne
    have s3 := same_upd (o := HO.lst ((List.range cnt).map fun i : Nat => V.int (i : Int))) nl
    have b03 : But p H _ := b02.trans (But.of s3)
    have B3 := B2.same s3
    have h3 := @upd_same H2 l (HO.lst ((List.range cnt).map fun i : Nat => V.int (i : Int)))
    generalize upd H2 l (HO.lst ((List.range cnt).map fun i : Nat => V.int (i : Int))) = H3 at *
    -- at times more of them
    refine ⟨fun σ H4 => H4 = H3 ∧ ∃ mn : Nat, 1 ≤ mn ∧ mn ≤ 71 ∧ σ = [some (.ref p), some (.int (mb : Int)), some (.int (lg : Int)), some (.int (cnt : Int)), some (.int (mn : Int)), some (.ref l), none, none, none, none, none, none, none], ?_, ?_⟩
    · refine ⟨_, rfl, _, _, rfl, rfl, _, rfl, ite2 (fun _ => ?_) (fun _ => ?_)⟩
      · refine ⟨_, rfl, _, _, rfl, rfl, (show (0 : Int) < 7 by decide), rfl, _, rfl, ite2 (fun _ => ?_) (fun _ => ?_)⟩
        · refine ⟨_, rfl, _, _, rfl, rfl, ⟨by decide, by decide⟩, _, _, rfl, rfl, rfl, 7 + cnt / 4, by omega, by omega, ?_⟩
          show [some (V.ref p), _, _, _, some (V.int (7 + (cnt : Int) / 4)), _, _, _, _, _, _, _, _] = _
          rw [show (7 + (cnt : Int) / 4) = ((7 + cnt / 4 : Nat) : Int) by omega]
        · exact ⟨rfl, mn0, hm0.1, hm0.2, rfl⟩
      · exact ⟨rfl, mn0, hm0.1, hm0.2, rfl⟩
    rintro σ H4 ⟨rfl, mn, mn1, mn2, rfl⟩
    -- thrown out, one by one
    refine while_by (fun σ H5 => σ = [some (.ref p), some (.int (mb : Int)), some (.int (lg : Int)), some (.int (cnt : Int)), some (.int (mn : Int)), some (.ref l), none, none, none, none, none, none, none] ∧
        But p H H5 ∧ ∃ ops : List Nat, H5 l = some (.lst (ops.map fun i : Nat => V.int (i : Int))) ∧ ops.Pairwise (· < ·) ∧ (∀ x ∈ ops, x < cnt) ∧ 1 ≤ ops.length ∧ ops.length ≤ cnt ∧ BoxAt H5 p (n + 2 + (cnt - ops.length))) (fun _ H5 => lenAt H5 l)
      ⟨rfl, b03, List.range cnt, h3, List.pairwise_lt_range, fun x hx => List.mem_range.mp hx, by rw [List.length_range]; omega, by rw [List.length_range]; exact Nat.le_refl _, B3.mono (by omega)⟩ ?_ ?_
    · rintro σ H5 ⟨rfl, b5, ops, h5, asc, lt, l1, l2, B5⟩
      refine ⟨_, rfl, l, _, rfl, .inl (SqL.of h5), _, rfl, _, _, rfl, rfl, _, rfl, ?_⟩
      rw [List.length_map]
      by_cases big : (mn : Int) < (ops.length : Int)
      · rw [decide_eq_true big]
        refine iteT ?_
        refine ⟨_, rfl, .inl ⟨rfl, _, SqL.of h5⟩, _, rfl, _, rfl, l, _, rfl, .inl (SqL.of h5), p, _, _, rfl, B5, by omega, by rw [List.length_map]; omega, by rw [List.length_map]; omega, fun H6 d b6 B6 d0 d1 f6 => ?_⟩
        rw [List.length_map] at d1
        obtain ⟨j, rfl⟩ : ∃ j : Nat, d = (j : Int) := ⟨d.toNat, by omega⟩
        have hj : j < ops.length := by omega
        have h6 := b6 _ _ h5 hlp
        refine ⟨l, _, (j : Int), j, _, rfl, rfl, h6, by omega, by omega, (ixN_seq (ixN_at (by rw [List.length_map]; exact hj))).1, (by rw [List.getElem?_map, List.getElem?_eq_getElem hj]; rfl), ?_⟩
        have eE : (ops.map fun i : Nat => V.int (i : Int)).eraseIdx j = (ops.eraseIdx j).map fun i : Nat => V.int (i : Int) := by
          exact erase_map _ _ _
        rw [eE]
        have hlen : (ops.eraseIdx j).length = ops.length - 1 := List.length_eraseIdx_of_lt hj
        refine ⟨⟨rfl, fun b o eb hb => ?_, ops.eraseIdx j, upd_same, asc.sublist (List.eraseIdx_sublist ops j), fun x hx => lt x (List.mem_of_mem_eraseIdx hx), by omega, by omega, ?_⟩, ?_⟩
        · rw [upd_ne (ne_of_none eb hHl)]
          exact b6 _ _ (b5 b o eb hb) hb
        · obtain ⟨x1, x2, x3, e1, r⟩ := B6
          have := (show BoxAt (upd H6 l (.lst ((ops.eraseIdx j).map fun i : Nat => V.int (i : Int)))) p (n + 2 + (cnt - ops.length) + 1) from ⟨x1, x2, x3, by rw [upd_ne (Ne.symm hlp)]; exact e1, r⟩)
          exact this.mono (by omega)
        · rw [lenAt_of upd_same, lenAt_of h5, List.length_map, List.length_map]
          omega
      · rw [decide_eq_false big]
        refine iteF ?_
        have few : ops.length ≤ 71 := by omega
        -- the names' first letter
        refine ⟨Nat.zero_le _, fun fo nfo => ?_⟩
        have s7 := same_upd (o := HO.lst []) nfo
        have hfp : fo ≠ p := fun z => B5.ne (z ▸ nfo)
        have hHfo : H fo = none := b5.free B.ne nfo B5.ne
        refine ⟨_, rfl, p, 26, _, rfl, B5.same s7, by omega, by decide, by decide, fun H8 fst b8 B8 f80 f81 f8 => ⟨_, _, rfl, ?_⟩⟩
        obtain ⟨fi, rfl⟩ : ∃ j : Nat, fst = (j : Int) := ⟨fst.toNat, by omega⟩
        have h8l := b8 _ _ (s7 _ _ h5) hlp
        have h8f : H8 fo = some (.lst []) := b8 _ _ upd_same hfp
        have b08 : But p H H8 := (b5.trans (But.of s7)).trans b8
        have nHfo8 : fo ≠ l := (ne_of_none h5 nfo).symm
        -- one instruction for each
        refine ⟨_, rfl, l, _, rfl, SqL.of h8l, for_it (walk_enum (K := K) (a := l) (xs := ops.map fun i : Nat => V.int (i : Int)))
          (fun i σ H9 => ∃ y8 y9 y10 y11 y12, σ = [some (.ref p), some (.int (mb : Int)), some (.int (lg : Int)), some (.int (cnt : Int)), some (.int (mn : Int)), some (.ref l), some (.ref fo), some (.int (fi : Int)), y8, y9, y10, y11, y12] ∧
            But p H H9 ∧ H9 l = some (.lst (ops.map fun i : Nat => V.int (i : Int))) ∧ BoxAt H9 p (n + 300 + 4 * i) ∧ ∃ (rs : List Addr) (is : List I4), H9 fo = some (.lst (rs.map V.ref)) ∧ is.length = i ∧ Rows H9 rs is ∧ (∀ j x, is[j]? = some x → Drawn lg fi j x ∧ ops[j]? = some x.op))
          ⟨none, none, none, none, none, rfl, b08, h8l, B8.mono (by omega), [], [], h8f, rfl, ⟨rfl, fun i r x h => by simp at h⟩, fun j x h => by simp at h⟩ (fun i σ H9 _ ⟨_, _, _, _, _, _, _, h, _⟩ => SqL.of h) ?_ ?_⟩
        · rintro i x σ H9 H10 hi ⟨y8, y9, y10, y11, y12, rfl, b9, h9l, B9, rs, is, h9f, hil, R9, D9⟩ ⟨tt, x1, x2, rfl, ntt, rfl, f1, f2⟩
          rw [List.length_map] at hi
          have e1 : x1 = .int (i : Int) := (Option.some.inj f1).symm
          have e2 : x2 = .int ((ops[i] : Nat) : Int) := by
            have : (ops.map fun i : Nat => V.int (i : Int))[i]? = some x2 := f2
            rw [List.getElem?_map, List.getElem?_eq_getElem hi] at this
            exact (Option.some.inj this).symm
          subst e1 e2
          have st := same_upd (o := HO.tup [V.int (i : Int), V.int ((ops[i] : Nat) : Int)]) ntt
          refine ⟨tt, _, rfl, SqT.of upd_same, rfl, _, _, rfl, _, _, rfl, rfl, ?_⟩
          -- the letter
          refine ⟨_, rfl, _, rfl, _, _, rfl, rfl, .inl ⟨by decide, by decide⟩, _, _, rfl, rfl, _, _, rfl, rfl, (show (0 : Int) < 26 by decide), _, _, 97 + (fi + 5 * i) % 26, rfl, rfl, by decide +kernel, ?_, ?_⟩
          · rw [show ((fi : Int) + 5 * (i : Int)) % 26 = (((fi + 5 * i) % 26 : Nat) : Int) by omega]
            exact abc_at _ (Nat.mod_lt _ (by decide))
          generalize hcc : 97 + (fi + 5 * i) % 26 = cc at *
          have cc1 : 97 ≤ cc ∧ cc ≤ 122 := by omega
          -- the name
          refine ⟨_, rfl, _, rfl, p, 3, _, rfl, B9.same st, by omega, by decide, by decide, fun H11 t3 b11 B11 t0 t1 f11 => ?_⟩
          obtain ⟨t, rfl⟩ : ∃ j : Nat, t3 = (j : Int) := ⟨t3.toNat, by omega⟩
          refine ⟨_, _, rfl, rfl, [cc], _, rfl, rfl, by omega, by omega, (show 1 ≤ 1000 by decide), ?_⟩
          have eqz : ∀ (Q : Prop) (R : Prop), (cc = 122 → Q) → (cc ≠ 122 → R) → (if decide (V.str (txt [cc]) = V.str (Str.ofString "z")) = true then Q else R) := fun Q R h1 h2 => by
            by_cases z : cc = 122
            · rw [decide_eq_true (by rw [z]; decide +kernel)]
              exact iteT (h1 z)
            · rw [decide_eq_false (fun w => z (by
                have : txt [cc] = txt [122] := (V.str.inj w).trans (by decide +kernel)
                exact (List.cons.inj (txt_inj this)).1))]
              exact iteF (h2 z)
          have rep1 : ∀ (m c : Nat), (List.replicate m [c]).flatten = List.replicate m c := fun m c => flat_rep c m
          have s911 : But p H9 H11 := (But.of st).trans b11
          have b11' : But p H H11 := b9.trans s911
          have h11l := s911 _ _ h9l hlp
          have h11f := s911 _ _ h9f hfp
          have R11 := R9.but s911 B9
          refine ⟨_, rfl, rfl, _, rfl, eqz _ _ (fun z => ?_) (fun z => ?_)⟩
          all_goals
            refine ⟨_, rfl, _, _, rfl, rfl, ⟨by decide, by decide⟩, [tail cc], _, ?_, rfl, by omega, by omega, (show 1 ≤ 1000 by decide), ?_⟩
            · unfold tail
              first
                | (rw [if_pos z]; decide +kernel)
                | (rw [if_neg z]; decide +kernel)
            rw [rep1, rep1, show (1 + (t : Int)).toNat = 1 + t by omega, show ((i : Int) / 26).toNat = i / 26 by omega]
            refine ⟨_, _, rfl, rfl, ?_, ?_⟩
            · rw [txt_len, txt_len, List.length_replicate, List.length_replicate]
              exact Nat.le_of_lt (small1000 (by omega))
            rw [txt_add]
            show tSeq _ _ _ ([some (V.ref p), some (.int (mb : Int)), some (.int (lg : Int)), some (.int (cnt : Int)), some (.int (mn : Int)), some (.ref l), some (.ref fo), some (.int (fi : Int)), some (.int (i : Int)), some (.int ((ops[i] : Nat) : Int)), some (.str (txt [cc])), some (.str (txt (nameOf cc t (i / 26)))), y12] : L2.St) H11
            -- the length
            refine ⟨_, rfl, _, rfl, _, rfl, p, (lg : Int), _, rfl, B11, by omega, by omega, by omega, fun H12 e4 b12 B12 e40 e41 f12 => ?_⟩
            refine ⟨_, _, rfl, rfl, by show 4 ≤ sizeLine; decide, fun l4 nl4 => ?_⟩
            have s12 := same_upd (o := HO.lst [V.int 1, V.int 2, V.int 3, V.int (1 + e4)]) nl4
            have hl4p : l4 ≠ p := fun z => B12.ne (z ▸ nl4)
            refine ⟨p, l4, _, _, rfl, B12.same s12, by omega, upd_same, hl4p, (show 0 < 4 by decide), (show 4 ≤ 1000 by decide), fun H13 v hv b13 B13 f13 => ?_⟩
            obtain ⟨ln, rfl, ln1, ln2⟩ : ∃ ln : Nat, v = .int (ln : Int) ∧ 1 ≤ ln ∧ ln ≤ 12 := by
              simp only [List.mem_cons, List.not_mem_nil, or_false] at hv
              rcases hv with rfl | rfl | rfl | rfl
              · exact ⟨1, rfl, by decide, by decide⟩
              · exact ⟨2, rfl, by decide, by decide⟩
              · exact ⟨3, rfl, by decide, by decide⟩
              · exact ⟨(1 + e4).toNat, by congr 1; omega, by omega, by omega⟩
            have s1113 : But p H11 H13 := (b12.trans (But.of s12)).trans b13
            have h13l := s1113 _ _ h11l hlp
            have h13f := s1113 _ _ h11f hfp
            have R13 := R11.but s1113 B11
            have b13' := b11'.trans s1113
            refine ⟨_, rfl, .inl ⟨rfl, _, SqL.of h13f⟩, _, rfl, _, rfl, _, rfl, _, rfl, _, _, rfl, _, rfl, rfl, _, rfl, ?_⟩
            have emin : (if (lg : Int) < (ln : Int) then (lg : Int) else (ln : Int)) = ((min ln lg : Nat) : Int) := by
              split <;> omega
            dsimp only
            rw [emin]
            -- the last part: it is put behind the others
            have put : ∀ (b : Bool) (H14 : Hp), (i = 0 → b = true) → But p H H14 → H14 l = some (.lst (ops.map fun i : Nat => V.int (i : Int))) → BoxAt H14 p (n + 300 + 4 * (i + 1)) → H14 fo = some (.lst (rs.map V.ref)) → Rows H14 rs is →
                ∀ r, H14 r = none → ∃ (rs' : List Addr) (is' : List I4), upd (upd H14 r (.tup [.int ((ops[i] : Nat) : Int), .str (txt (nameOf cc t (i / 26))), .int ((min ln lg : Nat) : Int), .bl b])) fo (.lst (rs.map V.ref ++ [V.ref r])) fo = some (.lst (rs'.map V.ref)) ∧ is'.length = i + 1 ∧
                  Rows (upd (upd H14 r (.tup [.int ((ops[i] : Nat) : Int), .str (txt (nameOf cc t (i / 26))), .int ((min ln lg : Nat) : Int), .bl b])) fo (.lst (rs.map V.ref ++ [V.ref r]))) rs' is' ∧ (∀ j x, is'[j]? = some x → Drawn lg fi j x ∧ ops[j]? = some x.op) := by
              intro b H14 hb b14 h14l B14 h14f R14 r nr
              have sr := same_upd (o := HO.tup [.int ((ops[i] : Nat) : Int), .str (txt (nameOf cc t (i / 26))), .int ((min ln lg : Nat) : Int), .bl b]) nr
              have hrf : r ≠ fo := fun z => by rw [z, h14f] at nr; cases nr
              have R15 := (R14.same sr).more (r := r) (x := ⟨ops[i], nameOf cc t (i / 26), min ln lg, b⟩) upd_same
              refine ⟨rs ++ [r], is ++ [⟨ops[i], nameOf cc t (i / 26), min ln lg, b⟩], by rw [upd_same, List.map_append]; rfl, by rw [List.length_append, hil]; rfl, ⟨R15.1, fun j r' x' h1 h2 => ?_⟩, fun j x hj => ?_⟩
              · have := R15.2 j r' x' h1 h2
                rw [upd_ne (fun z => by rw [z, sr _ _ h14f] at this; cases this)]
                exact this
              · by_cases c : j < is.length
                · rw [List.getElem?_append_left c] at hj
                  exact D9 j x hj
                · have hl := (List.getElem?_eq_some_iff.mp hj).1
                  rw [List.length_append] at hl
                  have e : j = i := by
                    have : ([⟨ops[i], nameOf cc t (i / 26), min ln lg, b⟩] : List I4).length = 1 := rfl
                    omega
                  subst e
                  rw [List.getElem?_append_right (by omega), hil, Nat.sub_self] at hj
                  have ex : (⟨ops[j], nameOf cc t (j / 26), min ln lg, b⟩ : I4) = x := Option.some.inj hj
                  subst ex
                  exact ⟨⟨⟨t, by omega, by rw [← hcc]⟩, ⟨by show 1 ≤ min ln lg; omega, by show min ln lg ≤ lg; omega⟩, hb⟩, List.getElem?_eq_getElem hi⟩
            have fin : ∀ (b : Bool) (H14 : Hp), (i = 0 → b = true) → But p H H14 → H14 l = some (.lst (ops.map fun i : Nat => V.int (i : Int))) → BoxAt H14 p (n + 300 + 4 * (i + 1)) → H14 fo = some (.lst (rs.map V.ref)) → Rows H14 rs is →
                ∀ r, H14 r = none → But p H (upd (upd H14 r (.tup [.int ((ops[i] : Nat) : Int), .str (txt (nameOf cc t (i / 26))), .int ((min ln lg : Nat) : Int), .bl b])) fo (.lst (rs.map V.ref ++ [V.ref r]))) ∧
                  (upd (upd H14 r (.tup [.int ((ops[i] : Nat) : Int), .str (txt (nameOf cc t (i / 26))), .int ((min ln lg : Nat) : Int), .bl b])) fo (.lst (rs.map V.ref ++ [V.ref r]))) l = some (.lst (ops.map fun i : Nat => V.int (i : Int))) ∧
                  BoxAt (upd (upd H14 r (.tup [.int ((ops[i] : Nat) : Int), .str (txt (nameOf cc t (i / 26))), .int ((min ln lg : Nat) : Int), .bl b])) fo (.lst (rs.map V.ref ++ [V.ref r]))) p (n + 300 + 4 * (i + 1)) := by
              intro b H14 hb b14 h14l B14 h14f R14 r nr
              have sr := same_upd (o := HO.tup [.int ((ops[i] : Nat) : Int), .str (txt (nameOf cc t (i / 26))), .int ((min ln lg : Nat) : Int), .bl b]) nr
              refine ⟨fun c o eb hb => ?_, ?_, ?_⟩
              · rw [upd_ne (ne_of_none eb hHfo)]
                exact sr _ _ (b14 c o eb hb)
              · rw [upd_ne (Ne.symm nHfo8)]
                exact sr _ _ h14l
              · obtain ⟨x1, x2, x3, e1, r⟩ := B14.same sr
                exact ⟨x1, x2, x3, by rw [upd_ne (Ne.symm hfp)]; exact e1, r⟩
            have rlen : (rs.map V.ref).length < sizeLine := by
              rw [List.length_map, R9.1, hil]
              exact small1000 (by omega)
            by_cases i0 : i = 0
            · rw [decide_eq_true (show V.int (i : Int) = V.int 0 by rw [i0]; rfl)]
              refine iteT ⟨by show 4 ≤ sizeLine; decide, fun r nr => ?_⟩
              have hb : i = 0 → true = true := fun _ => rfl
              have B13' : BoxAt H13 p (n + 300 + 4 * (i + 1)) := B13.mono (by omega)
              obtain ⟨a1, a2, a3⟩ := fin true H13 hb b13' h13l B13' h13f R13 r nr
              refine ⟨fo, _, _, rfl, rfl, same_upd nr _ _ h13f, rlen, ?_⟩
              exact ⟨_, _, _, _, _, rfl, a1, a2, a3, put true H13 hb b13' h13l B13' h13f R13 r nr⟩
            · rw [decide_eq_false (show ¬ V.int (i : Int) = V.int 0 from fun z => i0 (by have := V.int.inj z; omega))]
              refine iteF ⟨_, rfl, p, 2, _, rfl, B13, by omega, by decide, by decide, fun H14 e5 b14 B14 e50 e51 f14 => ⟨rfl, by show 4 ≤ sizeLine; decide, fun r nr => ?_⟩⟩
              have hb : i = 0 → decide (V.int e5 = V.int 0) = true := fun z => absurd z i0
              have h14l := b14 _ _ h13l hlp
              have h14f := b14 _ _ h13f hfp
              have R14 := R13.but b14 B13
              have b14' := b13'.trans b14
              have B14' : BoxAt H14 p (n + 300 + 4 * (i + 1)) := B14.mono (by omega)
              obtain ⟨a1, a2, a3⟩ := fin _ H14 hb b14' h14l B14' h14f R14 r nr
              refine ⟨fo, _, _, rfl, rfl, same_upd nr _ _ h14f, rlen, ?_⟩
              exact ⟨_, _, _, _, _, rfl, a1, a2, a3, put _ H14 hb b14' h14l B14' h14f R14 r nr⟩
        · rintro σ H9 ⟨y8, y9, y10, y11, y12, rfl, b9, h9l, B9, rs, is, h9f, hil, R9, D9⟩
          rw [List.length_map] at hil B9
          refine ⟨_, rfl, _, rfl, fo, _, rfl, .inl ⟨SqL.of h9f, fun it nit => ?_⟩⟩
          refine ⟨by show 2 ≤ sizeLine; decide, fun t nt => ?_⟩
          have sA := same_upd (o := HO.tup (rs.map V.ref)) nit
          have sB := same_upd (o := HO.tup [V.int (cnt : Int), V.ref it]) nt
          have sAB := sA.trans sB
          have nt9 : H9 t = none := sA.free nt
          have eops : is.map I4.op = ops := by
            refine List.ext_getElem (by rw [List.length_map, hil]) fun j h1 h2 => ?_
            rw [List.length_map] at h1
            have := (D9 j _ (List.getElem?_eq_getElem h1)).2
            rw [List.getElem?_eq_getElem h2] at this
            rw [List.getElem_map]
            exact (Option.some.inj this).symm
          refine q _ t cnt is it rs (b9.trans (But.of sAB)) ((B9.same sAB).mono (by omega)) (b9.free B.ne nt9 B9.ne) ⟨upd_same, sB _ _ upd_same, R9.same sAB, ?_⟩ hc2.2
          refine ⟨⟨by omega, by omega⟩, by omega, fun z => by rw [z] at hil; simp at hil; omega, by omega, by rw [eops]; exact asc, fun x hx => ?_, fun x hx => ?_, fun x hx => ?_, names_nodup (fun i x h => (D9 i x h).1), fun x hx => (D9 0 x hx).1.pad rfl⟩
          · exact lt _ (by rw [← eops]; exact List.mem_map.mpr ⟨x, hx, rfl⟩)
          · obtain ⟨j, hj⟩ := List.mem_iff_getElem?.mp hx
            exact (D9 j x hj).1.ln
          · obtain ⟨j, hj⟩ := List.mem_iff_getElem?.mp hx
            have hjl := (List.getElem?_eq_some_iff.mp hj).1
            obtain ⟨t, ht, en⟩ := (D9 j x hj).1.nm
            rw [en, nameOf_len]
            exact ⟨by omega, by omega, nameOf_low (by omega) (by omega)⟩
    · rintro σ H5 Q1 Q2 hQ ⟨v, h1, pp, ys, h2, h3, v2, h4, i, j, h5, h6, b, h7, h8⟩
      exact ⟨v, h1, pp, ys, h2, h3, v2, h4, i, j, h5, h6, b, h7, hQ _ _ h8⟩
end
end Ov
namespace Ov
open PySem PySem.Spec PyProof.Rows L2
theorem nlt_sign {a b : Nat} (h : a ≤ b) : decide (([b] : List Nat) < [a]) = false := by
  refine decide_eq_false ?_
  rw [List.cons_lt_cons_iff]
  rintro (z | ⟨_, z⟩)
  · omega
  · exact absurd z (by simp)
section
variable {X : Cx}
/-- a slice of a tuple, or of a list -/
theorem sl_seq : SlR X (fun x lo hi H Q => rSlA X.K x lo hi H Q ∨ rSlL X.K x lo hi H Q) := by
  intro pins s σ H x v vl vu lo hi sl Q I rx hs pl pu h
  rcases h with h | h
  · exact sl_tupA pins s σ H x v vl vu lo hi sl Q I rx hs pl pu h
  · exact sl_list pins s σ H x v vl vu lo hi sl Q I rx hs pl pu h
end
section
variable {P : Program} {w : World} {K : PySem.W.Frag} {mg : Str → Option Value} {base : Heap}
/-! ### is_ascending of a list -/
def spAscL (K : PySem.W.Frag) : Sp := fun vs H Q _ => ∃ (a : Addr) (ns : List Int), vs = [.ref a] ∧ SqL K H a (ns.map V.int) ∧ ns.length ≤ 1000 ∧ ns.Pairwise (· < ·) ∧ ∀ H', Same H H' → Q (.bl true) H'
theorem ok_ascL {f : Addr} {fd : FuncData} {k : Nat} (F : Fun K "is_ascending" "is_ascending" sAscending f fd) (T : Bi mg) : FnOk P w K mg base CX0 (k + 1) f fd ["numbers"] (spAscL K) := by
  refine F.ok scAscending (fun vs H Q E h => ?_) (fun cdv A outer s H vs Q E hr h => ?_)
  · obtain ⟨a, ns, rfl, _⟩ := h
    rfl
  · obtain ⟨a, ns, rfl, hS, hlen, hasc, q⟩ := h
    refine ⟨_, pss_one (ps_ret (pe_callB (cr_all rfl) (by rfl) T.all (by decide +kernel) (pa_cons
      (pe_lc (own := [("low", 1), ("high", 2)]) (g := gTup K 2 (gCons (gName 1) (gCons (gName 2) gNil))) (tt := tYes) (by rfl) scAscending.nd (RZ.pi_zipA (by rfl) T.zip (pa_cons (pv 0) (pa_cons (pe_slice sl_list (pv 0) (po_some pe_int) po_none) pa_nil)))
        (blkOk_by (own := [("low", 1), ("high", 2)]) (N := ["numbers", "low", "high"]) (sc := defScope sAscending) (by decide +kernel))
        (fun _ _ _ _ _ => pg_tup rfl (pgs_cons (pg_name (i := 1) scAscending.nd rfl (Or.inl rfl)) (pgs_cons (pg_name (i := 2) scAscending.nd rfl (Or.inl rfl)) pgs_nil)))
        (fun _ _ _ _ _ => pts_nil) (fun _ _ _ _ _ => pe_cmpR op_lt (pv 1) (pv 2) (nomark _))) pa_nil))), ?_⟩
    refine ⟨_, rfl, _, rfl, 1, rfl, a, ns.map V.int, rfl, hS, fun c nc => ?_⟩
    have s1 : Same H (upd H c (.lst (cutV (ns.map V.int) (some 1) none))) := same_upd nc
    have hc : SqL K (upd H c (.lst (cutV (ns.map V.int) (some 1) none))) c ((ns.drop 1).map V.int) := .inl (.inl (by rw [upd_same, cut1, List.map_drop]))
    refine ⟨a, c, ns.map V.int, (ns.drop 1).map V.int, rfl, .inl ⟨s1.seq hS, hc, fun D nD => lc_it (walk_zip (xs := ns.map V.int) (ys := (ns.drop 1).map V.int) rfl)
      (fun i H2 => Mk (upd H c (.lst (cutV (ns.map V.int) (some 1) none))) H2 D ((List.replicate i true).map V.bl)) (.start nD) (fun i H2 _ p => ⟨p.same.seq (s1.seq hS), p.same.seq hc⟩) (fun i x H2 H3 hi p y => ?_) (fun H2 p => ?_)⟩⟩
    · obtain ⟨t, x1, x2, rfl, nt, rfl, f1, f2⟩ := y
      have hi' : i < min ns.length (ns.length - 1) := by simpa using hi
      have h1 : i < ns.length := by omega
      have h2 : i + 1 < ns.length := by omega
      have e1 : x1 = .int ns[i] := by
        have : (ns.map V.int)[i]? = some x1 := f1
        rw [List.getElem?_map, List.getElem?_eq_getElem h1] at this
        exact (Option.some.inj this).symm
      have e2 : x2 = .int ns[i + 1] := by
        have : ((ns.drop 1).map V.int)[i]? = some x2 := f2
        rw [List.getElem?_map, List.getElem?_drop, Nat.add_comm 1 i, List.getElem?_eq_getElem h2] at this
        exact (Option.some.inj this).symm
      have hlt : ns[i] < ns[i + 1] := List.pairwise_iff_getElem.mp hasc i (i + 1) h1 h2 (by omega)
      refine ⟨t, [x1, x2], rfl, .inl (.inl upd_same), rfl, x1, [x2], rfl, x2, [], rfl, rfl, rfl, x1, rfl, x2, rfl, _, _, e1, e2, _, (by rw [upd_ne (ne_of_none p.at_ nt)]; exact p.at_), (by rw [List.length_map, List.length_replicate]; exact small1000 (by omega)), ?_⟩
      show Mk _ (upd _ D (.lst (_ ++ [V.bl (decide (ns[i] < ns[i + 1]))]))) D _
      rw [decide_eq_true hlt, List.replicate_succ', List.map_append]
      exact p.put (same_upd nt)
    · refine ⟨D, _, rfl, .inl (.inl p.at_), ?_⟩
      rw [all_true]
      exact q H2 (s1.trans p.same)
/-! ### is_name -/
def spName : Sp := fun vs H Q _ => ∃ nm : List Nat, vs = [.str (txt nm)] ∧ 1 ≤ nm.length ∧ nm.length ≤ 8 ∧ (∀ c ∈ nm, 97 ≤ c ∧ c ≤ 122) ∧ ∀ H', Same H H' → Q (.bl true) H'
theorem scName : FnScope ["value", "letter"] ["value"] (defScope sIsName) := ⟨rfl, rfl, rfl, by decide +kernel, rfl, by decide +kernel, by decide +kernel⟩
theorem ok_name {f : Addr} {fd : FuncData} {k : Nat} (F : Fun K "is_name" "is_name" sIsName f fd) (T : Bi mg) (m8 : ∃ t, mg "MOST_LETTERS" = some (.int 8 t)) : FnOk P w K mg base CX0 (k + 1) f fd ["value"] spName := by
  obtain ⟨t8, m8⟩ := m8
  refine F.ok scName (fun vs H Q E h => ?_) (fun cdv A outer s H vs Q E hr h => ?_)
  · obtain ⟨nm, rfl, _⟩ := h
    rfl
  · obtain ⟨nm, rfl, h1, h2, low, q⟩ := h
    refine ⟨_, pss_cons (ps_if (PW.pt (pw_or (pt_not (pt_val (pe_callB call_isi (by rfl) T.isi (by decide +kernel) (pa_cons (pv 0) (pa_cons (pe_bltn (v := .ty "str") (u := .type "str") (by rfl) T.str (by decide +kernel) rfl) pa_nil)))))
        (pw_or1 (pt_not (pt_chain op_le op_le pe_int (pe_callB call_len_str (by rfl) T.len PySem.boot_len (pa_cons (pv 0) pa_nil)) (pe_glob (v := .int 8) (by rfl) m8 ⟨_, rfl⟩)))))) (pss_one (ps_ret pe_bl)) pss_nil)
      (pss_one (ps_ret (pe_callB (cr_all rfl) (by rfl) T.all (by decide +kernel) (pa_cons
        (pe_lc (own := [("letter", 1)]) (g := gName 1) (tt := tYes) (by rfl) scName.nd (pi_str (pv 0)) (blkOk_by (own := [("letter", 1)]) (N := ["value", "letter"]) (sc := defScope sIsName) (by decide +kernel))
          (fun _ _ _ _ _ => pg_name (i := 1) scName.nd rfl (Or.inl rfl)) (fun _ _ _ _ _ => pts_nil) (fun _ _ _ _ _ => pe_chain op_le_str op_le_str pe_str (pv 1) pe_str)) pa_nil)))), ?_⟩
    have hsz : (txt nm).length ≤ sizeLine := by rw [txt_len]; exact Nat.le_of_lt (small1000 (by omega))
    refine ⟨_, rfl, _, _, _, _, _, rfl, .ty _, .base (.str _), kit_ty (by decide +kernel : kitB "str" "str" = some true), _, rfl, ?_⟩
    refine iteF ⟨_, rfl, _, rfl, hsz, _, _, rfl, rfl, _, rfl, ?_⟩
    rw [txt_len, decide_eq_true (show (1 : Int) ≤ (nm.length : Int) by omega)]
    refine iteT ⟨_, _, rfl, rfl, _, rfl, ?_⟩
    rw [decide_eq_true (show (nm.length : Int) ≤ 8 by omega)]
    refine iteF ?_
    refine ⟨_, rfl, txt nm, rfl, fun D nD => lc_it (walk_str (z := txt nm)) (fun i H2 => Mk H H2 D ((List.replicate i true).map V.bl)) (.start nD) (fun _ _ _ _ => trivial) ?_ ?_⟩
    · rintro i x H2 H3 hi mk ⟨rfl, c, hc, rfl⟩
      have hcm : c ∈ nm := by
        have : nm[i]? = some c := by simpa [txt] using hc
        exact List.mem_of_getElem? this
      obtain ⟨c1, c2⟩ := low c hcm
      have hi' : i < nm.length := by
        have : i < (txt nm).cps.size := hi
        simpa [txt] using this
      refine ⟨rfl, _, rfl, Str.ofString "a", _, rfl, rfl, _, rfl, ?_⟩
      have ea : (Str.ofString "a").cps.toList = [97] := by decide +kernel
      have ez : (Str.ofString "z").cps.toList = [122] := by decide +kernel
      rw [ea, show decide (((⟨#[c]⟩ : Str).cps.toList) < ([97] : List Nat)) = false from nlt_sign c1]
      refine iteT ⟨_, Str.ofString "z", rfl, rfl, ?_⟩
      rw [ez, show decide (([122] : List Nat) < ((⟨#[c]⟩ : Str).cps.toList)) = false from nlt_sign c2]
      refine ⟨_, mk.at_, (by rw [List.length_map, List.length_replicate]; exact small1000 (by omega)), ?_⟩
      rw [List.replicate_succ', List.map_append]
      exact mk.put (Same.refl _)
    · intro H2 mk
      refine ⟨D, _, rfl, SqL.of mk.at_, ?_⟩
      rw [all_true]
      exact q H2 mk.same
/-! ### is_instruction -/
/-- a valid instruction for this byte count -/
structure InsOk (cnt : Nat) (x : I4) : Prop where
  op : x.op < cnt
  nm : 1 ≤ x.nm.length ∧ x.nm.length ≤ 8 ∧ ∀ c ∈ x.nm, 97 ≤ c ∧ c ≤ 122
  ln : 1 ≤ x.ln ∧ x.ln ≤ 12
theorem TabOk.ins {cnt lg : Nat} {is : List I4} (h : TabOk cnt lg is) {x : I4} (hx : x ∈ is) : InsOk cnt x := ⟨h.ops x hx, h.nms x hx, (h.len x hx).1, Nat.le_trans (h.len x hx).2 h.lb⟩
def spInstr : Sp := fun vs H Q _ => ∃ (cnt : Nat) (r : Addr) (x : I4), vs = [.int (cnt : Int), .ref r] ∧ H r = some (.tup x.vs) ∧ InsOk cnt x ∧ ∀ H', Same H H' → Q (.bl true) H'
theorem scInstr : FnScope ["byte_count", "value", "opcode", "name", "length", "is_padding"] ["byte_count", "value"] (defScope sIsInstr) := ⟨rfl, rfl, rfl, by decide +kernel, rfl, by decide +kernel, by decide +kernel⟩
theorem ok_instr {f fB fN : Addr} {fd fdB fdN : FuncData} {k : Nat} (F : Fun K "is_instruction" "is_instruction" sIsInstr f fd) (T : Bi mg)
    (B : Def K mg "is_integer_between" sBetween fB fdB ["value", "least", "most"]) (GB : FnOk P w K mg base CX0 (k + 1) fB fdB ["value", "least", "most"] spBetween) (Nm : Def K mg "is_name" sIsName fN fdN ["value"]) (m8 : ∃ t, mg "MOST_LETTERS" = some (.int 8 t)) (m12 : ∃ t, mg "MOST_LENGTH" = some (.int 12 t)) :
    FnOk P w K mg base CX0 (k + 2) f fd ["byte_count", "value"] spInstr := by
  have GN : FnOk P w K mg base CX0 (k + 1) fN fdN ["value"] spName := ok_name Nm.fn T m8
  obtain ⟨t12, m12⟩ := m12
  refine F.ok scInstr (fun vs H Q E h => ?_) (fun cdv A outer s H vs Q E hr h => ?_)
  · obtain ⟨cnt, r, x, rfl, _⟩ := h
    rfl
  · obtain ⟨cnt, r, x, rfl, hx, ok, q⟩ := h
    refine ⟨_, pss_cons (ps_if (PW.pt (pw_or (pt_not (pt_val (pe_callB call_isi (by rfl) T.isi (by decide +kernel) (pa_cons (pv 1) (pa_cons (pe_bltn (v := .ty "tuple") (u := .type "tuple") (by rfl) T.tuple (by decide +kernel) rfl) pa_nil)))))
        (pw_or1 (pt_cmpR op_ne (pe_callB call_len_seq (by rfl) T.len PySem.boot_len (pa_cons (pv 1) pa_nil)) pe_int (nomark _))))) (pss_one (ps_ret pe_bl)) pss_nil)
      (pss_cons (ps_asg (pv 1) (pg_tup rfl (pgs_cons (pg_name (i := 2) scInstr.nd rfl (.inl rfl)) (pgs_cons (pg_name (i := 3) scInstr.nd rfl (.inl rfl)) (pgs_cons (pg_name (i := 4) scInstr.nd rfl (.inl rfl)) (pgs_cons (pg_name (i := 5) scInstr.nd rfl (.inl rfl)) pgs_nil))))))
      (pss_one (ps_ret (pe_and (pe_call GB hr (by rfl) B.gl B.fn.kp B.bi .nil pass0 (pa_cons (pv 2) (pa_cons pe_int (pa_cons (pe_op op_sub (pv 0) pe_int) pa_nil))))
        (pe_and (pe_call GN hr (by rfl) Nm.gl Nm.fn.kp Nm.bi .nil pass0 (pa_cons (pv 3) pa_nil))
        (pe_and (pe_call GB hr (by rfl) B.gl B.fn.kp B.bi .nil pass0 (pa_cons (pv 4) (pa_cons pe_int (pa_cons (pe_glob (v := .int 12) (by rfl) m12 ⟨_, rfl⟩) pa_nil))))
        (pe_one (pe_callB call_isi (by rfl) T.isi (by decide +kernel) (pa_cons (pv 5) (pa_cons (pe_bltn (v := .ty "bool") (u := .type "bool") (by rfl) T.bool (by decide +kernel) rfl) pa_nil)))))))))), ?_⟩
    refine ⟨_, rfl, _, _, _, _, _, rfl, .ty _, .base (.tup hx), kit_ty (by decide +kernel : kitB "tuple" "tuple" = some true), _, rfl, ?_⟩
    refine iteF ⟨_, rfl, r, _, rfl, .inr (SqT.of hx), rfl, _, rfl, ?_⟩
    refine iteNS rfl ?_
    refine ⟨_, rfl, r, _, rfl, SqT.of hx, rfl, _, _, rfl, _, _, rfl, _, _, rfl, _, _, rfl, rfl, ?_⟩
    have o1 := ok.op
    have o2 := ok.ln
    refine ⟨_, rfl, _, rfl, _, _, rfl, rfl, _, _, _, rfl, by omega, by omega, _, rfl, iteT ?_⟩
    refine ⟨_, rfl, x.nm, rfl, ok.nm.1, ok.nm.2.1, ok.nm.2.2, fun H1 s1 => ⟨_, rfl, iteT ?_⟩⟩
    refine ⟨_, rfl, _, _, _, rfl, by omega, by omega, _, rfl, iteT ?_⟩
    exact ⟨_, rfl, _, _, _, _, _, rfl, .ty _, .base (.bl _), kit_ty (by decide +kernel : kitB "bool" "bool" = some true), q H1 s1⟩
/-! ### are_instructions -/
def spAreI : Sp := fun vs H Q _ => ∃ (cnt lg : Nat) (it : Addr) (rs : List Addr) (is : List I4), vs = [.int (cnt : Int), .ref it] ∧ H it = some (.tup (rs.map V.ref)) ∧ Rows H rs is ∧ TabOk cnt lg is ∧ ∀ H', Same H H' → Q (.bl true) H'
theorem scAreI : FnScope ["byte_count", "value", "opcodes", "names", "item", "opcode", "name", "length", "is_padding"] ["byte_count", "value"] (defScope sAreInstr) := ⟨rfl, rfl, rfl, by decide +kernel, rfl, by decide +kernel, by decide +kernel⟩
theorem rows_at {H : Hp} {rs : List Addr} {is : List I4} (h : Rows H rs is) {i : Nat} {x : V} (hx : (rs.map V.ref)[i]? = some x) : ∃ (hi : i < is.length) (r : Addr), x = .ref r ∧ H r = some (.tup is[i].vs) ∧ rs[i]? = some r := by
  have hi : i < rs.length := by
    have := (List.getElem?_eq_some_iff.mp hx).1
    rwa [List.length_map] at this
  have hi2 : i < is.length := by rw [← h.1]; exact hi
  rw [List.getElem?_map, List.getElem?_eq_getElem hi] at hx
  exact ⟨hi2, rs[i], (Option.some.inj hx).symm, h.2 i _ _ (List.getElem?_eq_getElem hi) (List.getElem?_eq_getElem hi2), List.getElem?_eq_getElem hi⟩
theorem ok_areI {f fI fA : Addr} {fd fdI fdA : FuncData} {k : Nat} (F : Fun K "are_instructions" "are_instructions" sAreInstr f fd) (T : Bi mg)
    (Ii : Def K mg "is_instruction" sIsInstr fI fdI ["byte_count", "value"]) (GI : FnOk P w K mg base CX0 k fI fdI ["byte_count", "value"] spInstr) (A : Def K mg "is_ascending" sAscending fA fdA ["numbers"]) (GA : FnOk P w K mg base CX0 k fA fdA ["numbers"] (spAscL K)) :
    FnOk P w K mg base CX0 (k + 1) f fd ["byte_count", "value"] spAreI := by
  refine F.ok scAreI (fun vs H Q E h => ?_) (fun cdv A' outer s H vs Q E hr h => ?_)
  · obtain ⟨cnt, lg, it, rs, is, rfl, _⟩ := h
    rfl
  · obtain ⟨cnt, lg, it, rs, is, rfl, hit, R, ok, q⟩ := h
    refine ⟨_, pss_cons (ps_if (PW.pt (pw_or (pt_not (pt_val (pe_callB call_isi (by rfl) T.isi (by decide +kernel) (pa_cons (pv 1) (pa_cons (pe_bltn (v := .ty "tuple") (u := .type "tuple") (by rfl) T.tuple (by decide +kernel) rfl) pa_nil)))))
        (pw_or1 (pt_cmpR op_eq (pe_callB call_len_seq (by rfl) T.len PySem.boot_len (pa_cons (pv 1) pa_nil)) pe_int (nomark _))))) (pss_one (ps_ret pe_bl)) pss_nil)
      (pss_cons (ps_if (pt_not (pt_val (pe_callB (cr_all rfl) (by rfl) T.all (by decide +kernel) (pa_cons
        (pe_lc (own := [("item", 4)]) (g := gName 4) (tt := tYes) (by rfl) scAreI.nd (pi_tup (pv 1)) (blkOk_by (own := [("item", 4)]) (N := ["byte_count", "value", "opcodes", "names", "item", "opcode", "name", "length", "is_padding"]) (sc := defScope sAreInstr) (by decide +kernel))
          (fun _ _ _ _ _ => pg_name (i := 4) scAreI.nd rfl (Or.inl rfl)) (fun _ _ _ _ _ => pts_nil)
          (fun _ _ _ _ _ => pe_call GI hr (by rfl) Ii.gl Ii.fn.kp Ii.bi .nil pass0 (pa_cons (pv 0) (pa_cons (pv 4) pa_nil)))) pa_nil)))) (pss_one (ps_ret pe_bl)) pss_nil)
      (pss_cons (ps_setLc (i := 2) (own := [("opcode", 5), ("name", 6), ("length", 7), ("is_padding", 8)]) (g := gTup K 4 (gCons (gName 5) (gCons (gName 6) (gCons (gName 7) (gCons (gName 8) gNil))))) (tt := tYes) (by rfl) scAreI.nd rfl rfl (sw_true rfl rfl rfl (by decide +kernel)) (pi_tup (pv 1))
          (blkOk_by (own := [("opcode", 5), ("name", 6), ("length", 7), ("is_padding", 8)]) (N := ["byte_count", "value", "opcodes", "names", "item", "opcode", "name", "length", "is_padding"]) (sc := defScope sAreInstr) (by decide +kernel))
          (fun _ _ _ _ _ => pg_tup rfl (pgs_cons (pg_name (i := 5) scAreI.nd rfl (Or.inl rfl)) (pgs_cons (pg_name (i := 6) scAreI.nd rfl (Or.inl rfl)) (pgs_cons (pg_name (i := 7) scAreI.nd rfl (Or.inl rfl)) (pgs_cons (pg_name (i := 8) scAreI.nd rfl (Or.inl rfl)) pgs_nil)))))
          (fun _ _ _ _ _ => pts_nil) (fun _ _ _ _ _ => pv 5))
      (pss_cons (ps_setLc (i := 3) (own := [("opcode", 5), ("name", 6), ("length", 7), ("is_padding", 8)]) (g := gTup K 4 (gCons (gName 5) (gCons (gName 6) (gCons (gName 7) (gCons (gName 8) gNil))))) (tt := tYes) (by rfl) scAreI.nd rfl rfl (sw_true rfl rfl rfl (by decide +kernel)) (pi_tup (pv 1))
          (blkOk_by (own := [("opcode", 5), ("name", 6), ("length", 7), ("is_padding", 8)]) (N := ["byte_count", "value", "opcodes", "names", "item", "opcode", "name", "length", "is_padding"]) (sc := defScope sAreInstr) (by decide +kernel))
          (fun _ _ _ _ _ => pg_tup rfl (pgs_cons (pg_name (i := 5) scAreI.nd rfl (Or.inl rfl)) (pgs_cons (pg_name (i := 6) scAreI.nd rfl (Or.inl rfl)) (pgs_cons (pg_name (i := 7) scAreI.nd rfl (Or.inl rfl)) (pgs_cons (pg_name (i := 8) scAreI.nd rfl (Or.inl rfl)) pgs_nil)))))
          (fun _ _ _ _ _ => pts_nil) (fun _ _ _ _ _ => pv 6))
      (pss_one (ps_ret (pe_and (pe_call GA hr (by rfl) A.gl A.fn.kp A.bi .nil pass0 (pa_cons (pv 2) pa_nil))
        (pe_one (pe_cmpR op_eq (pe_lenSetT (by rfl) (by rfl) T.len (by rfl) T.set (pv 3)) (pe_callB call_len_seq (by rfl) T.len PySem.boot_len (pa_cons (pv 3) pa_nil)) (nomark _))))))))), ?_⟩
    have few := ok.few
    have rl := R.1
    refine ⟨_, rfl, _, _, _, _, _, rfl, .ty _, .base (.tup hit), kit_ty (by decide +kernel : kitB "tuple" "tuple" = some true), _, rfl, ?_⟩
    refine iteF ⟨_, rfl, it, _, rfl, .inr (SqT.of hit), rfl, _, rfl, ?_⟩
    rw [decide_eq_false (fun z => ok.ne (List.eq_nil_of_length_eq_zero (by have := V.int.inj z; rw [List.length_map] at this; omega)))]
    refine iteF ?_
    -- all are instructions
    refine ⟨_, rfl, it, rfl, ⟨_, SqT.of hit⟩, fun D nD => lc_tup (K := K) (a := it) (xs := rs.map V.ref) (fun i H2 => Mk H H2 D ((List.replicate i true).map V.bl)) (.start nD) (fun i H2 _ p => p.same.tup (SqT.of hit)) ?_ ?_⟩
    · intro i x H2 hx mk
      obtain ⟨hi, r, rfl, hr2, _⟩ := rows_at R hx
      refine ⟨rfl, _, rfl, _, rfl, cnt, r, is[i], rfl, mk.same _ _ hr2, ok.ins (List.getElem_mem hi), fun H3 s3 => ⟨_, s3 _ _ mk.at_, (by rw [List.length_map, List.length_replicate]; exact small1000 (by omega)), ?_⟩⟩
      rw [List.replicate_succ', List.map_append]
      exact mk.put s3
    intro H2 mk
    refine ⟨D, _, rfl, SqL.of mk.at_, _, rfl, ?_⟩
    rw [all_true]
    refine iteF ?_
    have s2 := mk.same
    have hit2 := s2 _ _ hit
    have R2 := R.same s2
    clear mk
    -- opcodes
    refine ⟨_, rfl, it, rfl, ⟨_, SqT.of hit2⟩, fun D3 nD3 => lc_tup (K := K) (a := it) (xs := rs.map V.ref) (fun i H3 => Mk H2 H3 D3 (((is.take i).map fun x => (x.op : Int)).map V.int)) (.start nD3) (fun i H3 _ p => p.same.tup (SqT.of hit2)) ?_ ?_⟩
    · intro i x H3 hx mk
      obtain ⟨hi, r, rfl, hr2, _⟩ := rows_at R2 hx
      refine ⟨r, _, rfl, SqT.of (mk.same _ _ hr2), rfl, _, _, rfl, _, _, rfl, _, _, rfl, _, _, rfl, rfl, rfl, _, rfl, _, mk.at_, (by rw [List.length_map, List.length_map, List.length_take]; exact small1000 (by omega)), ?_⟩
      rw [take_more (List.getElem?_eq_getElem hi), List.map_append, List.map_append]
      exact mk.put (Same.refl _)
    intro H3 m3
    rw [List.length_map, rl, List.take_length] at m3
    have s3 := s2.trans m3.same
    have hit3 := s3 _ _ hit
    have R3 := R.same s3
    -- names
    refine ⟨_, rfl, it, rfl, ⟨_, SqT.of hit3⟩, fun D4 nD4 => lc_tup (K := K) (a := it) (xs := rs.map V.ref) (fun i H4 => Mk H3 H4 D4 (((is.take i).map fun x => txt x.nm).map V.str)) (.start nD4) (fun i H4 _ p => p.same.tup (SqT.of hit3)) ?_ ?_⟩
    · intro i x H4 hx mk
      obtain ⟨hi, r, rfl, hr2, _⟩ := rows_at R3 hx
      refine ⟨r, _, rfl, SqT.of (mk.same _ _ hr2), rfl, _, _, rfl, _, _, rfl, _, _, rfl, _, _, rfl, rfl, rfl, _, rfl, _, mk.at_, (by rw [List.length_map, List.length_map, List.length_take]; exact small1000 (by omega)), ?_⟩
      rw [take_more (List.getElem?_eq_getElem hi), List.map_append, List.map_append]
      exact mk.put (Same.refl _)
    intro H4 m4
    rw [List.length_map, rl, List.take_length] at m4
    have h43 := m4.same _ _ m3.at_
    refine ⟨_, rfl, D3, is.map fun x => (x.op : Int), rfl, SqL.of h43, by rw [List.length_map]; omega, ?_, fun H5 s5 => ⟨_, rfl, iteT ?_⟩⟩
    · have := ok.asc
      rw [List.pairwise_map] at this ⊢
      exact this.imp fun z => by omega
    have h54 := s5 _ _ m4.at_
    refine ⟨_, rfl, D4, is.map fun x => txt x.nm, rfl, SqL.of h54, ?_, by rw [List.length_map]; omega, _, rfl, D4, _, rfl, .inl (SqL.of h54), rfl, ?_⟩
    · have := ok.nd
      rw [List.nodup_iff_pairwise_ne, List.pairwise_map] at this ⊢
      exact this.imp fun z y => z (txt_inj y)
    rw [decide_eq_true (by rw [List.length_map, List.length_map, List.length_map])]
    exact q H5 ((s3.trans m4.same).trans s5)
end
end Ov
namespace Ov
open PySem PySem.Spec PyProof.Rows L2
abbrev sInitI : Stmt := inClass cInstructionSet 0
/-! ### the attributes of an instruction set -/
def lenKV (is : List I4) : List (Key × V) := is.map fun x => ((Sum.inl (x.op : Int) : Key), V.int (x.ln : Int))
def nameKV (is : List I4) : List (Key × V) := is.map fun x => ((Sum.inr (txt x.nm) : Key), V.int (x.op : Int))
def flds (cnt : Nat) (it d1 d2 : Addr) : List (Str × V) := putF "opcode_of_name" (.ref d2) (putF "length_of_opcode" (.ref d1) (putF "instructions" (.ref it) (putF "byte_count" (.int (cnt : Int)) [])))
theorem n01 : ¬ (("byte_count" : Str) = "opcode_of_name") := by decide +kernel
theorem n02 : ¬ (("byte_count" : Str) = "length_of_opcode") := by decide +kernel
theorem n03 : ¬ (("byte_count" : Str) = "instructions") := by decide +kernel
theorem n11 : ¬ (("instructions" : Str) = "opcode_of_name") := by decide +kernel
theorem n12 : ¬ (("instructions" : Str) = "length_of_opcode") := by decide +kernel
theorem n21 : ¬ (("length_of_opcode" : Str) = "opcode_of_name") := by decide +kernel
theorem flds_cnt (cnt : Nat) (it d1 d2 : Addr) : (flds cnt it d1 d2).lookup ("byte_count" : Str) = some (.int (cnt : Int)) := by
  unfold flds
  rw [lookup_putF, if_neg n01, lookup_putF, if_neg n02, lookup_putF, if_neg n03, lookup_putF, if_pos rfl]
theorem flds_its (cnt : Nat) (it d1 d2 : Addr) : (flds cnt it d1 d2).lookup ("instructions" : Str) = some (.ref it) := by
  unfold flds
  rw [lookup_putF, if_neg n11, lookup_putF, if_neg n12, lookup_putF, if_pos rfl]
theorem flds_len (cnt : Nat) (it d1 d2 : Addr) : (flds cnt it d1 d2).lookup ("length_of_opcode" : Str) = some (.ref d1) := by
  unfold flds
  rw [lookup_putF, if_neg n21, lookup_putF, if_pos rfl]
theorem flds_nms (cnt : Nat) (it d1 d2 : Addr) : (flds cnt it d1 d2).lookup ("opcode_of_name" : Str) = some (.ref d2) := by
  unfold flds
  rw [lookup_putF, if_pos rfl]
theorem put_fresh {kvs : List (Key × V)} {k : Key} {v : V} (h : k ∉ kvs.map (·.1)) : putK kvs k v = kvs ++ [(k, v)] := by
  unfold putK
  refine if_neg fun z => h ?_
  obtain ⟨q, hq, e⟩ := List.any_eq_true.mp z
  exact List.mem_map.mpr ⟨q, hq, of_decide_eq_true e⟩
/-- an instruction set as it stands -/
structure SetAt (C : Addr) (H : Hp) (p : Addr) (cnt : Nat) (it : Addr) (is : List I4) : Prop where
  ob : ∃ dx d1 d2, H p = some (.ins C dx (flds cnt it d1 d2)) ∧ H d1 = some (.dK (lenKV is)) ∧ H d2 = some (.dK (nameKV is))
theorem SetAt.same {C : Addr} {H H' : Hp} {p : Addr} {cnt : Nat} {it : Addr} {is : List I4} (h : SetAt C H p cnt it is) (s : Same H H') : SetAt C H' p cnt it is := by
  obtain ⟨dx, d1, d2, h1, h2, h3⟩ := h.ob
  exact ⟨dx, d1, d2, s _ _ h1, s _ _ h2, s _ _ h3⟩
/-- what the top says of the class -/
structure SetTxt (K : PySem.W.Frag) (mg : Str → Option Value) (C : Addr) : Prop where
  cl : Cls K C
  nB : NoAttr K C "byte_count"
  nI : NoAttr K C "instructions"
  nL : NoAttr K C "length_of_opcode"
  nO : NoAttr K C "opcode_of_name"
  mgC : mg "InstructionSet" = some (.ref C)
section
variable {P : Program} {w : World} {K : PySem.W.Frag} {mg : Str → Option Value} {base : Heap}
def spInitI (C : Addr) : Sp := fun vs H Q _ => ∃ (p dx : Addr) (cnt lg : Nat) (it : Addr) (rs : List Addr) (is : List I4), vs = [.ref p, .int (cnt : Int), .ref it] ∧ H p = some (.ins C dx []) ∧ H it = some (.tup (rs.map V.ref)) ∧ Rows H rs is ∧ TabOk cnt lg is ∧
  ∀ H', SetAt C H' p cnt it is → (∀ b o, H b = some o → b ≠ p → H' b = some o) → Q .non H'
theorem scInitI : FnScope ["self", "byte_count", "instructions", "opcode", "name", "length", "is_padding"] ["self", "byte_count", "instructions"] (defScope sInitI) := ⟨rfl, rfl, rfl, by decide +kernel, rfl, by decide +kernel, by decide +kernel⟩
theorem ok_initI {f fB fA C : Addr} {fd fdB fdA : FuncData} {k : Nat} (F : Fun K "__init__" "InstructionSet.__init__" sInitI f fd) (T : Bi mg) (S : SetTxt K mg C)
    (B : Def K mg "is_integer_between" sBetween fB fdB ["value", "least", "most"]) (GB : FnOk P w K mg base CX0 k fB fdB ["value", "least", "most"] spBetween)
    (A : Def K mg "are_instructions" sAreInstr fA fdA ["byte_count", "value"]) (GA : FnOk P w K mg base CX0 k fA fdA ["byte_count", "value"] spAreI)
    (m2 : ∃ t, mg "LEAST_BYTE_COUNT" = some (.int 2 t)) (m256 : ∃ t, mg "MOST_BYTE_COUNT" = some (.int 256 t)) : FnOk P w K mg base CX0 (k + 1) f fd ["self", "byte_count", "instructions"] (spInitI C) := by
  obtain ⟨t2, m2⟩ := m2
  obtain ⟨t256, m256⟩ := m256
  refine F.ok scInitI (fun vs H Q E h => ?_) (fun cdv A' outer s H vs Q E hr h => ?_)
  · obtain ⟨p, dx, cnt, lg, it, rs, is, rfl, _⟩ := h
    rfl
  · obtain ⟨p, dx, cnt, lg, it, rs, is, rfl, hp, hit, R, ok, q⟩ := h
    refine ⟨_, pss_cons (ps_if (pt_not (pt_val (pe_call GB hr (by rfl) B.gl B.fn.kp B.bi .nil pass0 (pa_cons (pv 1) (pa_cons (pe_glob (v := .int 2) (by rfl) m2 ⟨_, rfl⟩) (pa_cons (pe_glob (v := .int 256) (by rfl) m256 ⟨_, rfl⟩) pa_nil)))))) (pss_one ps_never) pss_nil)
      (pss_cons (ps_if (pt_not (pt_val (pe_call GA hr (by rfl) A.gl A.fn.kp A.bi .nil pass0 (pa_cons (pv 1) (pa_cons (pv 2) pa_nil))))) (pss_one ps_never) pss_nil)
      (pss_cons (ps_fld (pv 0) (pv 1) rfl)
      (pss_cons (ps_fld (pv 0) (pv 2) rfl)
      (pss_cons (ps_fld (pv 0) (pe_dc (own := [("opcode", 3), ("name", 4), ("length", 5), ("is_padding", 6)]) (g := gTup K 4 (gCons (gName 3) (gCons (gName 4) (gCons (gName 5) (gCons (gName 6) gNil))))) (tt := tYes) (by rfl) scInitI.nd (pi_tup (pv 2))
          (blkOk_by (own := [("opcode", 3), ("name", 4), ("length", 5), ("is_padding", 6)]) (N := ["self", "byte_count", "instructions", "opcode", "name", "length", "is_padding"]) (sc := defScope sInitI) (by decide +kernel))
          (fun _ _ _ _ _ => pg_tup rfl (pgs_cons (pg_name (i := 3) scInitI.nd rfl (Or.inl rfl)) (pgs_cons (pg_name (i := 4) scInitI.nd rfl (Or.inl rfl)) (pgs_cons (pg_name (i := 5) scInitI.nd rfl (Or.inl rfl)) (pgs_cons (pg_name (i := 6) scInitI.nd rfl (Or.inl rfl)) pgs_nil)))))
          (fun _ _ _ _ _ => pts_nil) (fun _ _ _ _ _ => pv 3) (fun _ _ _ _ _ => pv 5)) rfl)
      (pss_one (ps_fld (pv 0) (pe_dc (own := [("opcode", 3), ("name", 4), ("length", 5), ("is_padding", 6)]) (g := gTup K 4 (gCons (gName 3) (gCons (gName 4) (gCons (gName 5) (gCons (gName 6) gNil))))) (tt := tYes) (by rfl) scInitI.nd (pi_tup (pv 2))
          (blkOk_by (own := [("opcode", 3), ("name", 4), ("length", 5), ("is_padding", 6)]) (N := ["self", "byte_count", "instructions", "opcode", "name", "length", "is_padding"]) (sc := defScope sInitI) (by decide +kernel))
          (fun _ _ _ _ _ => pg_tup rfl (pgs_cons (pg_name (i := 3) scInitI.nd rfl (Or.inl rfl)) (pgs_cons (pg_name (i := 4) scInitI.nd rfl (Or.inl rfl)) (pgs_cons (pg_name (i := 5) scInitI.nd rfl (Or.inl rfl)) (pgs_cons (pg_name (i := 6) scInitI.nd rfl (Or.inl rfl)) pgs_nil)))))
          (fun _ _ _ _ _ => pts_nil) (fun _ _ _ _ _ => pv 4) (fun _ _ _ _ _ => pv 3)) rfl)))))), ?_⟩
    have cb := ok.cb
    have few := ok.few
    have rl := R.1
    refine ⟨_, rfl, _, _, _, rfl, by omega, by omega, _, rfl, iteF ?_⟩
    refine ⟨_, rfl, _, rfl, cnt, lg, it, rs, is, rfl, hit, R, ok, fun H1 s1 => ⟨_, rfl, iteF ?_⟩⟩
    have hp1 := s1 _ _ hp
    -- byte_count, instructions
    refine ⟨_, rfl, _, rfl, p, C, dx, [], rfl, hp1, S.cl, S.nB, (by show 0 < 1000; decide), ?_⟩
    refine ⟨_, rfl, _, rfl, p, C, dx, _, rfl, upd_same, S.cl, S.nI, (by show 1 < 1000; decide), ?_⟩
    generalize hH3 : upd (upd H1 p (HO.ins C dx (putF "byte_count" (V.int (cnt : Int)) []))) p (HO.ins C dx (putF "instructions" (V.ref it) (putF "byte_count" (V.int (cnt : Int)) []))) = H3
    have hp3 : H3 p = some (.ins C dx (putF "instructions" (V.ref it) (putF "byte_count" (V.int (cnt : Int)) []))) := by rw [← hH3]; exact upd_same
    have s3 : ∀ b o, H1 b = some o → b ≠ p → H3 b = some o := fun b o e n => by rw [← hH3, upd_ne n, upd_ne n]; exact e
    have itp : it ≠ p := fun z => by rw [z, hp] at hit; cases hit
    have hit3 := s3 _ _ (s1 _ _ hit) itp
    have R3 : Rows H3 rs is := ⟨R.1, fun i r x h1 h2 => s3 _ _ (s1 _ _ (R.2 i r x h1 h2)) fun z => by have := R.2 i r x h1 h2; rw [z, hp] at this; cases this⟩
    clear hH3
    -- lengths by opcodes
    have fresh1 : ∀ (i : Nat) (hi : i < is.length), (Sum.inl ((is[i]).op : Int) : Key) ∉ (lenKV (is.take i)).map (·.1) := fun i hi z => by
      unfold lenKV at z
      rw [List.map_map] at z
      obtain ⟨y, hy, e⟩ := List.mem_map.mp z
      obtain ⟨j, hj, ej⟩ := List.mem_take_iff_getElem.mp hy
      have e' : (y.op : Int) = ((is[i]).op : Int) := Sum.inl.inj e
      have h1 := List.pairwise_iff_getElem.mp ok.asc j i (by rw [List.length_map]; omega) (by rw [List.length_map]; exact hi) (by omega)
      rw [List.getElem_map, List.getElem_map, ej] at h1
      omega
    have fresh2 : ∀ (i : Nat) (hi : i < is.length), (Sum.inr (txt (is[i]).nm) : Key) ∉ (nameKV (is.take i)).map (·.1) := fun i hi z => by
      unfold nameKV at z
      rw [List.map_map] at z
      obtain ⟨y, hy, e⟩ := List.mem_map.mp z
      obtain ⟨j, hj, ej⟩ := List.mem_take_iff_getElem.mp hy
      have e' : txt y.nm = txt (is[i]).nm := Sum.inr.inj e
      have h1 := List.pairwise_iff_getElem.mp (List.nodup_iff_pairwise_ne.mp ok.nd) j i (by rw [List.length_map]; omega) (by rw [List.length_map]; exact hi) (by omega)
      rw [List.getElem_map, List.getElem_map, ej] at h1
      exact h1 (txt_inj e')
    refine ⟨_, rfl, it, rfl, ⟨_, SqT.of hit3⟩, fun D nD => dc_tup (K := K) (a := it) (xs := rs.map V.ref) (fun i H4 => Same H3 H4 ∧ H4 D = some (.dK (lenKV (is.take i)))) ⟨same_upd nD, upd_same⟩ (fun i H4 _ p => p.1.tup (SqT.of hit3)) ?_ ?_⟩
    · rintro i x H4 hx ⟨s4, hD⟩
      obtain ⟨hi, r, rfl, hr2, _⟩ := rows_at R3 hx
      refine ⟨r, _, rfl, SqT.of (s4 _ _ hr2), rfl, _, _, rfl, _, _, rfl, _, _, rfl, _, _, rfl, rfl, rfl, _, rfl, _, rfl, _, Sum.inl ((is[i]).op : Int), rfl, hD, ?_, fun b o e => ?_, ?_⟩
      · unfold lenKV
        rw [List.length_map, List.length_take]
        exact small1000 (by omega)
      · rw [upd_ne (ne_of_none e nD)]
        exact s4 b o e
      · rw [upd_same, put_fresh (fresh1 i hi), take_more (List.getElem?_eq_getElem hi)]
        unfold lenKV
        rw [List.map_append]
        rfl
    rintro H4 ⟨s4, hD⟩
    rw [List.length_map, rl, List.take_length] at hD
    have hDp : D ≠ p := (ne_of_none hp3 nD).symm
    refine ⟨_, rfl, p, C, dx, _, rfl, s4 _ _ hp3, S.cl, S.nL, (by show 2 < 1000; decide), ?_⟩
    generalize hH5 : upd H4 p (HO.ins C dx (putF "length_of_opcode" (V.ref D) (putF "instructions" (V.ref it) (putF "byte_count" (V.int (cnt : Int)) [])))) = H5
    have hp5 : H5 p = some (.ins C dx (putF "length_of_opcode" (V.ref D) (putF "instructions" (V.ref it) (putF "byte_count" (V.int (cnt : Int)) [])))) := by rw [← hH5]; exact upd_same
    have s5 : ∀ b o, H4 b = some o → b ≠ p → H5 b = some o := fun b o e n => by rw [← hH5, upd_ne n]; exact e
    have hD5 := s5 _ _ hD hDp
    have hit5 := s5 _ _ (s4 _ _ hit3) itp
    have R5 : Rows H5 rs is := ⟨R.1, fun i r x h1 h2 => s5 _ _ (s4 _ _ (R3.2 i r x h1 h2)) fun z => by have := R3.2 i r x h1 h2; rw [z, hp3] at this; cases this⟩
    clear hH5
    -- opcodes by names
    refine ⟨_, rfl, it, rfl, ⟨_, SqT.of hit5⟩, fun E2 nE => dc_tup (K := K) (a := it) (xs := rs.map V.ref) (fun i H6 => Same H5 H6 ∧ H6 E2 = some (.dK (nameKV (is.take i)))) ⟨same_upd nE, upd_same⟩ (fun i H6 _ p => p.1.tup (SqT.of hit5)) ?_ ?_⟩
    · rintro i x H6 hx ⟨s6, hE⟩
      obtain ⟨hi, r, rfl, hr2, _⟩ := rows_at R5 hx
      refine ⟨r, _, rfl, SqT.of (s6 _ _ hr2), rfl, _, _, rfl, _, _, rfl, _, _, rfl, _, _, rfl, rfl, rfl, _, rfl, _, rfl, _, Sum.inr (txt (is[i]).nm), rfl, hE, ?_, fun b o e => ?_, ?_⟩
      · unfold nameKV
        rw [List.length_map, List.length_take]
        exact small1000 (by omega)
      · rw [upd_ne (ne_of_none e nE)]
        exact s6 b o e
      · rw [upd_same, put_fresh (fresh2 i hi), take_more (List.getElem?_eq_getElem hi)]
        unfold nameKV
        rw [List.map_append]
        rfl
    rintro H6 ⟨s6, hE⟩
    rw [List.length_map, rl, List.take_length] at hE
    have hEp : E2 ≠ p := (ne_of_none hp5 nE).symm
    refine ⟨_, rfl, p, C, dx, _, rfl, s6 _ _ hp5, S.cl, S.nO, (by show 3 < 1000; decide), ?_⟩
    refine q _ ⟨dx, D, E2, upd_same, ?_, ?_⟩ fun b o e n => ?_
    · rw [upd_ne hDp]; exact s6 _ _ hD5
    · rw [upd_ne hEp]; exact hE
    · rw [upd_ne n]
      exact s6 _ _ (s5 _ _ (s4 _ _ (s3 _ _ (s1 _ _ e) n)) n)
end
end Ov
namespace Ov
open PySem PySem.Spec PyProof.Rows L2
/-- a part of the heap, and what was laid beside it -/
structure Grow (T H T' H' : Hp) : Prop where
  hh : Same H H'
  tt : Same T T'
  th : Same T' H'
  new : ∀ b, T b = none → H b ≠ none → T' b = none
theorem Grow.refl {T H : Hp} (h : Same T H) : Grow T H T H := ⟨Same.refl _, Same.refl _, h, fun _ e _ => e⟩
theorem Grow.put {T H T' H' : Hp} (g : Grow T H T' H') {p : Addr} (o : HO) (n : H' p = none) : Grow T H (upd T' p o) (upd H' p o) := by
  refine ⟨g.hh.trans (same_upd n), g.tt.trans (same_upd ?_), fun b x e => ?_, fun b e h => ?_⟩
  · cases q : T' p with
    | none => rfl
    | some x => rw [g.th _ _ q] at n; cases n
  · by_cases hb : b = p
    · subst hb
      rw [upd_same] at e ⊢
      exact e
    · rw [upd_ne hb] at e ⊢
      exact g.th _ _ e
  · by_cases hb : b = p
    · subst hb
      cases q : H b with
      | none => exact absurd q h
      | some x => rw [g.hh _ _ q] at n; cases n
    · rw [upd_ne hb]
      exact g.new b e h
theorem Grow.trans {T H T1 H1 T2 H2 : Hp} (a : Grow T H T1 H1) (b : Grow T1 H1 T2 H2) : Grow T H T2 H2 :=
  ⟨a.hh.trans b.hh, a.tt.trans b.tt, b.th, fun c e h => b.new c (a.new c e h) fun z => by
    cases q : H c with
    | none => exact h q
    | some x => rw [a.hh _ _ q] at z; cases z⟩
theorem none_of {T H : Hp} {l : Addr} (s : Same T H) (n : H l = none) : T l = none := by
  cases z : T l with
  | none => rfl
  | some x => rw [s _ _ z] at n; cases n
end Ov
namespace Ov
open PySem PySem.Spec PyProof.Rows L2
/-! ### lists of data put together -/
theorem showableAll_app : ∀ a b : List PyData, PyData.showableAll (a ++ b) = (PyData.showableAll a && PyData.showableAll b)
  | [], b => by simp [PyData.showableAll]
  | x :: a, b => by simp [PyData.showableAll, showableAll_app a b, Bool.and_assoc]
theorem hasDictAll_app : ∀ a b : List PyData, PyData.hasDictAll (a ++ b) = (PyData.hasDictAll a || PyData.hasDictAll b)
  | [], b => by simp [PyData.hasDictAll]
  | x :: a, b => by simp [PyData.hasDictAll, hasDictAll_app a b, Bool.or_assoc]
theorem noListAll_app : ∀ a b : List PyData, noListAll (a ++ b) = (noListAll a && noListAll b)
  | [], b => by simp [noListAll]
  | x :: a, b => by simp [noListAll, noListAll_app a b, Bool.and_assoc]
theorem depthAll_app : ∀ a b : List PyData, PyData.depthAll (a ++ b) = max (PyData.depthAll a) (PyData.depthAll b)
  | [], b => by simp [PyData.depthAll]
  | x :: a, b => by simp [PyData.depthAll, depthAll_app a b] <;> omega
theorem nodesAll_app : ∀ a b : List PyData, nodesAll (a ++ b) = nodesAll a + nodesAll b
  | [], b => by simp [nodesAll]
  | x :: a, b => by simp [nodesAll, nodesAll_app a b] <;> omega
theorem noListAll_ints : ∀ ns : List Int, noListAll (ns.map PyData.int) = true
  | [] => by simp [noListAll]
  | n :: ns => by simp [noListAll, noList, noListAll_ints ns]
/-- what can be shown as a part -/
structure ShowsAll (ds : List PyData) (n : Nat) : Prop where
  sh : PyData.showableAll ds = true
  nl : PyData.hasDictAll ds = true → noListAll ds = true
  dep : PyData.depthAll ds ≤ 50
  nd : nodesAll ds ≤ n
theorem ShowsAll.tup {ds : List PyData} {n : Nat} (h : ShowsAll ds n) (hn : n ≤ 7999) : Shows (.tuple ds) :=
  ⟨by simp only [PyData.showable]; exact h.sh, fun z => by simp only [noList]; exact h.nl (by simpa only [PyData.hasDict] using z), by simp only [PyData.depth]; have := h.dep; omega, by simp only [nodes]; have := h.nd; omega⟩
theorem ints_show {ns : List Int} (h : ∀ n ∈ ns, n.natAbs < 2 ^ 1000) : ShowsAll (ns.map PyData.int) ns.length := by
  have f := flat_ints h
  exact ⟨f.sh, fun _ => noListAll_ints _, by rw [f.dep]; decide, by rw [f.nds, List.length_map]; exact Nat.le_refl _⟩
/-- ints, a thing, ints -/
theorem odd_show {a b : List Int} {d : PyData} (ha : ∀ n ∈ a, n.natAbs < 2 ^ 1000) (hb : ∀ n ∈ b, n.natAbs < 2 ^ 1000) (S : Shows d) (dep : d.depth ≤ 50) : ShowsAll (a.map PyData.int ++ [d] ++ b.map PyData.int) (a.length + nodes d + b.length) := by
  have fa := flat_ints ha
  have fb := flat_ints hb
  refine ⟨?_, fun z => ?_, ?_, ?_⟩
  · rw [showableAll_app, showableAll_app, fa.sh, fb.sh]
    simp [PyData.showableAll, S.sh]
  · rw [hasDictAll_app, hasDictAll_app, fa.nod, fb.nod] at z
    have z' : d.hasDict = true := by simpa [PyData.hasDictAll] using z
    rw [noListAll_app, noListAll_app, noListAll_ints, noListAll_ints]
    simp [noListAll, S.nl z']
  · rw [depthAll_app, depthAll_app, fa.dep, fb.dep]
    simp [PyData.depthAll]
    omega
  · rw [nodesAll_app, nodesAll_app, fa.nds, fb.nds]
    simp [nodesAll]
theorem shows_int {i : Int} (h : i.natAbs < 2 ^ 1000) : Shows (.int i) := by
  have f := flat_ints (ns := [i]) (fun n hn => by rw [List.mem_singleton.mp hn]; exact h)
  refine ⟨by have := f.sh; simpa [PyData.showableAll] using this, fun z => by simp [PyData.hasDict] at z, by simp [PyData.depth], by simp [nodes]⟩
theorem shows_bool (b : Bool) : Shows (.bool b) := ⟨by simp [PyData.showable], fun z => by simp [PyData.hasDict] at z, by simp [PyData.depth], by simp [nodes]⟩
theorem shows_none : Shows .none := ⟨by simp [PyData.showable], fun z => by simp [PyData.hasDict] at z, by simp [PyData.depth], by simp [nodes]⟩
theorem shows_str {x : Str} (h : (reprText x).length ≤ 100) : Shows (.str x) := ⟨by simp [PyData.showable], fun z => by simp [PyData.hasDict] at z, by simp [PyData.depth], by simp [nodes]; omega⟩
theorem dict0_nodes : nodes (.dict []) ≤ 100 := by
  simp only [nodes, PyData.shownKv]
  decide +kernel
theorem shows_dict : Shows (.dict []) := ⟨by simp [PyData.showable, PyData.showableKv], fun _ => by simp [noList], by simp [PyData.depth, PyData.depthKv], Nat.le_trans dict0_nodes (by decide)⟩
theorem shows_nil : Shows (.list []) := ⟨by simp [PyData.showable, PyData.showableAll], fun z => by simp [PyData.hasDict, PyData.hasDictAll] at z, by simp [PyData.depth, PyData.depthAll], by simp [nodes, nodesAll]⟩
/-- parts of tuples -/
theorem cut_from (k : Nat) (xs : List V) : cutV xs (some (k : Int)) none = xs.drop k := by
  unfold cutV
  rw [show HT.sIx xs.length 0 (some (k : Int)) = min k xs.length from HT.sIx_nat xs.length 0 k, HT.sIx_none]
  rcases Nat.le_total k xs.length with c | c
  · rw [Nat.min_eq_left c]
    exact List.take_of_length_le (by rw [List.length_drop]; exact Nat.le_refl _)
  · rw [Nat.min_eq_right c, List.drop_of_length_le c, List.drop_of_length_le (Nat.le_refl _), List.take_nil]
theorem cut_to (k : Nat) (xs : List V) : cutV xs none (some (k : Int)) = xs.take k := by
  unfold cutV
  rw [show HT.sIx xs.length xs.length (some (k : Int)) = min k xs.length from HT.sIx_nat xs.length xs.length k, HT.sIx_none, List.drop_zero, Nat.sub_zero]
  rcases Nat.le_total k xs.length with c | c
  · rw [Nat.min_eq_left c]
  · rw [Nat.min_eq_right c, List.take_length, List.take_of_length_le c]
theorem cut_all {xs : List V} {lo hi : Option Int} (h : HT.sIx xs.length 0 lo = 0 ∧ HT.sIx xs.length xs.length hi = xs.length) : cutV xs lo hi = xs := by
  unfold cutV
  rw [h.1, h.2, List.drop_zero, Nat.sub_zero, List.take_length]
section
variable {K : PySem.W.Frag} {T H : Hp} {Q : VK}
theorem cat_x {a b : Addr} {xs ys : List V} (st : Same T H) (ha : SqT K T a xs) (hb : SqT K T b ys) (hl : xs.length + ys.length ≤ sizeLine) (q : ∀ l H' T', Grow T H T' H' → SqT K T' l (xs ++ ys) → Q (.ref l) H') : rCatA K (.ref a) (.ref b) H Q := by
  refine ⟨a, b, xs, ys, rfl, rfl, st.tup ha, st.tup hb, hl, fun e => ?_, fun _ e => ?_, fun _ _ p np => ?_⟩
  · subst e
    exact q b H T (.refl st) hb
  · subst e
    exact q a H T (.refl st) (by rw [List.append_nil]; exact ha)
  · exact q p _ _ ((Grow.refl st).put _ np) (SqT.of upd_same)
theorem cut_x {a : Addr} {xs : List V} {lo hi : Option Int} (st : Same T H) (ha : SqT K T a xs) (q : ∀ l H' T', Grow T H T' H' → SqT K T' l (cutV xs lo hi) → Q (.ref l) H') : rSlA K (.ref a) lo hi H Q := by
  refine ⟨a, xs, rfl, st.tup ha, fun e => ?_, fun _ p np => ?_⟩
  · exact q a H T (.refl st) (by rw [cut_all e]; exact ha)
  · exact q p _ _ ((Grow.refl st).put _ np) (SqT.of upd_same)
end
end Ov
namespace Ov
open PySem PySem.Spec PyProof.Rows L2
/-! ### lengths by opcodes -/
abbrev sLenAt : Stmt := inClass cInstructionSet 4
def laOf (is : List I4) (b : Int) : Nat := match is.find? (fun x => decide ((x.op : Int) = b)) with
  | some x => x.ln
  | none => 0
theorem val_len (is : List I4) (b : Int) : (valV (lenKV is) (Sum.inl b : Key)).getD (V.int 0) = V.int (laOf is b : Int) := by
  unfold valV lenKV laOf
  induction is with
  | nil => rfl
  | cons x is ih =>
    rw [List.map_cons, List.find?_cons, List.find?_cons]
    by_cases h : (x.op : Int) = b
    · subst h; simp
    · rw [decide_eq_false h, decide_eq_false (fun z => h (Sum.inl.inj z))]
      exact ih
theorem la_le {cnt lg : Nat} {is : List I4} (ok : TabOk cnt lg is) (b : Int) : laOf is b ≤ 12 := by
  unfold laOf
  cases e : is.find? (fun x => decide ((x.op : Int) = b)) with
  | none => exact Nat.zero_le _
  | some x =>
    have := ok.len x (List.mem_of_find?_eq_some e)
    have := ok.lb
    show x.ln ≤ 12
    omega
def natV (n : Nat) : V := .int (n : Int)
section
variable {P : Program} {w : World} {K : PySem.W.Frag} {mg : Str → Option Value} {base : Heap}
/-! ### length_at -/
def spLenAt (C : Addr) : Sp := fun vs H Q _ => ∃ (p it : Addr) (cnt : Nat) (is : List I4) (b : Int), vs = [.ref p, .int b] ∧ SetAt C H p cnt it is ∧ Q (.int (laOf is b : Int)) H
theorem scLenAt : FnScope ["self", "byte"] ["self", "byte"] (defScope sLenAt) := ⟨rfl, rfl, rfl, by decide +kernel, rfl, by decide +kernel, by decide +kernel⟩
theorem ok_lenAt {f C : Addr} {fd : FuncData} {k : Nat} (F : Fun K "length_at" "InstructionSet.length_at" sLenAt f fd) (S : SetTxt K mg C) : FnOk P w K mg base CX0 (k + 1) f fd ["self", "byte"] (spLenAt C) := by
  refine F.ok scLenAt (fun vs H Q E h => ?_) (fun cdv A' outer s H vs Q E hr h => ?_)
  · obtain ⟨p, it, cnt, is, b, rfl, _⟩ := h
    rfl
  · obtain ⟨p, it, cnt, is, b, rfl, SA, q⟩ := h
    refine ⟨_, pss_one (ps_ret (pe_dget2 (hu_of hr) (pe_fld (pv 0) rfl) (pv 1) pe_int ⟨rfl, rfl, rfl, rfl⟩)), ?_⟩
    obtain ⟨dx, d1, d2, hp, h1, h2⟩ := SA.ob
    refine ⟨_, rfl, p, C, dx, _, _, rfl, hp, S.cl, S.nL, flds_len _ _ _ _, d1, rfl, .inl ⟨_, .inl h1⟩, _, rfl, _, DGet.k (k := Sum.inl b) h1, ?_⟩
    rw [val_len]
    exact q
/-! ### walk -/
def spWalk (K : PySem.W.Frag) (C : Addr) : Sp := fun vs H Q _ => ∃ (p it c : Addr) (cnt : Nat) (is : List I4) (bs : List Int) (e : Nat), vs = [.ref p, .ref c, .int (e : Int)] ∧ SetAt C H p cnt it is ∧ SqT K H c (bs.map V.int) ∧ bs.length ≤ 100000 ∧
  ∀ H' r l begun fol, Same H H' → Ended (laOf is) bs e begun fol → H r = none → H' r = some (.tup [.ref l, .int (fol : Int)]) → H' l = some (.lst (begun.map natV)) → begun.length ≤ bs.length → Q (.ref r) H'
theorem scWalk : FnScope ["instruction_set", "code", "entry", "begun", "offset"] ["instruction_set", "code", "entry"] (defScope sWalk) := ⟨rfl, rfl, rfl, by decide +kernel, rfl, by decide +kernel, by decide +kernel⟩
def offOf (n : Nat) (σ : L2.St) : Nat := match σ with
  | [_, _, _, _, some (.int o)] => n - o.toNat
  | _ => 0
theorem no_meth (cnt : Nat) (it d1 d2 : Addr) : (flds cnt it d1 d2).lookup ("length_at" : Str) = none := by
  unfold flds
  rw [lookup_putF, if_neg (by decide +kernel), lookup_putF, if_neg (by decide +kernel), lookup_putF, if_neg (by decide +kernel), lookup_putF, if_neg (by decide +kernel)]
  rfl
theorem ok_walk {f fL C : Addr} {fd fdL : FuncData} {k : Nat} (F : Fun K "walk" "walk" sWalk f fd) (T : Bi mg) (S : SetTxt K mg C)
    (ML : Meth K C "length_at" fL) (bL : Binds K fdL ["self", "byte"] []) (GL : FnOk P w K mg base CX0 k fL fdL ["self", "byte"] (spLenAt C)) :
    FnOk P w K mg base CX0 (k + 1) f fd ["instruction_set", "code", "entry"] (spWalk K C) := by
  refine F.ok scWalk (fun vs H Q E h => ?_) (fun cdv A' outer s H vs Q E hr h => ?_)
  · obtain ⟨p, it, c, cnt, is, bs, e, rfl, _⟩ := h
    rfl
  · obtain ⟨p, it, c, cnt, is, bs, e, rfl, SA, hc, hb, q⟩ := h
    refine ⟨_, pss_cons (ps_set (i := 3) scWalk.nd rfl (.inl rfl) (pe_lst pa_nil))
      (pss_cons (ps_set (i := 4) scWalk.nd rfl (.inl rfl) (pv 2))
      (pss_cons (ps_while PassesOwn.never (PW.pt (pw_and (pt_cmpR op_lt (pv 4) (pe_callB call_len_seq (by rfl) T.len PySem.boot_len (pa_cons (pv 1) pa_nil)) (nomark _))
          (pw_and1 (pt_cmpR op_gt (pe_meth (pv 0) S.cl ML GL hr bL .nil pass0 (pa_cons (pe_ix ix_tup (pv 1) (pv 4) (fun _ _ => rfl)) pa_nil)) pe_int (nomark _)))))
        (pss_cons (ps_expr (pe_bm PySem.F.plainAttrs_list PySem.F.slot_list_append PySem.F.type_list_append mt_append (pv 3) (pa_cons (pv 4) pa_nil)))
        (pss_one (ps_aug (i := 4) scWalk.nd rfl (.inl rfl) (pe_meth (pv 0) S.cl ML GL hr bL .nil pass0 (pa_cons (pe_ix ix_tup (pv 1) (pv 4) (fun _ _ => rfl)) pa_nil)) ip_add))))
      (pss_one (ps_ret (pe_tup (pa_cons (pv 3) (pa_cons (pv 4) pa_nil))))))), ?_⟩
    refine ⟨Nat.zero_le _, fun l nl => ⟨_, rfl, ?_⟩⟩
    refine while_by (fun σ H2 => ∃ (begun : List Nat) (o : Nat), σ = [some (.ref p), some (.ref c), some (.int (e : Int)), some (.ref l), some (.int (o : Int))] ∧ Mk H H2 l (begun.map natV) ∧ Going (laOf is) bs e begun o) (fun σ _ => offOf bs.length σ)
      ⟨[], e, rfl, .start nl, Going.start bs e⟩ ?_ ?_
    · rintro σ H2 ⟨begun, o, rfl, mk, g⟩
      have c2 := mk.same.tup hc
      have SA2 := SA.same mk.same
      obtain ⟨dx, d1, d2, hp, _, _⟩ := SA2.ob
      have few := g.few
      have bl : begun.length ≤ bs.length := by omega
      refine ⟨_, rfl, _, rfl, c, _, rfl, .inr c2, _, _, rfl, rfl, _, rfl, ?_⟩
      rw [List.length_map]
      have fin : Ended (laOf is) bs e begun o → ∀ r, H2 r = none → Q (.ref r) (upd H2 r (.tup [.ref l, .int (o : Int)])) := fun en r nr => by
        have s := same_upd (o := HO.tup [.ref l, .int (o : Int)]) nr
        exact q _ r l begun o (mk.same.trans s) en (mk.same.free nr) upd_same (s _ _ mk.at_) bl
      by_cases h1 : (o : Int) < (bs.length : Int)
      · rw [decide_eq_true h1]
        have ho : o < bs.length := by omega
        have hb' : bs[o]? = some bs[o] := List.getElem?_eq_getElem ho
        have iv : atI (bs.map V.int) (o : Int) = some (.int bs[o]) := atI_nat (by rw [List.getElem?_map, hb']; rfl)
        refine iteT ⟨_, rfl, p, dx, _, rfl, hp, no_meth _ _ _ _, _, rfl, _, rfl, c, _, _, _, rfl, rfl, c2, iv, p, it, cnt, is, bs[o], rfl, SA2, _, _, rfl, rfl, _, rfl, ?_⟩
        by_cases h2 : (0 : Int) < (laOf is bs[o] : Int)
        · rw [decide_eq_true h2]
          refine iteT ⟨_, rfl, .inl ⟨rfl, _, SqL.of mk.at_⟩, _, rfl, l, _, _, rfl, rfl, mk.at_, by rw [List.length_map, sizeLine_eq]; omega, ?_⟩
          have mk3 := mk.put (acc' := begun.map natV ++ [V.int (o : Int)]) (Same.refl _)
          obtain ⟨dx3, d13, d23, hp3, _, _⟩ := (SA.same mk3.same).ob
          refine ⟨_, rfl, _, rfl, p, dx3, _, rfl, hp3, no_meth _ _ _ _, _, rfl, _, rfl, c, _, _, _, rfl, rfl, mk3.same.tup hc, iv, p, it, cnt, is, bs[o], rfl, SA.same mk3.same, _, _, rfl, rfl, ⟨begun ++ [o], o + laOf is bs[o], rfl, by rw [List.map_append]; exact mk3, g.step hb' (by omega)⟩, ?_⟩
          show bs.length - ((o : Int) + (laOf is bs[o] : Int)).toNat < bs.length - (o : Int).toNat
          omega
        · rw [decide_eq_false h2]
          exact iteF ⟨_, rfl, _, rfl, by show 2 ≤ sizeLine; decide, fun r nr => fin (g.stop hb' (by omega)) r nr⟩
      · rw [decide_eq_false h1]
        exact iteF (iteF ⟨_, rfl, _, rfl, by show 2 ≤ sizeLine; decide, fun r nr => fin (g.over (by omega)) r nr⟩)
    · rintro σ H2 Q1 Q2 hQ ⟨v, h1, v2, h2, a, xs, h3, h4, i, j, h5, h6, b, h7, h8⟩
      refine ⟨v, h1, v2, h2, a, xs, h3, h4, i, j, h5, h6, b, h7, ?_⟩
      revert h8
      cases b with
      | false => exact fun h8 => hQ _ _ h8
      | true =>
        rintro ⟨x1, e1, a1, dx1, f1, e2, e3, e4, x2, e5, x3, e6, c1, y1, y2, y3, e7, e8, e9, e10, p1, it1, cnt1, is1, b1, e11, e12, i1, j1, e13, e14, b2, e15, h9⟩
        exact ⟨x1, e1, a1, dx1, f1, e2, e3, e4, x2, e5, x3, e6, c1, y1, y2, y3, e7, e8, e9, e10, p1, it1, cnt1, is1, b1, e11, e12, i1, j1, e13, e14, b2, e15, hQ _ _ h9⟩
/-! ### countdown_behind -/
def optN : Option Nat → V
  | none => .non
  | some n => .int (n : Int)
def spBehind (K : PySem.W.Frag) : Sp := fun vs H Q _ => ∃ (c : Addr) (xs : List V) (fol : Nat), vs = [.ref c, .int (fol : Int)] ∧ SqT K H c xs ∧ Q (optN (if fol < xs.length then none else some (fol - xs.length))) H
theorem scBehind : FnScope ["code", "following"] ["code", "following"] (defScope sBehind) := ⟨rfl, rfl, rfl, by decide +kernel, rfl, by decide +kernel, by decide +kernel⟩
theorem ok_behind {f : Addr} {fd : FuncData} {k : Nat} (F : Fun K "countdown_behind" "countdown_behind" sBehind f fd) (T : Bi mg) : FnOk P w K mg base CX0 (k + 1) f fd ["code", "following"] (spBehind K) := by
  refine F.ok scBehind (fun vs H Q E h => ?_) (fun cdv A' outer s H vs Q E hr h => ?_)
  · obtain ⟨c, xs, fol, rfl, _⟩ := h
    rfl
  · obtain ⟨c, xs, fol, rfl, hc, q⟩ := h
    refine ⟨_, pss_one (ps_ret (pe_ifExp (pt_cmpR op_lt (pv 1) (pe_callB call_len_seq (by rfl) T.len PySem.boot_len (pa_cons (pv 0) pa_nil)) (nomark _)) pe_non (pe_op op_sub (pv 1) (pe_callB call_len_seq (by rfl) T.len PySem.boot_len (pa_cons (pv 0) pa_nil))))), ?_⟩
    refine ⟨_, rfl, _, rfl, c, _, rfl, .inr hc, _, _, rfl, rfl, _, rfl, ?_⟩
    by_cases h : (fol : Int) < (xs.length : Int)
    · rw [decide_eq_true h]
      rw [if_pos (show fol < xs.length by omega)] at q
      exact iteT q
    · rw [decide_eq_false h]
      rw [if_neg (show ¬ fol < xs.length by omega)] at q
      refine iteF ⟨_, rfl, _, rfl, c, _, rfl, .inr hc, _, _, rfl, rfl, ?_⟩
      have e : ((fol : Int) - (xs.length : Int)) = ((fol - xs.length : Nat) : Int) := by omega
      dsimp only
      rw [e]
      exact q
end
end Ov
namespace Ov
open PySem PySem.Spec PyProof.Rows L2
theorem la_hit {is : List I4} {b : Int} {i : Nat} (h : ∀ x ∈ is.take i, (x.op : Int) ≠ b) (hi : i < is.length) (e : ((is[i]).op : Int) = b) : laOf is b = (is[i]).ln := by
  unfold laOf
  have z : is.find? (fun x => decide ((x.op : Int) = b)) = some is[i] := by
    have sp : is = is.take i ++ is[i] :: is.drop (i + 1) := by rw [List.getElem_cons_drop, List.take_append_drop]
    generalize is[i] = y at *
    rw [sp, List.find?_append, List.find?_eq_none.mpr (fun x hx => by rw [decide_eq_true_eq]; exact h x hx), Option.none_or, List.find?_cons, decide_eq_true e]
  rw [z]
theorem la_miss {is : List I4} {b : Int} (h : ∀ x ∈ is, (x.op : Int) ≠ b) : laOf is b = 0 := by
  unfold laOf
  rw [List.find?_eq_none.mpr (fun x hx => by rw [decide_eq_true_eq]; exact h x hx)]
theorem But.tup {K : PySem.W.Frag} {H H' : Hp} {l d : Addr} {xs ys : List V} (b : But l H H') (hl : H l = some (.lst xs)) (h : SqT K H d ys) : SqT K H' d ys := by
  rcases h with (h | ⟨o, h⟩) | h
  · exact .inl (.inl (b _ _ h (fun z => by rw [z, hl] at h; cases h)))
  · exact .inl (.inr ⟨o, b _ _ h (fun z => by rw [z, hl] at h; cases h)⟩)
  · exact .inr h
section
variable {P : Program} {w : World} {K : PySem.W.Frag} {mg : Str → Option Value} {base : Heap}
/-! ### _law_length_at -/
def spLLenAt : Sp := fun vs H Q _ => ∃ (t it : Addr) (cnt lg : Nat) (is : List I4) (rs : List Addr) (b : Int), vs = [.ref t, .int b] ∧ Tab H t cnt lg is it rs ∧ Q (.int (laOf is b : Int)) H
theorem scLLenAt : FnScope ["_law_table_here", "_law_byte", "_law_opcode", "_law_name", "_law_length", "_law_is_padding"] ["_law_table_here", "_law_byte"] (defScope sLLenAt) := ⟨rfl, rfl, rfl, by decide +kernel, rfl, by decide +kernel, by decide +kernel⟩
theorem ok_llenAt {f : Addr} {fd : FuncData} {k : Nat} (F : Fun K "_law_length_at" "_law_length_at" sLLenAt f fd) : FnOk P w K mg base CX0 (k + 1) f fd ["_law_table_here", "_law_byte"] spLLenAt := by
  refine F.ok scLLenAt (fun vs H Q E h => ?_) (fun cdv A' outer s H vs Q E hr h => ?_)
  · obtain ⟨t, it, cnt, lg, is, rs, b, rfl, _⟩ := h
    rfl
  · obtain ⟨t, it, cnt, lg, is, rs, b, rfl, Tb, q⟩ := h
    refine ⟨_, pss_cons (ps_for PassesOwn.never rfl (pi_tup (pe_ix ix_tup (pv 0) pe_int (fun _ _ => rfl))) (pg_tup rfl (pgs_cons (pg_name (i := 2) scLLenAt.nd rfl (.inl rfl)) (pgs_cons (pg_name (i := 3) scLLenAt.nd rfl (.inl rfl)) (pgs_cons (pg_name (i := 4) scLLenAt.nd rfl (.inl rfl)) (pgs_cons (pg_name (i := 5) scLLenAt.nd rfl (.inl rfl)) pgs_nil)))))
        (pss_one (ps_if (pt_cmpR op_eq (pv 2) (pv 1) (nomark _)) (pss_one (ps_ret (pv 4))) pss_nil)))
      (pss_one (ps_ret pe_int)), ?_⟩
    have i1 : ∀ x y : V, atI [x, y] 1 = some y := fun x y => atI_nat (j := 1) rfl
    have hit := Tb.its
    have rl := Tb.rows.1
    refine ⟨_, rfl, t, _, _, _, rfl, rfl, SqT.of Tb.at_, i1 _ _, it, rfl, ⟨_, SqT.of hit⟩, for_tup (K := K) (a := it) (xs := rs.map V.ref) (fun i σ H' => H' = H ∧ (∀ x ∈ is.take i, (x.op : Int) ≠ b) ∧ ∃ y2 y3 y4 y5, σ = [some (.ref t), some (.int b), y2, y3, y4, y5]) ⟨rfl, (fun x hx => by simp at hx), _, _, _, _, rfl⟩ (fun i σ H' _ ⟨e, _⟩ => by rw [e]; exact SqT.of hit) ?_ ?_⟩
    · rintro i x σ H' hx ⟨rfl, no, y2, y3, y4, y5, rfl⟩
      obtain ⟨hi, r, rfl, hr2, _⟩ := rows_at Tb.rows hx
      refine ⟨r, _, rfl, SqT.of hr2, rfl, _, _, rfl, _, _, rfl, _, _, rfl, _, _, rfl, rfl, ?_⟩
      refine ⟨_, rfl, _, rfl, rfl, _, rfl, ?_⟩
      by_cases h : ((is[i]).op : Int) = b
      · rw [decide_eq_true (by rw [h])]
        refine iteT ⟨_, rfl, ?_⟩
        rw [la_hit no hi h] at q
        exact q
      · rw [decide_eq_false (fun z => h (V.int.inj z))]
        refine iteF ⟨rfl, fun x hx => ?_, _, _, _, _, rfl⟩
        rw [take_more (List.getElem?_eq_getElem hi)] at hx
        rcases List.mem_append.mp hx with hx | hx
        · exact no x hx
        · rw [List.mem_singleton.mp hx]; exact h
    · rintro σ H' ⟨rfl, no, y2, y3, y4, y5, rfl⟩
      rw [List.length_map, rl, List.take_length] at no
      rw [la_miss no] at q
      exact q
end
end Ov
namespace Ov
open PySem PySem.Spec PyProof.Rows L2
theorem SetAt.but {C : Addr} {H H' : Hp} {x p : Addr} {cnt n : Nat} {it : Addr} {is : List I4} (h : SetAt C H x cnt it is) (b : But p H H') (B : BoxAt H p n) : SetAt C H' x cnt it is := by
  obtain ⟨dx, d1, d2, h1, h2, h3⟩ := h.ob
  obtain ⟨_, _, _, e, _⟩ := B
  refine ⟨dx, d1, d2, b _ _ h1 ?_, b _ _ h2 ?_, b _ _ h3 ?_⟩
  · intro z; rw [z, e] at h1; cases h1
  · intro z; rw [z, e] at h2; cases h2
  · intro z; rw [z, e] at h3; cases h3
end Ov
namespace Ov
open PySem PySem.Spec PyProof.Rows L2
/-! ### what is shown of numbers and Nones -/
theorem natV_ints (ns : List Nat) : ns.map natV = (ns.map fun n : Nat => (n : Int)).map V.int := by
  rw [List.map_map]; rfl
def optD : Option Nat → PyData
  | none => .none
  | some n => .int (n : Int)
theorem dx_opts {K : PySem.W.Frag} {H : Hp} : ∀ os : List (Option Nat), DxAll K H (os.map optN) (os.map optD)
  | [] => .nil
  | none :: os => .cons .non (dx_opts os)
  | some n :: os => .cons (.int _) (dx_opts os)
theorem small_nat {n : Nat} (h : n ≤ 2 ^ 60) : ((n : Int)).natAbs < 2 ^ 1000 := by
  rw [Int.natAbs_natCast]
  exact Nat.lt_of_lt_of_le (show n < 2 ^ 61 by omega) (Nat.pow_le_pow_right (by decide) (by decide))
theorem opt_parts {o : Option Nat} (h : ∀ n, o = some n → n ≤ 2 ^ 60) : (optD o).showable = true ∧ (optD o).hasDict = false ∧ (optD o).depth = 0 ∧ nodes (optD o) = 1 := by
  cases o with
  | none => exact ⟨by simp [optD, PyData.showable], by simp [optD, PyData.hasDict], by simp [optD, PyData.depth], by simp [optD, nodes]⟩
  | some n =>
    have f := flat_ints (ns := [(n : Int)]) (fun m hm => by rw [List.mem_singleton.mp hm]; exact small_nat (h n rfl))
    exact ⟨by have := f.sh; simpa [optD, PyData.showableAll] using this, by simp [optD, PyData.hasDict], by simp [optD, PyData.depth], by simp [optD, nodes]⟩
theorem opts_show : ∀ {os : List (Option Nat)}, (∀ n, some n ∈ os → n ≤ 2 ^ 60) → ShowsAll (os.map optD) os.length ∧ PyData.hasDictAll (os.map optD) = false ∧ PyData.depthAll (os.map optD) = 0
  | [], _ => ⟨⟨by simp [PyData.showableAll], fun z => by simp [PyData.hasDictAll] at z, by simp [PyData.depthAll], by simp [nodesAll]⟩, by simp [PyData.hasDictAll], by simp [PyData.depthAll]⟩
  | o :: os, h => by
    obtain ⟨A, B, C⟩ := opts_show (os := os) (fun n hn => h n (List.mem_cons_of_mem _ hn))
    obtain ⟨p1, p2, p3, p4⟩ := opt_parts (o := o) (fun n hn => h n (by rw [hn]; exact List.mem_cons_self))
    have e2 : PyData.hasDictAll ((o :: os).map optD) = false := by
      rw [List.map_cons]; simp only [PyData.hasDictAll]; rw [p2, B]; rfl
    have e3 : PyData.depthAll ((o :: os).map optD) = 0 := by
      rw [List.map_cons]; simp only [PyData.depthAll]; rw [p3, C]; rfl
    refine ⟨⟨?_, (fun z => by rw [e2] at z; cases z), by rw [e3]; decide, ?_⟩, e2, e3⟩
    · rw [List.map_cons]; simp only [PyData.showableAll]; rw [p1, A.sh]; rfl
    · rw [List.map_cons, List.length_cons]
      simp only [nodesAll]
      have := A.nd
      omega
theorem ShowsAll.lst {ds : List PyData} {n : Nat} (h : ShowsAll ds n) (hd : PyData.hasDictAll ds = false) (hn : n ≤ 7999) : Shows (.list ds) :=
  ⟨by simp only [PyData.showable]; exact h.sh, (fun z => by simp only [PyData.hasDict] at z; rw [hd] at z; cases z), by simp only [PyData.depth]; have := h.dep; omega, by simp only [nodes]; have := h.nd; omega⟩
theorem stF_lt {la : Int → Nat} : ∀ (bs : List Int) (k : Nat) (s : Option Nat), ∀ o ∈ stF la k s bs, o < k + bs.length
  | [], _, _, o, h => nomatch h
  | b :: bs, k, s, o, h => by
    have h' : o ∈ (if s = some 0 ∧ 0 < la b then [k] else []) ++ stF la (k + 1) (cdStep la s b) bs := h
    rw [List.length_cons]
    rcases List.mem_append.mp h' with z | z
    · revert z
      split
      · intro z; rw [List.mem_singleton.mp z]; omega
      · intro z; cases z
    · have := stF_lt bs (k + 1) _ o z
      omega
theorem cdEnd_le {la : Int → Nat} {m : Nat} (hm : ∀ b, la b ≤ m) : ∀ (bs : List Int) (s : Option Nat), (∀ n, s = some n → n ≤ m) → ∀ n, cdEnd la s bs = some n → n ≤ m
  | [], s, h, n, e => h n e
  | b :: bs, s, h, n, e => by
    refine cdEnd_le hm bs (cdStep la s b) (fun j ej => ?_) n e
    cases s with
    | none => cases ej
    | some q =>
      cases q with
      | zero =>
        have ej' : (if la b = 0 then none else some (la b - 1)) = some j := ej
        split at ej'
        · cases ej'
        · have := Option.some.inj ej'; have := hm b; omega
      | succ q =>
        have : q = j := Option.some.inj ej
        have := h _ rfl
        omega
theorem dx_nats {K : PySem.W.Frag} {H : Hp} {a : Addr} {ns : List Nat} (h : H a = some (.tup (ns.map natV))) : Dx K H (.ref a) (.tuple ((ns.map fun n : Nat => (n : Int)).map PyData.int)) := by
  rw [natV_ints] at h
  exact .tup (SqT.of h) (dx_ints _)
theorem sh_nats {ns : List Nat} (h : ∀ n ∈ ns, n ≤ 2 ^ 60) (hl : ns.length ≤ 7999) : Shows (.tuple ((ns.map fun n : Nat => (n : Int)).map PyData.int)) :=
  (ints_show (ns := ns.map fun n : Nat => (n : Int)) (fun m hm => by
    obtain ⟨n, hn, rfl⟩ := List.mem_map.mp hm
    exact small_nat (h n hn))).tup (by rw [List.length_map]; exact hl)
end Ov
namespace Ov
open PySem PySem.Spec PyProof.Rows L2
abbrev sLongest : Stmt := inClass cInstructionSet 2
/-! ### the longest length -/
def lonOf (is : List I4) : Nat := (is.map I4.ln).foldl max 0
theorem fmax_ge : ∀ (l : List Nat) (a : Nat), a ≤ l.foldl max a ∧ ∀ x ∈ l, x ≤ l.foldl max a
  | [], a => ⟨Nat.le_refl _, fun _ h => nomatch h⟩
  | y :: l, a => by
    obtain ⟨h1, h2⟩ := fmax_ge l (max a y)
    refine ⟨Nat.le_trans (Nat.le_max_left _ _) h1, fun x hx => ?_⟩
    rcases List.mem_cons.mp hx with rfl | hx
    · exact Nat.le_trans (Nat.le_max_right _ _) h1
    · exact h2 x hx
theorem fmax_le : ∀ (l : List Nat) (a m : Nat), a ≤ m → (∀ x ∈ l, x ≤ m) → l.foldl max a ≤ m
  | [], a, m, h, _ => h
  | y :: l, a, m, h, hl => fmax_le l (max a y) m (Nat.max_le.mpr ⟨h, hl y List.mem_cons_self⟩) fun x hx => hl x (List.mem_cons_of_mem _ hx)
theorem lon_eq {is : List I4} {m : Int} (h1 : m ∈ is.map (fun x => (x.ln : Int))) (h2 : ∀ y ∈ is.map (fun x => (x.ln : Int)), y ≤ m) : m = (lonOf is : Int) := by
  obtain ⟨x, hx, rfl⟩ := List.mem_map.mp h1
  have g := (fmax_ge (is.map I4.ln) 0).2 x.ln (List.mem_map.mpr ⟨x, hx, rfl⟩)
  have l := fmax_le (is.map I4.ln) 0 x.ln (Nat.zero_le _) fun y hy => by
    obtain ⟨z, hz, rfl⟩ := List.mem_map.mp hy
    have := h2 (z.ln : Int) (List.mem_map.mpr ⟨z, hz, rfl⟩)
    omega
  unfold lonOf
  omega
theorem lon_le {cnt lg : Nat} {is : List I4} (ok : TabOk cnt lg is) : 1 ≤ lonOf is ∧ lonOf is ≤ 12 := by
  constructor
  · cases e : is with
    | nil => exact absurd e ok.ne
    | cons x r =>
      have h := (ok.len x (by rw [e]; exact List.mem_cons_self)).1
      have g := (fmax_ge ((x :: r).map I4.ln) 0).2 x.ln (List.mem_map.mpr ⟨x, List.mem_cons_self, rfl⟩)
      unfold lonOf
      omega
  · refine fmax_le (is.map I4.ln) 0 12 (by decide) fun y hy => ?_
    obtain ⟨z, hz, rfl⟩ := List.mem_map.mp hy
    have := (ok.len z hz).2
    have := ok.lb
    omega
/-- an instruction set with its rows -/
structure Mach (C : Addr) (H : Hp) (p : Addr) (cnt lg : Nat) (it : Addr) (is : List I4) (rs : List Addr) : Prop where
  at_ : SetAt C H p cnt it is
  its : H it = some (.tup (rs.map V.ref))
  rows : Rows H rs is
  ok : TabOk cnt lg is
theorem Mach.same {C : Addr} {H H' : Hp} {p : Addr} {cnt lg : Nat} {it : Addr} {is : List I4} {rs : List Addr} (h : Mach C H p cnt lg it is rs) (s : Same H H') : Mach C H' p cnt lg it is rs := ⟨h.at_.same s, s _ _ h.its, h.rows.same s, h.ok⟩
theorem Mach.but {C : Addr} {H H' : Hp} {x p : Addr} {cnt lg n : Nat} {it : Addr} {is : List I4} {rs : List Addr} (h : Mach C H x cnt lg it is rs) (b : But p H H') (B : BoxAt H p n) : Mach C H' x cnt lg it is rs := ⟨h.at_.but b B, b _ _ h.its (ne_box B h.its), h.rows.but b B, h.ok⟩
/-- the pairs of a map -/
def pairV (m : Option Nat × Nat) : List V := [optN m.1, natV m.2]
def Pairs (H : Hp) (ps : List Addr) (ms : List (Option Nat × Nat)) : Prop := ps.length = ms.length ∧ ∀ (i : Nat) (a : Addr) (m : Option Nat × Nat), ps[i]? = some a → ms[i]? = some m → H a = some (.tup (pairV m))
theorem Pairs.same {H H' : Hp} {ps : List Addr} {ms : List (Option Nat × Nat)} (h : Pairs H ps ms) (s : Same H H') : Pairs H' ps ms := ⟨h.1, fun i a m h1 h2 => s _ _ (h.2 i a m h1 h2)⟩
theorem Pairs.but {H H' : Hp} {D : Addr} {xs : List V} {ps : List Addr} {ms : List (Option Nat × Nat)} (h : Pairs H ps ms) (b : But D H H') (hD : H D = some (.lst xs)) : Pairs H' ps ms :=
  ⟨h.1, fun i a m h1 h2 => b _ _ (h.2 i a m h1 h2) fun z => by have := h.2 i a m h1 h2; rw [z, hD] at this; cases this⟩
theorem Pairs.nil {H : Hp} : Pairs H [] [] := ⟨rfl, fun i a m h => by simp at h⟩
theorem Pairs.more {H : Hp} {ps : List Addr} {ms : List (Option Nat × Nat)} {a : Addr} {m : Option Nat × Nat} (h : Pairs H ps ms) (ha : H a = some (.tup (pairV m))) : Pairs H (ps ++ [a]) (ms ++ [m]) := by
  refine ⟨by rw [List.length_append, List.length_append, h.1]; rfl, fun i b x h1 h2 => ?_⟩
  by_cases c : i < ps.length
  · rw [List.getElem?_append_left c] at h1
    rw [List.getElem?_append_left (by rw [← h.1]; exact c)] at h2
    exact h.2 i b x h1 h2
  · have hl := (List.getElem?_eq_some_iff.mp h1).1
    rw [List.length_append] at hl
    have e : i = ps.length := by
      have : ([a] : List Addr).length = 1 := rfl
      omega
    subst e
    rw [List.getElem?_append_right (Nat.le_refl _), Nat.sub_self] at h1
    rw [h.1, List.getElem?_append_right (Nat.le_refl _), Nat.sub_self] at h2
    have e1 : a = b := Option.some.inj h1
    have e2 : m = x := Option.some.inj h2
    subst e1 e2
    exact ha
/-- a map as it stands -/
def MapAt (H : Hp) (r : Addr) (ms : List (Option Nat × Nat)) : Prop := ∃ ps : List Addr, H r = some (.tup (ps.map V.ref)) ∧ Pairs H ps ms
theorem MapAt.same {H H' : Hp} {r : Addr} {ms : List (Option Nat × Nat)} (h : MapAt H r ms) (s : Same H H') : MapAt H' r ms := by
  obtain ⟨ps, h1, h2⟩ := h
  exact ⟨ps, s _ _ h1, h2.same s⟩
def mapOf (la : Int → Nat) (L : Nat) (bs : List Int) : List (Option Nat × Nat) := (List.range L).map fun c => (cdEnd la (some c) bs, (stF la 0 (some c) bs).length)
def idMap (L : Nat) : List (Option Nat × Nat) := (List.range L).map fun c => (some c, 0)
def pairD (m : Option Nat × Nat) : PyData := .tuple [optD m.1, .int (m.2 : Int)]
theorem dx_opt {K : PySem.W.Frag} {H : Hp} (o : Option Nat) : Dx K H (optN o) (optD o) := by
  cases o with
  | none => exact .non
  | some n => exact .int _
theorem dx_pairs {K : PySem.W.Frag} {H : Hp} : ∀ {ps : List Addr} {ms : List (Option Nat × Nat)}, Pairs H ps ms → DxAll K H (ps.map V.ref) (ms.map pairD)
  | [], [], _ => .nil
  | [], _ :: _, h => by cases h.1
  | _ :: _, [], h => by cases h.1
  | a :: ps, m :: ms, h => .cons (.tup (SqT.of (h.2 0 a m rfl rfl)) (.cons (dx_opt _) (.cons (.int _) .nil))) (dx_pairs ⟨by have := h.1; rw [List.length_cons, List.length_cons] at this; omega, fun i b x h1 h2 => h.2 (i + 1) b x h1 h2⟩)
theorem dx_map {K : PySem.W.Frag} {H : Hp} {r : Addr} {ms : List (Option Nat × Nat)} (h : MapAt H r ms) : Dx K H (.ref r) (.tuple (ms.map pairD)) := by
  obtain ⟨ps, h1, h2⟩ := h
  exact .tup (SqT.of h1) (dx_pairs h2)
theorem pair_parts {m : Option Nat × Nat} (h : ∀ n, m.1 = some n → n ≤ 2 ^ 60) (h2 : m.2 ≤ 2 ^ 60) : (pairD m).showable = true ∧ (pairD m).hasDict = false ∧ (pairD m).depth = 1 ∧ nodes (pairD m) = 3 := by
  obtain ⟨p1, p2, p3, p4⟩ := opt_parts h
  have q := opt_parts (o := some m.2) (fun n hn => by cases hn; exact h2)
  obtain ⟨q1, q2, q3, q4⟩ := q
  simp only [optD] at q1 q2 q3 q4
  refine ⟨?_, ?_, ?_, ?_⟩
  · simp only [PyData.showable] at q1
    simp only [pairD, PyData.showable, PyData.showableAll]; rw [p1, q1]; rfl
  · simp only [pairD, PyData.hasDict, PyData.hasDictAll]; rw [p2]; rfl
  · simp only [pairD, PyData.depth, PyData.depthAll]; rw [p3]; rfl
  · simp only [pairD, nodes, nodesAll]; rw [p4]
theorem pairs_show : ∀ {ms : List (Option Nat × Nat)}, (∀ m ∈ ms, (∀ n, m.1 = some n → n ≤ 2 ^ 60) ∧ m.2 ≤ 2 ^ 60) → ShowsAll (ms.map pairD) (3 * ms.length) ∧ PyData.hasDictAll (ms.map pairD) = false ∧ PyData.depthAll (ms.map pairD) ≤ 1
  | [], _ => ⟨⟨by simp [PyData.showableAll], fun z => by simp [PyData.hasDictAll] at z, by simp [PyData.depthAll], by simp [nodesAll]⟩, by simp [PyData.hasDictAll], by simp [PyData.depthAll]⟩
  | m :: ms, h => by
    obtain ⟨A, B, C⟩ := pairs_show (ms := ms) (fun n hn => h n (List.mem_cons_of_mem _ hn))
    obtain ⟨p1, p2, p3, p4⟩ := pair_parts (h m List.mem_cons_self).1 (h m List.mem_cons_self).2
    have e2 : PyData.hasDictAll ((m :: ms).map pairD) = false := by
      rw [List.map_cons]; simp only [PyData.hasDictAll]; rw [p2, B]; rfl
    have e3 : PyData.depthAll ((m :: ms).map pairD) ≤ 1 := by
      rw [List.map_cons]; simp only [PyData.depthAll]; rw [p3]; omega
    refine ⟨⟨?_, (fun z => by rw [e2] at z; cases z), by omega, ?_⟩, e2, e3⟩
    · rw [List.map_cons]; simp only [PyData.showableAll]; rw [p1, A.sh]; rfl
    · rw [List.map_cons, List.length_cons]
      simp only [nodesAll]
      have := A.nd
      omega
theorem sh_map {ms : List (Option Nat × Nat)} (h : ∀ m ∈ ms, (∀ n, m.1 = some n → n ≤ 2 ^ 60) ∧ m.2 ≤ 2 ^ 60) (hl : ms.length ≤ 100) : Shows (.tuple (ms.map pairD)) := by
  obtain ⟨A, _, _⟩ := pairs_show h
  exact A.tup (by omega)
section
variable {P : Program} {w : World} {K : PySem.W.Frag} {mg : Str → Option Value} {base : Heap}
/-! ### longest -/
def spLongest (C : Addr) : Sp := fun vs H Q _ => ∃ (p it : Addr) (cnt lg : Nat) (is : List I4) (rs : List Addr), vs = [.ref p] ∧ Mach C H p cnt lg it is rs ∧ ∀ H', Same H H' → Q (.int (lonOf is : Int)) H'
theorem scLongest : FnScope ["self", "opcode", "name", "length", "is_padding"] ["self"] (defScope sLongest) := ⟨rfl, rfl, rfl, by decide +kernel, rfl, by decide +kernel, by decide +kernel⟩
theorem ok_longest {f C : Addr} {fd : FuncData} {k : Nat} (F : Fun K "longest" "InstructionSet.longest" sLongest f fd) (T : Bi mg) (S : SetTxt K mg C) : FnOk P w K mg base CX0 (k + 1) f fd ["self"] (spLongest C) := by
  refine F.ok scLongest (fun vs H Q E h => ?_) (fun cdv A' outer s H vs Q E hr h => ?_)
  · obtain ⟨p, it, cnt, lg, is, rs, rfl, _⟩ := h
    rfl
  · obtain ⟨p, it, cnt, lg, is, rs, rfl, M, q⟩ := h
    refine ⟨_, pss_one (ps_ret (pe_callB (cr_max rfl) (by rfl) T.max (by decide +kernel) (pa_cons (pe_lc (own := [("opcode", 1), ("name", 2), ("length", 3), ("is_padding", 4)]) (g := gTup K 4 (gCons (gName 1) (gCons (gName 2) (gCons (gName 3) (gCons (gName 4) gNil))))) (tt := tYes) (by rfl) scLongest.nd (pi_tup (pe_fld (pv 0) rfl))
          (blkOk_by (own := [("opcode", 1), ("name", 2), ("length", 3), ("is_padding", 4)]) (N := ["self", "opcode", "name", "length", "is_padding"]) (sc := defScope sLongest) (by decide +kernel))
          (fun _ _ _ _ _ => pg_tup rfl (pgs_cons (pg_name (i := 1) scLongest.nd rfl (Or.inl rfl)) (pgs_cons (pg_name (i := 2) scLongest.nd rfl (Or.inl rfl)) (pgs_cons (pg_name (i := 3) scLongest.nd rfl (Or.inl rfl)) (pgs_cons (pg_name (i := 4) scLongest.nd rfl (Or.inl rfl)) pgs_nil)))))
          (fun _ _ _ _ _ => pts_nil) (fun _ _ _ _ _ => pv 3)) pa_nil))), ?_⟩
    obtain ⟨dx, d1, d2, hp, h1, h2⟩ := M.at_.ob
    have hit := M.its
    have rl := M.rows.1
    have few := M.ok.few
    have ne : 0 < is.length := List.length_pos_iff.mpr M.ok.ne
    refine ⟨_, rfl, p, C, dx, _, _, rfl, hp, S.cl, S.nI, flds_its _ _ _ _, it, rfl, ⟨_, SqT.of hit⟩, fun D nD => lc_tup (K := K) (a := it) (xs := rs.map V.ref) (fun i H2 => Mk H H2 D (((is.take i).map fun x => (x.ln : Int)).map V.int)) (.start nD) (fun i H2 _ p => p.same.tup (SqT.of hit)) ?_ ?_⟩
    · intro i x H2 hx mk
      obtain ⟨hi, r, rfl, hr2, _⟩ := rows_at M.rows hx
      refine ⟨r, _, rfl, SqT.of (mk.same _ _ hr2), rfl, _, _, rfl, _, _, rfl, _, _, rfl, _, _, rfl, rfl, rfl, _, rfl, _, mk.at_, (by rw [List.length_map, List.length_map, List.length_take]; exact small1000 (by omega)), ?_⟩
      rw [take_more (List.getElem?_eq_getElem hi), List.map_append, List.map_append]
      exact mk.put (Same.refl _)
    intro H2 mk
    rw [List.length_map, rl, List.take_length] at mk
    refine ⟨D, _, rfl, SqL.of mk.at_, by rw [List.length_map]; exact ne, fun m m1 m2 => ?_⟩
    rw [lon_eq m1 m2]
    exact q H2 mk.same
/-! ### decoder_pair -/
def spPair (K : PySem.W.Frag) (C : Addr) : Sp := fun vs H Q _ => ∃ (p it c : Addr) (cnt : Nat) (is : List I4) (bs : List Int) (e : Nat), vs = [.ref p, .ref c, .int (e : Int)] ∧ SetAt C H p cnt it is ∧ SqT K H c (bs.map V.int) ∧ bs.length ≤ 100000 ∧
  ∀ H' r, Same H H' → H r = none → H' r = some (.tup (pairV (cdEnd (laOf is) (some e) bs, (stF (laOf is) 0 (some e) bs).length))) → Q (.ref r) H'
theorem scPair : FnScope ["instruction_set", "code", "countdown", "begun", "following"] ["instruction_set", "code", "countdown"] (defScope sPair) := ⟨rfl, rfl, rfl, by decide +kernel, rfl, by decide +kernel, by decide +kernel⟩
theorem ok_pair {f fW fH C : Addr} {fd fdW fdH : FuncData} {k : Nat} (F : Fun K "decoder_pair" "decoder_pair" sPair f fd) (T : Bi mg)
    (Wa : Def K mg "walk" sWalk fW fdW ["instruction_set", "code", "entry"]) (GW : FnOk P w K mg base CX0 k fW fdW ["instruction_set", "code", "entry"] (spWalk K C))
    (Bh : Def K mg "countdown_behind" sBehind fH fdH ["code", "following"]) (GH : FnOk P w K mg base CX0 k fH fdH ["code", "following"] (spBehind K)) :
    FnOk P w K mg base CX0 (k + 1) f fd ["instruction_set", "code", "countdown"] (spPair K C) := by
  refine F.ok scPair (fun vs H Q E h => ?_) (fun cdv A' outer s H vs Q E hr h => ?_)
  · obtain ⟨p, it, c, cnt, is, bs, e, rfl, _⟩ := h
    rfl
  · obtain ⟨p, it, c, cnt, is, bs, e, rfl, SA, hc, hb, q⟩ := h
    refine ⟨_, pss_cons (ps_asg (pe_call GW hr (by rfl) Wa.gl Wa.fn.kp Wa.bi .nil pass0 (pa_cons (pv 0) (pa_cons (pv 1) (pa_cons (pv 2) pa_nil)))) (pg_tup rfl (pgs_cons (pg_name (i := 3) scPair.nd rfl (.inl rfl)) (pgs_cons (pg_name (i := 4) scPair.nd rfl (.inl rfl)) pgs_nil))))
      (pss_one (ps_ret (pe_tup (pa_cons (pe_call GH hr (by rfl) Bh.gl Bh.fn.kp Bh.bi .nil pass0 (pa_cons (pv 1) (pa_cons (pv 4) pa_nil))) (pa_cons (pe_callB call_len_seq (by rfl) T.len PySem.boot_len (pa_cons (pv 3) pa_nil)) pa_nil))))), ?_⟩
    refine ⟨_, rfl, _, rfl, _, rfl, p, it, c, cnt, is, bs, e, rfl, SA, hc, hb, fun H' r l begun fol s' en nr hr' hl bl => ?_⟩
    refine ⟨r, _, rfl, SqT.of hr', rfl, _, _, rfl, _, _, rfl, rfl, ?_⟩
    refine ⟨_, rfl, _, rfl, c, _, fol, rfl, s'.tup hc, ?_⟩
    rw [List.length_map, ← en.cd]
    refine ⟨_, rfl, l, _, rfl, .inl (SqL.of hl), by show 2 ≤ sizeLine; decide, fun t nt => ?_⟩
    have s2 := same_upd (o := HO.tup [optN (cdEnd (laOf is) (some e) bs), V.int ((begun.map natV).length : Int)]) nt
    refine q _ t (s'.trans s2) (s'.free nt) ?_
    rw [← en.st]
    unfold pairV natV
    rw [List.length_map]
    exact upd_same
/-! ### code_map -/
def spCodeMap (K : PySem.W.Frag) (C : Addr) : Sp := fun vs H Q _ => ∃ (p it c : Addr) (cnt lg : Nat) (is : List I4) (rs : List Addr) (bs : List Int), vs = [.ref p, .ref c] ∧ Mach C H p cnt lg it is rs ∧ SqT K H c (bs.map V.int) ∧ bs.length ≤ 100000 ∧
  ∀ H' r, Same H H' → H r = none → MapAt H' r (mapOf (laOf is) (lonOf is) bs) → Q (.ref r) H'
theorem scCodeMap : FnScope ["instruction_set", "code", "countdown"] ["instruction_set", "code"] (defScope sCodeMap) := ⟨rfl, rfl, rfl, by decide +kernel, rfl, by decide +kernel, by decide +kernel⟩
theorem no_meth2 (cnt : Nat) (it d1 d2 : Addr) : (flds cnt it d1 d2).lookup ("longest" : Str) = none := by
  unfold flds
  rw [lookup_putF, if_neg (by decide +kernel), lookup_putF, if_neg (by decide +kernel), lookup_putF, if_neg (by decide +kernel), lookup_putF, if_neg (by decide +kernel)]
  rfl
theorem ok_codeMap {f fP fL C : Addr} {fd fdP fdL : FuncData} {k : Nat} (F : Fun K "code_map" "code_map" sCodeMap f fd) (T : Bi mg) (S : SetTxt K mg C)
    (Pr : Def K mg "decoder_pair" sPair fP fdP ["instruction_set", "code", "countdown"]) (GP : FnOk P w K mg base CX0 k fP fdP ["instruction_set", "code", "countdown"] (spPair K C))
    (ML : Meth K C "longest" fL) (bL : Binds K fdL ["self"] []) (GL : FnOk P w K mg base CX0 k fL fdL ["self"] (spLongest C)) :
    FnOk P w K mg base CX0 (k + 1) f fd ["instruction_set", "code"] (spCodeMap K C) := by
  refine F.ok scCodeMap (fun vs H Q E h => ?_) (fun cdv A' outer s H vs Q E hr h => ?_)
  · obtain ⟨p, it, c, cnt, lg, is, rs, bs, rfl, _⟩ := h
    rfl
  · obtain ⟨p, it, c, cnt, lg, is, rs, bs, rfl, M, hc, hb, q⟩ := h
    refine ⟨_, pss_one (ps_ret (pe_callTy call_tuple_of (by rfl) T.tuple (by decide +kernel) (pa_cons (pe_lc (own := [("countdown", 2)]) (g := gName 2) (tt := tYes) (by rfl) scCodeMap.nd (pi_range1 (by rfl) T.range (pa_cons (pe_meth0 (pv 0) S.cl ML GL hr bL .nil pass0) pa_nil))
          (blkOk_by (own := [("countdown", 2)]) (N := ["instruction_set", "code", "countdown"]) (sc := defScope sCodeMap) (by decide +kernel))
          (fun _ _ _ _ _ => pg_name (i := 2) scCodeMap.nd rfl (Or.inl rfl)) (fun _ _ _ _ _ => pts_nil)
          (fun _ _ _ _ _ => pe_call GP hr (by rfl) Pr.gl Pr.fn.kp Pr.bi .nil pass0 (pa_cons (pv 0) (pa_cons (pv 1) (pa_cons (pv 2) pa_nil))))) pa_nil))), ?_⟩
    obtain ⟨dx, d1, d2, hp, h1, h2⟩ := M.at_.ob
    have lon := lon_le M.ok
    refine ⟨_, rfl, p, dx, _, rfl, hp, no_meth2 _ _ _ _, p, it, cnt, lg, is, rs, rfl, M, fun H1 s1 => ⟨_, rfl, by omega, by omega, fun D nD => lc_range (lo := 0) (n := lonOf is) (fun i H2 => ∃ ps, Mk H1 H2 D (ps.map V.ref) ∧ Pairs H2 ps ((mapOf (laOf is) (lonOf is) bs).take i)) ⟨[], .start nD, Pairs.nil⟩ ?_ ?_⟩⟩
    · rintro i H2 hi ⟨ps, mk, pr⟩
      have s2 := s1.trans mk.same
      have pl : ps.length ≤ 12 := by rw [pr.1, List.length_take]; omega
      refine ⟨rfl, _, rfl, _, rfl, _, rfl, p, it, c, cnt, is, bs, i, (by rw [Int.zero_add]; rfl), M.at_.same s2, s2.tup hc, hb, fun H3 r s3 nr hr3 => ?_⟩
      refine ⟨_, s3 _ _ mk.at_, by rw [List.length_map, sizeLine_eq]; omega, ps ++ [r], ?_, ?_⟩
      · rw [List.map_append]; exact mk.put s3
      · have hm : (mapOf (laOf is) (lonOf is) bs)[i]? = some (cdEnd (laOf is) (some i) bs, (stF (laOf is) 0 (some i) bs).length) := by
          unfold mapOf
          rw [List.getElem?_map, List.getElem?_range hi]
          rfl
        rw [take_more hm]
        exact ((pr.same s3).more hr3).but (D := D) (fun b o e n => by rw [upd_ne n]; exact e) (s3 _ _ mk.at_)
    rintro H2 ⟨ps, mk, pr⟩
    rw [List.take_of_length_le (by unfold mapOf; rw [List.length_map, List.length_range]; exact Nat.le_refl _)] at pr
    refine ⟨D, _, rfl, .inl ⟨SqL.of mk.at_, fun r nr => ?_⟩⟩
    have s3 := same_upd (o := HO.tup (ps.map V.ref)) nr
    have s03 := (s1.trans mk.same).trans s3
    exact q _ r s03 ((s1.trans mk.same).free nr) ⟨ps, upd_same, pr.same s3⟩
end
end Ov
namespace Ov
open PySem PySem.Spec PyProof.Rows L2
theorem mapOf_eq (la : Int → Nat) (L : Nat) (bs : List Int) : mapOf la L bs = mapOf' la L bs := rfl
theorem idMap_eq (ms : List PM) (L : Nat) : idMap L = repM ms L 0 := rfl
theorem lon_ge {is : List I4} (b : Int) : laOf is b ≤ lonOf is := by
  unfold laOf
  cases e : is.find? (fun x => decide ((x.op : Int) = b)) with
  | none => exact Nat.zero_le _
  | some x => exact (fmax_ge (is.map I4.ln) 0).2 x.ln (List.mem_map.mpr ⟨x, List.mem_of_find?_eq_some e, rfl⟩)
theorem MapAt.pair {H : Hp} {r : Addr} {ms : List PM} (h : MapAt H r ms) : ∃ ps : List Addr, H r = some (.tup (ps.map V.ref)) ∧ ps.length = ms.length ∧ ∀ (c : Nat) (m : PM), ms[c]? = some m → ∃ a : Addr, (ps.map V.ref)[c]? = some (V.ref a) ∧ H a = some (.tup (pairV m)) := by
  obtain ⟨ps, h1, h2⟩ := h
  refine ⟨ps, h1, h2.1, fun c m hm => ?_⟩
  have hc : c < ps.length := by rw [h2.1]; exact (List.getElem?_eq_some_iff.mp hm).1
  exact ⟨ps[c], by rw [List.getElem?_map, List.getElem?_eq_getElem hc]; rfl, h2.2 c _ m (List.getElem?_eq_getElem hc) hm⟩
section
variable {P : Program} {w : World} {K : PySem.W.Frag} {mg : Str → Option Value} {base : Heap}
/-! ### continued -/
def spCont : Sp := fun vs H Q _ => ∃ (a s2 : Addr) (m : PM) (ms : List PM) (L : Nat), vs = [.ref a, .ref s2] ∧ H a = some (.tup (pairV m)) ∧ MapAt H s2 ms ∧ Wf L ms ∧ WfP L m ∧ ∀ H' r, Same H H' → H' r = some (.tup (pairV (contP ms m))) → Q (.ref r) H'
theorem scCont : FnScope ["pair", "second", "countdown", "begun", "behind", "more"] ["pair", "second"] (defScope sCont) := ⟨rfl, rfl, rfl, by decide +kernel, rfl, by decide +kernel, by decide +kernel⟩
theorem ok_cont {f : Addr} {fd : FuncData} {k : Nat} (F : Fun K "continued" "continued" sCont f fd) : FnOk P w K mg base CX0 (k + 1) f fd ["pair", "second"] spCont := by
  refine F.ok scCont (fun vs H Q E h => ?_) (fun cdv A' outer s H vs Q E hr h => ?_)
  · obtain ⟨a, s2, m, ms, L, rfl, _⟩ := h
    rfl
  · obtain ⟨a, s2, m, ms, L, rfl, ha, M, wf, wp, q⟩ := h
    refine ⟨_, pss_cons (ps_asg (pv 0) (pg_tup rfl (pgs_cons (pg_name (i := 2) scCont.nd rfl (.inl rfl)) (pgs_cons (pg_name (i := 3) scCont.nd rfl (.inl rfl)) pgs_nil))))
      (pss_cons (ps_if (pt_cmpR op_isN (pv 2) pe_non (nomark _)) (pss_one (ps_ret (pv 0))) pss_nil)
      (pss_cons (ps_asg (pe_ix ix_tup (pv 1) (pv 2) (fun _ _ => rfl)) (pg_tup rfl (pgs_cons (pg_name (i := 4) scCont.nd rfl (.inl rfl)) (pgs_cons (pg_name (i := 5) scCont.nd rfl (.inl rfl)) pgs_nil))))
      (pss_one (ps_ret (pe_tup (pa_cons (pv 4) (pa_cons (pe_op op_add (pv 3) (pv 5)) pa_nil))))))), ?_⟩
    refine ⟨_, rfl, a, _, rfl, SqT.of ha, rfl, _, _, rfl, _, _, rfl, rfl, ?_⟩
    rcases m with ⟨_ | c, n⟩
    · exact ⟨_, rfl, rfl, _, rfl, iteT ⟨_, rfl, q H a (Same.refl _) ha⟩⟩
    · refine ⟨_, rfl, rfl, _, rfl, iteF ?_⟩
      have hm := wf.at (wp c rfl)
      obtain ⟨ps, h1, h2, h3⟩ := M.pair
      obtain ⟨b, hb, hpb⟩ := h3 c _ hm
      refine ⟨_, rfl, _, rfl, s2, _, _, _, rfl, rfl, SqT.of h1, atI_nat hb, ?_⟩
      refine ⟨b, _, rfl, SqT.of hpb, rfl, _, _, rfl, _, _, rfl, rfl, ?_⟩
      exact ⟨_, rfl, _, rfl, _, rfl, _, _, rfl, rfl, by show 2 ≤ sizeLine; decide, fun r nr => q _ r (same_upd nr) upd_same⟩
/-! ### compose_maps -/
def spComp : Sp := fun vs H Q _ => ∃ (f1 s2 : Addr) (fs ms : List PM) (L : Nat), vs = [.ref f1, .ref s2] ∧ MapAt H f1 fs ∧ MapAt H s2 ms ∧ Wf L fs ∧ Wf L ms ∧ L ≤ 100 ∧ ∀ H' r, Same H H' → H r = none → MapAt H' r (compM fs ms) → Q (.ref r) H'
theorem scComp : FnScope ["first", "second", "pair"] ["first", "second"] (defScope sCompose) := ⟨rfl, rfl, rfl, by decide +kernel, rfl, by decide +kernel, by decide +kernel⟩
theorem ok_comp {f fC : Addr} {fd fdC : FuncData} {k : Nat} (F : Fun K "compose_maps" "compose_maps" sCompose f fd) (T : Bi mg) (Cn : Def K mg "continued" sCont fC fdC ["pair", "second"]) (GC : FnOk P w K mg base CX0 k fC fdC ["pair", "second"] spCont) :
    FnOk P w K mg base CX0 (k + 1) f fd ["first", "second"] spComp := by
  refine F.ok scComp (fun vs H Q E h => ?_) (fun cdv A' outer s H vs Q E hr h => ?_)
  · obtain ⟨f1, s2, fs, ms, L, rfl, _⟩ := h
    rfl
  · obtain ⟨f1, s2, fs, ms, L, rfl, M1, M2, w1, w2, hL, q⟩ := h
    refine ⟨_, pss_one (ps_ret (pe_callTy call_tuple_of (by rfl) T.tuple (by decide +kernel) (pa_cons (pe_lc (own := [("pair", 2)]) (g := gName 2) (tt := tYes) (by rfl) scComp.nd (pi_tup (pv 0))
          (blkOk_by (own := [("pair", 2)]) (N := ["first", "second", "pair"]) (sc := defScope sCompose) (by decide +kernel))
          (fun _ _ _ _ _ => pg_name (i := 2) scComp.nd rfl (Or.inl rfl)) (fun _ _ _ _ _ => pts_nil)
          (fun _ _ _ _ _ => pe_call GC hr (by rfl) Cn.gl Cn.fn.kp Cn.bi .nil pass0 (pa_cons (pv 2) (pa_cons (pv 1) pa_nil)))) pa_nil))), ?_⟩
    obtain ⟨ps, h1, h2⟩ := M1
    have pl : ps.length = L := by rw [h2.1, w1.1]
    refine ⟨_, rfl, f1, rfl, ⟨_, SqT.of h1⟩, fun D nD => lc_tup (K := K) (a := f1) (xs := ps.map V.ref) (fun i H2 => ∃ qs, Mk H H2 D (qs.map V.ref) ∧ Pairs H2 qs ((compM fs ms).take i)) ⟨[], .start nD, Pairs.nil⟩ (fun i H2 _ ⟨_, mk, _⟩ => mk.same.tup (SqT.of h1)) ?_ ?_⟩
    · rintro i x H2 hx ⟨qs, mk, pr⟩
      rw [List.getElem?_map] at hx
      obtain ⟨a, ha, rfl⟩ := Option.map_eq_some_iff.mp hx
      have hi := (List.getElem?_eq_some_iff.mp ha).1
      have hm : fs[i]? = some (fs[i]'(by rw [w1.1]; omega)) := List.getElem?_eq_getElem _
      have ql : qs.length ≤ 100 := by rw [pr.1, List.length_take]; omega
      refine ⟨rfl, _, rfl, _, rfl, a, s2, _, ms, L, rfl, mk.same _ _ (h2.2 i a _ ha hm), M2.same mk.same, w2, w1.2 _ (List.mem_of_getElem? hm), fun H3 r s3 hr3 => ?_⟩
      refine ⟨_, s3 _ _ mk.at_, by rw [List.length_map, sizeLine_eq]; omega, qs ++ [r], ?_, ?_⟩
      · rw [List.map_append]; exact mk.put s3
      · have hm2 : (compM fs ms)[i]? = some (contP ms (fs[i]'(by rw [w1.1]; omega))) := by unfold compM; rw [List.getElem?_map, hm]; rfl
        rw [take_more hm2]
        exact ((pr.same s3).more hr3).but (D := D) (fun b o e n => by rw [upd_ne n]; exact e) (s3 _ _ mk.at_)
    rintro H2 ⟨qs, mk, pr⟩
    rw [List.length_map, List.take_of_length_le (by unfold compM; rw [List.length_map, w1.1]; omega)] at pr
    refine ⟨D, _, rfl, .inl ⟨SqL.of mk.at_, fun r nr => ?_⟩⟩
    have s3 := same_upd (o := HO.tup (qs.map V.ref)) nr
    exact q _ r (mk.same.trans s3) (mk.same.free nr) ⟨qs, upd_same, pr.same s3⟩
end
end Ov
namespace Ov
open PySem PySem.Spec PyProof.Rows L2
/-! ### spans as they stand -/
abbrev sInitS : Stmt := inClass cSpan 0
def sfld (rw lf rt sm : V) (sz ht : Nat) : List (Str × V) := putF "summary" sm (putF "height" (.int (ht : Int)) (putF "size" (.int (sz : Int)) (putF "right" rt (putF "left" lf (putF "row" rw [])))))
theorem s_row (rw lf rt sm : V) (sz ht : Nat) : (sfld rw lf rt sm sz ht).lookup ("row" : Str) = some rw := by
  unfold sfld
  rw [lookup_putF, if_neg (by decide +kernel), lookup_putF, if_neg (by decide +kernel), lookup_putF, if_neg (by decide +kernel), lookup_putF, if_neg (by decide +kernel), lookup_putF, if_neg (by decide +kernel), lookup_putF, if_pos rfl]
theorem s_left (rw lf rt sm : V) (sz ht : Nat) : (sfld rw lf rt sm sz ht).lookup ("left" : Str) = some lf := by
  unfold sfld
  rw [lookup_putF, if_neg (by decide +kernel), lookup_putF, if_neg (by decide +kernel), lookup_putF, if_neg (by decide +kernel), lookup_putF, if_neg (by decide +kernel), lookup_putF, if_pos rfl]
theorem s_right (rw lf rt sm : V) (sz ht : Nat) : (sfld rw lf rt sm sz ht).lookup ("right" : Str) = some rt := by
  unfold sfld
  rw [lookup_putF, if_neg (by decide +kernel), lookup_putF, if_neg (by decide +kernel), lookup_putF, if_neg (by decide +kernel), lookup_putF, if_pos rfl]
theorem s_size (rw lf rt sm : V) (sz ht : Nat) : (sfld rw lf rt sm sz ht).lookup ("size" : Str) = some (.int (sz : Int)) := by
  unfold sfld
  rw [lookup_putF, if_neg (by decide +kernel), lookup_putF, if_neg (by decide +kernel), lookup_putF, if_pos rfl]
theorem s_height (rw lf rt sm : V) (sz ht : Nat) : (sfld rw lf rt sm sz ht).lookup ("height" : Str) = some (.int (ht : Int)) := by
  unfold sfld
  rw [lookup_putF, if_neg (by decide +kernel), lookup_putF, if_pos rfl]
theorem s_sum (rw lf rt sm : V) (sz ht : Nat) : (sfld rw lf rt sm sz ht).lookup ("summary" : Str) = some sm := by
  unfold sfld
  rw [lookup_putF, if_pos rfl]
/-- what the top says of the class -/
structure SpanTxt (K : PySem.W.Frag) (mg : Str → Option Value) (C : Addr) : Prop where
  cl : Cls K C
  nW : NoAttr K C "row"
  nL : NoAttr K C "left"
  nR : NoAttr K C "right"
  nS : NoAttr K C "size"
  nH : NoAttr K C "height"
  nM : NoAttr K C "summary"
  mgC : mg "Span" = some (.ref C)
/-- maps of bytes that can be put together -/
structure MpOk (mp : List Int → List PM) : Prop where
  ex : ∃ L, L ≤ 100 ∧ (∀ bs, Wf L (mp bs)) ∧ ∀ as bs, compM (mp as) (mp bs) = mp (as ++ bs)
/-- a span at p: of its bytes' map m -/
def SpanAt (K : PySem.W.Frag) (C : Addr) (mp : List Int → List PM) (H : Hp) : Addr → Spn → Prop
  | p, .row bs => ∃ (dx c m : Addr), H p = some (.ins C dx (sfld (.ref c) .non .non (.ref m) bs.length 0)) ∧ SqT K H c (bs.map V.int) ∧ MapAt H m (mp bs)
  | p, .pair l r => ∃ (dx a b m : Addr), H p = some (.ins C dx (sfld .non (.ref a) (.ref b) (.ref m) (l.size + r.size) (max l.height r.height + 1))) ∧ SpanAt K C mp H a l ∧ SpanAt K C mp H b r ∧ MapAt H m (mp (l.bytes ++ r.bytes))
theorem SpanAt.same {K : PySem.W.Frag} {C : Addr} {mp : List Int → List PM} {H G : Hp} (s : Same H G) : ∀ {t : Spn} {p : Addr}, SpanAt K C mp H p t → SpanAt K C mp G p t
  | .row bs, p, ⟨dx, c, m, h1, h2, h3⟩ => ⟨dx, c, m, s _ _ h1, s.tup h2, h3.same s⟩
  | .pair l r, p, ⟨dx, a, b, m, h1, h2, h3, h4⟩ => ⟨dx, a, b, m, s _ _ h1, SpanAt.same s h2, SpanAt.same s h3, h4.same s⟩
/-- what each span shows -/
theorem SpanAt.show {K : PySem.W.Frag} {C : Addr} {mp : List Int → List PM} {H : Hp} : ∀ {t : Spn} {p : Addr}, SpanAt K C mp H p t → ∃ (dx m : Addr) (rw lf rt : V), H p = some (.ins C dx (sfld rw lf rt (.ref m) t.size t.height)) ∧ MapAt H m (mp t.bytes)
  | .row bs, p, ⟨dx, c, m, h1, h2, h3⟩ => ⟨dx, m, _, _, _, h1, h3⟩
  | .pair l r, p, ⟨dx, a, b, m, h1, h2, h3, h4⟩ => ⟨dx, m, _, _, _, h1, h4⟩
section
variable {P : Program} {w : World} {K : PySem.W.Frag} {mg : Str → Option Value} {base : Heap}
def spInitS (C : Addr) : Sp := fun vs H Q _ => ∃ (p dx : Addr) (rw lf rt sm : V) (sz ht : Nat), vs = [.ref p, rw, lf, rt, .int (sz : Int), .int (ht : Int), sm] ∧ H p = some (.ins C dx []) ∧
  ∀ H', H' p = some (.ins C dx (sfld rw lf rt sm sz ht)) → (∀ b o, H b = some o → b ≠ p → H' b = some o) → Q .non H'
theorem scInitS : FnScope ["self", "row", "left", "right", "size", "height", "summary"] ["self", "row", "left", "right", "size", "height", "summary"] (defScope sInitS) := ⟨rfl, rfl, rfl, by decide +kernel, rfl, by decide +kernel, by decide +kernel⟩
theorem ok_initS {f C : Addr} {fd : FuncData} {k : Nat} (F : Fun K "__init__" "Span.__init__" sInitS f fd) (S : SpanTxt K mg C) : FnOk P w K mg base CX0 (k + 1) f fd ["self", "row", "left", "right", "size", "height", "summary"] (spInitS C) := by
  refine F.ok scInitS (fun vs H Q E h => ?_) (fun cdv A' outer s H vs Q E hr h => ?_)
  · obtain ⟨p, dx, rw, lf, rt, sm, sz, ht, rfl, _⟩ := h
    rfl
  · obtain ⟨p, dx, rw, lf, rt, sm, sz, ht, rfl, hp, q⟩ := h
    refine ⟨_, pss_cons (ps_fld (pv 0) (pv 1) rfl) (pss_cons (ps_fld (pv 0) (pv 2) rfl) (pss_cons (ps_fld (pv 0) (pv 3) rfl) (pss_cons (ps_fld (pv 0) (pv 4) rfl) (pss_cons (ps_fld (pv 0) (pv 5) rfl) (pss_one (ps_fld (pv 0) (pv 6) rfl)))))), ?_⟩
    refine ⟨_, rfl, _, rfl, p, C, dx, [], rfl, hp, S.cl, S.nW, (by show 0 < 1000; decide), ?_⟩
    refine ⟨_, rfl, _, rfl, p, C, dx, _, rfl, upd_same, S.cl, S.nL, (by show 1 < 1000; decide), ?_⟩
    refine ⟨_, rfl, _, rfl, p, C, dx, _, rfl, upd_same, S.cl, S.nR, (by show 2 < 1000; decide), ?_⟩
    refine ⟨_, rfl, _, rfl, p, C, dx, _, rfl, upd_same, S.cl, S.nS, (by show 3 < 1000; decide), ?_⟩
    refine ⟨_, rfl, _, rfl, p, C, dx, _, rfl, upd_same, S.cl, S.nH, (by show 4 < 1000; decide), ?_⟩
    refine ⟨_, rfl, _, rfl, p, C, dx, _, rfl, upd_same, S.cl, S.nM, (by show 5 < 1000; decide), ?_⟩
    exact q _ upd_same fun b o e n => by rw [upd_ne n, upd_ne n, upd_ne n, upd_ne n, upd_ne n, upd_ne n]; exact e
/-! ### pair_of -/
def spPairOf (K : PySem.W.Frag) (C : Addr) : Sp := fun vs H Q _ => ∃ (a b : Addr) (l r : Spn) (mp : List Int → List PM), vs = [.ref a, .ref b] ∧ MpOk mp ∧ SpanAt K C mp H a l ∧ SpanAt K C mp H b r ∧
  ∀ H' q, Same H H' → SpanAt K C mp H' q (.pair l r) → Q (.ref q) H'
theorem scPairOf : FnScope ["left", "right", "height"] ["left", "right"] (defScope s_pair_of) := ⟨rfl, rfl, rfl, by decide +kernel, rfl, by decide +kernel, by decide +kernel⟩
theorem ok_pairOf {f fI fM C : Addr} {fd fdI fdM : FuncData} {k : Nat} (F : Fun K "pair_of" "pair_of" s_pair_of f fd) (T : Bi mg) (S : SpanTxt K mg C)
    (M : L2.Mk K C fI) (bI : Binds K fdI ["self", "row", "left", "right", "size", "height", "summary"] []) (GI : FnOk P w K mg base CX0 k fI fdI ["self", "row", "left", "right", "size", "height", "summary"] (spInitS C))
    (Cm : Def K mg "compose_maps" sCompose fM fdM ["first", "second"]) (GC : FnOk P w K mg base CX0 (k + 1) fM fdM ["first", "second"] spComp) :
    FnOk P w K mg base CX0 (k + 2) f fd ["left", "right"] (spPairOf K C) := by
  refine F.ok scPairOf (fun vs H Q E h => ?_) (fun cdv A' outer s H vs Q E hr h => ?_)
  · obtain ⟨a, b, l, r, mp, rfl, _⟩ := h
    rfl
  · obtain ⟨a, b, l, r, mp, rfl, mk, hl, hr2, q⟩ := h
    refine ⟨_, pss_cons (ps_set (i := 2) scPairOf.nd rfl (.inl rfl) (pe_op op_add (pe_callB (call_max2 rfl) (by rfl) T.max (by decide +kernel) (pa_cons (pe_fld (pv 0) rfl) (pa_cons (pe_fld (pv 1) rfl) pa_nil))) pe_int))
      (pss_one (ps_ret (pe_make M GI hr (by rfl) S.mgC bI .nil pass0 (pa_cons pe_non (pa_cons (pv 0) (pa_cons (pv 1) (pa_cons (pe_op op_add (pe_fld (pv 0) rfl) (pe_fld (pv 1) rfl)) (pa_cons (pv 2)
        (pa_cons (pe_call GC hr (by rfl) Cm.gl Cm.fn.kp Cm.bi .nil pass0 (pa_cons (pe_fld (pv 0) rfl) (pa_cons (pe_fld (pv 1) rfl) pa_nil))) pa_nil))))))))), ?_⟩
    obtain ⟨L, hL, wf, ap⟩ := mk.ex
    obtain ⟨dl, ml, wl, ll, rl, hpl, mpl⟩ := hl.show
    obtain ⟨dr, mr, wr, lr, rr, hpr, mpr⟩ := hr2.show
    refine ⟨_, rfl, a, C, dl, _, _, rfl, hpl, S.cl, S.nH, s_height _ _ _ _ _ _, _, rfl, b, C, dr, _, _, rfl, hpr, S.cl, S.nH, s_height _ _ _ _ _ _, _, _, rfl, _, _, rfl, rfl, ?_⟩
    refine ⟨_, rfl, _, rfl, _, rfl, a, C, dl, _, _, rfl, hpl, S.cl, S.nS, s_size _ _ _ _ _ _, _, rfl, b, C, dr, _, _, rfl, hpr, S.cl, S.nS, s_size _ _ _ _ _ _, _, _, rfl, rfl, _, rfl, _, rfl, a, C, dl, _, _, rfl, hpl, S.cl, S.nM, s_sum _ _ _ _ _ _, _, rfl, b, C, dr, _, _, rfl, hpr, S.cl, S.nM, s_sum _ _ _ _ _ _, ?_⟩
    refine ⟨ml, mr, _, _, L, rfl, mpl, mpr, wf _, wf _, hL, fun H1 m s1 nm hm => fun x dx nx ndx hne => ?_⟩
    have s2 : Same H1 (upd (upd H1 dx (.own x)) x (.ins C dx [])) := fun b o e => by
      rw [upd_ne (ne_of_none e nx), upd_ne (ne_of_none e ndx)]
      exact e
    have eh : (if (r.height : Int) > (l.height : Int) then (r.height : Int) else (l.height : Int)) + 1 = ((max l.height r.height + 1 : Nat) : Int) := by
      split <;> omega
    have es : (l.size : Int) + (r.size : Int) = ((l.size + r.size : Nat) : Int) := by omega
    refine ⟨x, dx, .non, .ref a, .ref b, .ref m, l.size + r.size, max l.height r.height + 1, ?_, upd_same, fun H5 hx kp => ⟨rfl, ?_⟩⟩
    · rw [← eh, ← es]
      rfl
    have s5 : Same H1 H5 := fun b o e => kp b o (s2 b o e) (ne_of_none e nx)
    rw [ap] at hm
    exact q H5 x (s1.trans s5) ⟨dx, a, b, m, hx, hl.same (s1.trans s5), hr2.same (s1.trans s5), hm.same s5⟩
end
end Ov
namespace Ov
open PySem PySem.Spec PyProof.Rows L2
theorem SpanAt.high {K : PySem.W.Frag} {C : Addr} {mp : List Int → List PM} {H : Hp} {p : Addr} {l r : Spn} (h : SpanAt K C mp H p (.pair l r)) : ∃ (dx a b m : Addr), H p = some (.ins C dx (sfld .non (.ref a) (.ref b) (.ref m) (Spn.pair l r).size (Spn.pair l r).height)) ∧ SpanAt K C mp H a l ∧ SpanAt K C mp H b r := by
  obtain ⟨dx, a, b, m, h1, h2, h3, h4⟩ := h
  exact ⟨dx, a, b, m, h1, h2, h3⟩
section
variable {P : Program} {w : World} {K : PySem.W.Frag} {mg : Str → Option Value} {base : Heap}
/-! ### balanced -/
def spBal (K : PySem.W.Frag) (C : Addr) : Sp := fun vs H Q _ => ∃ (a b : Addr) (l r : Spn) (mp : List Int → List PM), vs = [.ref a, .ref b] ∧ MpOk mp ∧ SpanAt K C mp H a l ∧ SpanAt K C mp H b r ∧ l.okN ∧ r.okN ∧
  ∀ H' q, Same H H' → SpanAt K C mp H' q (Spn.balT l r) → Q (.ref q) H'
theorem scBal : FnScope ["left", "right"] ["left", "right"] (defScope s_balanced) := ⟨rfl, rfl, rfl, by decide +kernel, rfl, by decide +kernel, by decide +kernel⟩
theorem ok_bal {f fP C : Addr} {fd fdP : FuncData} {k : Nat} (F : Fun K "balanced" "balanced" s_balanced f fd) (S : SpanTxt K mg C)
    (Pa : Def K mg "pair_of" s_pair_of fP fdP ["left", "right"]) (GP : FnOk P w K mg base CX0 k fP fdP ["left", "right"] (spPairOf K C)) :
    FnOk P w K mg base CX0 (k + 1) f fd ["left", "right"] (spBal K C) := by
  refine F.ok scBal (fun vs H Q E h => ?_) (fun cdv A' outer s H vs Q E hr h => ?_)
  · obtain ⟨a, b, l, r, mp, rfl, _⟩ := h
    rfl
  · obtain ⟨a, b, l, r, mp, rfl, mk, hl, hr2, nl, nr, q⟩ := h
    refine ⟨_, pss_cons (ps_if (pt_cmpR op_gt (pe_fld (pv 0) rfl) (pe_op op_add (pe_fld (pv 1) rfl) pe_int) (nomark _))
        (pss_cons (ps_if (pt_cmpR op_ge (pe_fld (pe_fld (pv 0) rfl) rfl) (pe_fld (pe_fld (pv 0) rfl) rfl) (nomark _))
          (pss_one (ps_ret (pe_call GP hr (by rfl) Pa.gl Pa.fn.kp Pa.bi .nil pass0 (pa_cons (pe_fld (pv 0) rfl) (pa_cons (pe_call GP hr (by rfl) Pa.gl Pa.fn.kp Pa.bi .nil pass0 (pa_cons (pe_fld (pv 0) rfl) (pa_cons (pv 1) pa_nil))) pa_nil))))) pss_nil)
        (pss_one (ps_ret (pe_call GP hr (by rfl) Pa.gl Pa.fn.kp Pa.bi .nil pass0 (pa_cons (pe_call GP hr (by rfl) Pa.gl Pa.fn.kp Pa.bi .nil pass0 (pa_cons (pe_fld (pv 0) rfl) (pa_cons (pe_fld (pe_fld (pv 0) rfl) rfl) pa_nil)))
          (pa_cons (pe_call GP hr (by rfl) Pa.gl Pa.fn.kp Pa.bi .nil pass0 (pa_cons (pe_fld (pe_fld (pv 0) rfl) rfl) (pa_cons (pv 1) pa_nil))) pa_nil)))))) pss_nil)
      (pss_cons (ps_if (pt_cmpR op_gt (pe_fld (pv 1) rfl) (pe_op op_add (pe_fld (pv 0) rfl) pe_int) (nomark _))
        (pss_cons (ps_if (pt_cmpR op_ge (pe_fld (pe_fld (pv 1) rfl) rfl) (pe_fld (pe_fld (pv 1) rfl) rfl) (nomark _))
          (pss_one (ps_ret (pe_call GP hr (by rfl) Pa.gl Pa.fn.kp Pa.bi .nil pass0 (pa_cons (pe_call GP hr (by rfl) Pa.gl Pa.fn.kp Pa.bi .nil pass0 (pa_cons (pv 0) (pa_cons (pe_fld (pv 1) rfl) pa_nil))) (pa_cons (pe_fld (pv 1) rfl) pa_nil))))) pss_nil)
        (pss_one (ps_ret (pe_call GP hr (by rfl) Pa.gl Pa.fn.kp Pa.bi .nil pass0 (pa_cons (pe_call GP hr (by rfl) Pa.gl Pa.fn.kp Pa.bi .nil pass0 (pa_cons (pv 0) (pa_cons (pe_fld (pe_fld (pv 1) rfl) rfl) pa_nil)))
          (pa_cons (pe_call GP hr (by rfl) Pa.gl Pa.fn.kp Pa.bi .nil pass0 (pa_cons (pe_fld (pe_fld (pv 1) rfl) rfl) (pa_cons (pe_fld (pv 1) rfl) pa_nil))) pa_nil)))))) pss_nil)
      (pss_one (ps_ret (pe_call GP hr (by rfl) Pa.gl Pa.fn.kp Pa.bi .nil pass0 (pa_cons (pv 0) (pa_cons (pv 1) pa_nil))))))
      , ?_⟩
    obtain ⟨dl, ml, wl, ll, rl, hpl, mpl⟩ := hl.show
    obtain ⟨dr, mr, wr, lr, rr, hpr, mpr⟩ := hr2.show
    have ge : ∀ (x y : Nat), decide ((x : Int) ≥ (y : Int)) = decide (y ≤ x) := fun x y => decide_eq_decide.mpr (by omega)
    have gt : ∀ (x y : Nat), decide ((y : Int) + 1 < (x : Int)) = decide (y + 1 < x) := fun x y => decide_eq_decide.mpr (by omega)
    refine ⟨_, rfl, a, C, dl, _, _, rfl, hpl, S.cl, S.nH, s_height _ _ _ _ _ _, _, rfl, b, C, dr, _, _, rfl, hpr, S.cl, S.nH, s_height _ _ _ _ _ _, _, _, rfl, rfl, _, _, rfl, rfl, _, rfl, ?_⟩
    rw [gt]
    by_cases g : r.height + 1 < l.height
    · rw [decide_eq_true g]
      clear hpl mpl
      cases l with
      | row x => simp only [Spn.height] at g; omega
      | pair u v =>
        obtain ⟨dx, pa, pb, pm, h1, h2, h3⟩ := hl.high
        obtain ⟨da, ma, _, _, _, hpa, _⟩ := h2.show
        obtain ⟨db, mb, _, _, _, hpb, _⟩ := h3.show
        refine iteT ⟨_, rfl, a, C, dx, _, _, rfl, h1, S.cl, S.nL, s_left _ _ _ _ _ _, pa, C, da, _, _, rfl, hpa, S.cl, S.nH, s_height _ _ _ _ _ _, _, rfl, a, C, dx, _, _, rfl, h1, S.cl, S.nR, s_right _ _ _ _ _ _, pb, C, db, _, _, rfl, hpb, S.cl, S.nH, s_height _ _ _ _ _ _, _, _, rfl, rfl, _, rfl, ?_⟩
        rw [ge]
        by_cases g2 : v.height ≤ u.height
        · rw [decide_eq_true g2]
          have e : Spn.balT (.pair u v) r = .pair u (.pair v r) := by unfold Spn.balT; rw [if_pos g]; dsimp only; rw [if_pos g2]
          rw [e] at q
          refine iteT ⟨_, rfl, a, C, dx, _, _, rfl, h1, S.cl, S.nL, s_left _ _ _ _ _ _, _, rfl, a, C, dx, _, _, rfl, h1, S.cl, S.nR, s_right _ _ _ _ _ _, _, rfl, pb, b, v, r, mp, rfl, mk, h3, hr2, fun H1 q1 s1 A1 => ⟨pa, q1, u, _, mp, rfl, mk, h2.same s1, A1, fun H2 q2 s2 A2 => q H2 q2 (s1.trans s2) A2⟩⟩
        · rw [decide_eq_false g2]
          cases v with
          | row x => exact absurd (Nat.zero_le _) g2
          | pair y z =>
            have e : Spn.balT (.pair u (.pair y z)) r = .pair (.pair u y) (.pair z r) := by unfold Spn.balT; rw [if_pos g]; dsimp only; rw [if_neg g2]
            rw [e] at q
            obtain ⟨dy, py, pz, pn, k1, k2, k3⟩ := h3.high
            refine iteF ⟨_, rfl, a, C, dx, _, _, rfl, h1, S.cl, S.nL, s_left _ _ _ _ _ _, _, rfl, a, C, dx, _, _, rfl, h1, S.cl, S.nR, s_right _ _ _ _ _ _, pb, C, dy, _, _, rfl, k1, S.cl, S.nL, s_left _ _ _ _ _ _, pa, py, u, y, mp, rfl, mk, h2, k2, fun H1 q1 s1 A1 => ⟨_, rfl, a, C, dx, _, _, rfl, s1 _ _ h1, S.cl, S.nR, s_right _ _ _ _ _ _, pb, C, dy, _, _, rfl, s1 _ _ k1, S.cl, S.nR, s_right _ _ _ _ _ _, _, rfl, pz, b, z, r, mp, rfl, mk, k3.same s1, hr2.same s1, fun H2 q2 s2 A2 => ⟨q1, q2, _, _, mp, rfl, mk, A1.same s2, A2, fun H3 q3 s3 A3 => q H3 q3 (s1.trans (s2.trans s3)) A3⟩⟩⟩
    · rw [decide_eq_false g]
      refine iteF ⟨_, rfl, b, C, dr, _, _, rfl, hpr, S.cl, S.nH, s_height _ _ _ _ _ _, _, rfl, a, C, dl, _, _, rfl, hpl, S.cl, S.nH, s_height _ _ _ _ _ _, _, _, rfl, rfl, _, _, rfl, rfl, _, rfl, ?_⟩
      rw [gt]
      by_cases g1 : l.height + 1 < r.height
      · rw [decide_eq_true g1]
        clear hpr mpr
        cases r with
        | row x => simp only [Spn.height] at g1; omega
        | pair u v =>
          obtain ⟨dx, pa, pb, pm, h1, h2, h3⟩ := hr2.high
          obtain ⟨da, ma, _, _, _, hpa, _⟩ := h2.show
          obtain ⟨db, mb, _, _, _, hpb, _⟩ := h3.show
          refine iteT ⟨_, rfl, b, C, dx, _, _, rfl, h1, S.cl, S.nR, s_right _ _ _ _ _ _, pb, C, db, _, _, rfl, hpb, S.cl, S.nH, s_height _ _ _ _ _ _, _, rfl, b, C, dx, _, _, rfl, h1, S.cl, S.nL, s_left _ _ _ _ _ _, pa, C, da, _, _, rfl, hpa, S.cl, S.nH, s_height _ _ _ _ _ _, _, _, rfl, rfl, _, rfl, ?_⟩
          rw [ge]
          by_cases g2 : u.height ≤ v.height
          · rw [decide_eq_true g2]
            have e : Spn.balT l (.pair u v) = .pair (.pair l u) v := by unfold Spn.balT; rw [if_neg g, if_pos g1]; dsimp only; rw [if_pos g2]
            rw [e] at q
            refine iteT ⟨_, rfl, _, rfl, b, C, dx, _, _, rfl, h1, S.cl, S.nL, s_left _ _ _ _ _ _, a, pa, l, u, mp, rfl, mk, hl, h2, fun H1 q1 s1 A1 => ⟨_, rfl, b, C, dx, _, _, rfl, s1 _ _ h1, S.cl, S.nR, s_right _ _ _ _ _ _, q1, pb, _, v, mp, rfl, mk, A1, h3.same s1, fun H2 q2 s2 A2 => q H2 q2 (s1.trans s2) A2⟩⟩
          · rw [decide_eq_false g2]
            cases u with
            | row x => exact absurd (Nat.zero_le _) g2
            | pair y z =>
              have e : Spn.balT l (.pair (.pair y z) v) = .pair (.pair l y) (.pair z v) := by unfold Spn.balT; rw [if_neg g, if_pos g1]; dsimp only; rw [if_neg g2]
              rw [e] at q
              obtain ⟨dy, py, pz, pn, k1, k2, k3⟩ := h2.high
              refine iteF ⟨_, rfl, _, rfl, b, C, dx, _, _, rfl, h1, S.cl, S.nL, s_left _ _ _ _ _ _, pa, C, dy, _, _, rfl, k1, S.cl, S.nL, s_left _ _ _ _ _ _, a, py, l, y, mp, rfl, mk, hl, k2, fun H1 q1 s1 A1 => ⟨_, rfl, b, C, dx, _, _, rfl, s1 _ _ h1, S.cl, S.nL, s_left _ _ _ _ _ _, pa, C, dy, _, _, rfl, s1 _ _ k1, S.cl, S.nR, s_right _ _ _ _ _ _, _, rfl, b, C, dx, _, _, rfl, s1 _ _ h1, S.cl, S.nR, s_right _ _ _ _ _ _, pz, pb, z, v, mp, rfl, mk, k3.same s1, h3.same s1, fun H2 q2 s2 A2 => ⟨q1, q2, _, _, mp, rfl, mk, A1.same s2, A2, fun H3 q3 s3 A3 => q H3 q3 (s1.trans (s2.trans s3)) A3⟩⟩⟩
      · rw [decide_eq_false g1]
        have e : Spn.balT l r = .pair l r := by unfold Spn.balT; rw [if_neg g, if_neg g1]
        rw [e] at q
        exact iteF ⟨_, rfl, _, rfl, a, b, l, r, mp, rfl, mk, hl, hr2, q⟩
end
end Ov
namespace Ov
open PySem PySem.Spec PyProof.Rows L2
section
variable {P : Program} {w : World} {K : PySem.W.Frag} {mg : Str → Option Value} {base : Heap}
theorem upS {CX : CXT} {k k' : Nat} {f : Addr} {fd : FuncData} {ps : List Str} {sp : Sp} (F : FnOk P w K mg base CX k f fd ps sp) (h : k ≤ k') : FnOk P w K mg base CX k' f fd ps sp := ⟨F.len, fun A outer s H args us vs Q E room => F.run A outer s H args us vs Q E (room.mono h)⟩
theorem okNo {CX : CXT} {k : Nat} {f : Addr} {fd : FuncData} {ps : List Str} : FnOk P w K mg base CX k f fd ps (fun _ _ _ _ => False) := ⟨by intros; contradiction, by intros; contradiction⟩
/-! ### joined -/
def spJoin (K : PySem.W.Frag) (C : Addr) (m : Nat) : Sp := fun vs H Q _ => ∃ (a b : Addr) (l r : Spn) (mp : List Int → List PM), vs = [.ref a, .ref b] ∧ MpOk mp ∧ SpanAt K C mp H a l ∧ SpanAt K C mp H b r ∧ l.ok ∧ r.ok ∧ (l.okN → r.okN → l.height ≤ r.height + m ∧ r.height ≤ l.height + m) ∧
  ∀ H' q t, Same H H' → SpanAt K C mp H' q t → Spn.Joins l r t → Q (.ref q) H'
theorem scJoin : FnScope ["first", "second"] ["first", "second"] (defScope s_joined) := ⟨rfl, rfl, rfl, by decide +kernel, rfl, by decide +kernel, by decide +kernel⟩
theorem join_step {f fP fB C : Addr} {fd fdP fdB : FuncData} {k m : Nat} (D : Def K mg "joined" s_joined f fd ["first", "second"]) (S : SpanTxt K mg C)
    (Pa : Def K mg "pair_of" s_pair_of fP fdP ["left", "right"]) (GP : FnOk P w K mg base CX0 k fP fdP ["left", "right"] (spPairOf K C))
    (Ba : Def K mg "balanced" s_balanced fB fdB ["left", "right"]) (GB : FnOk P w K mg base CX0 k fB fdB ["left", "right"] (spBal K C))
    {spR : Sp} (GJ : FnOk P w K mg base CX0 k f fd ["first", "second"] spR) (hR : ∀ vs H Q E, (∃ m', m = m' + 1 ∧ spJoin K C m' vs H Q E) → spR vs H Q E) :
    FnOk P w K mg base CX0 (k + 1) f fd ["first", "second"] (spJoin K C m) := by
  refine D.fn.ok scJoin (fun vs H Q E h => ?_) (fun cdv A' outer s H vs Q E hr h => ?_)
  · obtain ⟨a, b, l, r, mp, rfl, _⟩ := h
    rfl
  · obtain ⟨a, b, l, r, mp, rfl, mk, hl, hr2, okl, okr, hd, q⟩ := h
    refine ⟨_, pss_cons (ps_if (pt_cmpR op_eq (pe_fld (pv 0) rfl) pe_int (nomark _)) (pss_one (ps_ret (pv 1))) pss_nil)
      (pss_cons (ps_if (pt_cmpR op_eq (pe_fld (pv 1) rfl) pe_int (nomark _)) (pss_one (ps_ret (pv 0))) pss_nil)
      (pss_cons (ps_if (pt_cmpR op_gt (pe_fld (pv 0) rfl) (pe_op op_add (pe_fld (pv 1) rfl) pe_int) (nomark _))
        (pss_one (ps_ret (pe_call GB hr (by rfl) Ba.gl Ba.fn.kp Ba.bi .nil pass0 (pa_cons (pe_fld (pv 0) rfl) (pa_cons (pe_call GJ hr (by rfl) D.gl D.fn.kp D.bi .nil pass0 (pa_cons (pe_fld (pv 0) rfl) (pa_cons (pv 1) pa_nil))) pa_nil))))) pss_nil)
      (pss_cons (ps_if (pt_cmpR op_gt (pe_fld (pv 1) rfl) (pe_op op_add (pe_fld (pv 0) rfl) pe_int) (nomark _))
        (pss_one (ps_ret (pe_call GB hr (by rfl) Ba.gl Ba.fn.kp Ba.bi .nil pass0 (pa_cons (pe_call GJ hr (by rfl) D.gl D.fn.kp D.bi .nil pass0 (pa_cons (pv 0) (pa_cons (pe_fld (pv 1) rfl) pa_nil))) (pa_cons (pe_fld (pv 1) rfl) pa_nil))))) pss_nil)
      (pss_one (ps_ret (pe_call GP hr (by rfl) Pa.gl Pa.fn.kp Pa.bi .nil pass0 (pa_cons (pv 0) (pa_cons (pv 1) pa_nil)))))))), ?_⟩
    obtain ⟨dl, ml, _, _, _, hpl, mpl⟩ := hl.show
    obtain ⟨dr, mr, _, _, _, hpr, mpr⟩ := hr2.show
    have zero : ∀ n : Nat, decide (V.int (n : Int) = V.int 0) = decide (n = 0) := fun n => decide_eq_decide.mpr ⟨fun e => by have := V.int.inj e; omega, fun e => by rw [e]; rfl⟩
    have gt : ∀ (x y : Nat), decide ((y : Int) + 1 < (x : Int)) = decide (y + 1 < x) := fun x y => decide_eq_decide.mpr (by omega)
    refine ⟨_, rfl, a, C, dl, _, _, rfl, hpl, S.cl, S.nS, s_size _ _ _ _ _ _, rfl, _, rfl, ?_⟩
    rw [zero]
    by_cases z0 : l.size = 0
    · rw [decide_eq_true z0]
      exact iteT ⟨_, rfl, q H b r (Same.refl _) hr2 (.left z0 okr)⟩
    rw [decide_eq_false z0]
    refine iteF ⟨_, rfl, b, C, dr, _, _, rfl, hpr, S.cl, S.nS, s_size _ _ _ _ _ _, rfl, _, rfl, ?_⟩
    rw [zero]
    by_cases z1 : r.size = 0
    · rw [decide_eq_true z1]
      exact iteT ⟨_, rfl, q H a l (Same.refl _) hl (.right z1 okl)⟩
    rw [decide_eq_false z1]
    have nl := okl.pos z0
    have nr := okr.pos z1
    obtain ⟨d1, d2⟩ := hd nl nr
    refine iteF ⟨_, rfl, a, C, dl, _, _, rfl, hpl, S.cl, S.nH, s_height _ _ _ _ _ _, _, rfl, b, C, dr, _, _, rfl, hpr, S.cl, S.nH, s_height _ _ _ _ _ _, _, _, rfl, rfl, _, _, rfl, rfl, _, rfl, ?_⟩
    rw [gt]
    by_cases g : r.height + 1 < l.height
    · rw [decide_eq_true g]
      cases l with
      | row x => simp only [Spn.height] at g; omega
      | pair u v =>
        obtain ⟨dx, pa, pb, pm, h1, h2, h3⟩ := hl.high
        obtain ⟨m', em⟩ : ∃ m', m = m' + 1 := ⟨m - 1, by omega⟩
        refine iteT ⟨_, rfl, a, C, dx, _, _, rfl, h1, S.cl, S.nL, s_left _ _ _ _ _ _, _, rfl, a, C, dx, _, _, rfl, h1, S.cl, S.nR, s_right _ _ _ _ _ _, _, rfl, hR _ _ _ _ ⟨m', em, pb, b, v, r, mp, rfl, mk, h3, hr2, .inr nl.2.1, okr, fun _ _ => ?_, fun H1 q1 t s1 A1 J => ?_⟩⟩
        · obtain ⟨_, _, e1, e2⟩ := nl
          simp only [Spn.height] at g d1 d2
          omega
        · obtain ⟨J2, k1, k2, k3, k4⟩ := Spn.Joins.down nl nr g J
          exact ⟨pa, q1, u, t, mp, rfl, mk, h2.same s1, A1, k1, k2, fun H2 q2 s2 A2 => q H2 q2 _ (s1.trans s2) A2 J2⟩
    · rw [decide_eq_false g]
      refine iteF ⟨_, rfl, b, C, dr, _, _, rfl, hpr, S.cl, S.nH, s_height _ _ _ _ _ _, _, rfl, a, C, dl, _, _, rfl, hpl, S.cl, S.nH, s_height _ _ _ _ _ _, _, _, rfl, rfl, _, _, rfl, rfl, _, rfl, ?_⟩
      rw [gt]
      by_cases g1 : l.height + 1 < r.height
      · rw [decide_eq_true g1]
        cases r with
        | row x => simp only [Spn.height] at g1; omega
        | pair u v =>
          obtain ⟨dx, pa, pb, pm, h1, h2, h3⟩ := hr2.high
          obtain ⟨m', em⟩ : ∃ m', m = m' + 1 := ⟨m - 1, by omega⟩
          refine iteT ⟨_, rfl, _, rfl, b, C, dx, _, _, rfl, h1, S.cl, S.nL, s_left _ _ _ _ _ _, hR _ _ _ _ ⟨m', em, a, pa, l, u, mp, rfl, mk, hl, h2, okl, .inr nr.1, fun _ _ => ?_, fun H1 q1 t s1 A1 J => ?_⟩⟩
          · obtain ⟨_, _, e1, e2⟩ := nr
            simp only [Spn.height] at g1 d1 d2
            omega
          · obtain ⟨J2, k1, k2, k3, k4⟩ := Spn.Joins.up nl nr g1 J
            exact ⟨_, rfl, b, C, dx, _, _, rfl, s1 _ _ h1, S.cl, S.nR, s_right _ _ _ _ _ _, q1, pb, t, v, mp, rfl, mk, A1, h3.same s1, k1, k2, fun H2 q2 s2 A2 => q H2 q2 _ (s1.trans s2) A2 J2⟩
      · rw [decide_eq_false g1]
        exact iteF ⟨_, rfl, _, rfl, a, b, l, r, mp, rfl, mk, hl, hr2, fun H2 q2 s2 A2 => q H2 q2 _ s2 A2 (.pair nl nr (by omega) (by omega))⟩
theorem ok_join {f fP fB C : Addr} {fd fdP fdB : FuncData} {k : Nat} (D : Def K mg "joined" s_joined f fd ["first", "second"]) (S : SpanTxt K mg C)
    (Pa : Def K mg "pair_of" s_pair_of fP fdP ["left", "right"]) (GP : FnOk P w K mg base CX0 k fP fdP ["left", "right"] (spPairOf K C))
    (Ba : Def K mg "balanced" s_balanced fB fdB ["left", "right"]) (GB : FnOk P w K mg base CX0 k fB fdB ["left", "right"] (spBal K C)) :
    ∀ m, FnOk P w K mg base CX0 (k + m + 1) f fd ["first", "second"] (spJoin K C m)
  | 0 => join_step D S Pa GP Ba GB okNo fun vs H Q E ⟨m', e, _⟩ => absurd e (by omega)
  | m + 1 => join_step D S Pa (upS GP (by omega)) Ba (upS GB (by omega)) (ok_join D S Pa GP Ba GB m) fun vs H Q E ⟨m', e, h⟩ => by
    cases e
    exact h
end
end Ov
namespace Ov
open PySem PySem.Spec PyProof.Rows L2
abbrev mpOf (is : List I4) : List Int → List PM := mapOf (laOf is) (lonOf is)
theorem mpOf_ok {cnt lg : Nat} {is : List I4} (ok : TabOk cnt lg is) : MpOk (mpOf is) :=
  ⟨lonOf is, by have := (lon_le ok).2; omega, fun bs => map_wf lon_ge bs, fun as bs => map_app lon_ge as bs⟩
theorem low80 {t : Spn} (h : t.okN) (s : t.size ≤ 10 ^ 16) : t.height ≤ 80 := h.low s
section
variable {P : Program} {w : World} {K : PySem.W.Frag} {mg : Str → Option Value} {base : Heap}
/-! ### span_of -/
def spSpanOf (K : PySem.W.Frag) (C0 C : Addr) (n : Nat) : Sp := fun vs H Q _ => ∃ (p it c : Addr) (cnt lg : Nat) (is : List I4) (rs : List Addr) (bs : List Int), vs = [.ref p, .ref c] ∧ Mach C0 H p cnt lg it is rs ∧ SqT K H c (bs.map V.int) ∧ bs.length ≤ 32 * 2 ^ n ∧ bs.length ≤ 100000 ∧
  ∀ H' q t, Same H H' → SpanAt K C (mpOf is) H' q t → t.ok → t.bytes = bs → Q (.ref q) H'
theorem scSpanOf : FnScope ["instruction_set", "code", "middle"] ["instruction_set", "code"] (defScope s_span_of) := ⟨rfl, rfl, rfl, by decide +kernel, rfl, by decide +kernel, by decide +kernel⟩
theorem spanOf_step {f fI fM fJ C0 C : Addr} {fd fdI fdM fdJ : FuncData} {k n : Nat} (D : Def K mg "span_of" s_span_of f fd ["instruction_set", "code"]) (T : Bi mg) (S : SpanTxt K mg C) (m32 : ∃ t, mg "MOST_BYTES_OF_ROW" = some (.int 32 t))
    (M : L2.Mk K C fI) (bI : Binds K fdI ["self", "row", "left", "right", "size", "height", "summary"] []) (GI : FnOk P w K mg base CX0 k fI fdI ["self", "row", "left", "right", "size", "height", "summary"] (spInitS C))
    (Cm : Def K mg "code_map" sCodeMap fM fdM ["instruction_set", "code"]) (GC : FnOk P w K mg base CX0 (k + 1) fM fdM ["instruction_set", "code"] (spCodeMap K C0))
    (Jo : Def K mg "joined" s_joined fJ fdJ ["first", "second"]) (GJ : FnOk P w K mg base CX0 (k + 1) fJ fdJ ["first", "second"] (spJoin K C 80))
    {spR : Sp} (GR : FnOk P w K mg base CX0 (k + 1) f fd ["instruction_set", "code"] spR) (hR : ∀ vs H Q E, (∃ n', n = n' + 1 ∧ spSpanOf K C0 C n' vs H Q E) → spR vs H Q E) :
    FnOk P w K mg base CX0 (k + 2) f fd ["instruction_set", "code"] (spSpanOf K C0 C n) := by
  obtain ⟨t32, m32⟩ := m32
  refine D.fn.ok scSpanOf (fun vs H Q E h => ?_) (fun cdv A' outer s H vs Q E hr h => ?_)
  · obtain ⟨p, it, c, cnt, lg, is, rs, bs, rfl, _⟩ := h
    rfl
  · obtain ⟨p, it, c, cnt, lg, is, rs, bs, rfl, MA, hc, hn, hb, q⟩ := h
    refine ⟨_, pss_cons (ps_if (pt_cmpR op_le (pe_callB call_len_seq (by rfl) T.len PySem.boot_len (pa_cons (pv 1) pa_nil)) (pe_glob (v := .int 32) (by rfl) m32 ⟨_, rfl⟩) (nomark _))
        (pss_one (ps_ret (pe_make M GI hr (by rfl) S.mgC bI .nil pass0 (pa_cons (pv 1) (pa_cons pe_non (pa_cons pe_non (pa_cons (pe_callB call_len_seq (by rfl) T.len PySem.boot_len (pa_cons (pv 1) pa_nil)) (pa_cons pe_int
          (pa_cons (pe_call GC hr (by rfl) Cm.gl Cm.fn.kp Cm.bi .nil pass0 (pa_cons (pv 0) (pa_cons (pv 1) pa_nil))) pa_nil))))))))) pss_nil)
      (pss_cons (ps_set (i := 2) scSpanOf.nd rfl (.inl rfl) (pe_op op_fdiv (pe_callB call_len_seq (by rfl) T.len PySem.boot_len (pa_cons (pv 1) pa_nil)) pe_int))
      (pss_one (ps_ret (pe_call GJ hr (by rfl) Jo.gl Jo.fn.kp Jo.bi .nil pass0 (pa_cons (pe_call GR hr (by rfl) D.gl D.fn.kp D.bi .nil pass0 (pa_cons (pv 0) (pa_cons (pe_slice sl_tupA (pv 1) po_none (po_some (pv 2))) pa_nil)))
        (pa_cons (pe_call GR hr (by rfl) D.gl D.fn.kp D.bi .nil pass0 (pa_cons (pv 0) (pa_cons (pe_slice sl_tupA (pv 1) (po_some (pv 2)) po_none) pa_nil))) pa_nil)))))), ?_⟩
    refine ⟨_, rfl, c, _, rfl, .inr hc, _, _, rfl, rfl, _, rfl, ?_⟩
    rw [List.length_map]
    by_cases g : bs.length ≤ 32
    · rw [show decide ((bs.length : Int) ≤ 32) = true from decide_eq_true (by omega)]
      refine iteT ⟨_, rfl, _, rfl, c, _, rfl, .inr hc, _, rfl, _, rfl, p, it, c, cnt, lg, is, rs, bs, rfl, MA, hc, hb, fun H1 m s1 nm hm => fun x dx nx ndx hne => ?_⟩
      have s2 : Same H1 (upd (upd H1 dx (.own x)) x (.ins C dx [])) := fun b o e => by
        rw [upd_ne (ne_of_none e nx), upd_ne (ne_of_none e ndx)]
        exact e
      refine ⟨x, dx, .ref c, .non, .non, .ref m, bs.length, 0, ?_, upd_same, fun H5 hx kp => ⟨rfl, ?_⟩⟩
      · rw [List.length_map]
        rfl
      have s5 : Same H1 H5 := fun b o e => kp b o (s2 b o e) (ne_of_none e nx)
      refine q H5 x (.row bs) (s1.trans s5) ⟨dx, c, m, hx, (s1.trans s5).tup hc, hm.same s5⟩ ?_ rfl
      cases bs with
      | nil => exact .inl rfl
      | cons b bs => exact .inr ⟨Nat.succ_pos _, g⟩
    · rw [show decide ((bs.length : Int) ≤ 32) = false from decide_eq_false (by omega)]
      obtain ⟨n', rfl⟩ : ∃ n', n = n' + 1 := ⟨n - 1, by
        cases n with
        | zero => simp only [Nat.pow_zero] at hn; omega
        | succ n => rfl⟩
      have hn2 : bs.length ≤ 2 * (32 * 2 ^ n') := by rw [Nat.pow_succ] at hn; omega
      refine iteF ⟨_, rfl, c, _, rfl, .inr hc, _, _, rfl, rfl, ⟨by decide, by decide⟩, ?_⟩
      rw [List.length_map]
      have eh : (bs.length : Int) / 2 = ((bs.length / 2 : Nat) : Int) := by omega
      show gName 2 (V.int ((bs.length : Int) / 2)) _ _ _
      rw [eh]
      generalize hh : bs.length / 2 = h
      have lt : (bs.take h).length = h := by rw [List.length_take]; omega
      have ld : (bs.drop h).length = bs.length - h := List.length_drop
      refine ⟨_, rfl, _, rfl, _, rfl, _, rfl, cut_x (Same.refl H) hc fun c1 H1 T1 g1 S1 => ?_⟩
      rw [cut_to, ← List.map_take] at S1
      refine hR _ _ _ _ ⟨n', rfl, p, it, c1, cnt, lg, is, rs, bs.take h, rfl, MA.same g1.hh, g1.th.tup S1, by omega, by omega, fun H2 q1 t1 s2 A1 o1 e1 => ?_⟩
      have s12 := g1.hh.trans s2
      refine ⟨_, rfl, _, rfl, _, rfl, _, rfl, ?_⟩
      delta tNoPart
      refine cut_x (Same.refl H2) (s12.tup hc) fun c2 H3 T3 g3 S3 => ?_
      rw [cut_from, ← List.map_drop] at S3
      refine hR _ _ _ _ ⟨n', rfl, p, it, c2, cnt, lg, is, rs, bs.drop h, rfl, (MA.same s12).same g3.hh, g3.th.tup S3, by omega, by omega, fun H4 q2 t2 s4 A2 o2 e2 => ?_⟩
      have z1 : t1.size = h := by rw [Spn.size_eq, e1, lt]
      have z2 : t2.size = bs.length - h := by rw [Spn.size_eq, e2, ld]
      refine ⟨q1, q2, t1, t2, mpOf is, rfl, mpOf_ok MA.ok, A1.same (g3.hh.trans s4), A2, o1, o2, fun x1 x2 => ?_, fun H5 q5 t s5 A5 J => q H5 q5 t (s12.trans (g3.hh.trans (s4.trans s5))) A5 J.ok ?_⟩
      · have y1 := low80 x1 (by omega)
        have y2 := low80 x2 (by omega)
        omega
      · rw [J.bytes, e1, e2, List.take_append_drop]
theorem ok_spanOf {f fI fM fJ C0 C : Addr} {fd fdI fdM fdJ : FuncData} {k : Nat} (D : Def K mg "span_of" s_span_of f fd ["instruction_set", "code"]) (T : Bi mg) (S : SpanTxt K mg C) (m32 : ∃ t, mg "MOST_BYTES_OF_ROW" = some (.int 32 t))
    (M : L2.Mk K C fI) (bI : Binds K fdI ["self", "row", "left", "right", "size", "height", "summary"] []) (GI : FnOk P w K mg base CX0 k fI fdI ["self", "row", "left", "right", "size", "height", "summary"] (spInitS C))
    (Cm : Def K mg "code_map" sCodeMap fM fdM ["instruction_set", "code"]) (GC : FnOk P w K mg base CX0 (k + 1) fM fdM ["instruction_set", "code"] (spCodeMap K C0))
    (Jo : Def K mg "joined" s_joined fJ fdJ ["first", "second"]) (GJ : FnOk P w K mg base CX0 (k + 1) fJ fdJ ["first", "second"] (spJoin K C 80)) :
    ∀ n, FnOk P w K mg base CX0 (k + n + 2) f fd ["instruction_set", "code"] (spSpanOf K C0 C n)
  | 0 => spanOf_step D T S m32 M bI GI Cm GC Jo GJ okNo fun vs H Q E ⟨m', e, _⟩ => absurd e (by omega)
  | n + 1 => spanOf_step D T S m32 M bI (upS GI (by omega)) Cm (upS GC (by omega)) Jo (upS GJ (by omega)) (ok_spanOf D T S m32 M bI GI Cm GC Jo GJ n) fun vs H Q E ⟨m', e, h⟩ => by
    cases e
    exact h
end
end Ov
namespace Ov
open PySem PySem.Spec PyProof.Rows L2
theorem Spn.Cuts.start' {t a : Spn} (h : t.ok) (o : a.ok) (e : a.bytes = []) : Spn.Cuts t 0 a t := ⟨o, h, by rw [e]; rfl, rfl⟩
theorem Spn.Cuts.stop' {t a : Spn} {n : Nat} (h : t.ok) (z : n = t.size) (o : a.ok) (e : a.bytes = []) : Spn.Cuts t n t a := ⟨h, o, by rw [z, Spn.size_eq, List.take_length], by rw [z, Spn.size_eq, List.drop_length, e]⟩
section
variable {P : Program} {w : World} {K : PySem.W.Frag} {mg : Str → Option Value} {base : Heap}
/-! ### cut -/
def spCut (K : PySem.W.Frag) (C0 C : Addr) (m : Nat) : Sp := fun vs H Q _ => ∃ (p it a : Addr) (cnt lg : Nat) (is : List I4) (rs : List Addr) (t : Spn) (n : Nat), vs = [.ref p, .ref a, .int (n : Int)] ∧ Mach C0 H p cnt lg it is rs ∧ SpanAt K C (mpOf is) H a t ∧ t.ok ∧ n ≤ t.size ∧ t.size ≤ 10 ^ 16 ∧ t.height ≤ m ∧
  ∀ H' q q1 q2 u v, Same H H' → H' q = some (.tup [.ref q1, .ref q2]) → SpanAt K C (mpOf is) H' q1 u → SpanAt K C (mpOf is) H' q2 v → Spn.Cuts t n u v → Q (.ref q) H'
theorem scCut : FnScope ["instruction_set", "span", "offset", "first", "second"] ["instruction_set", "span", "offset"] (defScope s_cut) := ⟨rfl, rfl, rfl, by decide +kernel, rfl, by decide +kernel, by decide +kernel⟩
theorem cut_step {f fS fJ C0 C : Addr} {fd fdS fdJ : FuncData} {k m : Nat} (D : Def K mg "cut" s_cut f fd ["instruction_set", "span", "offset"]) (T : Bi mg) (S : SpanTxt K mg C)
    (So : Def K mg "span_of" s_span_of fS fdS ["instruction_set", "code"]) (GS : FnOk P w K mg base CX0 k fS fdS ["instruction_set", "code"] (spSpanOf K C0 C 0))
    (Jo : Def K mg "joined" s_joined fJ fdJ ["first", "second"]) (GJ : FnOk P w K mg base CX0 k fJ fdJ ["first", "second"] (spJoin K C 80))
    {spR : Sp} (GR : FnOk P w K mg base CX0 k f fd ["instruction_set", "span", "offset"] spR) (hR : ∀ vs H Q E, (∃ m', m = m' + 1 ∧ spCut K C0 C m' vs H Q E) → spR vs H Q E) :
    FnOk P w K mg base CX0 (k + 1) f fd ["instruction_set", "span", "offset"] (spCut K C0 C m) := by
  refine D.fn.ok scCut (fun vs H Q E h => ?_) (fun cdv A' outer s H vs Q E hr h => ?_)
  · obtain ⟨p, it, a, cnt, lg, is, rs, t, n, rfl, _⟩ := h
    rfl
  · obtain ⟨p, it, a, cnt, lg, is, rs, t, n, rfl, MA, ht, ok, hn, big, hm, q⟩ := h
    refine ⟨_, pss_cons (ps_if (pt_cmpR op_eq (pv 2) pe_int (nomark _)) (pss_one (ps_ret (pe_tup (pa_cons (pe_call GS hr (by rfl) So.gl So.fn.kp So.bi .nil pass0 (pa_cons (pv 0) (pa_cons (pe_tup pa_nil) pa_nil))) (pa_cons (pv 1) pa_nil))))) pss_nil)
      (pss_cons (ps_if (pt_cmpR op_eq (pv 2) (pe_fld (pv 1) rfl) (nomark _)) (pss_one (ps_ret (pe_tup (pa_cons (pv 1) (pa_cons (pe_call GS hr (by rfl) So.gl So.fn.kp So.bi .nil pass0 (pa_cons (pv 0) (pa_cons (pe_tup pa_nil) pa_nil))) pa_nil))))) pss_nil)
      (pss_cons (ps_if (pt_cmpR op_notN (pe_fld (pv 1) rfl) pe_non (nomark _)) (pss_one (ps_ret (pe_tup (pa_cons (pe_call GS hr (by rfl) So.gl So.fn.kp So.bi .nil pass0 (pa_cons (pv 0) (pa_cons (pe_slice sl_tupA (pe_fld (pv 1) rfl) po_none (po_some (pv 2))) pa_nil)))
          (pa_cons (pe_call GS hr (by rfl) So.gl So.fn.kp So.bi .nil pass0 (pa_cons (pv 0) (pa_cons (pe_slice sl_tupA (pe_fld (pv 1) rfl) (po_some (pv 2)) po_none) pa_nil))) pa_nil))))) pss_nil)
      (pss_cons (ps_if (pt_cmpR op_le (pv 2) (pe_fld (pe_fld (pv 1) rfl) rfl) (nomark _))
        (pss_cons (ps_asg (pe_call GR hr (by rfl) D.gl D.fn.kp D.bi .nil pass0 (pa_cons (pv 0) (pa_cons (pe_fld (pv 1) rfl) (pa_cons (pv 2) pa_nil)))) (pg_tup rfl (pgs_cons (pg_name (i := 3) scCut.nd rfl (.inl rfl)) (pgs_cons (pg_name (i := 4) scCut.nd rfl (.inl rfl)) pgs_nil))))
        (pss_one (ps_ret (pe_tup (pa_cons (pv 3) (pa_cons (pe_call GJ hr (by rfl) Jo.gl Jo.fn.kp Jo.bi .nil pass0 (pa_cons (pv 4) (pa_cons (pe_fld (pv 1) rfl) pa_nil))) pa_nil)))))) pss_nil)
      (pss_cons (ps_asg (pe_call GR hr (by rfl) D.gl D.fn.kp D.bi .nil pass0 (pa_cons (pv 0) (pa_cons (pe_fld (pv 1) rfl) (pa_cons (pe_op op_sub (pv 2) (pe_fld (pe_fld (pv 1) rfl) rfl)) pa_nil)))) (pg_tup rfl (pgs_cons (pg_name (i := 3) scCut.nd rfl (.inl rfl)) (pgs_cons (pg_name (i := 4) scCut.nd rfl (.inl rfl)) pgs_nil))))
      (pss_one (ps_ret (pe_tup (pa_cons (pe_call GJ hr (by rfl) Jo.gl Jo.fn.kp Jo.bi .nil pass0 (pa_cons (pe_fld (pv 1) rfl) (pa_cons (pv 3) pa_nil))) (pa_cons (pv 4) pa_nil))))))))), ?_⟩
    obtain ⟨dl, ml, _, _, _, hpl, mpl⟩ := ht.show
    have same : ∀ x y : Nat, decide (V.int (x : Int) = V.int (y : Int)) = decide (x = y) := fun x y => decide_eq_decide.mpr ⟨fun e => by have := V.int.inj e; omega, fun e => by rw [e]⟩
    have empty : ([] : List V) = ([] : List Int).map V.int := rfl
    refine ⟨_, rfl, rfl, _, rfl, ?_⟩
    rw [show decide (V.int (n : Int) = V.int 0) = decide (n = 0) from same n 0]
    by_cases z0 : n = 0
    · rw [decide_eq_true z0]
      subst z0
      refine iteT ⟨_, rfl, by show 0 ≤ sizeLine; decide, fun e ne => ?_⟩
      have se := same_upd (o := HO.tup []) ne
      refine ⟨p, it, e, cnt, lg, is, rs, [], rfl, MA.same se, SqT.of upd_same, Nat.zero_le _, Nat.zero_le _, fun H1 q1 t1 s1 A1 o1 e1 => ⟨_, rfl, by show 2 ≤ sizeLine; decide, fun tp ntp => ?_⟩⟩
      have st := same_upd (o := HO.tup [V.ref q1, V.ref a]) ntp
      exact q _ tp q1 a t1 t (se.trans (s1.trans st)) upd_same (A1.same st) (ht.same (se.trans (s1.trans st))) (.start' ok o1 e1)
    rw [decide_eq_false z0]
    refine iteF ⟨_, rfl, _, rfl, a, C, dl, _, _, rfl, hpl, S.cl, S.nS, s_size _ _ _ _ _ _, rfl, _, rfl, ?_⟩
    rw [same]
    by_cases z1 : n = t.size
    · rw [decide_eq_true z1]
      refine iteT ⟨_, rfl, _, rfl, by show 0 ≤ sizeLine; decide, fun e ne => ?_⟩
      have se := same_upd (o := HO.tup []) ne
      refine ⟨p, it, e, cnt, lg, is, rs, [], rfl, MA.same se, SqT.of upd_same, Nat.zero_le _, Nat.zero_le _, fun H1 q1 t1 s1 A1 o1 e1 => ⟨by show 2 ≤ sizeLine; decide, fun tp ntp => ?_⟩⟩
      have st := same_upd (o := HO.tup [V.ref a, V.ref q1]) ntp
      exact q _ tp a q1 t t1 (se.trans (s1.trans st)) upd_same (ht.same (se.trans (s1.trans st))) (A1.same st) (.stop' ok z1 o1 e1)
    rw [decide_eq_false z1]
    have nt := ok.pos (by omega)
    clear hpl mpl
    cases t with
    | row bs =>
      obtain ⟨dx, c, mm, h1, hc, h3⟩ := id ht
      have hb : bs.length ≤ 32 := nt.2
      have hn1 : n < bs.length := by have : n ≤ bs.length := hn; have : n ≠ bs.length := z1; omega
      refine iteF ⟨_, rfl, a, C, dx, _, _, rfl, h1, S.cl, S.nW, s_row _ _ _ _ _ _, rfl, _, rfl, iteT ⟨_, rfl, _, rfl, a, C, dx, _, _, rfl, h1, S.cl, S.nW, s_row _ _ _ _ _ _, _, rfl, _, rfl, cut_x (Same.refl H) hc fun c1 H1 T1 g1 S1 => ?_⟩⟩
      rw [cut_to, ← List.map_take] at S1
      have l1 : (bs.take n).length = n := by rw [List.length_take]; omega
      have l2 : (bs.drop n).length = bs.length - n := List.length_drop
      refine ⟨p, it, c1, cnt, lg, is, rs, bs.take n, rfl, MA.same g1.hh, g1.th.tup S1, by omega, by omega, fun H2 q1 t1 s2 A1 o1 e1 => ?_⟩
      have s12 := g1.hh.trans s2
      refine ⟨_, rfl, _, rfl, a, C, dx, _, _, rfl, s12 _ _ h1, S.cl, S.nW, s_row _ _ _ _ _ _, _, rfl, _, rfl, ?_⟩
      delta tNoPart
      refine cut_x (Same.refl H2) (s12.tup hc) fun c2 H3 T3 g3 S3 => ?_
      rw [cut_from, ← List.map_drop] at S3
      refine ⟨p, it, c2, cnt, lg, is, rs, bs.drop n, rfl, (MA.same s12).same g3.hh, g3.th.tup S3, by omega, by omega, fun H4 q2 t2 s4 A2 o2 e2 => ⟨by show 2 ≤ sizeLine; decide, fun tp ntp => ?_⟩⟩
      have st := same_upd (o := HO.tup [V.ref q1, V.ref q2]) ntp
      exact q _ tp q1 q2 t1 t2 (s12.trans (g3.hh.trans (s4.trans st))) upd_same (A1.same (g3.hh.trans (s4.trans st))) (A2.same st) ⟨o1, o2, e1, e2⟩
    | pair l r =>
      obtain ⟨dx, pa, pb, pm, h1, h2, h3⟩ := ht.high
      obtain ⟨da, ma, _, _, _, hpa, _⟩ := h2.show
      obtain ⟨nl, nr, e1, e2⟩ := id nt
      obtain ⟨m', em⟩ : ∃ m', m = m' + 1 := ⟨m - 1, by simp only [Spn.height] at hm; omega⟩
      have hml : l.height ≤ m' := by simp only [Spn.height] at hm; omega
      have hmr : r.height ≤ m' := by simp only [Spn.height] at hm; omega
      have sz : (Spn.pair l r).size = l.size + r.size := rfl
      rw [sz] at hn big z1
      have far : ∀ {x y : Spn}, x.okN → y.okN → x.size ≤ 10 ^ 16 → y.size ≤ 10 ^ 16 → x.height ≤ y.height + 80 ∧ y.height ≤ x.height + 80 := fun hx hy b1 b2 => by
        have := low80 hx b1
        have := low80 hy b2
        omega
      refine iteF ⟨_, rfl, a, C, dx, _, _, rfl, h1, S.cl, S.nW, s_row _ _ _ _ _ _, rfl, _, rfl, iteF ⟨_, rfl, _, rfl, a, C, dx, _, _, rfl, h1, S.cl, S.nL, s_left _ _ _ _ _ _, pa, C, da, _, _, rfl, hpa, S.cl, S.nS, s_size _ _ _ _ _ _, _, _, rfl, rfl, _, rfl, ?_⟩⟩
      rw [show decide ((n : Int) ≤ (l.size : Int)) = decide (n ≤ l.size) from decide_eq_decide.mpr (by omega)]
      by_cases g : n ≤ l.size
      · rw [decide_eq_true g]
        refine iteT ⟨_, rfl, _, rfl, a, C, dx, _, _, rfl, h1, S.cl, S.nL, s_left _ _ _ _ _ _, _, rfl, hR _ _ _ _ ⟨m', em, p, it, pa, cnt, lg, is, rs, l, n, rfl, MA, h2, .inr nl, g, by omega, hml, fun H1 qq q1 q2 u v s1 hq A1 A2 c => ?_⟩⟩
        obtain ⟨zu, zv⟩ := c.sizes g
        refine ⟨qq, _, rfl, SqT.of hq, rfl, _, _, rfl, _, _, rfl, rfl, ?_⟩
        refine ⟨_, rfl, _, rfl, _, rfl, a, C, dx, _, _, rfl, s1 _ _ h1, S.cl, S.nR, s_right _ _ _ _ _ _, q2, pb, v, r, mpOf is, rfl, mpOf_ok MA.ok, A2, h3.same s1, c.right, .inr nr, fun x y => far x y (by omega) (by omega), fun H2 q5 t s2 A5 J => ⟨by show 2 ≤ sizeLine; decide, fun tp ntp => ?_⟩⟩
        have st := same_upd (o := HO.tup [V.ref q1, V.ref q5]) ntp
        exact q _ tp q1 q5 u t (s1.trans (s2.trans st)) upd_same (A1.same (s2.trans st)) (A5.same st) (.inLeft g c J)
      · rw [decide_eq_false g]
        have eo : (n : Int) - (l.size : Int) = ((n - l.size : Nat) : Int) := by omega
        refine iteF ⟨_, rfl, _, rfl, a, C, dx, _, _, rfl, h1, S.cl, S.nR, s_right _ _ _ _ _ _, _, rfl, _, rfl, a, C, dx, _, _, rfl, h1, S.cl, S.nL, s_left _ _ _ _ _ _, pa, C, da, _, _, rfl, hpa, S.cl, S.nS, s_size _ _ _ _ _ _, _, _, rfl, rfl, hR _ _ _ _ ⟨m', em, p, it, pb, cnt, lg, is, rs, r, n - l.size, congrArg (fun v => [V.ref p, V.ref pb, V.int v]) eo, MA, h3, .inr nr, by omega, by omega, hmr, fun H1 qq q1 q2 u v s1 hq A1 A2 c => ?_⟩⟩
        obtain ⟨zu, zv⟩ := c.sizes (by omega)
        refine ⟨qq, _, rfl, SqT.of hq, rfl, _, _, rfl, _, _, rfl, rfl, ?_⟩
        refine ⟨_, rfl, a, C, dx, _, _, rfl, s1 _ _ h1, S.cl, S.nL, s_left _ _ _ _ _ _, _, rfl, pa, q1, l, u, mpOf is, rfl, mpOf_ok MA.ok, h2.same s1, A1, .inr nl, c.left, fun x y => far x y (by omega) (by omega), fun H2 q5 t s2 A5 J => ⟨_, rfl, by show 2 ≤ sizeLine; decide, fun tp ntp => ?_⟩⟩
        have st := same_upd (o := HO.tup [V.ref q5, V.ref q2]) ntp
        exact q _ tp q5 q2 t v (s1.trans (s2.trans st)) upd_same (A5.same st) (A2.same (s2.trans st)) (.inRight (by omega) c J)
theorem ok_cut {f fS fJ C0 C : Addr} {fd fdS fdJ : FuncData} {k : Nat} (D : Def K mg "cut" s_cut f fd ["instruction_set", "span", "offset"]) (T : Bi mg) (S : SpanTxt K mg C)
    (So : Def K mg "span_of" s_span_of fS fdS ["instruction_set", "code"]) (GS : FnOk P w K mg base CX0 k fS fdS ["instruction_set", "code"] (spSpanOf K C0 C 0))
    (Jo : Def K mg "joined" s_joined fJ fdJ ["first", "second"]) (GJ : FnOk P w K mg base CX0 k fJ fdJ ["first", "second"] (spJoin K C 80)) :
    ∀ m, FnOk P w K mg base CX0 (k + m + 1) f fd ["instruction_set", "span", "offset"] (spCut K C0 C m)
  | 0 => cut_step D T S So GS Jo GJ okNo fun vs H Q E ⟨m', e, _⟩ => absurd e (by omega)
  | m + 1 => cut_step D T S So (upS GS (by omega)) Jo (upS GJ (by omega)) (ok_cut D T S So GS Jo GJ m) fun vs H Q E ⟨m', e, h⟩ => by
    cases e
    exact h
end
end Ov
namespace Ov
open PySem PySem.Spec PyProof.Rows L2
theorem low_of {t : Spn} (h : t.ok) (s : t.size ≤ 10 ^ 16) : t.height ≤ 80 := by
  rcases h with rfl | h
  · exact Nat.zero_le _
  · exact low80 h s
theorem flat_len (n : Nat) (bs : List Int) : (List.replicate n bs).flatten.length = n * bs.length := by
  rw [List.length_flatten, List.map_replicate, List.sum_replicate_nat]
theorem flat_add (a b : Nat) (bs : List Int) : (List.replicate a bs).flatten ++ (List.replicate b bs).flatten = (List.replicate (a + b) bs).flatten := by
  rw [← List.flatten_append, List.replicate_append_replicate]
section
variable {P : Program} {w : World} {K : PySem.W.Frag} {mg : Str → Option Value} {base : Heap}
/-! ### part -/
def spPart (K : PySem.W.Frag) (C0 C : Addr) : Sp := fun vs H Q _ => ∃ (p it a : Addr) (cnt lg : Nat) (is : List I4) (rs : List Addr) (t : Spn) (st sp : Nat), vs = [.ref p, .ref a, .int (st : Int), .int (sp : Int)] ∧ Mach C0 H p cnt lg it is rs ∧ SpanAt K C (mpOf is) H a t ∧ t.ok ∧ st ≤ sp ∧ sp ≤ t.size ∧ t.size ≤ 10 ^ 16 ∧
  ∀ H' q u, Same H H' → SpanAt K C (mpOf is) H' q u → u.ok → u.bytes = (t.bytes.take sp).drop st → Q (.ref q) H'
theorem scPart : FnScope ["instruction_set", "span", "start", "stop", "first", "rest", "between"] ["instruction_set", "span", "start", "stop"] (defScope s_part) := ⟨rfl, rfl, rfl, by decide +kernel, rfl, by decide +kernel, by decide +kernel⟩
theorem ok_part {f fC C0 C : Addr} {fd fdC : FuncData} {k : Nat} (F : Fun K "part" "part" s_part f fd)
    (Cu : Def K mg "cut" s_cut fC fdC ["instruction_set", "span", "offset"]) (GC : FnOk P w K mg base CX0 k fC fdC ["instruction_set", "span", "offset"] (spCut K C0 C 80)) :
    FnOk P w K mg base CX0 (k + 1) f fd ["instruction_set", "span", "start", "stop"] (spPart K C0 C) := by
  refine F.ok scPart (fun vs H Q E h => ?_) (fun cdv A' outer s H vs Q E hr h => ?_)
  · obtain ⟨p, it, a, cnt, lg, is, rs, t, st, sp, rfl, _⟩ := h
    rfl
  · obtain ⟨p, it, a, cnt, lg, is, rs, t, st, sp, rfl, MA, ht, ok, h1, h2, big, q⟩ := h
    refine ⟨_, pss_cons (ps_asg (pe_call GC hr (by rfl) Cu.gl Cu.fn.kp Cu.bi .nil pass0 (pa_cons (pv 0) (pa_cons (pv 1) (pa_cons (pv 3) pa_nil)))) (pg_tup rfl (pgs_cons (pg_name (i := 4) scPart.nd rfl (.inl rfl)) (pgs_cons (pg_name (i := 5) scPart.nd rfl (.inl rfl)) pgs_nil))))
      (pss_cons (ps_asg (pe_call GC hr (by rfl) Cu.gl Cu.fn.kp Cu.bi .nil pass0 (pa_cons (pv 0) (pa_cons (pv 4) (pa_cons (pv 2) pa_nil)))) (pg_tup rfl (pgs_cons (pg_name (i := 5) scPart.nd rfl (.inl rfl)) (pgs_cons (pg_name (i := 6) scPart.nd rfl (.inl rfl)) pgs_nil))))
      (pss_one (ps_ret (pv 6)))), ?_⟩
    refine ⟨_, rfl, _, rfl, _, rfl, p, it, a, cnt, lg, is, rs, t, sp, rfl, MA, ht, ok, h2, big, low_of ok big, fun H1 qq q1 q2 u v s1 hq A1 A2 c => ?_⟩
    obtain ⟨zu, zv⟩ := c.sizes h2
    refine ⟨qq, _, rfl, SqT.of hq, rfl, _, _, rfl, _, _, rfl, rfl, ?_⟩
    refine ⟨_, rfl, _, rfl, _, rfl, p, it, q1, cnt, lg, is, rs, u, st, rfl, MA.same s1, A1, c.left, by omega, by omega, low_of c.left (by omega), fun H2 q3 q4 q5 x y s2 h3 A4 A5 c2 => ?_⟩
    refine ⟨q3, _, rfl, SqT.of h3, rfl, _, _, rfl, _, _, rfl, rfl, ?_⟩
    exact ⟨_, rfl, q H2 q5 y (s1.trans s2) A5 c2.right (by rw [c2.behind, c.front])⟩
end
end Ov
namespace Ov
open PySem PySem.Spec PyProof.Rows L2
section
variable {P : Program} {w : World} {K : PySem.W.Frag} {mg : Str → Option Value} {base : Heap}
/-! ### repeated -/
def spRepS (K : PySem.W.Frag) (C0 C : Addr) : Sp := fun vs H Q _ => ∃ (p it a : Addr) (cnt lg : Nat) (is : List I4) (rs : List Addr) (t : Spn) (n : Nat), vs = [.ref p, .ref a, .int (n : Int)] ∧ Mach C0 H p cnt lg it is rs ∧ SpanAt K C (mpOf is) H a t ∧ t.ok ∧ n * t.size ≤ 10 ^ 15 ∧
  ∀ H' q u, Same H H' → SpanAt K C (mpOf is) H' q u → u.ok → u.bytes = (List.replicate n t.bytes).flatten → Q (.ref q) H'
theorem scRepS : FnScope ["instruction_set", "span", "times", "copies", "doubled", "left"] ["instruction_set", "span", "times"] (defScope s_repeated) := ⟨rfl, rfl, rfl, by decide +kernel, rfl, by decide +kernel, by decide +kernel⟩
def left6 (σ : L2.St) : Nat := match σ with
  | [_, _, _, _, _, some (.int o)] => o.toNat
  | _ => 0
theorem ok_repS {f fS fJ C0 C : Addr} {fd fdS fdJ : FuncData} {k : Nat} (F : Fun K "repeated" "repeated" s_repeated f fd)
    (So : Def K mg "span_of" s_span_of fS fdS ["instruction_set", "code"]) (GS : FnOk P w K mg base CX0 k fS fdS ["instruction_set", "code"] (spSpanOf K C0 C 0))
    (Jo : Def K mg "joined" s_joined fJ fdJ ["first", "second"]) (GJ : FnOk P w K mg base CX0 k fJ fdJ ["first", "second"] (spJoin K C 80)) :
    FnOk P w K mg base CX0 (k + 1) f fd ["instruction_set", "span", "times"] (spRepS K C0 C) := by
  refine F.ok scRepS (fun vs H Q E h => ?_) (fun cdv A' outer s H vs Q E hr h => ?_)
  · obtain ⟨p, it, a, cnt, lg, is, rs, t, n, rfl, _⟩ := h
    rfl
  · obtain ⟨p, it, a, cnt, lg, is, rs, t, n, rfl, MA, ht, ok, big, q⟩ := h
    refine ⟨_, pss_cons (ps_set (i := 3) scRepS.nd rfl (.inl rfl) (pe_call GS hr (by rfl) So.gl So.fn.kp So.bi .nil pass0 (pa_cons (pv 0) (pa_cons (pe_tup pa_nil) pa_nil))))
      (pss_cons (ps_set (i := 4) scRepS.nd rfl (.inl rfl) (pv 1))
      (pss_cons (ps_set (i := 5) scRepS.nd rfl (.inl rfl) (pv 2))
      (pss_cons (ps_while PassesOwn.never (pt_cmpR op_gt (pv 5) pe_int (nomark _))
        (C8.pss_cut (ps_if (pt_cmpR op_eq (pe_op op_mod (pv 5) pe_int) pe_int (nomark _)) (pss_one (ps_set (i := 3) scRepS.nd rfl (.inl rfl) (pe_call GJ hr (by rfl) Jo.gl Jo.fn.kp Jo.bi .nil pass0 (pa_cons (pv 3) (pa_cons (pv 4) pa_nil))))) pss_nil)
        (pss_cons (ps_set (i := 4) scRepS.nd rfl (.inl rfl) (pe_call GJ hr (by rfl) Jo.gl Jo.fn.kp Jo.bi .nil pass0 (pa_cons (pv 4) (pa_cons (pv 4) pa_nil))))
        (pss_one (ps_aug (i := 5) scRepS.nd rfl (.inl rfl) pe_int iop_fdiv)))))
      (pss_one (ps_ret (pv 3)))))), ?_⟩
    refine ⟨_, rfl, by show 0 ≤ sizeLine; decide, fun e ne => ?_⟩
    have se := same_upd (o := HO.tup []) ne
    refine ⟨p, it, e, cnt, lg, is, rs, [], rfl, MA.same se, SqT.of upd_same, Nat.zero_le _, Nat.zero_le _, fun H1 r1 t1 s1 A1 o1 e1 => ?_⟩
    refine ⟨_, rfl, _, rfl, ?_⟩
    have near : ∀ {x y : Spn} {i j : Nat}, x.bytes = (List.replicate i t.bytes).flatten → y.bytes = (List.replicate j t.bytes).flatten → i ≤ n → j ≤ n → x.okN → y.okN → x.height ≤ y.height + 80 ∧ y.height ≤ x.height + 80 := fun {x y i j} ex ey hi hj nx ny => by
      have b1 : i * t.size ≤ n * t.size := Nat.mul_le_mul_right _ hi
      have b2 : j * t.size ≤ n * t.size := Nat.mul_le_mul_right _ hj
      have z1 : x.size = i * t.size := by rw [Spn.size_eq, ex, flat_len, ← Spn.size_eq]
      have z2 : y.size = j * t.size := by rw [Spn.size_eq, ey, flat_len, ← Spn.size_eq]
      have := low80 nx (by omega)
      have := low80 ny (by omega)
      omega
    refine while_by (fun σ H2 => ∃ (ra da : Addr) (x y : Spn) (i j l : Nat), σ = [some (.ref p), some (.ref a), some (.int (n : Int)), some (.ref ra), some (.ref da), some (.int (l : Int))] ∧ Same H H2 ∧ SpanAt K C (mpOf is) H2 ra x ∧ SpanAt K C (mpOf is) H2 da y ∧ x.ok ∧ y.ok ∧ x.bytes = (List.replicate i t.bytes).flatten ∧ y.bytes = (List.replicate j t.bytes).flatten ∧ i + j * l = n) (fun σ _ => left6 σ)
      ⟨r1, a, t1, t, 0, 1, n, rfl, se.trans s1, A1, ht.same (se.trans s1), o1, ok, e1, by simp, by omega⟩ ?_ ?_
    · rintro σ H2 ⟨ra, da, x, y, i, j, l, rfl, s2, Ax, Ay, ox, oy, ex, ey, en⟩
      refine ⟨_, rfl, _, _, rfl, rfl, _, rfl, ?_⟩
      by_cases hl : (0 : Int) < (l : Int)
      · rw [decide_eq_true hl]
        have jn : j ≤ n := by
          have : j * 1 ≤ j * l := Nat.mul_le_mul_left _ (by omega)
          omega
        refine iteT ⟨fun σ H3 => ∃ (ra : Addr) (x : Spn) (i' : Nat), σ = [some (.ref p), some (.ref a), some (.int (n : Int)), some (.ref ra), some (.ref da), some (.int (l : Int))] ∧ Same H H3 ∧ SpanAt K C (mpOf is) H3 ra x ∧ SpanAt K C (mpOf is) H3 da y ∧ x.ok ∧ x.bytes = (List.replicate i' t.bytes).flatten ∧ i' + (j + j) * (l / 2) = n, ?_, ?_⟩
        · refine ⟨_, rfl, _, _, rfl, rfl, (show (0 : Int) < 2 by decide), rfl, _, rfl, ?_⟩
          have md : (l : Int) % 2 = ((l % 2 : Nat) : Int) := by omega
          by_cases hp : l % 2 = 1
          · rw [decide_eq_true (show V.int ((l : Int) % 2) = V.int 1 by rw [md, hp]; rfl)]
            refine iteT ⟨_, rfl, _, rfl, ra, da, x, y, mpOf is, rfl, mpOf_ok MA.ok, Ax, Ay, ox, oy, near ex ey (by omega) jn, fun H3 r3 u s3 A3 J => ?_⟩
            refine ⟨r3, u, i + j, rfl, s2.trans s3, A3, Ay.same s3, J.ok, by rw [J.bytes, ex, ey, flat_add], ?_⟩
            have l2 : l = 2 * (l / 2) + 1 := by omega
            generalize l / 2 = h at *
            subst l2
            rw [Nat.mul_add, Nat.mul_one, ← Nat.mul_assoc] at en
            rw [Nat.add_mul]
            have : j * 2 * h = j * h + j * h := by rw [Nat.mul_assoc, Nat.mul_comm 2 h, ← Nat.mul_assoc, Nat.mul_two]
            omega
          · rw [decide_eq_false (fun z => hp (by have : (l : Int) % 2 = 1 := V.int.inj z; omega))]
            refine iteF ⟨ra, x, i, rfl, s2, Ax, Ay, ox, ex, ?_⟩
            have l2 : l = 2 * (l / 2) := by omega
            generalize l / 2 = h at *
            subst l2
            rw [← Nat.mul_assoc] at en
            rw [Nat.add_mul]
            have : j * 2 * h = j * h + j * h := by rw [Nat.mul_assoc, Nat.mul_comm 2 h, ← Nat.mul_assoc, Nat.mul_two]
            omega
        · rintro σ H3 ⟨ra', x', i', rfl, s3, Ax', Ay', ox', ex', en'⟩
          refine ⟨_, rfl, _, rfl, da, da, y, y, mpOf is, rfl, mpOf_ok MA.ok, Ay', Ay', oy, oy, near ey ey jn jn, fun H4 r4 u s4 A4 J => ?_⟩
          refine ⟨_, rfl, _, _, rfl, rfl, ⟨by decide, by decide⟩, ⟨ra', r4, x', u, i', j + j, l / 2, ?_, s3.trans s4, Ax'.same s4, A4, ox', J.ok, ex', by rw [J.bytes, ey, flat_add], en'⟩, ?_⟩
          · show [_, _, _, _, _, some (V.int ((l : Int) / 2))] = _
            rw [show (l : Int) / 2 = ((l / 2 : Nat) : Int) by omega]
          · show ((l : Int) / 2).toNat < ((l : Int)).toNat
            omega
      · rw [decide_eq_false hl]
        have l0 : l = 0 := by omega
        subst l0
        rw [Nat.mul_zero, Nat.add_zero] at en
        subst en
        exact iteF ⟨_, rfl, q H2 ra x s2 Ax ox ex⟩
    · rintro σ H2 Q1 Q2 hQ ⟨v, h1, i, j, h2, h3, b, h4, h5⟩
      exact ⟨v, h1, i, j, h2, h3, b, h4, hQ _ _ h5⟩
end
end Ov
namespace Ov
open PySem PySem.Spec PyProof.Rows L2
def Spn.nodes : Spn → Nat
  | .row _ => 1
  | .pair l r => l.nodes + r.nodes + 1
theorem Spn.nodes_pos : ∀ t : Spn, 1 ≤ t.nodes
  | .row _ => Nat.le_refl _
  | .pair l r => by simp only [Spn.nodes]; omega
theorem Spn.okN.nodes : ∀ {t : Spn}, t.okN → t.nodes + 1 ≤ 2 * t.size
  | .row bs, h => by have : 0 < bs.length := h.1; simp only [Spn.nodes, Spn.size]; omega
  | .pair l r, h => by
    have a := Spn.okN.nodes h.1
    have b := Spn.okN.nodes h.2.1
    simp only [Spn.nodes, Spn.size]
    omega
theorem few_nodes (ps : List (Addr × Spn)) : ps.length ≤ (ps.map fun p => p.2.nodes).sum := by
  induction ps with
  | nil => exact Nat.le_refl _
  | cons p ps ih => have := p.2.nodes_pos; simp only [List.length_cons, List.map_cons, List.sum_cons]; omega
section
variable {P : Program} {w : World} {K : PySem.W.Frag} {mg : Str → Option Value} {base : Heap}
/-! ### bytes_of -/
def spBytesOf (K : PySem.W.Frag) (C : Addr) : Sp := fun vs H Q _ => ∃ (a : Addr) (mp : List Int → List PM) (t : Spn), vs = [.ref a] ∧ SpanAt K C mp H a t ∧ t.ok ∧ t.size ≤ 100000 ∧ ∀ H' r, Same H H' → H' r = some (.tup (t.bytes.map V.int)) → Q (.ref r) H'
theorem scBytesOf : FnScope ["span", "row", "waiting", "following"] ["span"] (defScope s_bytes_of) := ⟨rfl, rfl, rfl, by decide +kernel, rfl, by decide +kernel, by decide +kernel⟩
theorem ok_bytesOf {f C : Addr} {fd : FuncData} {k : Nat} (F : Fun K "bytes_of" "bytes_of" s_bytes_of f fd) (T : Bi mg) (S : SpanTxt K mg C) : FnOk P w K mg base CX0 (k + 1) f fd ["span"] (spBytesOf K C) := by
  refine F.ok scBytesOf (fun vs H Q E h => ?_) (fun cdv A' outer s H vs Q E hr h => ?_)
  · obtain ⟨a, mp, t, rfl, _⟩ := h
    rfl
  · obtain ⟨a, mp, t, rfl, ht, ok, small, q⟩ := h
    refine ⟨_, pss_cons (ps_set (i := 1) scBytesOf.nd rfl (.inl rfl) (pe_lst pa_nil))
      (pss_cons (ps_set (i := 2) scBytesOf.nd rfl (.inl rfl) (pe_lst (pa_cons (pv 0) pa_nil)))
      (pss_cons (ps_while PassesOwn.never (pt_cmpR op_gt (pe_callB call_len_seq (by rfl) T.len PySem.boot_len (pa_cons (pv 2) pa_nil)) pe_int (nomark _))
        (pss_cons (ps_set (i := 3) scBytesOf.nd rfl (.inl rfl) (pe_bm0 PySem.F.plainAttrs_list PySem.F.slot_list_pop PySem.F.type_list_pop mt_pop (pv 2)))
        (pss_one (ps_if (pt_cmpR op_isN (pe_fld (pv 3) rfl) pe_non (nomark _))
          (pss_cons (ps_expr (pe_bm PySem.F.plainAttrs_list PySem.F.slot_list_append PySem.F.type_list_append mt_append (pv 2) (pa_cons (pe_fld (pv 3) rfl) pa_nil)))
            (pss_one (ps_expr (pe_bm PySem.F.plainAttrs_list PySem.F.slot_list_append PySem.F.type_list_append mt_append (pv 2) (pa_cons (pe_fld (pv 3) rfl) pa_nil)))))
          (pss_one (ps_expr (pe_bm PySem.F.plainAttrs_list PySem.F.slot_list_extend PySem.F.type_list_extend mt_extT (pv 1) (pa_cons (pe_fld (pv 3) rfl) pa_nil))))))))
      (pss_one (ps_ret (pe_callTy call_tuple_of (by rfl) T.tuple (by decide +kernel) (pa_cons (pv 1) pa_nil)))))), ?_⟩
    have nb : t.nodes ≤ 200001 := by
      rcases ok with rfl | n
      · decide
      · have := n.nodes; omega
    refine ⟨by show 0 ≤ sizeLine; decide, fun D nD => ⟨_, rfl, by show 1 ≤ sizeLine; decide, fun Wa nW => ?_⟩⟩
    have sD := same_upd (o := HO.lst []) nD
    have sW := same_upd (o := HO.lst [V.ref a]) nW
    have nW0 : H Wa = none := sD.free nW
    have DW : D ≠ Wa := fun z => by rw [← z, upd_same] at nW; cases nW
    refine ⟨fun n σ G => ∃ (ps : List (Addr × Spn)) (done : List Int) (v3 : Option V), σ = [some (.ref a), some (.ref D), some (.ref Wa), v3] ∧ Same H G ∧ G D = some (.lst (done.map V.int)) ∧ G Wa = some (.lst (ps.map fun p => V.ref p.1)) ∧ (∀ p ∈ ps, SpanAt K C mp H p.1 p.2) ∧ done ++ (ps.reverse.map fun p => p.2.bytes).flatten = t.bytes ∧ n = (ps.map fun p => p.2.nodes).sum ∧ n ≤ t.nodes,
      ⟨t.nodes, [(a, t)], [], none, rfl, sD.trans sW, sW _ _ upd_same, upd_same, fun p hp => by rw [List.mem_singleton.mp hp]; exact ht, by simp, by simp, Nat.le_refl _⟩, ?_⟩
    rintro n σ G ⟨ps, done, v3, rfl, sG, hD, hW, hS, eb, en, le⟩
    refine ⟨_, rfl, Wa, _, rfl, .inl (SqL.of hW), _, _, rfl, rfl, _, rfl, ?_⟩
    have split : ps = [] ∨ ∃ (qs : List (Addr × Spn)) (b : Addr) (u : Spn), ps = qs ++ [(b, u)] := by
      rcases List.eq_nil_or_concat ps with e0 | ⟨qs, bu, e0⟩
      · exact .inl e0
      · exact .inr ⟨qs, bu.1, bu.2, by rw [e0, List.concat_eq_append]⟩
    rcases split with rfl | ⟨qs, b, u, rfl⟩
    · refine iteF ⟨_, rfl, D, _, rfl, .inl ⟨SqL.of hD, fun r nr => ?_⟩⟩
      have sr := same_upd (o := HO.tup (done.map V.int)) nr
      refine q _ r (sG.trans sr) ?_
      rw [upd_same, ← eb]
      simp
    have pos : decide ((0 : Int) < (((qs ++ [(b, u)]).map fun p => V.ref p.1).length : Int)) = true := decide_eq_true (by rw [List.length_map, List.length_append]; show (0 : Int) < ((qs.length + 1 : Nat) : Int); omega)
    rw [pos]
    have fq := few_nodes qs
    have un := u.nodes_pos
    have sum : ((qs ++ [(b, u)]).map fun p => p.2.nodes).sum = (qs.map fun p => p.2.nodes).sum + u.nodes := by simp
    rw [sum] at en
    have hW' : G Wa = some (.lst ((qs.map fun p => V.ref p.1) ++ [V.ref b])) := by rw [hW, List.map_append]; rfl
    have hb := hS (b, u) (List.mem_append_right _ (List.mem_singleton.mpr rfl))
    have hq : ∀ p ∈ qs, SpanAt K C mp H p.1 p.2 := fun p hp => hS p (List.mem_append_left _ hp)
    have eb' : done ++ (u.bytes ++ (qs.reverse.map fun p => p.2.bytes).flatten) = t.bytes := by rw [← eb]; simp
    refine iteT ⟨fun σ' G' => ∃ m', m' < n ∧ ∃ (ps : List (Addr × Spn)) (done : List Int) (v3 : Option V), σ' = [some (.ref a), some (.ref D), some (.ref Wa), v3] ∧ Same H G' ∧ G' D = some (.lst (done.map V.int)) ∧ G' Wa = some (.lst (ps.map fun p => V.ref p.1)) ∧ (∀ p ∈ ps, SpanAt K C mp H p.1 p.2) ∧ done ++ (ps.reverse.map fun p => p.2.bytes).flatten = t.bytes ∧ m' = (ps.map fun p => p.2.nodes).sum ∧ m' ≤ t.nodes, fun _ _ h => h, ?_⟩
    have g1 : ∀ xs : List V, Same H (upd G Wa (.lst xs)) := fun xs c o e => by
      rw [upd_ne (ne_of_none e nW0)]
      exact sG c o e
    refine ⟨_, rfl, .inl ⟨rfl, _, SqL.of hW'⟩, Wa, _, V.ref b, rfl, rfl, hW', by simp, ?_⟩
    rw [List.dropLast_concat]
    have hD1 : upd G Wa (.lst (qs.map fun p => V.ref p.1)) D = some (.lst (done.map V.int)) := by rw [upd_ne DW]; exact hD
    have hW1 := @upd_same G Wa (.lst (qs.map fun p => V.ref p.1))
    have s1 := g1 (qs.map fun p => V.ref p.1)
    generalize upd G Wa (.lst (qs.map fun p => V.ref p.1)) = G1 at *
    clear hW hW' hD sG g1
    have g2 : ∀ (G2 : Hp) (xs : List V), Same H G2 → Same H (upd G2 Wa (.lst xs)) := fun G2 xs s c o e => by
      rw [upd_ne (ne_of_none e nW0)]
      exact s c o e
    have h2 := hb.same s1
    cases u with
    | row bs =>
      obtain ⟨dx, c, m, k1, kc, k3⟩ := h2
      have lb : done.length + bs.length ≤ 100000 := by
        have := congrArg List.length eb'
        rw [List.length_append, List.length_append] at this
        have z := t.size_eq
        show done.length + (Spn.row bs).bytes.length ≤ _
        omega
      refine ⟨_, rfl, b, C, dx, _, _, rfl, k1, S.cl, S.nW, s_row _ _ _ _ _ _, rfl, _, rfl, iteF ⟨_, rfl, .inl ⟨rfl, _, SqL.of hD1⟩, _, rfl, b, C, dx, _, _, rfl, k1, S.cl, S.nW, s_row _ _ _ _ _ _, D, c, _, _, rfl, rfl, hD1, kc, by rw [List.length_map, List.length_map, sizeLine_eq]; omega, ?_⟩⟩
      refine ⟨_, ?_, qs, done ++ bs, _, rfl, fun x o e => ?_, by rw [upd_same, List.map_append], by rw [upd_ne (Ne.symm DW)]; exact hW1, hq, by rw [List.append_assoc]; exact eb', rfl, ?_⟩
      · rw [en]; show _ < _ + 1; omega
      · rw [upd_ne (ne_of_none e nD)]
        exact s1 x o e
      · omega
    | pair l r =>
      obtain ⟨dx, pa, pb, pm, k1, k2, k3⟩ := hb.high
      have lq : qs.length + 2 ≤ 300000 := by omega
      refine ⟨_, rfl, b, C, dx, _, _, rfl, s1 _ _ k1, S.cl, S.nW, s_row _ _ _ _ _ _, rfl, _, rfl, iteT ⟨_, rfl, .inl ⟨rfl, _, SqL.of hW1⟩, _, rfl, b, C, dx, _, _, rfl, s1 _ _ k1, S.cl, S.nR, s_right _ _ _ _ _ _, Wa, _, _, rfl, rfl, hW1, by rw [List.length_map, sizeLine_eq]; omega, ?_⟩⟩
      have s3 := g2 G1 ((qs.map fun p => V.ref p.1) ++ [V.ref pb]) s1
      have hW3 := @upd_same G1 Wa (.lst ((qs.map fun p => V.ref p.1) ++ [V.ref pb]))
      have hD3 : upd G1 Wa (.lst ((qs.map fun p => V.ref p.1) ++ [V.ref pb])) D = some (.lst (done.map V.int)) := by rw [upd_ne DW]; exact hD1
      generalize upd G1 Wa (.lst ((qs.map fun p => V.ref p.1) ++ [V.ref pb])) = G3 at *
      refine ⟨_, rfl, .inl ⟨rfl, _, SqL.of hW3⟩, _, rfl, b, C, dx, _, _, rfl, s3 _ _ k1, S.cl, S.nL, s_left _ _ _ _ _ _, Wa, _, _, rfl, rfl, hW3, by rw [List.length_append, List.length_map, sizeLine_eq]; show qs.length + 1 < _; omega, ?_⟩
      refine ⟨_, ?_, (qs ++ [(pb, r)]) ++ [(pa, l)], done, _, rfl, g2 G3 _ s3, by rw [upd_ne DW]; exact hD3, by rw [upd_same, List.map_append, List.map_append]; rfl, fun p hp => ?_, ?_, rfl, ?_⟩
      · rw [en]; simp [Spn.nodes]; omega
      · rcases List.mem_append.mp hp with hp | hp
        · rcases List.mem_append.mp hp with hp | hp
          · exact hq p hp
          · rw [List.mem_singleton.mp hp]; exact k3
        · rw [List.mem_singleton.mp hp]; exact k2
      · rw [← eb']; simp [Spn.bytes]
      · simp [Spn.nodes] at en ⊢; omega
end
end Ov
namespace Ov
open PySem PySem.Spec PyProof.Rows L2
/-! ### a buffer as it stands -/
def bfld (x sn ed : Addr) : List (Str × V) := putF "edits" (.ref ed) (putF "span" (.ref sn) (putF "instruction_set" (.ref x) []))
theorem b_set (x sn ed : Addr) : (bfld x sn ed).lookup ("instruction_set" : Str) = some (.ref x) := by
  unfold bfld
  rw [lookup_putF, if_neg (by decide +kernel), lookup_putF, if_neg (by decide +kernel), lookup_putF, if_pos rfl]
theorem b_span (x sn ed : Addr) : (bfld x sn ed).lookup ("span" : Str) = some (.ref sn) := by
  unfold bfld
  rw [lookup_putF, if_neg (by decide +kernel), lookup_putF, if_pos rfl]
theorem b_edits (x sn ed : Addr) : (bfld x sn ed).lookup ("edits" : Str) = some (.ref ed) := by
  unfold bfld
  rw [lookup_putF, if_pos rfl]
theorem b_put (x sn ed v : Addr) : putF "span" (.ref v) (bfld x sn ed) = bfld x v ed := by
  have n1 : ¬ (("instruction_set" : Str) = "span") := by decide +kernel
  have n2 : ¬ (("instruction_set" : Str) = "edits") := by decide +kernel
  have n3 : ¬ (("span" : Str) = "edits") := by decide +kernel
  have n4 : ¬ (("edits" : Str) = "span") := by decide +kernel
  simp only [bfld, putF, if_neg n1, if_neg n2, if_neg n3, if_neg n4, if_true]
theorem b_row (x sn ed : Addr) : (bfld x sn ed).lookup ("row" : Str) = none := by
  unfold bfld
  rw [lookup_putF, if_neg (by decide +kernel), lookup_putF, if_neg (by decide +kernel), lookup_putF, if_neg (by decide +kernel)]
  rfl
/-- what the top says of the class -/
structure BufTxt (K : PySem.W.Frag) (mg : Str → Option Value) (C : Addr) : Prop where
  cl : Cls K C
  nI : NoAttr K C "instruction_set"
  nS : NoAttr K C "span"
  nE : NoAttr K C "edits"
  mgC : mg "CodeBuffer" = some (.ref C)
/-- an edit that can be taken back: the span before it, where, how many bytes for how many -/
abbrev Edit := Spn × Nat × Nat × Nat
def EdAt (K : PySem.W.Frag) (C : Addr) (mp : List Int → List PM) (H : Hp) (v : V) (e : Edit) : Prop :=
  ∃ r sb : Addr, v = .ref r ∧ H r = some (.tup [.ref sb, .int (e.2.1 : Int), .int (e.2.2.1 : Int), .int (e.2.2.2 : Int)]) ∧ SpanAt K C mp H sb e.1 ∧ e.1.ok
inductive EdsAt (K : PySem.W.Frag) (C : Addr) (mp : List Int → List PM) (H : Hp) : List V → List Edit → Prop
  | nil : EdsAt K C mp H [] []
  | cons {v : V} {e : Edit} {vs : List V} {es : List Edit} : EdAt K C mp H v e → EdsAt K C mp H vs es → EdsAt K C mp H (v :: vs) (e :: es)
/-- only the buffer p and its list of edits change -/
def But2 (p ed : Addr) (H H' : Hp) : Prop := ∀ b o, H b = some o → b ≠ p → b ≠ ed → H' b = some o
theorem But2.of {p ed : Addr} {H H' : Hp} (s : Same H H') : But2 p ed H H' := fun b o e _ _ => s b o e
theorem But2.trans {p ed : Addr} {H H1 H2 : Hp} (a : But2 p ed H H1) (b : But2 p ed H1 H2) : But2 p ed H H2 := fun c o e n m => b c o (a c o e n m) n m
structure BufAt (K : PySem.W.Frag) (C CB : Addr) (mp : List Int → List PM) (H : Hp) (p x ed : Addr) (t : Spn) (es : List Edit) : Prop where
  ob : ∃ (dx sn : Addr) (vs : List V), H p = some (.ins CB dx (bfld x sn ed)) ∧ SpanAt K C mp H sn t ∧ H ed = some (.lst vs) ∧ EdsAt K C mp H vs es
  ok : t.ok
  few : t.size ≤ 10 ^ 15
theorem MapAt.but2 {p ed x sn dx CB : Addr} {H H' : Hp} {vs : List V} {m : Addr} {ms : List PM} (hp : H p = some (.ins CB dx (bfld x sn ed))) (he : H ed = some (.lst vs)) (s : But2 p ed H H') (h : MapAt H m ms) : MapAt H' m ms := by
  obtain ⟨ps, h1, h2, h3⟩ := h
  have go : ∀ {a : Addr} {us : List V}, H a = some (.tup us) → H' a = some (.tup us) := fun {a us} e => s _ _ e (fun z => by rw [z, hp] at e; cases e) (fun z => by rw [z, he] at e; cases e)
  exact ⟨ps, go h1, h2, fun i a m e1 e2 => go (h3 i a m e1 e2)⟩
theorem SqT.but2 {K : PySem.W.Frag} {p ed x sn dx CB a : Addr} {H H' : Hp} {vs us : List V} (hp : H p = some (.ins CB dx (bfld x sn ed))) (he : H ed = some (.lst vs)) (s : But2 p ed H H') (h : SqT K H a us) : SqT K H' a us := by
  have ne : ∀ {a : Addr} {o : HO}, H a = some o → (∀ d fs, o ≠ .ins CB d fs) → (∀ ws, o ≠ .lst ws) → H' a = some o := fun {a o} e n1 n2 => s _ _ e (fun z => by rw [z, hp] at e; exact n1 _ _ (Option.some.inj e).symm) (fun z => by rw [z, he] at e; exact n2 _ (Option.some.inj e).symm)
  rcases h with (h | ⟨o, h⟩) | h
  · exact .inl (.inl (ne h (fun _ _ z => nomatch z) fun _ z => nomatch z))
  · exact .inl (.inr ⟨o, ne h (fun _ _ z => nomatch z) fun _ z => nomatch z⟩)
  · exact .inr h
theorem SpanAt.but2 {K : PySem.W.Frag} {C CB p ed x sn dx : Addr} {mp : List Int → List PM} {H H' : Hp} {vs : List V} (hp : H p = some (.ins CB dx (bfld x sn ed))) (he : H ed = some (.lst vs)) (s : But2 p ed H H') : ∀ {t : Spn} {a : Addr}, SpanAt K C mp H a t → SpanAt K C mp H' a t := by
  have go : ∀ {a d : Addr} {rw lf rt sm : V} {sz ht : Nat}, H a = some (.ins C d (sfld rw lf rt sm sz ht)) → H' a = some (.ins C d (sfld rw lf rt sm sz ht)) := fun {a d rw lf rt sm sz ht} e => s _ _ e (fun z => by
    rw [z, hp] at e
    have e2 := (HO.ins.inj (Option.some.inj e)).2.2
    have e3 := b_row x sn ed
    rw [e2, s_row] at e3
    cases e3) (fun z => by rw [z, he] at e; cases e)
  intro t
  induction t with
  | row bs => exact fun {a} ⟨d, c, m, h1, h2, h3⟩ => ⟨d, c, m, go h1, Ov.SqT.but2 hp he s h2, h3.but2 hp he s⟩
  | pair l r ihl ihr => exact fun {a} ⟨d, u, v, m, h1, h2, h3, h4⟩ => ⟨d, u, v, m, go h1, ihl h2, ihr h3, h4.but2 hp he s⟩
theorem EdsAt.but2 {K : PySem.W.Frag} {C CB p ed x sn dx : Addr} {mp : List Int → List PM} {H H' : Hp} {vs us : List V} {es : List Edit} (hp : H p = some (.ins CB dx (bfld x sn ed))) (he : H ed = some (.lst vs)) (s : But2 p ed H H') (h : EdsAt K C mp H us es) : EdsAt K C mp H' us es := by
  induction h with
  | nil => exact .nil
  | cons a _ ih =>
    obtain ⟨r, sb, e1, e2, e3, e4⟩ := a
    exact .cons ⟨r, sb, e1, s _ _ e2 (fun z => by rw [z, hp] at e2; cases e2) (fun z => by rw [z, he] at e2; cases e2), e3.but2 hp he s, e4⟩ ih
theorem EdsAt.snoc {K : PySem.W.Frag} {C : Addr} {mp : List Int → List PM} {H : Hp} {us : List V} {es : List Edit} {v : V} {e : Edit} (h : EdsAt K C mp H us es) (a : EdAt K C mp H v e) : EdsAt K C mp H (us ++ [v]) (es ++ [e]) := by
  induction h with
  | nil => exact .cons a .nil
  | cons b _ ih => exact .cons b ih
theorem EdsAt.same {K : PySem.W.Frag} {C : Addr} {mp : List Int → List PM} {H G : Hp} {us : List V} {es : List Edit} (h : EdsAt K C mp H us es) (s : Same H G) : EdsAt K C mp G us es := by
  induction h with
  | nil => exact .nil
  | cons a _ ih =>
    obtain ⟨r, sb, e1, e2, e3, e4⟩ := a
    exact .cons ⟨r, sb, e1, s _ _ e2, e3.same s, e4⟩ ih
theorem BufAt.same {K : PySem.W.Frag} {C CB p x ed : Addr} {mp : List Int → List PM} {H G : Hp} {t : Spn} {es : List Edit} (h : BufAt K C CB mp H p x ed t es) (s : Same H G) : BufAt K C CB mp G p x ed t es := by
  obtain ⟨⟨dx, sn, vs, h1, h2, h3, h4⟩, ok, few⟩ := h
  exact ⟨⟨dx, sn, vs, s _ _ h1, h2.same s, s _ _ h3, h4.same s⟩, ok, few⟩
section
variable {P : Program} {w : World} {K : PySem.W.Frag} {mg : Str → Option Value} {base : Heap}
/-! ### length -/
abbrev sBLength : Stmt := inClass cCodeBuffer 6
def spBLength (K : PySem.W.Frag) (C CB : Addr) : Sp := fun vs H Q _ => ∃ (p x ed : Addr) (mp : List Int → List PM) (t : Spn) (es : List Edit), vs = [.ref p] ∧ BufAt K C CB mp H p x ed t es ∧ Q (.int (t.size : Int)) H
theorem scBLength : FnScope ["self"] ["self"] (defScope sBLength) := ⟨rfl, rfl, rfl, by decide +kernel, rfl, by decide +kernel, by decide +kernel⟩
theorem ok_bLength {f C CB : Addr} {fd : FuncData} {k : Nat} (F : Fun K "length" "CodeBuffer.length" sBLength f fd) (S : SpanTxt K mg C) (B : BufTxt K mg CB) : FnOk P w K mg base CX0 (k + 1) f fd ["self"] (spBLength K C CB) := by
  refine F.ok scBLength (fun vs H Q E h => ?_) (fun cdv A' outer s H vs Q E hr h => ?_)
  · obtain ⟨p, x, ed, mp, t, es, rfl, _⟩ := h
    rfl
  · obtain ⟨p, x, ed, mp, t, es, rfl, hB, q⟩ := h
    refine ⟨_, pss_one (ps_ret (pe_fld (pe_fld (pv 0) rfl) rfl)), ?_⟩
    obtain ⟨dx, sn, vs, h1, h2, h3, h4⟩ := hB.ob
    obtain ⟨ds, ms, _, _, _, hs, _⟩ := h2.show
    exact ⟨_, rfl, p, CB, dx, _, _, rfl, h1, B.cl, B.nS, b_span _ _ _, sn, C, ds, _, _, rfl, hs, S.cl, S.nS, s_size _ _ _ _ _ _, q⟩
end
end Ov
namespace Ov
open PySem PySem.Spec PyProof.Rows L2
section
variable {P : Program} {w : World} {K : PySem.W.Frag} {mg : Str → Option Value} {base : Heap}
/-! ### between -/
abbrev sBBetween : Stmt := inClass cCodeBuffer 17
def spBBetween (K : PySem.W.Frag) (C0 C CB : Addr) : Sp := fun vs H Q _ => ∃ (p x ed it : Addr) (cnt lg : Nat) (is : List I4) (rs : List Addr) (t : Spn) (es : List Edit) (st sp : Nat), vs = [.ref p, .int (st : Int), .int (sp : Int)] ∧ BufAt K C CB (mpOf is) H p x ed t es ∧ Mach C0 H x cnt lg it is rs ∧ st ≤ sp ∧ sp ≤ t.size ∧
  ∀ H' q u, Same H H' → SpanAt K C (mpOf is) H' q u → u.ok → u.bytes = (t.bytes.take sp).drop st → Q (.ref q) H'
theorem scBBetween : FnScope ["self", "start", "stop"] ["self", "start", "stop"] (defScope sBBetween) := ⟨rfl, rfl, rfl, by decide +kernel, rfl, by decide +kernel, by decide +kernel⟩
theorem ok_bBetween {f fP C0 C CB : Addr} {fd fdP : FuncData} {k : Nat} (F : Fun K "between" "CodeBuffer.between" sBBetween f fd) (B : BufTxt K mg CB)
    (Pt : Def K mg "part" s_part fP fdP ["instruction_set", "span", "start", "stop"]) (GP : FnOk P w K mg base CX0 k fP fdP ["instruction_set", "span", "start", "stop"] (spPart K C0 C)) :
    FnOk P w K mg base CX0 (k + 1) f fd ["self", "start", "stop"] (spBBetween K C0 C CB) := by
  refine F.ok scBBetween (fun vs H Q E h => ?_) (fun cdv A' outer s H vs Q E hr h => ?_)
  · obtain ⟨p, x, ed, it, cnt, lg, is, rs, t, es, st, sp, rfl, _⟩ := h
    rfl
  · obtain ⟨p, x, ed, it, cnt, lg, is, rs, t, es, st, sp, rfl, hB, MA, h12, h2t, q⟩ := h
    refine ⟨_, pss_one (ps_ret (pe_call GP hr (by rfl) Pt.gl Pt.fn.kp Pt.bi .nil pass0 (pa_cons (pe_fld (pv 0) rfl) (pa_cons (pe_fld (pv 0) rfl) (pa_cons (pv 1) (pa_cons (pv 2) pa_nil)))))), ?_⟩
    obtain ⟨⟨dx, sn, vs, h1, h2, h3, h4⟩, okt, big⟩ := hB
    exact ⟨_, rfl, p, CB, dx, _, _, rfl, h1, B.cl, B.nI, b_set _ _ _, _, rfl, p, CB, dx, _, _, rfl, h1, B.cl, B.nS, b_span _ _ _, _, rfl, _, rfl, x, it, sn, cnt, lg, is, rs, t, st, sp, rfl, MA, h2, okt, h12, h2t, by omega, q⟩
end
end Ov
namespace Ov
open PySem PySem.Spec PyProof.Rows L2
theorem b_btw (x sn ed : Addr) : (bfld x sn ed).lookup ("between" : Str) = none := by
  unfold bfld
  rw [lookup_putF, if_neg (by decide +kernel), lookup_putF, if_neg (by decide +kernel), lookup_putF, if_neg (by decide +kernel)]
  rfl
section
variable {P : Program} {w : World} {K : PySem.W.Frag} {mg : Str → Option Value} {base : Heap}
/-! ### countdown_between -/
abbrev sBCdb : Stmt := inClass cCodeBuffer 18
def spBCdb (K : PySem.W.Frag) (C0 C CB : Addr) : Sp := fun vs H Q _ => ∃ (p x ed it : Addr) (cnt lg : Nat) (is : List I4) (rs : List Addr) (t : Spn) (es : List Edit) (st sp : Nat), vs = [.ref p, .int (st : Int), .int (sp : Int)] ∧ BufAt K C CB (mpOf is) H p x ed t es ∧ Mach C0 H x cnt lg it is rs ∧ st ≤ sp ∧ sp ≤ t.size ∧
  ∀ H', Same H H' → Q (optN (cdEnd (laOf is) (some 0) ((t.bytes.take sp).drop st))) H'
theorem scBCdb : FnScope ["self", "entry", "offset", "countdown", "begun"] ["self", "entry", "offset"] (defScope sBCdb) := ⟨rfl, rfl, rfl, by decide +kernel, rfl, by decide +kernel, by decide +kernel⟩
theorem ok_bCdb {f fB C0 C CB : Addr} {fd fdB : FuncData} {k : Nat} (F : Fun K "countdown_between" "CodeBuffer.countdown_between" sBCdb f fd) (S : SpanTxt K mg C) (B : BufTxt K mg CB)
    (MB : Meth K CB "between" fB) (bB : Binds K fdB ["self", "start", "stop"] []) (GB : FnOk P w K mg base CX0 k fB fdB ["self", "start", "stop"] (spBBetween K C0 C CB)) :
    FnOk P w K mg base CX0 (k + 1) f fd ["self", "entry", "offset"] (spBCdb K C0 C CB) := by
  refine F.ok scBCdb (fun vs H Q E h => ?_) (fun cdv A' outer s H vs Q E hr h => ?_)
  · obtain ⟨p, x, ed, it, cnt, lg, is, rs, t, es, st, sp, rfl, _⟩ := h
    rfl
  · obtain ⟨p, x, ed, it, cnt, lg, is, rs, t, es, st, sp, rfl, hB, MA, h12, h2t, q⟩ := h
    refine ⟨_, pss_cons (ps_asg (pe_ix ix_tup (pe_fld (pe_meth (pv 0) B.cl MB GB hr bB .nil pass0 (pa_cons (pv 1) (pa_cons (pv 2) pa_nil))) rfl) pe_int (fun _ _ => rfl)) (pg_tup rfl (pgs_cons (pg_name (i := 3) scBCdb.nd rfl (.inl rfl)) (pgs_cons (pg_name (i := 4) scBCdb.nd rfl (.inl rfl)) pgs_nil))))
      (pss_one (ps_ret (pv 3))), ?_⟩
    obtain ⟨dx, sn, vs, h1, _⟩ := hB.ob
    refine ⟨_, rfl, p, dx, _, rfl, h1, b_btw _ _ _, _, rfl, _, rfl, p, x, ed, it, cnt, lg, is, rs, t, es, st, sp, rfl, hB, MA, h12, h2t, fun H1 q1 u s1 A1 o1 e1 => ?_⟩
    obtain ⟨ds, ms, _, _, _, hs, hm⟩ := A1.show
    obtain ⟨ps, m1, m2, m3⟩ := hm.pair
    have l1 := (lon_le MA.ok).1
    have g0 : (mpOf is u.bytes)[0]? = some (cdEnd (laOf is) (some 0) u.bytes, (stF (laOf is) 0 (some 0) u.bytes).length) := by
      unfold mpOf mapOf
      rw [List.getElem?_map, List.getElem?_range (by omega)]
      rfl
    obtain ⟨a0, k1, k2⟩ := m3 0 _ g0
    refine ⟨q1, C, ds, _, _, rfl, hs, S.cl, S.nM, s_sum _ _ _ _ _ _, ms, _, 0, _, rfl, rfl, SqT.of m1, atI_nat (j := 0) k1, ?_⟩
    refine ⟨a0, _, rfl, SqT.of k2, rfl, _, _, rfl, _, _, rfl, rfl, ?_⟩
    rw [e1]
    exact ⟨_, rfl, q _ s1⟩
end
end Ov
namespace Ov
open PySem PySem.Spec PyProof.Rows L2
theorem b_no (x sn ed : Addr) {m : Str} (h1 : ¬ (m = "edits")) (h2 : ¬ (m = "span")) (h3 : ¬ (m = "instruction_set")) : (bfld x sn ed).lookup m = none := by
  unfold bfld
  rw [lookup_putF, if_neg h1, lookup_putF, if_neg h2, lookup_putF, if_neg h3]
  rfl
section
variable {P : Program} {w : World} {K : PySem.W.Frag} {mg : Str → Option Value} {base : Heap}
/-! ### check_offset, check_range of what is in order; code -/
abbrev sBChO : Stmt := inClass cCodeBuffer 14
abbrev sBChR : Stmt := inClass cCodeBuffer 15
abbrev sBCode : Stmt := inClass cCodeBuffer 7
def spBChO (K : PySem.W.Frag) (C CB : Addr) : Sp := fun vs H Q _ => ∃ (p x ed : Addr) (mp : List Int → List PM) (t : Spn) (es : List Edit) (v lo : Nat), vs = [.ref p, .int (v : Int), .int (lo : Int)] ∧ BufAt K C CB mp H p x ed t es ∧ lo ≤ v ∧ v ≤ t.size ∧ Q .non H
theorem scBChO : FnScope ["self", "value", "least"] ["self", "value", "least"] (defScope sBChO) := ⟨rfl, rfl, rfl, by decide +kernel, rfl, by decide +kernel, by decide +kernel⟩
theorem ok_bChO {f fB C CB : Addr} {fd fdB : FuncData} {k : Nat} (F : Fun K "check_offset" "CodeBuffer.check_offset" sBChO f fd) (S : SpanTxt K mg C) (B : BufTxt K mg CB)
    (Bt : Def K mg "is_integer_between" sBetween fB fdB ["value", "least", "most"]) (GB : FnOk P w K mg base CX0 k fB fdB ["value", "least", "most"] spBetween) :
    FnOk P w K mg base CX0 (k + 1) f fd ["self", "value", "least"] (spBChO K C CB) := by
  refine F.ok scBChO (fun vs H Q E h => ?_) (fun cdv A' outer s H vs Q E hr h => ?_)
  · obtain ⟨p, x, ed, mp, t, es, v, lo, rfl, _⟩ := h
    rfl
  · obtain ⟨p, x, ed, mp, t, es, v, lo, rfl, hB, h1, h2, q⟩ := h
    refine ⟨_, pss_one (ps_if (pt_not (pt_val (pe_call GB hr (by rfl) Bt.gl Bt.fn.kp Bt.bi .nil pass0 (pa_cons (pv 1) (pa_cons (pv 2) (pa_cons (pe_fld (pe_fld (pv 0) rfl) rfl) pa_nil)))))) (pss_one ps_never) pss_nil), ?_⟩
    obtain ⟨dx, sn, vs, hp, hs, _⟩ := hB.ob
    obtain ⟨ds, ms, _, _, _, ha, _⟩ := hs.show
    exact ⟨_, rfl, _, rfl, _, rfl, p, CB, dx, _, _, rfl, hp, B.cl, B.nS, b_span _ _ _, sn, C, ds, _, _, rfl, ha, S.cl, S.nS, s_size _ _ _ _ _ _, _, _, _, rfl, by omega, by omega, _, rfl, iteF q⟩
def spBChR (K : PySem.W.Frag) (C CB : Addr) : Sp := fun vs H Q _ => ∃ (p x ed : Addr) (mp : List Int → List PM) (t : Spn) (es : List Edit) (st sp lo : Nat), vs = [.ref p, .int (st : Int), .int (sp : Int), .int (lo : Int)] ∧ BufAt K C CB mp H p x ed t es ∧ lo ≤ st ∧ st ≤ sp ∧ sp ≤ t.size ∧ Q .non H
theorem scBChR : FnScope ["self", "start", "stop", "least"] ["self", "start", "stop", "least"] (defScope sBChR) := ⟨rfl, rfl, rfl, by decide +kernel, rfl, by decide +kernel, by decide +kernel⟩
theorem ok_bChR {f fO C CB : Addr} {fd fdO : FuncData} {k : Nat} (F : Fun K "check_range" "CodeBuffer.check_range" sBChR f fd) (B : BufTxt K mg CB)
    (MO : Meth K CB "check_offset" fO) (bO : Binds K fdO ["self", "value", "least"] []) (GO : FnOk P w K mg base CX0 k fO fdO ["self", "value", "least"] (spBChO K C CB)) :
    FnOk P w K mg base CX0 (k + 1) f fd ["self", "start", "stop", "least"] (spBChR K C CB) := by
  refine F.ok scBChR (fun vs H Q E h => ?_) (fun cdv A' outer s H vs Q E hr h => ?_)
  · obtain ⟨p, x, ed, mp, t, es, st, sp, lo, rfl, _⟩ := h
    rfl
  · obtain ⟨p, x, ed, mp, t, es, st, sp, lo, rfl, hB, h0, h1, h2, q⟩ := h
    refine ⟨_, pss_cons (ps_expr (pe_meth (pv 0) B.cl MO GO hr bO .nil pass0 (pa_cons (pv 1) (pa_cons (pv 3) pa_nil))))
      (pss_one (ps_expr (pe_meth (pv 0) B.cl MO GO hr bO .nil pass0 (pa_cons (pv 2) (pa_cons (pv 1) pa_nil))))), ?_⟩
    obtain ⟨dx, sn, vs, hp, _⟩ := hB.ob
    have no := b_no x sn ed (m := "check_offset") (by decide +kernel) (by decide +kernel) (by decide +kernel)
    exact ⟨_, rfl, p, dx, _, rfl, hp, no, _, rfl, _, rfl, p, x, ed, mp, t, es, st, lo, rfl, hB, h0, by omega, _, rfl, p, dx, _, rfl, hp, no, _, rfl, _, rfl, p, x, ed, mp, t, es, sp, st, rfl, hB, h1, h2, q⟩
end
end Ov
namespace Ov
open PySem PySem.Spec PyProof.Rows L2
section
variable {P : Program} {w : World} {K : PySem.W.Frag} {mg : Str → Option Value} {base : Heap}
/-! ### code, countdown -/
def spBCode (K : PySem.W.Frag) (C0 C CB : Addr) : Sp := fun vs H Q _ => ∃ (p x ed it : Addr) (cnt lg : Nat) (is : List I4) (rs : List Addr) (t : Spn) (es : List Edit) (st sp : Nat), vs = [.ref p, .int (st : Int), .int (sp : Int)] ∧ BufAt K C CB (mpOf is) H p x ed t es ∧ Mach C0 H x cnt lg it is rs ∧ st ≤ sp ∧ sp ≤ t.size ∧ sp - st ≤ 100000 ∧
  ∀ H' r, Same H H' → H' r = some (.tup (((t.bytes.take sp).drop st).map V.int)) → Q (.ref r) H'
theorem scBCode : FnScope ["self", "start", "stop"] ["self", "start", "stop"] (defScope sBCode) := ⟨rfl, rfl, rfl, by decide +kernel, rfl, by decide +kernel, by decide +kernel⟩
theorem ok_bCode {f fR fB fY C0 C CB : Addr} {fd fdR fdB fdY : FuncData} {k : Nat} (F : Fun K "code" "CodeBuffer.code" sBCode f fd) (B : BufTxt K mg CB) (mS : ∃ t, mg "MOST_BYTES_SHOWN" = some (.int 100000 t))
    (MR : Meth K CB "check_range" fR) (bR : Binds K fdR ["self", "start", "stop", "least"] []) (GR : FnOk P w K mg base CX0 k fR fdR ["self", "start", "stop", "least"] (spBChR K C CB))
    (MB : Meth K CB "between" fB) (bB : Binds K fdB ["self", "start", "stop"] []) (GB : FnOk P w K mg base CX0 k fB fdB ["self", "start", "stop"] (spBBetween K C0 C CB))
    (Y : Def K mg "bytes_of" s_bytes_of fY fdY ["span"]) (GY : FnOk P w K mg base CX0 k fY fdY ["span"] (spBytesOf K C)) :
    FnOk P w K mg base CX0 (k + 1) f fd ["self", "start", "stop"] (spBCode K C0 C CB) := by
  obtain ⟨tS, mS⟩ := mS
  refine F.ok scBCode (fun vs H Q E h => ?_) (fun cdv A' outer s H vs Q E hr h => ?_)
  · obtain ⟨p, x, ed, it, cnt, lg, is, rs, t, es, st, sp, rfl, _⟩ := h
    rfl
  · obtain ⟨p, x, ed, it, cnt, lg, is, rs, t, es, st, sp, rfl, hB, MA, h12, h2t, few, q⟩ := h
    refine ⟨_, pss_cons (ps_expr (pe_meth (pv 0) B.cl MR GR hr bR .nil pass0 (pa_cons (pv 1) (pa_cons (pv 2) (pa_cons pe_int pa_nil)))))
      (pss_cons (ps_if (pt_cmpR op_gt (pe_op op_sub (pv 2) (pv 1)) (pe_glob (v := .int 100000) (by rfl) mS ⟨_, rfl⟩) (nomark _)) (pss_one ps_never) pss_nil)
      (pss_one (ps_ret (pe_call GY hr (by rfl) Y.gl Y.fn.kp Y.bi .nil pass0 (pa_cons (pe_meth (pv 0) B.cl MB GB hr bB .nil pass0 (pa_cons (pv 1) (pa_cons (pv 2) pa_nil))) pa_nil))))), ?_⟩
    obtain ⟨dx, sn, vs, hp, _⟩ := hB.ob
    have no := b_no x sn ed (m := "check_range") (by decide +kernel) (by decide +kernel) (by decide +kernel)
    refine ⟨_, rfl, p, dx, _, rfl, hp, no, _, rfl, _, rfl, p, x, ed, _, t, es, st, sp, 0, rfl, hB, Nat.zero_le _, h12, h2t, ?_⟩
    refine ⟨_, rfl, _, rfl, _, _, rfl, rfl, _, _, rfl, rfl, _, rfl, ?_⟩
    rw [decide_eq_false (show ¬ ((100000 : Int) < (sp : Int) - (st : Int)) by omega)]
    refine iteF ⟨_, rfl, p, dx, _, rfl, hp, b_btw _ _ _, _, rfl, _, rfl, p, x, ed, it, cnt, lg, is, rs, t, es, st, sp, rfl, hB, MA, h12, h2t, fun H1 q1 u s1 A1 o1 e1 => ?_⟩
    have z : u.size = sp - st := by
      rw [Spn.size_eq, e1, List.length_drop, List.length_take, ← Spn.size_eq]
      omega
    refine ⟨q1, _, u, rfl, A1, o1, by omega, fun H2 r s2 h2 => q H2 r (s1.trans s2) ?_⟩
    rw [h2, e1]
end
end Ov
namespace Ov
open PySem PySem.Spec PyProof.Rows L2
section
variable {P : Program} {w : World} {K : PySem.W.Frag} {mg : Str → Option Value} {base : Heap}
/-! ### is_code of a code -/
def spCodeY (K : PySem.W.Frag) (C : Addr) : Sp := fun vs H Q _ => ∃ (p it c : Addr) (cnt : Nat) (is : List I4) (bs : List Int), vs = [.ref p, .ref c] ∧ SetAt C H p cnt it is ∧ SqT K H c (bs.map V.int) ∧ bs.length ≤ 100000 ∧ (∀ b ∈ bs, 0 ≤ b ∧ b < (cnt : Int)) ∧ ∀ H', Same H H' → Q (.bl true) H'
theorem scCodeY : FnScope ["instruction_set", "value", "greatest", "byte"] ["instruction_set", "value"] (defScope sIsCode) := ⟨rfl, rfl, rfl, by decide +kernel, rfl, by decide +kernel, by decide +kernel⟩
theorem ok_codeY {f fB C : Addr} {fd fdB : FuncData} {k : Nat} (F : Fun K "is_code" "is_code" sIsCode f fd) (T : Bi mg) (S : SetTxt K mg C)
    (B : Def K mg "is_integer_between" sBetween fB fdB ["value", "least", "most"]) (GB : FnOk P w K mg base CX0 k fB fdB ["value", "least", "most"] spBetween) : FnOk P w K mg base CX0 (k + 1) f fd ["instruction_set", "value"] (spCodeY K C) := by
  refine F.ok scCodeY (fun vs H Q E h => ?_) (fun cdv A' outer s H vs Q E hr h => ?_)
  · obtain ⟨p, it, c, cnt, is, bs, rfl, _⟩ := h
    rfl
  · obtain ⟨p, it, c, cnt, is, bs, rfl, SA, hc, hb, low, q⟩ := h
    refine ⟨_, pss_cons (ps_if (pt_not (pt_val (pe_callB call_isi (by rfl) T.isi (by decide +kernel) (pa_cons (pv 1) (pa_cons (pe_bltn (v := .ty "tuple") (u := .type "tuple") (by rfl) T.tuple (by decide +kernel) rfl) pa_nil))))) (pss_one (ps_ret pe_bl)) pss_nil)
      (pss_cons (ps_set (i := 2) scCodeY.nd rfl (.inr rfl) (pe_op op_sub (pe_fld (pv 0) rfl) pe_int))
      (pss_one (ps_ret (pe_callB (cr_all rfl) (by rfl) T.all (by decide +kernel) (pa_cons
        (pe_lc (own := [("byte", 3)]) (g := gName 3) (tt := tYes) (by rfl) scCodeY.nd (pi_tup (pv 1)) (blkOk_by (own := [("byte", 3)]) (N := ["instruction_set", "value", "greatest", "byte"]) (sc := defScope sIsCode) (by decide +kernel))
          (fun _ _ _ _ _ => pg_name (i := 3) scCodeY.nd rfl (Or.inl rfl)) (fun _ _ _ _ _ => pts_nil)
          (fun _ _ _ _ _ => pe_call GB hr (by rfl) B.gl B.fn.kp B.bi .nil pass0 (pa_cons (pv 3) (pa_cons pe_int (pa_cons (pv 2) pa_nil))))) pa_nil))))), ?_⟩
    have Dc : Dx K H (.ref c) (.tuple (bs.map PyData.int)) := .tup hc (dx_ints bs)
    obtain ⟨dx, d1, d2, hp, _, _⟩ := SA.ob
    refine ⟨_, rfl, _, _, _, _, _, rfl, .ty _, Dc.ty, kit_ty (kit_t _), _, rfl, iteF ?_⟩
    refine ⟨_, rfl, p, C, dx, _, _, rfl, hp, S.cl, S.nB, flds_cnt _ _ _ _, _, _, rfl, rfl, ?_⟩
    refine ⟨_, rfl, c, rfl, ⟨_, hc⟩, fun D nD => lc_tup (K := K) (a := c) (xs := bs.map V.int) (fun i H2 => Mk H H2 D ((List.replicate i true).map V.bl)) (.start nD) (fun i H2 _ p => p.same.tup hc) ?_ ?_⟩
    · intro i x H2 hx mk
      rw [List.getElem?_map] at hx
      obtain ⟨b, hbx, rfl⟩ := Option.map_eq_some_iff.mp hx
      have hi := (List.getElem?_eq_some_iff.mp hbx).1
      have lo := low b (List.mem_of_getElem? hbx)
      refine ⟨rfl, _, rfl, _, rfl, _, _, _, rfl, by omega, by omega, _, mk.at_, by rw [List.length_map, List.length_replicate, sizeLine_eq]; omega, ?_⟩
      rw [List.replicate_succ', List.map_append]
      exact mk.put (Same.refl _)
    intro H2 mk
    refine ⟨D, _, rfl, SqL.of mk.at_, ?_⟩
    rw [all_true]
    exact q H2 mk.same
end
end Ov
namespace Ov
open PySem PySem.Spec PyProof.Rows L2
section
variable {P : Program} {w : World} {K : PySem.W.Frag} {mg : Str → Option Value} {base : Heap}
theorem scCkCode : FnScope ["instruction_set", "code"] ["instruction_set", "code"] (defScope s_check_code) := ⟨rfl, rfl, rfl, by decide +kernel, rfl, by decide +kernel, by decide +kernel⟩
def spCkCode (K : PySem.W.Frag) (C : Addr) : Sp := fun vs H Q _ => ∃ (p it c : Addr) (cnt : Nat) (is : List I4) (bs : List Int), vs = [.ref p, .ref c] ∧ SetAt C H p cnt it is ∧ SqT K H c (bs.map V.int) ∧ bs.length ≤ 100000 ∧ (∀ b ∈ bs, 0 ≤ b ∧ b < (cnt : Int)) ∧ ∀ H', Same H H' → Q .non H'
theorem ok_ckCode {f fY C : Addr} {fd fdY : FuncData} {k : Nat} (F : Fun K "check_code" "check_code" s_check_code f fd) (Y : Def K mg "is_code" sIsCode fY fdY ["instruction_set", "value"]) (GY : FnOk P w K mg base CX0 k fY fdY ["instruction_set", "value"] (spCodeY K C)) :
    FnOk P w K mg base CX0 (k + 1) f fd ["instruction_set", "code"] (spCkCode K C) := by
  refine F.ok scCkCode (fun vs H Q E h => ?_) (fun cdv A' outer s H vs Q E hr h => ?_)
  · obtain ⟨p, it, c, cnt, is, bs, rfl, _⟩ := h
    rfl
  · obtain ⟨p, it, c, cnt, is, bs, rfl, SA, hc, few, low, q⟩ := h
    refine ⟨_, pss_one (ps_if (pt_not (pt_val (pe_call GY hr (by rfl) Y.gl Y.fn.kp Y.bi .nil pass0 (pa_cons (pv 0) (pa_cons (pv 1) pa_nil))))) (pss_one ps_never) pss_nil), ?_⟩
    exact ⟨_, rfl, _, rfl, p, it, c, cnt, is, bs, rfl, SA, hc, few, low, fun H1 s1 => ⟨_, rfl, iteF (q H1 s1)⟩⟩
end
end Ov
namespace Ov
open PySem PySem.Spec PyProof.Rows L2
/-- what a map tells of a countdown -/
theorem map_tell {H : Hp} {m : Addr} {is : List I4} {bs : List Int} {c : Nat} (h : MapAt H m (mpOf is bs)) (hc : c < lonOf is) :
    ∃ (ps : List Addr) (a : Addr), H m = some (.tup (ps.map V.ref)) ∧ (ps.map V.ref)[c]? = some (V.ref a) ∧ H a = some (.tup [optN (cdEnd (laOf is) (some c) bs), natV (stF (laOf is) 0 (some c) bs).length]) := by
  obtain ⟨ps, m1, m2, m3⟩ := h.pair
  have g0 : (mpOf is bs)[c]? = some (cdEnd (laOf is) (some c) bs, (stF (laOf is) 0 (some c) bs).length) := by
    unfold mpOf mapOf
    rw [List.getElem?_map, List.getElem?_range hc]
    rfl
  obtain ⟨a0, k1, k2⟩ := m3 c _ g0
  exact ⟨ps, a0, m1, k1, k2⟩
theorem end_lt {cnt lg : Nat} {is : List I4} (ok : TabOk cnt lg is) {s : Option Nat} (h : ∀ n, s = some n → n < lonOf is) (bs : List Int) : ∀ n, cdEnd (laOf is) s bs = some n → n < lonOf is := cdEnd_lt lon_ge bs s h
theorem zero_lt {cnt lg : Nat} {is : List I4} (ok : TabOk cnt lg is) : ∀ n, some 0 = some n → n < lonOf is := fun n e => by
  have := (lon_le ok).1
  have : 0 = n := Option.some.inj e
  omega
end Ov
namespace Ov
open PySem PySem.Spec PyProof.Rows L2
/-- all but a new instance stays -/
theorem newI {H H' : Hp} {p CB dx : Addr} (hp : H p = some (.ins CB dx [])) (s : ∀ b o, H b = some o → b ≠ p → H' b = some o) {b : Addr} {o : HO} (e : H b = some o) (n : o ≠ .ins CB dx []) : H' b = some o := s b o e fun z => by
  rw [z, hp] at e
  exact n (Option.some.inj e).symm
theorem Mach.newI {C CB : Addr} {H H' : Hp} {x p dx : Addr} {cnt lg : Nat} {it : Addr} {is : List I4} {rs : List Addr} (hp : H p = some (.ins CB dx [])) (s : ∀ b o, H b = some o → b ≠ p → H' b = some o) (h : Mach C H x cnt lg it is rs) : Mach C H' x cnt lg it is rs := by
  obtain ⟨d, d1, d2, k1, k2, k3⟩ := h.at_.ob
  refine ⟨⟨d, d1, d2, Ov.newI hp s k1 fun z => ?_, Ov.newI hp s k2 (fun z => nomatch z), Ov.newI hp s k3 (fun z => nomatch z)⟩, Ov.newI hp s h.its (fun z => nomatch z), ⟨h.rows.1, fun i r y e1 e2 => Ov.newI hp s (h.rows.2 i r y e1 e2) (fun z => nomatch z)⟩, h.ok⟩
  have e := (HO.ins.inj z).2.2
  have e2 := flds_cnt cnt it d1 d2
  rw [e] at e2
  cases e2
theorem SqT.newI {K : PySem.W.Frag} {H H' : Hp} {p CB dx a : Addr} {us : List V} (hp : H p = some (.ins CB dx [])) (s : ∀ b o, H b = some o → b ≠ p → H' b = some o) (h : SqT K H a us) : SqT K H' a us := by
  rcases h with (h | ⟨o, h⟩) | h
  · exact .inl (.inl (Ov.newI hp s h fun z => nomatch z))
  · exact .inl (.inr ⟨o, Ov.newI hp s h fun z => nomatch z⟩)
  · exact .inr h
section
variable {K : PySem.W.Frag} {C CB p dx : Addr} {fs : List (Str × V)} {H H' : Hp}
theorem SqT.butF {a : Addr} {us : List V} (hp : H p = some (.ins CB dx fs)) (s : ∀ b o, H b = some o → b ≠ p → H' b = some o) (h : SqT K H a us) : SqT K H' a us := by
  have ne : ∀ {a : Addr} {o : HO}, H a = some o → (∀ d fs, o ≠ .ins CB d fs) → H' a = some o := fun {a o} e n1 => s _ _ e (fun z => by rw [z, hp] at e; exact n1 _ _ (Option.some.inj e).symm)
  rcases h with (h | ⟨o, h⟩) | h
  · exact .inl (.inl (ne h fun _ _ z => nomatch z))
  · exact .inl (.inr ⟨o, ne h fun _ _ z => nomatch z⟩)
  · exact .inr h
theorem MapAt.butF {m : Addr} {ms : List PM} (hp : H p = some (.ins CB dx fs)) (s : ∀ b o, H b = some o → b ≠ p → H' b = some o) (h : MapAt H m ms) : MapAt H' m ms := by
  obtain ⟨ps, h1, h2, h3⟩ := h
  have go : ∀ {a : Addr} {us : List V}, H a = some (.tup us) → H' a = some (.tup us) := fun {a us} e => s _ _ e (fun z => by rw [z, hp] at e; cases e)
  exact ⟨ps, go h1, h2, fun i a m e1 e2 => go (h3 i a m e1 e2)⟩
theorem SpanAt.butF {mp : List Int → List PM} (hp : H p = some (.ins CB dx fs)) (hw : fs.lookup ("row" : Str) = none) (s : ∀ b o, H b = some o → b ≠ p → H' b = some o) : ∀ {t : Spn} {a : Addr}, SpanAt K C mp H a t → SpanAt K C mp H' a t := by
  have go : ∀ {a d : Addr} {rw lf rt sm : V} {sz ht : Nat}, H a = some (.ins C d (sfld rw lf rt sm sz ht)) → H' a = some (.ins C d (sfld rw lf rt sm sz ht)) := fun {a d rw lf rt sm sz ht} e => s _ _ e (fun z => by
    rw [z, hp] at e
    have e2 := (HO.ins.inj (Option.some.inj e)).2.2
    rw [e2, s_row] at hw
    cases hw)
  intro t
  induction t with
  | row bs => exact fun {a} ⟨d, c, m, h1, h2, h3⟩ => ⟨d, c, m, go h1, Ov.SqT.butF hp s h2, h3.butF hp s⟩
  | pair l r ihl ihr => exact fun {a} ⟨d, u, v, m, h1, h2, h3, h4⟩ => ⟨d, u, v, m, go h1, ihl h2, ihr h3, h4.butF hp s⟩
end
section
variable {P : Program} {w : World} {K : PySem.W.Frag} {mg : Str → Option Value} {base : Heap}
/-! ### CodeBuffer.__init__ -/
abbrev sBInit : Stmt := inClass cCodeBuffer 0
def spBInit (K : PySem.W.Frag) (C0 C CB : Addr) (m : Nat) : Sp := fun vs H Q _ => ∃ (p dx x it c : Addr) (cnt lg : Nat) (is : List I4) (rs : List Addr) (bs : List Int), vs = [.ref p, .ref x, .ref c] ∧ H p = some (.ins CB dx []) ∧ Mach C0 H x cnt lg it is rs ∧ SqT K H c (bs.map V.int) ∧ (∀ b ∈ bs, 0 ≤ b ∧ b < (cnt : Int)) ∧ bs.length ≤ 32 * 2 ^ m ∧ bs.length ≤ 100000 ∧
  ∀ H' ed t, (∀ b o, H b = some o → b ≠ p → H' b = some o) → H ed = none → BufAt K C CB (mpOf is) H' p x ed t [] → t.bytes = bs → Q .non H'
theorem scBInit : FnScope ["self", "instruction_set", "code"] ["self", "instruction_set", "code"] (defScope sBInit) := ⟨rfl, rfl, rfl, by decide +kernel, rfl, by decide +kernel, by decide +kernel⟩
theorem ok_bInit {f fS fK e0 C0 C CB : Addr} {fd fdS fdK : FuncData} {k m : Nat} (F : FunD K "__init__" "CodeBuffer.__init__" (defArgs sBInit) (defBody sBInit) (defScope sBInit) [.ref e0] [] f fd) (S : SpanTxt K mg C) (B : BufTxt K mg CB)
    (Ck : Def K mg "check_code" s_check_code fK fdK ["instruction_set", "code"]) (GK : FnOk P w K mg base CX0 k fK fdK ["instruction_set", "code"] (spCkCode K C0))
    (So : Def K mg "span_of" s_span_of fS fdS ["instruction_set", "code"]) (GS : FnOk P w K mg base CX0 k fS fdS ["instruction_set", "code"] (spSpanOf K C0 C m)) :
    FnOk P w K mg base CX0 (k + 1) f fd ["self", "instruction_set", "code"] (spBInit K C0 C CB m) := by
  refine F.ok scBInit (fun vs H Q E h => ?_) (fun cdv A' outer s H vs Q E hr h => ?_)
  · obtain ⟨p, dx, x, it, c, cnt, lg, is, rs, bs, rfl, _⟩ := h
    rfl
  · obtain ⟨p, dx, x, it, c, cnt, lg, is, rs, bs, rfl, hp, MA, hc, low, l1, l2, q⟩ := h
    refine ⟨_, pss_cons (ps_expr (pe_call GK hr (by rfl) Ck.gl Ck.fn.kp Ck.bi .nil pass0 (pa_cons (pv 1) (pa_cons (pv 2) pa_nil))))
      (pss_cons (ps_fld (pv 0) (pv 1) rfl)
      (pss_cons (ps_fld (pv 0) (pe_call GS hr (by rfl) So.gl So.fn.kp So.bi .nil pass0 (pa_cons (pv 1) (pa_cons (pv 2) pa_nil))) rfl)
      (pss_one (ps_fld (pv 0) (pe_lst pa_nil) rfl)))), ?_⟩
    refine ⟨_, rfl, _, rfl, x, it, c, cnt, is, bs, rfl, MA.at_, hc, l2, low, fun H0 s0 => ?_⟩
    have hp0 := s0 _ _ hp
    refine ⟨_, rfl, _, rfl, p, CB, dx, [], rfl, hp0, B.cl, B.nI, (by show 0 < 1000; decide), ?_⟩
    have k1 : ∀ b o, H0 b = some o → b ≠ p → upd H0 p (.ins CB dx (putF "instruction_set" (.ref x) [])) b = some o := fun b o e n => by rw [upd_ne n]; exact e
    have p1 := @upd_same H0 p (.ins CB dx (putF "instruction_set" (.ref x) []))
    have M1 := (MA.same s0).newI hp0 k1
    have c1 := Ov.SqT.newI hp0 k1 (s0.tup hc)
    generalize upd H0 p (.ins CB dx (putF "instruction_set" (.ref x) [])) = H1 at *
    refine ⟨_, rfl, _, rfl, x, it, c, cnt, lg, is, rs, bs, rfl, M1, c1, l1, l2, fun H2 q1 t s2 A2 o2 e2 => ?_⟩
    refine ⟨_, rfl, p, CB, dx, _, rfl, s2 _ _ p1, B.cl, B.nS, (by show 1 < 1000; decide), ?_⟩
    have p2 := s2 _ _ p1
    have k3 : ∀ b o, H2 b = some o → b ≠ p → upd H2 p (.ins CB dx (putF "span" (.ref q1) (putF "instruction_set" (.ref x) []))) b = some o := fun b o e n => by rw [upd_ne n]; exact e
    have p3 := @upd_same H2 p (.ins CB dx (putF "span" (.ref q1) (putF "instruction_set" (.ref x) [])))
    have w1 : (putF "instruction_set" (V.ref x) []).lookup ("row" : Str) = none := by
      rw [lookup_putF, if_neg (by decide +kernel)]
      rfl
    have w2 : (putF "span" (V.ref q1) (putF "instruction_set" (V.ref x) [])).lookup ("row" : Str) = none := by
      rw [lookup_putF, if_neg (by decide +kernel)]
      exact w1
    have A3 := A2.butF p2 w1 k3
    generalize upd H2 p (.ins CB dx (putF "span" (.ref q1) (putF "instruction_set" (.ref x) []))) = H3 at *
    refine ⟨by show 0 ≤ sizeLine; decide, fun ed ned => ?_⟩
    have sx := same_upd (o := HO.lst []) ned
    have edp : ed ≠ p := fun z => by rw [z, p3] at ned; cases ned
    have p4 := sx _ _ p3
    refine ⟨_, rfl, p, CB, dx, _, rfl, p4, B.cl, B.nE, (by show 2 < 1000; decide), ?_⟩
    have k5 : ∀ b o, upd H3 ed (.lst []) b = some o → b ≠ p → upd (upd H3 ed (.lst [])) p (.ins CB dx (bfld x q1 ed)) b = some o := fun b o e n => by rw [upd_ne n]; exact e
    have fr : ∀ b o, H b = some o → b ≠ p → H3 b = some o := fun b o e n => k3 b o (s2 b o (k1 b o (s0 b o e) n)) n
    refine q _ ed t (fun b o e n => k5 b o (sx b o (fr b o e n)) n) ?_ ⟨⟨dx, q1, [], upd_same, (A3.same sx).butF p4 w2 k5, k5 _ _ upd_same edp, .nil⟩, o2, by rw [Spn.size_eq, e2]; omega⟩ e2
    cases h : H ed with
    | none => rfl
    | some o =>
      have := fr ed o h edp
      rw [ned] at this
      cases this
end
end Ov
namespace Ov
open PySem PySem.Spec PyProof.Rows L2
theorem EdsAt.len {K : PySem.W.Frag} {C : Addr} {mp : List Int → List PM} {H : Hp} {us : List V} {es : List Edit} (h : EdsAt K C mp H us es) : us.length = es.length := by
  induction h with
  | nil => rfl
  | cons _ _ ih => rw [List.length_cons, List.length_cons, ih]
section
variable {P : Program} {w : World} {K : PySem.W.Frag} {mg : Str → Option Value} {base : Heap}
/-! ### put -/
abbrev sBPut : Stmt := inClass cCodeBuffer 16
def spBPut (K : PySem.W.Frag) (C0 C CB : Addr) : Sp := fun vs H Q _ => ∃ (p x ed it a : Addr) (cnt lg : Nat) (is : List I4) (rs : List Addr) (t u : Spn) (es : List Edit) (st sp : Nat), vs = [.ref p, .int (st : Int), .int (sp : Int), .ref a] ∧ BufAt K C CB (mpOf is) H p x ed t es ∧ Mach C0 H x cnt lg it is rs ∧ SpanAt K C (mpOf is) H a u ∧ u.ok ∧
  st ≤ sp ∧ sp ≤ t.size ∧ t.size - (sp - st) + u.size ≤ 10 ^ 15 ∧ es.length ≤ 100000 ∧ ∀ H' t', But2 p ed H H' → BufAt K C CB (mpOf is) H' p x ed t' (es ++ [(t, st, sp - st, u.size)]) → t'.bytes = t.bytes.take st ++ u.bytes ++ t.bytes.drop sp → Q .non H'
theorem scBPut : FnScope ["self", "start", "stop", "span", "before", "first", "rest", "replaced", "last"] ["self", "start", "stop", "span"] (defScope sBPut) := ⟨rfl, rfl, rfl, by decide +kernel, rfl, by decide +kernel, by decide +kernel⟩
theorem ok_bPut {f fC fJ C0 C CB : Addr} {fd fdC fdJ : FuncData} {k : Nat} (F : Fun K "put" "CodeBuffer.put" sBPut f fd) (S : SpanTxt K mg C) (B : BufTxt K mg CB)
    (Cu : Def K mg "cut" s_cut fC fdC ["instruction_set", "span", "offset"]) (GC : FnOk P w K mg base CX0 k fC fdC ["instruction_set", "span", "offset"] (spCut K C0 C 80))
    (Jo : Def K mg "joined" s_joined fJ fdJ ["first", "second"]) (GJ : FnOk P w K mg base CX0 k fJ fdJ ["first", "second"] (spJoin K C 80)) :
    FnOk P w K mg base CX0 (k + 1) f fd ["self", "start", "stop", "span"] (spBPut K C0 C CB) := by
  refine F.ok scBPut (fun vs H Q E h => ?_) (fun cdv A' outer s H vs Q E hr h => ?_)
  · obtain ⟨p, x, ed, it, a, cnt, lg, is, rs, t, u, es, st, sp, rfl, _⟩ := h
    rfl
  · obtain ⟨p, x, ed, it, a, cnt, lg, is, rs, t, u, es, st, sp, rfl, hB, MA, hu, oku, h12, h2t, tot, few, q⟩ := h
    refine ⟨_, pss_cons (ps_set (i := 4) scBPut.nd rfl (.inl rfl) (pe_fld (pv 0) rfl))
      (pss_cons (ps_asg (pe_call GC hr (by rfl) Cu.gl Cu.fn.kp Cu.bi .nil pass0 (pa_cons (pe_fld (pv 0) rfl) (pa_cons (pv 4) (pa_cons (pv 1) pa_nil)))) (pg_tup rfl (pgs_cons (pg_name (i := 5) scBPut.nd rfl (.inl rfl)) (pgs_cons (pg_name (i := 6) scBPut.nd rfl (.inl rfl)) pgs_nil))))
      (pss_cons (ps_asg (pe_call GC hr (by rfl) Cu.gl Cu.fn.kp Cu.bi .nil pass0 (pa_cons (pe_fld (pv 0) rfl) (pa_cons (pv 6) (pa_cons (pe_op op_sub (pv 2) (pv 1)) pa_nil)))) (pg_tup rfl (pgs_cons (pg_name (i := 7) scBPut.nd rfl (.inl rfl)) (pgs_cons (pg_name (i := 8) scBPut.nd rfl (.inl rfl)) pgs_nil))))
      (pss_cons (ps_fld (pv 0) (pe_call GJ hr (by rfl) Jo.gl Jo.fn.kp Jo.bi .nil pass0 (pa_cons (pe_call GJ hr (by rfl) Jo.gl Jo.fn.kp Jo.bi .nil pass0 (pa_cons (pv 5) (pa_cons (pv 3) pa_nil))) (pa_cons (pv 8) pa_nil))) rfl)
      (pss_one (ps_expr (pe_bm PySem.F.plainAttrs_list PySem.F.slot_list_append PySem.F.type_list_append mt_append (pe_fld (pv 0) rfl) (pa_cons (pe_tup (pa_cons (pv 4) (pa_cons (pv 1) (pa_cons (pe_op op_sub (pv 2) (pv 1)) (pa_cons (pe_fld (pv 3) rfl) pa_nil))))) pa_nil))))))), ?_⟩
    obtain ⟨⟨dx, sn, vs, h1, h2, h3, h4⟩, okt, big⟩ := hB
    have eo : (sp : Int) - (st : Int) = ((sp - st : Nat) : Int) := by omega
    refine ⟨_, rfl, p, CB, dx, _, _, rfl, h1, B.cl, B.nS, b_span _ _ _, ?_⟩
    refine ⟨_, rfl, p, CB, dx, _, _, rfl, h1, B.cl, B.nI, b_set _ _ _, _, rfl, _, rfl, x, it, sn, cnt, lg, is, rs, t, st, rfl, MA, h2, okt, by omega, by omega, low_of okt (by omega), fun H1 qq q1 q2 u1 v1 s1 hq A1 A2 c => ?_⟩
    obtain ⟨z1, z2⟩ := c.sizes (by omega)
    refine ⟨qq, _, rfl, SqT.of hq, rfl, _, _, rfl, _, _, rfl, rfl, ?_⟩
    refine ⟨_, rfl, p, CB, dx, _, _, rfl, s1 _ _ h1, B.cl, B.nI, b_set _ _ _, _, rfl, _, rfl, _, rfl, _, _, rfl, rfl, x, it, q2, cnt, lg, is, rs, v1, sp - st, congrArg (fun v => [V.ref x, V.ref q2, V.int v]) eo, MA.same s1, A2, c.right, by omega, by omega, low_of c.right (by omega), fun H2 qr q3 q4 u2 v2 s2 hq2 A3 A4 c2 => ?_⟩
    obtain ⟨z3, z4⟩ := c2.sizes (by omega)
    refine ⟨qr, _, rfl, SqT.of hq2, rfl, _, _, rfl, _, _, rfl, rfl, ?_⟩
    have s02 := s1.trans s2
    have near : ∀ {y z : Spn}, y.okN → z.okN → y.size ≤ 10 ^ 16 → z.size ≤ 10 ^ 16 → y.height ≤ z.height + 80 ∧ z.height ≤ y.height + 80 := fun ny nz b1 b2 => by
      have := low80 ny b1
      have := low80 nz b2
      omega
    refine ⟨_, rfl, _, rfl, q1, a, u1, u, mpOf is, rfl, mpOf_ok MA.ok, A1.same s2, hu.same s02, c.left, oku, fun y z => near y z (by omega) (by omega), fun H3 q5 t5 s3 A5 J5 => ?_⟩
    have z5 := J5.size
    refine ⟨_, rfl, q5, q4, t5, v2, mpOf is, rfl, mpOf_ok MA.ok, A5, A4.same s3, J5.ok, c2.right, fun y z => near y z (by omega) (by omega), fun H4 q6 t6 s4 A6 J6 => ?_⟩
    have z6 := J6.size
    have s04 := s02.trans (s3.trans s4)
    refine ⟨_, rfl, p, CB, dx, _, rfl, s04 _ _ h1, B.cl, B.nS, (by show 3 < 1000; decide), ?_⟩
    rw [b_put]
    have edp : ed ≠ p := fun z => by rw [z, h1] at h3; cases h3
    have k5 := @upd_same H4 p (.ins CB dx (bfld x q6 ed))
    have b5 : But2 p ed H4 (upd H4 p (.ins CB dx (bfld x q6 ed))) := fun b o e n m => by rw [upd_ne n]; exact e
    have he5 : upd H4 p (.ins CB dx (bfld x q6 ed)) ed = some (.lst vs) := by rw [upd_ne edp]; exact s04 _ _ h3
    have h14 := s04 _ _ h1
    have h34 := s04 _ _ h3
    have A6' := A6.but2 h14 h34 b5
    have E6 := (h4.same s04).but2 h14 h34 b5
    have T6 := (h2.same s04).but2 h14 h34 b5
    obtain ⟨da, ma, _, _, _, ha, _⟩ := ((hu.same s04).but2 h14 h34 b5).show
    have b05 := (But2.of (p := p) (ed := ed) s04).trans b5
    generalize upd H4 p (.ins CB dx (bfld x q6 ed)) = H5 at *
    refine ⟨_, rfl, p, CB, dx, _, _, rfl, k5, B.cl, B.nE, b_edits _ _ _, .inl ⟨rfl, _, SqL.of he5⟩, _, rfl, _, rfl, _, rfl, _, rfl, _, _, rfl, rfl, _, rfl, a, C, da, _, _, rfl, ha, S.cl, S.nS, s_size _ _ _ _ _ _, by show 4 ≤ sizeLine; decide, fun tp ntp => ⟨ed, vs, _, rfl, rfl, ?_, ?_, ?_⟩⟩
    · exact same_upd ntp _ _ he5
    · rw [h4.len, sizeLine_eq]; omega
    have sx := same_upd (o := HO.tup [V.ref sn, V.int (st : Int), (fun i j => V.int (i - j)) (sp : Int) (st : Int), V.int (u.size : Int)]) ntp
    have k6 := sx _ _ k5
    have he6 := sx _ _ he5
    have b6 : But2 p ed (upd H5 tp (HO.tup [V.ref sn, V.int (st : Int), (fun i j => V.int (i - j)) (sp : Int) (st : Int), V.int (u.size : Int)])) (upd (upd H5 tp (HO.tup [V.ref sn, V.int (st : Int), (fun i j => V.int (i - j)) (sp : Int) (st : Int), V.int (u.size : Int)])) ed (.lst (vs ++ [V.ref tp]))) := fun b o e n m => by rw [upd_ne m]; exact e
    have te : tp ≠ ed := fun z => by rw [z, he5] at ntp; cases ntp
    refine q _ t6 (b05.trans ((But2.of sx).trans b6)) ⟨⟨dx, q6, vs ++ [V.ref tp], ?_, (A6'.same sx).but2 k6 he6 b6, upd_same, ((E6.same sx).but2 k6 he6 b6).snoc ⟨tp, sn, rfl, ?_, (T6.same sx).but2 k6 he6 b6, okt⟩⟩, J6.ok, by omega⟩ ?_
    · rw [upd_ne (Ne.symm edp)]
      exact k6
    · rw [upd_ne te, upd_same]
      exact congrArg (fun v => some (HO.tup [V.ref sn, V.int (st : Int), V.int v, V.int (u.size : Int)])) eo
    · rw [J6.bytes, J5.bytes, c.front, c2.behind, c.behind, List.drop_drop]
      congr 2
      omega
end
end Ov
namespace Ov
open PySem PySem.Spec PyProof.Rows L2
section
variable {P : Program} {w : World} {K : PySem.W.Frag} {mg : Str → Option Value} {base : Heap}
/-! ### insert -/
abbrev sBIns : Stmt := inClass cCodeBuffer 1
def spBIns (K : PySem.W.Frag) (C0 C CB : Addr) (m : Nat) : Sp := fun vs H Q _ => ∃ (p x ed it c : Addr) (cnt lg : Nat) (is : List I4) (rs : List Addr) (t : Spn) (es : List Edit) (st : Nat) (bs : List Int), vs = [.ref p, .int (st : Int), .ref c] ∧ BufAt K C CB (mpOf is) H p x ed t es ∧ Mach C0 H x cnt lg it is rs ∧ SqT K H c (bs.map V.int) ∧ (∀ b ∈ bs, 0 ≤ b ∧ b < (cnt : Int)) ∧
  bs.length ≤ 32 * 2 ^ m ∧ bs.length ≤ 100000 ∧ st ≤ t.size ∧ t.size + bs.length ≤ 10 ^ 15 ∧ es.length ≤ 100000 ∧ ∀ H' t', But2 p ed H H' → BufAt K C CB (mpOf is) H' p x ed t' (es ++ [(t, st, 0, bs.length)]) → t'.bytes = t.bytes.take st ++ bs ++ t.bytes.drop st → Q .non H'
theorem scBIns : FnScope ["self", "offset", "code"] ["self", "offset", "code"] (defScope sBIns) := ⟨rfl, rfl, rfl, by decide +kernel, rfl, by decide +kernel, by decide +kernel⟩
theorem ok_bIns {f fR fP fS fK C0 C CB : Addr} {fd fdR fdP fdS fdK : FuncData} {k m : Nat} (F : Fun K "insert" "CodeBuffer.insert" sBIns f fd) (B : BufTxt K mg CB)
    (MR : Meth K CB "check_offset" fR) (bR : Binds K fdR ["self", "value", "least"] []) (GR : FnOk P w K mg base CX0 k fR fdR ["self", "value", "least"] (spBChO K C CB))
    (MP : Meth K CB "put" fP) (bP : Binds K fdP ["self", "start", "stop", "span"] []) (GP : FnOk P w K mg base CX0 k fP fdP ["self", "start", "stop", "span"] (spBPut K C0 C CB))
    (Ck : Def K mg "check_code" s_check_code fK fdK ["instruction_set", "code"]) (GK : FnOk P w K mg base CX0 k fK fdK ["instruction_set", "code"] (spCkCode K C0))
    (So : Def K mg "span_of" s_span_of fS fdS ["instruction_set", "code"]) (GS : FnOk P w K mg base CX0 k fS fdS ["instruction_set", "code"] (spSpanOf K C0 C m)) :
    FnOk P w K mg base CX0 (k + 1) f fd ["self", "offset", "code"] (spBIns K C0 C CB m) := by
  refine F.ok scBIns (fun vs H Q E h => ?_) (fun cdv A' outer s H vs Q E hr h => ?_)
  · obtain ⟨p, x, ed, it, c, cnt, lg, is, rs, t, es, st, bs, rfl, _⟩ := h
    rfl
  · obtain ⟨p, x, ed, it, c, cnt, lg, is, rs, t, es, st, bs, rfl, hB, MA, hc, low, l1, l2, h2t, tot, few, q⟩ := h
    refine ⟨_, pss_cons (ps_expr (pe_meth (pv 0) B.cl MR GR hr bR .nil pass0 (pa_cons (pv 1) (pa_cons pe_int pa_nil))))
      (pss_cons (ps_expr (pe_call GK hr (by rfl) Ck.gl Ck.fn.kp Ck.bi .nil pass0 (pa_cons (pe_fld (pv 0) rfl) (pa_cons (pv 2) pa_nil))))
      (pss_one (ps_expr (pe_meth (pv 0) B.cl MP GP hr bP .nil pass0 (pa_cons (pv 1) (pa_cons (pv 1) (pa_cons (pe_call GS hr (by rfl) So.gl So.fn.kp So.bi .nil pass0 (pa_cons (pe_fld (pv 0) rfl) (pa_cons (pv 2) pa_nil))) pa_nil))))))), ?_⟩
    obtain ⟨dx, sn, vs, hp, _⟩ := hB.ob
    have no := b_no x sn ed (m := "check_offset") (by decide +kernel) (by decide +kernel) (by decide +kernel)
    have no2 := b_no x sn ed (m := "put") (by decide +kernel) (by decide +kernel) (by decide +kernel)
    refine ⟨_, rfl, p, dx, _, rfl, hp, no, _, rfl, p, x, ed, _, t, es, st, 0, rfl, hB, Nat.zero_le _, h2t, ?_⟩
    refine ⟨_, rfl, p, CB, dx, _, _, rfl, hp, B.cl, B.nI, b_set _ _ _, _, rfl, x, it, c, cnt, is, bs, rfl, MA.at_, hc, l2, low, fun H0 s0 => ?_⟩
    refine ⟨_, rfl, p, dx, _, rfl, s0 _ _ hp, no2, _, rfl, _, rfl, _, rfl, p, CB, dx, _, _, rfl, s0 _ _ hp, B.cl, B.nI, b_set _ _ _, _, rfl, ?_⟩
    refine ⟨x, it, c, cnt, lg, is, rs, bs, rfl, MA.same s0, s0.tup hc, l1, l2, fun H1 q1 u s1 A1 o1 e1 => ?_⟩
    have s01 := s0.trans s1
    have z : u.size = bs.length := by rw [Spn.size_eq, e1]
    refine ⟨p, x, ed, it, q1, cnt, lg, is, rs, t, u, es, st, st, rfl, hB.same s01, MA.same s01, A1, o1, Nat.le_refl _, h2t, by omega, few, fun H2 t' b2 B2 eb => q H2 t' ((But2.of s01).trans b2) (by rw [z, Nat.sub_self] at B2; exact B2) (by rw [eb, e1])⟩
end
end Ov
namespace Ov
open PySem PySem.Spec PyProof.Rows L2
section
variable {P : Program} {w : World} {K : PySem.W.Frag} {mg : Str → Option Value} {base : Heap}
abbrev sBDel : Stmt := inClass cCodeBuffer 2
def spBDel (K : PySem.W.Frag) (C0 C CB : Addr) : Sp := fun vs H Q _ => ∃ (p x ed it : Addr) (cnt lg : Nat) (is : List I4) (rs : List Addr) (t : Spn) (es : List Edit) (st sp : Nat), vs = [.ref p, .int (st : Int), .int (sp : Int)] ∧ BufAt K C CB (mpOf is) H p x ed t es ∧ Mach C0 H x cnt lg it is rs ∧
  st ≤ sp ∧ sp ≤ t.size ∧ es.length ≤ 100000 ∧ ∀ H' t', But2 p ed H H' → BufAt K C CB (mpOf is) H' p x ed t' (es ++ [(t, st, sp - st, 0)]) → t'.bytes = t.bytes.take st ++ t.bytes.drop sp → Q .non H'
theorem scBDel : FnScope ["self", "start", "stop"] ["self", "start", "stop"] (defScope sBDel) := ⟨rfl, rfl, rfl, by decide +kernel, rfl, by decide +kernel, by decide +kernel⟩
theorem ok_bDel {f fR fP fS C0 C CB : Addr} {fd fdR fdP fdS : FuncData} {k : Nat} (F : Fun K "delete" "CodeBuffer.delete" sBDel f fd) (B : BufTxt K mg CB)
    (MR : Meth K CB "check_range" fR) (bR : Binds K fdR ["self", "start", "stop", "least"] []) (GR : FnOk P w K mg base CX0 k fR fdR ["self", "start", "stop", "least"] (spBChR K C CB))
    (MP : Meth K CB "put" fP) (bP : Binds K fdP ["self", "start", "stop", "span"] []) (GP : FnOk P w K mg base CX0 k fP fdP ["self", "start", "stop", "span"] (spBPut K C0 C CB))
    (So : Def K mg "span_of" s_span_of fS fdS ["instruction_set", "code"]) (GS : FnOk P w K mg base CX0 k fS fdS ["instruction_set", "code"] (spSpanOf K C0 C 0)) :
    FnOk P w K mg base CX0 (k + 1) f fd ["self", "start", "stop"] (spBDel K C0 C CB) := by
  refine F.ok scBDel (fun vs H Q E h => ?_) (fun cdv A' outer s H vs Q E hr h => ?_)
  · obtain ⟨p, x, ed, it, cnt, lg, is, rs, t, es, st, sp, rfl, _⟩ := h
    rfl
  · obtain ⟨p, x, ed, it, cnt, lg, is, rs, t, es, st, sp, rfl, hB, MA, h12, h2t, few, q⟩ := h
    refine ⟨_, pss_cons (ps_expr (pe_meth (pv 0) B.cl MR GR hr bR .nil pass0 (pa_cons (pv 1) (pa_cons (pv 2) (pa_cons pe_int pa_nil)))))
      (pss_one (ps_expr (pe_meth (pv 0) B.cl MP GP hr bP .nil pass0 (pa_cons (pv 1) (pa_cons (pv 2) (pa_cons (pe_call GS hr (by rfl) So.gl So.fn.kp So.bi .nil pass0 (pa_cons (pe_fld (pv 0) rfl) (pa_cons (pe_tup pa_nil) pa_nil))) pa_nil)))))), ?_⟩
    obtain ⟨dx, sn, vs, hp, _⟩ := hB.ob
    have no := b_no x sn ed (m := "check_range") (by decide +kernel) (by decide +kernel) (by decide +kernel)
    have no2 := b_no x sn ed (m := "put") (by decide +kernel) (by decide +kernel) (by decide +kernel)
    refine ⟨_, rfl, p, dx, _, rfl, hp, no, _, rfl, _, rfl, p, x, ed, _, t, es, st, sp, 0, rfl, hB, Nat.zero_le _, h12, h2t, ?_⟩
    refine ⟨_, rfl, p, dx, _, rfl, hp, no2, _, rfl, _, rfl, _, rfl, p, CB, dx, _, _, rfl, hp, B.cl, B.nI, b_set _ _ _, by show 0 ≤ sizeLine; decide, fun e ne => ?_⟩
    have se := same_upd (o := HO.tup []) ne
    refine ⟨x, it, e, cnt, lg, is, rs, [], rfl, MA.same se, SqT.of upd_same, Nat.zero_le _, Nat.zero_le _, fun H1 q1 u s1 A1 o1 e1 => ?_⟩
    have s01 := se.trans s1
    have z : u.size = 0 := by rw [Spn.size_eq, e1]; rfl
    refine ⟨p, x, ed, it, q1, cnt, lg, is, rs, t, u, es, st, sp, rfl, hB.same s01, MA.same s01, A1, o1, h12, h2t, by have := hB.few; omega, few, fun H2 t' b2 B2 eb => q H2 t' ((But2.of s01).trans b2) (by rw [z] at B2; exact B2) (by rw [eb, e1, List.append_nil])⟩
end
end Ov
namespace Ov
open PySem PySem.Spec PyProof.Rows L2
section
variable {P : Program} {w : World} {K : PySem.W.Frag} {mg : Str → Option Value} {base : Heap}
abbrev sBRep : Stmt := inClass cCodeBuffer 3
def spBRep (K : PySem.W.Frag) (C0 C CB : Addr) (m : Nat) : Sp := fun vs H Q _ => ∃ (p x ed it c : Addr) (cnt lg : Nat) (is : List I4) (rs : List Addr) (t : Spn) (es : List Edit) (st sp : Nat) (bs : List Int), vs = [.ref p, .int (st : Int), .int (sp : Int), .ref c] ∧ BufAt K C CB (mpOf is) H p x ed t es ∧ Mach C0 H x cnt lg it is rs ∧ SqT K H c (bs.map V.int) ∧ (∀ b ∈ bs, 0 ≤ b ∧ b < (cnt : Int)) ∧
  bs.length ≤ 32 * 2 ^ m ∧ bs.length ≤ 100000 ∧ st ≤ sp ∧ sp ≤ t.size ∧ t.size - (sp - st) + bs.length ≤ 10 ^ 15 ∧ es.length ≤ 100000 ∧ ∀ H' t', But2 p ed H H' → BufAt K C CB (mpOf is) H' p x ed t' (es ++ [(t, st, sp - st, bs.length)]) → t'.bytes = t.bytes.take st ++ bs ++ t.bytes.drop sp → Q .non H'
theorem scBRep : FnScope ["self", "start", "stop", "code"] ["self", "start", "stop", "code"] (defScope sBRep) := ⟨rfl, rfl, rfl, by decide +kernel, rfl, by decide +kernel, by decide +kernel⟩
theorem ok_bRep {f fR fP fS fK C0 C CB : Addr} {fd fdR fdP fdS fdK : FuncData} {k m : Nat} (F : Fun K "replace" "CodeBuffer.replace" sBRep f fd) (B : BufTxt K mg CB)
    (MR : Meth K CB "check_range" fR) (bR : Binds K fdR ["self", "start", "stop", "least"] []) (GR : FnOk P w K mg base CX0 k fR fdR ["self", "start", "stop", "least"] (spBChR K C CB))
    (MP : Meth K CB "put" fP) (bP : Binds K fdP ["self", "start", "stop", "span"] []) (GP : FnOk P w K mg base CX0 k fP fdP ["self", "start", "stop", "span"] (spBPut K C0 C CB))
    (Ck : Def K mg "check_code" s_check_code fK fdK ["instruction_set", "code"]) (GK : FnOk P w K mg base CX0 k fK fdK ["instruction_set", "code"] (spCkCode K C0))
    (So : Def K mg "span_of" s_span_of fS fdS ["instruction_set", "code"]) (GS : FnOk P w K mg base CX0 k fS fdS ["instruction_set", "code"] (spSpanOf K C0 C m)) :
    FnOk P w K mg base CX0 (k + 1) f fd ["self", "start", "stop", "code"] (spBRep K C0 C CB m) := by
  refine F.ok scBRep (fun vs H Q E h => ?_) (fun cdv A' outer s H vs Q E hr h => ?_)
  · obtain ⟨p, x, ed, it, c, cnt, lg, is, rs, t, es, st, sp, bs, rfl, _⟩ := h
    rfl
  · obtain ⟨p, x, ed, it, c, cnt, lg, is, rs, t, es, st, sp, bs, rfl, hB, MA, hc, low, l1, l2, h12, h2t, tot, few, q⟩ := h
    refine ⟨_, pss_cons (ps_expr (pe_meth (pv 0) B.cl MR GR hr bR .nil pass0 (pa_cons (pv 1) (pa_cons (pv 2) (pa_cons pe_int pa_nil)))))
      (pss_cons (ps_expr (pe_call GK hr (by rfl) Ck.gl Ck.fn.kp Ck.bi .nil pass0 (pa_cons (pe_fld (pv 0) rfl) (pa_cons (pv 3) pa_nil))))
      (pss_one (ps_expr (pe_meth (pv 0) B.cl MP GP hr bP .nil pass0 (pa_cons (pv 1) (pa_cons (pv 2) (pa_cons (pe_call GS hr (by rfl) So.gl So.fn.kp So.bi .nil pass0 (pa_cons (pe_fld (pv 0) rfl) (pa_cons (pv 3) pa_nil))) pa_nil))))))), ?_⟩
    obtain ⟨dx, sn, vs, hp, _⟩ := hB.ob
    have no := b_no x sn ed (m := "check_range") (by decide +kernel) (by decide +kernel) (by decide +kernel)
    have no2 := b_no x sn ed (m := "put") (by decide +kernel) (by decide +kernel) (by decide +kernel)
    refine ⟨_, rfl, p, dx, _, rfl, hp, no, _, rfl, _, rfl, p, x, ed, _, t, es, st, sp, 0, rfl, hB, Nat.zero_le _, h12, h2t, ?_⟩
    refine ⟨_, rfl, p, CB, dx, _, _, rfl, hp, B.cl, B.nI, b_set _ _ _, _, rfl, x, it, c, cnt, is, bs, rfl, MA.at_, hc, l2, low, fun H0 s0 => ?_⟩
    refine ⟨_, rfl, p, dx, _, rfl, s0 _ _ hp, no2, _, rfl, _, rfl, _, rfl, p, CB, dx, _, _, rfl, s0 _ _ hp, B.cl, B.nI, b_set _ _ _, _, rfl, ?_⟩
    refine ⟨x, it, c, cnt, lg, is, rs, bs, rfl, MA.same s0, s0.tup hc, l1, l2, fun H1 q1 u s1 A1 o1 e1 => ?_⟩
    have s01 := s0.trans s1
    have z : u.size = bs.length := by rw [Spn.size_eq, e1]
    refine ⟨p, x, ed, it, q1, cnt, lg, is, rs, t, u, es, st, sp, rfl, hB.same s01, MA.same s01, A1, o1, h12, h2t, by omega, few, fun H2 t' b2 B2 eb => q H2 t' ((But2.of s01).trans b2) (by rw [z] at B2; exact B2) (by rw [eb, e1])⟩
end
end Ov
namespace Ov
open PySem PySem.Spec PyProof.Rows L2
section
variable {P : Program} {w : World} {K : PySem.W.Frag} {mg : Str → Option Value} {base : Heap}
/-! ### repeat -/
abbrev sBRpt : Stmt := inClass cCodeBuffer 4
def spBRpt (K : PySem.W.Frag) (C0 C CB : Addr) : Sp := fun vs H Q _ => ∃ (p x ed it : Addr) (cnt lg : Nat) (is : List I4) (rs : List Addr) (t : Spn) (es : List Edit) (st sp n : Nat), vs = [.ref p, .int (st : Int), .int (sp : Int), .int (n : Int)] ∧ BufAt K C CB (mpOf is) H p x ed t es ∧ Mach C0 H x cnt lg it is rs ∧
  st ≤ sp ∧ sp ≤ t.size ∧ t.size - (sp - st) + n * (sp - st) ≤ 10 ^ 15 ∧ es.length ≤ 100000 ∧ ∀ H' t', But2 p ed H H' → BufAt K C CB (mpOf is) H' p x ed t' (es ++ [(t, st, sp - st, n * (sp - st))]) → t'.bytes = t.bytes.take st ++ (List.replicate n ((t.bytes.take sp).drop st)).flatten ++ t.bytes.drop sp → Q .non H'
theorem scBRpt : FnScope ["self", "start", "stop", "times"] ["self", "start", "stop", "times"] (defScope sBRpt) := ⟨rfl, rfl, rfl, by decide +kernel, rfl, by decide +kernel, by decide +kernel⟩
theorem ok_bRpt {f fR fP fB fI fT C0 C CB : Addr} {fd fdR fdP fdB fdI fdT : FuncData} {k : Nat} (F : Fun K "repeat" "CodeBuffer.repeat" sBRpt f fd) (S : SpanTxt K mg C) (B : BufTxt K mg CB) (mB : ∃ t, mg "MOST_BYTES" = some (.int 1000000000000000 t))
    (MR : Meth K CB "check_range" fR) (bR : Binds K fdR ["self", "start", "stop", "least"] []) (GR : FnOk P w K mg base CX0 k fR fdR ["self", "start", "stop", "least"] (spBChR K C CB))
    (I : Def K mg "is_integer" sIsInt fI fdI ["value"]) (GI : FnOk P w K mg base CX0 k fI fdI ["value"] spIsInt)
    (MP : Meth K CB "put" fP) (bP : Binds K fdP ["self", "start", "stop", "span"] []) (GP : FnOk P w K mg base CX0 k fP fdP ["self", "start", "stop", "span"] (spBPut K C0 C CB))
    (MB : Meth K CB "between" fB) (bB : Binds K fdB ["self", "start", "stop"] []) (GB : FnOk P w K mg base CX0 k fB fdB ["self", "start", "stop"] (spBBetween K C0 C CB))
    (Rp : Def K mg "repeated" s_repeated fT fdT ["instruction_set", "span", "times"]) (GT : FnOk P w K mg base CX0 k fT fdT ["instruction_set", "span", "times"] (spRepS K C0 C)) :
    FnOk P w K mg base CX0 (k + 1) f fd ["self", "start", "stop", "times"] (spBRpt K C0 C CB) := by
  obtain ⟨tB, mB⟩ := mB
  refine F.ok scBRpt (fun vs H Q E h => ?_) (fun cdv A' outer s H vs Q E hr h => ?_)
  · obtain ⟨p, x, ed, it, cnt, lg, is, rs, t, es, st, sp, n, rfl, _⟩ := h
    rfl
  · obtain ⟨p, x, ed, it, cnt, lg, is, rs, t, es, st, sp, n, rfl, hB, MA, h12, h2t, tot, few, q⟩ := h
    refine ⟨_, pss_cons (ps_expr (pe_meth (pv 0) B.cl MR GR hr bR .nil pass0 (pa_cons (pv 1) (pa_cons (pv 2) (pa_cons pe_int pa_nil)))))
      (pss_cons (ps_if (PW.pt (pw_or (pt_not (pt_val (pe_call GI hr (by rfl) I.gl I.fn.kp I.bi .nil pass0 (pa_cons (pv 3) pa_nil)))) (pw_or (pt_cmpR op_lt (pv 3) pe_int (nomark _))
          (pw_or1 (pt_cmpR op_gt (pe_op op_add (pe_fld (pe_fld (pv 0) rfl) rfl) (pe_op op_mul (pe_op op_sub (pv 2) (pv 1)) (pe_op op_sub (pv 3) pe_int))) (pe_glob (v := .int 1000000000000000) (by rfl) mB ⟨_, rfl⟩) (nomark _)))))) (pss_one ps_never) pss_nil)
      (pss_one (ps_expr (pe_meth (pv 0) B.cl MP GP hr bP .nil pass0 (pa_cons (pv 1) (pa_cons (pv 2) (pa_cons (pe_call GT hr (by rfl) Rp.gl Rp.fn.kp Rp.bi .nil pass0 (pa_cons (pe_fld (pv 0) rfl) (pa_cons (pe_meth (pv 0) B.cl MB GB hr bB .nil pass0 (pa_cons (pv 1) (pa_cons (pv 2) pa_nil))) (pa_cons (pv 3) pa_nil)))) pa_nil))))))), ?_⟩
    obtain ⟨dx, sn, vs, hp, hs, _⟩ := hB.ob
    obtain ⟨ds, ms, _, _, _, ha, _⟩ := hs.show
    have no := b_no x sn ed (m := "check_range") (by decide +kernel) (by decide +kernel) (by decide +kernel)
    have no2 := b_no x sn ed (m := "put") (by decide +kernel) (by decide +kernel) (by decide +kernel)
    refine ⟨_, rfl, p, dx, _, rfl, hp, no, _, rfl, _, rfl, p, x, ed, _, t, es, st, sp, 0, rfl, hB, Nat.zero_le _, h12, h2t, ?_⟩
    refine ⟨_, rfl, _, rfl, _, rfl, iteF ⟨_, rfl, _, _, rfl, rfl, _, rfl, ?_⟩⟩
    rw [decide_eq_false (show ¬ ((n : Int) < 0) by omega)]
    refine iteF ⟨_, rfl, p, CB, dx, _, _, rfl, hp, B.cl, B.nS, b_span _ _ _, sn, C, ds, _, _, rfl, ha, S.cl, S.nS, s_size _ _ _ _ _ _, _, rfl, _, rfl, _, _, rfl, rfl, _, rfl, _, _, rfl, rfl, _, _, rfl, rfl, .inl ⟨by have := hB.few; omega, by have := hB.few; omega⟩, _, _, rfl, rfl, _, _, rfl, rfl, _, rfl, ?_⟩
    have fits : ¬ ((1000000000000000 : Int) < (t.size : Int) + ((sp : Int) - (st : Int)) * ((n : Int) - 1)) := by
      have e1 : (sp : Int) - (st : Int) = ((sp - st : Nat) : Int) := by omega
      rw [e1, Int.mul_sub, Int.mul_one, ← Int.natCast_mul, Nat.mul_comm]
      generalize n * (sp - st) = z at *
      omega
    rw [decide_eq_false fits]
    refine iteF ⟨_, rfl, p, dx, _, rfl, hp, no2, _, rfl, _, rfl, _, rfl, p, CB, dx, _, _, rfl, hp, B.cl, B.nI, b_set _ _ _, _, rfl, p, dx, _, rfl, hp, b_btw _ _ _, _, rfl, _, rfl, p, x, ed, it, cnt, lg, is, rs, t, es, st, sp, rfl, hB, MA, h12, h2t, fun H1 q1 u s1 A1 o1 e1 => ?_⟩
    have zu : u.size = sp - st := by
      rw [Spn.size_eq, e1, List.length_drop, List.length_take, ← Spn.size_eq]
      omega
    refine ⟨_, rfl, x, it, q1, cnt, lg, is, rs, u, n, rfl, MA.same s1, A1, o1, by rw [zu]; omega, fun H2 q2 y s2 A2 o2 e2 => ?_⟩
    have s02 := s1.trans s2
    have zy : y.size = n * (sp - st) := by rw [Spn.size_eq, e2, flat_len, ← Spn.size_eq, zu]
    refine ⟨p, x, ed, it, q2, cnt, lg, is, rs, t, y, es, st, sp, rfl, hB.same s02, MA.same s02, A2, o2, h12, h2t, by rw [zy]; exact tot, few, fun H3 t' b3 B3 eb => q H3 t' ((But2.of s02).trans b3) (by rw [zy] at B3; exact B3) (by rw [eb, e2, e1])⟩
end
end Ov
namespace Ov
open PySem PySem.Spec PyProof.Rows L2
section
variable {P : Program} {w : World} {K : PySem.W.Frag} {mg : Str → Option Value} {base : Heap}
abbrev sBCd : Stmt := inClass cCodeBuffer 8
theorem scBCd : FnScope ["self", "entry", "offset"] ["self", "entry", "offset"] (defScope sBCd) := ⟨rfl, rfl, rfl, by decide +kernel, rfl, by decide +kernel, by decide +kernel⟩
theorem ok_bCd {f fR fB C0 C CB : Addr} {fd fdR fdB : FuncData} {k : Nat} (F : Fun K "countdown" "CodeBuffer.countdown" sBCd f fd) (B : BufTxt K mg CB)
    (MR : Meth K CB "check_range" fR) (bR : Binds K fdR ["self", "start", "stop", "least"] []) (GR : FnOk P w K mg base CX0 k fR fdR ["self", "start", "stop", "least"] (spBChR K C CB))
    (MB : Meth K CB "countdown_between" fB) (bB : Binds K fdB ["self", "entry", "offset"] []) (GB : FnOk P w K mg base CX0 k fB fdB ["self", "entry", "offset"] (spBCdb K C0 C CB)) :
    FnOk P w K mg base CX0 (k + 1) f fd ["self", "entry", "offset"] (spBCdb K C0 C CB) := by
  refine F.ok scBCd (fun vs H Q E h => ?_) (fun cdv A' outer s H vs Q E hr h => ?_)
  · obtain ⟨p, x, ed, it, cnt, lg, is, rs, t, es, st, sp, rfl, _⟩ := h
    rfl
  · obtain ⟨p, x, ed, it, cnt, lg, is, rs, t, es, st, sp, rfl, hB, MA, h12, h2t, q⟩ := h
    refine ⟨_, pss_cons (ps_expr (pe_meth (pv 0) B.cl MR GR hr bR .nil pass0 (pa_cons (pv 1) (pa_cons (pv 2) (pa_cons pe_int pa_nil)))))
      (pss_one (ps_ret (pe_meth (pv 0) B.cl MB GB hr bB .nil pass0 (pa_cons (pv 1) (pa_cons (pv 2) pa_nil))))), ?_⟩
    obtain ⟨dx, sn, vs, hp, _⟩ := hB.ob
    have no := b_no x sn ed (m := "check_range") (by decide +kernel) (by decide +kernel) (by decide +kernel)
    have no2 := b_no x sn ed (m := "countdown_between") (by decide +kernel) (by decide +kernel) (by decide +kernel)
    exact ⟨_, rfl, p, dx, _, rfl, hp, no, _, rfl, _, rfl, p, x, ed, _, t, es, st, sp, 0, rfl, hB, Nat.zero_le _, h12, h2t, _, rfl, p, dx, _, rfl, hp, no2, _, rfl, _, rfl, p, x, ed, it, cnt, lg, is, rs, t, es, st, sp, rfl, hB, MA, h12, h2t, q⟩
end
end Ov
namespace Ov
open PySem PySem.Spec PyProof.Rows L2
section
variable {P : Program} {w : World} {K : PySem.W.Frag} {mg : Str → Option Value} {base : Heap}
/-! ### start_count -/
abbrev sBCnt : Stmt := inClass cCodeBuffer 9
def spBCnt (K : PySem.W.Frag) (C0 C CB : Addr) : Sp := fun vs H Q _ => ∃ (p x ed it : Addr) (cnt lg : Nat) (is : List I4) (rs : List Addr) (t : Spn) (es : List Edit) (e st sp : Nat), vs = [.ref p, .int (e : Int), .int (st : Int), .int (sp : Int)] ∧ BufAt K C CB (mpOf is) H p x ed t es ∧ Mach C0 H x cnt lg it is rs ∧ e ≤ st ∧ st ≤ sp ∧ sp ≤ t.size ∧
  ∀ H', Same H H' → Q (natV (stF (laOf is) 0 (cdEnd (laOf is) (some 0) ((t.bytes.take st).drop e)) ((t.bytes.take sp).drop st)).length) H'
theorem scBCnt : FnScope ["self", "entry", "start", "stop", "countdown", "behind", "begun"] ["self", "entry", "start", "stop"] (defScope sBCnt) := ⟨rfl, rfl, rfl, by decide +kernel, rfl, by decide +kernel, by decide +kernel⟩
theorem ok_bCnt {f fO fR fD fB C0 C CB : Addr} {fd fdO fdR fdD fdB : FuncData} {k : Nat} (F : Fun K "start_count" "CodeBuffer.start_count" sBCnt f fd) (S : SpanTxt K mg C) (B : BufTxt K mg CB)
    (MO : Meth K CB "check_offset" fO) (bO : Binds K fdO ["self", "value", "least"] []) (GO : FnOk P w K mg base CX0 k fO fdO ["self", "value", "least"] (spBChO K C CB))
    (MR : Meth K CB "check_range" fR) (bR : Binds K fdR ["self", "start", "stop", "least"] []) (GR : FnOk P w K mg base CX0 k fR fdR ["self", "start", "stop", "least"] (spBChR K C CB))
    (MD : Meth K CB "countdown_between" fD) (bD : Binds K fdD ["self", "entry", "offset"] []) (GD : FnOk P w K mg base CX0 k fD fdD ["self", "entry", "offset"] (spBCdb K C0 C CB))
    (MB : Meth K CB "between" fB) (bB : Binds K fdB ["self", "start", "stop"] []) (GB : FnOk P w K mg base CX0 k fB fdB ["self", "start", "stop"] (spBBetween K C0 C CB)) :
    FnOk P w K mg base CX0 (k + 1) f fd ["self", "entry", "start", "stop"] (spBCnt K C0 C CB) := by
  refine F.ok scBCnt (fun vs H Q E h => ?_) (fun cdv A' outer s H vs Q E hr h => ?_)
  · obtain ⟨p, x, ed, it, cnt, lg, is, rs, t, es, e, st, sp, rfl, _⟩ := h
    rfl
  · obtain ⟨p, x, ed, it, cnt, lg, is, rs, t, es, e, st, sp, rfl, hB, MA, h01, h12, h2t, q⟩ := h
    refine ⟨_, pss_cons (ps_expr (pe_meth (pv 0) B.cl MO GO hr bO .nil pass0 (pa_cons (pv 1) (pa_cons pe_int pa_nil))))
      (pss_cons (ps_expr (pe_meth (pv 0) B.cl MR GR hr bR .nil pass0 (pa_cons (pv 2) (pa_cons (pv 3) (pa_cons (pv 1) pa_nil)))))
      (pss_cons (ps_set (i := 4) scBCnt.nd rfl (.inl rfl) (pe_meth (pv 0) B.cl MD GD hr bD .nil pass0 (pa_cons (pv 1) (pa_cons (pv 2) pa_nil))))
      (pss_cons (ps_if (pt_cmpR op_isN (pv 4) pe_non (nomark _)) (pss_one (ps_ret pe_int)) pss_nil)
      (pss_cons (ps_asg (pe_ix ix_tup (pe_fld (pe_meth (pv 0) B.cl MB GB hr bB .nil pass0 (pa_cons (pv 2) (pa_cons (pv 3) pa_nil))) rfl) (pv 4) (fun _ _ => rfl)) (pg_tup rfl (pgs_cons (pg_name (i := 5) scBCnt.nd rfl (.inl rfl)) (pgs_cons (pg_name (i := 6) scBCnt.nd rfl (.inl rfl)) pgs_nil))))
      (pss_one (ps_ret (pv 6))))))), ?_⟩
    obtain ⟨dx, sn, vs, hp, _⟩ := hB.ob
    have no := b_no x sn ed (m := "check_offset") (by decide +kernel) (by decide +kernel) (by decide +kernel)
    have no2 := b_no x sn ed (m := "check_range") (by decide +kernel) (by decide +kernel) (by decide +kernel)
    have no3 := b_no x sn ed (m := "countdown_between") (by decide +kernel) (by decide +kernel) (by decide +kernel)
    refine ⟨_, rfl, p, dx, _, rfl, hp, no, _, rfl, p, x, ed, _, t, es, e, 0, rfl, hB, Nat.zero_le _, by omega, ?_⟩
    refine ⟨_, rfl, p, dx, _, rfl, hp, no2, _, rfl, _, rfl, _, rfl, p, x, ed, _, t, es, st, sp, e, rfl, hB, h01, h12, h2t, ?_⟩
    refine ⟨_, rfl, p, dx, _, rfl, hp, no3, _, rfl, _, rfl, p, x, ed, it, cnt, lg, is, rs, t, es, e, st, rfl, hB, MA, h01, by omega, fun H0 s0 => ?_⟩
    have le := end_lt MA.ok (zero_lt MA.ok) ((t.bytes.take st).drop e)
    generalize cdEnd (laOf is) (some 0) ((t.bytes.take st).drop e) = g at *
    rcases g with _ | g
    · refine ⟨_, rfl, rfl, _, rfl, iteT ?_⟩
      have z := q H0 s0
      rw [stF_none] at z
      exact z
    refine ⟨_, rfl, rfl, _, rfl, iteF ?_⟩
    refine ⟨_, rfl, p, dx, _, rfl, s0 _ _ hp, b_btw _ _ _, _, rfl, _, rfl, p, x, ed, it, cnt, lg, is, rs, t, es, st, sp, rfl, hB.same s0, MA.same s0, h12, h2t, fun H1 q1 u s1 A1 o1 e1 => ?_⟩
    obtain ⟨ds, ms, _, _, _, hs, hm⟩ := A1.show
    obtain ⟨ps, a0, m1, k1, k2⟩ := map_tell hm (le g rfl)
    refine ⟨q1, C, ds, _, _, rfl, hs, S.cl, S.nM, s_sum _ _ _ _ _ _, _, rfl, ms, _, g, _, rfl, rfl, SqT.of m1, atI_nat (j := g) k1, ?_⟩
    refine ⟨a0, _, rfl, SqT.of k2, rfl, _, _, rfl, _, _, rfl, rfl, ?_⟩
    rw [e1]
    exact ⟨_, rfl, q _ (s0.trans s1)⟩
end
end Ov
namespace Ov
open PySem PySem.Spec PyProof.Rows L2
section
variable {P : Program} {w : World} {K : PySem.W.Frag} {mg : Str → Option Value} {base : Heap}
/-! ### start_in -/
def spStartIn (K : PySem.W.Frag) (C0 C : Addr) : Sp := fun vs H Q _ => ∃ (p it a : Addr) (cnt lg : Nat) (is : List I4) (rs : List Addr) (t : Spn) (n : Nat), vs = [.ref p, .ref a, .int (n : Int)] ∧ Mach C0 H p cnt lg it is rs ∧ SpanAt K C (mpOf is) H a t ∧ t.ok ∧
  ∀ H', Same H H' → Q (optN ((stF (laOf is) 0 (some 0) t.bytes)[n]?)) H'
abbrev nStartIn : List Str := ["instruction_set", "span", "number", "countdown", "passed", "behind", "begun", "offsets", "following"]
theorem scStartIn : FnScope nStartIn ["instruction_set", "span", "number"] (defScope s_start_in) := ⟨rfl, rfl, rfl, by decide +kernel, rfl, by decide +kernel, by decide +kernel⟩
theorem ok_startIn {f fW C0 C : Addr} {fd fdW : FuncData} {k : Nat} (F : Fun K "start_in" "start_in" s_start_in f fd) (S : SpanTxt K mg C)
    (Wa : Def K mg "walk" sWalk fW fdW ["instruction_set", "code", "entry"]) (GW : FnOk P w K mg base CX0 k fW fdW ["instruction_set", "code", "entry"] (spWalk K C0)) :
    FnOk P w K mg base CX0 (k + 1) f fd ["instruction_set", "span", "number"] (spStartIn K C0 C) := by
  refine F.ok scStartIn (fun vs H Q E h => ?_) (fun cdv A' outer s H vs Q E hr h => ?_)
  · obtain ⟨p, it, a, cnt, lg, is, rs, t, n, rfl, _⟩ := h
    rfl
  · obtain ⟨p, it, a, cnt, lg, is, rs, t, n, rfl, MA, ht, ok, q⟩ := h
    refine ⟨_, pss_cons (ps_set (i := 3) scStartIn.nd rfl (.inl rfl) pe_int)
      (pss_cons (ps_if (pt_cmpR op_ge (pv 2) (pe_ix ix_tup (pe_ix ix_tup (pe_fld (pv 1) rfl) (pv 3) (fun _ _ => rfl)) pe_int (fun _ _ => rfl)) (nomark _)) (pss_one (ps_ret pe_non)) pss_nil)
      (pss_cons (ps_set (i := 4) scStartIn.nd rfl (.inl rfl) pe_int)
      (pss_cons (ps_while PassesOwn.never (pt_cmpR op_isN (pe_fld (pv 1) rfl) pe_non (nomark _))
        (pss_cons (ps_asg (pe_ix ix_tup (pe_fld (pe_fld (pv 1) rfl) rfl) (pv 3) (fun _ _ => rfl)) (pg_tup rfl (pgs_cons (pg_name (i := 5) scStartIn.nd rfl (.inl rfl)) (pgs_cons (pg_name (i := 6) scStartIn.nd rfl (.inl rfl)) pgs_nil))))
        (pss_one (ps_if (pt_cmpR op_lt (pv 2) (pv 6) (nomark _))
          (pss_one (ps_set (i := 1) scStartIn.nd rfl (.inl rfl) (pe_fld (pv 1) rfl)))
          (pss_cons (ps_aug (i := 2) scStartIn.nd rfl (.inl rfl) (pv 6) ip_sub)
          (pss_cons (ps_aug (i := 4) scStartIn.nd rfl (.inl rfl) (pe_fld (pe_fld (pv 1) rfl) rfl) ip_add)
          (pss_cons (ps_set (i := 3) scStartIn.nd rfl (.inl rfl) (pv 5))
          (pss_one (ps_set (i := 1) scStartIn.nd rfl (.inl rfl) (pe_fld (pv 1) rfl))))))))))
      (pss_cons (ps_asg (pe_call GW hr (by rfl) Wa.gl Wa.fn.kp Wa.bi .nil pass0 (pa_cons (pv 0) (pa_cons (pe_fld (pv 1) rfl) (pa_cons (pv 3) pa_nil)))) (pg_tup rfl (pgs_cons (pg_name (i := 7) scStartIn.nd rfl (.inl rfl)) (pgs_cons (pg_name (i := 8) scStartIn.nd rfl (.inl rfl)) pgs_nil))))
      (pss_one (ps_ret (pe_op op_add (pv 4) (pe_ix ix_list (pv 7) (pv 2) (fun _ _ => rfl))))))))), ?_⟩
    have i1 : ∀ x y : V, atI [x, y] 1 = some y := fun x y => atI_nat (j := 1) rfl
    obtain ⟨dt, mt, wt, lt, rt, k0, km⟩ := ht.show
    obtain ⟨ps, a0, m1, k1, k2⟩ := map_tell km (zero_lt MA.ok 0 rfl)
    refine ⟨_, rfl, _, rfl, a, C, dt, _, _, rfl, k0, S.cl, S.nM, s_sum _ _ _ _ _ _, _, rfl, mt, _, 0, _, rfl, rfl, SqT.of m1, atI_nat (j := 0) k1, a0, _, 1, _, rfl, rfl, SqT.of k2, i1 _ _, _, _, rfl, rfl, _, rfl, ?_⟩
    by_cases g : (((stF (laOf is) 0 (some 0) t.bytes).length : Nat) : Int) ≤ (n : Int)
    · rw [decide_eq_true g]
      refine iteT ?_
      have z := q H (Same.refl _)
      rw [List.getElem?_eq_none (by omega)] at z
      exact z
    rw [decide_eq_false g]
    refine iteF ?_
    refine ⟨fun m σ G => ∃ (b : Addr) (u : Spn) (c j z : Nat) (v5 v6 : Option V), σ = [some (.ref p), some (.ref b), some (.int (j : Int)), some (.int (c : Int)), some (.int (z : Int)), v5, v6, none, none] ∧ G = H ∧ SpanAt K C (mpOf is) H b u ∧ (u.okN) ∧ c < lonOf is ∧ j < (stF (laOf is) 0 (some c) u.bytes).length ∧ (stF (laOf is) 0 (some 0) t.bytes)[n]? = ((stF (laOf is) 0 (some c) u.bytes)[j]?).map (z + ·) ∧ m = u.nodes,
      ⟨t.nodes, a, t, 0, n, 0, none, none, rfl, rfl, ht, ok.pos ?_, zero_lt MA.ok 0 rfl, by omega, by simp, rfl⟩, ?_⟩
    · intro z
      have : t.bytes = [] := Spn.bytes_nil z
      rw [this] at g
      have : (stF (laOf is) 0 (some 0) ([] : List Int)).length = 0 := rfl
      omega
    rintro m σ G ⟨b, u, c, j, z, v5, v6, rfl, rfl, hb, oku, hc, hj, eb, rfl⟩
    cases u with
    | row bs =>
      obtain ⟨dx, cd, mm, x1, x2, x3⟩ := hb
      have lb : bs.length ≤ 100000 := by have := oku.2; omega
      refine ⟨_, rfl, b, C, dx, _, _, rfl, x1, S.cl, S.nW, s_row _ _ _ _ _ _, rfl, _, rfl, iteF ?_⟩
      refine ⟨_, rfl, _, rfl, b, C, dx, _, _, rfl, x1, S.cl, S.nW, s_row _ _ _ _ _ _, _, rfl, p, it, cd, cnt, is, bs, c, rfl, MA.at_, x2, lb, fun H1 r l begun fol s1 en nr hr1 hl bl => ?_⟩
      refine ⟨r, _, rfl, SqT.of hr1, rfl, _, _, rfl, _, _, rfl, rfl, ?_⟩
      obtain ⟨y0, ey⟩ : ∃ y0, begun[j]? = some y0 := ⟨begun[j]'(by rw [en.st]; exact hj), List.getElem?_eq_getElem _⟩
      refine ⟨_, rfl, _, rfl, _, rfl, l, _, j, natV y0, rfl, rfl, SqL.of hl, atI_nat (by rw [List.getElem?_map, ey]; rfl), _, _, rfl, rfl, ?_⟩
      have y := q H1 s1
      rw [eb, show (Spn.row bs).bytes = bs from rfl, ← en.st, ey] at y
      exact y
    | pair lo ro =>
      obtain ⟨dx, pa, pb, pm, x1, x2, x3, x4⟩ := hb
      obtain ⟨o1, o2, _, _⟩ := oku
      obtain ⟨dl, ml, wl, ll, rl, y0, ym⟩ := x2.show
      obtain ⟨qs, c0, n1, n2, n3⟩ := map_tell ym hc
      refine ⟨_, rfl, b, C, dx, _, _, rfl, x1, S.cl, S.nW, s_row _ _ _ _ _ _, rfl, _, rfl, iteT ⟨fun σ' G' => ∃ m', m' < (Spn.pair lo ro).nodes ∧ ∃ (b : Addr) (u : Spn) (c j z : Nat) (v5 v6 : Option V), σ' = [some (.ref p), some (.ref b), some (.int (j : Int)), some (.int (c : Int)), some (.int (z : Int)), v5, v6, none, none] ∧ G' = G ∧ SpanAt K C (mpOf is) G b u ∧ (u.okN) ∧ c < lonOf is ∧ j < (stF (laOf is) 0 (some c) u.bytes).length ∧ (stF (laOf is) 0 (some 0) t.bytes)[n]? = ((stF (laOf is) 0 (some c) u.bytes)[j]?).map (z + ·) ∧ m' = u.nodes, fun _ _ h => h, ?_⟩⟩
      refine ⟨_, rfl, b, C, dx, _, _, rfl, x1, S.cl, S.nL, s_left _ _ _ _ _ _, pa, C, dl, _, _, rfl, y0, S.cl, S.nM, s_sum _ _ _ _ _ _, _, rfl, ml, _, c, _, rfl, rfl, SqT.of n1, atI_nat (j := c) n2, ?_⟩
      refine ⟨c0, _, rfl, SqT.of n3, rfl, _, _, rfl, _, _, rfl, rfl, ?_⟩
      refine ⟨_, rfl, _, rfl, _, _, rfl, rfl, _, rfl, ?_⟩
      have bb : (Spn.pair lo ro).bytes = lo.bytes ++ ro.bytes := rfl
      rw [bb, stF_app] at hj eb
      have lz := Spn.size_eq lo
      by_cases g2 : (j : Int) < ((stF (laOf is) 0 (some c) lo.bytes).length : Int)
      · rw [decide_eq_true g2]
        refine iteT ⟨_, rfl, b, C, dx, _, _, rfl, x1, S.cl, S.nL, s_left _ _ _ _ _ _, lo.nodes, by simp only [Spn.nodes]; omega, pa, lo, c, j, z, _, _, rfl, rfl, x2, o1, hc, by omega, ?_, rfl⟩
        rw [eb, List.getElem?_append_left (by omega)]
      · rw [decide_eq_false g2]
        have hle : (stF (laOf is) 0 (some c) lo.bytes).length ≤ j := by omega
        rw [List.length_append] at hj
        rw [List.getElem?_append_right hle] at eb
        have le := end_lt MA.ok (s := some c) (fun n e => by have : c = n := Option.some.inj e; omega) lo.bytes
        generalize hgg : cdEnd (laOf is) (some c) lo.bytes = gg at *
        rcases gg with _ | gg
        · rw [stF_none] at hj
          simp at hj
          omega
        rw [stF_shift ro.bytes (0 + lo.bytes.length) 0] at hj
        rw [stF_at0 ro.bytes (0 + lo.bytes.length)] at eb
        refine iteF ⟨_, rfl, _, rfl, _, _, rfl, rfl, _, rfl, _, rfl, b, C, dx, _, _, rfl, x1, S.cl, S.nL, s_left _ _ _ _ _ _, pa, C, dl, _, _, rfl, y0, S.cl, S.nS, s_size _ _ _ _ _ _, _, _, rfl, rfl, _, rfl, _, rfl, b, C, dx, _, _, rfl, x1, S.cl, S.nR, s_right _ _ _ _ _ _, ro.nodes, by simp only [Spn.nodes]; omega, pb, ro, gg, j - (stF (laOf is) 0 (some c) lo.bytes).length, z + lo.size, some (optN (some gg)), some (natV (stF (laOf is) 0 (some c) lo.bytes).length), ?_, rfl, x3, o2, le gg rfl, by omega, ?_, rfl⟩
        · have e1 : (j : Int) - ((stF (laOf is) 0 (some c) lo.bytes).length : Int) = ((j - (stF (laOf is) 0 (some c) lo.bytes).length : Nat) : Int) := by omega
          have e2 : (z : Int) + (lo.size : Int) = ((z + lo.size : Nat) : Int) := by omega
          rw [← e1, ← e2]
          rfl
        · rw [eb, Option.map_map, Nat.zero_add, ← lz]
          congr 1
          funext y
          show z + (lo.size + y) = z + lo.size + y
          omega
end
end Ov
namespace Ov
open PySem PySem.Spec PyProof.Rows L2
section
variable {P : Program} {w : World} {K : PySem.W.Frag} {mg : Str → Option Value} {base : Heap}
/-! ### nth_start -/
abbrev sBNth : Stmt := inClass cCodeBuffer 10
def spBNth (K : PySem.W.Frag) (C0 C CB : Addr) : Sp := fun vs H Q _ => ∃ (p x ed it : Addr) (cnt lg : Nat) (is : List I4) (rs : List Addr) (t : Spn) (es : List Edit) (e n : Nat), vs = [.ref p, .int (e : Int), .int (n : Int)] ∧ BufAt K C CB (mpOf is) H p x ed t es ∧ Mach C0 H x cnt lg it is rs ∧ e ≤ t.size ∧
  ∀ H', Same H H' → Q (optN ((stF (laOf is) e (some 0) (t.bytes.drop e))[n]?)) H'
theorem scBNth : FnScope ["self", "entry", "number", "offset"] ["self", "entry", "number"] (defScope sBNth) := ⟨rfl, rfl, rfl, by decide +kernel, rfl, by decide +kernel, by decide +kernel⟩
theorem ok_bNth {f fO fB fS C0 C CB : Addr} {fd fdO fdB fdS : FuncData} {k : Nat} (F : Fun K "nth_start" "CodeBuffer.nth_start" sBNth f fd) (S : SpanTxt K mg C) (B : BufTxt K mg CB)
    (MO : Meth K CB "check_offset" fO) (bO : Binds K fdO ["self", "value", "least"] []) (GO : FnOk P w K mg base CX0 k fO fdO ["self", "value", "least"] (spBChO K C CB))
    (MB : Meth K CB "between" fB) (bB : Binds K fdB ["self", "start", "stop"] []) (GB : FnOk P w K mg base CX0 k fB fdB ["self", "start", "stop"] (spBBetween K C0 C CB))
    (Si : Def K mg "start_in" s_start_in fS fdS ["instruction_set", "span", "number"]) (GS : FnOk P w K mg base CX0 k fS fdS ["instruction_set", "span", "number"] (spStartIn K C0 C)) :
    FnOk P w K mg base CX0 (k + 1) f fd ["self", "entry", "number"] (spBNth K C0 C CB) := by
  refine F.ok scBNth (fun vs H Q E h => ?_) (fun cdv A' outer s H vs Q E hr h => ?_)
  · obtain ⟨p, x, ed, it, cnt, lg, is, rs, t, es, e, n, rfl, _⟩ := h
    rfl
  · obtain ⟨p, x, ed, it, cnt, lg, is, rs, t, es, e, n, rfl, hB, MA, h1, q⟩ := h
    refine ⟨_, pss_cons (ps_expr (pe_meth (pv 0) B.cl MO GO hr bO .nil pass0 (pa_cons (pv 1) (pa_cons pe_int pa_nil))))
      (pss_cons (ps_set (i := 3) scBNth.nd rfl (.inl rfl) (pe_call GS hr (by rfl) Si.gl Si.fn.kp Si.bi .nil pass0 (pa_cons (pe_fld (pv 0) rfl) (pa_cons (pe_meth (pv 0) B.cl MB GB hr bB .nil pass0 (pa_cons (pv 1) (pa_cons (pe_fld (pe_fld (pv 0) rfl) rfl) pa_nil))) (pa_cons (pv 2) pa_nil)))))
      (pss_one (ps_ret (pe_ifExp (pt_cmpR op_isN (pv 3) pe_non (nomark _)) pe_non (pe_op op_add (pv 1) (pv 3)))))), ?_⟩
    obtain ⟨dx, sn, vs, hp, hs, _⟩ := hB.ob
    obtain ⟨ds, ms, _, _, _, ha, _⟩ := hs.show
    have no := b_no x sn ed (m := "check_offset") (by decide +kernel) (by decide +kernel) (by decide +kernel)
    refine ⟨_, rfl, p, dx, _, rfl, hp, no, _, rfl, p, x, ed, _, t, es, e, 0, rfl, hB, Nat.zero_le _, h1, ?_⟩
    refine ⟨_, rfl, p, CB, dx, _, _, rfl, hp, B.cl, B.nI, b_set _ _ _, _, rfl, p, dx, _, rfl, hp, b_btw _ _ _, _, rfl, _, rfl, p, CB, dx, _, _, rfl, hp, B.cl, B.nS, b_span _ _ _, sn, C, ds, _, _, rfl, ha, S.cl, S.nS, s_size _ _ _ _ _ _, p, x, ed, it, cnt, lg, is, rs, t, es, e, t.size, rfl, hB, MA, h1, Nat.le_refl _, fun H1 q1 u s1 A1 o1 e1 => ?_⟩
    refine ⟨_, rfl, x, it, q1, cnt, lg, is, rs, u, n, rfl, MA.same s1, A1, o1, fun H2 s2 => ?_⟩
    have z := q H2 (s1.trans s2)
    rw [Spn.size_eq, List.take_length] at e1
    rw [stF_at0, ← e1] at z
    generalize (stF (laOf is) 0 (some 0) u.bytes)[n]? = g at *
    rcases g with _ | g
    · exact ⟨_, rfl, rfl, _, rfl, iteT z⟩
    · refine ⟨_, rfl, rfl, _, rfl, iteF ⟨_, rfl, _, rfl, _, _, rfl, rfl, ?_⟩⟩
      have e2 : (e : Int) + (g : Int) = ((e + g : Nat) : Int) := by omega
      show Q (V.int ((e : Int) + (g : Int))) H2
      rw [e2]
      exact z
end
end Ov
namespace Ov
open PySem PySem.Spec PyProof.Rows L2
section
variable {P : Program} {w : World} {K : PySem.W.Frag} {mg : Str → Option Value} {base : Heap}
/-! ### is_decided, decided_offset, countdown_after -/
def spDecd : Sp := fun vs H Q _ => ∃ s u : Option Nat, vs = [optN s, optN u] ∧ Q (.bl (decd s u)) H
theorem scDecd : FnScope ["first", "second"] ["first", "second"] (defScope s_is_decided) := ⟨rfl, rfl, rfl, by decide +kernel, rfl, by decide +kernel, by decide +kernel⟩
theorem ok_decd {f : Addr} {fd : FuncData} {k : Nat} (F : Fun K "is_decided" "is_decided" s_is_decided f fd) : FnOk P w K mg base CX0 (k + 1) f fd ["first", "second"] spDecd := by
  refine F.ok scDecd (fun vs H Q E h => ?_) (fun cdv A' outer s H vs Q E hr h => ?_)
  · obtain ⟨a, b, rfl, _⟩ := h
    rfl
  · obtain ⟨a, b, rfl, q⟩ := h
    refine ⟨_, pss_one (ps_ret (pe_or (pe_cmpR op_isN (pv 0) pe_non (nomark _)) (pe_or (pe_cmpR op_isN (pv 1) pe_non (nomark _)) (pe_one (pe_cmpR op_eq (pv 0) (pv 1) (nomark _)))))), ?_⟩
    rcases a with _ | a
    · exact ⟨_, rfl, rfl, _, rfl, iteT q⟩
    rcases b with _ | b
    · exact ⟨_, rfl, rfl, _, rfl, iteF ⟨_, rfl, rfl, _, rfl, iteT q⟩⟩
    refine ⟨_, rfl, rfl, _, rfl, iteF ⟨_, rfl, rfl, _, rfl, iteF ⟨_, rfl, _, rfl, rfl, ?_⟩⟩⟩
    have e : decide (V.int (a : Int) = V.int (b : Int)) = decd (some a) (some b) := by
      show _ = decide (a = b)
      rw [Bool.eq_iff_iff, decide_eq_true_eq, decide_eq_true_eq]
      exact ⟨fun z => Int.ofNat.inj (V.int.inj z), fun z => by rw [z]⟩
    show Q (.bl (decide (V.int (a : Int) = V.int (b : Int)))) H
    rw [e]
    exact q
def spDecO : Sp := fun vs H Q _ => ∃ (s u : Option Nat) (o : Nat), vs = [optN s, optN u, .int (o : Int)] ∧ Q (optN (meetAt o s u)) H
theorem scDecO : FnScope ["first", "second", "offset"] ["first", "second", "offset"] (defScope s_decided_offset) := ⟨rfl, rfl, rfl, by decide +kernel, rfl, by decide +kernel, by decide +kernel⟩
theorem ok_decO {f : Addr} {fd : FuncData} {k : Nat} (F : Fun K "decided_offset" "decided_offset" s_decided_offset f fd) : FnOk P w K mg base CX0 (k + 1) f fd ["first", "second", "offset"] spDecO := by
  refine F.ok scDecO (fun vs H Q E h => ?_) (fun cdv A' outer s H vs Q E hr h => ?_)
  · obtain ⟨a, b, o, rfl, _⟩ := h
    rfl
  · obtain ⟨a, b, o, rfl, q⟩ := h
    refine ⟨_, pss_one (ps_ret (pe_ifExp (PW.pt (pw_and (pt_cmpR op_notN (pv 0) pe_non (nomark _)) (pw_and1 (pt_cmpR op_eq (pv 0) (pv 1) (nomark _))))) (pv 2) pe_non)), ?_⟩
    rcases a with _ | a
    · exact ⟨_, rfl, rfl, _, rfl, iteF (iteF q)⟩
    rcases b with _ | b
    · exact ⟨_, rfl, rfl, _, rfl, iteT ⟨_, rfl, _, rfl, rfl, _, rfl, iteF q⟩⟩
    refine ⟨_, rfl, rfl, _, rfl, iteT ⟨_, rfl, _, rfl, rfl, _, rfl, ?_⟩⟩
    by_cases e : a = b
    · subst e
      have ed : decide (optN (some a) = optN (some a)) = true := decide_eq_true rfl
      rw [ed]
      refine iteT ⟨_, rfl, ?_⟩
      have z : meetAt o (some a) (some a) = some o := if_pos rfl
      rw [z] at q
      exact q
    · have ed : decide (optN (some a) = optN (some b)) = false := decide_eq_false (fun z => e (Int.ofNat.inj (V.int.inj z)))
      rw [ed]
      refine iteF ?_
      have z : meetAt o (some a) (some b) = none := if_neg e
      rw [z] at q
      exact q
def spAfter (C : Addr) : Sp := fun vs H Q _ => ∃ (p it : Addr) (cnt c : Nat) (is : List I4) (b : Int), vs = [.ref p, .int (c : Int), .int b] ∧ SetAt C H p cnt it is ∧ Q (optN (cdStep (laOf is) (some c) b)) H
theorem scAfter : FnScope ["instruction_set", "countdown", "byte", "length"] ["instruction_set", "countdown", "byte"] (defScope s_countdown_after) := ⟨rfl, rfl, rfl, by decide +kernel, rfl, by decide +kernel, by decide +kernel⟩
theorem ok_after {f fL C : Addr} {fd fdL : FuncData} {k : Nat} (F : Fun K "countdown_after" "countdown_after" s_countdown_after f fd) (S : SetTxt K mg C)
    (ML : Meth K C "length_at" fL) (bL : Binds K fdL ["self", "byte"] []) (GL : FnOk P w K mg base CX0 k fL fdL ["self", "byte"] (spLenAt C)) :
    FnOk P w K mg base CX0 (k + 1) f fd ["instruction_set", "countdown", "byte"] (spAfter C) := by
  refine F.ok scAfter (fun vs H Q E h => ?_) (fun cdv A' outer s H vs Q E hr h => ?_)
  · obtain ⟨p, it, cnt, c, is, b, rfl, _⟩ := h
    rfl
  · obtain ⟨p, it, cnt, c, is, b, rfl, SA, q⟩ := h
    refine ⟨_, pss_cons (ps_if (pt_cmpR op_gt (pv 1) pe_int (nomark _)) (pss_one (ps_ret (pe_op op_sub (pv 1) pe_int))) pss_nil)
      (pss_cons (ps_set (i := 3) scAfter.nd rfl (.inl rfl) (pe_meth (pv 0) S.cl ML GL hr bL .nil pass0 (pa_cons (pv 2) pa_nil)))
      (pss_one (ps_ret (pe_ifExp (pt_cmpR op_gt (pv 3) pe_int (nomark _)) (pe_op op_sub (pv 3) pe_int) pe_non)))), ?_⟩
    obtain ⟨dx, d1, d2, hp, _, _⟩ := SA.ob
    refine ⟨_, rfl, _, _, rfl, rfl, _, rfl, ?_⟩
    rcases c with _ | c
    · refine iteF ⟨_, rfl, p, dx, _, rfl, hp, no_meth _ _ _ _, _, rfl, p, it, cnt, is, b, rfl, SA, ?_⟩
      have st : cdStep (laOf is) (some 0) b = if laOf is b = 0 then none else some (laOf is b - 1) := rfl
      refine ⟨_, rfl, _, _, rfl, rfl, _, rfl, ?_⟩
      by_cases h0 : (0 : Int) < (laOf is b : Int)
      · rw [decide_eq_true h0]
        rw [st, if_neg (by omega)] at q
        refine iteT ⟨_, rfl, _, _, rfl, rfl, ?_⟩
        have e : (laOf is b : Int) - 1 = ((laOf is b - 1 : Nat) : Int) := by omega
        show Q (V.int ((laOf is b : Int) - 1)) H
        rw [e]
        exact q
      · rw [decide_eq_false h0]
        rw [st, if_pos (by omega)] at q
        exact iteF q
    · rw [decide_eq_true (show (0 : Int) < ((c + 1 : Nat) : Int) by omega)]
      refine iteT ⟨_, rfl, _, _, rfl, rfl, ?_⟩
      have e : ((c + 1 : Nat) : Int) - 1 = (c : Int) := by omega
      show Q (V.int (((c + 1 : Nat) : Int) - 1)) H
      rw [e]
      exact q
/-! ### meeting_in -/
def spMeetIn (K : PySem.W.Frag) (C0 C : Addr) : Sp := fun vs H Q _ => ∃ (p it a : Addr) (cnt lg : Nat) (is : List I4) (rs : List Addr) (t : Spn) (c d : Option Nat), vs = [.ref p, .ref a, optN c, optN d] ∧ Mach C0 H p cnt lg it is rs ∧ SpanAt K C (mpOf is) H a t ∧ t.ok ∧
  (∀ n, c = some n → n < lonOf is) ∧ (∀ n, d = some n → n < lonOf is) ∧ Q (optN (meetF (laOf is) 0 c d t.bytes)) H
abbrev nMeetIn : List Str := ["instruction_set", "span", "first", "second", "passed", "behind_first", "behind_second", "at"]
theorem scMeetIn : FnScope nMeetIn ["instruction_set", "span", "first", "second"] (defScope s_meeting_in) := ⟨rfl, rfl, rfl, by decide +kernel, rfl, by decide +kernel, by decide +kernel⟩
theorem decd_not {c d : Option Nat} (h : decd c d = false) : ∃ a b, c = some a ∧ d = some b := by
  rcases c with _ | a
  · cases h
  · rcases d with _ | b
    · cases h
    · exact ⟨a, b, rfl, rfl⟩
theorem ok_meetIn {f fD fO fA C0 C : Addr} {fd fdD fdO fdA : FuncData} {k : Nat} (F : Fun K "meeting_in" "meeting_in" s_meeting_in f fd) (S : SpanTxt K mg C)
    (De : Def K mg "is_decided" s_is_decided fD fdD ["first", "second"]) (GD : FnOk P w K mg base CX0 k fD fdD ["first", "second"] spDecd)
    (Do : Def K mg "decided_offset" s_decided_offset fO fdO ["first", "second", "offset"]) (GO : FnOk P w K mg base CX0 k fO fdO ["first", "second", "offset"] spDecO)
    (Af : Def K mg "countdown_after" s_countdown_after fA fdA ["instruction_set", "countdown", "byte"]) (GA : FnOk P w K mg base CX0 k fA fdA ["instruction_set", "countdown", "byte"] (spAfter C0)) :
    FnOk P w K mg base CX0 (k + 1) f fd ["instruction_set", "span", "first", "second"] (spMeetIn K C0 C) := by
  refine F.ok scMeetIn (fun vs H Q E h => ?_) (fun cdv A' outer s H vs Q E hr h => ?_)
  · obtain ⟨p, it, a, cnt, lg, is, rs, t, c, d, rfl, _⟩ := h
    rfl
  · obtain ⟨p, it, a, cnt, lg, is, rs, t, c, d, rfl, MA, ht, ok, hc, hd, q⟩ := h
    refine ⟨_, pss_cons (ps_if (pt_val (pe_call GD hr (by rfl) De.gl De.fn.kp De.bi .nil pass0 (pa_cons (pv 2) (pa_cons (pv 3) pa_nil)))) (pss_one (ps_ret (pe_call GO hr (by rfl) Do.gl Do.fn.kp Do.bi .nil pass0 (pa_cons (pv 2) (pa_cons (pv 3) (pa_cons pe_int pa_nil)))))) pss_nil)
      (pss_cons (ps_if (pt_not (pt_val (pe_call GD hr (by rfl) De.gl De.fn.kp De.bi .nil pass0 (pa_cons (pe_ix ix_tup (pe_ix ix_tup (pe_fld (pv 1) rfl) (pv 2) (fun _ _ => rfl)) pe_int (fun _ _ => rfl)) (pa_cons (pe_ix ix_tup (pe_ix ix_tup (pe_fld (pv 1) rfl) (pv 3) (fun _ _ => rfl)) pe_int (fun _ _ => rfl)) pa_nil))))) (pss_one (ps_ret pe_non)) pss_nil)
      (pss_cons (ps_set (i := 4) scMeetIn.nd rfl (.inl rfl) pe_int)
      (pss_cons (ps_while PassesOwn.never (pt_cmpR op_isN (pe_fld (pv 1) rfl) pe_non (nomark _))
        (pss_cons (ps_set (i := 5) scMeetIn.nd rfl (.inl rfl) (pe_ix ix_tup (pe_ix ix_tup (pe_fld (pe_fld (pv 1) rfl) rfl) (pv 2) (fun _ _ => rfl)) pe_int (fun _ _ => rfl)))
        (pss_cons (ps_set (i := 6) scMeetIn.nd rfl (.inl rfl) (pe_ix ix_tup (pe_ix ix_tup (pe_fld (pe_fld (pv 1) rfl) rfl) (pv 3) (fun _ _ => rfl)) pe_int (fun _ _ => rfl)))
        (pss_one (ps_if (pt_val (pe_call GD hr (by rfl) De.gl De.fn.kp De.bi .nil pass0 (pa_cons (pv 5) (pa_cons (pv 6) pa_nil))))
          (pss_one (ps_set (i := 1) scMeetIn.nd rfl (.inl rfl) (pe_fld (pv 1) rfl)))
          (pss_cons (ps_aug (i := 4) scMeetIn.nd rfl (.inl rfl) (pe_fld (pe_fld (pv 1) rfl) rfl) ip_add)
          (pss_cons (ps_par (i := 2) (j := 3) (by rfl) scMeetIn.nd rfl rfl (by decide) rfl rfl (pa_cons (pv 5) (pa_cons (pv 6) pa_nil)) (by rfl))
          (pss_one (ps_set (i := 1) scMeetIn.nd rfl (.inl rfl) (pe_fld (pv 1) rfl))))))))))
      (pss_cons (ps_set (i := 7) scMeetIn.nd rfl (.inl rfl) pe_int)
      (pss_cons (ps_while PassesOwn.never (pt_not (pt_val (pe_call GD hr (by rfl) De.gl De.fn.kp De.bi .nil pass0 (pa_cons (pv 2) (pa_cons (pv 3) pa_nil)))))
        (pss_cons (ps_set (i := 2) scMeetIn.nd rfl (.inl rfl) (pe_call GA hr (by rfl) Af.gl Af.fn.kp Af.bi .nil pass0 (pa_cons (pv 0) (pa_cons (pv 2) (pa_cons (pe_ix ix_tup (pe_fld (pv 1) rfl) (pv 7) (fun _ _ => rfl)) pa_nil)))))
        (pss_cons (ps_set (i := 3) scMeetIn.nd rfl (.inl rfl) (pe_call GA hr (by rfl) Af.gl Af.fn.kp Af.bi .nil pass0 (pa_cons (pv 0) (pa_cons (pv 3) (pa_cons (pe_ix ix_tup (pe_fld (pv 1) rfl) (pv 7) (fun _ _ => rfl)) pa_nil)))))
        (pss_one (ps_aug (i := 7) scMeetIn.nd rfl (.inl rfl) pe_int ip_add)))))
      (pss_one (ps_ret (pe_call GO hr (by rfl) Do.gl Do.fn.kp Do.bi .nil pass0 (pa_cons (pv 2) (pa_cons (pv 3) (pa_cons (pe_op op_add (pv 4) (pv 7)) pa_nil))))))))))), ?_⟩
    have i0 : ∀ x y : V, atI [x, y] 0 = some x := fun x y => atI_nat (j := 0) rfl
    refine ⟨_, rfl, _, rfl, c, d, rfl, _, rfl, ?_⟩
    cases dd : decd c d with
    | true =>
      rw [meet_dec dd] at q
      exact iteT ⟨_, rfl, _, rfl, c, d, 0, rfl, q⟩
    | false =>
    obtain ⟨a1, b1, rfl, rfl⟩ := decd_not dd
    obtain ⟨dt, mt, wt, lt, rt, k0, km⟩ := ht.show
    obtain ⟨ps, a0, m1, k1, k2⟩ := map_tell km (hc a1 rfl)
    obtain ⟨ps2, a2, m2, k3, k4⟩ := map_tell km (hd b1 rfl)
    refine iteF ⟨_, rfl, a, C, dt, _, _, rfl, k0, S.cl, S.nM, s_sum _ _ _ _ _ _, _, rfl, mt, _, a1, _, rfl, rfl, SqT.of m1, atI_nat (j := a1) k1, a0, _, 0, _, rfl, rfl, SqT.of k2, i0 _ _, ?_⟩
    refine ⟨_, rfl, a, C, dt, _, _, rfl, k0, S.cl, S.nM, s_sum _ _ _ _ _ _, _, rfl, mt, _, b1, _, rfl, rfl, SqT.of m2, atI_nat (j := b1) k3, a2, _, 0, _, rfl, rfl, SqT.of k4, i0 _ _, ?_⟩
    refine ⟨_, _, rfl, _, rfl, ?_⟩
    cases de : decd (cdEnd (laOf is) (some a1) t.bytes) (cdEnd (laOf is) (some b1) t.bytes) with
    | false =>
      rw [meet_open _ de] at q
      exact iteT q
    | true =>
    refine iteF ?_
    refine ⟨fun m σ G => ∃ (b : Addr) (u : Spn) (c1 d1 z : Nat) (v5 v6 : Option V), σ = [some (.ref p), some (.ref b), some (.int (c1 : Int)), some (.int (d1 : Int)), some (.int (z : Int)), v5, v6, none] ∧ G = H ∧ SpanAt K C (mpOf is) H b u ∧ u.ok ∧ c1 < lonOf is ∧ d1 < lonOf is ∧ decd (some c1) (some d1) = false ∧ decd (cdEnd (laOf is) (some c1) u.bytes) (cdEnd (laOf is) (some d1) u.bytes) = true ∧ meetF (laOf is) 0 (some a1) (some b1) t.bytes = meetF (laOf is) z (some c1) (some d1) u.bytes ∧ m = u.nodes,
      ⟨t.nodes, a, t, a1, b1, 0, none, none, rfl, rfl, ht, ok, hc a1 rfl, hd b1 rfl, dd, de, rfl, rfl⟩, ?_⟩
    rintro m σ G ⟨b, u, c1, d1, z, v5, v6, rfl, rfl, hb, oku, lc, ld, nd, en, em, rfl⟩
    cases u with
    | row bs =>
      obtain ⟨dx, cd, mm, x1, x2, x3⟩ := hb
      refine ⟨_, rfl, b, C, dx, _, _, rfl, x1, S.cl, S.nW, s_row _ _ _ _ _ _, rfl, _, rfl, iteF ?_⟩
      have en : decd (cdEnd (laOf is) (some c1) bs) (cdEnd (laOf is) (some d1) bs) = true := en
      have em : meetF (laOf is) 0 (some a1) (some b1) t.bytes = meetF (laOf is) z (some c1) (some d1) bs := em
      refine ⟨fun m σ G' => ∃ (i : Nat) (s1 s2 : Option Nat), σ = [some (.ref p), some (.ref b), some (optN s1), some (optN s2), some (.int (z : Int)), v5, v6, some (.int (i : Int))] ∧ G' = G ∧ i ≤ bs.length ∧ decd (cdEnd (laOf is) s1 (bs.drop i)) (cdEnd (laOf is) s2 (bs.drop i)) = true ∧ meetF (laOf is) 0 (some a1) (some b1) t.bytes = meetF (laOf is) (z + i) s1 s2 (bs.drop i) ∧ m = bs.length - i,
        ⟨bs.length, 0, some c1, some d1, rfl, rfl, Nat.zero_le _, en, em, rfl⟩, ?_⟩
      rintro m σ G' ⟨i, s1, s2, rfl, rfl, hi, ei, mi, rfl⟩
      refine ⟨_, rfl, _, rfl, s1, s2, rfl, _, rfl, ?_⟩
      cases dj : decd s1 s2 with
      | true =>
        rw [mi, meet_dec dj] at q
        refine iteF ⟨_, rfl, _, rfl, _, rfl, _, rfl, _, _, rfl, rfl, s1, s2, z + i, ?_, q⟩
        have e2 : (z : Int) + (i : Int) = ((z + i : Nat) : Int) := by omega
        rw [← e2]
        rfl
      | false =>
        obtain ⟨e1, e2, rfl, rfl⟩ := decd_not dj
        have lt : i < bs.length := by
          refine Nat.lt_of_not_le fun y => ?_
          rw [List.drop_eq_nil_of_le y] at ei
          have : decd (some e1) (some e2) = true := ei
          rw [dj] at this
          cases this
        have dr : bs.drop i = bs[i] :: bs.drop (i + 1) := (List.getElem_cons_drop lt).symm
        have at_ : atI (bs.map V.int) (i : Int) = some (.int bs[i]) := atI_nat (by rw [List.getElem?_map, List.getElem?_eq_getElem lt]; rfl)
        rw [dr] at ei mi
        have mi2 : meetF (laOf is) (z + i) (some e1) (some e2) (bs[i] :: bs.drop (i + 1)) = meetF (laOf is) (z + i + 1) (cdStep (laOf is) (some e1) bs[i]) (cdStep (laOf is) (some e2) bs[i]) (bs.drop (i + 1)) := if_neg (by rw [dj]; decide)
        rw [mi2] at mi
        refine iteT ⟨fun σ' G2 => ∃ m', m' < bs.length - i ∧ ∃ (i : Nat) (s1 s2 : Option Nat), σ' = [some (.ref p), some (.ref b), some (optN s1), some (optN s2), some (.int (z : Int)), v5, v6, some (.int (i : Int))] ∧ G2 = G' ∧ i ≤ bs.length ∧ decd (cdEnd (laOf is) s1 (bs.drop i)) (cdEnd (laOf is) s2 (bs.drop i)) = true ∧ meetF (laOf is) 0 (some a1) (some b1) t.bytes = meetF (laOf is) (z + i) s1 s2 (bs.drop i) ∧ m' = bs.length - i, fun _ _ h => h, ?_⟩
        refine ⟨_, rfl, _, rfl, _, rfl, b, C, dx, _, _, rfl, x1, S.cl, S.nW, s_row _ _ _ _ _ _, _, rfl, cd, _, _, _, rfl, rfl, x2, at_, p, it, cnt, e1, is, bs[i], rfl, MA.at_, ?_⟩
        refine ⟨_, rfl, _, rfl, _, rfl, b, C, dx, _, _, rfl, x1, S.cl, S.nW, s_row _ _ _ _ _ _, _, rfl, cd, _, _, _, rfl, rfl, x2, at_, p, it, cnt, e2, is, bs[i], rfl, MA.at_, ?_⟩
        exact ⟨_, rfl, _, _, rfl, rfl, bs.length - (i + 1), by omega, i + 1, _, _, rfl, rfl, lt, ei, mi, rfl⟩
    | pair lo ro =>
      obtain ⟨dx, pa, pb, pm, x1, x2, x3, x4⟩ := hb
      have okp : (Spn.pair lo ro).okN := oku.pos (fun y => by have := (oku.nil).mp y; cases this)
      obtain ⟨o1, o2, _, _⟩ := okp
      obtain ⟨dl, ml, wl, ll, rl, y0, ym⟩ := x2.show
      obtain ⟨qs, c0, n1, n2, n3⟩ := map_tell ym lc
      obtain ⟨qs2, c2, r1, r2, r3⟩ := map_tell ym ld
      have bb : (Spn.pair lo ro).bytes = lo.bytes ++ ro.bytes := rfl
      rw [bb] at en em
      refine ⟨_, rfl, b, C, dx, _, _, rfl, x1, S.cl, S.nW, s_row _ _ _ _ _ _, rfl, _, rfl, iteT ⟨fun σ' G' => ∃ m', m' < (Spn.pair lo ro).nodes ∧ ∃ (b : Addr) (u : Spn) (c1 d1 z : Nat) (v5 v6 : Option V), σ' = [some (.ref p), some (.ref b), some (.int (c1 : Int)), some (.int (d1 : Int)), some (.int (z : Int)), v5, v6, none] ∧ G' = G ∧ SpanAt K C (mpOf is) G b u ∧ u.ok ∧ c1 < lonOf is ∧ d1 < lonOf is ∧ decd (some c1) (some d1) = false ∧ decd (cdEnd (laOf is) (some c1) u.bytes) (cdEnd (laOf is) (some d1) u.bytes) = true ∧ meetF (laOf is) 0 (some a1) (some b1) t.bytes = meetF (laOf is) z (some c1) (some d1) u.bytes ∧ m' = u.nodes, fun _ _ h => h, ?_⟩⟩
      refine ⟨_, rfl, b, C, dx, _, _, rfl, x1, S.cl, S.nL, s_left _ _ _ _ _ _, pa, C, dl, _, _, rfl, y0, S.cl, S.nM, s_sum _ _ _ _ _ _, _, rfl, ml, _, c1, _, rfl, rfl, SqT.of n1, atI_nat (j := c1) n2, c0, _, 0, _, rfl, rfl, SqT.of n3, i0 _ _, ?_⟩
      refine ⟨_, rfl, b, C, dx, _, _, rfl, x1, S.cl, S.nL, s_left _ _ _ _ _ _, pa, C, dl, _, _, rfl, y0, S.cl, S.nM, s_sum _ _ _ _ _ _, _, rfl, ml, _, d1, _, rfl, rfl, SqT.of r1, atI_nat (j := d1) r2, c2, _, 0, _, rfl, rfl, SqT.of r3, i0 _ _, ?_⟩
      refine ⟨_, rfl, _, rfl, _, _, rfl, _, rfl, ?_⟩
      cases dl2 : decd (cdEnd (laOf is) (some c1) lo.bytes) (cdEnd (laOf is) (some d1) lo.bytes) with
      | true =>
        rw [meet_left _ _ dl2] at em
        exact iteT ⟨_, rfl, b, C, dx, _, _, rfl, x1, S.cl, S.nL, s_left _ _ _ _ _ _, lo.nodes, by simp only [Spn.nodes]; omega, pa, lo, c1, d1, z, _, _, rfl, rfl, x2, .inr o1, lc, ld, nd, dl2, em, rfl⟩
      | false =>
        rw [meet_right _ _ dl2] at em
        rw [cdEnd_app, cdEnd_app] at en
        have le1 := end_lt MA.ok (s := some c1) (fun n e => by have : c1 = n := Option.some.inj e; omega) lo.bytes
        have le2 := end_lt MA.ok (s := some d1) (fun n e => by have : d1 = n := Option.some.inj e; omega) lo.bytes
        obtain ⟨g1, g2, eg1, eg2⟩ := decd_not dl2
        rw [eg1, eg2] at en em dl2 ⊢
        refine iteF ⟨_, rfl, _, rfl, b, C, dx, _, _, rfl, x1, S.cl, S.nL, s_left _ _ _ _ _ _, pa, C, dl, _, _, rfl, y0, S.cl, S.nS, s_size _ _ _ _ _ _, _, _, rfl, rfl, _, rfl, _, rfl, _, _, rfl, _, rfl, b, C, dx, _, _, rfl, x1, S.cl, S.nR, s_right _ _ _ _ _ _, ro.nodes, by simp only [Spn.nodes]; omega, pb, ro, g1, g2, z + lo.size, some (optN (some g1)), some (optN (some g2)), ?_, rfl, x3, .inr o2, le1 g1 eg1, le2 g2 eg2, dl2, en, ?_, rfl⟩
        · have e2 : (z : Int) + (lo.size : Int) = ((z + lo.size : Nat) : Int) := by omega
          rw [← e2]
          rfl
        · rw [em, Spn.size_eq]
end
end Ov
namespace Ov
open PySem PySem.Spec PyProof.Rows L2
section
variable {P : Program} {w : World} {K : PySem.W.Frag} {mg : Str → Option Value} {base : Heap}
abbrev sBMf : Stmt := inClass cCodeBuffer 19
def spBMf (K : PySem.W.Frag) (C0 C CB : Addr) : Sp := fun vs H Q _ => ∃ (p x ed it : Addr) (cnt lg : Nat) (is : List I4) (rs : List Addr) (t : Spn) (es : List Edit) (o : Nat) (c d : Option Nat), vs = [.ref p, .int (o : Int), optN c, optN d] ∧ BufAt K C CB (mpOf is) H p x ed t es ∧ Mach C0 H x cnt lg it is rs ∧ o ≤ t.size ∧ (∀ n, c = some n → n < lonOf is) ∧ (∀ n, d = some n → n < lonOf is) ∧
  ∀ H', Same H H' → Q (optN (meetF (laOf is) o c d (t.bytes.drop o))) H'
theorem scBMf : FnScope ["self", "offset", "first", "second", "behind", "passed"] ["self", "offset", "first", "second"] (defScope sBMf) := ⟨rfl, rfl, rfl, by decide +kernel, rfl, by decide +kernel, by decide +kernel⟩
theorem ok_bMf {f fB fS C0 C CB : Addr} {fd fdB fdS : FuncData} {k : Nat} (F : Fun K "meeting_from" "CodeBuffer.meeting_from" sBMf f fd) (S : SpanTxt K mg C) (B : BufTxt K mg CB)
    (MB : Meth K CB "between" fB) (bB : Binds K fdB ["self", "start", "stop"] []) (GB : FnOk P w K mg base CX0 k fB fdB ["self", "start", "stop"] (spBBetween K C0 C CB))
    (Mi : Def K mg "meeting_in" s_meeting_in fS fdS ["instruction_set", "span", "first", "second"]) (GM : FnOk P w K mg base CX0 k fS fdS ["instruction_set", "span", "first", "second"] (spMeetIn K C0 C)) :
    FnOk P w K mg base CX0 (k + 1) f fd ["self", "offset", "first", "second"] (spBMf K C0 C CB) := by
  refine F.ok scBMf (fun vs H Q E h => ?_) (fun cdv A' outer s H vs Q E hr h => ?_)
  · obtain ⟨p, x, ed, it, cnt, lg, is, rs, t, es, o, c, d, rfl, _⟩ := h
    rfl
  · obtain ⟨p, x, ed, it, cnt, lg, is, rs, t, es, o, c, d, rfl, hB, MA, h1, hc, hd, q⟩ := h
    refine ⟨_, pss_cons (ps_set (i := 4) scBMf.nd rfl (.inl rfl) (pe_meth (pv 0) B.cl MB GB hr bB .nil pass0 (pa_cons (pv 1) (pa_cons (pe_fld (pe_fld (pv 0) rfl) rfl) pa_nil))))
      (pss_cons (ps_set (i := 5) scBMf.nd rfl (.inl rfl) (pe_call GM hr (by rfl) Mi.gl Mi.fn.kp Mi.bi .nil pass0 (pa_cons (pe_fld (pv 0) rfl) (pa_cons (pv 4) (pa_cons (pv 2) (pa_cons (pv 3) pa_nil))))))
      (pss_one (ps_ret (pe_ifExp (pt_cmpR op_isN (pv 5) pe_non (nomark _)) pe_non (pe_op op_add (pv 1) (pv 5)))))), ?_⟩
    obtain ⟨dx, sn, vs, hp, hs, _⟩ := hB.ob
    obtain ⟨ds, ms, _, _, _, ha, _⟩ := hs.show
    refine ⟨_, rfl, p, dx, _, rfl, hp, b_btw _ _ _, _, rfl, _, rfl, p, CB, dx, _, _, rfl, hp, B.cl, B.nS, b_span _ _ _, sn, C, ds, _, _, rfl, ha, S.cl, S.nS, s_size _ _ _ _ _ _, p, x, ed, it, cnt, lg, is, rs, t, es, o, t.size, rfl, hB, MA, h1, Nat.le_refl _, fun H1 q1 u s1 A1 o1 e1 => ?_⟩
    refine ⟨_, rfl, p, CB, dx, _, _, rfl, s1 _ _ hp, B.cl, B.nI, b_set _ _ _, _, rfl, _, rfl, _, rfl, x, it, q1, cnt, lg, is, rs, u, c, d, rfl, MA.same s1, A1, o1, hc, hd, ?_⟩
    have z := q H1 s1
    rw [Spn.size_eq, List.take_length] at e1
    have sh := meet_shift (la := laOf is) u.bytes o 0 c d
    rw [Nat.add_zero] at sh
    rw [← e1, sh] at z
    generalize meetF (laOf is) 0 c d u.bytes = g at *
    rcases g with _ | g
    · exact ⟨_, rfl, rfl, _, rfl, iteT z⟩
    · refine ⟨_, rfl, rfl, _, rfl, iteF ⟨_, rfl, _, rfl, _, _, rfl, rfl, ?_⟩⟩
      have e2 : (o : Int) + (g : Int) = ((o + g : Nat) : Int) := by omega
      show Q (V.int ((o : Int) + (g : Int))) H1
      rw [e2]
      exact z
end
end Ov
namespace Ov
open PySem PySem.Spec PyProof.Rows L2
section
variable {P : Program} {w : World} {K : PySem.W.Frag} {mg : Str → Option Value} {base : Heap}
abbrev sBAgr : Stmt := inClass cCodeBuffer 11
def spBAgr (K : PySem.W.Frag) (C0 C CB : Addr) : Sp := fun vs H Q _ => ∃ (p x ed it : Addr) (cnt lg : Nat) (is : List I4) (rs : List Addr) (t : Spn) (es : List Edit) (e o : Nat), vs = [.ref p, .int (e : Int), .int (o : Int)] ∧ BufAt K C CB (mpOf is) H p x ed t es ∧ Mach C0 H x cnt lg it is rs ∧ e ≤ t.size ∧ o ≤ t.size ∧
  ∀ H', Same H H' → Q (optN (meetF (laOf is) (max e o) (cdEnd (laOf is) (some 0) ((t.bytes.take (max e o)).drop (min e o))) (some 0) (t.bytes.drop (max e o)))) H'
theorem scBAgr : FnScope ["self", "entry", "other", "low", "high"] ["self", "entry", "other"] (defScope sBAgr) := ⟨rfl, rfl, rfl, by decide +kernel, rfl, by decide +kernel, by decide +kernel⟩
theorem ok_bAgr {f fO fD fM C0 C CB : Addr} {fd fdO fdD fdM : FuncData} {k : Nat} (F : Fun K "agreement" "CodeBuffer.agreement" sBAgr f fd) (T : Bi mg) (B : BufTxt K mg CB)
    (MO : Meth K CB "check_offset" fO) (bO : Binds K fdO ["self", "value", "least"] []) (GO : FnOk P w K mg base CX0 k fO fdO ["self", "value", "least"] (spBChO K C CB))
    (MD : Meth K CB "countdown_between" fD) (bD : Binds K fdD ["self", "entry", "offset"] []) (GD : FnOk P w K mg base CX0 k fD fdD ["self", "entry", "offset"] (spBCdb K C0 C CB))
    (MM : Meth K CB "meeting_from" fM) (bM : Binds K fdM ["self", "offset", "first", "second"] []) (GM : FnOk P w K mg base CX0 k fM fdM ["self", "offset", "first", "second"] (spBMf K C0 C CB)) :
    FnOk P w K mg base CX0 (k + 1) f fd ["self", "entry", "other"] (spBAgr K C0 C CB) := by
  refine F.ok scBAgr (fun vs H Q E h => ?_) (fun cdv A' outer s H vs Q E hr h => ?_)
  · obtain ⟨p, x, ed, it, cnt, lg, is, rs, t, es, e, o, rfl, _⟩ := h
    rfl
  · obtain ⟨p, x, ed, it, cnt, lg, is, rs, t, es, e, o, rfl, hB, MA, h1, h2, q⟩ := h
    refine ⟨_, pss_cons (ps_expr (pe_meth (pv 0) B.cl MO GO hr bO .nil pass0 (pa_cons (pv 1) (pa_cons pe_int pa_nil))))
      (pss_cons (ps_expr (pe_meth (pv 0) B.cl MO GO hr bO .nil pass0 (pa_cons (pv 2) (pa_cons pe_int pa_nil))))
      (pss_cons (ps_par (i := 3) (j := 4) (by rfl) scBAgr.nd rfl rfl (by decide) rfl rfl (pa_cons (pe_callB (call_min2 rfl) (by rfl) T.min (by decide +kernel) (pa_cons (pv 1) (pa_cons (pv 2) pa_nil))) (pa_cons (pe_callB (call_max2 rfl) (by rfl) T.max (by decide +kernel) (pa_cons (pv 1) (pa_cons (pv 2) pa_nil))) pa_nil)) (by rfl))
      (pss_one (ps_ret (pe_meth (pv 0) B.cl MM GM hr bM .nil pass0 (pa_cons (pv 4) (pa_cons (pe_meth (pv 0) B.cl MD GD hr bD .nil pass0 (pa_cons (pv 3) (pa_cons (pv 4) pa_nil))) (pa_cons pe_int pa_nil)))))))), ?_⟩
    obtain ⟨dx, sn, vs, hp, _⟩ := hB.ob
    have no := b_no x sn ed (m := "check_offset") (by decide +kernel) (by decide +kernel) (by decide +kernel)
    have no2 := b_no x sn ed (m := "meeting_from") (by decide +kernel) (by decide +kernel) (by decide +kernel)
    have no3 := b_no x sn ed (m := "countdown_between") (by decide +kernel) (by decide +kernel) (by decide +kernel)
    refine ⟨_, rfl, p, dx, _, rfl, hp, no, _, rfl, p, x, ed, _, t, es, e, 0, rfl, hB, Nat.zero_le _, h1, ?_⟩
    refine ⟨_, rfl, p, dx, _, rfl, hp, no, _, rfl, p, x, ed, _, t, es, o, 0, rfl, hB, Nat.zero_le _, h2, ?_⟩
    refine ⟨_, rfl, _, rfl, _, _, rfl, _, rfl, _, rfl, _, _, rfl, _, _, rfl, ?_⟩
    have emin : (if (o : Int) < (e : Int) then (o : Int) else (e : Int)) = ((min e o : Nat) : Int) := by
      split <;> omega
    have emax : (if (o : Int) > (e : Int) then (o : Int) else (e : Int)) = ((max e o : Nat) : Int) := by
      split <;> omega
    rw [emin, emax]
    have le := end_lt MA.ok (zero_lt MA.ok) ((t.bytes.take (max e o)).drop (min e o))
    refine ⟨_, rfl, p, dx, _, rfl, hp, no2, _, rfl, _, rfl, p, dx, _, rfl, hp, no3, _, rfl, _, rfl, p, x, ed, it, cnt, lg, is, rs, t, es, min e o, max e o, rfl, hB, MA, by omega, by omega, fun H1 s1 => ?_⟩
    exact ⟨p, x, ed, it, cnt, lg, is, rs, t, es, max e o, _, some 0, rfl, hB.same s1, MA.same s1, by omega, le, zero_lt MA.ok, fun H2 s2 => q H2 (s1.trans s2)⟩
end
end Ov
namespace Ov
open PySem PySem.Spec PyProof.Rows L2
theorem EdsAt.last {K : PySem.W.Frag} {C : Addr} {mp : List Int → List PM} {H : Hp} {e : Edit} : ∀ {es : List Edit} {us : List V}, EdsAt K C mp H us (es ++ [e]) → ∃ vs v, us = vs ++ [v] ∧ EdsAt K C mp H vs es ∧ EdAt K C mp H v e
  | [], _, h => by
    cases h with
    | cons a b =>
      cases b
      exact ⟨[], _, rfl, .nil, a⟩
  | _ :: es, _, h => by
    cases h with
    | cons a b =>
      obtain ⟨vs, v, rfl, h1, h2⟩ := EdsAt.last b
      exact ⟨_ :: vs, v, rfl, .cons a h1, h2⟩
end Ov
namespace Ov
open PySem PySem.Spec PyProof.Rows L2
section
variable {P : Program} {w : World} {K : PySem.W.Frag} {mg : Str → Option Value} {base : Heap}
/-! ### undo of an edit -/
abbrev sBUnd : Stmt := inClass cCodeBuffer 5
def spBUnd (K : PySem.W.Frag) (C CB : Addr) : Sp := fun vs H Q _ => ∃ (p x ed : Addr) (mp : List Int → List PM) (t t0 : Spn) (es : List Edit) (st ol nw : Nat), vs = [.ref p] ∧ BufAt K C CB mp H p x ed t (es ++ [(t0, st, ol, nw)]) ∧ t0.size ≤ 10 ^ 15 ∧
  ∀ H', But2 p ed H H' → BufAt K C CB mp H' p x ed t0 es → Q .non H'
theorem scBUnd : FnScope ["self", "before", "start", "old_size", "new_size"] ["self"] (defScope sBUnd) := ⟨rfl, rfl, rfl, by decide +kernel, rfl, by decide +kernel, by decide +kernel⟩
theorem ok_bUnd {f C CB : Addr} {fd : FuncData} {k : Nat} (F : Fun K "undo" "CodeBuffer.undo" sBUnd f fd) (T : Bi mg) (B : BufTxt K mg CB) : FnOk P w K mg base CX0 (k + 1) f fd ["self"] (spBUnd K C CB) := by
  refine F.ok scBUnd (fun vs H Q E h => ?_) (fun cdv A' outer s H vs Q E hr h => ?_)
  · obtain ⟨p, x, ed, mp, t, t0, es, st, ol, nw, rfl, _⟩ := h
    rfl
  · obtain ⟨p, x, ed, mp, t, t0, es, st, ol, nw, rfl, hB, big, q⟩ := h
    refine ⟨_, pss_cons (ps_if (pt_cmpR op_eq (pe_callB call_len_seq (by rfl) T.len PySem.boot_len (pa_cons (pe_fld (pv 0) rfl) pa_nil)) pe_int (nomark _)) (pss_one ps_never) pss_nil)
      (pss_cons (ps_asg (pe_bm0 PySem.F.plainAttrs_list PySem.F.slot_list_pop PySem.F.type_list_pop mt_pop (pe_fld (pv 0) rfl)) (pg_tup rfl (pgs_cons (pg_name (i := 1) scBUnd.nd rfl (.inl rfl)) (pgs_cons (pg_name (i := 2) scBUnd.nd rfl (.inl rfl)) (pgs_cons (pg_name (i := 3) scBUnd.nd rfl (.inl rfl)) (pgs_cons (pg_name (i := 4) scBUnd.nd rfl (.inl rfl)) pgs_nil))))))
      (pss_one (ps_fld (pv 0) (pv 1) rfl))), ?_⟩
    obtain ⟨dx, sn, evs, hp, hs, hed, hE⟩ := hB.ob
    obtain ⟨vs0, v, rfl, hE0, r, sb, rfl, hr1, hsb, oks⟩ := hE.last
    have edp : ed ≠ p := fun z => by rw [z, hp] at hed; cases hed
    refine ⟨_, rfl, p, CB, dx, _, _, rfl, hp, B.cl, B.nE, b_edits _ _ _, ed, _, rfl, .inl (SqL.of hed), rfl, _, rfl, ?_⟩
    rw [decide_eq_false (fun z => by have := V.int.inj z; rw [List.length_append, List.length_singleton] at this; omega)]
    refine iteF ⟨_, rfl, p, CB, dx, _, _, rfl, hp, B.cl, B.nE, b_edits _ _ _, .inl ⟨rfl, _, SqL.of hed⟩, ed, _, V.ref r, rfl, rfl, hed, by simp, ?_⟩
    rw [List.dropLast_concat]
    have b1 : But2 p ed H (upd H ed (.lst vs0)) := fun a o e n m => by rw [upd_ne m]; exact e
    have hp1 : upd H ed (.lst vs0) p = some (.ins CB dx (bfld x sn ed)) := by rw [upd_ne (Ne.symm edp)]; exact hp
    have hr2 := b1 _ _ hr1 (fun z => by rw [z, hp] at hr1; cases hr1) (fun z => by rw [z, hed] at hr1; cases hr1)
    have hsb1 := hsb.but2 hp hed b1
    have hE1 := hE0.but2 hp hed b1
    have hed1 := @upd_same H ed (.lst vs0)
    generalize upd H ed (.lst vs0) = H1 at *
    refine ⟨r, _, rfl, SqT.of hr2, rfl, _, _, rfl, _, _, rfl, _, _, rfl, _, _, rfl, rfl, ?_⟩
    refine ⟨_, rfl, _, rfl, p, CB, dx, _, rfl, hp1, B.cl, B.nS, (by show 3 < 1000; decide), ?_⟩
    rw [b_put]
    have b2 : But2 p ed H1 (upd H1 p (.ins CB dx (bfld x sb ed))) := fun a o e n m => by rw [upd_ne n]; exact e
    refine q _ (b1.trans b2) ⟨⟨dx, sb, vs0, upd_same, hsb1.but2 hp1 hed1 b2, ?_, hE1.but2 hp1 hed1 b2⟩, oks, big⟩
    rw [upd_ne edp]
    exact hed1
end
end Ov
namespace Ov
open PySem PySem.Spec PyProof.Rows L2
section
variable {P : Program} {w : World} {K : PySem.W.Frag} {mg : Str → Option Value} {base : Heap}
/-! ### _law_bytes -/
def spBytes : Sp := fun vs H Q _ => ∃ (p t : Addr) (n cnt lg : Nat) (is : List I4) (it : Addr) (rs : List Addr) (many : Nat), vs = [.ref p, .ref t, .int (many : Int)] ∧ BoxAt H p n ∧ n ≤ 2 ^ 39 ∧ Tab H t cnt lg is it rs ∧ many ≤ 900 ∧
  ∀ H' c (bs : List Int), But p H H' → BoxAt H' p (n + 2 * many) → H c = none → H' c = some (.tup (bs.map V.int)) → (∀ b ∈ bs, 0 ≤ b ∧ b < (cnt : Int)) → bs.length = many → Q (.ref c) H'
theorem scBytes : FnScope ["_law_box_here", "_law_table_here", "_law_many", "_law_some", "_law_instruction", "_law_at"] ["_law_box_here", "_law_table_here", "_law_many"] (defScope sBytes) := ⟨rfl, rfl, rfl, by decide +kernel, rfl, by decide +kernel, by decide +kernel⟩
theorem ok_bytes {f fO fT : Addr} {fd fdO fdT : FuncData} {k : Nat} (F : Fun K "_law_bytes" "_law_bytes" sBytes f fd) (T : Bi mg)
    (O : Def K mg "_law_of" sOf fO fdO ["_law_box_here", "_law_some"]) (GO : FnOk P w K mg base CX0 k fO fdO ["_law_box_here", "_law_some"] spOf)
    (Tk : Def K mg "_law_take" sTake fT fdT ["_law_box_here", "_law_many"]) (GT : FnOk P w K mg base CX0 k fT fdT ["_law_box_here", "_law_many"] spTake) :
    FnOk P w K mg base CX0 (k + 1) f fd ["_law_box_here", "_law_table_here", "_law_many"] spBytes := by
  refine F.ok scBytes (fun vs H Q E h => ?_) (fun cdv A' outer s H vs Q E hr h => ?_)
  · obtain ⟨p, t, n, cnt, lg, is, it, rs, many, rfl, _⟩ := h
    rfl
  · obtain ⟨p, t, n, cnt, lg, is, it, rs, many, rfl, B, hn, Tb, hm, q⟩ := h
    refine ⟨_, pss_cons (ps_set (i := 3) scBytes.nd rfl (.inr rfl) (pe_lc (own := [("_law_instruction", 4)]) (g := gName 4) (tt := tYes) (by rfl) scBytes.nd (pi_tup (pe_ix ix_tup (pv 1) pe_int (fun _ _ => rfl)))
          (blkOk_by (own := [("_law_instruction", 4)]) (N := ["_law_box_here", "_law_table_here", "_law_many", "_law_some", "_law_instruction", "_law_at"]) (sc := defScope sBytes) (by decide +kernel))
          (fun _ _ _ _ _ => pg_name (i := 4) scBytes.nd rfl (Or.inl rfl)) (fun _ _ _ _ _ => pts_nil)
          (fun _ _ _ _ _ => pe_ix (r := rIxT K) ix_tup (pv 4) pe_int (fun _ _ => rfl))))
      (pss_one (ps_ret (pe_callTy call_tuple_of (by rfl) T.tuple (by decide +kernel) (pa_cons
        (pe_lc (own := [("_law_at", 5)]) (g := gName 5) (tt := tYes) (by rfl) scBytes.nd (pi_range1 (by rfl) T.range (pa_cons (pv 2) pa_nil))
          (blkOk_by (own := [("_law_at", 5)]) (N := ["_law_box_here", "_law_table_here", "_law_many", "_law_some", "_law_instruction", "_law_at"]) (sc := defScope sBytes) (by decide +kernel))
          (fun _ _ _ _ _ => pg_name (i := 5) scBytes.nd rfl (Or.inl rfl)) (fun _ _ _ _ _ => pts_nil)
          (fun _ _ _ _ _ => pe_ifExp (pt_cmpR op_gt (pe_call GT hr (by rfl) Tk.gl Tk.fn.kp Tk.bi .nil pass0 (pa_cons (pv 0) (pa_cons pe_int pa_nil))) pe_int (nomark _))
            (pe_call GO hr (by rfl) O.gl O.fn.kp O.bi .nil pass0 (pa_cons (pv 0) (pa_cons (pv 3) pa_nil)))
            (pe_call GT hr (by rfl) Tk.gl Tk.fn.kp Tk.bi .nil pass0 (pa_cons (pv 0) (pa_cons (pe_ix (r := rIxT K) ix_tup (pv 1) pe_int (fun _ _ => rfl)) pa_nil))))) pa_nil)))), ?_⟩
    have ok := Tb.ok
    have cb := ok.cb
    have few := ok.few
    have rl := Tb.rows.1
    have hit := Tb.its
    have i0 : ∀ x y : V, atI [x, y] 0 = some x := fun x y => atI_nat (j := 0) rfl
    have i1 : ∀ x y : V, atI [x, y] 1 = some y := fun x y => atI_nat (j := 1) rfl
    refine ⟨_, rfl, t, _, _, _, rfl, rfl, SqT.of Tb.at_, i1 _ _, it, rfl, ⟨_, SqT.of hit⟩, fun D nD => lc_tup (K := K) (a := it) (xs := rs.map V.ref) (fun i H2 => Mk H H2 D (((is.take i).map fun x => (x.op : Int)).map V.int)) (.start nD) (fun i H2 _ p => p.same.tup (SqT.of hit)) ?_ ?_⟩
    · intro i x H2 hx mk
      obtain ⟨hi, r, rfl, hr2, _⟩ := rows_at Tb.rows hx
      refine ⟨rfl, _, rfl, r, _, _, _, rfl, rfl, SqT.of (mk.same _ _ hr2), atI_nat (j := 0) rfl, _, mk.at_, (by rw [List.length_map, List.length_map, List.length_take]; exact small1000 (by omega)), ?_⟩
      rw [take_more (List.getElem?_eq_getElem hi), List.map_append, List.map_append]
      exact mk.put (Same.refl _)
    intro H2 m2
    rw [List.length_map, rl, List.take_length] at m2
    have s2 := m2.same
    have B2 := B.same s2
    have T2 := Tb.same s2
    have hD2 := m2.at_
    have hDp : D ≠ p := fun z => B.ne (z ▸ nD)
    generalize hops : (is.map fun x => (x.op : Int)) = ops at hD2
    have ol : ops.length = is.length := by rw [← hops, List.length_map]
    have ob : ∀ b ∈ ops, 0 ≤ b ∧ b < (cnt : Int) := fun b hb => by
      rw [← hops] at hb
      obtain ⟨x, hx, rfl⟩ := List.mem_map.mp hb
      have := ok.ops x hx
      omega
    have ne : 0 < is.length := List.length_pos_iff.mpr ok.ne
    clear m2
    refine ⟨_, rfl, _, rfl, by omega, by omega, fun L nL => lc_range (lo := 0) (n := many) (fun i H3 => ∃ bs : List Int, bs.length = i ∧ (∀ b ∈ bs, 0 ≤ b ∧ b < (cnt : Int)) ∧ But p H2 H3 ∧ BoxAt H3 p (n + 2 * i) ∧ H3 L = some (.lst (bs.map V.int)))
      ⟨[], rfl, (fun _ h => nomatch h), But.of (same_upd nL), B2.same (same_upd nL), upd_same⟩ ?_ ?_⟩
    · rintro i H3 hi ⟨bs, bl, bb, b3, B3, hL⟩
      have hLp : L ≠ p := fun z => B2.ne (z ▸ nL)
      have hLD : L ≠ D := fun z => by rw [z, hD2] at nL; cases nL
      refine ⟨rfl, _, rfl, p, 4, n + 2 * i, rfl, B3, by omega, by decide, by decide, fun H4 e b4 B4 e0 e1 f4 => ⟨_, _, rfl, rfl, _, rfl, ?_⟩⟩
      have fin : ∀ (b : Int) (H5 : Hp), 0 ≤ b → b < (cnt : Int) → But p H4 H5 → BoxAt H5 p (n + 2 * i + 1 + 1) → ∃ acc, H5 L = some (.lst acc) ∧ acc.length < sizeLine ∧ ∃ bs : List Int, bs.length = i + 1 ∧ (∀ b ∈ bs, 0 ≤ b ∧ b < (cnt : Int)) ∧ But p H2 (upd H5 L (.lst (acc ++ [.int b]))) ∧ BoxAt (upd H5 L (.lst (acc ++ [.int b]))) p (n + 2 * (i + 1)) ∧ (upd H5 L (.lst (acc ++ [.int b]))) L = some (.lst (bs.map V.int)) := by
        intro b H5 h0 h1 b5 B5
        have h5L := b5 _ _ (b4 _ _ hL hLp) hLp
        refine ⟨_, h5L, by rw [List.length_map, bl, sizeLine_eq]; omega, bs ++ [b], by rw [List.length_append, bl]; rfl, fun x hx => ?_, fun c o ec nc => ?_, ?_, ?_⟩
        · rcases List.mem_append.mp hx with hx | hx
          · exact bb x hx
          · rw [List.mem_singleton.mp hx]; exact ⟨h0, h1⟩
        · rw [upd_ne (ne_of_none ec nL)]
          exact b5 _ _ (b4 _ _ (b3 _ _ ec nc) nc) nc
        · obtain ⟨z1, z2, z3, ez, r⟩ := B5
          exact ⟨z1, z2, z3, by rw [upd_ne (Ne.symm hLp)]; exact ez, by omega⟩
        · rw [upd_same, List.map_append]; rfl
      by_cases c : 0 < e
      · rw [decide_eq_true c]
        refine iteT ⟨_, rfl, _, rfl, p, D, n + 2 * i + 1, ops.map V.int, rfl, B4, by omega, b4 _ _ (b3 _ _ hD2 hDp) hDp, hDp, by rw [List.length_map]; omega, by rw [List.length_map]; omega, fun H5 v hv b5 B5 f5 => ?_⟩
        obtain ⟨b, hb, rfl⟩ := List.mem_map.mp hv
        exact fin b H5 (ob b hb).1 (ob b hb).2 b5 B5
      · rw [decide_eq_false c]
        have T4 := (T2.but b3 B2).but b4 B3
        refine iteF ⟨_, rfl, _, rfl, t, _, _, _, rfl, rfl, SqT.of T4.at_, i0 _ _, p, cnt, n + 2 * i + 1, rfl, B4, by omega, by omega, by omega, fun H5 b b5 B5 h0 h1 f5 => fin b H5 h0 h1 b5 B5⟩
    rintro H3 ⟨bs, bl, bb, b3, B3, hL⟩
    refine ⟨L, _, rfl, .inl ⟨SqL.of hL, fun c nc => ?_⟩⟩
    have s3 := same_upd (o := HO.tup (bs.map V.int)) nc
    have nc2 : H2 c = none := b3.free B2.ne nc B3.ne
    exact q _ c bs ((But.of s2).trans (b3.trans (But.of s3))) (B3.same s3) (s2.free nc2) upd_same bb bl
end
end Ov
namespace Ov
open PySem PySem.Spec PyProof.Rows L2
section
variable {P : Program} {w : World} {K : PySem.W.Frag} {mg : Str → Option Value} {base : Heap}
/-! ### _law_machine -/
def spMachine (C : Addr) : Sp := fun vs H Q _ => ∃ (t it : Addr) (cnt lg : Nat) (is : List I4) (rs : List Addr), vs = [.ref t] ∧ Tab H t cnt lg is it rs ∧ ∀ H' x, Same H H' → H x = none → SetAt C H' x cnt it is → Q (.ref x) H'
theorem scMachine : FnScope ["_law_table_here"] ["_law_table_here"] (defScope sMachine) := ⟨rfl, rfl, rfl, by decide +kernel, rfl, by decide +kernel, by decide +kernel⟩
theorem ok_machine {f fI C : Addr} {fd fdI : FuncData} {k : Nat} (F : Fun K "_law_machine" "_law_machine" sMachine f fd) (S : SetTxt K mg C)
    (M : L2.Mk K C fI) (bI : Binds K fdI ["self", "byte_count", "instructions"] []) (GI : FnOk P w K mg base CX0 k fI fdI ["self", "byte_count", "instructions"] (spInitI C)) :
    FnOk P w K mg base CX0 (k + 2) f fd ["_law_table_here"] (spMachine C) := by
  refine F.ok scMachine (fun vs H Q E h => ?_) (fun cdv A' outer s H vs Q E hr h => ?_)
  · obtain ⟨t, it, cnt, lg, is, rs, rfl, _⟩ := h
    rfl
  · obtain ⟨t, it, cnt, lg, is, rs, rfl, Tb, q⟩ := h
    refine ⟨_, pss_one (ps_ret (pe_make M GI hr (by rfl) S.mgC bI .nil pass0 (pa_cons (pe_ix ix_tup (pv 0) pe_int (fun _ _ => rfl)) (pa_cons (pe_ix ix_tup (pv 0) pe_int (fun _ _ => rfl)) pa_nil)))), ?_⟩
    have i0 : ∀ x y : V, atI [x, y] 0 = some x := fun x y => atI_nat (j := 0) rfl
    have i1 : ∀ x y : V, atI [x, y] 1 = some y := fun x y => atI_nat (j := 1) rfl
    refine ⟨_, rfl, t, _, _, _, rfl, rfl, SqT.of Tb.at_, i0 _ _, _, rfl, t, _, _, _, rfl, rfl, SqT.of Tb.at_, i1 _ _, fun x dx nx ndx hne => ?_⟩
    have s4x : Same H (upd (upd H dx (.own x)) x (.ins C dx [])) := fun b o e => by
      rw [upd_ne (ne_of_none e nx), upd_ne (ne_of_none e ndx)]
      exact e
    refine ⟨x, dx, cnt, lg, it, rs, is, rfl, upd_same, s4x _ _ Tb.its, Tb.rows.same s4x, Tb.ok, fun H5 SA kp => ⟨rfl, ?_⟩⟩
    exact q H5 x (fun b o e => kp b o (s4x b o e) (ne_of_none e nx)) nx SA
/-! ### _law_small -/
def spSmall : Sp := fun vs H Q _ => ∃ (p : Addr) (n : Nat), vs = [.ref p] ∧ BoxAt H p n ∧ n ≤ 2 ^ 38 ∧ ∀ H' t cnt lg is it rs, But p H H' → BoxAt H' p (n + 1002) → H t = none → Tab H' t cnt lg is it rs → Q (.ref t) H'
theorem scSmall : FnScope ["_law_box_here"] ["_law_box_here"] (defScope sSmall) := ⟨rfl, rfl, rfl, by decide +kernel, rfl, by decide +kernel, by decide +kernel⟩
theorem ok_small {f fO fT fTb : Addr} {fd fdO fdT fdTb : FuncData} {k : Nat} {lgn : Str} (F : Fun K "_law_small" "_law_small" sSmall f fd)
    (O : Def K mg "_law_of" sOf fO fdO ["_law_box_here", "_law_some"]) (GO : FnOk P w K mg base CX0 k fO fdO ["_law_box_here", "_law_some"] spOf)
    (Tk : Def K mg "_law_take" sTake fT fdT ["_law_box_here", "_law_many"]) (GT : FnOk P w K mg base CX0 k fT fdT ["_law_box_here", "_law_many"] spTake)
    (Tb : Def K mg "_law_table" sTable fTb fdTb ["_law_box_here", "_law_most_bytes", lgn]) (GTb : FnOk P w K mg base CX0 k fTb fdTb ["_law_box_here", "_law_most_bytes", lgn] spTable) :
    FnOk P w K mg base CX0 (k + 1) f fd ["_law_box_here"] spSmall := by
  refine F.ok scSmall (fun vs H Q E h => ?_) (fun cdv A' outer s H vs Q E hr h => ?_)
  · obtain ⟨p, n, rfl, _⟩ := h
    rfl
  · obtain ⟨p, n, rfl, B, hn, q⟩ := h
    refine ⟨_, pss_one (ps_ret (pe_call GTb hr (by rfl) Tb.gl Tb.fn.kp Tb.bi .nil pass0 (pa_cons (pv 0) (pa_cons (pe_op op_add pe_int (pe_call GT hr (by rfl) Tk.gl Tk.fn.kp Tk.bi .nil pass0 (pa_cons (pv 0) (pa_cons pe_int pa_nil))))
      (pa_cons (pe_call GO hr (by rfl) O.gl O.fn.kp O.bi .nil pass0 (pa_cons (pv 0) (pa_cons (pe_lst (pa_cons pe_int (pa_cons pe_int (pa_cons pe_int (pa_cons pe_int (pa_cons pe_int pa_nil)))))) pa_nil))) pa_nil))))), ?_⟩
    refine ⟨_, rfl, _, rfl, p, 11, n, rfl, B, by omega, by decide, by decide, fun H1 d b1 B1 d0 d1 f1 => ⟨_, _, rfl, rfl, ?_⟩⟩
    refine ⟨_, rfl, by show 5 ≤ sizeLine; decide, fun l nl => ?_⟩
    have s2 := same_upd (o := HO.lst [V.int 2, V.int 3, V.int 3, V.int 4, V.int 12]) nl
    have hl := @upd_same H1 l (HO.lst [V.int 2, V.int 3, V.int 3, V.int 4, V.int 12])
    have hlp : l ≠ p := fun z => B1.ne (z ▸ nl)
    have B2 := B1.same s2
    generalize upd H1 l (HO.lst [V.int 2, V.int 3, V.int 3, V.int 4, V.int 12]) = H2 at *
    refine ⟨p, l, n + 1, _, rfl, B2, by omega, hl, hlp, by decide, by decide, fun H3 v hv b3 B3 f3 => ?_⟩
    have b03 : But p H H3 := (b1.trans (But.of s2)).trans b3
    obtain ⟨mb, hmb⟩ : ∃ mb : Nat, 2 + d = (mb : Int) := ⟨(2 + d).toNat, by omega⟩
    obtain ⟨lg, rfl, l1, l2⟩ : ∃ lg : Nat, v = .int (lg : Int) ∧ 1 ≤ lg ∧ lg ≤ 12 := by
      simp only [List.mem_cons, List.not_mem_nil, or_false] at hv
      rcases hv with rfl | rfl | rfl | rfl | rfl
      · exact ⟨2, rfl, by decide, by decide⟩
      · exact ⟨3, rfl, by decide, by decide⟩
      · exact ⟨3, rfl, by decide, by decide⟩
      · exact ⟨4, rfl, by decide, by decide⟩
      · exact ⟨12, rfl, by decide, by decide⟩
    refine ⟨p, n + 2, mb, lg, by show [V.ref p, V.int (2 + d), V.int (lg : Int)] = _; rw [hmb], B3, by omega, by omega, by omega, l1, l2, fun H4 t cnt is it rs b4 B4 nt T4 _ => ?_⟩
    exact q H4 t cnt lg is it rs (b03.trans b4) (B4.mono (by omega)) (b03.free B.ne nt B3.ne) T4
end
end Ov
namespace Ov
open PySem PySem.Spec PyProof.Rows L2
theorem cut_mid {a b : Nat} {xs : List V} (h1 : a ≤ b) (h2 : b ≤ xs.length) : cutV xs (some (a : Int)) (some (b : Int)) = (xs.take b).drop a := by
  unfold cutV
  rw [show HT.sIx xs.length 0 (some (a : Int)) = min a xs.length from HT.sIx_nat xs.length 0 a, show HT.sIx xs.length xs.length (some (b : Int)) = min b xs.length from HT.sIx_nat xs.length xs.length b, Nat.min_eq_left (show a ≤ xs.length by omega), Nat.min_eq_left h2, List.drop_take]
end Ov
namespace Ov
open PySem PySem.Spec PyProof.Rows L2
/-! ### edits -/
inductive Wd where
  | ins | del | rep | rpt
def Wd.s : Wd → Str
  | .ins => "insert"
  | .del => "delete"
  | .rep => "replace"
  | .rpt => "repeat"
def aft : Wd → List Int → Nat → Nat → List Int → Nat → List Int
  | .ins, bs, st, _, fs, _ => bs.take st ++ fs ++ bs.drop st
  | .del, bs, st, sp, _, _ => bs.take st ++ bs.drop sp
  | .rep, bs, st, sp, fs, _ => bs.take st ++ fs ++ bs.drop sp
  | .rpt, bs, st, sp, _, n => bs.take st ++ (List.replicate n ((bs.take sp).drop st)).flatten ++ bs.drop sp
def oldOf : Wd → Nat → Nat → Nat
  | .ins, _, _ => 0
  | _, st, sp => sp - st
def newOf : Wd → Nat → Nat → List Int → Nat → Nat
  | .ins, _, _, fs, _ => fs.length
  | .del, _, _, _, _ => 0
  | .rep, _, _, fs, _ => fs.length
  | .rpt, st, sp, _, n => n * (sp - st)
def edOf (w : Wd) (t : Spn) (st sp : Nat) (fs : List Int) (n : Nat) : Edit := (t, st, oldOf w st sp, newOf w st sp fs n)
theorem aft_len {w : Wd} {bs fs : List Int} {st sp n : Nat} (h1 : st ≤ sp) (h2 : sp ≤ bs.length) : (aft w bs st sp fs n).length + oldOf w st sp = bs.length + newOf w st sp fs n := by
  cases w <;> simp only [aft, oldOf, newOf, List.length_append, List.length_take, List.length_drop, flat_len]
  · omega
  · omega
  · omega
  · rw [Nat.min_eq_left h2]; omega
theorem aft_mem {w : Wd} {bs fs : List Int} {st sp n : Nat} {P : Int → Prop} (hb : ∀ b ∈ bs, P b) (hf : ∀ b ∈ fs, P b) : ∀ b ∈ aft w bs st sp fs n, P b := by
  intro b h
  cases w
  · rcases List.mem_append.mp h with h | h
    · rcases List.mem_append.mp h with h | h
      · exact hb b (List.mem_of_mem_take h)
      · exact hf b h
    · exact hb b (List.mem_of_mem_drop h)
  · rcases List.mem_append.mp h with h | h
    · exact hb b (List.mem_of_mem_take h)
    · exact hb b (List.mem_of_mem_drop h)
  · rcases List.mem_append.mp h with h | h
    · rcases List.mem_append.mp h with h | h
      · exact hb b (List.mem_of_mem_take h)
      · exact hf b h
    · exact hb b (List.mem_of_mem_drop h)
  · rcases List.mem_append.mp h with h | h
    · rcases List.mem_append.mp h with h | h
      · exact hb b (List.mem_of_mem_take h)
      · obtain ⟨l, hl, hbl⟩ := List.mem_flatten.mp h
        rw [List.eq_of_mem_replicate hl] at hbl
        exact hb b (List.mem_of_mem_take (List.mem_of_mem_drop hbl))
    · exact hb b (List.mem_of_mem_drop h)
def Wd.isIns : Wd → Bool
  | .ins => true
  | _ => false
def Wd.isDel : Wd → Bool
  | .del => true
  | _ => false
def Wd.isRep : Wd → Bool
  | .rep => true
  | _ => false
theorem wd_ins (w : Wd) : decide (V.str w.s = V.str "insert") = w.isIns := by
  cases w
  · exact decide_eq_true rfl
  all_goals exact decide_eq_false fun z => by have := V.str.inj z; revert this; decide +kernel
theorem wd_del (w : Wd) : decide (V.str w.s = V.str "delete") = w.isDel := by
  cases w
  · exact decide_eq_false fun z => by have := V.str.inj z; revert this; decide +kernel
  · exact decide_eq_true rfl
  all_goals exact decide_eq_false fun z => by have := V.str.inj z; revert this; decide +kernel
theorem wd_rep (w : Wd) : decide (V.str w.s = V.str "replace") = w.isRep := by
  cases w
  · exact decide_eq_false fun z => by have := V.str.inj z; revert this; decide +kernel
  · exact decide_eq_false fun z => by have := V.str.inj z; revert this; decide +kernel
  · exact decide_eq_true rfl
  · exact decide_eq_false fun z => by have := V.str.inj z; revert this; decide +kernel
section
variable {P : Program} {w : World} {K : PySem.W.Frag} {mg : Str → Option Value} {base : Heap}
/-! ### _law_edit -/
def spLEdit : Sp := fun vs H Q _ => ∃ (b : Addr) (n size : Nat), vs = [.ref b, .int (size : Int)] ∧ BoxAt H b n ∧ n ≤ 2 ^ 39 ∧ size ≤ 2 ^ 60 ∧
  ∀ H' r (w : Wd) (st sp : Nat), But b H H' → BoxAt H' b (n + 3) → H' r = some (.tup [.str w.s, .int (st : Int), .int (sp : Int)]) → st ≤ sp → sp ≤ size → Q (.ref r) H'
theorem scLEdit : FnScope ["_law_box_here", "_law_size", "_law_one", "_law_other", "_law_start", "_law_stop"] ["_law_box_here", "_law_size"] (defScope s_law_edit) := ⟨rfl, rfl, rfl, by decide +kernel, rfl, by decide +kernel, by decide +kernel⟩
theorem ok_lEdit {f fO fT : Addr} {fd fdO fdT : FuncData} {k : Nat} (F : Fun K "_law_edit" "_law_edit" s_law_edit f fd) (T : Bi mg)
    (O : Def K mg "_law_of" sOf fO fdO ["_law_box_here", "_law_some"]) (GO : FnOk P w K mg base CX0 k fO fdO ["_law_box_here", "_law_some"] spOf)
    (Tk : Def K mg "_law_take" sTake fT fdT ["_law_box_here", "_law_many"]) (GT : FnOk P w K mg base CX0 k fT fdT ["_law_box_here", "_law_many"] spTake) :
    FnOk P w K mg base CX0 (k + 1) f fd ["_law_box_here", "_law_size"] spLEdit := by
  refine F.ok scLEdit (fun vs H Q E h => ?_) (fun cdv A' outer s H vs Q E hr h => ?_)
  · obtain ⟨b, n, size, rfl, _⟩ := h
    rfl
  · obtain ⟨b, n, size, rfl, B, hn, hs, q⟩ := h
    refine ⟨_, pss_cons (ps_par (i := 2) (j := 3) (by rfl) scLEdit.nd rfl rfl (by decide) rfl rfl (pa_cons (pe_call GT hr (by rfl) Tk.gl Tk.fn.kp Tk.bi .nil pass0 (pa_cons (pv 0) (pa_cons (pe_op op_add (pv 1) pe_int) pa_nil))) (pa_cons (pe_call GT hr (by rfl) Tk.gl Tk.fn.kp Tk.bi .nil pass0 (pa_cons (pv 0) (pa_cons (pe_op op_add (pv 1) pe_int) pa_nil))) pa_nil)) (by rfl))
      (pss_cons (ps_par (i := 4) (j := 5) (by rfl) scLEdit.nd rfl rfl (by decide) rfl rfl (pa_cons (pe_callB (call_min2 rfl) (by rfl) T.min (by decide +kernel) (pa_cons (pv 2) (pa_cons (pv 3) pa_nil))) (pa_cons (pe_callB (call_max2 rfl) (by rfl) T.max (by decide +kernel) (pa_cons (pv 2) (pa_cons (pv 3) pa_nil))) pa_nil)) (by rfl))
      (pss_one (ps_ret (pe_tup (pa_cons (pe_call GO hr (by rfl) O.gl O.fn.kp O.bi .nil pass0 (pa_cons (pv 0) (pa_cons (pe_lst (pa_cons pe_str (pa_cons pe_str (pa_cons pe_str (pa_cons pe_str (pa_cons pe_str pa_nil)))))) pa_nil))) (pa_cons (pv 4) (pa_cons (pv 5) pa_nil))))))), ?_⟩
    refine ⟨_, rfl, _, rfl, _, _, rfl, rfl, b, _, n, rfl, B, by omega, by omega, by omega, fun H1 d1 b1 B1 l1 g1 f1 => ?_⟩
    refine ⟨_, rfl, _, rfl, _, _, rfl, rfl, b, _, n + 1, rfl, B1, by omega, by omega, by omega, fun H2 d2 b2 B2 l2 g2 f2 => ?_⟩
    obtain ⟨x1, rfl⟩ : ∃ x1 : Nat, d1 = (x1 : Int) := ⟨d1.toNat, by omega⟩
    obtain ⟨x2, rfl⟩ : ∃ x2 : Nat, d2 = (x2 : Int) := ⟨d2.toNat, by omega⟩
    refine ⟨_, _, rfl, _, rfl, _, rfl, _, _, rfl, _, rfl, _, rfl, _, _, rfl, _, _, rfl, ?_⟩
    have emin : (if (x2 : Int) < (x1 : Int) then (x2 : Int) else (x1 : Int)) = ((min x1 x2 : Nat) : Int) := by
      split <;> omega
    have emax : (if (x2 : Int) > (x1 : Int) then (x2 : Int) else (x1 : Int)) = ((max x1 x2 : Nat) : Int) := by
      split <;> omega
    rw [emin, emax]
    refine ⟨_, rfl, by show 5 ≤ sizeLine; decide, fun l nl => ?_⟩
    have s2 := same_upd (o := HO.lst [V.str "insert", V.str "delete", V.str "replace", V.str "repeat", V.str "repeat"]) nl
    have hl := @upd_same H2 l (HO.lst [V.str "insert", V.str "delete", V.str "replace", V.str "repeat", V.str "repeat"])
    have hlb : l ≠ b := fun z => B2.ne (z ▸ nl)
    have B3 := B2.same s2
    generalize upd H2 l (HO.lst [V.str "insert", V.str "delete", V.str "replace", V.str "repeat", V.str "repeat"]) = H3 at *
    refine ⟨b, l, n + 2, _, rfl, B3, by omega, hl, hlb, by show 0 < 5; decide, by show 5 ≤ 1000; decide, fun H4 v hv b4 B4 f4 => ?_⟩
    obtain ⟨w, rfl⟩ : ∃ w : Wd, v = .str w.s := by
      simp only [List.mem_cons, List.not_mem_nil, or_false] at hv
      rcases hv with rfl | rfl | rfl | rfl | rfl
      · exact ⟨.ins, rfl⟩
      · exact ⟨.del, rfl⟩
      · exact ⟨.rep, rfl⟩
      · exact ⟨.rpt, rfl⟩
      · exact ⟨.rpt, rfl⟩
    refine ⟨_, rfl, _, rfl, by show 3 ≤ sizeLine; decide, fun r nr => ?_⟩
    have s5 := same_upd (o := HO.tup [V.str w.s, V.int ((min x1 x2 : Nat) : Int), V.int ((max x1 x2 : Nat) : Int)]) nr
    exact q _ r w (min x1 x2) (max x1 x2) (b1.trans (b2.trans ((But.of s2).trans (b4.trans (But.of s5))))) (B4.same s5) upd_same (by omega) (by omega)
/-! ### _law_after -/
def spLAfter (K : PySem.W.Frag) : Sp := fun vs H Q _ => ∃ (c fr : Addr) (w : Wd) (bs fs : List Int) (st sp n : Nat), vs = [.ref c, .str w.s, .int (st : Int), .int (sp : Int), .ref fr, .int (n : Int)] ∧ SqT K H c (bs.map V.int) ∧ SqT K H fr (fs.map V.int) ∧ st ≤ sp ∧ sp ≤ bs.length ∧ bs.length ≤ 1000 ∧ fs.length ≤ 1000 ∧ n ≤ 100 ∧
  ∀ H' l, Same H H' → SqT K H' l ((aft w bs st sp fs n).map V.int) → Q (.ref l) H'
theorem scLAfter : FnScope ["_law_code", "_law_word", "_law_start", "_law_stop", "_law_fresh", "_law_times"] ["_law_code", "_law_word", "_law_start", "_law_stop", "_law_fresh", "_law_times"] (defScope s_law_after) := ⟨rfl, rfl, rfl, by decide +kernel, rfl, by decide +kernel, by decide +kernel⟩
theorem ok_lAfter {f : Addr} {fd : FuncData} {k : Nat} (F : Fun K "_law_after" "_law_after" s_law_after f fd) :
    FnOk P w K mg base CX0 (k + 1) f fd ["_law_code", "_law_word", "_law_start", "_law_stop", "_law_fresh", "_law_times"] (spLAfter K) := by
  refine F.ok scLAfter (fun vs H Q E h => ?_) (fun cdv A' outer s H vs Q E hr h => ?_)
  · obtain ⟨c, fr, w, bs, fs, st, sp, n, rfl, _⟩ := h
    rfl
  · obtain ⟨c, fr, w, bs, fs, st, sp, n, rfl, hc, hf, h1, h2, hb, hl, hn, q⟩ := h
    refine ⟨_, pss_cons (ps_if (pt_cmpR op_eq (pv 1) pe_str (nomark _)) (pss_one (ps_ret (pe_op op_catA (pe_op op_catA (pe_slice sl_tupA (pv 0) po_none (po_some (pv 2))) (pv 4)) (pe_slice sl_tupA (pv 0) (po_some (pv 2)) po_none)))) pss_nil)
      (pss_cons (ps_if (pt_cmpR op_eq (pv 1) pe_str (nomark _)) (pss_one (ps_ret (pe_op op_catA (pe_slice sl_tupA (pv 0) po_none (po_some (pv 2))) (pe_slice sl_tupA (pv 0) (po_some (pv 3)) po_none)))) pss_nil)
      (pss_cons (ps_if (pt_cmpR op_eq (pv 1) pe_str (nomark _)) (pss_one (ps_ret (pe_op op_catA (pe_op op_catA (pe_slice sl_tupA (pv 0) po_none (po_some (pv 2))) (pv 4)) (pe_slice sl_tupA (pv 0) (po_some (pv 3)) po_none)))) pss_nil)
      (pss_one (ps_ret (pe_op op_catA (pe_op op_catA (pe_slice sl_tupA (pv 0) po_none (po_some (pv 2))) (pe_op op_repA (pe_slice sl_tupA (pv 0) (po_some (pv 2)) (po_some (pv 3))) (pv 5))) (pe_slice sl_tupA (pv 0) (po_some (pv 3)) po_none)))))), ?_⟩
    have lb : (bs.map V.int).length = bs.length := List.length_map ..
    refine ⟨_, rfl, rfl, _, rfl, ?_⟩
    rw [wd_ins]
    cases w with
    | ins =>
      refine iteT ⟨_, rfl, _, rfl, _, rfl, cut_x (Same.refl H) hc fun c1 H1 T1 g1 S1 => ⟨_, rfl, ?_⟩⟩
      rw [cut_to, ← List.map_take] at S1
      refine cat_x (Same.refl H1) (g1.th.tup S1) (g1.hh.tup hf) (by rw [List.length_map, List.length_map, List.length_take, sizeLine_eq]; omega) fun c2 H2 T2 g2 S2 => ⟨_, rfl, _, rfl, _, rfl, ?_⟩
      delta tNoPart
      have s2 := g1.hh.trans g2.hh
      refine cut_x (Same.refl H2) (s2.tup hc) fun c3 H3 T3 g3 S3 => ?_
      rw [cut_from, ← List.map_drop] at S3
      rw [← List.map_append] at S2
      refine cat_x (Same.refl H3) (g3.hh.tup (g2.th.tup S2)) (g3.th.tup S3) (by simp only [List.length_map, List.length_append, List.length_take, List.length_drop]; rw [sizeLine_eq]; omega) fun c4 H4 T4 g4 S4 => ?_
      rw [← List.map_append] at S4
      exact q H4 c4 (s2.trans (g3.hh.trans g4.hh)) (g4.th.tup S4)
    | del =>
      refine iteF ⟨_, rfl, rfl, _, rfl, ?_⟩
      rw [wd_del]
      refine iteT ⟨_, rfl, _, rfl, _, rfl, cut_x (Same.refl H) hc fun c1 H1 T1 g1 S1 => ⟨_, rfl, _, rfl, _, rfl, ?_⟩⟩
      delta tNoPart
      rw [cut_to, ← List.map_take] at S1
      refine cut_x (Same.refl H1) (g1.hh.tup hc) fun c3 H3 T3 g3 S3 => ?_
      rw [cut_from, ← List.map_drop] at S3
      refine cat_x (Same.refl H3) (g3.hh.tup (g1.th.tup S1)) (g3.th.tup S3) (by simp only [List.length_map, List.length_take, List.length_drop]; rw [sizeLine_eq]; omega) fun c4 H4 T4 g4 S4 => ?_
      rw [← List.map_append] at S4
      exact q H4 c4 (g1.hh.trans (g3.hh.trans g4.hh)) (g4.th.tup S4)
    | rep =>
      refine iteF ⟨_, rfl, rfl, _, rfl, ?_⟩
      rw [wd_del]
      refine iteF ⟨_, rfl, rfl, _, rfl, ?_⟩
      rw [wd_rep]
      refine iteT ⟨_, rfl, _, rfl, _, rfl, cut_x (Same.refl H) hc fun c1 H1 T1 g1 S1 => ⟨_, rfl, ?_⟩⟩
      rw [cut_to, ← List.map_take] at S1
      refine cat_x (Same.refl H1) (g1.th.tup S1) (g1.hh.tup hf) (by rw [List.length_map, List.length_map, List.length_take, sizeLine_eq]; omega) fun c2 H2 T2 g2 S2 => ⟨_, rfl, _, rfl, _, rfl, ?_⟩
      delta tNoPart
      have s2 := g1.hh.trans g2.hh
      refine cut_x (Same.refl H2) (s2.tup hc) fun c3 H3 T3 g3 S3 => ?_
      rw [cut_from, ← List.map_drop] at S3
      rw [← List.map_append] at S2
      refine cat_x (Same.refl H3) (g3.hh.tup (g2.th.tup S2)) (g3.th.tup S3) (by simp only [List.length_map, List.length_append, List.length_take, List.length_drop]; rw [sizeLine_eq]; omega) fun c4 H4 T4 g4 S4 => ?_
      rw [← List.map_append] at S4
      exact q H4 c4 (s2.trans (g3.hh.trans g4.hh)) (g4.th.tup S4)
    | rpt =>
      refine iteF ⟨_, rfl, rfl, _, rfl, ?_⟩
      rw [wd_del]
      refine iteF ⟨_, rfl, rfl, _, rfl, ?_⟩
      rw [wd_rep]
      refine iteF ⟨_, rfl, _, rfl, _, rfl, cut_x (Same.refl H) hc fun c1 H1 T1 g1 S1 => ⟨_, rfl, _, rfl, _, rfl, _, rfl, _, rfl, cut_x (Same.refl H1) (g1.hh.tup hc) fun c2 H2 T2 g2 S2 => ⟨_, rfl, ?_⟩⟩⟩
      rw [cut_to, ← List.map_take] at S1
      rw [cut_mid h1 (by rw [lb]; exact h2), ← List.map_take, ← List.map_drop] at S2
      have s2 := g1.hh.trans g2.hh
      have lm : ((bs.take sp).drop st).length = sp - st := by rw [List.length_drop, List.length_take]; omega
      have fin : ∀ (H3 : Hp) (m : Addr), Same H2 H3 → SqT K H3 m ((List.replicate n ((bs.take sp).drop st)).flatten.map V.int) → rCatA K (.ref c1) (.ref m) H3 (fun x H4 => tSl (rSlA K) (tVar 0) (tPart (tVar 3)) tNoPart (L2.start ["_law_code", "_law_word", "_law_start", "_law_stop", "_law_fresh", "_law_times"] [.ref c, .str Wd.rpt.s, .int (st : Int), .int (sp : Int), .ref fr, .int (n : Int)]) H4 fun y H5 => rCatA K x y H5 Q) := by
        intro H3 m s3 S3
        have S1' := s3.tup (g2.hh.tup (g1.th.tup S1))
        have lf : (List.replicate n ((bs.take sp).drop st)).flatten.length ≤ 100000 := by
          rw [flat_len, lm]
          have : n * (sp - st) ≤ 100 * 1000 := Nat.mul_le_mul hn (by omega)
          omega
        refine cat_x (Same.refl H3) S1' S3 (by rw [List.length_map, List.length_map, List.length_take, sizeLine_eq]; omega) fun c4 H4 T4 g4 S4 => ⟨_, rfl, _, rfl, _, rfl, ?_⟩
        delta tNoPart
        have s4 := s2.trans (s3.trans g4.hh)
        rw [← List.map_append] at S4
        refine cut_x (Same.refl H4) (s4.tup hc) fun c5 H5 T5 g5 S5 => ?_
        rw [cut_from, ← List.map_drop] at S5
        refine cat_x (Same.refl H5) (g5.hh.tup (g4.th.tup S4)) (g5.th.tup S5) (by simp only [List.length_map, List.length_append, List.length_take, List.length_drop]; rw [sizeLine_eq]; omega) fun c6 H6 T6 g6 S6 => ?_
        rw [← List.map_append] at S6
        exact q H6 c6 (s4.trans (g5.hh.trans g6.hh)) (g6.th.tup S6)
      have S2' := g2.th.tup S2
      refine ⟨c2, n, _, rfl, rfl, S2', by omega, by rw [List.length_map, lm]; omega, fun e => ?_, fun ne n1 m nm => ?_⟩
      · refine fin H2 c2 (Same.refl _) ?_
        rcases e with e | e
        · have e' : (bs.take sp).drop st = [] := List.map_eq_nil_iff.mp e
          rw [e'] at S2' ⊢
          have z : (List.replicate n ([] : List Int)).flatten = [] := by simp
          rw [z]
          exact S2'
        · subst e
          have z : (List.replicate 1 ((bs.take sp).drop st)).flatten = (bs.take sp).drop st := by simp
          rw [z]
          exact S2'
      · refine fin _ m (same_upd nm) (SqT.of ?_)
        rw [upd_same, List.map_flatten, List.map_replicate]
end
end Ov
namespace Ov
open PySem PySem.Spec PyProof.Rows L2
section
variable {P : Program} {w : World} {K : PySem.W.Frag} {mg : Str → Option Value} {base : Heap}
/-! ### _law_done -/
def spLDone (K : PySem.W.Frag) (C0 C CB : Addr) (m : Nat) : Sp := fun vs H Q _ => ∃ (p x ed it fr : Addr) (cnt lg : Nat) (is : List I4) (rs : List Addr) (t : Spn) (es : List Edit) (w : Wd) (st sp n : Nat) (fs : List Int), vs = [.ref p, .str w.s, .int (st : Int), .int (sp : Int), .ref fr, .int (n : Int)] ∧ BufAt K C CB (mpOf is) H p x ed t es ∧ Mach C0 H x cnt lg it is rs ∧ SqT K H fr (fs.map V.int) ∧ (∀ b ∈ fs, 0 ≤ b ∧ b < (cnt : Int)) ∧
  fs.length ≤ 32 * 2 ^ m ∧ fs.length ≤ 100000 ∧ st ≤ sp ∧ sp ≤ t.size ∧ (aft w t.bytes st sp fs n).length ≤ 10 ^ 15 ∧ es.length ≤ 100000 ∧ ∀ H' t', But2 p ed H H' → BufAt K C CB (mpOf is) H' p x ed t' (es ++ [edOf w t st sp fs n]) → t'.bytes = aft w t.bytes st sp fs n → Q .non H'
theorem scLDone : FnScope ["_law_buffer", "_law_word", "_law_start", "_law_stop", "_law_fresh", "_law_times"] ["_law_buffer", "_law_word", "_law_start", "_law_stop", "_law_fresh", "_law_times"] (defScope s_law_done) := ⟨rfl, rfl, rfl, by decide +kernel, rfl, by decide +kernel, by decide +kernel⟩
theorem ok_lDone {f fI fD fR fT C0 C CB : Addr} {fd fdI fdD fdR fdT : FuncData} {k m : Nat} (F : Fun K "_law_done" "_law_done" s_law_done f fd) (B : BufTxt K mg CB)
    (MI : Meth K CB "insert" fI) (bI : Binds K fdI ["self", "offset", "code"] []) (GI : FnOk P w K mg base CX0 k fI fdI ["self", "offset", "code"] (spBIns K C0 C CB m))
    (MD : Meth K CB "delete" fD) (bD : Binds K fdD ["self", "start", "stop"] []) (GD : FnOk P w K mg base CX0 k fD fdD ["self", "start", "stop"] (spBDel K C0 C CB))
    (MR : Meth K CB "replace" fR) (bR : Binds K fdR ["self", "start", "stop", "code"] []) (GR : FnOk P w K mg base CX0 k fR fdR ["self", "start", "stop", "code"] (spBRep K C0 C CB m))
    (MT : Meth K CB "repeat" fT) (bT : Binds K fdT ["self", "start", "stop", "times"] []) (GT : FnOk P w K mg base CX0 k fT fdT ["self", "start", "stop", "times"] (spBRpt K C0 C CB)) :
    FnOk P w K mg base CX0 (k + 1) f fd ["_law_buffer", "_law_word", "_law_start", "_law_stop", "_law_fresh", "_law_times"] (spLDone K C0 C CB m) := by
  refine F.ok scLDone (fun vs H Q E h => ?_) (fun cdv A' outer s H vs Q E hr h => ?_)
  · obtain ⟨p, x, ed, it, fr, cnt, lg, is, rs, t, es, w, st, sp, n, fs, rfl, _⟩ := h
    rfl
  · obtain ⟨p, x, ed, it, fr, cnt, lg, is, rs, t, es, w, st, sp, n, fs, rfl, hB, MA, hf, low, l1, l2, h12, h2t, tot, few, q⟩ := h
    refine ⟨_, pss_cons (ps_if (pt_cmpR op_eq (pv 1) pe_str (nomark _)) (pss_one (ps_ret (pe_meth (pv 0) B.cl MI GI hr bI .nil pass0 (pa_cons (pv 2) (pa_cons (pv 4) pa_nil))))) pss_nil)
      (pss_cons (ps_if (pt_cmpR op_eq (pv 1) pe_str (nomark _)) (pss_one (ps_ret (pe_meth (pv 0) B.cl MD GD hr bD .nil pass0 (pa_cons (pv 2) (pa_cons (pv 3) pa_nil))))) pss_nil)
      (pss_cons (ps_if (pt_cmpR op_eq (pv 1) pe_str (nomark _)) (pss_one (ps_ret (pe_meth (pv 0) B.cl MR GR hr bR .nil pass0 (pa_cons (pv 2) (pa_cons (pv 3) (pa_cons (pv 4) pa_nil)))))) pss_nil)
      (pss_one (ps_ret (pe_meth (pv 0) B.cl MT GT hr bT .nil pass0 (pa_cons (pv 2) (pa_cons (pv 3) (pa_cons (pv 5) pa_nil)))))))), ?_⟩
    obtain ⟨dx, sn, vs, hp, _⟩ := hB.ob
    have n1 := b_no x sn ed (m := "insert") (by decide +kernel) (by decide +kernel) (by decide +kernel)
    have n2 := b_no x sn ed (m := "delete") (by decide +kernel) (by decide +kernel) (by decide +kernel)
    have n3 := b_no x sn ed (m := "replace") (by decide +kernel) (by decide +kernel) (by decide +kernel)
    have n4 := b_no x sn ed (m := "repeat") (by decide +kernel) (by decide +kernel) (by decide +kernel)
    have al := aft_len (w := w) (bs := t.bytes) (fs := fs) (n := n) h12 (by rw [← Spn.size_eq]; exact h2t)
    rw [← Spn.size_eq] at al
    refine ⟨_, rfl, rfl, _, rfl, ?_⟩
    rw [wd_ins]
    cases w with
    | ins =>
      simp only [oldOf, newOf] at al
      exact iteT ⟨_, rfl, p, dx, _, rfl, hp, n1, _, rfl, _, rfl, p, x, ed, it, fr, cnt, lg, is, rs, t, es, st, fs, rfl, hB, MA, hf, low, l1, l2, by omega, by omega, few, q⟩
    | del =>
      refine iteF ⟨_, rfl, rfl, _, rfl, ?_⟩
      rw [wd_del]
      exact iteT ⟨_, rfl, p, dx, _, rfl, hp, n2, _, rfl, _, rfl, p, x, ed, it, cnt, lg, is, rs, t, es, st, sp, rfl, hB, MA, h12, h2t, few, q⟩
    | rep =>
      simp only [oldOf, newOf] at al
      refine iteF ⟨_, rfl, rfl, _, rfl, ?_⟩
      rw [wd_del]
      refine iteF ⟨_, rfl, rfl, _, rfl, ?_⟩
      rw [wd_rep]
      exact iteT ⟨_, rfl, p, dx, _, rfl, hp, n3, _, rfl, _, rfl, _, rfl, p, x, ed, it, fr, cnt, lg, is, rs, t, es, st, sp, fs, rfl, hB, MA, hf, low, l1, l2, h12, h2t, by omega, few, q⟩
    | rpt =>
      simp only [oldOf, newOf] at al
      refine iteF ⟨_, rfl, rfl, _, rfl, ?_⟩
      rw [wd_del]
      refine iteF ⟨_, rfl, rfl, _, rfl, ?_⟩
      rw [wd_rep]
      exact iteF ⟨_, rfl, p, dx, _, rfl, hp, n4, _, rfl, _, rfl, _, rfl, p, x, ed, it, cnt, lg, is, rs, t, es, st, sp, n, rfl, hB, MA, h12, h2t, by omega, few, q⟩
end
end Ov
namespace Ov
open PySem PySem.Spec PyProof.Rows L2
/-! ### the box, the buffer and its edits change -/
def But3 (b p ed : Addr) (H H' : Hp) : Prop := ∀ a o, H a = some o → a ≠ b → a ≠ p → a ≠ ed → H' a = some o
theorem But3.of {b p ed : Addr} {H H' : Hp} (s : Same H H') : But3 b p ed H H' := fun a o e _ _ _ => s a o e
theorem But3.of1 {b p ed : Addr} {H H' : Hp} (s : But b H H') : But3 b p ed H H' := fun a o e n _ _ => s a o e n
theorem But3.of2 {b p ed : Addr} {H H' : Hp} (s : But2 p ed H H') : But3 b p ed H H' := fun a o e _ n m => s a o e n m
theorem But3.trans {b p ed : Addr} {H H1 H2 : Hp} (a : But3 b p ed H H1) (c : But3 b p ed H1 H2) : But3 b p ed H H2 := fun x o e n m l => c x o (a x o e n m l) n m l
/-- the box, the buffer and its list are three things -/
structure Apart (CB : Addr) (H : Hp) (b p ed : Addr) : Prop where
  bx : ∃ n, BoxAt H b n
  bp : ∃ dx x sn, H p = some (.ins CB dx (bfld x sn ed))
  be : ∃ vs, H ed = some (.lst vs)
  ne : b ≠ ed
theorem BufAt.apart {K : PySem.W.Frag} {C CB p x ed b : Addr} {mp : List Int → List PM} {H : Hp} {t : Spn} {es : List Edit} {n : Nat} (h : BufAt K C CB mp H p x ed t es) (B : BoxAt H b n) (ne : b ≠ ed) : Apart CB H b p ed := by
  obtain ⟨⟨dx, sn, vs, h1, h2, h3, h4⟩, ok, few⟩ := h
  exact ⟨⟨n, B⟩, ⟨dx, x, sn, h1⟩, ⟨vs, h3⟩, ne⟩
section
variable {CB b p ed : Addr} {H H' : Hp}
/-- what is no list and no buffer stays -/
theorem But3.keep (s : But3 b p ed H H') (A : Apart CB H b p ed) {a : Addr} {o : HO} (e : H a = some o) (n1 : ∀ vs, o ≠ .lst vs) (n2 : ∀ dx x sn, o ≠ .ins CB dx (bfld x sn ed)) : H' a = some o := by
  obtain ⟨⟨n, z1, z2, z3, B, _⟩, ⟨dx, x, sn, h1⟩, ⟨vs, h2⟩, _⟩ := A
  refine s a o e (fun z => ?_) (fun z => ?_) (fun z => ?_)
  · rw [z, B] at e; exact n1 _ (Option.some.inj e).symm
  · rw [z, h1] at e; exact n2 _ _ _ (Option.some.inj e).symm
  · rw [z, h2] at e; exact n1 _ (Option.some.inj e).symm
theorem But3.tup (s : But3 b p ed H H') (A : Apart CB H b p ed) {a : Addr} {us : List V} (e : H a = some (.tup us)) : H' a = some (.tup us) := s.keep A e (fun _ z => nomatch z) (fun _ _ _ z => nomatch z)
theorem SqT.but3 {K : PySem.W.Frag} (s : But3 b p ed H H') (A : Apart CB H b p ed) {a : Addr} {us : List V} (h : SqT K H a us) : SqT K H' a us := by
  rcases h with (h | ⟨o, h⟩) | h
  · exact .inl (.inl (s.tup A h))
  · exact .inl (.inr ⟨o, s.keep A h (fun _ z => nomatch z) (fun _ _ _ z => nomatch z)⟩)
  · exact .inr h
theorem Tab.but3 (s : But3 b p ed H H') (A : Apart CB H b p ed) {t : Addr} {cnt lg : Nat} {is : List I4} {it : Addr} {rs : List Addr} (h : Tab H t cnt lg is it rs) : Tab H' t cnt lg is it rs :=
  ⟨s.tup A h.at_, s.tup A h.its, ⟨h.rows.1, fun i r x h1 h2 => s.tup A (h.rows.2 i r x h1 h2)⟩, h.ok⟩
theorem Mach.but3 {C0 : Addr} (s : But3 b p ed H H') (A : Apart CB H b p ed) {x : Addr} {cnt lg : Nat} {it : Addr} {is : List I4} {rs : List Addr} (h : Mach C0 H x cnt lg it is rs) : Mach C0 H' x cnt lg it is rs := by
  obtain ⟨d, d1, d2, k1, k2, k3⟩ := h.at_.ob
  refine ⟨⟨d, d1, d2, s.keep A k1 (fun _ z => nomatch z) (fun dx x sn z => ?_), s.keep A k2 (fun _ z => nomatch z) (fun _ _ _ z => nomatch z), s.keep A k3 (fun _ z => nomatch z) (fun _ _ _ z => nomatch z)⟩, s.tup A h.its, ⟨h.rows.1, fun i r x h1 h2 => s.tup A (h.rows.2 i r x h1 h2)⟩, h.ok⟩
  have e := (HO.ins.inj z).2.2
  have e2 := flds_cnt cnt it d1 d2
  rw [e, b_no x sn ed (by decide +kernel) (by decide +kernel) (by decide +kernel)] at e2
  cases e2
theorem MapAt.but3 (s : But3 b p ed H H') (A : Apart CB H b p ed) {m : Addr} {ms : List PM} (h : MapAt H m ms) : MapAt H' m ms := by
  obtain ⟨ps, h1, h2, h3⟩ := h
  exact ⟨ps, s.tup A h1, h2, fun i a m e1 e2 => s.tup A (h3 i a m e1 e2)⟩
theorem SpanAt.but3 {K : PySem.W.Frag} {C : Addr} {mp : List Int → List PM} (s : But3 b p ed H H') (A : Apart CB H b p ed) : ∀ {t : Spn} {a : Addr}, SpanAt K C mp H a t → SpanAt K C mp H' a t := by
  have go : ∀ {a d : Addr} {rw lf rt sm : V} {sz ht : Nat}, H a = some (.ins C d (sfld rw lf rt sm sz ht)) → H' a = some (.ins C d (sfld rw lf rt sm sz ht)) := fun {a d rw lf rt sm sz ht} e => s.keep A e (fun _ z => nomatch z) (fun dx x sn z => by
    have e2 := (HO.ins.inj z).2.2
    have e3 := b_row x sn ed
    rw [← e2, s_row] at e3
    cases e3)
  intro t
  induction t with
  | row bs => exact fun {a} ⟨d, c, m, h1, h2, h3⟩ => ⟨d, c, m, go h1, SqT.but3 s A h2, MapAt.but3 s A h3⟩
  | pair l r ihl ihr => exact fun {a} ⟨d, u, v, m, h1, h2, h3, h4⟩ => ⟨d, u, v, m, go h1, ihl h2, ihr h3, MapAt.but3 s A h4⟩
theorem EdsAt.but3 {K : PySem.W.Frag} {C : Addr} {mp : List Int → List PM} (s : But3 b p ed H H') (A : Apart CB H b p ed) {us : List V} {es : List Edit} (h : EdsAt K C mp H us es) : EdsAt K C mp H' us es := by
  induction h with
  | nil => exact .nil
  | cons a _ ih =>
    obtain ⟨r, sb, e1, e2, e3, e4⟩ := a
    exact .cons ⟨r, sb, e1, s.tup A e2, SpanAt.but3 s A e3, e4⟩ ih
/-- the box changes, the buffer stays -/
theorem BufAt.butB {K : PySem.W.Frag} {C x : Addr} {mp : List Int → List PM} {t : Spn} {es : List Edit} {n : Nat} (h : BufAt K C CB mp H p x ed t es) (s : But b H H') (B : BoxAt H b n) (ne : b ≠ ed) : BufAt K C CB mp H' p x ed t es := by
  have A := h.apart B ne
  have s3 : But3 b p ed H H' := .of1 s
  obtain ⟨⟨dx, sn, vs, h1, h2, h3, h4⟩, ok, few⟩ := h
  obtain ⟨z1, z2, z3, eb, _⟩ := B
  exact ⟨⟨dx, sn, vs, s _ _ h1 (fun z => by rw [z, eb] at h1; cases h1), SpanAt.but3 s3 A h2, s _ _ h3 (Ne.symm ne), EdsAt.but3 s3 A h4⟩, ok, few⟩
/-- the buffer changes, the box stays -/
theorem BoxAt.but2 {x sn dx : Addr} {vs : List V} {n : Nat} (B : BoxAt H b n) (hp : H p = some (.ins CB dx (bfld x sn ed))) (ne : b ≠ ed) (s : But2 p ed H H') : BoxAt H' b n := by
  obtain ⟨z1, z2, z3, eb, r⟩ := B
  exact ⟨z1, z2, z3, s _ _ eb (fun z => by rw [z, hp] at eb; cases eb) ne, r⟩
theorem Apart.box {H : Hp} (A : Apart CB H b p ed) (s : But2 p ed H H') {n : Nat} (B : BoxAt H b n) : BoxAt H' b n := by
  obtain ⟨_, ⟨dx, x, sn, h1⟩, _, ne⟩ := A
  exact BoxAt.but2 (vs := []) B h1 ne s
end
end Ov
namespace Ov
open PySem PySem.Spec PyProof.Rows L2
theorem valV_cons (kvs : List (Key × V)) (k' k : Key) (v : V) : valV ((k', v) :: kvs) k = if k' = k then some v else valV kvs k := by
  unfold valV
  rw [List.find?_cons]
  by_cases h : k' = k
  · rw [if_pos h, decide_eq_true h]; rfl
  · rw [if_neg h, decide_eq_false h]
def bhd (a b c : V) : Wd → Option V
  | .ins => some a
  | .del => some b
  | .rep => some c
  | .rpt => none
theorem behind_get (w : Wd) (a b c : V) : valV (mergeK [] [((Sum.inr ("insert" : Str) : Key), a), ((Sum.inr ("delete" : Str) : Key), b), ((Sum.inr ("replace" : Str) : Key), c)]) (Sum.inr w.s) = bhd a b c w := by
  have e : mergeK [] [((Sum.inr ("insert" : Str) : Key), a), ((Sum.inr ("delete" : Str) : Key), b), ((Sum.inr ("replace" : Str) : Key), c)] = [((Sum.inr ("insert" : Str) : Key), a), ((Sum.inr ("delete" : Str) : Key), b), ((Sum.inr ("replace" : Str) : Key), c)] := by
    have p1 : putK ([] : List (Key × V)) (Sum.inr ("insert" : Str)) a = [((Sum.inr ("insert" : Str) : Key), a)] := put_fresh (by simp)
    have p2 : putK [((Sum.inr ("insert" : Str) : Key), a)] (Sum.inr ("delete" : Str)) b = [((Sum.inr ("insert" : Str) : Key), a), ((Sum.inr ("delete" : Str) : Key), b)] := put_fresh (fun z => by
      have z1 : (Sum.inr ("delete" : Str) : Key) ∈ [(Sum.inr ("insert" : Str) : Key)] := z
      have z2 := Sum.inr.inj (List.mem_singleton.mp z1)
      revert z2
      decide +kernel)
    have p3 : putK [((Sum.inr ("insert" : Str) : Key), a), ((Sum.inr ("delete" : Str) : Key), b)] (Sum.inr ("replace" : Str)) c = [((Sum.inr ("insert" : Str) : Key), a), ((Sum.inr ("delete" : Str) : Key), b), ((Sum.inr ("replace" : Str) : Key), c)] := put_fresh (fun z => by
      have z1 : (Sum.inr ("replace" : Str) : Key) ∈ [(Sum.inr ("insert" : Str) : Key), (Sum.inr ("delete" : Str) : Key)] := z
      rcases List.mem_cons.mp z1 with z2 | z2
      · have z3 := Sum.inr.inj z2
        revert z3
        decide +kernel
      · have z3 := Sum.inr.inj (List.mem_singleton.mp z2)
        revert z3
        decide +kernel)
    unfold mergeK
    simp only [List.foldl_cons, List.foldl_nil]
    rw [p1, p2, p3]
  rw [e]
  cases w
  · rw [valV_cons, if_pos (by decide +kernel)]; rfl
  · rw [valV_cons, if_neg (by decide +kernel), valV_cons, if_pos (by decide +kernel)]; rfl
  · rw [valV_cons, if_neg (by decide +kernel), valV_cons, if_neg (by decide +kernel), valV_cons, if_pos (by decide +kernel)]; rfl
  · rw [valV_cons, if_neg (by decide +kernel), valV_cons, if_neg (by decide +kernel), valV_cons, if_neg (by decide +kernel)]
    rfl
section
variable {P : Program} {w : World} {K : PySem.W.Frag} {mg : Str → Option Value} {base : Heap}
/-! ### _law_edited -/
def edV (e : Edit) : List V := [.int (e.2.1 : Int), .int ((e.2.1 + e.2.2.1 : Nat) : Int), .int ((e.2.1 + e.2.2.2 : Nat) : Int)]
def spLEdited (K : PySem.W.Frag) (C0 C CB : Addr) : Sp := fun vs H Q _ => ∃ (b tb ti p x ed it c : Addr) (n cnt lg most : Nat) (is : List I4) (rs : List Addr) (t : Spn) (es : List Edit) (bs : List Int), vs = [.ref b, .ref tb, .ref p, .ref c, .int (most : Int)] ∧ BoxAt H b n ∧ n ≤ 2 ^ 38 ∧ b ≠ ed ∧ Tab H tb cnt lg is ti rs ∧ BufAt K C CB (mpOf is) H p x ed t es ∧ Mach C0 H x cnt lg it is rs ∧ SqT K H c (bs.map V.int) ∧ t.bytes = bs ∧ (∀ y ∈ bs, 0 ≤ y ∧ y < (cnt : Int)) ∧
  bs.length ≤ most ∧ most ≤ 1000 ∧ es.length ≤ 90000 ∧ ∀ H' r c' e' t' w st sp fs m, But3 b p ed H H' → BoxAt H' b (n + 22) → BufAt K C CB (mpOf is) H' p x ed t' (es ++ [edOf w t st sp fs m]) → st ≤ sp → sp ≤ bs.length → m ≤ 100 → (∀ y ∈ fs, 0 ≤ y ∧ y < (cnt : Int)) → fs.length ≤ 8 → t'.bytes = aft w bs st sp fs m → SqT K H' c' ((aft w bs st sp fs m).map V.int) →
    (aft w bs st sp fs m).length ≤ most → H' r = some (.tup [.ref c', .ref e']) → H' e' = some (.tup (edV (edOf w t st sp fs m))) → Q (.ref r) H'
abbrev nEdited : List Str := ["_law_box_here", "_law_table_here", "_law_buffer", "_law_code", "_law_most", "_law_word", "_law_start", "_law_stop", "_law_fresh", "_law_times", "_law_found", "_law_behind"]
theorem scLEdited : FnScope nEdited ["_law_box_here", "_law_table_here", "_law_buffer", "_law_code", "_law_most"] (defScope s_law_edited) := ⟨rfl, rfl, rfl, by decide +kernel, rfl, by decide +kernel, by decide +kernel⟩
theorem ok_lEdited {f fE fB fT fO fA fD C0 C CB : Addr} {fd fdE fdB fdT fdO fdA fdD : FuncData} {k : Nat} (F : Fun K "_law_edited" "_law_edited" s_law_edited f fd) (T : Bi mg)
    (Ed : Def K mg "_law_edit" s_law_edit fE fdE ["_law_box_here", "_law_size"]) (GE : FnOk P w K mg base CX0 k fE fdE ["_law_box_here", "_law_size"] spLEdit)
    (By : Def K mg "_law_bytes" sBytes fB fdB ["_law_box_here", "_law_table_here", "_law_many"]) (GB : FnOk P w K mg base CX0 k fB fdB ["_law_box_here", "_law_table_here", "_law_many"] spBytes)
    (Tk : Def K mg "_law_take" sTake fT fdT ["_law_box_here", "_law_many"]) (GT : FnOk P w K mg base CX0 k fT fdT ["_law_box_here", "_law_many"] spTake)
    (O : Def K mg "_law_of" sOf fO fdO ["_law_box_here", "_law_some"]) (GO : FnOk P w K mg base CX0 k fO fdO ["_law_box_here", "_law_some"] spOf)
    (Af : Def K mg "_law_after" s_law_after fA fdA ["_law_code", "_law_word", "_law_start", "_law_stop", "_law_fresh", "_law_times"]) (GA : FnOk P w K mg base CX0 k fA fdA ["_law_code", "_law_word", "_law_start", "_law_stop", "_law_fresh", "_law_times"] (spLAfter K))
    (Dn : Def K mg "_law_done" s_law_done fD fdD ["_law_buffer", "_law_word", "_law_start", "_law_stop", "_law_fresh", "_law_times"]) (GD : FnOk P w K mg base CX0 k fD fdD ["_law_buffer", "_law_word", "_law_start", "_law_stop", "_law_fresh", "_law_times"] (spLDone K C0 C CB 0)) :
    FnOk P w K mg base CX0 (k + 1) f fd ["_law_box_here", "_law_table_here", "_law_buffer", "_law_code", "_law_most"] (spLEdited K C0 C CB) := by
  refine F.ok scLEdited (fun vs H Q E h => ?_) (fun cdv A' outer s H vs Q E hr h => ?_)
  · obtain ⟨b, tb, ti, p, x, ed, it, c, n, cnt, lg, most, is, rs, t, es, bs, rfl, _⟩ := h
    rfl
  · obtain ⟨b, tb, ti, p, x, ed, it, c, n, cnt, lg, most, is, rs, t, es, bs, rfl, B, hn, ne, Tb, hB, MA, hc, et, low, hm, hm2, few, q⟩ := h
    refine ⟨_, pss_cons (ps_asg (pe_call GE hr (by rfl) Ed.gl Ed.fn.kp Ed.bi .nil pass0 (pa_cons (pv 0) (pa_cons (pe_callB call_len_seq (by rfl) T.len PySem.boot_len (pa_cons (pv 3) pa_nil)) pa_nil))) (pg_tup rfl (pgs_cons (pg_name (i := 5) scLEdited.nd rfl (.inl rfl)) (pgs_cons (pg_name (i := 6) scLEdited.nd rfl (.inl rfl)) (pgs_cons (pg_name (i := 7) scLEdited.nd rfl (.inl rfl)) pgs_nil)))))
      (pss_cons (ps_par (i := 8) (j := 9) (by rfl) scLEdited.nd rfl rfl (by decide) rfl rfl (pa_cons (pe_call GB hr (by rfl) By.gl By.fn.kp By.bi .nil pass0 (pa_cons (pv 0) (pa_cons (pv 1) (pa_cons (pe_call GT hr (by rfl) Tk.gl Tk.fn.kp Tk.bi .nil pass0 (pa_cons (pv 0) (pa_cons pe_int pa_nil))) pa_nil))))
          (pa_cons (pe_call GO hr (by rfl) O.gl O.fn.kp O.bi .nil pass0 (pa_cons (pv 0) (pa_cons (pe_lst (pa_cons pe_int (pa_cons pe_int (pa_cons pe_int (pa_cons pe_int (pa_cons pe_int (pa_cons pe_int pa_nil))))))) pa_nil))) pa_nil)) (by rfl))
      (pss_cons (ps_set (i := 10) scLEdited.nd rfl (.inl rfl) (pe_call GA hr (by rfl) Af.gl Af.fn.kp Af.bi .nil pass0 (pa_cons (pv 3) (pa_cons (pv 5) (pa_cons (pv 6) (pa_cons (pv 7) (pa_cons (pv 8) (pa_cons (pv 9) pa_nil))))))))
      (C8.pss_cut (ps_if (pt_cmpR op_gt (pe_callB call_len_seq (by rfl) T.len PySem.boot_len (pa_cons (pv 10) pa_nil)) (pv 4) (nomark _))
          (pss_one (ps_par (i := 5) (j := 10) (by rfl) scLEdited.nd rfl rfl (by decide) rfl rfl (pa_cons pe_str (pa_cons (pe_op op_catA (pe_slice sl_tupA (pv 3) po_none (po_some (pv 6))) (pe_slice sl_tupA (pv 3) (po_some (pv 7)) po_none)) pa_nil)) (by rfl))) pss_nil)
      (pss_cons (ps_if (pt_cmpR op_notN (pe_call GD hr (by rfl) Dn.gl Dn.fn.kp Dn.bi .nil pass0 (pa_cons (pv 2) (pa_cons (pv 5) (pa_cons (pv 6) (pa_cons (pv 7) (pa_cons (pv 8) (pa_cons (pv 9) pa_nil))))))) pe_non (nomark _)) (pss_one ps_never) pss_nil)
      (pss_cons (ps_set (i := 11) scLEdited.nd rfl (.inl rfl) (pe_disp (pps_cons pe_str (pe_op op_add (pv 6) (pe_callB call_len_seq (by rfl) T.len PySem.boot_len (pa_cons (pv 8) pa_nil))) (pps_cons pe_str (pv 6) (pps_cons pe_str (pe_op op_add (pv 6) (pe_callB call_len_seq (by rfl) T.len PySem.boot_len (pa_cons (pv 8) pa_nil))) pps_nil))) rfl rfl (by simp) (by decide)))
      (pss_one (ps_ret (pe_tup (pa_cons (pv 10) (pa_cons (pe_tup (pa_cons (pv 6) (pa_cons (pe_ifExp (pt_cmpR op_eq (pv 5) pe_str (nomark _)) (pv 6) (pv 7)) (pa_cons (pe_dget2 (hu_of hr) (pv 11) (pv 5) (pe_op op_add (pv 6) (pe_op op_mul (pe_op op_sub (pv 7) (pv 6)) (pv 9))) ⟨rfl, rfl, rfl, rfl⟩) pa_nil)))) pa_nil)))))))))), ?_⟩
    have bl : bs.length = t.size := by rw [← et, Spn.size_eq]
    refine ⟨_, rfl, _, rfl, c, _, rfl, .inr hc, b, n, bs.length, by rw [List.length_map]; rfl, B, by omega, by omega, fun H1 r1 w0 st sp b1 B1 hr1 h12 h2t => ?_⟩
    refine ⟨r1, _, rfl, SqT.of hr1, rfl, _, _, rfl, _, _, rfl, _, _, rfl, rfl, ?_⟩
    have Ap := hB.apart B ne
    have T1 := Tb.but b1 B
    -- the fresh bytes
    refine ⟨_, rfl, _, rfl, _, rfl, b, 9, _, rfl, B1, by omega, by decide, by decide, fun H2 m b2 B2 m0 m1 f2 => ?_⟩
    obtain ⟨mn, rfl⟩ : ∃ mn : Nat, m = (mn : Int) := ⟨m.toNat, by omega⟩
    have T2 := T1.but b2 B1
    refine ⟨b, tb, _, cnt, lg, is, ti, rs, mn, rfl, B2, by omega, T2, by omega, fun H3 fr fs b3 B3 nfr hfr lowf lf => ?_⟩
    refine ⟨_, rfl, by show 6 ≤ sizeLine; decide, fun l nl => ?_⟩
    have s4 := same_upd (o := HO.lst [V.int 0, V.int 1, V.int 2, V.int 2, V.int 3, V.int 7]) nl
    have hl := @upd_same H3 l (HO.lst [V.int 0, V.int 1, V.int 2, V.int 2, V.int 3, V.int 7])
    have hlb : l ≠ b := fun z => B3.ne (z ▸ nl)
    have B4 := B3.same s4
    have hfr4 := s4 _ _ hfr
    generalize upd H3 l (HO.lst [V.int 0, V.int 1, V.int 2, V.int 2, V.int 3, V.int 7]) = H4 at *
    refine ⟨b, l, _, _, rfl, B4, by omega, hl, hlb, by show 0 < 6; decide, by show 6 ≤ 1000; decide, fun H5 v hv b5 B5 f5 => ?_⟩
    obtain ⟨tm, rfl, tm7⟩ : ∃ tm : Nat, v = .int (tm : Int) ∧ tm ≤ 7 := by
      simp only [List.mem_cons, List.not_mem_nil, or_false] at hv
      rcases hv with rfl | rfl | rfl | rfl | rfl | rfl
      · exact ⟨0, rfl, by decide⟩
      · exact ⟨1, rfl, by decide⟩
      · exact ⟨2, rfl, by decide⟩
      · exact ⟨2, rfl, by decide⟩
      · exact ⟨3, rfl, by decide⟩
      · exact ⟨7, rfl, by decide⟩
    refine ⟨_, _, rfl, ?_⟩
    have b05 : But b H H5 := b1.trans (b2.trans (b3.trans ((But.of s4).trans b5)))
    have hc5 := SqT.but3 (.of1 b05) Ap hc
    have hfr5 : SqT K H5 fr (fs.map V.int) := SqT.of (b5 _ _ hfr4 (fun z => by obtain ⟨_, _, _, e, _⟩ := B4; rw [z, e] at hfr4; cases hfr4))
    have hB5 := hB.butB b05 B ne
    have MA5 := MA.but b05 B
    have B5' : BoxAt H5 b (n + 22) := B5.mono (by omega)
    clear b1 b2 b3 b5 s4 B1 B2 B3 B4 B5 T1 T2 hl hfr hfr4 f2 f5 nl nfr hr1
    -- the code behind it
    refine ⟨_, rfl, _, rfl, _, rfl, _, rfl, _, rfl, _, rfl, c, fr, w0, bs, fs, st, sp, tm, rfl, hc5, hfr5, h12, h2t, by omega, by omega, by omega, fun H6 c6 s6 hc6 => ?_⟩
    refine ⟨fun σ G => ∃ (w : Wd) (c' : Addr), σ = [some (.ref b), some (.ref tb), some (.ref p), some (.ref c), some (.int (most : Int)), some (.str w.s), some (.int (st : Int)), some (.int (sp : Int)), some (.ref fr), some (.int (tm : Int)), some (.ref c'), none] ∧ Same H5 G ∧ SqT K G c' ((aft w bs st sp fs tm).map V.int) ∧ (aft w bs st sp fs tm).length ≤ most, ?_, ?_⟩
    · refine ⟨_, rfl, c6, _, rfl, .inr hc6, _, rfl, _, _, rfl, rfl, _, rfl, ?_⟩
      rw [List.length_map]
      by_cases g : (most : Int) < ((aft w0 bs st sp fs tm).length : Int)
      · rw [decide_eq_true g]
        refine iteT ⟨_, rfl, _, rfl, _, rfl, cut_x (Same.refl H6) (s6.tup hc5) fun c1 H7 T1 g1 S1 => ⟨_, rfl, _, rfl, _, rfl, ?_⟩⟩
        delta tNoPart
        rw [cut_to, ← List.map_take] at S1
        refine cut_x (Same.refl H7) ((s6.trans g1.hh).tup hc5) fun c3 H8 T3 g3 S3 => ?_
        rw [cut_from, ← List.map_drop] at S3
        refine cat_x (Same.refl H8) (g3.hh.tup (g1.th.tup S1)) (g3.th.tup S3) (by simp only [List.length_map, List.length_take, List.length_drop]; rw [sizeLine_eq]; omega) fun c4 H9 T4 g4 S4 => ?_
        rw [← List.map_append] at S4
        refine ⟨_, _, rfl, .del, c4, rfl, s6.trans (g1.hh.trans (g3.hh.trans g4.hh)), g4.th.tup S4, ?_⟩
        have al := aft_len (w := .del) (bs := bs) (fs := fs) (n := tm) h12 h2t
        simp only [oldOf, newOf] at al
        omega
      · rw [decide_eq_false g]
        exact iteF ⟨w0, c6, rfl, s6, hc6, by omega⟩
    rintro σ G ⟨w, c', rfl, sG, hc', lc⟩
    -- the edit
    have hBG := hB5.same sG
    refine ⟨_, rfl, _, rfl, _, rfl, _, rfl, _, rfl, _, rfl, p, x, ed, it, fr, cnt, lg, is, rs, t, es, w, st, sp, tm, fs, rfl, hBG, MA5.same sG, sG.tup hfr5, lowf, by omega, by omega, h12, by omega, by rw [et]; omega, by omega, fun H7 t' k7 hB7 et7 => ⟨rfl, _, rfl, iteF ?_⟩⟩
    have ApG := hBG.apart (B5'.same sG) ne
    have k7' : But3 b p ed G H7 := .of2 k7
    have hc7 := SqT.but3 k7' ApG hc'
    have hfr7 := SqT.but3 k7' ApG (sG.tup hfr5)
    have B7 := ApG.box k7 (B5'.same sG)
    have k07 : But3 b p ed H H7 := (But3.of1 b05).trans ((But3.of sG).trans k7')
    rw [et] at et7
    intro d nd
    have sd := same_upd (o := HO.dK []) nd
    refine ⟨_, rfl, _, rfl, fr, _, rfl, .inr (sd.tup hfr7), _, _, rfl, rfl, _, rfl, _, rfl, _, rfl, fr, _, rfl, .inr (sd.tup hfr7), _, _, rfl, rfl, upd_same, [((Sum.inr ("insert" : Str) : Key), .int ((st : Int) + ((fs.map V.int).length : Int))), ((Sum.inr ("delete" : Str) : Key), .int (st : Int)), ((Sum.inr ("replace" : Str) : Key), .int ((st : Int) + ((fs.map V.int).length : Int)))], rfl, by show 3 ≤ 15; decide, ?_⟩
    have sx : Same H7 (upd (upd H7 d (.dK [])) d (.dK (mergeK [] [((Sum.inr ("insert" : Str) : Key), .int ((st : Int) + ((fs.map V.int).length : Int))), ((Sum.inr ("delete" : Str) : Key), .int (st : Int)), ((Sum.inr ("replace" : Str) : Key), .int ((st : Int) + ((fs.map V.int).length : Int)))]))) := fun a o e => by
      rw [upd_ne (ne_of_none e nd), upd_ne (ne_of_none e nd)]; exact e
    have hd : (upd (upd H7 d (.dK [])) d (.dK (mergeK [] [((Sum.inr ("insert" : Str) : Key), .int ((st : Int) + ((fs.map V.int).length : Int))), ((Sum.inr ("delete" : Str) : Key), .int (st : Int)), ((Sum.inr ("replace" : Str) : Key), .int ((st : Int) + ((fs.map V.int).length : Int)))]))) d = _ := upd_same
    generalize upd (upd H7 d (.dK [])) d _ = H8 at *
    refine ⟨_, rfl, _, rfl, _, rfl, rfl, _, rfl, ?_⟩
    rw [wd_ins]
    have old_le : st + oldOf w st sp = if w.isIns = true then st else sp := by
      cases w
      · rfl
      all_goals exact Nat.add_sub_cancel' h12
    have go : (fun x H1 => tDGet2 (tVar 11) (tVar 5) (tOp (rI0 fun i j => .int (i + j)) (tVar 6) (tOp (rI CMul fun i j => .int (i * j)) (tOp (rI0 fun i j => .int (i - j)) (tVar 7) (tVar 6)) (tVar 9))) ([some (.ref b), some (.ref tb), some (.ref p), some (.ref c), some (.int (most : Int)), some (.str w.s), some (.int (st : Int)), some (.int (sp : Int)), some (.ref fr), some (.int (tm : Int)), some (.ref c'), some (.ref d)] : L2.St) H1 fun y H2 => 3 ≤ sizeLine ∧ ∀ e', H2 e' = none → 2 ≤ sizeLine ∧ ∀ r, (upd H2 e' (.tup [.int (st : Int), x, y])) r = none → Q (.ref r) (upd (upd H2 e' (.tup [.int (st : Int), x, y])) r (.tup [.ref c', .ref e']))) (V.int ((st + oldOf w st sp : Nat) : Int)) H8 := by
      refine ⟨_, rfl, d, rfl, .inl ⟨_, .inl hd⟩, _, rfl, _, rfl, _, rfl, _, rfl, _, _, rfl, rfl, _, rfl, _, _, rfl, rfl, .inl ⟨by omega, by omega⟩, _, _, rfl, rfl, _, DGet.k (k := Sum.inr w.s) hd, ?_⟩
      rw [behind_get]
      have ey : (bhd (V.int ((st : Int) + ((fs.map V.int).length : Int))) (V.int (st : Int)) (V.int ((st : Int) + ((fs.map V.int).length : Int))) w).getD (V.int ((st : Int) + ((sp : Int) - (st : Int)) * (tm : Int))) = V.int ((st + newOf w st sp fs tm : Nat) : Int) := by
        cases w
        · show V.int ((st : Int) + ((fs.map V.int).length : Int)) = _
          rw [List.length_map]; rfl
        · rfl
        · show V.int ((st : Int) + ((fs.map V.int).length : Int)) = _
          rw [List.length_map]; rfl
        · show V.int ((st : Int) + ((sp : Int) - (st : Int)) * (tm : Int)) = V.int ((st + tm * (sp - st) : Nat) : Int)
          have e1 : (sp : Int) - (st : Int) = ((sp - st : Nat) : Int) := by omega
          rw [e1, ← Int.natCast_mul, Nat.mul_comm (sp - st) tm, Int.natCast_add]
      refine ⟨by decide, fun e' ne' => ⟨by decide, fun r nr => ?_⟩⟩
      show Q (.ref r) (upd (upd H8 e' (.tup [.int (st : Int), .int ((st + oldOf w st sp : Nat) : Int), (bhd (V.int ((st : Int) + ((fs.map V.int).length : Int))) (V.int (st : Int)) (V.int ((st : Int) + ((fs.map V.int).length : Int))) w).getD (V.int ((st : Int) + ((sp : Int) - (st : Int)) * (tm : Int)))])) r (.tup [.ref c', .ref e']))
      have nr' : (upd H8 e' (.tup [.int (st : Int), .int ((st + oldOf w st sp : Nat) : Int), (bhd (V.int ((st : Int) + ((fs.map V.int).length : Int))) (V.int (st : Int)) (V.int ((st : Int) + ((fs.map V.int).length : Int))) w).getD (V.int ((st : Int) + ((sp : Int) - (st : Int)) * (tm : Int)))])) r = none := nr
      rw [ey] at nr' ⊢
      have s9 := same_upd (o := HO.tup [V.int (st : Int), .int ((st + oldOf w st sp : Nat) : Int), V.int ((st + newOf w st sp fs tm : Nat) : Int)]) ne'
      have s10 := same_upd (o := HO.tup [V.ref c', V.ref e']) nr'
      have sz := sx.trans (s9.trans s10)
      exact q _ r c' e' t' w st sp fs tm (k07.trans (.of sz)) (B7.same sz) (hB7.same sz) h12 h2t (by omega) lowf (by omega) et7 (sz.tup hc7) lc upd_same (s10 _ _ upd_same)
    cases hw : w.isIns with
    | true =>
      rw [hw, if_pos rfl] at old_le
      rw [old_le] at go
      exact iteT ⟨_, rfl, go⟩
    | false =>
      rw [hw, if_neg (by decide)] at old_le
      rw [old_le] at go
      exact iteF ⟨_, rfl, go⟩
end
end Ov
namespace Ov
open PySem PySem.Spec PyProof.Rows L2
section
variable {P : Program} {w : World} {K : PySem.W.Frag} {mg : Str → Option Value} {base : Heap}
/-! ### _law_countdowns -/
def spLCds (K : PySem.W.Frag) : Sp := fun vs H Q _ => ∃ (t it c : Addr) (cnt lg : Nat) (is : List I4) (rs : List Addr) (bs : List Int) (e : Nat), vs = [.ref t, .ref c, .int (e : Int)] ∧ Tab H t cnt lg is it rs ∧ SqT K H c (bs.map V.int) ∧ bs.length ≤ 100000 ∧
  ∀ H' l, Same H H' → H l = none → H' l = some (.lst ((cds (laOf is) (some 0) (bs.drop e)).map optN)) → Q (.ref l) H'
theorem scLCds : FnScope ["_law_table_here", "_law_code", "_law_entry", "_law_found", "_law_left", "_law_byte"] ["_law_table_here", "_law_code", "_law_entry"] (defScope sLCds) := ⟨rfl, rfl, rfl, by decide +kernel, rfl, by decide +kernel, by decide +kernel⟩
theorem ok_lcds {f fL : Addr} {fd fdL : FuncData} {k : Nat} (F : Fun K "_law_countdowns" "_law_countdowns" sLCds f fd) 
    (L : Def K mg "_law_length_at" sLLenAt fL fdL ["_law_table_here", "_law_byte"]) (GL : FnOk P w K mg base CX0 k fL fdL ["_law_table_here", "_law_byte"] spLLenAt) :
    FnOk P w K mg base CX0 (k + 1) f fd ["_law_table_here", "_law_code", "_law_entry"] (spLCds K) := by
  refine F.ok scLCds (fun vs H Q E h => ?_) (fun cdv A' outer s H vs Q E hr h => ?_)
  · obtain ⟨t, it, c, cnt, lg, is, rs, bs, e, rfl, _⟩ := h
    rfl
  · obtain ⟨t, it, c, cnt, lg, is, rs, bs, e, rfl, Tb, hc, hb, q⟩ := h
    refine ⟨_, pss_cons (ps_par (i := 3) (j := 4) (by rfl) scLCds.nd rfl rfl (by decide) rfl rfl (pa_cons (pe_lst (pa_cons pe_int pa_nil)) (pa_cons pe_int pa_nil)) (by rfl))
      (pss_cons (ps_for PassesOwn.never rfl (pi_tup (pe_slice sl_tupA (pv 1) (po_some (pv 2)) po_none)) (pg_name (i := 5) scLCds.nd rfl (.inl rfl))
        (pss_cons (ps_if (pt_cmpR op_eq (pv 4) pe_int (nomark _)) (pss_one (ps_set (i := 4) scLCds.nd rfl (.inl rfl) (pe_call GL hr (by rfl) L.gl L.fn.kp L.bi .nil pass0 (pa_cons (pv 0) (pa_cons (pv 5) pa_nil))))) pss_nil)
        (pss_cons (ps_set (i := 4) scLCds.nd rfl (.inl rfl) (pe_ifExp (PW.pt (pw_and (pt_cmpR op_notN (pv 4) pe_non (nomark _)) (pw_and1 (pt_cmpR op_gt (pv 4) pe_int (nomark _))))) (pe_op op_sub (pv 4) pe_int) pe_non))
        (pss_one (ps_expr (pe_bm PySem.F.plainAttrs_list PySem.F.slot_list_append PySem.F.type_list_append mt_append (pv 3) (pa_cons (pv 4) pa_nil)))))))
      (pss_one (ps_ret (pv 3)))), ?_⟩
    refine ⟨by show 1 ≤ sizeLine; decide, fun l nl => ⟨_, _, rfl, ?_⟩⟩
    have s1 := same_upd (o := HO.lst [V.int 0]) nl
    have l1 : upd H l (HO.lst [V.int 0]) l = some (.lst [V.int 0]) := upd_same
    have T0 : Tab (upd H l (HO.lst [V.int 0])) t cnt lg is it rs := Tb.same s1
    refine ⟨_, rfl, _, rfl, _, rfl, ?_⟩
    delta tNoPart
    refine cut_x (Same.refl _) (s1.tup hc) fun d H1 T1 g S1 => ?_
    rw [cut_from, ← List.map_drop] at S1
    have hd1 := g.th.tup S1
    have mk1 : Mk H H1 l ((cds (laOf is) (some 0) ((bs.drop e).take 0)).map optN) := ⟨s1.trans g.hh, nl, g.hh _ _ l1⟩
    have hdl : (bs.drop e).length ≤ 100000 := by rw [List.length_drop]; omega
    clear l1 T0 S1
    generalize bs.drop e = ds at *
    refine ⟨d, rfl, ⟨_, hd1⟩, for_tup (K := K) (a := d) (xs := ds.map V.int) (fun i σ H' => But l H1 H' ∧ Mk H H' l ((cds (laOf is) (some 0) (ds.take i)).map optN) ∧ ∃ y5, σ = [some (.ref t), some (.ref c), some (.int (e : Int)), some (.ref l), some (optN (cdEnd (laOf is) (some 0) (ds.take i))), y5])
      ⟨But.refl _ _, mk1, _, rfl⟩ (fun i σ H' _ ⟨b, _⟩ => b.tup mk1.at_ hd1) ?_ ?_⟩
    · rintro i x σ H' hx ⟨bt, mk, y5, rfl⟩
      obtain ⟨b, hb', rfl⟩ : ∃ b, ds[i]? = some b ∧ V.int b = x := by
        rw [List.getElem?_map] at hx
        exact Option.map_eq_some_iff.mp hx
      have hi := (List.getElem?_eq_some_iff.mp hb').1
      have sz : ((cds (laOf is) (some 0) (ds.take i)).map optN).length < sizeLine := by rw [List.length_map, cds_len, List.length_take, sizeLine_eq]; omega
      rw [take_more hb', cds_snoc, cdEnd_snoc]
      have Tb' := Tb.same mk.same
      have fin : ∀ v, v = optN (cdStep (laOf is) (cdEnd (laOf is) (some 0) (ds.take i)) b) → But l H1 (upd H' l (.lst ((cds (laOf is) (some 0) (ds.take i)).map optN ++ [v]))) ∧ Mk H (upd H' l (.lst ((cds (laOf is) (some 0) (ds.take i)).map optN ++ [v]))) l ((cds (laOf is) (some 0) (ds.take i) ++ [cdStep (laOf is) (cdEnd (laOf is) (some 0) (ds.take i)) b]).map optN) ∧
          ∃ y5', [some (V.ref t), some (V.ref c), some (V.int (e : Int)), some (V.ref l), some v, some (V.int b)] = [some (.ref t), some (.ref c), some (.int (e : Int)), some (.ref l), some (optN (cdStep (laOf is) (cdEnd (laOf is) (some 0) (ds.take i)) b)), y5'] := by
        rintro v rfl
        refine ⟨fun a o ea na => by rw [upd_ne na]; exact bt a o ea na, ?_, _, rfl⟩
        rw [List.map_append]
        exact mk.put (Same.refl _)
      generalize cdEnd (laOf is) (some 0) (ds.take i) = st at *
      cases st with
      | none =>
        refine ⟨_, rfl, rfl, _, rfl, ?_⟩
        rw [decide_eq_false (by intro z; cases z)]
        refine iteF ⟨_, rfl, rfl, _, rfl, iteF (iteF ?_)⟩
        exact ⟨_, rfl, .inl ⟨rfl, _, SqL.of mk.at_⟩, _, rfl, l, _, _, rfl, rfl, mk.at_, sz, fin _ rfl⟩
      | some n =>
        cases n with
        | zero =>
          refine ⟨_, rfl, rfl, _, rfl, ?_⟩
          rw [decide_eq_true (show optN (some 0) = V.int 0 from rfl)]
          refine iteT ⟨_, rfl, _, rfl, t, it, cnt, lg, is, rs, b, rfl, Tb', ?_⟩
          refine ⟨_, rfl, rfl, _, rfl, iteT ⟨_, rfl, _, _, rfl, rfl, _, rfl, ?_⟩⟩
          by_cases h : (0 : Int) < (laOf is b : Int)
          · rw [decide_eq_true h]
            refine iteT ⟨_, rfl, _, _, rfl, rfl, ?_⟩
            refine ⟨_, rfl, .inl ⟨rfl, _, SqL.of mk.at_⟩, _, rfl, l, _, _, rfl, rfl, mk.at_, sz, fin _ ?_⟩
            show V.int ((laOf is b : Int) - 1) = optN (if laOf is b = 0 then none else some (laOf is b - 1))
            rw [if_neg (by omega)]
            show _ = V.int ((laOf is b - 1 : Nat) : Int)
            rw [show (((laOf is b - 1 : Nat)) : Int) = (laOf is b : Int) - 1 by omega]
          · rw [decide_eq_false h]
            refine iteF ⟨_, rfl, .inl ⟨rfl, _, SqL.of mk.at_⟩, _, rfl, l, _, _, rfl, rfl, mk.at_, sz, fin _ ?_⟩
            show V.non = optN (if laOf is b = 0 then none else some (laOf is b - 1))
            rw [if_pos (by omega)]
            rfl
        | succ n =>
          refine ⟨_, rfl, rfl, _, rfl, ?_⟩
          rw [decide_eq_false (fun z => by have := V.int.inj z; omega)]
          refine iteF ⟨_, rfl, rfl, _, rfl, iteT ⟨_, rfl, _, _, rfl, rfl, _, rfl, ?_⟩⟩
          rw [decide_eq_true (show (0 : Int) < ((n + 1 : Nat) : Int) by omega)]
          refine iteT ⟨_, rfl, _, _, rfl, rfl, ?_⟩
          refine ⟨_, rfl, .inl ⟨rfl, _, SqL.of mk.at_⟩, _, rfl, l, _, _, rfl, rfl, mk.at_, sz, fin _ ?_⟩
          show V.int (((n + 1 : Nat) : Int) - 1) = V.int (n : Int)
          rw [show ((n + 1 : Nat) : Int) - 1 = (n : Int) by omega]
    · rintro σ H' ⟨bt, mk, y5, rfl⟩
      rw [List.length_map, List.take_length] at mk
      exact ⟨_, rfl, q _ l mk.same nl mk.at_⟩
end
end Ov
namespace Ov
open PySem PySem.Spec PyProof.Rows L2
section
variable {P : Program} {w : World} {K : PySem.W.Frag} {mg : Str → Option Value} {base : Heap}
/-! ### _law_starts -/
def spLSts (K : PySem.W.Frag) : Sp := fun vs H Q _ => ∃ (t it c : Addr) (cnt lg : Nat) (is : List I4) (rs : List Addr) (bs : List Int) (e : Nat), vs = [.ref t, .ref c, .int (e : Int)] ∧ Tab H t cnt lg is it rs ∧ SqT K H c (bs.map V.int) ∧ bs.length ≤ 100000 ∧ e ≤ bs.length ∧
  ∀ H' l, Same H H' → H l = none → H' l = some (.lst ((stF (laOf is) 0 (some e) bs).map natV)) → Q (.ref l) H'
theorem scLSts : FnScope ["_law_table_here", "_law_code", "_law_entry", "_law_found", "_law_at", "_law_left"] ["_law_table_here", "_law_code", "_law_entry"] (defScope sLStarts) := ⟨rfl, rfl, rfl, by decide +kernel, rfl, by decide +kernel, by decide +kernel⟩
theorem stF_len {la : Int → Nat} : ∀ (bs : List Int) (k : Nat) (s : Option Nat), (stF la k s bs).length ≤ bs.length
  | [], _, _ => Nat.le_refl _
  | b :: bs, k, s => by
    show ((if s = some 0 ∧ 0 < la b then [k] else []) ++ stF la (k + 1) (cdStep la s b) bs).length ≤ bs.length + 1
    have := stF_len (la := la) bs (k + 1) (cdStep la s b)
    rw [List.length_append]
    split
    · rw [List.length_singleton]; omega
    · rw [List.length_nil]; omega
theorem ok_lsts {f fL fD : Addr} {fd fdL fdD : FuncData} {k : Nat} (F : Fun K "_law_starts" "_law_starts" sLStarts f fd) (T : Bi mg)
    (L : Def K mg "_law_length_at" sLLenAt fL fdL ["_law_table_here", "_law_byte"]) (GL : FnOk P w K mg base CX0 k fL fdL ["_law_table_here", "_law_byte"] spLLenAt)
    (D : Def K mg "_law_countdowns" sLCds fD fdD ["_law_table_here", "_law_code", "_law_entry"]) (GD : FnOk P w K mg base CX0 k fD fdD ["_law_table_here", "_law_code", "_law_entry"] (spLCds K)) :
    FnOk P w K mg base CX0 (k + 1) f fd ["_law_table_here", "_law_code", "_law_entry"] (spLSts K) := by
  refine F.ok scLSts (fun vs H Q E h => ?_) (fun cdv A' outer s H vs Q E hr h => ?_)
  · obtain ⟨t, it, c, cnt, lg, is, rs, bs, e, rfl, _⟩ := h
    rfl
  · obtain ⟨t, it, c, cnt, lg, is, rs, bs, e, rfl, Tb, hc, hb, he, q⟩ := h
    refine ⟨_, pss_cons (ps_set (i := 3) scLSts.nd rfl (.inl rfl) (pe_lst pa_nil))
      (pss_cons (ps_for PassesOwn.never rfl (pi_enum (by rfl) T.enumerate (pa_cons (pe_call GD hr (by rfl) D.gl D.fn.kp D.bi .nil pass0 (pa_cons (pv 0) (pa_cons (pv 1) (pa_cons (pv 2) pa_nil)))) pa_nil)) (pg_tup rfl (pgs_cons (pg_name (i := 4) scLSts.nd rfl (.inl rfl)) (pgs_cons (pg_name (i := 5) scLSts.nd rfl (.inl rfl)) pgs_nil)))
        (pss_one (ps_if (PW.pt (pw_and (pt_cmpR op_eq (pv 5) pe_int (nomark _)) (pw_and (pt_cmpR op_lt (pe_op op_add (pv 2) (pv 4)) (pe_callB call_len_seq (by rfl) T.len PySem.boot_len (pa_cons (pv 1) pa_nil)) (nomark _))
            (pw_and1 (pt_cmpR op_gt (pe_call GL hr (by rfl) L.gl L.fn.kp L.bi .nil pass0 (pa_cons (pv 0) (pa_cons (pe_ix ix_tup (pv 1) (pe_op op_add (pv 2) (pv 4)) (fun _ _ => rfl)) pa_nil))) pe_int (nomark _))))))
          (pss_one (ps_expr (pe_bm PySem.F.plainAttrs_list PySem.F.slot_list_append PySem.F.type_list_append mt_append (pv 3) (pa_cons (pe_op op_add (pv 2) (pv 4)) pa_nil)))) pss_nil)))
      (pss_one (ps_ret (pv 3)))), ?_⟩
    refine ⟨Nat.zero_le _, fun l nl => ?_⟩
    have s1 := same_upd (o := HO.lst []) nl
    have l1 : upd H l (HO.lst []) l = some (.lst []) := upd_same
    generalize upd H l (HO.lst []) = H1 at *
    refine ⟨_, rfl, _, rfl, _, rfl, t, it, c, cnt, lg, is, rs, bs, e, rfl, Tb.same s1, s1.tup hc, hb, fun H2 lc s2 nlc hlc => ?_⟩
    have s02 := s1.trans s2
    have hll : lc ≠ l := fun z => by rw [z, l1] at nlc; cases nlc
    have dl : (bs.drop e).length = bs.length - e := List.length_drop
    rw [st_entry he] at q
    have hat : ∀ i, (bs.drop e)[i]? = bs[e + i]? := fun i => by rw [List.getElem?_drop]
    generalize bs.drop e = ds at *
    refine ⟨lc, _, rfl, SqL.of hlc, for_it (walk_enum (K := K) (a := lc) (xs := (cds (laOf is) (some 0) ds).map optN))
      (fun i σ H' => But l H2 H' ∧ Mk H H' l ((stF (laOf is) e (some 0) (ds.take i)).map natV) ∧ ∃ y4 y5, σ = [some (.ref t), some (.ref c), some (.int (e : Int)), some (.ref l), y4, y5])
      ⟨But.refl _ _, ⟨s02, nl, s2 _ _ l1⟩, _, _, rfl⟩ (fun i σ H' _ ⟨b, _⟩ => SqL.of (b _ _ hlc hll)) ?_ ?_⟩
    · rintro i x σ H' H3 hi ⟨bt, mk, y4, y5, rfl⟩ ⟨tt, x1, x2, rfl, ntt, rfl, f1, f2⟩
      rw [List.length_map, cds_len] at hi
      have e1 : x1 = .int (i : Int) := (Option.some.inj f1).symm
      have e2 : x2 = optN (cdEnd (laOf is) (some 0) (ds.take i)) := by
        have z : ((cds (laOf is) (some 0) ds).map optN)[i]? = some x2 := f2
        rw [List.getElem?_map, cds_at (by omega)] at z
        exact (Option.some.inj z).symm
      subst e1 e2
      have st := same_upd (o := HO.tup [V.int (i : Int), optN (cdEnd (laOf is) (some 0) (ds.take i))]) ntt
      have bt3 : But l H2 (upd H' tt (HO.tup [V.int (i : Int), optN (cdEnd (laOf is) (some 0) (ds.take i))])) := bt.trans (But.of st)
      have mk3 : Mk H (upd H' tt (HO.tup [V.int (i : Int), optN (cdEnd (laOf is) (some 0) (ds.take i))])) l ((stF (laOf is) e (some 0) (ds.take i)).map natV) := ⟨mk.same.trans st, mk.new, st _ _ mk.at_⟩
      refine ⟨tt, _, rfl, SqT.of upd_same, rfl, _, _, rfl, _, _, rfl, rfl, ?_⟩
      generalize upd H' tt (HO.tup [V.int (i : Int), optN (cdEnd (laOf is) (some 0) (ds.take i))]) = H4 at *
      have sz : ((stF (laOf is) e (some 0) (ds.take i)).map natV).length < sizeLine := by
        have := stF_len (la := laOf is) (ds.take i) e (some 0)
        rw [List.length_take] at this
        rw [List.length_map, sizeLine_eq]
        omega
      have c4 := mk3.same.tup hc
      have Tb4 := Tb.same mk3.same
      have same : ∀ z : stF (laOf is) e (some 0) (ds.take (i + 1)) = stF (laOf is) e (some 0) (ds.take i), But l H2 H4 ∧ Mk H H4 l ((stF (laOf is) e (some 0) (ds.take (i + 1))).map natV) ∧ ∃ y4 y5, [some (V.ref t), some (V.ref c), some (V.int (e : Int)), some (V.ref l), some (V.int (i : Int)), some (optN (cdEnd (laOf is) (some 0) (ds.take i)))] = [some (.ref t), some (.ref c), some (.int (e : Int)), some (.ref l), y4, y5] := fun z => by
        rw [z]
        exact ⟨bt3, mk3, _, _, rfl⟩
      have scl : scal (optN (cdEnd (laOf is) (some 0) (ds.take i))) (V.int 0) = true := by
        cases cdEnd (laOf is) (some 0) (ds.take i) <;> rfl
      refine ⟨_, rfl, scl, _, rfl, ?_⟩
      by_cases h0 : cdEnd (laOf is) (some 0) (ds.take i) = some 0
      · rw [decide_eq_true (show optN (cdEnd (laOf is) (some 0) (ds.take i)) = V.int 0 by rw [h0]; rfl)]
        refine iteT ⟨_, rfl, _, rfl, _, _, rfl, rfl, _, rfl, c, _, rfl, .inr c4, _, _, rfl, rfl, _, rfl, ?_⟩
        rw [List.length_map]
        by_cases h1 : (e : Int) + (i : Int) < (bs.length : Int)
        · rw [decide_eq_true h1]
          have hdi : i < ds.length := by omega
          have hb1 : ds[i]? = some ds[i] := List.getElem?_eq_getElem hdi
          have hb2 : bs[e + i]? = some ds[i] := by rw [← hat]; exact hb1
          have iv : atI (bs.map V.int) ((e : Int) + (i : Int)) = some (.int ds[i]) := atI_nat (j := e + i) (by rw [List.getElem?_map, hb2]; rfl)
          refine iteT ⟨_, rfl, _, rfl, _, rfl, _, rfl, _, _, rfl, rfl, c, _, _, _, rfl, rfl, c4, iv, t, it, cnt, lg, is, rs, ds[i], rfl, Tb4, _, _, rfl, rfl, _, rfl, ?_⟩
          by_cases h2 : (0 : Int) < (laOf is ds[i] : Int)
          · rw [decide_eq_true h2]
            refine iteT ⟨_, rfl, .inl ⟨rfl, _, SqL.of mk3.at_⟩, _, rfl, _, rfl, _, _, rfl, rfl, l, _, _, rfl, rfl, mk3.at_, sz, ?_⟩
            refine ⟨fun a o ea na => by rw [upd_ne na]; exact bt3 a o ea na, ?_, _, _, rfl⟩
            rw [take_more hb1, stF_snoc, if_pos ⟨h0, by omega⟩, List.map_append, List.length_take, Nat.min_eq_left (by omega)]
            exact mk3.put (Same.refl _)
          · rw [decide_eq_false h2]
            refine iteF (same ?_)
            rw [take_more hb1, stF_snoc, if_neg (by rintro ⟨_, z⟩; omega), List.append_nil]
        · rw [decide_eq_false h1]
          refine iteF (iteF (same ?_))
          rw [List.take_of_length_le (show ds.length ≤ i by omega), List.take_of_length_le (show ds.length ≤ i + 1 by omega)]
      · rw [decide_eq_false (fun z => h0 (by
          revert z
          cases cdEnd (laOf is) (some 0) (ds.take i) with
          | none => intro z; cases z
          | some n => intro z; have : (n : Int) = 0 := V.int.inj z; rw [show n = 0 by omega]))]
        refine iteF (iteF (same ?_))
        by_cases hdi : i < ds.length
        · rw [take_more (List.getElem?_eq_getElem hdi), stF_snoc, if_neg (fun z => h0 z.1), List.append_nil]
        · rw [List.take_of_length_le (show ds.length ≤ i by omega), List.take_of_length_le (show ds.length ≤ i + 1 by omega)]
    · rintro σ H' ⟨bt, mk, y4, y5, rfl⟩
      rw [List.length_map, cds_len, List.take_of_length_le (by omega)] at mk
      exact ⟨_, rfl, q _ l mk.same nl mk.at_⟩
end
end Ov
namespace Ov
open PySem PySem.Spec PyProof.Rows L2
theorem take_behind {bs : List Int} {a h i : Nat} (h1 : a ≤ h) (h2 : h ≤ bs.length) : (bs.drop a).take (h + i - a) = (bs.take h).drop a ++ (bs.drop h).take i := by
  have e : bs.drop a = (bs.take h).drop a ++ bs.drop h := by
    conv => lhs; rw [← List.take_append_drop h bs]
    rw [List.drop_append_of_le_length (by rw [List.length_take]; omega)]
  have l : ((bs.take h).drop a).length = h - a := by rw [List.length_drop, List.length_take]; omega
  rw [e, show h + i - a = ((bs.take h).drop a).length + i by omega, List.take_length_add_append]
theorem cds_behind {la : Int → Nat} {bs : List Int} {a h i : Nat} (h1 : a ≤ h) (h2 : h + i ≤ bs.length) : (cds la (some 0) (bs.drop a))[h + i - a]? = some (cdEnd la (cdEnd la (some 0) ((bs.take h).drop a)) ((bs.drop h).take i)) := by
  rw [cds_at (by rw [List.length_drop]; omega), take_behind h1 (by omega), cdEnd_app]
theorem agr_and (s u : Option Nat) : (s ≠ none ∧ optN s = optN u) ↔ agr s u = true := by
  rcases s with _ | s
  · exact ⟨fun z => absurd rfl z.1, fun z => by cases z⟩
  · rcases u with _ | u
    · exact ⟨fun z => (by have := z.2; cases this), fun z => by cases z⟩
    · refine ⟨fun z => decide_eq_true (Int.ofNat.inj (V.int.inj z.2)), fun z => ⟨fun y => (by cases y), ?_⟩⟩
      have e : s = u := of_decide_eq_true z
      rw [e]
theorem filt_pos {α : Type} {p : α → Bool} {a : α} (h : p a = true) (l : List α) : (l ++ [a]).filter p = l.filter p ++ [a] := by
  rw [List.filter_append, List.filter_cons_of_pos h, List.filter_nil]
theorem filt_neg {α : Type} {p : α → Bool} {a : α} (h : p a = false) (l : List α) : (l ++ [a]).filter p = l.filter p := by
  rw [List.filter_append, List.filter_cons_of_neg (by rw [h]; decide), List.filter_nil, List.append_nil]
end Ov
namespace Ov
open PySem PySem.Spec PyProof.Rows L2
section
variable {P : Program} {w : World} {K : PySem.W.Frag} {mg : Str → Option Value} {base : Heap}
/-! ### _law_agreed -/
def spLAgreed (K : PySem.W.Frag) : Sp := fun vs H Q _ => ∃ (tb ti c : Addr) (cnt lg : Nat) (is : List I4) (rs : List Addr) (bs : List Int) (e o : Nat), vs = [.ref tb, .ref c, .int (e : Int), .int (o : Int)] ∧ Tab H tb cnt lg is ti rs ∧ SqT K H c (bs.map V.int) ∧ bs.length ≤ 100000 ∧ e ≤ bs.length ∧ o ≤ bs.length ∧
  ∀ H', Same H H' → Q (optN (meetF (laOf is) (max e o) (cdEnd (laOf is) (some 0) ((bs.take (max e o)).drop e)) (cdEnd (laOf is) (some 0) ((bs.take (max e o)).drop o)) (bs.drop (max e o)))) H'
theorem scLAgreed : FnScope ["_law_table_here", "_law_code", "_law_one", "_law_other", "_law_first", "_law_second", "_law_offset"] ["_law_table_here", "_law_code", "_law_one", "_law_other"] (defScope s_law_agreed) := ⟨rfl, rfl, rfl, by decide +kernel, rfl, by decide +kernel, by decide +kernel⟩
theorem ok_lAgreed {f fC : Addr} {fd fdC : FuncData} {k : Nat} (F : Fun K "_law_agreed" "_law_agreed" s_law_agreed f fd) (T : Bi mg)
    (Lc : Def K mg "_law_countdowns" sLCds fC fdC ["_law_table_here", "_law_code", "_law_entry"]) (GL : FnOk P w K mg base CX0 k fC fdC ["_law_table_here", "_law_code", "_law_entry"] (spLCds K)) :
    FnOk P w K mg base CX0 (k + 1) f fd ["_law_table_here", "_law_code", "_law_one", "_law_other"] (spLAgreed K) := by
  refine F.ok scLAgreed (fun vs H Q E h => ?_) (fun cdv A' outer s H vs Q E hr h => ?_)
  · obtain ⟨tb, ti, c, cnt, lg, is, rs, bs, e, o, rfl, _⟩ := h
    rfl
  · obtain ⟨tb, ti, c, cnt, lg, is, rs, bs, e, o, rfl, Tb, hc, hb, he, ho, q⟩ := h
    refine ⟨_, pss_cons (ps_par (i := 4) (j := 5) (by rfl) scLAgreed.nd rfl rfl (by decide) rfl rfl (pa_cons (pe_call GL hr (by rfl) Lc.gl Lc.fn.kp Lc.bi .nil pass0 (pa_cons (pv 0) (pa_cons (pv 1) (pa_cons (pv 2) pa_nil)))) (pa_cons (pe_call GL hr (by rfl) Lc.gl Lc.fn.kp Lc.bi .nil pass0 (pa_cons (pv 0) (pa_cons (pv 1) (pa_cons (pv 3) pa_nil)))) pa_nil)) (by rfl))
      (pss_cons (ps_for PassesOwn.never rfl (pi_range2 (by rfl) T.range (pa_cons (pe_callB (call_max2 rfl) (by rfl) T.max (by decide +kernel) (pa_cons (pv 2) (pa_cons (pv 3) pa_nil))) (pa_cons (pe_op op_add (pe_callB call_len_seq (by rfl) T.len PySem.boot_len (pa_cons (pv 1) pa_nil)) pe_int) pa_nil))) (pg_name (i := 6) scLAgreed.nd rfl (.inl rfl))
        (pss_one (ps_if (PW.pt (pw_and (pt_cmpR op_notN (pe_ix ix_list (pv 4) (pe_op op_sub (pv 6) (pv 2)) (fun _ _ => rfl)) pe_non (nomark _)) (pw_and1 (pt_cmpR op_eq (pe_ix ix_list (pv 4) (pe_op op_sub (pv 6) (pv 2)) (fun _ _ => rfl)) (pe_ix ix_list (pv 5) (pe_op op_sub (pv 6) (pv 3)) (fun _ _ => rfl)) (nomark _)))))
          (pss_one (ps_ret (pv 6))) pss_nil)))
      (pss_one (ps_ret pe_non))), ?_⟩
    refine ⟨_, rfl, _, rfl, _, rfl, tb, ti, c, cnt, lg, is, rs, bs, e, rfl, Tb, hc, hb, fun H1 l1 s1 n1 h1 => ?_⟩
    refine ⟨_, rfl, _, rfl, _, rfl, tb, ti, c, cnt, lg, is, rs, bs, o, rfl, Tb.same s1, s1.tup hc, hb, fun H2 l2 s2 n2 h2 => ?_⟩
    have h1' := s2 _ _ h1
    refine ⟨_, _, rfl, _, rfl, _, rfl, _, _, rfl, _, rfl, c, _, rfl, .inr ((s1.trans s2).tup hc), _, _, rfl, rfl, ?_⟩
    have emax : (if (o : Int) > (e : Int) then (o : Int) else (e : Int)) = ((max e o : Nat) : Int) := by
      split <;> omega
    rw [emax, List.length_map]
    have q2 := q H2 (s1.trans s2)
    have hi1 : e ≤ max e o := Nat.le_max_left _ _
    have hi2 : o ≤ max e o := Nat.le_max_right _ _
    have hi3 : max e o ≤ bs.length := by omega
    generalize max e o = hi at *
    have dl : (bs.drop hi).length = bs.length - hi := List.length_drop
    refine ⟨_, _, rfl, ⟨by omega, by omega, by omega, by omega⟩, for_range (lo := (hi : Int)) (fun i σ G => G = H2 ∧ (∃ y6, σ = [some (.ref tb), some (.ref c), some (.int (e : Int)), some (.int (o : Int)), some (.ref l1), some (.ref l2), y6]) ∧ ∀ j < i, agr (cdEnd (laOf is) (cdEnd (laOf is) (some 0) ((bs.take hi).drop e)) ((bs.drop hi).take j)) (cdEnd (laOf is) (cdEnd (laOf is) (some 0) ((bs.take hi).drop o)) ((bs.drop hi).take j)) = false)
      ⟨rfl, ⟨_, rfl⟩, fun j hj => absurd hj (Nat.not_lt_zero j)⟩ ?_ ?_⟩
    · rintro i σ G hi' ⟨rfl, ⟨y6, rfl⟩, no⟩
      have hii : hi + i ≤ bs.length := by omega
      have f1 := cds_behind (la := laOf is) hi1 hii
      have f2 := cds_behind (la := laOf is) hi2 hii
      have a1 : atI ((cds (laOf is) (some 0) (bs.drop e)).map optN) ((hi : Int) + (i : Int) - (e : Int)) = some (optN (cdEnd (laOf is) (cdEnd (laOf is) (some 0) ((bs.take hi).drop e)) ((bs.drop hi).take i))) := by
        rw [show (hi : Int) + (i : Int) - (e : Int) = ((hi + i - e : Nat) : Int) by omega]
        exact atI_nat (by rw [List.getElem?_map, f1]; rfl)
      have a2 : atI ((cds (laOf is) (some 0) (bs.drop o)).map optN) ((hi : Int) + (i : Int) - (o : Int)) = some (optN (cdEnd (laOf is) (cdEnd (laOf is) (some 0) ((bs.take hi).drop o)) ((bs.drop hi).take i))) := by
        rw [show (hi : Int) + (i : Int) - (o : Int) = ((hi + i - o : Nat) : Int) by omega]
        exact atI_nat (by rw [List.getElem?_map, f2]; rfl)
      refine ⟨_, rfl, _, rfl, _, rfl, _, _, rfl, rfl, l1, _, _, _, rfl, rfl, SqL.of h1', a1, rfl, _, rfl, ?_⟩
      have ag := agr_and (cdEnd (laOf is) (cdEnd (laOf is) (some 0) ((bs.take hi).drop e)) ((bs.drop hi).take i)) (cdEnd (laOf is) (cdEnd (laOf is) (some 0) ((bs.take hi).drop o)) ((bs.drop hi).take i))
      have more : agr (cdEnd (laOf is) (cdEnd (laOf is) (some 0) ((bs.take hi).drop e)) ((bs.drop hi).take i)) (cdEnd (laOf is) (cdEnd (laOf is) (some 0) ((bs.take hi).drop o)) ((bs.drop hi).take i)) = false → ∀ j < i + 1, agr (cdEnd (laOf is) (cdEnd (laOf is) (some 0) ((bs.take hi).drop e)) ((bs.drop hi).take j)) (cdEnd (laOf is) (cdEnd (laOf is) (some 0) ((bs.take hi).drop o)) ((bs.drop hi).take j)) = false := fun z j hj => by
        by_cases c : j < i
        · exact no j c
        · obtain rfl : j = i := by omega
          exact z
      have hit := meet_hit (la := laOf is) (bs.drop hi) i hi (cdEnd (laOf is) (some 0) ((bs.take hi).drop e)) (cdEnd (laOf is) (some 0) ((bs.take hi).drop o)) (by omega) no
      generalize cdEnd (laOf is) (cdEnd (laOf is) (some 0) ((bs.take hi).drop e)) ((bs.drop hi).take i) = u1 at *
      generalize cdEnd (laOf is) (cdEnd (laOf is) (some 0) ((bs.take hi).drop o)) ((bs.drop hi).take i) = u2 at *
      rcases u1 with _ | u1
      · exact iteF (iteF ⟨rfl, ⟨_, rfl⟩, more rfl⟩)
      refine iteT ⟨_, rfl, _, rfl, _, rfl, _, _, rfl, rfl, l1, _, _, _, rfl, rfl, SqL.of h1', a1, _, rfl, _, rfl, _, rfl, _, _, rfl, rfl, l2, _, _, _, rfl, rfl, SqL.of h2, a2, ?_⟩
      refine ⟨by cases u2 <;> rfl, _, rfl, ?_⟩
      by_cases g : agr (some u1) u2 = true
      · have ed : decide (optN (some u1) = optN u2) = true := decide_eq_true (ag.mpr g).2
        rw [ed]
        refine iteT ⟨_, rfl, ?_⟩
        rw [hit g] at q2
        have e2 : (hi : Int) + (i : Int) = ((hi + i : Nat) : Int) := by omega
        rw [e2]
        exact q2
      · have ed : decide (optN (some u1) = optN u2) = false := decide_eq_false fun z => g (ag.mp ⟨fun y => (by cases y), z⟩)
        rw [ed]
        exact iteF ⟨rfl, ⟨_, rfl⟩, more (by cases h : agr (some u1) u2 with | false => rfl | true => exact absurd h g)⟩
    · rintro σ G ⟨rfl, ⟨y6, rfl⟩, no⟩
      rw [meet_miss _ _ _ _ (fun j hj => no j (by omega))] at q2
      exact q2
end
end Ov
namespace Ov
open PySem PySem.Spec PyProof.Rows L2
theorem stF_ge {la : Int → Nat} : ∀ (bs : List Int) (k : Nat) (s : Option Nat), ∀ o ∈ stF la k s bs, k ≤ o
  | [], _, _, o, h => nomatch h
  | b :: bs, k, s, o, h => by
    have h' : o ∈ (if s = some 0 ∧ 0 < la b then [k] else []) ++ stF la (k + 1) (cdStep la s b) bs := h
    rcases List.mem_append.mp h' with z | z
    · revert z
      split
      · intro z; rw [List.mem_singleton.mp z]; exact Nat.le_refl _
      · intro z; cases z
    · have := stF_ge bs (k + 1) _ o z
      omega
def within (st sp : Nat) (o : Nat) : Bool := decide (st ≤ o) && decide (o < sp)
/-- the starts from st up to sp are those of this part -/
theorem cnt_part {la : Int → Nat} {bs : List Int} {e st sp : Nat} (h1 : e ≤ st) (h2 : st ≤ sp) (h3 : sp ≤ bs.length) :
    ((stF la 0 (some e) bs).filter (within st sp)).length = (stF la 0 (cdEnd la (some 0) ((bs.take st).drop e)) ((bs.take sp).drop st)).length := by
  rw [st_entry (by omega)]
  have e1 : bs.drop e = (bs.take st).drop e ++ ((bs.take sp).drop st ++ bs.drop sp) := by
    have a : bs.drop st = (bs.take sp).drop st ++ bs.drop sp := by
      conv => lhs; rw [← List.take_append_drop sp bs]
      rw [List.drop_append_of_le_length (by rw [List.length_take]; omega)]
    rw [← a]
    conv => lhs; rw [← List.take_append_drop st bs]
    rw [List.drop_append_of_le_length (by rw [List.length_take]; omega)]
  have l1 : ((bs.take st).drop e).length = st - e := by rw [List.length_drop, List.length_take]; omega
  have l2 : ((bs.take sp).drop st).length = sp - st := by rw [List.length_drop, List.length_take]; omega
  rw [e1, stF_app, stF_app, l1, l2, show e + (st - e) = st by omega, show st + (sp - st) = sp by omega, List.filter_append, List.filter_append, List.length_append, List.length_append]
  have f1 : (stF la e (some 0) ((bs.take st).drop e)).filter (within st sp) = [] := List.filter_eq_nil_iff.mpr fun o ho => by
    have := stF_lt ((bs.take st).drop e) e (some 0) o ho
    rw [l1] at this
    unfold within
    rw [decide_eq_false (show ¬ st ≤ o by omega)]
    simp
  have f2 : (stF la st (cdEnd la (some 0) ((bs.take st).drop e)) ((bs.take sp).drop st)).filter (within st sp) = stF la st (cdEnd la (some 0) ((bs.take st).drop e)) ((bs.take sp).drop st) := List.filter_eq_self.mpr fun o ho => by
    have g1 := stF_lt ((bs.take sp).drop st) st _ o ho
    have g2 := stF_ge ((bs.take sp).drop st) st _ o ho
    rw [l2] at g1
    unfold within
    rw [decide_eq_true g2, decide_eq_true (show o < sp by omega)]
    rfl
  have f3 : ∀ s, (stF la sp s (bs.drop sp)).filter (within st sp) = [] := fun s => List.filter_eq_nil_iff.mpr fun o ho => by
    have := stF_ge (bs.drop sp) sp s o ho
    unfold within
    rw [decide_eq_false (show ¬ o < sp by omega)]
    simp
  rw [f1, f2, f3, stF_shift ((bs.take sp).drop st) st 0]
  simp
/-! ### what is told of a buffer, as data -/
abbrev intsD (bs : List Int) : PyData := .tuple (bs.map PyData.int)
theorem sh_told {os : List (Option Nat)} {bs : List Int} (ho : ∀ n, some n ∈ os → n ≤ 2 ^ 60) (hb : ∀ y ∈ bs, y.natAbs < 2 ^ 1000) (hl : os.length + bs.length ≤ 7000) : Shows (.list (os.map optD ++ [intsD bs])) := by
  obtain ⟨A, h1, h2⟩ := opts_show ho
  have f := flat_ints hb
  refine ⟨?_, fun z => ?_, ?_, ?_⟩
  · simp only [PyData.showable]
    rw [showableAll_app, A.sh]
    simp [PyData.showableAll, PyData.showable, f.sh]
  · simp only [PyData.hasDict] at z
    rw [hasDictAll_app, h1] at z
    simp [PyData.hasDictAll, PyData.hasDict, f.nod] at z
  · simp only [PyData.depth]
    rw [depthAll_app, h2]
    simp [PyData.depthAll, PyData.depth, f.dep]
  · simp only [nodes]
    rw [nodesAll_app]
    have := A.nd
    simp [nodesAll, nodes, f.nds]
    omega
theorem small_bytes {cnt lg : Nat} {is : List I4} (ok : TabOk cnt lg is) {bs : List Int} (h : ∀ y ∈ bs, 0 ≤ y ∧ y < (cnt : Int)) : ∀ y ∈ bs, y.natAbs < 2 ^ 1000 := fun y hy => by
  have := h y hy
  have := ok.cb
  obtain ⟨n, rfl⟩ : ∃ n : Nat, y = (n : Int) := ⟨y.toNat, by omega⟩
  exact small_nat (by omega)
theorem shaped_two {n : Nat} {bs : List Int} (h : n ≤ 2 ^ 60) (hb : ∀ y ∈ bs, y.natAbs < 2 ^ 1000) : SeqAt.shaped (.list [.int (n : Int), intsD bs]) = true := by
  have f := flat_ints hb
  have g := flat_ints (ns := [(n : Int)]) (fun m hm => by rw [List.mem_singleton.mp hm]; exact small_nat h)
  have g1 : PyData.canLay0 (.int (n : Int)) = true := by
    have := g.lay
    simpa [PyData.canLayAll0] using this
  unfold SeqAt.shaped
  simp [PyData.canLay0, PyData.canLayAll0, PyData.depth, PyData.depthAll, f.lay, f.dep] at g1 ⊢
end Ov
namespace Ov
open PySem PySem.Spec PyProof.Rows L2
theorem three_of {ns : List Int} (h : ns.length = 3) : ∃ a b c, ns = [a, b, c] := by
  rcases ns with _ | ⟨a, _ | ⟨b, _ | ⟨c, _ | ⟨d, r⟩⟩⟩⟩
  · simp at h
  · simp at h
  · simp at h
  · exact ⟨a, b, c, rfl⟩
  · simp at h
section
variable {P : Program} {w : World} {K : PySem.W.Frag} {mg : Str → Option Value} {base : Heap}
/-! ### _law_seen -/
def spSeen (K : PySem.W.Frag) (C0 C CB : Addr) : Sp := fun vs H Q _ => ∃ (b tb ti p x ed it c : Addr) (n cnt lg : Nat) (is : List I4) (rs : List Addr) (t : Spn) (es : List Edit), vs = [.ref b, .ref tb, .ref p, .ref c] ∧ BoxAt H b n ∧ n ≤ 2 ^ 37 ∧ b ≠ ed ∧ Tab H tb cnt lg is ti rs ∧ BufAt K C CB (mpOf is) H p x ed t es ∧ Mach C0 H x cnt lg it is rs ∧ SqT K H c (t.bytes.map V.int) ∧ (∀ y ∈ t.bytes, 0 ≤ y ∧ y < (cnt : Int)) ∧
  t.bytes.length ≤ 1000 ∧ ∀ H', But b H H' → BoxAt H' b (n + 20) → Q (.bl true) H'
abbrev nSeen : List Str := ["_law_box_here", "_law_table_here", "_law_buffer", "_law_code", "_law_size", "_law_turn", "_law_some", "_law_entry", "_law_start", "_law_stop", "_law_ways", "_law_heads", "_law_told", "_law_due", "_law_number", "_law_nth", "_law_at"]
theorem scSeen : FnScope nSeen ["_law_box_here", "_law_table_here", "_law_buffer", "_law_code"] (defScope s_law_seen) := ⟨rfl, rfl, rfl, by decide +kernel, rfl, by decide +kernel, by decide +kernel⟩
theorem ok_seen {f fT fLc fLs fAg fLe fCo fCd fCn fA fNt C0 C CB : Addr} {fd fdT fdLc fdLs fdAg fdLe fdCo fdCd fdCn fdA fdNt : FuncData} {k : Nat} (F : Fun K "_law_seen" "_law_seen" s_law_seen f fd) (T : Bi mg) (B : BufTxt K mg CB)
    (Tk : Def K mg "_law_take" sTake fT fdT ["_law_box_here", "_law_many"]) (GT : FnOk P w K mg base CX0 k fT fdT ["_law_box_here", "_law_many"] spTake)
    (Lc : Def K mg "_law_countdowns" sLCds fLc fdLc ["_law_table_here", "_law_code", "_law_entry"]) (GLc : FnOk P w K mg base CX0 k fLc fdLc ["_law_table_here", "_law_code", "_law_entry"] (spLCds K))
    (Ls : Def K mg "_law_starts" sLStarts fLs fdLs ["_law_table_here", "_law_code", "_law_entry"]) (GLs : FnOk P w K mg base CX0 k fLs fdLs ["_law_table_here", "_law_code", "_law_entry"] (spLSts K))
    (Ag : Def K mg "_law_agreed" s_law_agreed fAg fdAg ["_law_table_here", "_law_code", "_law_one", "_law_other"]) (GAg : FnOk P w K mg base CX0 k fAg fdAg ["_law_table_here", "_law_code", "_law_one", "_law_other"] (spLAgreed K))
    (ML : Meth K CB "length" fLe) (bL : Binds K fdLe ["self"] []) (GL : FnOk P w K mg base CX0 k fLe fdLe ["self"] (spBLength K C CB))
    (MC : Meth K CB "code" fCo) (bC : Binds K fdCo ["self", "start", "stop"] []) (GC : FnOk P w K mg base CX0 k fCo fdCo ["self", "start", "stop"] (spBCode K C0 C CB))
    (MD : Meth K CB "countdown" fCd) (bD : Binds K fdCd ["self", "entry", "offset"] []) (GD : FnOk P w K mg base CX0 k fCd fdCd ["self", "entry", "offset"] (spBCdb K C0 C CB))
    (MN : Meth K CB "start_count" fCn) (bN : Binds K fdCn ["self", "entry", "start", "stop"] []) (GN : FnOk P w K mg base CX0 k fCn fdCn ["self", "entry", "start", "stop"] (spBCnt K C0 C CB))
    (MA' : Meth K CB "agreement" fA) (bA : Binds K fdA ["self", "entry", "other"] []) (GA : FnOk P w K mg base CX0 k fA fdA ["self", "entry", "other"] (spBAgr K C0 C CB))
    (MT : Meth K CB "nth_start" fNt) (bT : Binds K fdNt ["self", "entry", "number"] []) (GNt : FnOk P w K mg base CX0 k fNt fdNt ["self", "entry", "number"] (spBNth K C0 C CB)) :
    FnG P w K mg base (k + 1) f fd ["_law_box_here", "_law_table_here", "_law_buffer", "_law_code"] (spSeen K C0 C CB) := by
  refine okG F scSeen (fun vs H Q E h => ?_) (fun cdv A' outer s H vs Q E gd hr h => ?_)
  · obtain ⟨b, tb, ti, p, x, ed, it, c, n, cnt, lg, is, rs, t, es, rfl, _⟩ := h
    rfl
  · obtain ⟨b, tb, ti, p, x, ed, it, c, n, cnt, lg, is, rs, t, es, rfl, Bx, hn, ne, Tb, hB, MA, hc, low, few, q⟩ := h
    refine ⟨_, pss_cons (ps_set (i := 4) scSeen.nd rfl (.inr rfl) (pe_callB call_len_seq (by rfl) T.len PySem.boot_len (pa_cons (pv 3) pa_nil)))
      (pss_cons (ps_if (pt_cmpR (op_neD hr.units) (pe_lst (pa_cons (pe_meth0 (pv 2) B.cl ML GL hr bL .nil pass0) (pa_cons (pe_meth (pv 2) B.cl MC GC hr bC .nil pass0 (pa_cons pe_int (pa_cons (pv 4) pa_nil))) pa_nil))) (pe_lst (pa_cons (pv 4) (pa_cons (pv 3) pa_nil))) (nomark _)) (pss_one (ps_ret pe_bl)) pss_nil)
      (pss_cons (ps_for PassesOwn.never rfl (pi_range1 (by rfl) T.range (pa_cons pe_int pa_nil)) (pg_name (i := 5) scSeen.nd rfl (.inl rfl))
        (pss_cons (ps_set (i := 6) scSeen.nd rfl (.inl rfl) (pe_callB cr_sortedI (by rfl) T.sorted (by decide +kernel) (pa_cons (pe_lc (own := [("_law_nth", 15)]) (g := gName 15) (tt := tYes) (by rfl) scSeen.nd (pi_range1 (by rfl) T.range (pa_cons pe_int pa_nil))
            (blkOk_by (own := [("_law_nth", 15)]) (N := nSeen) (sc := defScope s_law_seen) (by decide +kernel))
            (fun _ _ _ _ _ => pg_name (i := 15) scSeen.nd rfl (Or.inl rfl)) (fun _ _ _ _ _ => pts_nil)
            (fun _ _ _ _ _ => pe_call GT hr (by rfl) Tk.gl Tk.fn.kp Tk.bi .nil pass0 (pa_cons (pv 0) (pa_cons (pe_op op_add (pv 4) pe_int) pa_nil)))) pa_nil)))
        (pss_cons (ps_asg (pv 6) (pg_lst rfl (pgs_cons (pg_name (i := 7) scSeen.nd rfl (.inl rfl)) (pgs_cons (pg_name (i := 8) scSeen.nd rfl (.inr rfl)) (pgs_cons (pg_name (i := 9) scSeen.nd rfl (.inr rfl)) pgs_nil)))))
        (pss_cons (ps_par (i := 10) (j := 11) (by rfl) scSeen.nd rfl rfl (by decide) rfl rfl (pa_cons (pe_call GLc hr (by rfl) Lc.gl Lc.fn.kp Lc.bi .nil pass0 (pa_cons (pv 1) (pa_cons (pv 3) (pa_cons (pv 7) pa_nil)))) (pa_cons (pe_call GLs hr (by rfl) Ls.gl Ls.fn.kp Ls.bi .nil pass0 (pa_cons (pv 1) (pa_cons (pv 3) (pa_cons (pv 7) pa_nil)))) pa_nil)) (by rfl))
        (pss_cons (ps_set (i := 12) scSeen.nd rfl (.inl rfl) (pe_lst (pa_cons (pe_meth (pv 2) B.cl MD GD hr bD .nil pass0 (pa_cons (pv 7) (pa_cons (pv 9) pa_nil))) (pa_cons (pe_meth (pv 2) B.cl MN GN hr bN .nil pass0 (pa_cons (pv 7) (pa_cons (pv 8) (pa_cons (pv 9) pa_nil)))) (pa_cons (pe_meth (pv 2) B.cl MA' GA hr bA .nil pass0 (pa_cons (pv 9) (pa_cons (pv 7) pa_nil))) pa_nil)))))
        (pss_cons (ps_set (i := 13) scSeen.nd rfl (.inl rfl) (pe_lst (pa_cons (pe_ix ix_list (pv 10) (pe_op op_sub (pv 9) (pv 7)) (fun _ _ => rfl)) (pa_cons (pe_callB call_len_seq (by rfl) T.len PySem.boot_len (pa_cons (pe_lc (own := [("_law_at", 16)]) (g := gName 16) (by rfl) scSeen.nd (pi_list (pv 11))
            (blkOk_by (own := [("_law_at", 16)]) (N := nSeen) (sc := defScope s_law_seen) (by decide +kernel))
            (fun _ _ _ _ _ => pg_name (i := 16) scSeen.nd rfl (Or.inl rfl)) (fun _ _ _ _ _ => pts_one (pt_chain op_le op_lt (pv 8) (pv 16) (pv 9))) (fun _ _ _ _ _ => pv 16)) pa_nil)) pa_nil))))
        (pss_cons (ps_set (i := 14) scSeen.nd rfl (.inl rfl) (pe_call GT hr (by rfl) Tk.gl Tk.fn.kp Tk.bi .nil pass0 (pa_cons (pv 0) (pa_cons (pe_op op_add (pe_callB call_len_seq (by rfl) T.len PySem.boot_len (pa_cons (pv 11) pa_nil)) pe_int) pa_nil))))
        (pss_cons (ps_set (i := 12) scSeen.nd rfl (.inl rfl) (pe_op op_cat (pv 12) (pe_lst (pa_cons (pe_meth (pv 2) B.cl MT GNt hr bT .nil pass0 (pa_cons (pv 7) (pa_cons (pv 14) pa_nil))) (pa_cons (pe_meth (pv 2) B.cl MC GC hr bC .nil pass0 (pa_cons (pv 8) (pa_cons (pv 9) pa_nil))) pa_nil)))))
        (C8.pss_cut (ps_set (i := 13) scSeen.nd rfl (.inl rfl) (pe_op op_cat (pv 13) (pe_lst (pa_cons (pe_call GAg hr (by rfl) Ag.gl Ag.fn.kp Ag.bi .nil pass0 (pa_cons (pv 1) (pa_cons (pv 3) (pa_cons (pv 7) (pa_cons (pv 9) pa_nil))))) (pa_cons (pe_ifExp (pt_cmpR op_lt (pv 14) (pe_callB call_len_seq (by rfl) T.len PySem.boot_len (pa_cons (pv 11) pa_nil)) (nomark _)) (pe_ix ix_list (pv 11) (pv 14) (fun _ _ => rfl)) pe_non) pa_nil)))))
        (pss_one (ps_if (pt_cmpR op_ne (pe_callB (call_repr_x gd hr) (by rfl) T.repr (by decide +kernel) (pa_cons (pv 12) pa_nil))
            (pe_callB (call_repr_x gd hr) (by rfl) T.repr (by decide +kernel) (pa_cons (pe_op op_cat (pv 13) (pe_lst (pa_cons (pe_slice sl_tupA (pv 3) (po_some (pv 8)) (po_some (pv 9))) pa_nil))) pa_nil)) (nomark _)) (pss_one (ps_ret pe_bl)) pss_nil)))))))))))
      (pss_one (ps_ret pe_bl)))), ?_⟩
    have sz := Spn.size_eq t
    have Ap := hB.apart Bx ne
    have smb := small_bytes Tb.ok low
    obtain ⟨dx, sn, evs, hp, _⟩ := hB.ob
    have nL := b_no x sn ed (m := "length") (by decide +kernel) (by decide +kernel) (by decide +kernel)
    have nC := b_no x sn ed (m := "code") (by decide +kernel) (by decide +kernel) (by decide +kernel)
    have nD' := b_no x sn ed (m := "countdown") (by decide +kernel) (by decide +kernel) (by decide +kernel)
    have nN := b_no x sn ed (m := "start_count") (by decide +kernel) (by decide +kernel) (by decide +kernel)
    have nA := b_no x sn ed (m := "agreement") (by decide +kernel) (by decide +kernel) (by decide +kernel)
    have nT := b_no x sn ed (m := "nth_start") (by decide +kernel) (by decide +kernel) (by decide +kernel)
    refine ⟨_, rfl, c, _, rfl, .inr hc, ?_⟩
    rw [List.length_map]
    -- all of it
    refine ⟨_, rfl, p, dx, _, rfl, hp, nL, p, x, ed, _, t, es, rfl, hB, ?_⟩
    refine ⟨_, rfl, p, dx, _, rfl, hp, nC, _, rfl, p, x, ed, it, cnt, lg, is, rs, t, es, 0, t.bytes.length, rfl, hB, MA, Nat.zero_le _, by omega, by omega, fun H1 r1 s1 h1 => ?_⟩
    rw [List.take_length, List.drop_zero] at h1
    refine ⟨by show 2 ≤ sizeLine; decide, fun l1 nl1 => ?_⟩
    have s2 := same_upd (o := HO.lst [V.int (t.size : Int), V.ref r1]) nl1
    have g1 := @upd_same H1 l1 (HO.lst [V.int (t.size : Int), V.ref r1])
    have h1' := s2 _ _ h1
    have hc2 := (s1.trans s2).tup hc
    have s02 := s1.trans s2
    generalize upd H1 l1 (HO.lst [V.int (t.size : Int), V.ref r1]) = H2 at *
    refine ⟨_, rfl, _, rfl, by show 2 ≤ sizeLine; decide, fun l2 nl2 => ?_⟩
    have s3 := same_upd (o := HO.lst [V.int (t.bytes.length : Int), V.ref c]) nl2
    have g2 := @upd_same H2 l2 (HO.lst [V.int (t.bytes.length : Int), V.ref c])
    have g1' := s3 _ _ g1
    have h1'' := s3 _ _ h1'
    have hc3 := s3.tup hc2
    have s03 := s02.trans s3
    generalize upd H2 l2 (HO.lst [V.int (t.bytes.length : Int), V.ref c]) = H3 at *
    have shp := shaped_two (n := t.bytes.length) (by omega) smb
    refine ⟨_, _, .lst (SqL.of g1') (.cons (.int _) (.cons (.tup (SqT.of h1'') (dp_ints _)) .nil)), .lst (SqL.of g2) (.cons (.int _) (.cons (.tup hc3 (dp_ints _)) .nil)), by rw [sz]; exact shp, shp, _, rfl, ?_⟩
    rw [show PyData.eqv (.list [.int (t.size : Int), .tuple (t.bytes.map PyData.int)]) (.list [.int (t.bytes.length : Int), .tuple (t.bytes.map PyData.int)]) = true from by rw [sz]; exact SeqAt.eqv_refl _ (SeqAt.canLay_of_shaped shp)]
    refine iteF ?_
    -- five turns
    refine ⟨5, rfl, by decide, by decide, for_range (lo := 0) (n := 5) (fun i σ G => (∃ y5 y6 y7 y8 y9 y10 y11 y12 y13 y14 y15 y16, σ = [some (.ref b), some (.ref tb), some (.ref p), some (.ref c), some (.int (t.bytes.length : Int)), y5, y6, y7, y8, y9, y10, y11, y12, y13, y14, y15, y16]) ∧ But b H G ∧ BoxAt G b (n + 4 * i))
      ⟨⟨_, _, _, _, _, _, _, _, _, _, _, _, rfl⟩, But.of s03, Bx.same s03⟩ ?_ (fun σ G ⟨⟨_, _, _, _, _, _, _, _, _, _, _, _, e⟩, bG, BG⟩ => by subst e; exact q G bG BG)⟩
    rintro i σ G hi ⟨⟨y5, y6, y7, y8, y9, y10, y11, y12, y13, y14, y15, y16, rfl⟩, bG, BG⟩
    have TG := Tb.but bG Bx
    have hBG := hB.butB bG Bx ne
    have MG := MA.but bG Bx
    have hcG := SqT.but3 (.of1 bG) Ap hc
    clear g1 g2 g1' h1 h1' h1'' hc2 hc3 s1 s2 s3 s02 s03 nl1 nl2 shp
    -- three offsets
    refine ⟨3, rfl, by decide, by decide, fun D nD => lc_range (lo := 0) (n := 3) (fun j G1 => ∃ ns : List Int, ns.length = j ∧ (∀ y ∈ ns, 0 ≤ y ∧ y ≤ (t.bytes.length : Int)) ∧ But b G G1 ∧ BoxAt G1 b (n + 4 * i + j) ∧ G1 D = some (.lst (ns.map V.int))) ⟨[], rfl, (fun _ h => nomatch h), But.of (same_upd nD), BG.same (same_upd nD), upd_same⟩ ?_ ?_⟩
    · rintro j G1 hj ⟨ns, nl, nb, b1, B1, hD⟩
      have hDb : D ≠ b := fun z => BG.ne (z ▸ nD)
      refine ⟨rfl, _, rfl, _, rfl, _, _, rfl, rfl, b, _, n + 4 * i + j, rfl, B1, by omega, by omega, by omega, fun G2 d b2 B2 d0 d1 f2 => ?_⟩
      refine ⟨_, b2 _ _ hD hDb, by rw [List.length_map, nl, sizeLine_eq]; omega, ns ++ [d], by rw [List.length_append, nl]; rfl, fun y hy => ?_, fun a o ea na => ?_, ?_, ?_⟩
      · rcases List.mem_append.mp hy with hy | hy
        · exact nb y hy
        · rw [List.mem_singleton.mp hy]; omega
      · rw [upd_ne (ne_of_none ea nD)]
        exact b2 _ _ (b1 _ _ ea na) na
      · obtain ⟨z1, z2, z3, ez, r⟩ := B2
        exact ⟨z1, z2, z3, by rw [upd_ne (Ne.symm hDb)]; exact ez, by omega⟩
      · rw [upd_same, List.map_append]; rfl
    rintro G1 ⟨ns, nl, nb, b1, B1, hD⟩
    refine ⟨D, ns, rfl, SqL.of hD, fun ns' sp1 perm srt nsp => ?_⟩
    have s2 := same_upd (o := HO.lst (ns'.map V.int)) nsp
    have hsp := @upd_same G1 sp1 (HO.lst (ns'.map V.int))
    have b2 : But b H (upd G1 sp1 (HO.lst (ns'.map V.int))) := bG.trans (b1.trans (But.of s2))
    have B2 := B1.same s2
    have bb2 : But b G (upd G1 sp1 (HO.lst (ns'.map V.int))) := b1.trans (But.of s2)
    generalize upd G1 sp1 (HO.lst (ns'.map V.int)) = G2 at *
    obtain ⟨e', st', sp', rfl⟩ := three_of (perm.length_eq.trans nl)
    have mem : ∀ y ∈ [e', st', sp'], 0 ≤ y ∧ y ≤ (t.bytes.length : Int) := fun y hy => nb y (perm.mem_iff.mp hy)
    obtain ⟨e, rfl⟩ : ∃ e : Nat, e' = (e : Int) := ⟨e'.toNat, by have := (mem e' (by simp)).1; omega⟩
    obtain ⟨st, rfl⟩ : ∃ e : Nat, st' = (e : Int) := ⟨st'.toNat, by have := (mem st' (by simp)).1; omega⟩
    obtain ⟨sp, rfl⟩ : ∃ e : Nat, sp' = (e : Int) := ⟨sp'.toNat, by have := (mem sp' (by simp)).1; omega⟩
    have o1 : e ≤ st := by
      have := (List.pairwise_cons.mp srt).1 (st : Int) (by simp)
      omega
    have o2 : st ≤ sp := by
      have := (List.pairwise_cons.mp (List.pairwise_cons.mp srt).2).1 (sp : Int) (by simp)
      omega
    have o3 : sp ≤ t.bytes.length := by
      have := (mem (sp : Int) (by simp)).2
      omega
    have T2 := TG.but bb2 BG
    have hB2 := hBG.butB bb2 BG ne
    have M2 := MG.but bb2 BG
    have hc2 := SqT.but3 (.of1 bb2) (hBG.apart BG ne) hcG
    clear nb perm srt mem hD b1 B1 hBG MG hcG TG s2 bb2 nsp nD
    refine ⟨_, rfl, sp1, _, rfl, SqL.of hsp, rfl, _, _, rfl, _, _, rfl, _, _, rfl, rfl, ?_⟩
    -- by plain decoding
    refine ⟨_, rfl, _, rfl, _, rfl, tb, ti, c, cnt, lg, is, rs, t.bytes, e, rfl, T2, hc2, by omega, fun G3 lw s3 nlw hlw => ?_⟩
    refine ⟨_, rfl, _, rfl, _, rfl, tb, ti, c, cnt, lg, is, rs, t.bytes, e, rfl, T2.same s3, s3.tup hc2, by omega, by omega, fun G4 lh s4 nlh hlh => ?_⟩
    refine ⟨_, _, rfl, ?_⟩
    have s24 := s3.trans s4
    have hlw4 := s4 _ _ hlw
    obtain ⟨dx2, sn2, evs2, hp2, _⟩ := hB2.ob
    have nD2 := b_no x sn2 ed (m := "countdown") (by decide +kernel) (by decide +kernel) (by decide +kernel)
    have nN2 := b_no x sn2 ed (m := "start_count") (by decide +kernel) (by decide +kernel) (by decide +kernel)
    have nA2 := b_no x sn2 ed (m := "agreement") (by decide +kernel) (by decide +kernel) (by decide +kernel)
    have nT2 := b_no x sn2 ed (m := "nth_start") (by decide +kernel) (by decide +kernel) (by decide +kernel)
    have nC2 := b_no x sn2 ed (m := "code") (by decide +kernel) (by decide +kernel) (by decide +kernel)
    -- what the buffer says
    refine ⟨_, rfl, p, dx2, _, rfl, s24 _ _ hp2, nD2, _, rfl, _, rfl, p, x, ed, it, cnt, lg, is, rs, t, es, e, sp, rfl, hB2.same s24, M2.same s24, by omega, by omega, fun G5 s5 => ?_⟩
    have s25 := s24.trans s5
    refine ⟨_, rfl, p, dx2, _, rfl, s25 _ _ hp2, nN2, _, rfl, _, rfl, _, rfl, p, x, ed, it, cnt, lg, is, rs, t, es, e, st, sp, rfl, hB2.same s25, M2.same s25, o1, o2, by omega, fun G6 s6 => ?_⟩
    have s26 := s25.trans s6
    refine ⟨_, rfl, p, dx2, _, rfl, s26 _ _ hp2, nA2, _, rfl, _, rfl, p, x, ed, it, cnt, lg, is, rs, t, es, sp, e, rfl, hB2.same s26, M2.same s26, by omega, by omega, fun G7 s7 => ?_⟩
    have s27 := s26.trans s7
    rw [Nat.max_eq_left (show e ≤ sp by omega), Nat.min_eq_right (show e ≤ sp by omega)]
    refine ⟨by show 3 ≤ sizeLine; decide, fun l8 nl8 => ?_⟩
    have pcd := cdEnd_le (la := laOf is) (m := 12) (la_le T2.ok) ((t.bytes.take sp).drop e) (some 0) (fun j ej => by have := Option.some.inj ej; omega)
    have pct : (stF (laOf is) 0 (cdEnd (laOf is) (some 0) ((t.bytes.take st).drop e)) ((t.bytes.take sp).drop st)).length ≤ 1000 := Nat.le_trans (stF_len _ _ _) (by rw [List.length_drop, List.length_take]; omega)
    have pag := meet_lt (la := laOf is) (t.bytes.drop sp) sp (cdEnd (laOf is) (some 0) ((t.bytes.take sp).drop e)) (some 0)
    have ecn := cnt_part (la := laOf is) o1 o2 o3
    have ewy : (cds (laOf is) (some 0) (t.bytes.drop e))[sp - e]? = some (cdEnd (laOf is) (some 0) ((t.bytes.take sp).drop e)) := by
      rw [cds_at (by rw [List.length_drop]; omega), List.drop_take]
    have eag : meetF (laOf is) (max e sp) (cdEnd (laOf is) (some 0) ((t.bytes.take (max e sp)).drop e)) (cdEnd (laOf is) (some 0) ((t.bytes.take (max e sp)).drop sp)) (t.bytes.drop (max e sp)) = meetF (laOf is) sp (cdEnd (laOf is) (some 0) ((t.bytes.take sp).drop e)) (some 0) (t.bytes.drop sp) := by
      rw [Nat.max_eq_right (show e ≤ sp by omega), List.drop_eq_nil_of_le (show (t.bytes.take sp).length ≤ sp by rw [List.length_take]; omega)]
      rfl
    generalize cdEnd (laOf is) (some 0) ((t.bytes.take sp).drop e) = vcd at *
    generalize (stF (laOf is) 0 (cdEnd (laOf is) (some 0) ((t.bytes.take st).drop e)) ((t.bytes.take sp).drop st)).length = vct at *
    generalize meetF (laOf is) sp vcd (some 0) (t.bytes.drop sp) = vag at *
    have s8 := same_upd (o := HO.lst [optN vcd, natV vct, optN vag]) nl8
    have h8 := @upd_same G7 l8 (HO.lst [optN vcd, natV vct, optN vag])
    have s28 := s27.trans s8
    have s78 := (s5.trans (s6.trans s7)).trans s8
    have l8b : l8 ≠ b := fun z => B2.ne (by rw [← z]; exact s27.free nl8)
    have lhb : lh ≠ b := fun z => B2.ne (by rw [← z]; exact s3.free nlh)
    generalize upd G7 l8 (HO.lst [optN vcd, natV vct, optN vag]) = G8 at *
    have hlw8 := s78 _ _ hlw4
    have hlh8 := s78 _ _ hlh
    -- what plain decoding says
    have aw : atI ((cds (laOf is) (some 0) (t.bytes.drop e)).map optN) ((sp : Int) - (e : Int)) = some (optN vcd) := by
      rw [show (sp : Int) - (e : Int) = ((sp - e : Nat) : Int) by omega]
      exact atI_nat (by rw [List.getElem?_map, ewy]; rfl)
    refine ⟨_, rfl, _, rfl, _, rfl, _, _, rfl, rfl, lw, _, _, _, rfl, rfl, SqL.of hlw8, aw, ?_⟩
    have hsl : (stF (laOf is) 0 (some e) t.bytes).length ≤ 1000 := Nat.le_trans (stF_len t.bytes 0 (some e)) few
    have hso : ∀ o ∈ stF (laOf is) 0 (some e) t.bytes, o ≤ 2 ^ 60 := fun o ho => by have := stF_lt t.bytes 0 (some e) o ho; omega
    have enth : ∀ m : Nat, (stF (laOf is) e (some 0) (t.bytes.drop e))[m]? = (stF (laOf is) 0 (some e) t.bytes)[m]? := fun m => by rw [st_entry (by omega)]
    generalize stF (laOf is) 0 (some e) t.bytes = hs at *
    refine ⟨_, rfl, lh, rfl, ⟨_, SqL.of hlh8⟩, fun D9 nD9 => lc_list (K := K) (a := lh) (xs := hs.map natV) (fun j G9 => Mk G8 G9 D9 (((hs.take j).filter (within st sp)).map natV)) (.start nD9) (fun j G9 _ mk => SqL.of (mk.same _ _ hlh8)) ?_ ?_⟩
    · intro j v G9 hv mk
      rw [List.getElem?_map] at hv
      obtain ⟨o, ho, rfl⟩ := Option.map_eq_some_iff.mp hv
      have hj := (List.getElem?_eq_some_iff.mp ho).1
      rw [take_more ho, List.filter_append]
      refine ⟨rfl, _, rfl, _, rfl, _, _, rfl, rfl, _, rfl, ?_⟩
      by_cases c1 : (st : Int) ≤ (o : Int)
      · rw [decide_eq_true c1]
        refine iteT ⟨_, rfl, _, _, rfl, rfl, _, rfl, ?_⟩
        by_cases c2 : (o : Int) < (sp : Int)
        · rw [decide_eq_true c2]
          have wi : within st sp o = true := by unfold within; rw [decide_eq_true (show st ≤ o by omega), decide_eq_true (show o < sp by omega)]; rfl
          refine iteT ⟨_, rfl, _, mk.at_, ?_, ?_⟩
          · rw [List.length_map]
            have := List.length_filter_le (within st sp) (hs.take j)
            rw [List.length_take] at this
            rw [sizeLine_eq]; omega
          · rw [List.filter_cons_of_pos wi, List.filter_nil, List.map_append]
            exact mk.put (Same.refl _)
        · rw [decide_eq_false c2]
          have wi : ¬ within st sp o = true := by unfold within; rw [decide_eq_false (show ¬ o < sp by omega)]; simp
          refine iteF ?_
          rw [List.filter_cons_of_neg wi, List.filter_nil, List.append_nil]
          exact mk
      · rw [decide_eq_false c1]
        have wi : ¬ within st sp o = true := by unfold within; rw [decide_eq_false (show ¬ st ≤ o by omega)]; simp
        refine iteF ⟨_, rfl, iteF ?_⟩
        rw [List.filter_cons_of_neg wi, List.filter_nil, List.append_nil]
        exact mk
    intro G9 mk
    rw [List.length_map, List.take_length] at mk
    refine ⟨D9, _, rfl, .inl (SqL.of mk.at_), ?_⟩
    rw [List.length_map, ecn]
    refine ⟨by show 2 ≤ sizeLine; decide, fun l10 nl10 => ?_⟩
    have s9 := mk.same
    have s10 := same_upd (o := HO.lst [optN vcd, V.int (vct : Int)]) nl10
    have h10 := @upd_same G9 l10 (HO.lst [optN vcd, V.int (vct : Int)])
    have l10b : l10 ≠ b := fun z => B2.ne (by rw [← z]; exact (s28.trans s9).free nl10)
    have s2a := s28.trans (s9.trans s10)
    have h8a := s10 _ _ (s9 _ _ h8)
    have hlha := s10 _ _ (s9 _ _ hlh8)
    generalize upd G9 l10 (HO.lst [optN vcd, V.int (vct : Int)]) = Ga at *
    have Ba := B2.same s2a
    have ba : But b H Ga := b2.trans (But.of s2a)
    clear mk s9 s10 h8 s28 s78 hlw8 hlh8 s3 s4 s5 s6 s7 s8 s24 s25 s26 s27 hlw hlw4 hlh nl8 nl10 nlw nlh nD9 aw hsp
    -- a number
    refine ⟨_, rfl, _, rfl, lh, _, rfl, .inl (SqL.of hlha), _, _, rfl, rfl, b, _, _, rfl, Ba, by omega, by rw [List.length_map]; omega, by rw [List.length_map]; omega, fun Gb m' bb Bb m0 m1 fb => ?_⟩
    obtain ⟨m, rfl⟩ : ∃ m : Nat, m' = (m : Int) := ⟨m'.toNat, by omega⟩
    have h8b := bb _ _ h8a l8b
    have h10b := bb _ _ h10 l10b
    have hlhb := bb _ _ hlha lhb
    have bb2 : But b H Gb := ba.trans bb
    have Tc := Tb.but bb2 Bx
    have hBc := hB.butB bb2 Bx ne
    have Mc := MA.but bb2 Bx
    have hcc := SqT.but3 (.of1 bb2) Ap hc
    have bfin : ∀ Gz, Same Gb Gz → BoxAt Gz b (n + 4 * (i + 1)) := fun Gz s => (Bb.same s).mono (by omega)
    clear h8a h10 hlha Ba ba bb B2 b2 s2a hB2 M2 T2 hc2 l8b l10b lhb fb
    obtain ⟨dx3, sn3, evs3, hp3, _⟩ := hBc.ob
    have nT3 := b_no x sn3 ed (m := "nth_start") (by decide +kernel) (by decide +kernel) (by decide +kernel)
    have nC3 := b_no x sn3 ed (m := "code") (by decide +kernel) (by decide +kernel) (by decide +kernel)
    refine ⟨_, rfl, _, rfl, p, dx3, _, rfl, hp3, nT3, _, rfl, _, rfl, p, x, ed, it, cnt, lg, is, rs, t, es, e, m, rfl, hBc, Mc, by omega, fun Gc sc => ?_⟩
    refine ⟨_, rfl, p, dx3, _, rfl, sc _ _ hp3, nC3, _, rfl, _, rfl, p, x, ed, it, cnt, lg, is, rs, t, es, st, sp, rfl, hBc.same sc, Mc.same sc, o2, by omega, by omega, fun Gd rd sd hrd => ?_⟩
    rw [enth m]
    have pnt : ∀ o, hs[m]? = some o → o ≤ 2 ^ 60 := fun o ho => hso o (List.mem_of_getElem? ho)
    refine ⟨by show 2 ≤ sizeLine; decide, fun le nle => ?_⟩
    have se := same_upd (o := HO.lst [optN hs[m]?, V.ref rd]) nle
    have hle := @upd_same Gd le (HO.lst [optN hs[m]?, V.ref rd])
    have scd := sc.trans sd
    have h8e := se _ _ (scd _ _ h8b)
    refine ⟨l8, le, _, _, rfl, rfl, h8e, hle, by show 3 + 2 ≤ sizeLine; decide, fun lf nlf => ?_⟩
    have sf := same_upd (o := HO.lst ([optN vcd, natV vct, optN vag] ++ [optN hs[m]?, V.ref rd])) nlf
    have hlf := @upd_same (upd Gd le (HO.lst [optN hs[m]?, V.ref rd])) lf (HO.lst ([optN vcd, natV vct, optN vag] ++ [optN hs[m]?, V.ref rd]))
    have sbf := scd.trans (se.trans sf)
    have hrdf := sf _ _ (se _ _ hrd)
    generalize upd (upd Gd le (HO.lst [optN hs[m]?, V.ref rd])) lf (HO.lst ([optN vcd, natV vct, optN vag] ++ [optN hs[m]?, V.ref rd])) = Gf at *
    clear hle h8e se sf nle nlf hrd sc sd scd
    -- the due
    refine ⟨fun σ Gk => ∃ lk, σ = [some (.ref b), some (.ref tb), some (.ref p), some (.ref c), some (.int (t.bytes.length : Int)), some (.int (0 + (i : Int))), some (.ref sp1), some (.int (e : Int)), some (.int (st : Int)), some (.int (sp : Int)), some (.ref lw), some (.ref lh), some (.ref lf), some (.ref lk), some (.int (m : Int)), y15, y16] ∧ Same Gf Gk ∧ Gk lk = some (.lst ([optN vcd, V.int (vct : Int)] ++ [optN vag, optN hs[m]?])), ?_, ?_⟩
    · refine ⟨_, rfl, _, rfl, _, rfl, _, rfl, _, rfl, tb, ti, c, cnt, lg, is, rs, t.bytes, e, sp, rfl, Tc.same sbf, sbf.tup hcc, by omega, by omega, o3, fun Gg sg => ?_⟩
      rw [eag]
      have hlhg := sg _ _ (sbf _ _ hlhb)
      have h10g := sg _ _ (sbf _ _ h10b)
      refine ⟨_, rfl, _, rfl, lh, _, rfl, .inl (SqL.of hlhg), _, _, rfl, rfl, _, rfl, ?_⟩
      rw [List.length_map]
      have go : ∀ (v : V) (lj lk : Addr), v = optN hs[m]? → Gg lj = none → (upd Gg lj (HO.lst [optN vag, v])) lk = none → Same Gf (upd (upd Gg lj (HO.lst [optN vag, v])) lk (HO.lst ([optN vcd, V.int (vct : Int)] ++ [optN vag, v]))) ∧ (upd (upd Gg lj (HO.lst [optN vag, v])) lk (HO.lst ([optN vcd, V.int (vct : Int)] ++ [optN vag, v]))) lk = some (.lst ([optN vcd, V.int (vct : Int)] ++ [optN vag, optN hs[m]?])) := by
        rintro v lj lk rfl nlj nlk
        exact ⟨sg.trans ((same_upd nlj).trans (same_upd nlk)), upd_same⟩
      by_cases g : (m : Int) < ((hs.length : Nat) : Int)
      · rw [decide_eq_true g]
        have ex : hs[m]? = some (hs[m]'(by omega)) := List.getElem?_eq_getElem _
        refine iteT ⟨_, rfl, _, rfl, lh, _, _, natV (hs[m]'(by omega)), rfl, rfl, SqL.of hlhg, atI_nat (by rw [List.getElem?_map, ex]; rfl), ?_⟩
        refine ⟨by show 2 ≤ sizeLine; decide, fun lj nlj => ⟨l10, lj, _, _, rfl, rfl, same_upd nlj _ _ h10g, upd_same, by show 2 + 2 ≤ sizeLine; decide, fun lk nlk => ⟨lk, rfl, go _ lj lk (by rw [ex]; rfl) nlj nlk⟩⟩⟩
      · rw [decide_eq_false g]
        have ex : hs[m]? = none := List.getElem?_eq_none (by omega)
        refine iteF ⟨by show 2 ≤ sizeLine; decide, fun lj nlj => ⟨l10, lj, _, _, rfl, rfl, same_upd nlj _ _ h10g, upd_same, by show 2 + 2 ≤ sizeLine; decide, fun lk nlk => ⟨lk, rfl, go _ lj lk (by rw [ex]; rfl) nlj nlk⟩⟩⟩
    rintro σ Gk ⟨lk, rfl, sgk, hlk⟩
    have hb2 : ∀ y ∈ (t.bytes.take sp).drop st, y.natAbs < 2 ^ 1000 := fun y hy => smb y (List.mem_of_mem_take (List.mem_of_mem_drop hy))
    have sh := sh_told (os := [vcd, some vct, vag, hs[m]?]) (bs := (t.bytes.take sp).drop st) (fun z hz => by
      simp only [List.mem_cons, List.not_mem_nil, or_false] at hz
      rcases hz with hz | hz | hz | hz
      · have := pcd z hz.symm; omega
      · have := Option.some.inj hz; omega
      · have := pag z hz.symm
        rw [List.length_drop] at this; omega
      · exact pnt z hz.symm) hb2 (by rw [List.length_drop, List.length_take]; show 4 + _ ≤ 7000; omega)
    have D1 : Dx K Gk (.ref lf) (.list ([vcd, some vct, vag, hs[m]?].map optD ++ [intsD ((t.bytes.take sp).drop st)])) := .lst (SqL.of (sgk _ _ hlf)) (.cons (dx_opt _) (.cons (.int _) (.cons (dx_opt _) (.cons (dx_opt _) (.cons (.tup (SqT.of (sgk _ _ hrdf)) (dx_ints _)) .nil)))))
    refine ⟨_, rfl, _, _, rfl, D1, sh, ?_⟩
    refine ⟨_, rfl, _, rfl, _, rfl, _, rfl, _, rfl, _, rfl, cut_x (Same.refl Gk) ((sbf.trans sgk).tup hcc) fun cz Gm Tm gm Sm => ?_⟩
    rw [cut_mid o2 (by rw [List.length_map]; exact o3), ← List.map_take, ← List.map_drop] at Sm
    refine ⟨by show 1 ≤ sizeLine; decide, fun ln nln => ?_⟩
    have sn4 := same_upd (o := HO.lst [V.ref cz]) nln
    have hln := @upd_same Gm ln (HO.lst [V.ref cz])
    have Sn := sn4.tup (gm.th.tup Sm)
    have hlkn := sn4 _ _ (gm.hh _ _ hlk)
    refine ⟨lk, ln, _, _, rfl, rfl, hlkn, hln, by show 4 + 1 ≤ sizeLine; decide, fun lo nlo => ?_⟩
    have so := same_upd (o := HO.lst (([optN vcd, V.int (vct : Int)] ++ [optN vag, optN hs[m]?]) ++ [V.ref cz])) nlo
    have D2 : Dx K (upd (upd Gm ln (HO.lst [V.ref cz])) lo (HO.lst (([optN vcd, V.int (vct : Int)] ++ [optN vag, optN hs[m]?]) ++ [V.ref cz]))) (.ref lo) (.list ([vcd, some vct, vag, hs[m]?].map optD ++ [intsD ((t.bytes.take sp).drop st)])) := .lst (SqL.of upd_same) (.cons (dx_opt _) (.cons (.int _) (.cons (dx_opt _) (.cons (dx_opt _) (.cons (.tup (so.tup Sn) (dx_ints _)) .nil)))))
    refine ⟨_, _, rfl, D2, sh, rfl, _, rfl, ?_⟩
    rw [decide_eq_true rfl]
    have sz4 := sgk.trans (gm.hh.trans (sn4.trans so))
    exact iteF ⟨⟨_, _, _, _, _, _, _, _, _, _, _, _, rfl⟩, bb2.trans (But.of (sbf.trans sz4)), bfin _ (sbf.trans sz4)⟩
end
end Ov
namespace Ov
open PySem PySem.Spec PyProof.Rows L2
/-! ### what is shown of decoded instructions -/
structure Plain (d : PyData) (k n : Nat) : Prop where
  sh : d.showable = true
  nod : d.hasDict = false
  dep : d.depth ≤ k
  nd : nodes d ≤ n
structure Plains (ds : List PyData) (k n : Nat) : Prop where
  sh : PyData.showableAll ds = true
  nod : PyData.hasDictAll ds = false
  dep : PyData.depthAll ds ≤ k
  nd : nodesAll ds ≤ n
theorem Plains.nil (k : Nat) : Plains [] k 0 := ⟨by simp [PyData.showableAll], by simp [PyData.hasDictAll], by simp [PyData.depthAll], by simp [nodesAll]⟩
theorem Plains.cons {d : PyData} {ds : List PyData} {k n m : Nat} (a : Plain d k n) (b : Plains ds k m) : Plains (d :: ds) k (n + m) :=
  ⟨by simp only [PyData.showableAll]; rw [a.sh, b.sh]; rfl, by simp only [PyData.hasDictAll]; rw [a.nod, b.nod]; rfl, by simp only [PyData.depthAll]; exact Nat.max_le.mpr ⟨a.dep, b.dep⟩, by simp only [nodesAll]; have := a.nd; have := b.nd; omega⟩
theorem Plains.of {k n : Nat} : ∀ {ds : List PyData}, (∀ d ∈ ds, Plain d k n) → Plains ds k (n * ds.length)
  | [], _ => Plains.nil k
  | d :: ds, h => by
    have z := (h d List.mem_cons_self).nd
    have r := Plains.cons (h d List.mem_cons_self) (Plains.of (ds := ds) fun x hx => h x (List.mem_cons_of_mem _ hx))
    rw [List.length_cons, Nat.mul_succ, Nat.add_comm]
    exact r
theorem Plains.tup {ds : List PyData} {k n : Nat} (h : Plains ds k n) : Plain (.tuple ds) (k + 1) (1 + n) :=
  ⟨by simp only [PyData.showable]; exact h.sh, by simp only [PyData.hasDict]; exact h.nod, by simp only [PyData.depth]; have := h.dep; omega, by simp only [nodes]; have := h.nd; omega⟩
theorem Plain.mono {d : PyData} {k n k' n' : Nat} (h : Plain d k n) (a : k ≤ k') (b : n ≤ n') : Plain d k' n' := ⟨h.sh, h.nod, Nat.le_trans h.dep a, Nat.le_trans h.nd b⟩
theorem Plain.shows {d : PyData} {k n : Nat} (h : Plain d k n) (hk : k ≤ 50) (hn : n ≤ 8000) : Shows d := ⟨h.sh, (fun z => by rw [h.nod] at z; cases z), Nat.le_trans h.dep (by omega), Nat.le_trans h.nd hn⟩
theorem plain_int {i : Int} (h : i.natAbs < 2 ^ 60) (k : Nat) : Plain (.int i) k 1 := by
  have S := shows_int (i := i) (Nat.lt_of_lt_of_le h (Nat.pow_le_pow_right (by decide) (by decide)))
  exact ⟨S.sh, by simp [PyData.hasDict], by simp [PyData.depth], by simp [nodes]⟩
theorem plain_str {x : Str} (h : (reprText x).length ≤ 100) (k : Nat) : Plain (.str x) k 101 := ⟨by simp [PyData.showable], by simp [PyData.hasDict], by simp [PyData.depth], by simp only [nodes]; omega⟩
theorem Plains.lst {ds : List PyData} {k n : Nat} (h : Plains ds k n) : Plain (.list ds) (k + 1) (1 + n) :=
  ⟨by simp only [PyData.showable]; exact h.sh, by simp only [PyData.hasDict]; exact h.nod, by simp only [PyData.depth]; have := h.dep; omega, by simp only [nodes]; have := h.nd; omega⟩
theorem plain_bool (b : Bool) (k : Nat) : Plain (.bool b) k 1 := ⟨by simp [PyData.showable], by simp [PyData.hasDict], by simp [PyData.depth], by simp [nodes]⟩
theorem plain_none (k : Nat) : Plain .none k 1 := ⟨by simp [PyData.showable], by simp [PyData.hasDict], by simp [PyData.depth], by simp [nodes]⟩
theorem plain_nat {n : Nat} (h : n < 2 ^ 60) (k : Nat) : Plain (.int (n : Int)) k 1 := plain_int (by omega) k
theorem plain_opt {o : Option Nat} (h : ∀ n, o = some n → n < 2 ^ 60) (k : Nat) : Plain (optD o) k 1 := by
  cases o with
  | none => exact plain_none k
  | some n => exact plain_nat (h n rfl) k
theorem plain_ints {bs : List Int} (h : ∀ y ∈ bs, y.natAbs < 2 ^ 60) (k : Nat) : Plain (intsD bs) (k + 1) (1 + bs.length) := by
  have p := (Plains.of (k := k) (n := 1) (ds := bs.map PyData.int) fun d hd => by
    obtain ⟨y, hy, rfl⟩ := List.mem_map.mp hd
    exact plain_int (h y hy) k).tup
  rw [List.length_map, Nat.one_mul] at p
  exact p
end Ov
namespace Ov
open PySem PySem.Spec PyProof.Rows L2
/-! ### _law_all_of -/
def allD (la : Int → Nat) (bs : List Int) (a b c : Nat) : List PyData :=
  [.int (bs.length : Int), intsD (bs.take c), optD (cdEnd la (some 0) ((bs.take b).drop a)), optD (cdEnd la (some 0) ((bs.take c).drop a)), .int ((stF la 0 (cdEnd la (some 0) ((bs.take b).drop a)) ((bs.take c).drop b)).length : Int), optD ((stF la b (some 0) (bs.drop b))[1]?), optD ((stF la a (some 0) (bs.drop a))[c]?),
   optD (meetF la c (cdEnd la (some 0) ((bs.take c).drop a)) (some 0) (bs.drop c)), optD (meetF la b (cdEnd la (some 0) ((bs.take b).drop a)) (some 0) (bs.drop b))]
theorem all_plain {cnt lg : Nat} {is : List I4} (ok : TabOk cnt lg is) {bs : List Int} {a b c : Nat} (low : ∀ y ∈ bs, 0 ≤ y ∧ y < (cnt : Int)) (hl : bs.length ≤ 1000) (ab : a ≤ b) (bc : b ≤ c) (cl : c ≤ bs.length) : Shows (.list (allD (laOf is) bs a b c)) := by
  have cb := ok.cb
  have hla : ∀ y, laOf is y ≤ 1000 := fun y => by have := la_le ok y; omega
  have cd : ∀ cs n, cdEnd (laOf is) (some 0) cs = some n → n < 2 ^ 60 := fun cs n h => by
    have := cdEnd_le (la := laOf is) (m := 1000) hla cs (some 0) (fun n hn => by have := Option.some.inj hn; omega) n h
    omega
  have mt : ∀ k s u cs, k + cs.length ≤ 2000 → ∀ n, meetF (laOf is) k s u cs = some n → n < 2 ^ 60 := fun k s u cs hk n h => by
    have := meet_lt cs k s u n h
    omega
  have st : ∀ (k j : Nat) (cs : List Int), k + cs.length ≤ 2000 → ∀ n, (stF (laOf is) k (some 0) cs)[j]? = some n → n < 2 ^ 60 := fun k j cs hk n h => by
    have := stF_lt (la := laOf is) cs k (some 0) n (List.mem_of_getElem? h)
    omega
  have ld : ∀ k, k + (bs.drop k).length ≤ 2000 ∨ bs.length < k := fun k => by rw [List.length_drop]; omega
  unfold allD
  have p1 := plain_nat (n := bs.length) (by omega) 1
  have p2 := plain_ints (bs := bs.take c) (fun y hy => by
    have := low y (List.mem_of_mem_take hy)
    exact Nat.lt_of_lt_of_le (show y.natAbs < 2 ^ 9 by omega) (by decide)) 0
  have p3 := plain_opt (o := cdEnd (laOf is) (some 0) ((bs.take b).drop a)) (cd _) 1
  have p4 := plain_opt (o := cdEnd (laOf is) (some 0) ((bs.take c).drop a)) (cd _) 1
  have p5 := plain_nat (n := (stF (laOf is) 0 (cdEnd (laOf is) (some 0) ((bs.take b).drop a)) ((bs.take c).drop b)).length) (by
    have := stF_len (la := laOf is) ((bs.take c).drop b) 0 (cdEnd (laOf is) (some 0) ((bs.take b).drop a))
    rw [List.length_drop, List.length_take] at this
    omega) 1
  have p6 := plain_opt (o := (stF (laOf is) b (some 0) (bs.drop b))[1]?) (st _ _ _ (by rw [List.length_drop]; omega)) 1
  have p7 := plain_opt (o := (stF (laOf is) a (some 0) (bs.drop a))[c]?) (st _ _ _ (by rw [List.length_drop]; omega)) 1
  have p8 := plain_opt (o := meetF (laOf is) c (cdEnd (laOf is) (some 0) ((bs.take c).drop a)) (some 0) (bs.drop c)) (mt _ _ _ _ (by rw [List.length_drop]; omega)) 1
  have p9 := plain_opt (o := meetF (laOf is) b (cdEnd (laOf is) (some 0) ((bs.take b).drop a)) (some 0) (bs.drop b)) (mt _ _ _ _ (by rw [List.length_drop]; omega)) 1
  refine ((Plains.cons p1 (Plains.cons p2 (Plains.cons p3 (Plains.cons p4 (Plains.cons p5 (Plains.cons p6 (Plains.cons p7 (Plains.cons p8 (Plains.cons p9 (Plains.nil 1)))))))))).lst).shows (by decide) ?_
  rw [List.length_take]
  omega
section
variable {P : Program} {w : World} {K : PySem.W.Frag} {mg : Str → Option Value} {base : Heap}
def spAll82 (K : PySem.W.Frag) (C0 C CB : Addr) : Sp := fun vs H Q _ => ∃ (p x ed it l : Addr) (cnt lg : Nat) (is : List I4) (rs : List Addr) (t : Spn) (es : List Edit) (a b c : Nat), vs = [.ref p, .ref l] ∧ BufAt K C CB (mpOf is) H p x ed t es ∧ Mach C0 H x cnt lg it is rs ∧ SqL K H l [.int (a : Int), .int (b : Int), .int (c : Int)] ∧ (∀ y ∈ t.bytes, 0 ≤ y ∧ y < (cnt : Int)) ∧
  a ≤ b ∧ b ≤ c ∧ c ≤ t.bytes.length ∧ t.bytes.length ≤ 1000 ∧ ∀ H', Same H H' → Q (.str (PyData.list (allD (laOf is) t.bytes a b c)).shown) H'
abbrev nAll82 : List Str := ["_law_buffer", "_law_some", "_law_one", "_law_two", "_law_three", "_law_told"]
theorem scAll82 : FnScope nAll82 ["_law_buffer", "_law_some"] (defScope s_law_all_of) := ⟨rfl, rfl, rfl, by decide +kernel, rfl, by decide +kernel, by decide +kernel⟩
theorem ok_all82 {f fLn fCo fCd fCn fNt fAg C0 C CB : Addr} {fd fdLn fdCo fdCd fdCn fdNt fdAg : FuncData} {k : Nat} (F : Fun K "_law_all_of" "_law_all_of" s_law_all_of f fd) (T : Bi mg) (B : BufTxt K mg CB)
    (MLn : Meth K CB "length" fLn) (bLn : Binds K fdLn ["self"] []) (GLn : FnOk P w K mg base CX0 k fLn fdLn ["self"] (spBLength K C CB))
    (MCo : Meth K CB "code" fCo) (bCo : Binds K fdCo ["self", "start", "stop"] []) (GCo : FnOk P w K mg base CX0 k fCo fdCo ["self", "start", "stop"] (spBCode K C0 C CB))
    (MCd : Meth K CB "countdown" fCd) (bCd : Binds K fdCd ["self", "entry", "offset"] []) (GCd : FnOk P w K mg base CX0 k fCd fdCd ["self", "entry", "offset"] (spBCdb K C0 C CB))
    (MCn : Meth K CB "start_count" fCn) (bCn : Binds K fdCn ["self", "entry", "start", "stop"] []) (GCn : FnOk P w K mg base CX0 k fCn fdCn ["self", "entry", "start", "stop"] (spBCnt K C0 C CB))
    (MNt : Meth K CB "nth_start" fNt) (bNt : Binds K fdNt ["self", "entry", "number"] []) (GNt : FnOk P w K mg base CX0 k fNt fdNt ["self", "entry", "number"] (spBNth K C0 C CB))
    (MAg : Meth K CB "agreement" fAg) (bAg : Binds K fdAg ["self", "entry", "other"] []) (GAg : FnOk P w K mg base CX0 k fAg fdAg ["self", "entry", "other"] (spBAgr K C0 C CB)) :
    FnG P w K mg base (k + 1) f fd ["_law_buffer", "_law_some"] (spAll82 K C0 C CB) := by
  refine okG F scAll82 (fun vs H Q E h => ?_) (fun cdv A' outer s0 H vs Q E gd hr h => ?_)
  · obtain ⟨p, x, ed, it, l, cnt, lg, is, rs, t, es, a, b, c, rfl, _⟩ := h
    rfl
  · obtain ⟨p, x, ed, it, l, cnt, lg, is, rs, t, es, a, b, c, rfl, hB, MA, hl, low, ab, bc, ct, few, q⟩ := h
    refine ⟨_, pss_cons (ps_asg (pv 1) (pg_lst rfl (pgs_cons (pg_name (i := 2) scAll82.nd rfl (.inl rfl)) (pgs_cons (pg_name (i := 3) scAll82.nd rfl (.inl rfl)) (pgs_cons (pg_name (i := 4) scAll82.nd rfl (.inl rfl)) pgs_nil)))))
      (pss_cons (ps_set (i := 5) scAll82.nd rfl (.inl rfl) (pe_lst (pa_cons (pe_meth0 (pv 0) B.cl MLn GLn hr bLn .nil pass0) (pa_cons (pe_meth (pv 0) B.cl MCo GCo hr bCo .nil pass0 (pa_cons pe_int (pa_cons (pv 4) pa_nil))) (pa_cons (pe_meth (pv 0) B.cl MCd GCd hr bCd .nil pass0 (pa_cons (pv 2) (pa_cons (pv 3) pa_nil))) (pa_cons (pe_meth (pv 0) B.cl MCd GCd hr bCd .nil pass0 (pa_cons (pv 2) (pa_cons (pv 4) pa_nil))) pa_nil))))))
      (pss_cons (ps_set (i := 5) scAll82.nd rfl (.inl rfl) (pe_op op_cat (pv 5) (pe_lst (pa_cons (pe_meth (pv 0) B.cl MCn GCn hr bCn .nil pass0 (pa_cons (pv 2) (pa_cons (pv 3) (pa_cons (pv 4) pa_nil)))) (pa_cons (pe_meth (pv 0) B.cl MNt GNt hr bNt .nil pass0 (pa_cons (pv 3) (pa_cons pe_int pa_nil))) (pa_cons (pe_meth (pv 0) B.cl MNt GNt hr bNt .nil pass0 (pa_cons (pv 2) (pa_cons (pv 4) pa_nil))) pa_nil))))))
      (pss_one (ps_ret (pe_callB (call_repr_x gd hr) (by rfl) T.repr (by decide +kernel) (pa_cons (pe_op op_cat (pv 5) (pe_lst (pa_cons (pe_meth (pv 0) B.cl MAg GAg hr bAg .nil pass0 (pa_cons (pv 2) (pa_cons (pv 4) pa_nil))) (pa_cons (pe_meth (pv 0) B.cl MAg GAg hr bAg .nil pass0 (pa_cons (pv 2) (pa_cons (pv 3) pa_nil))) pa_nil)))) pa_nil)))))), ?_⟩
    have sz := Spn.size_eq t
    obtain ⟨dx, sn, evs, hp, _⟩ := hB.ob
    have nLn := b_no x sn ed (m := "length") (by decide +kernel) (by decide +kernel) (by decide +kernel)
    have nCo := b_no x sn ed (m := "code") (by decide +kernel) (by decide +kernel) (by decide +kernel)
    have nCd := b_no x sn ed (m := "countdown") (by decide +kernel) (by decide +kernel) (by decide +kernel)
    have nCn := b_no x sn ed (m := "start_count") (by decide +kernel) (by decide +kernel) (by decide +kernel)
    have nNt := b_no x sn ed (m := "nth_start") (by decide +kernel) (by decide +kernel) (by decide +kernel)
    have nAg := b_no x sn ed (m := "agreement") (by decide +kernel) (by decide +kernel) (by decide +kernel)
    refine ⟨_, rfl, l, _, rfl, hl, rfl, _, _, rfl, _, _, rfl, _, _, rfl, rfl, ?_⟩
    refine ⟨_, rfl, p, dx, _, rfl, hp, nLn, p, x, ed, _, t, _, rfl, hB, _, rfl, p, dx, _, rfl, hp, nCo, _, rfl, p, x, ed, it, cnt, lg, is, rs, t, _, 0, c, rfl, hB, MA, Nat.zero_le _, by omega, by omega, fun H1 r1 s1 hr1 => ?_⟩
    rw [List.drop_zero] at hr1
    have hp1 := s1 _ _ hp
    refine ⟨_, rfl, p, dx, _, rfl, hp1, nCd, _, rfl, _, rfl, p, x, ed, it, cnt, lg, is, rs, t, _, a, b, rfl, hB.same s1, MA.same s1, ab, by omega, fun H2 s2 => ?_⟩
    have hp2 := s2 _ _ hp1
    have s02 := s1.trans s2
    refine ⟨_, rfl, p, dx, _, rfl, hp2, nCd, _, rfl, _, rfl, p, x, ed, it, cnt, lg, is, rs, t, _, a, c, rfl, hB.same s02, MA.same s02, by omega, by omega, fun H3 s3 => ?_⟩
    have s03 := s02.trans s3
    have hr3 := s3 _ _ (s2 _ _ hr1)
    refine ⟨by show 4 ≤ sizeLine; decide, fun l4 nl4 => ?_⟩
    have s4 := same_upd (o := HO.lst [V.int (t.size : Int), V.ref r1, optN (cdEnd (laOf is) (some 0) ((t.bytes.take b).drop a)), optN (cdEnd (laOf is) (some 0) ((t.bytes.take c).drop a))]) nl4
    have hl4 := @upd_same H3 l4 (HO.lst [V.int (t.size : Int), V.ref r1, optN (cdEnd (laOf is) (some 0) ((t.bytes.take b).drop a)), optN (cdEnd (laOf is) (some 0) ((t.bytes.take c).drop a))])
    generalize upd H3 l4 (HO.lst [V.int (t.size : Int), V.ref r1, optN (cdEnd (laOf is) (some 0) ((t.bytes.take b).drop a)), optN (cdEnd (laOf is) (some 0) ((t.bytes.take c).drop a))]) = H4 at *
    have s04 := s03.trans s4
    have hp4 := s4 _ _ (s3 _ _ hp2)
    refine ⟨_, rfl, _, rfl, p, dx, _, rfl, hp4, nCn, _, rfl, _, rfl, _, rfl, p, x, ed, it, cnt, lg, is, rs, t, _, a, b, c, rfl, hB.same s04, MA.same s04, ab, bc, by omega, fun H5 s5 => ?_⟩
    have s05 := s04.trans s5
    have hp5 := s5 _ _ hp4
    refine ⟨_, rfl, p, dx, _, rfl, hp5, nNt, _, rfl, p, x, ed, it, cnt, lg, is, rs, t, _, b, 1, rfl, hB.same s05, MA.same s05, by omega, fun H6 s6 => ?_⟩
    have s06 := s05.trans s6
    have hp6 := s6 _ _ hp5
    refine ⟨_, rfl, p, dx, _, rfl, hp6, nNt, _, rfl, _, rfl, p, x, ed, it, cnt, lg, is, rs, t, _, a, c, rfl, hB.same s06, MA.same s06, by omega, fun H7 s7 => ⟨by show 3 ≤ sizeLine; decide, fun l8 nl8 => ?_⟩⟩
    have s07 := s06.trans s7
    have hp7 := s7 _ _ hp6
    have s8 := same_upd (o := HO.lst [natV (stF (laOf is) 0 (cdEnd (laOf is) (some 0) ((t.bytes.take b).drop a)) ((t.bytes.take c).drop b)).length, optN ((stF (laOf is) b (some 0) (t.bytes.drop b))[1]?), optN ((stF (laOf is) a (some 0) (t.bytes.drop a))[c]?)]) nl8
    have hl8 := @upd_same H7 l8 (HO.lst [natV (stF (laOf is) 0 (cdEnd (laOf is) (some 0) ((t.bytes.take b).drop a)) ((t.bytes.take c).drop b)).length, optN ((stF (laOf is) b (some 0) (t.bytes.drop b))[1]?), optN ((stF (laOf is) a (some 0) (t.bytes.drop a))[c]?)])
    generalize upd H7 l8 (HO.lst [natV (stF (laOf is) 0 (cdEnd (laOf is) (some 0) ((t.bytes.take b).drop a)) ((t.bytes.take c).drop b)).length, optN ((stF (laOf is) b (some 0) (t.bytes.drop b))[1]?), optN ((stF (laOf is) a (some 0) (t.bytes.drop a))[c]?)]) = H8 at *
    have s48 := ((s5.trans s6).trans s7).trans s8
    have s08 := s04.trans s48
    refine ⟨l4, l8, _, _, rfl, rfl, s48 _ _ hl4, hl8, by show 4 + 3 ≤ sizeLine; decide, fun l9 nl9 => ?_⟩
    have s9 := same_upd (o := HO.lst ([V.int (t.size : Int), V.ref r1, optN (cdEnd (laOf is) (some 0) ((t.bytes.take b).drop a)), optN (cdEnd (laOf is) (some 0) ((t.bytes.take c).drop a))] ++ [natV (stF (laOf is) 0 (cdEnd (laOf is) (some 0) ((t.bytes.take b).drop a)) ((t.bytes.take c).drop b)).length, optN ((stF (laOf is) b (some 0) (t.bytes.drop b))[1]?), optN ((stF (laOf is) a (some 0) (t.bytes.drop a))[c]?)])) nl9
    have hl9 := @upd_same H8 l9 (HO.lst ([V.int (t.size : Int), V.ref r1, optN (cdEnd (laOf is) (some 0) ((t.bytes.take b).drop a)), optN (cdEnd (laOf is) (some 0) ((t.bytes.take c).drop a))] ++ [natV (stF (laOf is) 0 (cdEnd (laOf is) (some 0) ((t.bytes.take b).drop a)) ((t.bytes.take c).drop b)).length, optN ((stF (laOf is) b (some 0) (t.bytes.drop b))[1]?), optN ((stF (laOf is) a (some 0) (t.bytes.drop a))[c]?)]))
    generalize upd H8 l9 (HO.lst ([V.int (t.size : Int), V.ref r1, optN (cdEnd (laOf is) (some 0) ((t.bytes.take b).drop a)), optN (cdEnd (laOf is) (some 0) ((t.bytes.take c).drop a))] ++ [natV (stF (laOf is) 0 (cdEnd (laOf is) (some 0) ((t.bytes.take b).drop a)) ((t.bytes.take c).drop b)).length, optN ((stF (laOf is) b (some 0) (t.bytes.drop b))[1]?), optN ((stF (laOf is) a (some 0) (t.bytes.drop a))[c]?)])) = H9 at *
    have s09 := s08.trans s9
    have hp9 := s9 _ _ (s8 _ _ hp7)
    refine ⟨_, rfl, _, rfl, p, dx, _, rfl, hp9, nAg, _, rfl, _, rfl, p, x, ed, it, cnt, lg, is, rs, t, _, a, c, rfl, hB.same s09, MA.same s09, by omega, by omega, fun Ha sa => ?_⟩
    rw [Nat.max_eq_right (Nat.le_trans ab bc), Nat.min_eq_left (Nat.le_trans ab bc)]
    have s0a := s09.trans sa
    refine ⟨_, rfl, p, dx, _, rfl, sa _ _ hp9, nAg, _, rfl, _, rfl, p, x, ed, it, cnt, lg, is, rs, t, _, a, b, rfl, hB.same s0a, MA.same s0a, by omega, by omega, fun Hb sb => ?_⟩
    rw [Nat.max_eq_right ab, Nat.min_eq_left ab]
    refine ⟨by show 2 ≤ sizeLine; decide, fun lc nlc => ?_⟩
    have sc := same_upd (o := HO.lst [optN (meetF (laOf is) c (cdEnd (laOf is) (some 0) ((t.bytes.take c).drop a)) (some 0) (t.bytes.drop c)), optN (meetF (laOf is) b (cdEnd (laOf is) (some 0) ((t.bytes.take b).drop a)) (some 0) (t.bytes.drop b))]) nlc
    refine ⟨l9, lc, _, _, rfl, rfl, sc _ _ (sb _ _ (sa _ _ hl9)), upd_same, by show 7 + 2 ≤ sizeLine; decide, fun ld nld => ?_⟩
    have sd := same_upd (o := HO.lst (([V.int (t.size : Int), V.ref r1, optN (cdEnd (laOf is) (some 0) ((t.bytes.take b).drop a)), optN (cdEnd (laOf is) (some 0) ((t.bytes.take c).drop a))] ++ [natV (stF (laOf is) 0 (cdEnd (laOf is) (some 0) ((t.bytes.take b).drop a)) ((t.bytes.take c).drop b)).length, optN ((stF (laOf is) b (some 0) (t.bytes.drop b))[1]?), optN ((stF (laOf is) a (some 0) (t.bytes.drop a))[c]?)]) ++ [optN (meetF (laOf is) c (cdEnd (laOf is) (some 0) ((t.bytes.take c).drop a)) (some 0) (t.bytes.drop c)), optN (meetF (laOf is) b (cdEnd (laOf is) (some 0) ((t.bytes.take b).drop a)) (some 0) (t.bytes.drop b))])) nld
    have s3d := s4.trans (s48.trans (s9.trans (sa.trans (sb.trans (sc.trans sd)))))
    refine ⟨_, .list (allD (laOf is) t.bytes a b c), rfl, .lst (SqL.of upd_same) ?_, all_plain MA.ok low few ab bc ct, q _ (s03.trans s3d)⟩
    unfold allD
    rw [← sz]
    exact .cons (.int _) (.cons (.tup (SqT.of (s3d _ _ hr3)) (dx_ints _)) (.cons (dx_opt _) (.cons (dx_opt _) (.cons (.int _) (.cons (dx_opt _) (.cons (dx_opt _) (.cons (dx_opt _) (.cons (dx_opt _) .nil))))))))
end
end Ov
namespace Ov
open PySem PySem.Spec PyProof.Rows L2
/-! ### several buffers -/
def hid (b : Addr) (H : Hp) : Hp := fun a => if a = b then none else H a
theorem hid_but {b : Addr} {H : Hp} : But b H (hid b H) := fun a o e n => (if_neg n).trans e
theorem hid_same {b : Addr} {H : Hp} : Same (hid b H) H := fun a o e => by
  unfold hid at e
  split at e
  · cases e
  · exact e
theorem hid_none {b : Addr} {H : Hp} : hid b H b = none := if_pos rfl
theorem hid_back {b : Addr} {H G : Hp} (s : Same (hid b H) G) : But b H G := fun a o e n => s a o (hid_but a o e n)
theorem none_hid {b a : Addr} {H : Hp} (h : H a = none) : hid b H a = none := by
  unfold hid
  split
  · rfl
  · exact h
theorem keepU {U G G' : Hp} {p : Addr} (s : Same U G) (b : But p G G') (n : U p = none) : Same U G' := fun a o e => b a o (s a o e) (ne_of_none e n)
theorem keepU2 {U G G' : Hp} {p ed : Addr} (s : Same U G) (b : But2 p ed G G') (n : U p = none) (m : U ed = none) : Same U G' := fun a o e => b a o (s a o e) (ne_of_none e n) (ne_of_none e m)
/-- another buffer changes -/
theorem BufAt.other {K : PySem.W.Frag} {C CB p x ed p' x' ed' : Addr} {mp : List Int → List PM} {H H' : Hp} {t t' : Spn} {es es' : List Edit} (h : BufAt K C CB mp H p x ed t es) (h' : BufAt K C CB mp H p' x' ed' t' es') (np : p ≠ p') (ne : ed ≠ ed') (s : But2 p' ed' H H') : BufAt K C CB mp H' p x ed t es := by
  obtain ⟨⟨dx, sn, vs, h1, h2, h3, h4⟩, ok, few⟩ := h
  obtain ⟨⟨dx', sn', vs', k1, k2, k3, k4⟩, _, _⟩ := h'
  exact ⟨⟨dx, sn, vs, s _ _ h1 np (fun z => by rw [z, k3] at h1; cases h1), h2.but2 k1 k3 s, s _ _ h3 (fun z => by rw [z, k1] at h3; cases h3) ne, h4.but2 k1 k3 s⟩, ok, few⟩
theorem BufAt.box {K : PySem.W.Frag} {C CB p x ed b : Addr} {mp : List Int → List PM} {H H' : Hp} {t : Spn} {es : List Edit} {n : Nat} (h : BufAt K C CB mp H p x ed t es) (B : BoxAt H b n) (ne : b ≠ ed) (s : But2 p ed H H') : BoxAt H' b n := (h.apart B ne).box s B
theorem BufAt.tup {K : PySem.W.Frag} {C CB p x ed : Addr} {mp : List Int → List PM} {H H' : Hp} {t : Spn} {es : List Edit} {a : Addr} {us : List V} (h : BufAt K C CB mp H p x ed t es) (s : But2 p ed H H') (hc : SqT K H a us) : SqT K H' a us := by
  obtain ⟨⟨dx, sn, vs, h1, h2, h3, h4⟩, ok, few⟩ := h
  exact Ov.SqT.but2 h1 h3 s hc
theorem BufAt.here {K : PySem.W.Frag} {C CB p x ed : Addr} {mp : List Int → List PM} {H : Hp} {t : Spn} {es : List Edit} (h : BufAt K C CB mp H p x ed t es) : H p ≠ none ∧ H ed ≠ none := by
  obtain ⟨dx, sn, vs, h1, _, h3, _⟩ := h.ob
  exact ⟨by rw [h1]; exact fun z => (nomatch z), by rw [h3]; exact fun z => (nomatch z)⟩
/-- a new buffer -/
theorem make_buf {K : PySem.W.Frag} {C0 C CB : Addr} {H : Hp} {x it c : Addr} {cnt lg m : Nat} {is : List I4} {rs : List Addr} {bs : List Int} {R : VK} {E : XK} {p dp : Addr} (np : H p = none) (ndp : H dp = none) (MA : Mach C0 H x cnt lg it is rs) (hc : SqT K H c (bs.map V.int)) (low : ∀ b ∈ bs, 0 ≤ b ∧ b < (cnt : Int)) (l1 : bs.length ≤ 32 * 2 ^ m) (l2 : bs.length ≤ 100000)
    (q : ∀ H' ed t, Same H H' → H ed = none → BufAt K C CB (mpOf is) H' p x ed t [] → t.bytes = bs → R .non H') :
    spBInit K C0 C CB m [.ref p, .ref x, .ref c] (upd (upd H dp (.own p)) p (.ins CB dp [])) R E := by
  have s5 : Same H (upd (upd H dp (.own p)) p (.ins CB dp [])) := fun a o e => by
    rw [upd_ne (ne_of_none e np), upd_ne (ne_of_none e ndp)]; exact e
  have hp5 : (upd (upd H dp (.own p)) p (.ins CB dp [])) p = some (.ins CB dp []) := upd_same
  generalize upd (upd H dp (.own p)) p (.ins CB dp []) = H5 at *
  exact ⟨p, dp, x, it, c, cnt, lg, is, rs, bs, rfl, hp5, MA.same s5, s5.tup hc, low, l1, l2, fun H6 ed t6 fr6 ned hB6 et6 => q H6 ed t6 (fun a o e => fr6 a o (s5 a o e) (ne_of_none e np)) (s5.free ned) hB6 et6⟩
end Ov
namespace Ov
open PySem PySem.Spec PyProof.Rows L2
section
variable {P : Program} {w : World} {K : PySem.W.Frag} {mg : Str → Option Value} {base : Heap}
/-! ### _law_is_new -/
def spNew82 (K : PySem.W.Frag) (C0 C CB : Addr) : Sp := fun vs H Q _ => ∃ (b tb ti p x ed it c : Addr) (n cnt lg : Nat) (is : List I4) (rs : List Addr) (t : Spn) (es : List Edit), vs = [.ref b, .ref tb, .ref x, .ref p, .ref c] ∧ BoxAt H b n ∧ n ≤ 2 ^ 36 ∧ b ≠ ed ∧ Tab H tb cnt lg is ti rs ∧ BufAt K C CB (mpOf is) H p x ed t es ∧ Mach C0 H x cnt lg it is rs ∧ SqT K H c (t.bytes.map V.int) ∧ (∀ y ∈ t.bytes, 0 ≤ y ∧ y < (cnt : Int)) ∧
  t.bytes.length ≤ 120 ∧ ∀ H', But b H H' → BoxAt H' b (n + 23) → Q (.bl true) H'
abbrev nNew82 : List Str := ["_law_box_here", "_law_table_here", "_law_machine_here", "_law_buffer", "_law_code", "_law_some", "_law_nth"]
theorem scNew82 : FnScope nNew82 ["_law_box_here", "_law_table_here", "_law_machine_here", "_law_buffer", "_law_code"] (defScope s_law_is_new) := ⟨rfl, rfl, rfl, by decide +kernel, rfl, by decide +kernel, by decide +kernel⟩
theorem ok_new82 {f fT fAl fSe fI C0 C CB : Addr} {fd fdT fdAl fdSe fdI : FuncData} {k : Nat} (F : Fun K "_law_is_new" "_law_is_new" s_law_is_new f fd) (T : Bi mg) (B : BufTxt K mg CB)
    (Tk : Def K mg "_law_take" sTake fT fdT ["_law_box_here", "_law_many"]) (GT : FnOk P w K mg base CX0 (k + 1) fT fdT ["_law_box_here", "_law_many"] spTake)
    (Al : Def K mg "_law_all_of" s_law_all_of fAl fdAl ["_law_buffer", "_law_some"]) (GAl : FnG P w K mg base (k + 1) fAl fdAl ["_law_buffer", "_law_some"] (spAll82 K C0 C CB))
    (Se : Def K mg "_law_seen" s_law_seen fSe fdSe ["_law_box_here", "_law_table_here", "_law_buffer", "_law_code"]) (GSe : FnG P w K mg base (k + 1) fSe fdSe ["_law_box_here", "_law_table_here", "_law_buffer", "_law_code"] (spSeen K C0 C CB))
    (MI : L2.Mk K CB fI) (bI : Binds K fdI ["self", "instruction_set", "code"] []) (GI : FnOk P w K mg base CX0 k fI fdI ["self", "instruction_set", "code"] (spBInit K C0 C CB 2)) :
    FnG P w K mg base (k + 2) f fd ["_law_box_here", "_law_table_here", "_law_machine_here", "_law_buffer", "_law_code"] (spNew82 K C0 C CB) := by
  refine okG F scNew82 (fun vs H Q E h => ?_) (fun cdv A' outer s0 H vs Q E gd hr h => ?_)
  · obtain ⟨b, tb, ti, p, x, ed, it, c, n, cnt, lg, is, rs, t, es, rfl, _⟩ := h
    rfl
  · obtain ⟨b, tb, ti, p, x, ed, it, c, n, cnt, lg, is, rs, t, es, rfl, Bx, hn, ne, Tb, hB, MA, hc, low, few, q⟩ := h
    refine ⟨_, pss_cons (ps_set (i := 5) scNew82.nd rfl (.inl rfl) (pe_callB cr_sortedI (by rfl) T.sorted (by decide +kernel) (pa_cons (pe_lc (own := [("_law_nth", 6)]) (g := gName 6) (tt := tYes) (by rfl) scNew82.nd (pi_range1 (by rfl) T.range (pa_cons pe_int pa_nil))
            (blkOk_by (own := [("_law_nth", 6)]) (N := nNew82) (sc := defScope s_law_is_new) (by decide +kernel))
            (fun _ _ _ _ _ => pg_name (i := 6) scNew82.nd rfl (Or.inl rfl)) (fun _ _ _ _ _ => pts_nil)
            (fun _ _ _ _ _ => pe_call GT hr (by rfl) Tk.gl Tk.fn.kp Tk.bi .nil pass0 (pa_cons (pv 0) (pa_cons (pe_op op_add (pe_callB (r := fun xs H Q => ∃ p ys, xs = [V.ref p] ∧ (SqL K H p ys ∨ SqT K H p ys) ∧ Q (V.int ys.length) H) call_len_seq (by rfl) T.len PySem.boot_len (pa_cons (pv 4) pa_nil)) pe_int) pa_nil)))) pa_nil)))
      (pss_cons (ps_if (pt_cmpR op_ne (pe_callG GAl gd hr (by rfl) Al.gl Al.fn.kp Al.bi (pa_cons (pv 3) (pa_cons (pv 5) pa_nil))) (pe_callG GAl gd hr (by rfl) Al.gl Al.fn.kp Al.bi (pa_cons (pe_make MI GI hr (by rfl) B.mgC bI .nil pass0 (pa_cons (pv 2) (pa_cons (pv 4) pa_nil))) (pa_cons (pv 5) pa_nil))) (nomark _)) (pss_one (ps_ret pe_bl)) pss_nil)
      (pss_one (ps_ret (pe_callG GSe gd hr (by rfl) Se.gl Se.fn.kp Se.bi (pa_cons (pv 0) (pa_cons (pv 1) (pa_cons (pv 3) (pa_cons (pv 4) pa_nil)))))))), ?_⟩
    have Ap := hB.apart Bx ne
    -- three offsets
    refine ⟨3, rfl, by decide, by decide, fun D nD => lc_range (lo := 0) (n := 3) (fun j G1 => ∃ ns : List Int, ns.length = j ∧ (∀ y ∈ ns, 0 ≤ y ∧ y ≤ (t.bytes.length : Int)) ∧ But b H G1 ∧ BoxAt G1 b (n + j) ∧ G1 D = some (.lst (ns.map V.int))) ⟨[], rfl, (fun _ h => nomatch h), But.of (same_upd nD), Bx.same (same_upd nD), upd_same⟩ ?_ ?_⟩
    · rintro j G1 hj ⟨ns, nl, nb, b1, B1, hD⟩
      have hDb : D ≠ b := fun z => Bx.ne (z ▸ nD)
      have hc1 := SqT.but3 (.of1 b1) Ap hc
      refine ⟨rfl, _, rfl, _, rfl, c, _, rfl, .inr hc1, _, _, rfl, rfl, b, _, n + j, rfl, B1, by omega, by rw [List.length_map]; omega, by rw [List.length_map]; omega, fun G2 d b2 B2 d0 d1 f2 => ?_⟩
      rw [List.length_map] at d1
      refine ⟨_, b2 _ _ hD hDb, by rw [List.length_map, nl, sizeLine_eq]; omega, ns ++ [d], by rw [List.length_append, nl]; rfl, fun y hy => ?_, fun a o ea na => ?_, ?_, ?_⟩
      · rcases List.mem_append.mp hy with hy | hy
        · exact nb y hy
        · rw [List.mem_singleton.mp hy]; omega
      · rw [upd_ne (ne_of_none ea nD)]
        exact b2 _ _ (b1 _ _ ea na) na
      · obtain ⟨z1, z2, z3, ez, r⟩ := B2
        exact ⟨z1, z2, z3, by rw [upd_ne (Ne.symm hDb)]; exact ez, by omega⟩
      · rw [upd_same, List.map_append]; rfl
    rintro G1 ⟨ns, nl, nb, b1, B1, hD⟩
    refine ⟨D, ns, rfl, SqL.of hD, fun ns' sp1 perm srt nsp => ?_⟩
    have s2 := same_upd (o := HO.lst (ns'.map V.int)) nsp
    have hsp := @upd_same G1 sp1 (HO.lst (ns'.map V.int))
    have b2 : But b H (upd G1 sp1 (HO.lst (ns'.map V.int))) := b1.trans (But.of s2)
    have B2 := B1.same s2
    generalize upd G1 sp1 (HO.lst (ns'.map V.int)) = G2 at *
    obtain ⟨e', st', sp', rfl⟩ := three_of (perm.length_eq.trans nl)
    have mem : ∀ y ∈ [e', st', sp'], 0 ≤ y ∧ y ≤ (t.bytes.length : Int) := fun y hy => nb y (perm.mem_iff.mp hy)
    obtain ⟨e, rfl⟩ : ∃ e : Nat, e' = (e : Int) := ⟨e'.toNat, by have := (mem e' (by simp)).1; omega⟩
    obtain ⟨st, rfl⟩ : ∃ e : Nat, st' = (e : Int) := ⟨st'.toNat, by have := (mem st' (by simp)).1; omega⟩
    obtain ⟨sp, rfl⟩ : ∃ e : Nat, sp' = (e : Int) := ⟨sp'.toNat, by have := (mem sp' (by simp)).1; omega⟩
    have o1 : e ≤ st := by
      have := (List.pairwise_cons.mp srt).1 (st : Int) (by simp)
      omega
    have o2 : st ≤ sp := by
      have := (List.pairwise_cons.mp (List.pairwise_cons.mp srt).2).1 (sp : Int) (by simp)
      omega
    have o3 : sp ≤ t.bytes.length := by
      have := (mem (sp : Int) (by simp)).2
      omega
    have T2 := Tb.but b2 Bx
    have hB2 := hB.butB b2 Bx ne
    have M2 := MA.but b2 Bx
    have hc2 := SqT.but3 (.of1 b2) Ap hc
    clear nb perm srt mem hD b1 B1 hB MA hc Tb s2 nsp nD
    refine ⟨_, rfl, _, rfl, p, x, ed, it, sp1, cnt, lg, is, rs, t, es, e, st, sp, rfl, hB2, M2, SqL.of hsp, low, o1, o2, o3, by omega, fun G3 s3 => ?_⟩
    have hsp3 := s3 _ _ hsp
    refine ⟨_, rfl, _, rfl, fun p' dp' np' ndp' _ => make_buf np' ndp' (m := 2) (bs := t.bytes) (M2.same s3) (s3.tup hc2) low (by show _ ≤ 128; omega) (by omega) fun G4 ed' t' s4 ned' hB' et' => ⟨rfl, ?_⟩⟩
    have s24 := s3.trans s4
    refine ⟨_, rfl, p', x, ed', it, sp1, cnt, lg, is, rs, t', [], e, st, sp, rfl, hB', M2.same s24, SqL.of (s4 _ _ hsp3), by rw [et']; exact low, o1, o2, by rw [et']; exact o3, by rw [et']; omega, fun G5 s5 => ?_⟩
    rw [et']
    refine ⟨rfl, _, rfl, ?_⟩
    rw [decide_eq_true rfl]
    have s25 := s24.trans s5
    refine iteF ⟨_, rfl, _, rfl, _, rfl, _, rfl, b, tb, ti, p, x, ed, it, c, n + 3, cnt, lg, is, rs, t, es, rfl, B2.same s25, by omega, ne, T2.same s25, hB2.same s25, M2.same s25, s25.tup hc2, low, by omega, fun G6 b6 B6 => ?_⟩
    exact q G6 ((b2.trans (But.of s25)).trans b6) B6
end
end Ov
namespace Ov
open PySem PySem.Spec PyProof.Rows L2
/-! ### one list changes that is neither the box nor the buffer's -/
section
variable {K : PySem.W.Frag} {l : Addr} {ws : List V} {H H' : Hp}
theorem But.keepL (s : But l H H') (hl : H l = some (.lst ws)) {a : Addr} {o : HO} (e : H a = some o) (n : ∀ vs, o ≠ .lst vs) : H' a = some o := s _ _ e fun z => by
  rw [z, hl] at e
  exact n _ (Option.some.inj e).symm
theorem Tab.butL (s : But l H H') (hl : H l = some (.lst ws)) {t : Addr} {cnt lg : Nat} {is : List I4} {it : Addr} {rs : List Addr} (h : Tab H t cnt lg is it rs) : Tab H' t cnt lg is it rs :=
  ⟨s.keepL hl h.at_ fun _ z => (nomatch z), s.keepL hl h.its fun _ z => (nomatch z), ⟨h.rows.1, fun i r x h1 h2 => s.keepL hl (h.rows.2 i r x h1 h2) fun _ z => (nomatch z)⟩, h.ok⟩
theorem Mach.butL {C0 : Addr} (s : But l H H') (hl : H l = some (.lst ws)) {x : Addr} {cnt lg : Nat} {it : Addr} {is : List I4} {rs : List Addr} (h : Mach C0 H x cnt lg it is rs) : Mach C0 H' x cnt lg it is rs := by
  obtain ⟨d, d1, d2, k1, k2, k3⟩ := h.at_.ob
  exact ⟨⟨d, d1, d2, s.keepL hl k1 fun _ z => (nomatch z), s.keepL hl k2 fun _ z => (nomatch z), s.keepL hl k3 fun _ z => (nomatch z)⟩, s.keepL hl h.its fun _ z => (nomatch z), ⟨h.rows.1, fun i r x h1 h2 => s.keepL hl (h.rows.2 i r x h1 h2) fun _ z => (nomatch z)⟩, h.ok⟩
theorem MapAt.butL (s : But l H H') (hl : H l = some (.lst ws)) {m : Addr} {ms : List PM} (h : MapAt H m ms) : MapAt H' m ms := by
  obtain ⟨ps, h1, h2, h3⟩ := h
  exact ⟨ps, s.keepL hl h1 fun _ z => (nomatch z), h2, fun i a m e1 e2 => s.keepL hl (h3 i a m e1 e2) fun _ z => (nomatch z)⟩
theorem SpanAt.butL {C : Addr} {mp : List Int → List PM} (s : But l H H') (hl : H l = some (.lst ws)) : ∀ {t : Spn} {a : Addr}, SpanAt K C mp H a t → SpanAt K C mp H' a t := by
  intro t
  induction t with
  | row bs => exact fun {a} ⟨d, c, m, h1, h2, h3⟩ => ⟨d, c, m, s.keepL hl h1 fun _ z => (nomatch z), s.tup hl h2, h3.butL s hl⟩
  | pair l r ihl ihr => exact fun {a} ⟨d, u, v, m, h1, h2, h3, h4⟩ => ⟨d, u, v, m, s.keepL hl h1 fun _ z => (nomatch z), ihl h2, ihr h3, h4.butL s hl⟩
theorem EdsAt.butL {C : Addr} {mp : List Int → List PM} (s : But l H H') (hl : H l = some (.lst ws)) {us : List V} {es : List Edit} (h : EdsAt K C mp H us es) : EdsAt K C mp H' us es := by
  induction h with
  | nil => exact .nil
  | cons a _ ih =>
    obtain ⟨r, sb, e1, e2, e3, e4⟩ := a
    exact .cons ⟨r, sb, e1, s.keepL hl e2 fun _ z => (nomatch z), e3.butL s hl, e4⟩ ih
theorem BufAt.butL {C CB p x ed : Addr} {mp : List Int → List PM} {t : Spn} {es : List Edit} (h : BufAt K C CB mp H p x ed t es) (s : But l H H') (hl : H l = some (.lst ws)) (ne : l ≠ ed) : BufAt K C CB mp H' p x ed t es := by
  obtain ⟨⟨dx, sn, vs, h1, h2, h3, h4⟩, ok, few⟩ := h
  exact ⟨⟨dx, sn, vs, s.keepL hl h1 fun _ z => (nomatch z), h2.butL s hl, s _ _ h3 (Ne.symm ne), h4.butL s hl⟩, ok, few⟩
theorem BoxAt.butL {b : Addr} {n : Nat} (h : BoxAt H b n) (s : But l H H') (ne : l ≠ b) : BoxAt H' b n := by
  obtain ⟨z1, z2, z3, e, r⟩ := h
  exact ⟨z1, z2, z3, s _ _ e (Ne.symm ne), r⟩
end
/-! ### codes in a list, as they were in front of each edit -/
abbrev bsOf (es : List Edit) : List (List Int) := es.map fun e => e.1.bytes
structure Past (K : PySem.W.Frag) (H : Hp) (l : Addr) (cs : List (List Int)) : Prop where
  ex : ∃ as : List Addr, H l = some (.lst (as.map V.ref)) ∧ as.length = cs.length ∧ ∀ (i : Nat) (a : Addr) (c : List Int), as[i]? = some a → cs[i]? = some c → SqT K H a (c.map V.int)
theorem Past.list {K : PySem.W.Frag} {H : Hp} {l : Addr} {cs : List (List Int)} (h : Past K H l cs) : ∃ ws, H l = some (.lst ws) := by
  obtain ⟨as, h1, _⟩ := h.ex
  exact ⟨_, h1⟩
theorem Past.map {K : PySem.W.Frag} {H H' : Hp} {l : Addr} {cs : List (List Int)} (h : Past K H l cs) (hl : ∀ us, H l = some (.lst us) → H' l = some (.lst us)) (ht : ∀ {a us}, SqT K H a us → SqT K H' a us) : Past K H' l cs := by
  obtain ⟨as, h1, h2, h3⟩ := h.ex
  exact ⟨as, hl _ h1, h2, fun i a c e1 e2 => ht (h3 i a c e1 e2)⟩
theorem Past.same {K : PySem.W.Frag} {H H' : Hp} {l : Addr} {cs : List (List Int)} (h : Past K H l cs) (s : Same H H') : Past K H' l cs := h.map (fun _ e => s _ _ e) (fun e => s.tup e)
theorem Past.push {K : PySem.W.Frag} {H : Hp} {l a : Addr} {as : List Addr} {cs : List (List Int)} {c : List Int} (h1 : H l = some (.lst (as.map V.ref))) (h2 : as.length = cs.length) (h3 : ∀ (i : Nat) (a : Addr) (c : List Int), as[i]? = some a → cs[i]? = some c → SqT K H a (c.map V.int)) (hc : SqT K H a (c.map V.int)) :
    But l H (upd H l (.lst (as.map V.ref ++ [V.ref a]))) ∧ Past K (upd H l (.lst (as.map V.ref ++ [V.ref a]))) l (cs ++ [c]) := by
  have bt : But l H (upd H l (.lst (as.map V.ref ++ [V.ref a]))) := fun x o e ne => by rw [upd_ne ne]; exact e
  refine ⟨bt, as ++ [a], by rw [upd_same, List.map_append]; rfl, by rw [List.length_append, List.length_append, h2]; rfl, fun i x p e1 e2 => ?_⟩
  by_cases hi : i < as.length
  · rw [List.getElem?_append_left hi] at e1
    rw [List.getElem?_append_left (by omega)] at e2
    exact bt.tup h1 (h3 i x p e1 e2)
  · have hl := (List.getElem?_eq_some_iff.mp e1).1
    rw [List.length_append] at hl
    have ei : i = as.length := by
      have : ([a] : List Addr).length = 1 := rfl
      omega
    subst ei
    rw [List.getElem?_append_right (Nat.le_refl _), Nat.sub_self] at e1
    rw [h2, List.getElem?_append_right (Nat.le_refl _), Nat.sub_self] at e2
    have x1 : a = x := Option.some.inj e1
    have x2 : c = p := Option.some.inj e2
    subst x1 x2
    exact bt.tup h1 hc
/-- the last one taken out -/
theorem Past.pop {K : PySem.W.Frag} {H : Hp} {l : Addr} {cs : List (List Int)} {c : List Int} (h : Past K H l (cs ++ [c])) : ∃ (as : List Addr) (a : Addr), H l = some (.lst (as.map V.ref ++ [V.ref a])) ∧ SqT K H a (c.map V.int) ∧ But l H (upd H l (.lst (as.map V.ref))) ∧ Past K (upd H l (.lst (as.map V.ref))) l cs := by
  obtain ⟨as, h1, h2, h3⟩ := h.ex
  rw [List.length_append] at h2
  have h2' : as.length = cs.length + 1 := h2
  rcases List.eq_nil_or_concat as with e0 | ⟨ys, y, e0⟩
  · rw [e0] at h2'; exact absurd h2' (by simp)
  · rw [List.concat_eq_append] at e0
    subst e0
    have ly : ys.length = cs.length := by
      rw [List.length_append] at h2'
      have : ([y] : List Addr).length = 1 := rfl
      omega
    have bt : But l H (upd H l (.lst (ys.map V.ref))) := fun x o e ne => by rw [upd_ne ne]; exact e
    refine ⟨ys, y, by rw [h1, List.map_append]; rfl, h3 ys.length y c (by simp) (by rw [ly]; simp), bt, ys, upd_same, ly, fun i a c' e1 e2 => ?_⟩
    have hi := (List.getElem?_eq_some_iff.mp e1).1
    exact bt.tup h1 (h3 i a c' (by rw [List.getElem?_append_left hi]; exact e1) (by rw [List.getElem?_append_left (by omega)]; exact e2))
/-! ### the box, the table, the buffer, and the list of past codes -/
structure Held (K : PySem.W.Frag) (C0 C CB : Addr) (G : Hp) (b tb ti p x ed l : Addr) (n cnt lg : Nat) (is : List I4) (rs : List Addr) (t : Spn) (es : List Edit) (cs : List (List Int)) : Prop where
  bx : BoxAt G b n
  tab : Tab G tb cnt lg is ti rs
  buf : BufAt K C CB (mpOf is) G p x ed t es
  mach : Mach C0 G x cnt lg ti is rs
  past : Past K G l cs
  lb : l ≠ b
  le : l ≠ ed
  be : b ≠ ed
section
variable {K : PySem.W.Frag} {C0 C CB : Addr} {G G' : Hp} {b tb ti p x ed l : Addr} {n n' cnt lg : Nat} {is : List I4} {rs : List Addr} {t t' : Spn} {es es' : List Edit} {cs cs' : List (List Int)}
theorem Held.same (h : Held K C0 C CB G b tb ti p x ed l n cnt lg is rs t es cs) (s : Same G G') : Held K C0 C CB G' b tb ti p x ed l n cnt lg is rs t es cs :=
  ⟨h.bx.same s, h.tab.same s, h.buf.same s, h.mach.same s, h.past.same s, h.lb, h.le, h.be⟩
theorem Held.mono (h : Held K C0 C CB G b tb ti p x ed l n cnt lg is rs t es cs) (le : n ≤ n') : Held K C0 C CB G b tb ti p x ed l n' cnt lg is rs t es cs :=
  ⟨h.bx.mono le, h.tab, h.buf, h.mach, h.past, h.lb, h.le, h.be⟩
theorem Held.sqB {a : Addr} {us : List V} (h : Held K C0 C CB G b tb ti p x ed l n cnt lg is rs t es cs) (s : But b G G') (hc : SqT K G a us) : SqT K G' a us := by
  obtain ⟨_, _, _, e, _⟩ := h.bx
  exact s.tup e hc
theorem Held.sq2 {a : Addr} {us : List V} (h : Held K C0 C CB G b tb ti p x ed l n cnt lg is rs t es cs) (s : But2 p ed G G') (hc : SqT K G a us) : SqT K G' a us := SqT.but3 (.of2 s) (h.buf.apart h.bx h.be) hc
theorem Held.sq3 {a : Addr} {us : List V} (h : Held K C0 C CB G b tb ti p x ed l n cnt lg is rs t es cs) (s : But3 b p ed G G') (hc : SqT K G a us) : SqT K G' a us := SqT.but3 s (h.buf.apart h.bx h.be) hc
theorem Held.box (h : Held K C0 C CB G b tb ti p x ed l n cnt lg is rs t es cs) (s : But b G G') (B : BoxAt G' b n') : Held K C0 C CB G' b tb ti p x ed l n' cnt lg is rs t es cs :=
  ⟨B, h.tab.but s h.bx, h.buf.butB s h.bx h.be, h.mach.but s h.bx, h.past.map (fun _ e => s _ _ e h.lb) (fun e => h.sqB s e), h.lb, h.le, h.be⟩
theorem Held.lp (h : Held K C0 C CB G b tb ti p x ed l n cnt lg is rs t es cs) : l ≠ p := fun z => by
  obtain ⟨ws, e⟩ := h.past.list
  obtain ⟨dx, sn, vs, h1, _⟩ := h.buf.ob
  rw [z, h1] at e
  cases e
theorem Held.but3 (h : Held K C0 C CB G b tb ti p x ed l n cnt lg is rs t es cs) (s : But3 b p ed G G') (B : BoxAt G' b n') (hB : BufAt K C CB (mpOf is) G' p x ed t' es') : Held K C0 C CB G' b tb ti p x ed l n' cnt lg is rs t' es' cs := by
  have A := h.buf.apart h.bx h.be
  exact ⟨B, h.tab.but3 s A, hB, h.mach.but3 s A, h.past.map (fun _ e => s _ _ e h.lb h.lp h.le) (fun e => h.sq3 s e), h.lb, h.le, h.be⟩
theorem Held.but2 (h : Held K C0 C CB G b tb ti p x ed l n cnt lg is rs t es cs) (s : But2 p ed G G') (hB : BufAt K C CB (mpOf is) G' p x ed t' es') : Held K C0 C CB G' b tb ti p x ed l n cnt lg is rs t' es' cs :=
  h.but3 (.of2 s) ((h.buf.apart h.bx h.be).box s h.bx) hB
theorem Held.sqL {a : Addr} {us : List V} (h : Held K C0 C CB G b tb ti p x ed l n cnt lg is rs t es cs) (s : But l G G') (hc : SqT K G a us) : SqT K G' a us := by
  obtain ⟨ws, e⟩ := h.past.list
  exact s.tup e hc
theorem Held.lst (h : Held K C0 C CB G b tb ti p x ed l n cnt lg is rs t es cs) (s : But l G G') (hp : Past K G' l cs') : Held K C0 C CB G' b tb ti p x ed l n cnt lg is rs t es cs' := by
  obtain ⟨ws, e⟩ := h.past.list
  exact ⟨h.bx.butL s h.lb, h.tab.butL s e, h.buf.butL s e h.le, h.mach.butL s e, hp, h.lb, h.le, h.be⟩
end
/-! ### what is compared -/
theorem shaped_bs {bs : List Int} (hb : ∀ y ∈ bs, y.natAbs < 2 ^ 1000) : SeqAt.shaped (intsD bs) = true := by
  have f := flat_ints hb
  unfold SeqAt.shaped
  simp [PyData.canLay0, PyData.depth, f.lay, f.dep]
theorem rows_lay : ∀ {cs : List (List Int)}, (∀ bs ∈ cs, ∀ y ∈ bs, y.natAbs < 2 ^ 1000) → PyData.canLayAll0 (cs.map intsD) = true ∧ PyData.depthAll (cs.map intsD) ≤ 1
  | [], _ => ⟨by simp [PyData.canLayAll0], by simp [PyData.depthAll]⟩
  | bs :: cs, h => by
    obtain ⟨h1, h2⟩ := rows_lay (cs := cs) fun b hb => h b (List.mem_cons_of_mem _ hb)
    have f := flat_ints (h bs List.mem_cons_self)
    refine ⟨by simp [PyData.canLayAll0, PyData.canLay0, f.lay, h1], ?_⟩
    simp [PyData.depthAll, PyData.depth, f.dep]
    exact Nat.max_le.mpr ⟨Nat.le_refl _, h2⟩
theorem shaped_rows {cs : List (List Int)} (h : ∀ bs ∈ cs, ∀ y ∈ bs, y.natAbs < 2 ^ 1000) : SeqAt.shaped (.list (cs.map intsD)) = true := by
  obtain ⟨h1, h2⟩ := rows_lay h
  unfold SeqAt.shaped
  simp [PyData.canLay0, PyData.depth, h1]
  omega
end Ov
namespace Ov
open PySem PySem.Spec PyProof.Rows L2
/-- a code beside another -/
theorem code_ne {K : PySem.W.Frag} {G : Hp} {c e : Addr} {bs cs : List Int} {Q : VK} (hc : SqT K G c (bs.map V.int)) (he : SqT K G e (cs.map V.int)) (sm : ∀ y ∈ bs, y.natAbs < 2 ^ 1000) (sn : ∀ y ∈ cs, y.natAbs < 2 ^ 1000) (q : Q (.bl (!PyData.eqv (intsD bs) (intsD cs))) G) : rNeD K (.ref c) (.ref e) G Q :=
  ⟨intsD bs, intsD cs, .tup hc (dp_ints _), .tup he (dp_ints _), shaped_bs sm, shaped_bs sn, q⟩
theorem eqv_same {bs : List Int} (sm : ∀ y ∈ bs, y.natAbs < 2 ^ 1000) : PyData.eqv (intsD bs) (intsD bs) = true := SeqAt.eqv_refl _ (SeqAt.canLay_of_shaped (shaped_bs sm))
end Ov
namespace Ov
open PySem PySem.Spec PyProof.Rows L2
theorem eqv_nonL (a : PyData) (as : List PyData) : PyData.eqv (.list (a :: as)) (.list []) = false := by simp [PyData.eqv, PyData.eqvAll]
theorem eqv_nonT (a : PyData) (as : List PyData) : PyData.eqv (.tuple (a :: as)) (.tuple []) = false := by simp [PyData.eqv, PyData.eqvAll]
theorem keepU3 {U G G' : Hp} {b p ed : Addr} (s : Same U G) (k : But3 b p ed G G') (n0 : U b = none) (n : U p = none) (m : U ed = none) : Same U G' := fun a o e => k a o (s a o e) (ne_of_none e n0) (ne_of_none e n) (ne_of_none e m)
theorem dp_past {K : PySem.W.Frag} {H : Hp} : ∀ {as : List Addr} {cs : List (List Int)}, as.length = cs.length → (∀ (i : Nat) (a : Addr) (c : List Int), as[i]? = some a → cs[i]? = some c → SqT K H a (c.map V.int)) → DpAll K H (as.map V.ref) (cs.map intsD)
  | [], [], _, _ => .nil
  | [], _ :: _, h, _ => by simp at h
  | _ :: _, [], h, _ => by simp at h
  | a :: as, c :: cs, h, q => .cons (.tup (q 0 a c rfl rfl) (dp_ints _)) (dp_past (by simpa using h) fun i x y e1 e2 => q (i + 1) x y e1 e2)
/-- a list of past codes beside an empty one -/
theorem past_ne {K : PySem.W.Frag} {C : Cx} {G : Hp} {l e : Addr} {cs : List (List Int)} {Q : VK} (hp : Past K G l cs) (he : G e = some (.lst [])) (sm : ∀ bs ∈ cs, ∀ y ∈ bs, y.natAbs < 2 ^ 1000) (q : Q (.bl (decide (cs ≠ []))) G) : rNeD K (.ref l) (.ref e) G Q := by
  obtain ⟨as, h1, h2, h3⟩ := hp.ex
  refine ⟨.list (cs.map intsD), .list [], .lst (SqL.of h1) (dp_past h2 h3), .lst (SqL.of he) .nil, shaped_rows sm, shaped_rows (cs := []) (fun _ h => nomatch h), ?_⟩
  cases cs with
  | nil =>
    rw [show PyData.eqv (.list (([] : List (List Int)).map intsD)) (.list []) = true from SeqAt.eqv_refl _ (SeqAt.canLay_of_shaped (shaped_rows (cs := []) fun _ h => nomatch h))]
    exact q
  | cons c cs =>
    rw [List.map_cons, eqv_nonL]
    exact q
end Ov
namespace Ov
open PySem PySem.Spec PyProof.Rows L2
/-! ### undo where nothing is to be undone -/
/-- NothingToUndo (0), the class of all (1) -/
structure Err82 (K : PySem.W.Frag) (mg : Str → Option Value) (C : Nat → Addr) : Prop where
  g0 : mg "NothingToUndo" = some (.ref (C 0))
  gO : mg "OverlapError" = some (.ref (C 1))
  exm : PySem.W.exmOne K (.ref (C 0)) (.ref (C 1)) = some true
  xi : PySem.W.excIn K (C 0) [.type "ValueError", .type "Exception", .type "BaseException", .type "object"] "ValueError.__new__" = true
  kp : PySem.W.keepIn K (.ref (C 0)) = true
  sub : PySem.W.subIn K (.ref (C 0)) (.type "BaseException") = some true
  ty : PySem.W.typeIn K (.ref (C 0)) = some (.type "type")
section
variable {P : Program} {w : World} {K : PySem.W.Frag} {mg : Str → Option Value} {base : Heap}
def spBUndE (K : PySem.W.Frag) (C CB CN : Addr) : Sp := fun vs H _ E => ∃ (p x ed : Addr) (mp : List Int → List PM) (t : Spn), vs = [.ref p] ∧ BufAt K C CB mp H p x ed t [] ∧ E (.ref CN) none H
theorem ok_bUndE {f C CB : Addr} {Ce : Nat → Addr} {fd : FuncData} {k : Nat} (F : Fun K "undo" "CodeBuffer.undo" sBUnd f fd) (T : Bi mg) (B : BufTxt K mg CB) (S : Err82 K mg Ce) : FnOk P w K mg base (L2.CX P w) (k + 1) f fd ["self"] (spBUndE K C CB (Ce 0)) := by
  refine F.okX scBUnd (fun vs H Q E h => ?_) (fun cdv A' outer s H vs Q E hr h => ?_)
  · obtain ⟨p, x, ed, mp, t, rfl, _⟩ := h
    rfl
  · obtain ⟨p, x, ed, mp, t, rfl, hB, q⟩ := h
    refine ⟨_, pss_cons (ps_if (pt_cmpR op_eq (pe_callB call_len_seq (by rfl) T.len PySem.boot_len (pa_cons (pe_fld (pv 0) rfl) pa_nil)) pe_int (nomark _)) (pss_one (ps_raise rfl (takes_of rfl rfl rfl rfl) (pmk_own0 PySem.F.excBase_ValueError S.xi S.g0 S.kp (raises_own S.sub S.ty) (by rfl)))) pss_nil)
      (pss_cons ps_never (pss_one ps_never)), ?_⟩
    obtain ⟨dx, sn, evs, hp, hs, hed, hE⟩ := hB.ob
    cases hE
    exact ⟨_, rfl, p, CB, dx, _, _, rfl, hp, B.cl, B.nE, b_edits _ _ _, ed, _, rfl, .inl (SqL.of hed), rfl, _, rfl, iteT q⟩
/-! ### _law_is_bare -/
def spBare (K : PySem.W.Frag) (C CB : Addr) : Sp := fun vs H Q _ => ∃ (p x ed : Addr) (mp : List Int → List PM) (t : Spn), vs = [.ref p] ∧ BufAt K C CB mp H p x ed t [] ∧ ∀ G, Same H G → Q (.bl true) G
abbrev nBare : List Str := ["_law_buffer", "_law_caught", "error"]
theorem scBare : FnScope nBare ["_law_buffer"] (defScope s_law_is_bare) := ⟨rfl, rfl, rfl, by decide +kernel, rfl, by decide +kernel, by decide +kernel⟩
theorem ok_bare {f fU C CB : Addr} {Ce : Nat → Addr} {fd fdU : FuncData} {k : Nat} (F : Fun K "_law_is_bare" "_law_is_bare" s_law_is_bare f fd) (T : Bi mg) (B : BufTxt K mg CB) (S : Err82 K mg Ce)
    (MU : Meth K CB "undo" fU) (bU : Binds K fdU ["self"] []) (GU : FnOk P w K mg base (L2.CX P w) k fU fdU ["self"] (spBUndE K C CB (Ce 0))) :
    FnOk P w K mg base CX0 (k + 1) f fd ["_law_buffer"] (spBare K C CB) := by
  refine F.ok scBare (fun vs H Q E h => ?_) (fun cdv A' outer s H vs Q E hr h => ?_)
  · obtain ⟨p, x, ed, mp, t, rfl, _⟩ := h
    rfl
  · obtain ⟨p, x, ed, mp, t, rfl, hB, q⟩ := h
    refine ⟨_, pss_cons (ps_set (i := 1) scBare.nd rfl (.inl rfl) pe_non)
      (C8.pss_cut (ps_keep (X := (cxOf CX0 P w K mg base nBare "_law_is_bare" (defScope s_law_is_bare) f cdv A' outer s H E).nox) (c := .ref (Ce 1)) (i := 2)
        (tb := fun W => tDrop (tMethS CB "undo" (spBUndE K C CB (Ce 0)) (fun σ => WE W σ) (tVar 0) tNil))
        (ts := fun a cls d => tAsg (tVar 2) (gName 1))
        rfl rfl rfl scBare.nd rfl rfl ⟨rfl, by decide, .inl S.gO⟩ L2.takes0
        (fun W pn xe tk _ => pss_one (ps_expr (pe_methS0 (pv 0) B.cl MU GU hr bU (passAt tk))))
        (fun a ob cls d pn hz hf => pss_one (ps_set (i := 1) scBare.nd rfl (.inl rfl) (pv 2))))
      (pss_one (ps_ret (pe_cmpR op_notN (pv 1) pe_non (nomark _))))), ?_⟩
    obtain ⟨dx, sn, evs, hp, _⟩ := hB.ob
    have nU := b_no x sn ed (m := "undo") (by decide +kernel) (by decide +kernel) (by decide +kernel)
    refine ⟨fun σ G => ∃ a, σ = [some (.ref p), some (.ref a), none] ∧ Same H G ∧ Err0 G a (Ce 0), ?_, ?_⟩
    · refine ⟨_, rfl, p, dx, _, rfl, hp, nU, p, x, ed, mp, t, rfl, hB, true, S.exm, fun _ a na => ⟨_, rfl, _, rfl, same_upd na, upd_same⟩, fun z => nomatch z⟩
    · rintro σ G ⟨a, rfl, sG, Ea⟩
      refine ⟨_, rfl, rfl, ?_⟩
      exact q _ sG
end
end Ov
namespace Ov
open PySem PySem.Spec PyProof.Rows L2
/-! ### two buffers and two lists -/
theorem But3.of1' {b p ed : Addr} {H H' : Hp} (s : But b H H') : But3 b p ed H H' := fun a o e n _ _ => s a o e n
theorem BufAt.other3 {K : PySem.W.Frag} {C CB b p x ed p' x' ed' : Addr} {mp : List Int → List PM} {H H' : Hp} {t t' : Spn} {es es' : List Edit} {n : Nat} (h : BufAt K C CB mp H p x ed t es) (h' : BufAt K C CB mp H p' x' ed' t' es') (np : p ≠ p') (ne : ed ≠ ed') (B : BoxAt H b n) (be : b ≠ ed) (be' : b ≠ ed') (s : But3 b p' ed' H H') : BufAt K C CB mp H' p x ed t es := by
  have A := h'.apart B be'
  obtain ⟨dx', sn', vs', k1, _, k3, _⟩ := h'.ob
  obtain ⟨⟨dx, sn, vs, h1, h2, h3, h4⟩, ok, few⟩ := h
  have B' := B
  obtain ⟨_, _, _, eb, _⟩ := B'
  refine ⟨⟨dx, sn, vs, s _ _ h1 (fun z => by rw [z, eb] at h1; cases h1) np (fun z => by rw [z, k3] at h1; cases h1), h2.but3 s A, s _ _ h3 (fun z => be z.symm) (fun z => by rw [z, k1] at h3; cases h3) ne, h4.but3 s A⟩, ok, few⟩
/-- what never changes: where things lie -/
structure Fx82 (U : Hp) (b p ed p' ed' l l' : Addr) : Prop where
  ub : U b = none
  up : U p = none
  ue : U ed = none
  up' : U p' = none
  ue' : U ed' = none
  ul : U l = none
  ul' : U l' = none
  be : b ≠ ed
  be' : b ≠ ed'
  pp : p ≠ p'
  ee : ed ≠ ed'
  lb : l ≠ b
  le : l ≠ ed
  le' : l ≠ ed'
  mb : l' ≠ b
  me : l' ≠ ed
  me' : l' ≠ ed'
  ll : l ≠ l'
structure Hd82 (K : PySem.W.Frag) (C CB : Addr) (mp : List Int → List PM) (U G : Hp) (b p ed p' ed' x l l' : Addr) (n : Nat) (t t' : Spn) (es es' : List Edit) (cs : List (List Int)) (ws : List V) : Prop where
  s : Same U G
  bx : BoxAt G b n
  b1 : BufAt K C CB mp G p x ed t es
  b2 : BufAt K C CB mp G p' x ed' t' es'
  past : Past K G l cs
  bes : G l' = some (.lst ws)
section
variable {K : PySem.W.Frag} {C CB : Addr} {mp : List Int → List PM} {U G G' : Hp} {b p ed p' ed' x l l' : Addr} {n n' : Nat} {t t' t2 : Spn} {es es' e2 : List Edit} {cs cs' : List (List Int)} {ws ws' : List V}
theorem Hd82.mono (h : Hd82 K C CB mp U G b p ed p' ed' x l l' n t t' es es' cs ws) (le : n ≤ n') : Hd82 K C CB mp U G b p ed p' ed' x l l' n' t t' es es' cs ws := ⟨h.s, h.bx.mono le, h.b1, h.b2, h.past, h.bes⟩
theorem Hd82.same (h : Hd82 K C CB mp U G b p ed p' ed' x l l' n t t' es es' cs ws) (s : Same G G') : Hd82 K C CB mp U G' b p ed p' ed' x l l' n t t' es es' cs ws := ⟨h.s.trans s, h.bx.same s, h.b1.same s, h.b2.same s, h.past.same s, s _ _ h.bes⟩
theorem Hd82.sqB {a : Addr} {us : List V} (h : Hd82 K C CB mp U G b p ed p' ed' x l l' n t t' es es' cs ws) (s : But b G G') (hc : SqT K G a us) : SqT K G' a us := by
  obtain ⟨_, _, _, e, _⟩ := h.bx
  exact s.tup e hc
theorem Hd82.box (f : Fx82 U b p ed p' ed' l l') (h : Hd82 K C CB mp U G b p ed p' ed' x l l' n t t' es es' cs ws) (s : But b G G') (B : BoxAt G' b n') : Hd82 K C CB mp U G' b p ed p' ed' x l l' n' t t' es es' cs ws :=
  ⟨keepU h.s s f.ub, B, h.b1.butB s h.bx f.be, h.b2.butB s h.bx f.be', h.past.map (fun _ e => s _ _ e f.lb) (fun e => h.sqB s e), s _ _ h.bes f.mb⟩
theorem Hd82.sq1 {a : Addr} {us : List V} (f : Fx82 U b p ed p' ed' l l') (h : Hd82 K C CB mp U G b p ed p' ed' x l l' n t t' es es' cs ws) (s : But3 b p ed G G') (hc : SqT K G a us) : SqT K G' a us := SqT.but3 s (h.b1.apart h.bx f.be) hc
theorem Hd82.sq2 {a : Addr} {us : List V} (f : Fx82 U b p ed p' ed' l l') (h : Hd82 K C CB mp U G b p ed p' ed' x l l' n t t' es es' cs ws) (s : But3 b p' ed' G G') (hc : SqT K G a us) : SqT K G' a us := SqT.but3 s (h.b2.apart h.bx f.be') hc
theorem Hd82.lp (h : Hd82 K C CB mp U G b p ed p' ed' x l l' n t t' es es' cs ws) : l ≠ p ∧ l ≠ p' ∧ l' ≠ p ∧ l' ≠ p' := by
  obtain ⟨vs, e⟩ := h.past.list
  have e2 := h.bes
  obtain ⟨dx, sn, evs, h1, _⟩ := h.b1.ob
  obtain ⟨dx', sn', evs', h2, _⟩ := h.b2.ob
  exact ⟨(fun z => by rw [z, h1] at e; cases e), (fun z => by rw [z, h2] at e; cases e), (fun z => by rw [z, h1] at e2; cases e2), (fun z => by rw [z, h2] at e2; cases e2)⟩
theorem Hd82.ed1 (f : Fx82 U b p ed p' ed' l l') (h : Hd82 K C CB mp U G b p ed p' ed' x l l' n t t' es es' cs ws) (s : But3 b p ed G G') (B : BoxAt G' b n') (hB : BufAt K C CB mp G' p x ed t2 e2) : Hd82 K C CB mp U G' b p ed p' ed' x l l' n' t2 t' e2 es' cs ws := by
  obtain ⟨q1, q2, q3, q4⟩ := h.lp
  exact ⟨keepU3 h.s s f.ub f.up f.ue, B, hB, h.b2.other3 h.b1 (Ne.symm f.pp) (Ne.symm f.ee) h.bx f.be' f.be s, h.past.map (fun _ e => s _ _ e f.lb q1 f.le) (fun e => h.sq1 f s e), s _ _ h.bes f.mb q3 f.me⟩
theorem Hd82.ed2 (f : Fx82 U b p ed p' ed' l l') (h : Hd82 K C CB mp U G b p ed p' ed' x l l' n t t' es es' cs ws) (s : But3 b p' ed' G G') (B : BoxAt G' b n') (hB : BufAt K C CB mp G' p' x ed' t2 e2) : Hd82 K C CB mp U G' b p ed p' ed' x l l' n' t t2 es e2 cs ws := by
  obtain ⟨q1, q2, q3, q4⟩ := h.lp
  exact ⟨keepU3 h.s s f.ub f.up' f.ue', B, h.b1.other3 h.b2 f.pp f.ee h.bx f.be f.be' s, hB, h.past.map (fun _ e => s _ _ e f.lb q2 f.le') (fun e => h.sq2 f s e), s _ _ h.bes f.mb q4 f.me'⟩
theorem Hd82.un1 (f : Fx82 U b p ed p' ed' l l') (h : Hd82 K C CB mp U G b p ed p' ed' x l l' n t t' es es' cs ws) (s : But2 p ed G G') (hB : BufAt K C CB mp G' p x ed t2 e2) : Hd82 K C CB mp U G' b p ed p' ed' x l l' n t2 t' e2 es' cs ws :=
  h.ed1 f (.of2 s) ((h.b1.apart h.bx f.be).box s h.bx) hB
theorem Hd82.sqL {a : Addr} {us : List V} (h : Hd82 K C CB mp U G b p ed p' ed' x l l' n t t' es es' cs ws) (s : But l G G') (hc : SqT K G a us) : SqT K G' a us := by
  obtain ⟨vs, e⟩ := h.past.list
  exact s.tup e hc
theorem Hd82.lst (f : Fx82 U b p ed p' ed' l l') (h : Hd82 K C CB mp U G b p ed p' ed' x l l' n t t' es es' cs ws) (s : But l G G') (hp : Past K G' l cs') : Hd82 K C CB mp U G' b p ed p' ed' x l l' n t t' es es' cs' ws := by
  obtain ⟨vs, e⟩ := h.past.list
  exact ⟨keepU h.s s f.ul, h.bx.butL s f.lb, h.b1.butL s e f.le, h.b2.butL s e f.le', hp, s _ _ h.bes (Ne.symm f.ll)⟩
theorem Hd82.sqM {a : Addr} {us : List V} (h : Hd82 K C CB mp U G b p ed p' ed' x l l' n t t' es es' cs ws) (s : But l' G G') (hc : SqT K G a us) : SqT K G' a us := s.tup h.bes hc
theorem Hd82.lst' (f : Fx82 U b p ed p' ed' l l') (h : Hd82 K C CB mp U G b p ed p' ed' x l l' n t t' es es' cs ws) (s : But l' G G') (hw : G' l' = some (.lst ws')) : Hd82 K C CB mp U G' b p ed p' ed' x l l' n t t' es es' cs ws' :=
  ⟨keepU h.s s f.ul', h.bx.butL s f.mb, h.b1.butL s h.bes f.me, h.b2.butL s h.bes f.me', h.past.map (fun _ e => s _ _ e f.ll) (fun e => h.sqM s e), hw⟩
end
end Ov
namespace Ov
open PySem PySem.Spec PyProof.Rows L2
section
variable {P : Program} {w : World} {K : PySem.W.Frag} {mg : Str → Option Value} {base : Heap}
/-! ### _law_right -/
def spRight : Sp := fun vs H Q _ => ∃ (p : Addr), vs = [.ref p] ∧ BoxAt H p 0 ∧ ∀ H', But p H H' → Q (.bl true) H'
abbrev nRight : List Str := ["_law_box_here", "_law_table_here", "_law_machine_here", "_law_code", "_law_buffer", "_law_past", "_law_other", "_law_beside", "_law_second", "_law_turn", "_law_edit_here", "_law_again"]
theorem scRight : FnScope nRight ["_law_box_here"] (defScope sRight) := ⟨rfl, rfl, rfl, by decide +kernel, rfl, by decide +kernel, by decide +kernel⟩
theorem ok_right {fz fSm fMa fBy fT fO fI fBr fU fEd fNw fL fCo C0 C CB : Addr} {fd fdSm fdMa fdBy fdT fdO fdI fdBr fdU fdEd fdNw fdL fdCo : FuncData} {k : Nat} (F : Fun K "_law_right" "_law_right" sRight fz fd) (T : Bi mg) (B : BufTxt K mg CB)
    (Sm : Def K mg "_law_small" sSmall fSm fdSm ["_law_box_here"]) (GSm : FnOk P w K mg base CX0 (k + 1) fSm fdSm ["_law_box_here"] spSmall)
    (Ma : Def K mg "_law_machine" sMachine fMa fdMa ["_law_table_here"]) (GMa : FnOk P w K mg base CX0 (k + 1) fMa fdMa ["_law_table_here"] (spMachine C0))
    (By : Def K mg "_law_bytes" sBytes fBy fdBy ["_law_box_here", "_law_table_here", "_law_many"]) (GBy : FnOk P w K mg base CX0 (k + 1) fBy fdBy ["_law_box_here", "_law_table_here", "_law_many"] spBytes)
    (Tk : Def K mg "_law_take" sTake fT fdT ["_law_box_here", "_law_many"]) (GT : FnOk P w K mg base CX0 (k + 1) fT fdT ["_law_box_here", "_law_many"] spTake)
    (O : Def K mg "_law_of" sOf fO fdO ["_law_box_here", "_law_some"]) (GO : FnOk P w K mg base CX0 (k + 1) fO fdO ["_law_box_here", "_law_some"] spOf)
    (MI : L2.Mk K CB fI) (bI : Binds K fdI ["self", "instruction_set", "code"] []) (GI : FnOk P w K mg base CX0 k fI fdI ["self", "instruction_set", "code"] (spBInit K C0 C CB 0))
    (Br : Def K mg "_law_is_bare" s_law_is_bare fBr fdBr ["_law_buffer"]) (GBr : FnOk P w K mg base CX0 (k + 1) fBr fdBr ["_law_buffer"] (spBare K C CB))
    (MU : Meth K CB "undo" fU) (bU : Binds K fdU ["self"] []) (GU : FnOk P w K mg base CX0 (k + 1) fU fdU ["self"] (spBUnd K C CB))
    (Ed : Def K mg "_law_edited" s_law_edited fEd fdEd ["_law_box_here", "_law_table_here", "_law_buffer", "_law_code", "_law_most"]) (GEd : FnOk P w K mg base CX0 (k + 1) fEd fdEd ["_law_box_here", "_law_table_here", "_law_buffer", "_law_code", "_law_most"] (spLEdited K C0 C CB))
    (Nw : Def K mg "_law_is_new" s_law_is_new fNw fdNw ["_law_box_here", "_law_table_here", "_law_machine_here", "_law_buffer", "_law_code"]) (GNw : FnG P w K mg base (k + 1) fNw fdNw ["_law_box_here", "_law_table_here", "_law_machine_here", "_law_buffer", "_law_code"] (spNew82 K C0 C CB))
    (ML : Meth K CB "length" fL) (bL : Binds K fdL ["self"] []) (GL : FnOk P w K mg base CX0 (k + 1) fL fdL ["self"] (spBLength K C CB))
    (MC : Meth K CB "code" fCo) (bC : Binds K fdCo ["self", "start", "stop"] []) (GC : FnOk P w K mg base CX0 (k + 1) fCo fdCo ["self", "start", "stop"] (spBCode K C0 C CB)) :
    FnG P w K mg base (k + 2) fz fd ["_law_box_here"] spRight := by
  refine okG F scRight (fun vs H Q E h => ?_) (fun cdv A' outer s H vs Q E gd hr h => ?_)
  · obtain ⟨b, rfl, _⟩ := h
    rfl
  · obtain ⟨b, rfl, Bx, q⟩ := h
    refine ⟨_, pss_cons (ps_set (i := 1) scRight.nd rfl (.inl rfl) (pe_call GSm hr (by rfl) Sm.gl Sm.fn.kp Sm.bi .nil pass0 (pa_cons (pv 0) pa_nil)))
      (pss_cons (ps_par (i := 2) (j := 3) (by rfl) scRight.nd rfl rfl (by decide) rfl rfl (pa_cons (pe_call GMa hr (by rfl) Ma.gl Ma.fn.kp Ma.bi .nil pass0 (pa_cons (pv 1) pa_nil)) (pa_cons (pe_call GBy hr (by rfl) By.gl By.fn.kp By.bi .nil pass0 (pa_cons (pv 0) (pa_cons (pv 1) (pa_cons (pe_call GT hr (by rfl) Tk.gl Tk.fn.kp Tk.bi .nil pass0 (pa_cons (pv 0) (pa_cons pe_int pa_nil))) pa_nil)))) pa_nil)) (by rfl))
      (pss_cons (ps_par (i := 4) (j := 5) (by rfl) scRight.nd rfl rfl (by decide) rfl rfl (pa_cons (pe_make MI GI hr (by rfl) B.mgC bI .nil pass0 (pa_cons (pv 2) (pa_cons (pv 3) pa_nil))) (pa_cons (pe_lst pa_nil) pa_nil)) (by rfl))
      (pss_cons (ps_par (i := 6) (j := 7) (by rfl) scRight.nd rfl rfl (by decide) rfl rfl (pa_cons (pe_call GBy hr (by rfl) By.gl By.fn.kp By.bi .nil pass0 (pa_cons (pv 0) (pa_cons (pv 1) (pa_cons pe_int pa_nil)))) (pa_cons (pe_lst pa_nil) pa_nil)) (by rfl))
      (pss_cons (ps_set (i := 8) scRight.nd rfl (.inl rfl) (pe_make MI GI hr (by rfl) B.mgC bI .nil pass0 (pa_cons (pv 2) (pa_cons (pv 6) pa_nil))))
      (pss_cons (ps_for PassesOwn.never rfl (pi_range1 (by rfl) T.range (pa_cons pe_int pa_nil)) (pg_name (i := 9) scRight.nd rfl (.inl rfl))
        (pss_cons (ps_expr (pe_bm PySem.F.plainAttrs_list PySem.F.slot_list_append PySem.F.type_list_append mt_append (pv 5) (pa_cons (pv 3) pa_nil)))
        (pss_cons (ps_asg (pe_call GEd hr (by rfl) Ed.gl Ed.fn.kp Ed.bi .nil pass0 (pa_cons (pv 0) (pa_cons (pv 1) (pa_cons (pv 4) (pa_cons (pv 3) (pa_cons pe_int pa_nil)))))) (pg_tup rfl (pgs_cons (pg_name (i := 3) scRight.nd rfl (.inl rfl)) (pgs_cons (pg_name (i := 10) scRight.nd rfl (.inl rfl)) pgs_nil))))
        (pss_cons (ps_if (PW.pt (pw_or (pt_cmpR op_isN (pv 3) pe_non (nomark _)) (pw_or1 (pt_not (pt_val (pe_callG GNw gd hr (by rfl) Nw.gl Nw.fn.kp Nw.bi (pa_cons (pv 0) (pa_cons (pv 1) (pa_cons (pv 2) (pa_cons (pv 4) (pa_cons (pv 3) pa_nil))))))))))) (pss_one (ps_ret pe_bl)) pss_nil)
        (pss_cons (ps_for PassesOwn.never rfl (pi_range1 (by rfl) T.range (pa_cons (pe_callB (call_min2 rfl) (by rfl) T.min (by decide +kernel) (pa_cons (pe_callB call_len_seq (by rfl) T.len PySem.boot_len (pa_cons (pv 5) pa_nil)) (pa_cons (pe_call GO hr (by rfl) O.gl O.fn.kp O.bi .nil pass0 (pa_cons (pv 0) (pa_cons (pe_lst (pa_cons pe_int (pa_cons pe_int (pa_cons pe_int (pa_cons pe_int (pa_cons pe_int pa_nil)))))) pa_nil))) pa_nil))) pa_nil)) (pg_name (i := 11) scRight.nd rfl (.inl rfl))
          (pss_cons (ps_set (i := 3) scRight.nd rfl (.inl rfl) (pe_bm0 PySem.F.plainAttrs_list PySem.F.slot_list_pop PySem.F.type_list_pop mt_pop (pv 5)))
          (pss_one (ps_expr (pe_meth0 (pv 4) B.cl MU GU hr bU .nil pass0)))))
        (pss_cons (ps_expr (pe_bm PySem.F.plainAttrs_list PySem.F.slot_list_append PySem.F.type_list_append mt_append (pv 7) (pa_cons (pv 6) pa_nil)))
        (pss_cons (ps_asg (pe_call GEd hr (by rfl) Ed.gl Ed.fn.kp Ed.bi .nil pass0 (pa_cons (pv 0) (pa_cons (pv 1) (pa_cons (pv 8) (pa_cons (pv 6) (pa_cons pe_int pa_nil)))))) (pg_tup rfl (pgs_cons (pg_name (i := 6) scRight.nd rfl (.inl rfl)) (pgs_cons (pg_name (i := 10) scRight.nd rfl (.inl rfl)) pgs_nil))))
        (pss_one (ps_if (PW.pt (pw_or (pt_cmpR (op_neD hr.units) (pe_meth (pv 8) B.cl MC GC hr bC .nil pass0 (pa_cons pe_int (pa_cons (pe_meth0 (pv 8) B.cl ML GL hr bL .nil pass0) pa_nil))) (pv 6) (nomark _)) (pw_or1 (pt_not (pt_val (pe_callG GNw gd hr (by rfl) Nw.gl Nw.fn.kp Nw.bi (pa_cons (pv 0) (pa_cons (pv 1) (pa_cons (pv 2) (pa_cons (pv 4) (pa_cons (pv 3) pa_nil))))))))))) (pss_one (ps_ret pe_bl)) pss_nil)))))))))
      (pss_cons (ps_while PassesOwn.never (pt_cmpR (op_neD hr.units) (pv 5) (pe_lst pa_nil) (nomark _))
        (pss_cons (ps_expr (pe_meth0 (pv 4) B.cl MU GU hr bU .nil pass0))
        (pss_one (ps_if (pt_cmpR (op_neD hr.units) (pe_meth (pv 4) B.cl MC GC hr bC .nil pass0 (pa_cons pe_int (pa_cons (pe_meth0 (pv 4) B.cl ML GL hr bL .nil pass0) pa_nil))) (pe_bm0 PySem.F.plainAttrs_list PySem.F.slot_list_pop PySem.F.type_list_pop mt_pop (pv 5)) (nomark _)) (pss_one (ps_ret pe_bl)) pss_nil))))
      (pss_one (ps_ret (pe_and (pe_call GBr hr (by rfl) Br.gl Br.fn.kp Br.bi .nil pass0 (pa_cons (pv 4) pa_nil)) (pe_one (pe_cmpR (op_eqD hr.units) (pe_meth (pv 8) B.cl MC GC hr bC .nil pass0 (pa_cons pe_int (pa_cons (pe_meth0 (pv 8) B.cl ML GL hr bL .nil pass0) pa_nil))) (pv 6) (nomark _)))))))))))), ?_⟩
    -- the table, the machine, the code
    refine ⟨_, rfl, b, 0, rfl, Bx, by decide, fun H1 t cnt lg is ti rs b1 B1 nt T1 => ?_⟩
    refine ⟨_, rfl, t, ti, cnt, lg, is, rs, rfl, T1, fun H2 x s2 nx SA2 => ?_⟩
    have T2 := T1.same s2
    have B2 := B1.same s2
    have M2 : Mach C0 H2 x cnt lg ti is rs := ⟨SA2, T2.its, T2.rows, T2.ok⟩
    refine ⟨_, rfl, _, rfl, _, rfl, b, 21, _, rfl, B2, by decide, by decide, by decide, fun H3 m b3 B3 m0 m1 f3 => ?_⟩
    obtain ⟨mn, rfl⟩ : ∃ mn : Nat, m = (mn : Int) := ⟨m.toNat, by omega⟩
    have T3 := T2.but b3 B2
    have M3 := M2.but b3 B2
    refine ⟨b, t, _, cnt, lg, is, ti, rs, mn, rfl, B3, by decide, T3, by omega, fun H4 c bs b4 B4 nc hc low bl => ?_⟩
    have T4 := T3.but b4 B3
    have M4 := M3.but b4 B3
    have b04 : But b H H4 := b1.trans ((But.of s2).trans (b3.trans b4))
    have cb : c ≠ b := fun z => B3.ne (z ▸ nc)
    have hbn : H b ≠ none := Bx.ne
    refine ⟨_, _, rfl, ?_⟩
    -- the buffer, the past
    refine ⟨_, rfl, _, rfl, fun p dp np ndp _ => make_buf np ndp (m := 0) (bs := bs) M4 (SqT.of hc) low (by show _ ≤ 32; omega) (by omega) fun H6 ed t6 s6 ned hB6 et6 => ⟨rfl, ?_⟩⟩
    refine ⟨by show 0 ≤ sizeLine; decide, fun l nl => ⟨_, _, rfl, ?_⟩⟩
    have sl := same_upd (o := HO.lst []) nl
    have hl7 := @upd_same H6 l (HO.lst [])
    have s47 := s6.trans sl
    have be : b ≠ ed := fun z => B4.ne (z ▸ ned)
    have lb : l ≠ b := fun z => (B4.same s6).ne (z ▸ nl)
    have le : l ≠ ed := fun z => hB6.here.2 (z ▸ nl)
    have lp : l ≠ p := fun z => hB6.here.1 (z ▸ nl)
    have hB7 := hB6.same sl
    have nl4 : H4 l = none := s6.free nl
    generalize upd H6 l (.lst []) = H7 at *
    have B7 := B4.same s47
    have T7 := T4.same s47
    have M7 := M4.same s47
    have hc7 := s47 _ _ hc
    -- the other code, the list beside
    refine ⟨_, rfl, _, rfl, b, t, _, cnt, lg, is, ti, rs, 6, rfl, B7, by omega, T7, by decide, fun H8 c' bs' b8 B8 nc' hc8' low' bl' => ?_⟩
    have hB8 := hB7.butB b8 B7 be
    have hl8 := b8 _ _ hl7 lb
    have hc8 := b8 _ _ hc7 cb
    have T8 := T7.but b8 B7
    have M8 := M7.but b8 B7
    have cb' : c' ≠ b := fun z => B7.ne (z ▸ nc')
    refine ⟨by show 0 ≤ sizeLine; decide, fun l' nl' => ⟨_, _, rfl, ?_⟩⟩
    have sm' := same_upd (o := HO.lst []) nl'
    have hm9 := @upd_same H8 l' (HO.lst [])
    have mb : l' ≠ b := fun z => B8.ne (z ▸ nl')
    have me : l' ≠ ed := fun z => hB8.here.2 (z ▸ nl')
    have ll : l ≠ l' := fun z => by rw [z, nl'] at hl8; cases hl8
    generalize upd H8 l' (.lst []) = H9 at *
    have B9 := B8.same sm'
    have hB9 := hB8.same sm'
    have hl9 := sm' _ _ hl8
    have hc9 := sm' _ _ hc8
    have hc9' := sm' _ _ hc8'
    have T9 := T8.same sm'
    have M9 := M8.same sm'
    -- the second buffer
    refine ⟨_, rfl, _, rfl, fun p' dp' np' ndp' _ => make_buf np' ndp' (m := 0) (bs := bs') M9 (SqT.of hc9') low' (by show _ ≤ 32; omega) (by omega) fun Ha ed' ta sa ned' hBa' eta => ⟨rfl, ?_⟩⟩
    have hBa := hB9.same sa
    have Ba := B9.same sa
    have hla := sa _ _ hl9
    have hma := sa _ _ hm9
    obtain ⟨U, hU⟩ : ∃ U, U = hid b H4 := ⟨_, rfl⟩
    have sU4 : Same U H4 := by rw [hU]; exact hid_same
    have ub : U b = none := by rw [hU]; exact hid_none
    have TU : Tab U t cnt lg is ti rs := by rw [hU]; exact T4.but hid_but B4
    have MU' : Mach C0 U x cnt lg ti is rs := by rw [hU]; exact M4.but hid_but B4
    have back : ∀ G, Same U G → But b H G := fun G sG => b04.trans (hid_back (by rw [← hU]; exact sG))
    have noU : ∀ {a : Addr} {G : Hp}, Same U G → G a = none → U a = none := fun {a G} sG e => by
      cases z : U a with
      | none => rfl
      | some o => rw [sG _ _ z] at e; cases e
    have U9 : Same U H9 := (keepU (sU4.trans s47) b8 ub).trans sm'
    have f : Fx82 U b p ed p' ed' l l' := ⟨ub, noU sU4 np, noU sU4 ned, noU U9 np', noU U9 ned', noU sU4 nl4, noU (keepU (sU4.trans s47) b8 ub) nl', be, fun z => B9.ne (z ▸ ned'), fun z => hB9.here.1 (z ▸ np'), fun z => hB9.here.2 (z ▸ ned'), lb, le, (fun z => by rw [z, ned'] at hl9; cases hl9), mb, me, (fun z => by rw [z, ned'] at hm9; cases hm9), ll⟩
    have hd0 : Hd82 K C CB (mpOf is) U Ha b p ed p' ed' x l l' 3000 t6 ta [] [] [] [] := ⟨U9.trans sa, Ba.mono (by omega), hBa, hBa', ⟨[], hla, rfl, fun i a c e _ => by simp at e⟩, hma⟩
    have hca := SqT.of (K := K) (sa _ _ hc9)
    have hca' := SqT.of (K := K) (sa _ _ hc9')
    rw [← et6] at hca low bl
    rw [← eta] at hca' low' bl'
    clear hU noU U9 sU4 hla hma b1 B1 nt T1 s2 T2 B2 M2 nx SA2 b3 B3 T3 M3 f3 b4 B4 nc hc T4 M4 b04 cb hbn np ndp ned hB6 s6 nl sl hl7 s47 be lb le lp hB7 nl4 B7 T7 M7 hc7 b8 B8 nc' hc8' hB8 hl8 hc8 T8 M8 cb' nl' sm' hm9 mb me ll B9 hB9 hl9 hc9 hc9' T9 M9 np' ndp' ned' hBa hBa' sa Ba
    -- twenty turns
    refine ⟨20, rfl, by decide, by decide, for_range (lo := 0) (n := 20) (fun i σ G => ∃ c c' t1 t2 es es' ws y9 y10 y11, σ = [some (.ref b), some (.ref t), some (.ref x), some (.ref c), some (.ref p), some (.ref l), some (.ref c'), some (.ref l'), some (.ref p'), y9, y10, y11] ∧ Hd82 K C CB (mpOf is) U G b p ed p' ed' x l l' (3000 + 100 * i) t1 t2 es es' (bsOf es) ws ∧ SqT K G c (t1.bytes.map V.int) ∧ SqT K G c' (t2.bytes.map V.int) ∧ (∀ y ∈ t1.bytes, 0 ≤ y ∧ y < (cnt : Int)) ∧ (∀ y ∈ t2.bytes, 0 ≤ y ∧ y < (cnt : Int)) ∧ t1.bytes.length ≤ 120 ∧ t2.bytes.length ≤ 30 ∧ es.length ≤ i ∧ es'.length ≤ i ∧ ws.length ≤ i ∧ ∀ e ∈ es, e.1.bytes.length ≤ 120 ∧ ∀ y ∈ e.1.bytes, 0 ≤ y ∧ y < (cnt : Int))
      ⟨c, c', t6, ta, [], [], [], none, none, none, rfl, hd0, hca, hca', low, low', by omega, by omega, Nat.le_refl _, Nat.le_refl _, Nat.le_refl _, fun _ h => nomatch h⟩ ?_ ?_⟩
    · clear hd0 hca hca' low low' bl bl' et6 eta
      rintro i σ G hi ⟨c, c', t1, t2, es, es', ws, y9, y10, y11, rfl, hd, hc, hc', low, low', few, few', esl, esl', wsl, okE⟩
      obtain ⟨as, hl, asl, aat⟩ := hd.past.ex
      have asl' : as.length ≤ 20 := by rw [asl, List.length_map]; omega
      refine ⟨_, rfl, .inl ⟨rfl, _, SqL.of hl⟩, _, rfl, l, _, _, rfl, rfl, hl, by rw [List.length_map, sizeLine_eq]; omega, ?_⟩
      obtain ⟨bt, hpp⟩ := Past.push hl asl aat hc
      have h1 := hd.lst f bt hpp
      have hc1 := hd.sqL bt hc
      have hc1' := hd.sqL bt hc'
      generalize upd G l (.lst (as.map V.ref ++ [V.ref c])) = G1 at *
      refine ⟨_, rfl, _, rfl, _, rfl, _, rfl, b, t, ti, p, x, ed, ti, c, _, cnt, lg, 120, is, rs, t1, es, t1.bytes, rfl, h1.bx, by omega, f.be, TU.same h1.s, h1.b1, MU'.same h1.s, hc1, rfl, low, few, by decide, by omega, fun G4 r q' e' t3 w st sp fs m k4 B4 hB4 o1 o2 hm lf fl et hq l4 hr4 he4 => ?_⟩
      refine ⟨r, _, rfl, SqT.of hr4, rfl, _, _, rfl, _, _, rfl, rfl, ?_⟩
      have h4 := h1.ed1 f k4 B4 hB4
      have hc4' := h1.sq1 f k4 hc1'
      have e4 : bsOf (es ++ [edOf w t1 st sp fs m]) = bsOf es ++ [t1.bytes] := by unfold bsOf edOf; rw [List.map_append]; rfl
      rw [← et] at hq l4
      have low3 : ∀ y ∈ t3.bytes, 0 ≤ y ∧ y < (cnt : Int) := by rw [et]; exact aft_mem low lf
      have ok4 : ∀ e ∈ es ++ [edOf w t1 st sp fs m], e.1.bytes.length ≤ 120 ∧ ∀ y ∈ e.1.bytes, 0 ≤ y ∧ y < (cnt : Int) := fun e he => by
        rcases List.mem_append.mp he with he | he
        · exact okE e he
        · rw [List.mem_singleton.mp he]
          exact ⟨few, low⟩
      rw [← e4] at h4
      have l4' : (es ++ [edOf w t1 st sp fs m]).length ≤ i + 1 := by rw [List.length_append, List.length_singleton]; omega
      generalize es ++ [edOf w t1 st sp fs m] = es3 at *
      refine ⟨_, rfl, rfl, _, rfl, iteF ?_⟩
      refine ⟨_, rfl, _, rfl, _, rfl, _, rfl, _, rfl, b, t, ti, p, x, ed, ti, q', _, cnt, lg, is, rs, t3, _, rfl, h4.bx, by omega, f.be, TU.same h4.s, h4.b1, MU'.same h4.s, hq, low3, l4, fun G5 b5 B5 => ⟨_, rfl, iteF ?_⟩⟩
      have h5 := h4.box f b5 B5
      have hc5 := h4.sqB b5 hq
      have hc5' := h4.sqB b5 hc4'
      clear hd h1 h4 hl asl aat asl' bt hpp hc hc' hc1 hc1' k4 B4 hB4 hq hr4 he4 hc4' b5 B5 hm et lf fl e4 okE esl
      -- some taken back
      obtain ⟨as, hl, asl, _⟩ := h5.past.ex
      refine ⟨_, rfl, l, _, rfl, .inl (SqL.of hl), _, rfl, by show 5 ≤ sizeLine; decide, fun lo nlo => ?_⟩
      have s6 := same_upd (o := HO.lst [V.int 0, V.int 0, V.int 0, V.int 1, V.int 4]) nlo
      have h6 := h5.same s6
      refine ⟨b, lo, _, _, rfl, h6.bx, by omega, upd_same, fun z => h5.bx.ne (z ▸ nlo), by decide, by decide, fun G7 v mv b7 B7 f7 => ?_⟩
      have h7 := h6.box f b7 B7
      have hc7 := h6.sqB b7 (s6.tup hc5)
      have hc7' := h6.sqB b7 (s6.tup hc5')
      obtain ⟨vi, rfl, v0, v4⟩ : ∃ vi : Int, v = V.int vi ∧ 0 ≤ vi ∧ vi ≤ 4 := by
        simp only [List.mem_cons, List.not_mem_nil, or_false] at mv
        rcases mv with rfl | rfl | rfl | rfl | rfl
        · exact ⟨0, rfl, by decide, by decide⟩
        · exact ⟨0, rfl, by decide, by decide⟩
        · exact ⟨0, rfl, by decide, by decide⟩
        · exact ⟨1, rfl, by decide, by decide⟩
        · exact ⟨4, rfl, by decide, by decide⟩
      have asl2 : (as.map V.ref).length = es3.length := by rw [List.length_map, asl, List.length_map]
      rw [asl2]
      clear mv h5 h6 hc5 hc5' s6 b7 B7 f7 nlo hl asl asl2
      refine ⟨_, _, rfl, _, rfl, ?_, ?_, for_range (lo := 0) (fun j σ G => ∃ c3 t3 ex y11, σ = [some (.ref b), some (.ref t), some (.ref x), some (.ref c3), some (.ref p), some (.ref l), some (.ref c'), some (.ref l'), some (.ref p'), some (.int ((0 : Int) + (i : Int))), some (.ref e'), y11] ∧ Hd82 K C CB (mpOf is) U G b p ed p' ed' x l l' (3000 + 100 * i + 46) t3 t2 ex es' (bsOf ex) ws ∧ SqT K G c3 (t3.bytes.map V.int) ∧ SqT K G c' (t2.bytes.map V.int) ∧ (∀ y ∈ t3.bytes, 0 ≤ y ∧ y < (cnt : Int)) ∧ t3.bytes.length ≤ 120 ∧ ex.length + j = es3.length ∧ ∀ e ∈ ex, e.1.bytes.length ≤ 120 ∧ ∀ y ∈ e.1.bytes, 0 ≤ y ∧ y < (cnt : Int))
        ⟨q', t3, es3, y11, rfl, h7, hc7, hc7', low3, l4, rfl, ok4⟩ ?_ ?_⟩
      · split <;> omega
      · split <;> omega
      · rintro j σ G hj ⟨c3, t4, ex, y12, rfl, h, hq, hq', lowx, lx, exl, okx⟩
        have hj' : j < es3.length := by
          revert hj
          split <;> omega
        obtain ⟨qs, ⟨t0, st', ol, nw⟩, rfl⟩ : ∃ (qs : List Edit) (e : Edit), ex = qs ++ [e] := by
          rcases List.eq_nil_or_concat ex with e0 | ⟨qs, e, e0⟩
          · rw [e0] at exl
            simp at exl
            omega
          · exact ⟨qs, e, by rw [e0, List.concat_eq_append]⟩
        have e1 : bsOf (qs ++ [(t0, st', ol, nw)]) = bsOf qs ++ [t0.bytes] := by unfold bsOf; rw [List.map_append]; rfl
        obtain ⟨ok1, ok2⟩ := okx (t0, st', ol, nw) (List.mem_append_right _ (List.mem_singleton.mpr rfl))
        have ok1' : t0.bytes.length ≤ 120 := ok1
        have hp := h.past
        rw [e1] at hp
        obtain ⟨as6, a6, hl6, ha6, bt6, pp6⟩ := hp.pop
        refine ⟨_, rfl, .inl ⟨rfl, _, SqL.of hl6⟩, l, _, V.ref a6, rfl, rfl, hl6, by simp, ?_⟩
        rw [List.dropLast_concat]
        have h8 := h.lst f bt6 pp6
        have hc8 := h.sqL bt6 ha6
        have hc8' := h.sqL bt6 hq'
        generalize upd G l (.lst (as6.map V.ref)) = G8 at *
        obtain ⟨dx, sn, evs, hp8, _⟩ := h8.b1.ob
        have nU := b_no x sn ed (m := "undo") (by decide +kernel) (by decide +kernel) (by decide +kernel)
        refine ⟨_, rfl, p, dx, _, rfl, hp8, nU, p, x, ed, _, t4, t0, qs, st', _, _, rfl, h8.b1, by rw [Spn.size_eq]; omega, fun G9 k9 B9 => ?_⟩
        have h9 := h8.un1 f k9 B9
        have hc9 := h8.sq1 f (.of2 k9) hc8
        have hc9' := h8.sq1 f (.of2 k9) hc8'
        exact ⟨a6, t0, qs, _, rfl, h9, hc9, hc9', ok2, ok1', by rw [List.length_append, List.length_singleton] at exl; omega, fun e he => okx e (List.mem_append_left _ he)⟩
      rintro σ G ⟨c3, t3', ex, y12, rfl, h, hq, hq', lowx, lx, exl, okx⟩
      have exl' : ex.length ≤ i + 1 := by omega
      clear h7 hc7 hc7' low3 l4 l4' ok4 exl
      -- the list beside, the second buffer
      refine ⟨_, rfl, .inl ⟨rfl, _, SqL.of h.bes⟩, _, rfl, l', _, _, rfl, rfl, h.bes, by rw [sizeLine_eq]; omega, ?_⟩
      have bt : But l' G (upd G l' (.lst (ws ++ [V.ref c']))) := fun a o e ne => by rw [upd_ne ne]; exact e
      have h1 := h.lst' f bt upd_same
      have hc1 := h.sqM bt hq
      have hc1' := h.sqM bt hq'
      have wsl' : (ws ++ [V.ref c']).length ≤ i + 1 := by rw [List.length_append, List.length_singleton]; omega
      generalize upd G l' (.lst (ws ++ [V.ref c'])) = G1 at *
      generalize ws ++ [V.ref c'] = ws2 at *
      refine ⟨_, rfl, _, rfl, _, rfl, _, rfl, b, t, ti, p', x, ed', ti, c', _, cnt, lg, 30, is, rs, t2, es', t2.bytes, rfl, h1.bx, by omega, f.be', TU.same h1.s, h1.b2, MU'.same h1.s, hc1', rfl, low', few', by decide, by omega, fun G4 r q2 e2 t5 w st sp fs m k4 B4 hB4 o1 o2 hm lf fl et hq2 l4 hr4 he4 => ?_⟩
      refine ⟨r, _, rfl, SqT.of hr4, rfl, _, _, rfl, _, _, rfl, rfl, ?_⟩
      have h4 := h1.ed2 f k4 B4 hB4
      have hc4 := h1.sq2 f k4 hc1
      rw [← et] at hq2 l4
      have low5 : ∀ y ∈ t5.bytes, 0 ≤ y ∧ y < (cnt : Int) := by rw [et]; exact aft_mem low' lf
      have l4' : (es' ++ [edOf w t2 st sp fs m]).length ≤ i + 1 := by rw [List.length_append, List.length_singleton]; omega
      generalize es' ++ [edOf w t2 st sp fs m] = es5 at *
      obtain ⟨dx, sn, evs, hp4, _⟩ := h4.b2.ob
      have nL := b_no x sn ed' (m := "length") (by decide +kernel) (by decide +kernel) (by decide +kernel)
      have nC := b_no x sn ed' (m := "code") (by decide +kernel) (by decide +kernel) (by decide +kernel)
      have sz5 := Spn.size_eq t5
      refine ⟨_, rfl, p', dx, _, rfl, hp4, nC, _, rfl, p', dx, _, rfl, hp4, nL, p', x, ed', _, t5, _, rfl, h4.b2, p', x, ed', ti, cnt, lg, is, rs, t5, _, 0, t5.size, rfl, h4.b2, MU'.same h4.s, Nat.zero_le _, Nat.le_refl _, by omega, fun G6 r6 s6 hr6 => ?_⟩
      rw [sz5, List.take_length, List.drop_zero] at hr6
      have h6 := h4.same s6
      have hq6 := s6.tup hq2
      have hc6 := s6.tup hc4
      have sm5 := small_bytes MU'.ok low5
      refine ⟨_, rfl, code_ne (SqT.of hr6) hq6 sm5 sm5 ?_⟩
      rw [eqv_same sm5]
      refine ⟨_, rfl, iteF ?_⟩
      refine ⟨_, rfl, _, rfl, _, rfl, _, rfl, _, rfl, b, t, ti, p, x, ed, ti, c3, _, cnt, lg, is, rs, t3', _, rfl, h6.bx, by omega, f.be, TU.same h6.s, h6.b1, MU'.same h6.s, hc6, lowx, lx, fun G7 b7 B7 => ⟨_, rfl, iteF ?_⟩⟩
      exact ⟨c3, q2, t3', t5, ex, es5, ws2, _, _, _, rfl, (h6.box f b7 B7).mono (by omega), h6.sqB b7 hc6, h6.sqB b7 hq6, lowx, low5, lx, l4, exl', l4', wsl', okx⟩
    rintro σ G ⟨c, c', t1, t2, es, es', ws, y9, y10, y11, rfl, hd, hc, hc', low, low', few, few', esl, esl', wsl, okE⟩
    clear hd0 hca hca' et6 eta
    -- all taken back
    refine ⟨fun n σ G => ∃ t1 es, σ = [some (.ref b), some (.ref t), some (.ref x), some (.ref c), some (.ref p), some (.ref l), some (.ref c'), some (.ref l'), some (.ref p'), y9, y10, y11] ∧ Hd82 K C CB (mpOf is) U G b p ed p' ed' x l l' (3000 + 100 * 20) t1 t2 es es' (bsOf es) ws ∧ SqT K G c' (t2.bytes.map V.int) ∧ n = es.length ∧ ∀ e ∈ es, e.1.bytes.length ≤ 120 ∧ ∀ y ∈ e.1.bytes, 0 ≤ y ∧ y < (cnt : Int), ⟨es.length, t1, es, rfl, hd, hc', rfl, okE⟩, ?_⟩
    clear hd hc hc' okE esl few low
    rintro n σ G ⟨t1, es, rfl, hd, hc', rfl, okE⟩
    have sm : ∀ bs ∈ bsOf es, ∀ y ∈ bs, y.natAbs < 2 ^ 1000 := fun bs hb => by
      obtain ⟨e, he, rfl⟩ := List.mem_map.mp hb
      exact small_bytes MU'.ok (okE e he).2
    refine ⟨_, rfl, by show 0 ≤ sizeLine; decide, fun le nle => ?_⟩
    have s1 := same_upd (o := HO.lst []) nle
    have h1 := hd.same s1
    have hc1 := s1.tup hc'
    have hle := @upd_same G le (HO.lst [])
    generalize upd G le (HO.lst []) = G1 at *
    refine past_ne (C := (cxOf CX0 P w K mg base nRight "_law_right" (defScope sRight) fz cdv A' outer s H E)) h1.past hle sm ⟨_, rfl, ?_⟩
    have split : es = [] ∨ ∃ (qs : List Edit) (e : Edit), es = qs ++ [e] := by
      rcases List.eq_nil_or_concat es with e0 | ⟨qs, e, e0⟩
      · exact .inl e0
      · exact .inr ⟨qs, e, by rw [e0, List.concat_eq_append]⟩
    rcases split with rfl | ⟨qs, ⟨t0, st, ol, nw⟩, rfl⟩
    · refine iteF ⟨_, rfl, p, x, ed, _, t1, rfl, h1.b1, fun G2 s2 => ?_⟩
      have h2 := h1.same s2
      have hc2 := s2.tup hc1
      obtain ⟨dx, sn, evs, hp2, _⟩ := h2.b2.ob
      have nL := b_no x sn ed' (m := "length") (by decide +kernel) (by decide +kernel) (by decide +kernel)
      have nC := b_no x sn ed' (m := "code") (by decide +kernel) (by decide +kernel) (by decide +kernel)
      have sz2 := Spn.size_eq t2
      refine ⟨_, rfl, iteT ?_⟩
      refine ⟨_, rfl, p', dx, _, rfl, hp2, nC, _, rfl, p', dx, _, rfl, hp2, nL, p', x, ed', _, t2, _, rfl, h2.b2, p', x, ed', ti, cnt, lg, is, rs, t2, _, 0, t2.size, rfl, h2.b2, MU'.same h2.s, Nat.zero_le _, Nat.le_refl _, by omega, fun G3 r s3 hr => ?_⟩
      rw [sz2, List.take_length, List.drop_zero] at hr
      have sm2 := small_bytes MU'.ok low'
      refine ⟨_, rfl, _, _, .tup (SqT.of hr) (dp_ints _), .tup (s3.tup hc2) (dp_ints _), shaped_bs sm2, shaped_bs sm2, ?_⟩
      rw [eqv_same sm2]
      exact q _ (back _ (h2.s.trans s3))
    · have e1 : bsOf (qs ++ [(t0, st, ol, nw)]) = bsOf qs ++ [t0.bytes] := by unfold bsOf; rw [List.map_append]; rfl
      obtain ⟨ok1, ok2⟩ := okE (t0, st, ol, nw) (List.mem_append_right _ (List.mem_singleton.mpr rfl))
      have ok1' : t0.bytes.length ≤ 120 := ok1
      have ok2' : ∀ y ∈ t0.bytes, 0 ≤ y ∧ y < (cnt : Int) := ok2
      rw [decide_eq_true (show bsOf (qs ++ [(t0, st, ol, nw)]) ≠ [] by rw [e1]; simp)]
      refine iteT ⟨fun σ' G' => ∃ m', m' < (qs ++ [(t0, st, ol, nw)]).length ∧ ∃ t1 es, σ' = [some (.ref b), some (.ref t), some (.ref x), some (.ref c), some (.ref p), some (.ref l), some (.ref c'), some (.ref l'), some (.ref p'), y9, y10, y11] ∧ Hd82 K C CB (mpOf is) U G' b p ed p' ed' x l l' (3000 + 100 * 20) t1 t2 es es' (bsOf es) ws ∧ SqT K G' c' (t2.bytes.map V.int) ∧ m' = es.length ∧ ∀ e ∈ es, e.1.bytes.length ≤ 120 ∧ ∀ y ∈ e.1.bytes, 0 ≤ y ∧ y < (cnt : Int), fun _ _ h => h, ?_⟩
      obtain ⟨dx, sn, evs, hp1, _⟩ := h1.b1.ob
      have nU := b_no x sn ed (m := "undo") (by decide +kernel) (by decide +kernel) (by decide +kernel)
      refine ⟨_, rfl, p, dx, _, rfl, hp1, nU, p, x, ed, _, t1, t0, qs, st, ol, nw, rfl, h1.b1, by rw [Spn.size_eq]; omega, fun G2 k2 B2 => ?_⟩
      have h2 := h1.un1 f k2 B2
      have hc2 := h1.sq1 f (.of2 k2) hc1
      obtain ⟨dx, sn, evs, hp2, _⟩ := h2.b1.ob
      have nL := b_no x sn ed (m := "length") (by decide +kernel) (by decide +kernel) (by decide +kernel)
      have nC := b_no x sn ed (m := "code") (by decide +kernel) (by decide +kernel) (by decide +kernel)
      have sz0 := Spn.size_eq t0
      refine ⟨_, rfl, p, dx, _, rfl, hp2, nC, _, rfl, p, dx, _, rfl, hp2, nL, p, x, ed, _, t0, _, rfl, h2.b1, p, x, ed, ti, cnt, lg, is, rs, t0, _, 0, t0.size, rfl, h2.b1, MU'.same h2.s, Nat.zero_le _, Nat.le_refl _, by omega, fun G3 r s3 hr => ?_⟩
      rw [sz0, List.take_length, List.drop_zero] at hr
      have h3 := h2.same s3
      have hc3 := s3.tup hc2
      have hp3 := h3.past
      rw [e1] at hp3
      obtain ⟨as6, a6, hl6, ha6, bt6, pp6⟩ := hp3.pop
      refine ⟨_, rfl, .inl ⟨rfl, _, SqL.of hl6⟩, l, _, V.ref a6, rfl, rfl, hl6, by simp, ?_⟩
      rw [List.dropLast_concat]
      have h4 := h3.lst f bt6 pp6
      have hr4 := h3.sqL bt6 (SqT.of hr)
      have ha4 := h3.sqL bt6 ha6
      have hc4 := h3.sqL bt6 hc3
      generalize upd G3 l (.lst (as6.map V.ref)) = G4 at *
      have sm0 := small_bytes MU'.ok ok2'
      refine code_ne hr4 ha4 sm0 sm0 ?_
      rw [eqv_same sm0]
      refine ⟨_, rfl, iteF ?_⟩
      exact ⟨_, by rw [List.length_append, List.length_singleton]; exact Nat.lt_succ_self _, t0, qs, rfl, h4, hc4, rfl, fun e he => okE e (List.mem_append_left _ he)⟩
end
end Ov
namespace Ov
open PySem PySem.Spec PyProof.Rows L2
section
variable {P : Program} {w : World} {K : PySem.W.Frag} {mg : Str → Option Value} {base : Heap}
/-! ### law -/
def spLaw (K : PySem.W.Frag) : Sp := fun vs H Q _ => ∃ (a : Addr) (ns : List Int), vs = [.ref a] ∧ SqL K H a (ns.map V.int) ∧ ns.length ≤ 63 ∧ ∀ H', Q (.bl true) H'
theorem scLaw : FnScope ["_law_script", "_law_k"] ["_law_script"] (defScope sLaw) := ⟨rfl, rfl, rfl, by decide +kernel, rfl, by decide +kernel, by decide +kernel⟩
theorem ok_law {f fB fR : Addr} {fd fdB fdR : FuncData} {k : Nat} (F : Fun K "law" "law" sLaw f fd) (T : Bi mg)
    (B : Def K mg "_law_box" sBox fB fdB ["_law_script", "_law_k"]) (GB : FnOk P w K mg base CX0 k fB fdB ["_law_script", "_law_k"] (spBox K))
    (R : Def K mg "_law_right" sRight fR fdR ["_law_box_here"]) (GR : FnG P w K mg base k fR fdR ["_law_box_here"] spRight) :
    FnG P w K mg base (k + 1) f fd ["_law_script"] (spLaw K) := by
  refine okG F scLaw (fun vs H Q E h => ?_) (fun cdv A' outer s H vs Q E gd hr h => ?_)
  · obtain ⟨a, ns, rfl, _⟩ := h
    rfl
  · obtain ⟨a, ns, rfl, hS, hlen, q⟩ := h
    refine ⟨_, pss_one (ps_ret (pe_callB (cr_all rfl) (by rfl) T.all (by decide +kernel) (pa_cons (pe_lc (own := [("_law_k", 1)]) (g := gName 1) (tt := tYes) (by rfl) scLaw.nd
        (pi_range1 (by rfl) T.range (pa_cons (pe_callB (call_max2 rfl) (by rfl) T.max (by decide +kernel) (pa_cons pe_int (pa_cons (pe_callB (call_min2 rfl) (by rfl) T.min (by decide +kernel) (pa_cons pe_int (pa_cons (pe_callB call_len_seq (by rfl) T.len PySem.boot_len (pa_cons (pv 0) pa_nil)) pa_nil))) pa_nil))) pa_nil))
        (blkOk_by (own := [("_law_k", 1)]) (N := ["_law_script", "_law_k"]) (sc := defScope sLaw) (by decide +kernel))
        (fun _ _ _ _ _ => pg_name (i := 1) scLaw.nd rfl (Or.inl rfl)) (fun _ _ _ _ _ => pts_nil)
        (fun _ _ _ _ _ => pe_callG GR gd hr (by rfl) R.gl R.fn.kp R.bi (pa_cons (pe_call GB hr (by rfl) B.gl B.fn.kp B.bi .nil pass0 (pa_cons (pv 0) (pa_cons (pv 1) pa_nil))) pa_nil))) pa_nil))), ?_⟩
    refine ⟨_, rfl, a, _, rfl, .inl hS, _, _, rfl, _, _, rfl, _, rfl, ?_, ?_, fun D nD => lc_range (lo := 0) (fun i H2 => Mk H H2 D ((List.replicate i true).map V.bl)) (.start nD) ?_ ?_⟩
    · split <;> split <;> omega
    · split <;> split <;> omega
    · intro i H2 hi mk
      have hi4 : i < 4 := by
        revert hi
        split <;> split <;> omega
      refine ⟨rfl, _, rfl, _, rfl, a, ns, i, (by rw [Int.zero_add]; rfl), mk.same.seq hS, by omega, fun H3 p s3 np B3 => ?_⟩
      refine ⟨p, rfl, B3, fun H4 b4 => ?_⟩
      have s24 : Same H2 H4 := fun b o e => b4 b o (s3 b o e) (ne_of_none e np)
      refine ⟨_, s24 _ _ mk.at_, by rw [List.length_map, List.length_replicate, sizeLine_eq]; omega, ?_⟩
      rw [List.replicate_succ', List.map_append]
      exact mk.put s24
    intro H2 mk
    refine ⟨D, _, rfl, SqL.of mk.at_, ?_⟩
    rw [all_true]
    exact q H2
end
end Ov
namespace Ov
open PySem PySem.Spec PyProof.Rows L2
theorem mro_of {K : PySem.W.Frag} {nm q : Str} {C N : Addr} {bs bm : List Value} {hd : Bool} {sn : List Str} {sub : List Value} {ab : Bool} {col : Option Bool} {dd : Option Addr} {k0 k1 k2 k3 k5 : Option Value} {nw : String} (h : K.lookup C = some (excClassObj nm q C N bs bm hd sn sub ab col dd k0 k1 k2 k3 k5 nw)) (b : Value) : PySem.W.mroIn K C b = some ((Value.ref C :: bm).contains b) := by
  unfold PySem.W.mroIn PySem.W.clsIn
  rw [h]
  rfl
theorem cls_of {K : PySem.W.Frag} {nm q : Str} {C N : Addr} {bs bm : List Value} {hd : Bool} {sn : List Str} {sub : List Value} {ab : Bool} {col : Option Bool} {dd : Option Addr} {k0 k1 k2 k3 k5 : Option Value} {nw : String} (h : K.lookup C = some (excClassObj nm q C N bs bm hd sn sub ab col dd k0 k1 k2 k3 k5 nw)) : (PySem.W.clsIn K C).isSome = true := by
  unfold PySem.W.clsIn
  rw [h]
  rfl
theorem nodup_getD {l : List Addr} (i j : Nat) (hi : i < l.length) (hj : j < l.length) (e : l.getD i 0 = l.getD j 0) (n : l.Nodup) : i = j := by
  rw [List.getD_eq_getElem?_getD, List.getD_eq_getElem?_getD, List.getElem?_eq_getElem hi, List.getElem?_eq_getElem hj] at e
  have p := List.pairwise_iff_getElem.mp (List.nodup_iff_pairwise_ne.mp n)
  rcases Nat.lt_trichotomy i j with h | h | h
  · exact absurd e (p i j hi hj h)
  · exact h
  · exact absurd e.symm (p j i hj hi h)
section
variable {K : PySem.W.Frag} {C : Nat → Addr} (inj : ∀ i j, i < 2 → j < 2 → C i = C j → i = j) (mro : ∀ i, i < 2 → ∃ r, (∀ b, PySem.W.mroIn K (C i) b = some ((Value.ref (C i) :: r).contains b)) ∧ (r = [.type "ValueError", .type "Exception", .type "BaseException", .type "object"] ∨ r = [.ref (C 1), .type "ValueError", .type "Exception", .type "BaseException", .type "object"]) ∧ (i ≠ 1 → r = [.ref (C 1), .type "ValueError", .type "Exception", .type "BaseException", .type "object"]))
  (cls : ∀ i, i < 2 → ((PySem.W.clsIn K (C i)).isSome && PySem.W.typeIn K (.ref (C i)) == some (.type "type")) = true)
include inj mro cls in
theorem kits : ∀ i, i < 2 → ∀ j, j < 1 → PySem.W.kitOne K (.ref (C i)) (.ref (C j)) = some (decide (i = j)) := by
  intro i hi j hj
  unfold PySem.W.kitOne
  by_cases e : i = j
  · subst e
    rw [if_pos (by simp), decide_eq_true rfl]
  · have ne : C i ≠ C j := fun z => e (inj i j hi (by omega) z)
    have ne2 : C 1 ≠ C j := fun z => by have := inj 1 j (by decide) (by omega) z; omega
    rw [if_neg (by simp [ne]), decide_eq_false e]
    unfold PySem.W.kitCls
    dsimp only
    rw [if_pos (cls j (by omega))]
    show PySem.W.mroIn K (C i) (.ref (C j)) = _
    obtain ⟨r, h, hr, _⟩ := mro i hi
    rw [h]
    rcases hr with rfl | rfl
    · simp [Ne.symm ne]
    · simp [Ne.symm ne, Ne.symm ne2]
include mro in
theorem kitsV : ∀ i, i < 1 → PySem.W.kitOne K (.ref (C i)) (.type "ValueError") = some true := by
  intro i hi
  unfold PySem.W.kitOne
  rw [if_neg (by simp)]
  unfold PySem.W.kitCls
  dsimp only
  rw [if_pos (by decide +kernel)]
  show PySem.W.mroIn K (C i) (.type "ValueError") = _
  obtain ⟨r, h, _, hr⟩ := mro i (by omega)
  rw [h, hr (by omega)]
  simp
end
/-! ### what the top has written, and the law's own head -/
theorem all_mk {P : Program} {w : World} {K : PySem.W.Frag} {h : Heap} {mg : Str → Option Value} {fa f0 f1 f2 f3 f4 f5 f6 f7 f8 f9 f10 f11 f12 f13 f14 f15 f16 f17 f18 f19 f20 f21 f22 f23 f24 f25 f26 f27 f28 f29 f30 f31 f32 f33 f34 f35 f36 f37 f38 f39 f40 f41 f42 f43 f44 f45 f46 f47 : Addr} (X : K.In h) (G : h.Ns mainGlobals mg) (hfa : mg "law" = some (.ref fa))
    {od0 an0 od1 an1 od2 an2 od3 an3 od4 an4 od5 an5 od6 an6 od7 an7 od8 an8 od9 an9 od10 an10 od11 an11 od12 an12 od13 an13 od14 an14 od15 an15 od16 an16 od17 an17 od18 an18 od19 an19 od20 an20 od21 an21 od22 an22 od23 an23 od24 an24 od25 an25 od26 an26 od27 an27 od28 an28 od29 an29 od30 an30 od31 an31 od32 an32 od33 an33 od34 an34 od35 an35 od36 an36 od37 an37 od38 an38 od39 an39 od40 an40 od41 an41 od42 an42 od43 an43 od44 an44 od45 an45 od46 an46 od47 an47 : Option Addr} {sl0 sl1 sl2 sl3 sl4 sl5 sl6 sl7 sl8 sl9 sl10 sl11 sl12 sl13 sl14 sl15 sl16 sl17 sl18 sl19 sl20 sl21 sl22 sl23 sl24 sl25 sl26 sl27 sl28 sl29 sl30 sl31 sl32 sl33 sl34 sl35 sl36 sl37 sl38 sl39 sl40 sl41 sl42 sl43 sl44 sl45 sl46 sl47 : Array (Option Value)} {oc0 kV0 dc0 pm0 cd0 ct0 oc1 kV1 dc1 pm1 cd1 ct1 oc2 kV2 dc2 pm2 cd2 ct2 oc3 kV3 dc3 pm3 cd3 ct3 oc4 kV4 dc4 pm4 cd4 ct4 oc5 kV5 dc5 pm5 cd5 ct5 oc6 kV6 dc6 pm6 cd6 ct6 oc7 kV7 dc7 pm7 cd7 ct7 oc8 kV8 dc8 pm8 cd8 ct8 oc9 kV9 dc9 pm9 cd9 ct9 oc10 kV10 dc10 pm10 cd10 ct10 oc11 kV11 dc11 pm11 cd11 ct11 oc12 kV12 dc12 pm12 cd12 ct12 oc13 kV13 dc13 pm13 cd13 ct13 oc14 kV14 dc14 pm14 cd14 ct14 oc15 kV15 dc15 pm15 cd15 ct15 oc16 kV16 dc16 pm16 cd16 ct16 oc17 kV17 dc17 pm17 cd17 ct17 oc18 kV18 dc18 pm18 cd18 ct18 oc19 kV19 dc19 pm19 cd19 ct19 oc20 kV20 dc20 pm20 cd20 ct20 oc21 kV21 dc21 pm21 cd21 ct21 oc22 kV22 dc22 pm22 cd22 ct22 oc23 kV23 dc23 pm23 cd23 ct23 oc24 kV24 dc24 pm24 cd24 ct24 oc25 kV25 dc25 pm25 cd25 ct25 oc26 kV26 dc26 pm26 cd26 ct26 oc27 kV27 dc27 pm27 cd27 ct27 oc28 kV28 dc28 pm28 cd28 ct28 oc29 kV29 dc29 pm29 cd29 ct29 oc30 kV30 dc30 pm30 cd30 ct30 oc31 kV31 dc31 pm31 cd31 ct31 oc32 kV32 dc32 pm32 cd32 ct32 oc33 kV33 dc33 pm33 cd33 ct33 oc34 kV34 dc34 pm34 cd34 ct34 oc35 kV35 dc35 pm35 cd35 ct35 oc36 kV36 dc36 pm36 cd36 ct36 oc37 kV37 dc37 pm37 cd37 ct37 oc38 kV38 dc38 pm38 cd38 ct38 oc39 kV39 dc39 pm39 cd39 ct39 oc40 kV40 dc40 pm40 cd40 ct40 oc41 kV41 dc41 pm41 cd41 ct41 oc42 kV42 dc42 pm42 cd42 ct42 oc43 kV43 dc43 pm43 cd43 ct43 oc44 kV44 dc44 pm44 cd44 ct44 oc45 kV45 dc45 pm45 cd45 ct45 oc46 kV46 dc46 pm46 cd46 ct46 oc47 kV47 dc47 pm47 cd47 ct47 : Value}
    {tk0 tk1 tk2 tk3 tk4 tk5 tk6 : Tok}
    (a0 : PySem.W.nsIn K mainGlobals "is_integer" = some (some (.ref f0))) (l0 : K.lookup f0 = some ⟨oc0, od0, .func (PySem.W.fnOf "is_integer" "is_integer" (defArgs sIsInt) (defBody sIsInt) (defScope sIsInt) .none kV0 dc0 pm0 an0 cd0 ct0), sl0⟩) (c0 : PySem.W.codeIn K cd0 "is_integer" = true) (k0 : PySem.W.keepIn K (.ref f0) = true)
    (a1 : PySem.W.nsIn K mainGlobals "is_integer_between" = some (some (.ref f1))) (l1 : K.lookup f1 = some ⟨oc1, od1, .func (PySem.W.fnOf "is_integer_between" "is_integer_between" (defArgs sBetween) (defBody sBetween) (defScope sBetween) .none kV1 dc1 pm1 an1 cd1 ct1), sl1⟩) (c1 : PySem.W.codeIn K cd1 "is_integer_between" = true) (k1 : PySem.W.keepIn K (.ref f1) = true)
    (a2 : PySem.W.nsIn K mainGlobals "is_ascending" = some (some (.ref f2))) (l2 : K.lookup f2 = some ⟨oc2, od2, .func (PySem.W.fnOf "is_ascending" "is_ascending" (defArgs sAscending) (defBody sAscending) (defScope sAscending) .none kV2 dc2 pm2 an2 cd2 ct2), sl2⟩) (c2 : PySem.W.codeIn K cd2 "is_ascending" = true) (k2 : PySem.W.keepIn K (.ref f2) = true)
    (a3 : PySem.W.nsIn K mainGlobals "is_name" = some (some (.ref f3))) (l3 : K.lookup f3 = some ⟨oc3, od3, .func (PySem.W.fnOf "is_name" "is_name" (defArgs sIsName) (defBody sIsName) (defScope sIsName) .none kV3 dc3 pm3 an3 cd3 ct3), sl3⟩) (c3 : PySem.W.codeIn K cd3 "is_name" = true) (k3 : PySem.W.keepIn K (.ref f3) = true)
    (a4 : PySem.W.nsIn K mainGlobals "is_instruction" = some (some (.ref f4))) (l4 : K.lookup f4 = some ⟨oc4, od4, .func (PySem.W.fnOf "is_instruction" "is_instruction" (defArgs sIsInstr) (defBody sIsInstr) (defScope sIsInstr) .none kV4 dc4 pm4 an4 cd4 ct4), sl4⟩) (c4 : PySem.W.codeIn K cd4 "is_instruction" = true) (k4 : PySem.W.keepIn K (.ref f4) = true)
    (a5 : PySem.W.nsIn K mainGlobals "are_instructions" = some (some (.ref f5))) (l5 : K.lookup f5 = some ⟨oc5, od5, .func (PySem.W.fnOf "are_instructions" "are_instructions" (defArgs sAreInstr) (defBody sAreInstr) (defScope sAreInstr) .none kV5 dc5 pm5 an5 cd5 ct5), sl5⟩) (c5 : PySem.W.codeIn K cd5 "are_instructions" = true) (k5 : PySem.W.keepIn K (.ref f5) = true)
    (a6 : PySem.W.nsIn K mainGlobals "is_code" = some (some (.ref f6))) (l6 : K.lookup f6 = some ⟨oc6, od6, .func (PySem.W.fnOf "is_code" "is_code" (defArgs sIsCode) (defBody sIsCode) (defScope sIsCode) .none kV6 dc6 pm6 an6 cd6 ct6), sl6⟩) (c6 : PySem.W.codeIn K cd6 "is_code" = true) (k6 : PySem.W.keepIn K (.ref f6) = true)
    (a7 : PySem.W.nsIn K mainGlobals "walk" = some (some (.ref f7))) (l7 : K.lookup f7 = some ⟨oc7, od7, .func (PySem.W.fnOf "walk" "walk" (defArgs sWalk) (defBody sWalk) (defScope sWalk) .none kV7 dc7 pm7 an7 cd7 ct7), sl7⟩) (c7 : PySem.W.codeIn K cd7 "walk" = true) (k7 : PySem.W.keepIn K (.ref f7) = true)
    (a8 : PySem.W.nsIn K mainGlobals "countdown_behind" = some (some (.ref f8))) (l8 : K.lookup f8 = some ⟨oc8, od8, .func (PySem.W.fnOf "countdown_behind" "countdown_behind" (defArgs sBehind) (defBody sBehind) (defScope sBehind) .none kV8 dc8 pm8 an8 cd8 ct8), sl8⟩) (c8 : PySem.W.codeIn K cd8 "countdown_behind" = true) (k8 : PySem.W.keepIn K (.ref f8) = true)
    (a9 : PySem.W.nsIn K mainGlobals "code_map" = some (some (.ref f9))) (l9 : K.lookup f9 = some ⟨oc9, od9, .func (PySem.W.fnOf "code_map" "code_map" (defArgs sCodeMap) (defBody sCodeMap) (defScope sCodeMap) .none kV9 dc9 pm9 an9 cd9 ct9), sl9⟩) (c9 : PySem.W.codeIn K cd9 "code_map" = true) (k9 : PySem.W.keepIn K (.ref f9) = true)
    (a10 : PySem.W.nsIn K mainGlobals "compose_maps" = some (some (.ref f10))) (l10 : K.lookup f10 = some ⟨oc10, od10, .func (PySem.W.fnOf "compose_maps" "compose_maps" (defArgs sCompose) (defBody sCompose) (defScope sCompose) .none kV10 dc10 pm10 an10 cd10 ct10), sl10⟩) (c10 : PySem.W.codeIn K cd10 "compose_maps" = true) (k10 : PySem.W.keepIn K (.ref f10) = true)
    (a11 : PySem.W.nsIn K mainGlobals "decoder_pair" = some (some (.ref f11))) (l11 : K.lookup f11 = some ⟨oc11, od11, .func (PySem.W.fnOf "decoder_pair" "decoder_pair" (defArgs sPair) (defBody sPair) (defScope sPair) .none kV11 dc11 pm11 an11 cd11 ct11), sl11⟩) (c11 : PySem.W.codeIn K cd11 "decoder_pair" = true) (k11 : PySem.W.keepIn K (.ref f11) = true)
    (a12 : PySem.W.nsIn K mainGlobals "continued" = some (some (.ref f12))) (l12 : K.lookup f12 = some ⟨oc12, od12, .func (PySem.W.fnOf "continued" "continued" (defArgs sCont) (defBody sCont) (defScope sCont) .none kV12 dc12 pm12 an12 cd12 ct12), sl12⟩) (c12 : PySem.W.codeIn K cd12 "continued" = true) (k12 : PySem.W.keepIn K (.ref f12) = true)
    (a13 : PySem.W.nsIn K mainGlobals "span_of" = some (some (.ref f13))) (l13 : K.lookup f13 = some ⟨oc13, od13, .func (PySem.W.fnOf "span_of" "span_of" (defArgs s_span_of) (defBody s_span_of) (defScope s_span_of) .none kV13 dc13 pm13 an13 cd13 ct13), sl13⟩) (c13 : PySem.W.codeIn K cd13 "span_of" = true) (k13 : PySem.W.keepIn K (.ref f13) = true)
    (a14 : PySem.W.nsIn K mainGlobals "joined" = some (some (.ref f14))) (l14 : K.lookup f14 = some ⟨oc14, od14, .func (PySem.W.fnOf "joined" "joined" (defArgs s_joined) (defBody s_joined) (defScope s_joined) .none kV14 dc14 pm14 an14 cd14 ct14), sl14⟩) (c14 : PySem.W.codeIn K cd14 "joined" = true) (k14 : PySem.W.keepIn K (.ref f14) = true)
    (a15 : PySem.W.nsIn K mainGlobals "pair_of" = some (some (.ref f15))) (l15 : K.lookup f15 = some ⟨oc15, od15, .func (PySem.W.fnOf "pair_of" "pair_of" (defArgs s_pair_of) (defBody s_pair_of) (defScope s_pair_of) .none kV15 dc15 pm15 an15 cd15 ct15), sl15⟩) (c15 : PySem.W.codeIn K cd15 "pair_of" = true) (k15 : PySem.W.keepIn K (.ref f15) = true)
    (a16 : PySem.W.nsIn K mainGlobals "balanced" = some (some (.ref f16))) (l16 : K.lookup f16 = some ⟨oc16, od16, .func (PySem.W.fnOf "balanced" "balanced" (defArgs s_balanced) (defBody s_balanced) (defScope s_balanced) .none kV16 dc16 pm16 an16 cd16 ct16), sl16⟩) (c16 : PySem.W.codeIn K cd16 "balanced" = true) (k16 : PySem.W.keepIn K (.ref f16) = true)
    (a17 : PySem.W.nsIn K mainGlobals "cut" = some (some (.ref f17))) (l17 : K.lookup f17 = some ⟨oc17, od17, .func (PySem.W.fnOf "cut" "cut" (defArgs s_cut) (defBody s_cut) (defScope s_cut) .none kV17 dc17 pm17 an17 cd17 ct17), sl17⟩) (c17 : PySem.W.codeIn K cd17 "cut" = true) (k17 : PySem.W.keepIn K (.ref f17) = true)
    (a18 : PySem.W.nsIn K mainGlobals "part" = some (some (.ref f18))) (l18 : K.lookup f18 = some ⟨oc18, od18, .func (PySem.W.fnOf "part" "part" (defArgs s_part) (defBody s_part) (defScope s_part) .none kV18 dc18 pm18 an18 cd18 ct18), sl18⟩) (c18 : PySem.W.codeIn K cd18 "part" = true) (k18 : PySem.W.keepIn K (.ref f18) = true)
    (a19 : PySem.W.nsIn K mainGlobals "repeated" = some (some (.ref f19))) (l19 : K.lookup f19 = some ⟨oc19, od19, .func (PySem.W.fnOf "repeated" "repeated" (defArgs s_repeated) (defBody s_repeated) (defScope s_repeated) .none kV19 dc19 pm19 an19 cd19 ct19), sl19⟩) (c19 : PySem.W.codeIn K cd19 "repeated" = true) (k19 : PySem.W.keepIn K (.ref f19) = true)
    (a20 : PySem.W.nsIn K mainGlobals "bytes_of" = some (some (.ref f20))) (l20 : K.lookup f20 = some ⟨oc20, od20, .func (PySem.W.fnOf "bytes_of" "bytes_of" (defArgs s_bytes_of) (defBody s_bytes_of) (defScope s_bytes_of) .none kV20 dc20 pm20 an20 cd20 ct20), sl20⟩) (c20 : PySem.W.codeIn K cd20 "bytes_of" = true) (k20 : PySem.W.keepIn K (.ref f20) = true)
    (a21 : PySem.W.nsIn K mainGlobals "start_in" = some (some (.ref f21))) (l21 : K.lookup f21 = some ⟨oc21, od21, .func (PySem.W.fnOf "start_in" "start_in" (defArgs s_start_in) (defBody s_start_in) (defScope s_start_in) .none kV21 dc21 pm21 an21 cd21 ct21), sl21⟩) (c21 : PySem.W.codeIn K cd21 "start_in" = true) (k21 : PySem.W.keepIn K (.ref f21) = true)
    (a22 : PySem.W.nsIn K mainGlobals "meeting_in" = some (some (.ref f22))) (l22 : K.lookup f22 = some ⟨oc22, od22, .func (PySem.W.fnOf "meeting_in" "meeting_in" (defArgs s_meeting_in) (defBody s_meeting_in) (defScope s_meeting_in) .none kV22 dc22 pm22 an22 cd22 ct22), sl22⟩) (c22 : PySem.W.codeIn K cd22 "meeting_in" = true) (k22 : PySem.W.keepIn K (.ref f22) = true)
    (a23 : PySem.W.nsIn K mainGlobals "is_decided" = some (some (.ref f23))) (l23 : K.lookup f23 = some ⟨oc23, od23, .func (PySem.W.fnOf "is_decided" "is_decided" (defArgs s_is_decided) (defBody s_is_decided) (defScope s_is_decided) .none kV23 dc23 pm23 an23 cd23 ct23), sl23⟩) (c23 : PySem.W.codeIn K cd23 "is_decided" = true) (k23 : PySem.W.keepIn K (.ref f23) = true)
    (a24 : PySem.W.nsIn K mainGlobals "decided_offset" = some (some (.ref f24))) (l24 : K.lookup f24 = some ⟨oc24, od24, .func (PySem.W.fnOf "decided_offset" "decided_offset" (defArgs s_decided_offset) (defBody s_decided_offset) (defScope s_decided_offset) .none kV24 dc24 pm24 an24 cd24 ct24), sl24⟩) (c24 : PySem.W.codeIn K cd24 "decided_offset" = true) (k24 : PySem.W.keepIn K (.ref f24) = true)
    (a25 : PySem.W.nsIn K mainGlobals "countdown_after" = some (some (.ref f25))) (l25 : K.lookup f25 = some ⟨oc25, od25, .func (PySem.W.fnOf "countdown_after" "countdown_after" (defArgs s_countdown_after) (defBody s_countdown_after) (defScope s_countdown_after) .none kV25 dc25 pm25 an25 cd25 ct25), sl25⟩) (c25 : PySem.W.codeIn K cd25 "countdown_after" = true) (k25 : PySem.W.keepIn K (.ref f25) = true)
    (a26 : PySem.W.nsIn K mainGlobals "check_code" = some (some (.ref f26))) (l26 : K.lookup f26 = some ⟨oc26, od26, .func (PySem.W.fnOf "check_code" "check_code" (defArgs s_check_code) (defBody s_check_code) (defScope s_check_code) .none kV26 dc26 pm26 an26 cd26 ct26), sl26⟩) (c26 : PySem.W.codeIn K cd26 "check_code" = true) (k26 : PySem.W.keepIn K (.ref f26) = true)
    (a27 : PySem.W.nsIn K mainGlobals "_law_box" = some (some (.ref f27))) (l27 : K.lookup f27 = some ⟨oc27, od27, .func (PySem.W.fnOf "_law_box" "_law_box" (defArgs sBox) (defBody sBox) (defScope sBox) .none kV27 dc27 pm27 an27 cd27 ct27), sl27⟩) (c27 : PySem.W.codeIn K cd27 "_law_box" = true) (k27 : PySem.W.keepIn K (.ref f27) = true)
    (a28 : PySem.W.nsIn K mainGlobals "_law_take" = some (some (.ref f28))) (l28 : K.lookup f28 = some ⟨oc28, od28, .func (PySem.W.fnOf "_law_take" "_law_take" (defArgs sTake) (defBody sTake) (defScope sTake) .none kV28 dc28 pm28 an28 cd28 ct28), sl28⟩) (c28 : PySem.W.codeIn K cd28 "_law_take" = true) (k28 : PySem.W.keepIn K (.ref f28) = true)
    (a29 : PySem.W.nsIn K mainGlobals "_law_of" = some (some (.ref f29))) (l29 : K.lookup f29 = some ⟨oc29, od29, .func (PySem.W.fnOf "_law_of" "_law_of" (defArgs sOf) (defBody sOf) (defScope sOf) .none kV29 dc29 pm29 an29 cd29 ct29), sl29⟩) (c29 : PySem.W.codeIn K cd29 "_law_of" = true) (k29 : PySem.W.keepIn K (.ref f29) = true)
    (a30 : PySem.W.nsIn K mainGlobals "_law_table" = some (some (.ref f30))) (l30 : K.lookup f30 = some ⟨oc30, od30, .func (PySem.W.fnOf "_law_table" "_law_table" (defArgs sTable) (defBody sTable) (defScope sTable) .none kV30 dc30 pm30 an30 cd30 ct30), sl30⟩) (c30 : PySem.W.codeIn K cd30 "_law_table" = true) (k30 : PySem.W.keepIn K (.ref f30) = true)
    (a31 : PySem.W.nsIn K mainGlobals "_law_bytes" = some (some (.ref f31))) (l31 : K.lookup f31 = some ⟨oc31, od31, .func (PySem.W.fnOf "_law_bytes" "_law_bytes" (defArgs sBytes) (defBody sBytes) (defScope sBytes) .none kV31 dc31 pm31 an31 cd31 ct31), sl31⟩) (c31 : PySem.W.codeIn K cd31 "_law_bytes" = true) (k31 : PySem.W.keepIn K (.ref f31) = true)
    (a32 : PySem.W.nsIn K mainGlobals "_law_machine" = some (some (.ref f32))) (l32 : K.lookup f32 = some ⟨oc32, od32, .func (PySem.W.fnOf "_law_machine" "_law_machine" (defArgs sMachine) (defBody sMachine) (defScope sMachine) .none kV32 dc32 pm32 an32 cd32 ct32), sl32⟩) (c32 : PySem.W.codeIn K cd32 "_law_machine" = true) (k32 : PySem.W.keepIn K (.ref f32) = true)
    (a33 : PySem.W.nsIn K mainGlobals "_law_small" = some (some (.ref f33))) (l33 : K.lookup f33 = some ⟨oc33, od33, .func (PySem.W.fnOf "_law_small" "_law_small" (defArgs sSmall) (defBody sSmall) (defScope sSmall) .none kV33 dc33 pm33 an33 cd33 ct33), sl33⟩) (c33 : PySem.W.codeIn K cd33 "_law_small" = true) (k33 : PySem.W.keepIn K (.ref f33) = true)
    (a34 : PySem.W.nsIn K mainGlobals "_law_length_at" = some (some (.ref f34))) (l34 : K.lookup f34 = some ⟨oc34, od34, .func (PySem.W.fnOf "_law_length_at" "_law_length_at" (defArgs sLLenAt) (defBody sLLenAt) (defScope sLLenAt) .none kV34 dc34 pm34 an34 cd34 ct34), sl34⟩) (c34 : PySem.W.codeIn K cd34 "_law_length_at" = true) (k34 : PySem.W.keepIn K (.ref f34) = true)
    (a35 : PySem.W.nsIn K mainGlobals "_law_countdowns" = some (some (.ref f35))) (l35 : K.lookup f35 = some ⟨oc35, od35, .func (PySem.W.fnOf "_law_countdowns" "_law_countdowns" (defArgs sLCds) (defBody sLCds) (defScope sLCds) .none kV35 dc35 pm35 an35 cd35 ct35), sl35⟩) (c35 : PySem.W.codeIn K cd35 "_law_countdowns" = true) (k35 : PySem.W.keepIn K (.ref f35) = true)
    (a36 : PySem.W.nsIn K mainGlobals "_law_starts" = some (some (.ref f36))) (l36 : K.lookup f36 = some ⟨oc36, od36, .func (PySem.W.fnOf "_law_starts" "_law_starts" (defArgs sLStarts) (defBody sLStarts) (defScope sLStarts) .none kV36 dc36 pm36 an36 cd36 ct36), sl36⟩) (c36 : PySem.W.codeIn K cd36 "_law_starts" = true) (k36 : PySem.W.keepIn K (.ref f36) = true)
    (a37 : PySem.W.nsIn K mainGlobals "_law_edit" = some (some (.ref f37))) (l37 : K.lookup f37 = some ⟨oc37, od37, .func (PySem.W.fnOf "_law_edit" "_law_edit" (defArgs s_law_edit) (defBody s_law_edit) (defScope s_law_edit) .none kV37 dc37 pm37 an37 cd37 ct37), sl37⟩) (c37 : PySem.W.codeIn K cd37 "_law_edit" = true) (k37 : PySem.W.keepIn K (.ref f37) = true)
    (a38 : PySem.W.nsIn K mainGlobals "_law_after" = some (some (.ref f38))) (l38 : K.lookup f38 = some ⟨oc38, od38, .func (PySem.W.fnOf "_law_after" "_law_after" (defArgs s_law_after) (defBody s_law_after) (defScope s_law_after) .none kV38 dc38 pm38 an38 cd38 ct38), sl38⟩) (c38 : PySem.W.codeIn K cd38 "_law_after" = true) (k38 : PySem.W.keepIn K (.ref f38) = true)
    (a39 : PySem.W.nsIn K mainGlobals "_law_done" = some (some (.ref f39))) (l39 : K.lookup f39 = some ⟨oc39, od39, .func (PySem.W.fnOf "_law_done" "_law_done" (defArgs s_law_done) (defBody s_law_done) (defScope s_law_done) .none kV39 dc39 pm39 an39 cd39 ct39), sl39⟩) (c39 : PySem.W.codeIn K cd39 "_law_done" = true) (k39 : PySem.W.keepIn K (.ref f39) = true)
    (a40 : PySem.W.nsIn K mainGlobals "_law_edited" = some (some (.ref f40))) (l40 : K.lookup f40 = some ⟨oc40, od40, .func (PySem.W.fnOf "_law_edited" "_law_edited" (defArgs s_law_edited) (defBody s_law_edited) (defScope s_law_edited) .none kV40 dc40 pm40 an40 cd40 ct40), sl40⟩) (c40 : PySem.W.codeIn K cd40 "_law_edited" = true) (k40 : PySem.W.keepIn K (.ref f40) = true)
    (a41 : PySem.W.nsIn K mainGlobals "_law_agreed" = some (some (.ref f41))) (l41 : K.lookup f41 = some ⟨oc41, od41, .func (PySem.W.fnOf "_law_agreed" "_law_agreed" (defArgs s_law_agreed) (defBody s_law_agreed) (defScope s_law_agreed) .none kV41 dc41 pm41 an41 cd41 ct41), sl41⟩) (c41 : PySem.W.codeIn K cd41 "_law_agreed" = true) (k41 : PySem.W.keepIn K (.ref f41) = true)
    (a42 : PySem.W.nsIn K mainGlobals "_law_seen" = some (some (.ref f42))) (l42 : K.lookup f42 = some ⟨oc42, od42, .func (PySem.W.fnOf "_law_seen" "_law_seen" (defArgs s_law_seen) (defBody s_law_seen) (defScope s_law_seen) .none kV42 dc42 pm42 an42 cd42 ct42), sl42⟩) (c42 : PySem.W.codeIn K cd42 "_law_seen" = true) (k42 : PySem.W.keepIn K (.ref f42) = true)
    (a43 : PySem.W.nsIn K mainGlobals "_law_all_of" = some (some (.ref f43))) (l43 : K.lookup f43 = some ⟨oc43, od43, .func (PySem.W.fnOf "_law_all_of" "_law_all_of" (defArgs s_law_all_of) (defBody s_law_all_of) (defScope s_law_all_of) .none kV43 dc43 pm43 an43 cd43 ct43), sl43⟩) (c43 : PySem.W.codeIn K cd43 "_law_all_of" = true) (k43 : PySem.W.keepIn K (.ref f43) = true)
    (a44 : PySem.W.nsIn K mainGlobals "_law_is_new" = some (some (.ref f44))) (l44 : K.lookup f44 = some ⟨oc44, od44, .func (PySem.W.fnOf "_law_is_new" "_law_is_new" (defArgs s_law_is_new) (defBody s_law_is_new) (defScope s_law_is_new) .none kV44 dc44 pm44 an44 cd44 ct44), sl44⟩) (c44 : PySem.W.codeIn K cd44 "_law_is_new" = true) (k44 : PySem.W.keepIn K (.ref f44) = true)
    (a45 : PySem.W.nsIn K mainGlobals "_law_is_bare" = some (some (.ref f45))) (l45 : K.lookup f45 = some ⟨oc45, od45, .func (PySem.W.fnOf "_law_is_bare" "_law_is_bare" (defArgs s_law_is_bare) (defBody s_law_is_bare) (defScope s_law_is_bare) .none kV45 dc45 pm45 an45 cd45 ct45), sl45⟩) (c45 : PySem.W.codeIn K cd45 "_law_is_bare" = true) (k45 : PySem.W.keepIn K (.ref f45) = true)
    (a46 : PySem.W.nsIn K mainGlobals "_law_right" = some (some (.ref f46))) (l46 : K.lookup f46 = some ⟨oc46, od46, .func (PySem.W.fnOf "_law_right" "_law_right" (defArgs sRight) (defBody sRight) (defScope sRight) .none kV46 dc46 pm46 an46 cd46 ct46), sl46⟩) (c46 : PySem.W.codeIn K cd46 "_law_right" = true) (k46 : PySem.W.keepIn K (.ref f46) = true)
    (a47 : PySem.W.nsIn K mainGlobals "law" = some (some (.ref f47))) (l47 : K.lookup f47 = some ⟨oc47, od47, .func (PySem.W.fnOf "law" "law" (defArgs sLaw) (defBody sLaw) (defScope sLaw) .none kV47 dc47 pm47 an47 cd47 ct47), sl47⟩) (c47 : PySem.W.codeIn K cd47 "law" = true) (k47 : PySem.W.keepIn K (.ref f47) = true)
    {z0 y0 z1 y1 : Addr}
    {xm0 xq0 : Str} {xb0 xs0 : List Value} {xt0 : List Str} {xa0 : Bool} {xc0 : Option Bool} {xd0 : Option Addr} {xk0_0 xk0_1 xk0_2 xk0_3 xk0_4 : Option Value}
    (mz0 : PySem.W.nsIn K mainGlobals "NothingToUndo" = some (some (.ref z0)))
    {xm1 xq1 : Str} {xb1 xs1 : List Value} {xt1 : List Str} {xa1 : Bool} {xc1 : Option Bool} {xd1 : Option Addr} {xk1_0 xk1_1 xk1_2 xk1_3 xk1_4 : Option Value}
    (mz1 : PySem.W.nsIn K mainGlobals "OverlapError" = some (some (.ref z1)))
    (x0 : K.lookup z0 = some (excClassObj xm0 xq0 z0 y0 xb0 [.ref z1, .type "ValueError", .type "Exception", .type "BaseException", .type "object"] true xt0 xs0 xa0 xc0 xd0 xk0_0 xk0_1 xk0_2 xk0_3 xk0_4 "ValueError.__new__"))
    (ga0 : PySem.W.findIn K (.ref z0) "__getattribute__" = some (some (.builtin "BaseException.__getattribute__")))
    (gg0 : PySem.W.findIn K (.ref z0) "__getattr__" = some none)
    (gc0 : PySem.W.findIn K (.ref z0) "__class__" = some (some (.builtin "object.__class__")))
    (gk0 : PySem.W.keepIn K (.ref z0) = true)
    (ty0 : PySem.W.typeIn K (.ref z0) = some (.type "type"))
    (eh0 : PySem.W.hasDictIn K z0 = true)
    (no0 : PySem.W.findIn K (.ref z0) "value" = some none)
    (x1 : K.lookup z1 = some (excClassObj xm1 xq1 z1 y1 xb1 [.type "ValueError", .type "Exception", .type "BaseException", .type "object"] true xt1 xs1 xa1 xc1 xd1 xk1_0 xk1_1 xk1_2 xk1_3 xk1_4 "ValueError.__new__"))
    (ga1 : PySem.W.findIn K (.ref z1) "__getattribute__" = some (some (.builtin "BaseException.__getattribute__")))
    (gg1 : PySem.W.findIn K (.ref z1) "__getattr__" = some none)
    (gc1 : PySem.W.findIn K (.ref z1) "__class__" = some (some (.builtin "object.__class__")))
    (gk1 : PySem.W.keepIn K (.ref z1) = true)
    (ty1 : PySem.W.typeIn K (.ref z1) = some (.type "type"))
    (eh1 : PySem.W.hasDictIn K z1 = true)
    (spc : PySem.W.specialIn K (.builtin "object.__class__") "__get__" = some (some (.builtin "getset_descriptor.__get__"))) (tkc : PySem.W.takesIn K (.builtin "object.__class__") = some true)
    (ndp : ([z0, z1] : List Addr).Nodup)
    (ex0 : PySem.W.excIn K z0 [.type "ValueError", .type "Exception", .type "BaseException", .type "object"] "ValueError.__new__" = true)
    {C0 m0_0 m0_1 m0_2 : Addr} {mod0_0 man0_0 mod0_1 man0_1 mod0_2 man0_2 : Option Addr} {msl0_0 msl0_1 msl0_2 : Array (Option Value)} {moc0_0 mkV0_0 mdc0_0 mpm0_0 mcd0_0 mct0_0 moc0_1 mkV0_1 mdc0_1 mpm0_1 mcd0_1 mct0_1 moc0_2 mkV0_2 mdc0_2 mpm0_2 mcd0_2 mct0_2 : Value}
    (clA0 : PySem.W.nsIn K mainGlobals "InstructionSet" = some (some (.ref C0)))
    (ma0_0 : PySem.W.findIn K (.ref C0) "__init__" = some (some (.ref m0_0))) (mi0_0 : PySem.W.isFn K (.ref m0_0) = true) (ml0_0 : K.lookup m0_0 = some ⟨moc0_0, mod0_0, .func (PySem.W.fnOf "__init__" "InstructionSet.__init__" (defArgs sInitI) (defBody sInitI) (defScope sInitI) .none mkV0_0 mdc0_0 mpm0_0 man0_0 mcd0_0 mct0_0), msl0_0⟩) (mc0_0 : PySem.W.codeIn K mcd0_0 "InstructionSet.__init__" = true) (mk0_0 : PySem.W.keepIn K (.ref m0_0) = true)
    (ma0_1 : PySem.W.findIn K (.ref C0) "length_at" = some (some (.ref m0_1))) (mi0_1 : PySem.W.isFn K (.ref m0_1) = true) (ml0_1 : K.lookup m0_1 = some ⟨moc0_1, mod0_1, .func (PySem.W.fnOf "length_at" "InstructionSet.length_at" (defArgs sLenAt) (defBody sLenAt) (defScope sLenAt) .none mkV0_1 mdc0_1 mpm0_1 man0_1 mcd0_1 mct0_1), msl0_1⟩) (mc0_1 : PySem.W.codeIn K mcd0_1 "InstructionSet.length_at" = true) (mk0_1 : PySem.W.keepIn K (.ref m0_1) = true)
    (ma0_2 : PySem.W.findIn K (.ref C0) "longest" = some (some (.ref m0_2))) (mi0_2 : PySem.W.isFn K (.ref m0_2) = true) (ml0_2 : K.lookup m0_2 = some ⟨moc0_2, mod0_2, .func (PySem.W.fnOf "longest" "InstructionSet.longest" (defArgs sLongest) (defBody sLongest) (defScope sLongest) .none mkV0_2 mdc0_2 mpm0_2 man0_2 mcd0_2 mct0_2), msl0_2⟩) (mc0_2 : PySem.W.codeIn K mcd0_2 "InstructionSet.longest" = true) (mk0_2 : PySem.W.keepIn K (.ref m0_2) = true)
    (pg0 : PySem.W.plainGet K C0 Str.empty = true) (hd0 : PySem.W.hasDictIn K C0 = true) (po0 : PySem.W.plainOver K C0 = true) (sa0 : PySem.W.findIn K (.ref C0) "__setattr__" = some (some (.builtin "object.__setattr__"))) (mks0 : PySem.W.makesIn K C0 = true) (kc0 : PySem.W.keepIn K (.ref C0) = true)
    (na0_0 : PySem.W.findIn K (.ref C0) "byte_count" = some none)
    (na0_1 : PySem.W.findIn K (.ref C0) "instructions" = some none)
    (na0_2 : PySem.W.findIn K (.ref C0) "length_of_opcode" = some none)
    (na0_3 : PySem.W.findIn K (.ref C0) "opcode_of_name" = some none)
    {C1 m1_0 : Addr} {mod1_0 man1_0 : Option Addr} {msl1_0 : Array (Option Value)} {moc1_0 mkV1_0 mdc1_0 mpm1_0 mcd1_0 mct1_0 : Value}
    (clA1 : PySem.W.nsIn K mainGlobals "Span" = some (some (.ref C1)))
    (ma1_0 : PySem.W.findIn K (.ref C1) "__init__" = some (some (.ref m1_0))) (mi1_0 : PySem.W.isFn K (.ref m1_0) = true) (ml1_0 : K.lookup m1_0 = some ⟨moc1_0, mod1_0, .func (PySem.W.fnOf "__init__" "Span.__init__" (defArgs sInitS) (defBody sInitS) (defScope sInitS) .none mkV1_0 mdc1_0 mpm1_0 man1_0 mcd1_0 mct1_0), msl1_0⟩) (mc1_0 : PySem.W.codeIn K mcd1_0 "Span.__init__" = true) (mk1_0 : PySem.W.keepIn K (.ref m1_0) = true)
    (pg1 : PySem.W.plainGet K C1 Str.empty = true) (hd1 : PySem.W.hasDictIn K C1 = true) (po1 : PySem.W.plainOver K C1 = true) (sa1 : PySem.W.findIn K (.ref C1) "__setattr__" = some (some (.builtin "object.__setattr__"))) (mks1 : PySem.W.makesIn K C1 = true) (kc1 : PySem.W.keepIn K (.ref C1) = true)
    (na1_0 : PySem.W.findIn K (.ref C1) "row" = some none)
    (na1_1 : PySem.W.findIn K (.ref C1) "left" = some none)
    (na1_2 : PySem.W.findIn K (.ref C1) "right" = some none)
    (na1_3 : PySem.W.findIn K (.ref C1) "size" = some none)
    (na1_4 : PySem.W.findIn K (.ref C1) "height" = some none)
    (na1_5 : PySem.W.findIn K (.ref C1) "summary" = some none)
    {C2 m2_0 m2_1 m2_2 m2_3 m2_4 m2_5 m2_6 m2_7 m2_8 m2_9 m2_10 m2_11 m2_12 m2_13 m2_14 m2_15 m2_16 m2_17 : Addr} {mod2_0 man2_0 mod2_1 man2_1 mod2_2 man2_2 mod2_3 man2_3 mod2_4 man2_4 mod2_5 man2_5 mod2_6 man2_6 mod2_7 man2_7 mod2_8 man2_8 mod2_9 man2_9 mod2_10 man2_10 mod2_11 man2_11 mod2_12 man2_12 mod2_13 man2_13 mod2_14 man2_14 mod2_15 man2_15 mod2_16 man2_16 mod2_17 man2_17 : Option Addr} {msl2_0 msl2_1 msl2_2 msl2_3 msl2_4 msl2_5 msl2_6 msl2_7 msl2_8 msl2_9 msl2_10 msl2_11 msl2_12 msl2_13 msl2_14 msl2_15 msl2_16 msl2_17 : Array (Option Value)} {moc2_0 mkV2_0 mdc2_0 mpm2_0 mcd2_0 mct2_0 moc2_1 mkV2_1 mdc2_1 mpm2_1 mcd2_1 mct2_1 moc2_2 mkV2_2 mdc2_2 mpm2_2 mcd2_2 mct2_2 moc2_3 mkV2_3 mdc2_3 mpm2_3 mcd2_3 mct2_3 moc2_4 mkV2_4 mdc2_4 mpm2_4 mcd2_4 mct2_4 moc2_5 mkV2_5 mdc2_5 mpm2_5 mcd2_5 mct2_5 moc2_6 mkV2_6 mdc2_6 mpm2_6 mcd2_6 mct2_6 moc2_7 mkV2_7 mdc2_7 mpm2_7 mcd2_7 mct2_7 moc2_8 mkV2_8 mdc2_8 mpm2_8 mcd2_8 mct2_8 moc2_9 mkV2_9 mdc2_9 mpm2_9 mcd2_9 mct2_9 moc2_10 mkV2_10 mdc2_10 mpm2_10 mcd2_10 mct2_10 moc2_11 mkV2_11 mdc2_11 mpm2_11 mcd2_11 mct2_11 moc2_12 mkV2_12 mdc2_12 mpm2_12 mcd2_12 mct2_12 moc2_13 mkV2_13 mdc2_13 mpm2_13 mcd2_13 mct2_13 moc2_14 mkV2_14 mdc2_14 mpm2_14 mcd2_14 mct2_14 moc2_15 mkV2_15 mdc2_15 mpm2_15 mcd2_15 mct2_15 moc2_16 mkV2_16 mdc2_16 mpm2_16 mcd2_16 mct2_16 moc2_17 mkV2_17 mdc2_17 mpm2_17 mcd2_17 mct2_17 : Value}
    (clA2 : PySem.W.nsIn K mainGlobals "CodeBuffer" = some (some (.ref C2)))
    {mdT2_0 me2_0 : Addr} {mxoc2_0 : Value} {mxod2_0 : Option Addr} {mxn2_0 : Nat} {mxsl2_0 : Array (Option Value)}
    (ma2_0 : PySem.W.findIn K (.ref C2) "__init__" = some (some (.ref m2_0))) (mi2_0 : PySem.W.isFn K (.ref m2_0) = true) (ml2_0 : K.lookup m2_0 = some ⟨moc2_0, mod2_0, .func (PySem.W.fnOf "__init__" "CodeBuffer.__init__" (defArgs sBInit) (defBody sBInit) (defScope sBInit) (.ref mdT2_0) mkV2_0 mdc2_0 mpm2_0 man2_0 mcd2_0 mct2_0), msl2_0⟩) (mc2_0 : PySem.W.codeIn K mcd2_0 "CodeBuffer.__init__" = true) (mk2_0 : PySem.W.keepIn K (.ref m2_0) = true)
    (mld2_0 : K.lookup mdT2_0 = some ⟨mxoc2_0, mxod2_0, .seq #[.ref me2_0] mxn2_0, mxsl2_0⟩)
    {xed2_0 : Option Addr} {xen2_0 : Nat} {xes2_0 : Array (Option Value)} (mel2_0 : K.lookup me2_0 = some ⟨.type "tuple", xed2_0, .seq #[] xen2_0, xes2_0⟩)
    (ma2_1 : PySem.W.findIn K (.ref C2) "insert" = some (some (.ref m2_1))) (mi2_1 : PySem.W.isFn K (.ref m2_1) = true) (ml2_1 : K.lookup m2_1 = some ⟨moc2_1, mod2_1, .func (PySem.W.fnOf "insert" "CodeBuffer.insert" (defArgs sBIns) (defBody sBIns) (defScope sBIns) .none mkV2_1 mdc2_1 mpm2_1 man2_1 mcd2_1 mct2_1), msl2_1⟩) (mc2_1 : PySem.W.codeIn K mcd2_1 "CodeBuffer.insert" = true) (mk2_1 : PySem.W.keepIn K (.ref m2_1) = true)
    (ma2_2 : PySem.W.findIn K (.ref C2) "delete" = some (some (.ref m2_2))) (mi2_2 : PySem.W.isFn K (.ref m2_2) = true) (ml2_2 : K.lookup m2_2 = some ⟨moc2_2, mod2_2, .func (PySem.W.fnOf "delete" "CodeBuffer.delete" (defArgs sBDel) (defBody sBDel) (defScope sBDel) .none mkV2_2 mdc2_2 mpm2_2 man2_2 mcd2_2 mct2_2), msl2_2⟩) (mc2_2 : PySem.W.codeIn K mcd2_2 "CodeBuffer.delete" = true) (mk2_2 : PySem.W.keepIn K (.ref m2_2) = true)
    (ma2_3 : PySem.W.findIn K (.ref C2) "replace" = some (some (.ref m2_3))) (mi2_3 : PySem.W.isFn K (.ref m2_3) = true) (ml2_3 : K.lookup m2_3 = some ⟨moc2_3, mod2_3, .func (PySem.W.fnOf "replace" "CodeBuffer.replace" (defArgs sBRep) (defBody sBRep) (defScope sBRep) .none mkV2_3 mdc2_3 mpm2_3 man2_3 mcd2_3 mct2_3), msl2_3⟩) (mc2_3 : PySem.W.codeIn K mcd2_3 "CodeBuffer.replace" = true) (mk2_3 : PySem.W.keepIn K (.ref m2_3) = true)
    (ma2_4 : PySem.W.findIn K (.ref C2) "repeat" = some (some (.ref m2_4))) (mi2_4 : PySem.W.isFn K (.ref m2_4) = true) (ml2_4 : K.lookup m2_4 = some ⟨moc2_4, mod2_4, .func (PySem.W.fnOf "repeat" "CodeBuffer.repeat" (defArgs sBRpt) (defBody sBRpt) (defScope sBRpt) .none mkV2_4 mdc2_4 mpm2_4 man2_4 mcd2_4 mct2_4), msl2_4⟩) (mc2_4 : PySem.W.codeIn K mcd2_4 "CodeBuffer.repeat" = true) (mk2_4 : PySem.W.keepIn K (.ref m2_4) = true)
    (ma2_5 : PySem.W.findIn K (.ref C2) "undo" = some (some (.ref m2_5))) (mi2_5 : PySem.W.isFn K (.ref m2_5) = true) (ml2_5 : K.lookup m2_5 = some ⟨moc2_5, mod2_5, .func (PySem.W.fnOf "undo" "CodeBuffer.undo" (defArgs sBUnd) (defBody sBUnd) (defScope sBUnd) .none mkV2_5 mdc2_5 mpm2_5 man2_5 mcd2_5 mct2_5), msl2_5⟩) (mc2_5 : PySem.W.codeIn K mcd2_5 "CodeBuffer.undo" = true) (mk2_5 : PySem.W.keepIn K (.ref m2_5) = true)
    (ma2_6 : PySem.W.findIn K (.ref C2) "length" = some (some (.ref m2_6))) (mi2_6 : PySem.W.isFn K (.ref m2_6) = true) (ml2_6 : K.lookup m2_6 = some ⟨moc2_6, mod2_6, .func (PySem.W.fnOf "length" "CodeBuffer.length" (defArgs sBLength) (defBody sBLength) (defScope sBLength) .none mkV2_6 mdc2_6 mpm2_6 man2_6 mcd2_6 mct2_6), msl2_6⟩) (mc2_6 : PySem.W.codeIn K mcd2_6 "CodeBuffer.length" = true) (mk2_6 : PySem.W.keepIn K (.ref m2_6) = true)
    (ma2_7 : PySem.W.findIn K (.ref C2) "code" = some (some (.ref m2_7))) (mi2_7 : PySem.W.isFn K (.ref m2_7) = true) (ml2_7 : K.lookup m2_7 = some ⟨moc2_7, mod2_7, .func (PySem.W.fnOf "code" "CodeBuffer.code" (defArgs sBCode) (defBody sBCode) (defScope sBCode) .none mkV2_7 mdc2_7 mpm2_7 man2_7 mcd2_7 mct2_7), msl2_7⟩) (mc2_7 : PySem.W.codeIn K mcd2_7 "CodeBuffer.code" = true) (mk2_7 : PySem.W.keepIn K (.ref m2_7) = true)
    (ma2_8 : PySem.W.findIn K (.ref C2) "countdown" = some (some (.ref m2_8))) (mi2_8 : PySem.W.isFn K (.ref m2_8) = true) (ml2_8 : K.lookup m2_8 = some ⟨moc2_8, mod2_8, .func (PySem.W.fnOf "countdown" "CodeBuffer.countdown" (defArgs sBCd) (defBody sBCd) (defScope sBCd) .none mkV2_8 mdc2_8 mpm2_8 man2_8 mcd2_8 mct2_8), msl2_8⟩) (mc2_8 : PySem.W.codeIn K mcd2_8 "CodeBuffer.countdown" = true) (mk2_8 : PySem.W.keepIn K (.ref m2_8) = true)
    (ma2_9 : PySem.W.findIn K (.ref C2) "start_count" = some (some (.ref m2_9))) (mi2_9 : PySem.W.isFn K (.ref m2_9) = true) (ml2_9 : K.lookup m2_9 = some ⟨moc2_9, mod2_9, .func (PySem.W.fnOf "start_count" "CodeBuffer.start_count" (defArgs sBCnt) (defBody sBCnt) (defScope sBCnt) .none mkV2_9 mdc2_9 mpm2_9 man2_9 mcd2_9 mct2_9), msl2_9⟩) (mc2_9 : PySem.W.codeIn K mcd2_9 "CodeBuffer.start_count" = true) (mk2_9 : PySem.W.keepIn K (.ref m2_9) = true)
    (ma2_10 : PySem.W.findIn K (.ref C2) "nth_start" = some (some (.ref m2_10))) (mi2_10 : PySem.W.isFn K (.ref m2_10) = true) (ml2_10 : K.lookup m2_10 = some ⟨moc2_10, mod2_10, .func (PySem.W.fnOf "nth_start" "CodeBuffer.nth_start" (defArgs sBNth) (defBody sBNth) (defScope sBNth) .none mkV2_10 mdc2_10 mpm2_10 man2_10 mcd2_10 mct2_10), msl2_10⟩) (mc2_10 : PySem.W.codeIn K mcd2_10 "CodeBuffer.nth_start" = true) (mk2_10 : PySem.W.keepIn K (.ref m2_10) = true)
    (ma2_11 : PySem.W.findIn K (.ref C2) "agreement" = some (some (.ref m2_11))) (mi2_11 : PySem.W.isFn K (.ref m2_11) = true) (ml2_11 : K.lookup m2_11 = some ⟨moc2_11, mod2_11, .func (PySem.W.fnOf "agreement" "CodeBuffer.agreement" (defArgs sBAgr) (defBody sBAgr) (defScope sBAgr) .none mkV2_11 mdc2_11 mpm2_11 man2_11 mcd2_11 mct2_11), msl2_11⟩) (mc2_11 : PySem.W.codeIn K mcd2_11 "CodeBuffer.agreement" = true) (mk2_11 : PySem.W.keepIn K (.ref m2_11) = true)
    (ma2_12 : PySem.W.findIn K (.ref C2) "check_offset" = some (some (.ref m2_12))) (mi2_12 : PySem.W.isFn K (.ref m2_12) = true) (ml2_12 : K.lookup m2_12 = some ⟨moc2_12, mod2_12, .func (PySem.W.fnOf "check_offset" "CodeBuffer.check_offset" (defArgs sBChO) (defBody sBChO) (defScope sBChO) .none mkV2_12 mdc2_12 mpm2_12 man2_12 mcd2_12 mct2_12), msl2_12⟩) (mc2_12 : PySem.W.codeIn K mcd2_12 "CodeBuffer.check_offset" = true) (mk2_12 : PySem.W.keepIn K (.ref m2_12) = true)
    (ma2_13 : PySem.W.findIn K (.ref C2) "check_range" = some (some (.ref m2_13))) (mi2_13 : PySem.W.isFn K (.ref m2_13) = true) (ml2_13 : K.lookup m2_13 = some ⟨moc2_13, mod2_13, .func (PySem.W.fnOf "check_range" "CodeBuffer.check_range" (defArgs sBChR) (defBody sBChR) (defScope sBChR) .none mkV2_13 mdc2_13 mpm2_13 man2_13 mcd2_13 mct2_13), msl2_13⟩) (mc2_13 : PySem.W.codeIn K mcd2_13 "CodeBuffer.check_range" = true) (mk2_13 : PySem.W.keepIn K (.ref m2_13) = true)
    (ma2_14 : PySem.W.findIn K (.ref C2) "put" = some (some (.ref m2_14))) (mi2_14 : PySem.W.isFn K (.ref m2_14) = true) (ml2_14 : K.lookup m2_14 = some ⟨moc2_14, mod2_14, .func (PySem.W.fnOf "put" "CodeBuffer.put" (defArgs sBPut) (defBody sBPut) (defScope sBPut) .none mkV2_14 mdc2_14 mpm2_14 man2_14 mcd2_14 mct2_14), msl2_14⟩) (mc2_14 : PySem.W.codeIn K mcd2_14 "CodeBuffer.put" = true) (mk2_14 : PySem.W.keepIn K (.ref m2_14) = true)
    (ma2_15 : PySem.W.findIn K (.ref C2) "between" = some (some (.ref m2_15))) (mi2_15 : PySem.W.isFn K (.ref m2_15) = true) (ml2_15 : K.lookup m2_15 = some ⟨moc2_15, mod2_15, .func (PySem.W.fnOf "between" "CodeBuffer.between" (defArgs sBBetween) (defBody sBBetween) (defScope sBBetween) .none mkV2_15 mdc2_15 mpm2_15 man2_15 mcd2_15 mct2_15), msl2_15⟩) (mc2_15 : PySem.W.codeIn K mcd2_15 "CodeBuffer.between" = true) (mk2_15 : PySem.W.keepIn K (.ref m2_15) = true)
    (ma2_16 : PySem.W.findIn K (.ref C2) "countdown_between" = some (some (.ref m2_16))) (mi2_16 : PySem.W.isFn K (.ref m2_16) = true) (ml2_16 : K.lookup m2_16 = some ⟨moc2_16, mod2_16, .func (PySem.W.fnOf "countdown_between" "CodeBuffer.countdown_between" (defArgs sBCdb) (defBody sBCdb) (defScope sBCdb) .none mkV2_16 mdc2_16 mpm2_16 man2_16 mcd2_16 mct2_16), msl2_16⟩) (mc2_16 : PySem.W.codeIn K mcd2_16 "CodeBuffer.countdown_between" = true) (mk2_16 : PySem.W.keepIn K (.ref m2_16) = true)
    (ma2_17 : PySem.W.findIn K (.ref C2) "meeting_from" = some (some (.ref m2_17))) (mi2_17 : PySem.W.isFn K (.ref m2_17) = true) (ml2_17 : K.lookup m2_17 = some ⟨moc2_17, mod2_17, .func (PySem.W.fnOf "meeting_from" "CodeBuffer.meeting_from" (defArgs sBMf) (defBody sBMf) (defScope sBMf) .none mkV2_17 mdc2_17 mpm2_17 man2_17 mcd2_17 mct2_17), msl2_17⟩) (mc2_17 : PySem.W.codeIn K mcd2_17 "CodeBuffer.meeting_from" = true) (mk2_17 : PySem.W.keepIn K (.ref m2_17) = true)
    (pg2 : PySem.W.plainGet K C2 Str.empty = true) (hd2 : PySem.W.hasDictIn K C2 = true) (po2 : PySem.W.plainOver K C2 = true) (sa2 : PySem.W.findIn K (.ref C2) "__setattr__" = some (some (.builtin "object.__setattr__"))) (mks2 : PySem.W.makesIn K C2 = true) (kc2 : PySem.W.keepIn K (.ref C2) = true)
    (na2_0 : PySem.W.findIn K (.ref C2) "instruction_set" = some none)
    (na2_1 : PySem.W.findIn K (.ref C2) "span" = some none)
    (na2_2 : PySem.W.findIn K (.ref C2) "edits" = some none)
    (cst0 : PySem.W.nsIn K mainGlobals "LEAST_BYTE_COUNT" = some (some (.int 2 tk0)))
    (cst1 : PySem.W.nsIn K mainGlobals "MOST_BYTE_COUNT" = some (some (.int 256 tk1)))
    (cst2 : PySem.W.nsIn K mainGlobals "MOST_LETTERS" = some (some (.int 8 tk2)))
    (cst3 : PySem.W.nsIn K mainGlobals "MOST_LENGTH" = some (some (.int 12 tk3)))
    (cst4 : PySem.W.nsIn K mainGlobals "MOST_BYTES_OF_ROW" = some (some (.int 32 tk4)))
    (cst5 : PySem.W.nsIn K mainGlobals "MOST_BYTES" = some (some (.int 1000000000000000 tk5)))
    (cst6 : PySem.W.nsIn K mainGlobals "MOST_BYTES_SHOWN" = some (some (.int 100000 tk6)))
    (bz0 : PySem.W.nsIn K mainGlobals "isinstance" = some none)
    (bz1 : PySem.W.nsIn K mainGlobals "int" = some none)
    (bz2 : PySem.W.nsIn K mainGlobals "bool" = some none)
    (bz3 : PySem.W.nsIn K mainGlobals "tuple" = some none)
    (bz4 : PySem.W.nsIn K mainGlobals "list" = some none)
    (bz5 : PySem.W.nsIn K mainGlobals "all" = some none)
    (bz6 : PySem.W.nsIn K mainGlobals "any" = some none)
    (bz7 : PySem.W.nsIn K mainGlobals "zip" = some none)
    (bz8 : PySem.W.nsIn K mainGlobals "len" = some none)
    (bz9 : PySem.W.nsIn K mainGlobals "range" = some none)
    (bz10 : PySem.W.nsIn K mainGlobals "abs" = some none)
    (bz11 : PySem.W.nsIn K mainGlobals "sorted" = some none)
    (bz12 : PySem.W.nsIn K mainGlobals "min" = some none)
    (bz13 : PySem.W.nsIn K mainGlobals "repr" = some none)
    (bz14 : PySem.W.nsIn K mainGlobals "max" = some none)
    (bz15 : PySem.W.nsIn K mainGlobals "sum" = some none)
    (bz16 : PySem.W.nsIn K mainGlobals "enumerate" = some none)
    (bz17 : PySem.W.nsIn K mainGlobals "str" = some none)
    (bz18 : PySem.W.nsIn K mainGlobals "set" = some none)
    (bz19 : PySem.W.nsIn K mainGlobals "dict" = some none)
    (bz20 : PySem.W.nsIn K mainGlobals "ValueError" = some none)
    : ∃ fd : FuncData, (∀ (s : Shared) (v : Value), BindsTo s fd ⟨[v], []⟩ [("_law_script", v)]) ∧ ∀ base : Heap, K.In base → base.Ns mainGlobals mg → FnG P w K mg base 179 fa fd ["_law_script"] (spLaw K) := by
  have e := hfa.symm.trans (PySem.W.mg_of X G a47)
  cases e
  have T : Bi mg := ⟨PySem.W.mg_none_of X G bz0, PySem.W.mg_none_of X G bz1, PySem.W.mg_none_of X G bz2, PySem.W.mg_none_of X G bz3, PySem.W.mg_none_of X G bz4, PySem.W.mg_none_of X G bz5, PySem.W.mg_none_of X G bz6, PySem.W.mg_none_of X G bz7, PySem.W.mg_none_of X G bz8, PySem.W.mg_none_of X G bz9, PySem.W.mg_none_of X G bz10, PySem.W.mg_none_of X G bz11, PySem.W.mg_none_of X G bz12, PySem.W.mg_none_of X G bz13, PySem.W.mg_none_of X G bz14, PySem.W.mg_none_of X G bz15, PySem.W.mg_none_of X G bz16, PySem.W.mg_none_of X G bz17, PySem.W.mg_none_of X G bz18, PySem.W.mg_none_of X G bz19, PySem.W.mg_none_of X G bz20⟩
  have FIz := fun_mk (st := sIsInt) l0 c0 k0
  have DIz : Def K mg "is_integer" sIsInt f0 _ ["value"] := ⟨FIz, PySem.W.mg_of X G a0, FIz.binds (ps := ["value"]) fun _ _ _ _ _ _ us hl => match us, hl with | [_], _ => rfl⟩
  have FBt := fun_mk (st := sBetween) l1 c1 k1
  have DBt : Def K mg "is_integer_between" sBetween f1 _ ["value", "least", "most"] := ⟨FBt, PySem.W.mg_of X G a1, FBt.binds (ps := ["value", "least", "most"]) fun _ _ _ _ _ _ us hl => match us, hl with | [_, _, _], _ => rfl⟩
  have FAs := fun_mk (st := sAscending) l2 c2 k2
  have DAs : Def K mg "is_ascending" sAscending f2 _ ["numbers"] := ⟨FAs, PySem.W.mg_of X G a2, FAs.binds (ps := ["numbers"]) fun _ _ _ _ _ _ us hl => match us, hl with | [_], _ => rfl⟩
  have FNm := fun_mk (st := sIsName) l3 c3 k3
  have DNm : Def K mg "is_name" sIsName f3 _ ["value"] := ⟨FNm, PySem.W.mg_of X G a3, FNm.binds (ps := ["value"]) fun _ _ _ _ _ _ us hl => match us, hl with | [_], _ => rfl⟩
  have FIn := fun_mk (st := sIsInstr) l4 c4 k4
  have DIn : Def K mg "is_instruction" sIsInstr f4 _ ["byte_count", "value"] := ⟨FIn, PySem.W.mg_of X G a4, FIn.binds (ps := ["byte_count", "value"]) fun _ _ _ _ _ _ us hl => match us, hl with | [_, _], _ => rfl⟩
  have FAI := fun_mk (st := sAreInstr) l5 c5 k5
  have DAI : Def K mg "are_instructions" sAreInstr f5 _ ["byte_count", "value"] := ⟨FAI, PySem.W.mg_of X G a5, FAI.binds (ps := ["byte_count", "value"]) fun _ _ _ _ _ _ us hl => match us, hl with | [_, _], _ => rfl⟩
  have FIc := fun_mk (st := sIsCode) l6 c6 k6
  have DIc : Def K mg "is_code" sIsCode f6 _ ["instruction_set", "value"] := ⟨FIc, PySem.W.mg_of X G a6, FIc.binds (ps := ["instruction_set", "value"]) fun _ _ _ _ _ _ us hl => match us, hl with | [_, _], _ => rfl⟩
  have FWa := fun_mk (st := sWalk) l7 c7 k7
  have DWa : Def K mg "walk" sWalk f7 _ ["instruction_set", "code", "entry"] := ⟨FWa, PySem.W.mg_of X G a7, FWa.binds (ps := ["instruction_set", "code", "entry"]) fun _ _ _ _ _ _ us hl => match us, hl with | [_, _, _], _ => rfl⟩
  have FBh := fun_mk (st := sBehind) l8 c8 k8
  have DBh : Def K mg "countdown_behind" sBehind f8 _ ["code", "following"] := ⟨FBh, PySem.W.mg_of X G a8, FBh.binds (ps := ["code", "following"]) fun _ _ _ _ _ _ us hl => match us, hl with | [_, _], _ => rfl⟩
  have FCM := fun_mk (st := sCodeMap) l9 c9 k9
  have DCM : Def K mg "code_map" sCodeMap f9 _ ["instruction_set", "code"] := ⟨FCM, PySem.W.mg_of X G a9, FCM.binds (ps := ["instruction_set", "code"]) fun _ _ _ _ _ _ us hl => match us, hl with | [_, _], _ => rfl⟩
  have FCp := fun_mk (st := sCompose) l10 c10 k10
  have DCp : Def K mg "compose_maps" sCompose f10 _ ["first", "second"] := ⟨FCp, PySem.W.mg_of X G a10, FCp.binds (ps := ["first", "second"]) fun _ _ _ _ _ _ us hl => match us, hl with | [_, _], _ => rfl⟩
  have FDp := fun_mk (st := sPair) l11 c11 k11
  have DDp : Def K mg "decoder_pair" sPair f11 _ ["instruction_set", "code", "countdown"] := ⟨FDp, PySem.W.mg_of X G a11, FDp.binds (ps := ["instruction_set", "code", "countdown"]) fun _ _ _ _ _ _ us hl => match us, hl with | [_, _, _], _ => rfl⟩
  have FCn := fun_mk (st := sCont) l12 c12 k12
  have DCn : Def K mg "continued" sCont f12 _ ["pair", "second"] := ⟨FCn, PySem.W.mg_of X G a12, FCn.binds (ps := ["pair", "second"]) fun _ _ _ _ _ _ us hl => match us, hl with | [_, _], _ => rfl⟩
  have FSo := fun_mk (st := s_span_of) l13 c13 k13
  have DSo : Def K mg "span_of" s_span_of f13 _ ["instruction_set", "code"] := ⟨FSo, PySem.W.mg_of X G a13, FSo.binds (ps := ["instruction_set", "code"]) fun _ _ _ _ _ _ us hl => match us, hl with | [_, _], _ => rfl⟩
  have FJo := fun_mk (st := s_joined) l14 c14 k14
  have DJo : Def K mg "joined" s_joined f14 _ ["first", "second"] := ⟨FJo, PySem.W.mg_of X G a14, FJo.binds (ps := ["first", "second"]) fun _ _ _ _ _ _ us hl => match us, hl with | [_, _], _ => rfl⟩
  have FPo := fun_mk (st := s_pair_of) l15 c15 k15
  have DPo : Def K mg "pair_of" s_pair_of f15 _ ["left", "right"] := ⟨FPo, PySem.W.mg_of X G a15, FPo.binds (ps := ["left", "right"]) fun _ _ _ _ _ _ us hl => match us, hl with | [_, _], _ => rfl⟩
  have FBl := fun_mk (st := s_balanced) l16 c16 k16
  have DBl : Def K mg "balanced" s_balanced f16 _ ["left", "right"] := ⟨FBl, PySem.W.mg_of X G a16, FBl.binds (ps := ["left", "right"]) fun _ _ _ _ _ _ us hl => match us, hl with | [_, _], _ => rfl⟩
  have FCu := fun_mk (st := s_cut) l17 c17 k17
  have DCu : Def K mg "cut" s_cut f17 _ ["instruction_set", "span", "offset"] := ⟨FCu, PySem.W.mg_of X G a17, FCu.binds (ps := ["instruction_set", "span", "offset"]) fun _ _ _ _ _ _ us hl => match us, hl with | [_, _, _], _ => rfl⟩
  have FPt := fun_mk (st := s_part) l18 c18 k18
  have DPt : Def K mg "part" s_part f18 _ ["instruction_set", "span", "start", "stop"] := ⟨FPt, PySem.W.mg_of X G a18, FPt.binds (ps := ["instruction_set", "span", "start", "stop"]) fun _ _ _ _ _ _ us hl => match us, hl with | [_, _, _, _], _ => rfl⟩
  have FRs := fun_mk (st := s_repeated) l19 c19 k19
  have DRs : Def K mg "repeated" s_repeated f19 _ ["instruction_set", "span", "times"] := ⟨FRs, PySem.W.mg_of X G a19, FRs.binds (ps := ["instruction_set", "span", "times"]) fun _ _ _ _ _ _ us hl => match us, hl with | [_, _, _], _ => rfl⟩
  have FYo := fun_mk (st := s_bytes_of) l20 c20 k20
  have DYo : Def K mg "bytes_of" s_bytes_of f20 _ ["span"] := ⟨FYo, PySem.W.mg_of X G a20, FYo.binds (ps := ["span"]) fun _ _ _ _ _ _ us hl => match us, hl with | [_], _ => rfl⟩
  have FSti := fun_mk (st := s_start_in) l21 c21 k21
  have DSti : Def K mg "start_in" s_start_in f21 _ ["instruction_set", "span", "number"] := ⟨FSti, PySem.W.mg_of X G a21, FSti.binds (ps := ["instruction_set", "span", "number"]) fun _ _ _ _ _ _ us hl => match us, hl with | [_, _, _], _ => rfl⟩
  have FMi := fun_mk (st := s_meeting_in) l22 c22 k22
  have DMi : Def K mg "meeting_in" s_meeting_in f22 _ ["instruction_set", "span", "first", "second"] := ⟨FMi, PySem.W.mg_of X G a22, FMi.binds (ps := ["instruction_set", "span", "first", "second"]) fun _ _ _ _ _ _ us hl => match us, hl with | [_, _, _, _], _ => rfl⟩
  have FDe := fun_mk (st := s_is_decided) l23 c23 k23
  have DDe : Def K mg "is_decided" s_is_decided f23 _ ["first", "second"] := ⟨FDe, PySem.W.mg_of X G a23, FDe.binds (ps := ["first", "second"]) fun _ _ _ _ _ _ us hl => match us, hl with | [_, _], _ => rfl⟩
  have FDo := fun_mk (st := s_decided_offset) l24 c24 k24
  have DDo : Def K mg "decided_offset" s_decided_offset f24 _ ["first", "second", "offset"] := ⟨FDo, PySem.W.mg_of X G a24, FDo.binds (ps := ["first", "second", "offset"]) fun _ _ _ _ _ _ us hl => match us, hl with | [_, _, _], _ => rfl⟩
  have FAf := fun_mk (st := s_countdown_after) l25 c25 k25
  have DAf : Def K mg "countdown_after" s_countdown_after f25 _ ["instruction_set", "countdown", "byte"] := ⟨FAf, PySem.W.mg_of X G a25, FAf.binds (ps := ["instruction_set", "countdown", "byte"]) fun _ _ _ _ _ _ us hl => match us, hl with | [_, _, _], _ => rfl⟩
  have FCk := fun_mk (st := s_check_code) l26 c26 k26
  have DCk : Def K mg "check_code" s_check_code f26 _ ["instruction_set", "code"] := ⟨FCk, PySem.W.mg_of X G a26, FCk.binds (ps := ["instruction_set", "code"]) fun _ _ _ _ _ _ us hl => match us, hl with | [_, _], _ => rfl⟩
  have FBo := fun_mk (st := sBox) l27 c27 k27
  have DBo : Def K mg "_law_box" sBox f27 _ ["_law_script", "_law_k"] := ⟨FBo, PySem.W.mg_of X G a27, FBo.binds (ps := ["_law_script", "_law_k"]) fun _ _ _ _ _ _ us hl => match us, hl with | [_, _], _ => rfl⟩
  have FTa := fun_mk (st := sTake) l28 c28 k28
  have DTa : Def K mg "_law_take" sTake f28 _ ["_law_box_here", "_law_many"] := ⟨FTa, PySem.W.mg_of X G a28, FTa.binds (ps := ["_law_box_here", "_law_many"]) fun _ _ _ _ _ _ us hl => match us, hl with | [_, _], _ => rfl⟩
  have FOf := fun_mk (st := sOf) l29 c29 k29
  have DOf : Def K mg "_law_of" sOf f29 _ ["_law_box_here", "_law_some"] := ⟨FOf, PySem.W.mg_of X G a29, FOf.binds (ps := ["_law_box_here", "_law_some"]) fun _ _ _ _ _ _ us hl => match us, hl with | [_, _], _ => rfl⟩
  have FTb := fun_mk (st := sTable) l30 c30 k30
  have DTb : Def K mg "_law_table" sTable f30 _ ["_law_box_here", "_law_most_bytes", "_law_longest"] := ⟨FTb, PySem.W.mg_of X G a30, FTb.binds (ps := ["_law_box_here", "_law_most_bytes", "_law_longest"]) fun _ _ _ _ _ _ us hl => match us, hl with | [_, _, _], _ => rfl⟩
  have FBy := fun_mk (st := sBytes) l31 c31 k31
  have DBy : Def K mg "_law_bytes" sBytes f31 _ ["_law_box_here", "_law_table_here", "_law_many"] := ⟨FBy, PySem.W.mg_of X G a31, FBy.binds (ps := ["_law_box_here", "_law_table_here", "_law_many"]) fun _ _ _ _ _ _ us hl => match us, hl with | [_, _, _], _ => rfl⟩
  have FMa := fun_mk (st := sMachine) l32 c32 k32
  have DMa : Def K mg "_law_machine" sMachine f32 _ ["_law_table_here"] := ⟨FMa, PySem.W.mg_of X G a32, FMa.binds (ps := ["_law_table_here"]) fun _ _ _ _ _ _ us hl => match us, hl with | [_], _ => rfl⟩
  have FSm := fun_mk (st := sSmall) l33 c33 k33
  have DSm : Def K mg "_law_small" sSmall f33 _ ["_law_box_here"] := ⟨FSm, PySem.W.mg_of X G a33, FSm.binds (ps := ["_law_box_here"]) fun _ _ _ _ _ _ us hl => match us, hl with | [_], _ => rfl⟩
  have FLLa := fun_mk (st := sLLenAt) l34 c34 k34
  have DLLa : Def K mg "_law_length_at" sLLenAt f34 _ ["_law_table_here", "_law_byte"] := ⟨FLLa, PySem.W.mg_of X G a34, FLLa.binds (ps := ["_law_table_here", "_law_byte"]) fun _ _ _ _ _ _ us hl => match us, hl with | [_, _], _ => rfl⟩
  have FLCd := fun_mk (st := sLCds) l35 c35 k35
  have DLCd : Def K mg "_law_countdowns" sLCds f35 _ ["_law_table_here", "_law_code", "_law_entry"] := ⟨FLCd, PySem.W.mg_of X G a35, FLCd.binds (ps := ["_law_table_here", "_law_code", "_law_entry"]) fun _ _ _ _ _ _ us hl => match us, hl with | [_, _, _], _ => rfl⟩
  have FLSt := fun_mk (st := sLStarts) l36 c36 k36
  have DLSt : Def K mg "_law_starts" sLStarts f36 _ ["_law_table_here", "_law_code", "_law_entry"] := ⟨FLSt, PySem.W.mg_of X G a36, FLSt.binds (ps := ["_law_table_here", "_law_code", "_law_entry"]) fun _ _ _ _ _ _ us hl => match us, hl with | [_, _, _], _ => rfl⟩
  have FLE := fun_mk (st := s_law_edit) l37 c37 k37
  have DLE : Def K mg "_law_edit" s_law_edit f37 _ ["_law_box_here", "_law_size"] := ⟨FLE, PySem.W.mg_of X G a37, FLE.binds (ps := ["_law_box_here", "_law_size"]) fun _ _ _ _ _ _ us hl => match us, hl with | [_, _], _ => rfl⟩
  have FLAf := fun_mk (st := s_law_after) l38 c38 k38
  have DLAf : Def K mg "_law_after" s_law_after f38 _ ["_law_code", "_law_word", "_law_start", "_law_stop", "_law_fresh", "_law_times"] := ⟨FLAf, PySem.W.mg_of X G a38, FLAf.binds (ps := ["_law_code", "_law_word", "_law_start", "_law_stop", "_law_fresh", "_law_times"]) fun _ _ _ _ _ _ us hl => match us, hl with | [_, _, _, _, _, _], _ => rfl⟩
  have FLDn := fun_mk (st := s_law_done) l39 c39 k39
  have DLDn : Def K mg "_law_done" s_law_done f39 _ ["_law_buffer", "_law_word", "_law_start", "_law_stop", "_law_fresh", "_law_times"] := ⟨FLDn, PySem.W.mg_of X G a39, FLDn.binds (ps := ["_law_buffer", "_law_word", "_law_start", "_law_stop", "_law_fresh", "_law_times"]) fun _ _ _ _ _ _ us hl => match us, hl with | [_, _, _, _, _, _], _ => rfl⟩
  have FLEd := fun_mk (st := s_law_edited) l40 c40 k40
  have DLEd : Def K mg "_law_edited" s_law_edited f40 _ ["_law_box_here", "_law_table_here", "_law_buffer", "_law_code", "_law_most"] := ⟨FLEd, PySem.W.mg_of X G a40, FLEd.binds (ps := ["_law_box_here", "_law_table_here", "_law_buffer", "_law_code", "_law_most"]) fun _ _ _ _ _ _ us hl => match us, hl with | [_, _, _, _, _], _ => rfl⟩
  have FLAg := fun_mk (st := s_law_agreed) l41 c41 k41
  have DLAg : Def K mg "_law_agreed" s_law_agreed f41 _ ["_law_table_here", "_law_code", "_law_one", "_law_other"] := ⟨FLAg, PySem.W.mg_of X G a41, FLAg.binds (ps := ["_law_table_here", "_law_code", "_law_one", "_law_other"]) fun _ _ _ _ _ _ us hl => match us, hl with | [_, _, _, _], _ => rfl⟩
  have FLSn := fun_mk (st := s_law_seen) l42 c42 k42
  have DLSn : Def K mg "_law_seen" s_law_seen f42 _ ["_law_box_here", "_law_table_here", "_law_buffer", "_law_code"] := ⟨FLSn, PySem.W.mg_of X G a42, FLSn.binds (ps := ["_law_box_here", "_law_table_here", "_law_buffer", "_law_code"]) fun _ _ _ _ _ _ us hl => match us, hl with | [_, _, _, _], _ => rfl⟩
  have FAl82 := fun_mk (st := s_law_all_of) l43 c43 k43
  have DAl82 : Def K mg "_law_all_of" s_law_all_of f43 _ ["_law_buffer", "_law_some"] := ⟨FAl82, PySem.W.mg_of X G a43, FAl82.binds (ps := ["_law_buffer", "_law_some"]) fun _ _ _ _ _ _ us hl => match us, hl with | [_, _], _ => rfl⟩
  have FNw82 := fun_mk (st := s_law_is_new) l44 c44 k44
  have DNw82 : Def K mg "_law_is_new" s_law_is_new f44 _ ["_law_box_here", "_law_table_here", "_law_machine_here", "_law_buffer", "_law_code"] := ⟨FNw82, PySem.W.mg_of X G a44, FNw82.binds (ps := ["_law_box_here", "_law_table_here", "_law_machine_here", "_law_buffer", "_law_code"]) fun _ _ _ _ _ _ us hl => match us, hl with | [_, _, _, _, _], _ => rfl⟩
  have FLBr := fun_mk (st := s_law_is_bare) l45 c45 k45
  have DLBr : Def K mg "_law_is_bare" s_law_is_bare f45 _ ["_law_buffer"] := ⟨FLBr, PySem.W.mg_of X G a45, FLBr.binds (ps := ["_law_buffer"]) fun _ _ _ _ _ _ us hl => match us, hl with | [_], _ => rfl⟩
  have FRi := fun_mk (st := sRight) l46 c46 k46
  have DRi : Def K mg "_law_right" sRight f46 _ ["_law_box_here"] := ⟨FRi, PySem.W.mg_of X G a46, FRi.binds (ps := ["_law_box_here"]) fun _ _ _ _ _ _ us hl => match us, hl with | [_], _ => rfl⟩
  have FLa := fun_mk (st := sLaw) l47 c47 k47
  have FIi := fun_mk (st := sInitI) ml0_0 mc0_0 mk0_0
  have bIi := FIi.binds (ps := ["self", "byte_count", "instructions"]) fun _ _ _ _ _ _ us hl => match us, hl with | [_, _, _], _ => rfl
  have FLA := fun_mk (st := sLenAt) ml0_1 mc0_1 mk0_1
  have bLA := FLA.binds (ps := ["self", "byte"]) fun _ _ _ _ _ _ us hl => match us, hl with | [_, _], _ => rfl
  have FLo := fun_mk (st := sLongest) ml0_2 mc0_2 mk0_2
  have bLo := FLo.binds (ps := ["self"]) fun _ _ _ _ _ _ us hl => match us, hl with | [_], _ => rfl
  have FSI := fun_mk (st := sInitS) ml1_0 mc1_0 mk1_0
  have bSI := FSI.binds (ps := ["self", "row", "left", "right", "size", "height", "summary"]) fun _ _ _ _ _ _ us hl => match us, hl with | [_, _, _, _, _, _, _], _ => rfl
  have FBIn : FunD K "__init__" "CodeBuffer.__init__" (defArgs sBInit) (defBody sBInit) (defScope sBInit) [.ref me2_0] [] m2_0 _ := ⟨⟨_, _, .ref mdT2_0, _, _, _, _, _, _, _, rfl, ml2_0, mc2_0, .inr ⟨by simp, mdT2_0, _, [.ref me2_0], _, rfl, mld2_0, rfl, .cons rfl .nil⟩, .inl rfl⟩, mk2_0⟩
  obtain ⟨dsBIn_0, vBIn_0, bBIn_0⟩ := FBIn.binds1 (ps := ["self", "instruction_set", "code"]) 2 0 (by simp) rfl (fun T kV doc pm an cdv ct us its h1 h2 => match us, its, h1, h2 with | [_, _], [_], _, _ => ⟨_, rfl, rfl⟩)
  obtain ⟨dsBIn_1, vBIn_1, bBIn_1⟩ := FBIn.binds1 (ps := ["self", "instruction_set", "code"]) 3 1 (by simp) rfl (fun T kV doc pm an cdv ct us its h1 h2 => match us, its, h1, h2 with | [_, _, _], [_], _, _ => ⟨_, rfl, rfl⟩)
  cases vBIn_1
  have FBIs := fun_mk (st := sBIns) ml2_1 mc2_1 mk2_1
  have bBIs := FBIs.binds (ps := ["self", "offset", "code"]) fun _ _ _ _ _ _ us hl => match us, hl with | [_, _, _], _ => rfl
  have FBDe := fun_mk (st := sBDel) ml2_2 mc2_2 mk2_2
  have bBDe := FBDe.binds (ps := ["self", "start", "stop"]) fun _ _ _ _ _ _ us hl => match us, hl with | [_, _, _], _ => rfl
  have FBRe := fun_mk (st := sBRep) ml2_3 mc2_3 mk2_3
  have bBRe := FBRe.binds (ps := ["self", "start", "stop", "code"]) fun _ _ _ _ _ _ us hl => match us, hl with | [_, _, _, _], _ => rfl
  have FBRp := fun_mk (st := sBRpt) ml2_4 mc2_4 mk2_4
  have bBRp := FBRp.binds (ps := ["self", "start", "stop", "times"]) fun _ _ _ _ _ _ us hl => match us, hl with | [_, _, _, _], _ => rfl
  have FBUn := fun_mk (st := sBUnd) ml2_5 mc2_5 mk2_5
  have bBUn := FBUn.binds (ps := ["self"]) fun _ _ _ _ _ _ us hl => match us, hl with | [_], _ => rfl
  have FBLn := fun_mk (st := sBLength) ml2_6 mc2_6 mk2_6
  have bBLn := FBLn.binds (ps := ["self"]) fun _ _ _ _ _ _ us hl => match us, hl with | [_], _ => rfl
  have FBCo := fun_mk (st := sBCode) ml2_7 mc2_7 mk2_7
  have bBCo := FBCo.binds (ps := ["self", "start", "stop"]) fun _ _ _ _ _ _ us hl => match us, hl with | [_, _, _], _ => rfl
  have FBCd := fun_mk (st := sBCd) ml2_8 mc2_8 mk2_8
  have bBCd := FBCd.binds (ps := ["self", "entry", "offset"]) fun _ _ _ _ _ _ us hl => match us, hl with | [_, _, _], _ => rfl
  have FBCn := fun_mk (st := sBCnt) ml2_9 mc2_9 mk2_9
  have bBCn := FBCn.binds (ps := ["self", "entry", "start", "stop"]) fun _ _ _ _ _ _ us hl => match us, hl with | [_, _, _, _], _ => rfl
  have FBNt := fun_mk (st := sBNth) ml2_10 mc2_10 mk2_10
  have bBNt := FBNt.binds (ps := ["self", "entry", "number"]) fun _ _ _ _ _ _ us hl => match us, hl with | [_, _, _], _ => rfl
  have FBAg := fun_mk (st := sBAgr) ml2_11 mc2_11 mk2_11
  have bBAg := FBAg.binds (ps := ["self", "entry", "other"]) fun _ _ _ _ _ _ us hl => match us, hl with | [_, _, _], _ => rfl
  have FBCO := fun_mk (st := sBChO) ml2_12 mc2_12 mk2_12
  have bBCO := FBCO.binds (ps := ["self", "value", "least"]) fun _ _ _ _ _ _ us hl => match us, hl with | [_, _, _], _ => rfl
  have FBCR := fun_mk (st := sBChR) ml2_13 mc2_13 mk2_13
  have bBCR := FBCR.binds (ps := ["self", "start", "stop", "least"]) fun _ _ _ _ _ _ us hl => match us, hl with | [_, _, _, _], _ => rfl
  have FBPu := fun_mk (st := sBPut) ml2_14 mc2_14 mk2_14
  have bBPu := FBPu.binds (ps := ["self", "start", "stop", "span"]) fun _ _ _ _ _ _ us hl => match us, hl with | [_, _, _, _], _ => rfl
  have FBBt := fun_mk (st := sBBetween) ml2_15 mc2_15 mk2_15
  have bBBt := FBBt.binds (ps := ["self", "start", "stop"]) fun _ _ _ _ _ _ us hl => match us, hl with | [_, _, _], _ => rfl
  have FBCb := fun_mk (st := sBCdb) ml2_16 mc2_16 mk2_16
  have bBCb := FBCb.binds (ps := ["self", "entry", "offset"]) fun _ _ _ _ _ _ us hl => match us, hl with | [_, _, _], _ => rfl
  have FBMf := fun_mk (st := sBMf) ml2_17 mc2_17 mk2_17
  have bBMf := FBMf.binds (ps := ["self", "offset", "first", "second"]) fun _ _ _ _ _ _ us hl => match us, hl with | [_, _, _, _], _ => rfl
  have CLb : ∃ t, mg "LEAST_BYTE_COUNT" = some (.int 2 t) := ⟨_, PySem.W.mg_of X G cst0⟩
  have CMb : ∃ t, mg "MOST_BYTE_COUNT" = some (.int 256 t) := ⟨_, PySem.W.mg_of X G cst1⟩
  have CMt : ∃ t, mg "MOST_LETTERS" = some (.int 8 t) := ⟨_, PySem.W.mg_of X G cst2⟩
  have CMn : ∃ t, mg "MOST_LENGTH" = some (.int 12 t) := ⟨_, PySem.W.mg_of X G cst3⟩
  have CR32 : ∃ t, mg "MOST_BYTES_OF_ROW" = some (.int 32 t) := ⟨_, PySem.W.mg_of X G cst4⟩
  have CB15 : ∃ t, mg "MOST_BYTES" = some (.int 1000000000000000 t) := ⟨_, PySem.W.mg_of X G cst5⟩
  have CBsh : ∃ t, mg "MOST_BYTES_SHOWN" = some (.int 100000 t) := ⟨_, PySem.W.mg_of X G cst6⟩

  refine ⟨PySem.W.fnOf "law" "law" (defArgs sLaw) (defBody sLaw) (defScope sLaw) .none kV47 dc47 pm47 an47 cd47 ct47, fun s v => .of_eq rfl, fun base _ _ => ?_⟩
  have S : SetTxt K mg C0 := ⟨⟨pg0, hd0, po0, sa0⟩, na0_0, na0_1, na0_2, na0_3, PySem.W.mg_of X G clA0⟩
  have SS : SpanTxt K mg C1 := ⟨⟨pg1, hd1, po1, sa1⟩, na1_0, na1_1, na1_2, na1_3, na1_4, na1_5, PySem.W.mg_of X G clA1⟩
  have BB : BufTxt K mg C2 := ⟨⟨pg2, hd2, po2, sa2⟩, na2_0, na2_1, na2_2, PySem.W.mg_of X G clA2⟩
  have GBt : FnOk P w K mg base CX0 2 _ _ ["value", "least", "most"] spBetween := ok_between FBt T DIz
  have GIn : FnOk P w K mg base CX0 3 _ _ ["byte_count", "value"] spInstr := ok_instr FIn T DBt GBt DNm CMt CMn
  have GAI : FnOk P w K mg base CX0 4 _ _ ["byte_count", "value"] spAreI := ok_areI FAI T DIn GIn DAs (ok_ascL FAs T)
  have GIi : FnOk P w K mg base CX0 5 _ _ ["self", "byte_count", "instructions"] (spInitI C0) := ok_initI FIi T S DBt (upS GBt (by decide)) DAI GAI CLb CMb
  have GLA : FnOk P w K mg base CX0 3 _ _ ["self", "byte"] (spLenAt C0) := ok_lenAt FLA S
  have GWa : FnOk P w K mg base CX0 4 _ _ ["instruction_set", "code", "entry"] (spWalk K C0) := ok_walk FWa T S ⟨ma0_1, mi0_1, mk0_1⟩ bLA GLA
  have GDp : FnOk P w K mg base CX0 5 _ _ ["instruction_set", "code", "countdown"] (spPair K C0) := ok_pair FDp T DWa GWa DBh (ok_behind FBh T)
  have GCM : FnOk P w K mg base CX0 6 _ _ ["instruction_set", "code"] (spCodeMap K C0) := ok_codeMap FCM T S DDp GDp ⟨ma0_2, mi0_2, mk0_2⟩ bLo (ok_longest FLo T S)
  have GCp : FnOk P w K mg base CX0 6 _ _ ["first", "second"] spComp := ok_comp FCp T DCn (ok_cont (k := 4) FCn)
  have GSI : FnOk P w K mg base CX0 5 _ _ ["self", "row", "left", "right", "size", "height", "summary"] (spInitS C1) := ok_initS FSI SS
  have GPo : FnOk P w K mg base CX0 7 _ _ ["left", "right"] (spPairOf K C1) := ok_pairOf FPo T SS ⟨mks1, ma1_0, mi1_0, kc1⟩ bSI GSI DCp GCp
  have GBl : FnOk P w K mg base CX0 8 _ _ ["left", "right"] (spBal K C1) := ok_bal FBl SS DPo GPo
  have GJo : FnOk P w K mg base CX0 89 _ _ ["first", "second"] (spJoin K C1 80) := ok_join DJo SS DPo (upS GPo (by decide)) DBl GBl 80
  have GSo : FnOk P w K mg base CX0 90 _ _ ["instruction_set", "code"] (spSpanOf K C0 C1 0) := ok_spanOf (k := 88) DSo T SS CR32 ⟨mks1, ma1_0, mi1_0, kc1⟩ bSI (upS GSI (by decide)) DCM (upS GCM (by decide)) DJo GJo 0
  have GCu : FnOk P w K mg base CX0 171 _ _ ["instruction_set", "span", "offset"] (spCut K C0 C1 80) := ok_cut (k := 90) DCu T SS DSo GSo DJo (upS GJo (by decide)) 80
  have GPt : FnOk P w K mg base CX0 172 _ _ ["instruction_set", "span", "start", "stop"] (spPart K C0 C1) := ok_part FPt DCu GCu
  have GCk : FnOk P w K mg base CX0 4 _ _ ["instruction_set", "code"] (spCkCode K C0) := ok_ckCode FCk DIc (ok_codeY FIc T S DBt GBt)
  have GRs : FnOk P w K mg base CX0 91 _ _ ["instruction_set", "span", "times"] (spRepS K C0 C1) := ok_repS FRs DSo GSo DJo (upS GJo (by decide))
  have GSti : FnOk P w K mg base CX0 5 _ _ ["instruction_set", "span", "number"] (spStartIn K C0 C1) := ok_startIn FSti SS DWa GWa
  have GMi : FnOk P w K mg base CX0 5 _ _ ["instruction_set", "span", "first", "second"] (spMeetIn K C0 C1) := ok_meetIn FMi SS DDe (ok_decd FDe) DDo (ok_decO FDo) DAf (ok_after FAf S ⟨ma0_1, mi0_1, mk0_1⟩ bLA GLA)
  have GBPu : FnOk P w K mg base CX0 172 _ _ ["self", "start", "stop", "span"] (spBPut K C0 C1 C2) := ok_bPut FBPu SS BB DCu GCu DJo (upS GJo (by decide))
  have GBBt : FnOk P w K mg base CX0 173 _ _ ["self", "start", "stop"] (spBBetween K C0 C1 C2) := ok_bBetween FBBt BB DPt GPt
  have GBCb : FnOk P w K mg base CX0 174 _ _ ["self", "entry", "offset"] (spBCdb K C0 C1 C2) := ok_bCdb FBCb SS BB ⟨ma2_15, mi2_15, mk2_15⟩ bBBt GBBt
  have GBCO : FnOk P w K mg base CX0 3 _ _ ["self", "value", "least"] (spBChO K C1 C2) := ok_bChO FBCO SS BB DBt GBt
  have GBCR : FnOk P w K mg base CX0 4 _ _ ["self", "start", "stop", "least"] (spBChR K C1 C2) := ok_bChR FBCR BB ⟨ma2_12, mi2_12, mk2_12⟩ bBCO GBCO
  have GBCo : FnOk P w K mg base CX0 174 _ _ ["self", "start", "stop"] (spBCode K C0 C1 C2) := ok_bCode FBCo BB CBsh ⟨ma2_13, mi2_13, mk2_13⟩ bBCR (upS GBCR (by decide)) ⟨ma2_15, mi2_15, mk2_15⟩ bBBt GBBt DYo (ok_bytesOf FYo T SS)
  have GBCd : FnOk P w K mg base CX0 175 _ _ ["self", "entry", "offset"] (spBCdb K C0 C1 C2) := ok_bCd FBCd BB ⟨ma2_13, mi2_13, mk2_13⟩ bBCR (upS GBCR (by decide)) ⟨ma2_16, mi2_16, mk2_16⟩ bBCb GBCb
  have GBDe : FnOk P w K mg base CX0 173 _ _ ["self", "start", "stop"] (spBDel K C0 C1 C2) := ok_bDel FBDe BB ⟨ma2_13, mi2_13, mk2_13⟩ bBCR (upS GBCR (by decide)) ⟨ma2_14, mi2_14, mk2_14⟩ bBPu GBPu DSo (upS GSo (by decide))
  have GBRe : FnOk P w K mg base CX0 173 _ _ ["self", "start", "stop", "code"] (spBRep K C0 C1 C2 0) := ok_bRep FBRe BB ⟨ma2_13, mi2_13, mk2_13⟩ bBCR (upS GBCR (by decide)) ⟨ma2_14, mi2_14, mk2_14⟩ bBPu GBPu DCk (upS GCk (by decide)) DSo (upS GSo (by decide))
  have GBIs : FnOk P w K mg base CX0 173 _ _ ["self", "offset", "code"] (spBIns K C0 C1 C2 0) := ok_bIns FBIs BB ⟨ma2_12, mi2_12, mk2_12⟩ bBCO (upS GBCO (by decide)) ⟨ma2_14, mi2_14, mk2_14⟩ bBPu GBPu DCk (upS GCk (by decide)) DSo (upS GSo (by decide))
  have GBRp : FnOk P w K mg base CX0 174 _ _ ["self", "start", "stop", "times"] (spBRpt K C0 C1 C2) := ok_bRpt FBRp SS BB CB15 ⟨ma2_13, mi2_13, mk2_13⟩ bBCR (upS GBCR (by decide)) DIz (ok_isInt FIz T) ⟨ma2_14, mi2_14, mk2_14⟩ bBPu (upS GBPu (by decide)) ⟨ma2_15, mi2_15, mk2_15⟩ bBBt GBBt DRs (upS GRs (by decide))
  have GBIn : FnOk P w K mg base CX0 91 _ _ ["self", "instruction_set", "code"] (spBInit K C0 C1 C2 0) := ok_bInit FBIn SS BB DCk (upS GCk (by decide)) DSo GSo
  have GBLn : ∀ k, FnOk P w K mg base CX0 (k + 1) _ _ ["self"] (spBLength K C1 C2) := fun k => ok_bLength FBLn SS BB
  have GBCn : FnOk P w K mg base CX0 175 _ _ ["self", "entry", "start", "stop"] (spBCnt K C0 C1 C2) := ok_bCnt FBCn SS BB ⟨ma2_12, mi2_12, mk2_12⟩ bBCO (upS GBCO (by decide)) ⟨ma2_13, mi2_13, mk2_13⟩ bBCR (upS GBCR (by decide)) ⟨ma2_16, mi2_16, mk2_16⟩ bBCb GBCb ⟨ma2_15, mi2_15, mk2_15⟩ bBBt (upS GBBt (by decide))
  have GBNt : FnOk P w K mg base CX0 174 _ _ ["self", "entry", "number"] (spBNth K C0 C1 C2) := ok_bNth FBNt SS BB ⟨ma2_12, mi2_12, mk2_12⟩ bBCO (upS GBCO (by decide)) ⟨ma2_15, mi2_15, mk2_15⟩ bBBt GBBt DSti (upS GSti (by decide))
  have GBMf : FnOk P w K mg base CX0 174 _ _ ["self", "offset", "first", "second"] (spBMf K C0 C1 C2) := ok_bMf FBMf SS BB ⟨ma2_15, mi2_15, mk2_15⟩ bBBt GBBt DMi (upS GMi (by decide))
  have GBAg : FnOk P w K mg base CX0 175 _ _ ["self", "entry", "other"] (spBAgr K C0 C1 C2) := ok_bAgr FBAg T BB ⟨ma2_12, mi2_12, mk2_12⟩ bBCO (upS GBCO (by decide)) ⟨ma2_16, mi2_16, mk2_16⟩ bBCb GBCb ⟨ma2_17, mi2_17, mk2_17⟩ bBMf GBMf
  have GBUn : ∀ k, FnOk P w K mg base CX0 (k + 1) _ _ ["self"] (spBUnd K C1 C2) := fun k => ok_bUnd FBUn T BB
  have GTb : FnOk P w K mg base CX0 6 _ _ ["_law_box_here", "_law_most_bytes", "_law_longest"] spTable := ok_table FTb T DOf DTa
  have GBy : FnOk P w K mg base CX0 7 _ _ ["_law_box_here", "_law_table_here", "_law_many"] spBytes := ok_bytes FBy T DOf (ok_of (k := 4) FOf T DTa) DTa (ok_take FTa)
  have GSm : FnOk P w K mg base CX0 7 _ _ ["_law_box_here"] spSmall := ok_small FSm DOf (ok_of (k := 4) FOf T DTa) DTa (ok_take FTa) DTb GTb
  have GMa : FnOk P w K mg base CX0 7 _ _ ["_law_table_here"] (spMachine C0) := ok_machine FMa S ⟨mks0, ma0_0, mi0_0, kc0⟩ bIi GIi
  have GLC : ∀ k, FnOk P w K mg base CX0 (k + 5) _ _ ["_law_table_here", "_law_code", "_law_entry"] (spLCds K) := fun k => ok_lcds FLCd DLLa (ok_llenAt FLLa)
  have GLS : FnOk P w K mg base CX0 6 _ _ ["_law_table_here", "_law_code", "_law_entry"] (spLSts K) := ok_lsts FLSt T DLLa (ok_llenAt FLLa) DLCd (GLC 0)
  have GLE : FnOk P w K mg base CX0 175 _ _ ["_law_box_here", "_law_size"] spLEdit := ok_lEdit FLE T DOf (ok_of (k := 172) FOf T DTa) DTa (ok_take FTa)
  have GLA2 : FnOk P w K mg base CX0 175 _ _ ["_law_code", "_law_word", "_law_start", "_law_stop", "_law_fresh", "_law_times"] (spLAfter K) := ok_lAfter FLAf
  have GLD : FnOk P w K mg base CX0 175 _ _ ["_law_buffer", "_law_word", "_law_start", "_law_stop", "_law_fresh", "_law_times"] (spLDone K C0 C1 C2 0) := ok_lDone FLDn BB ⟨ma2_1, mi2_1, mk2_1⟩ bBIs (upS GBIs (by decide)) ⟨ma2_2, mi2_2, mk2_2⟩ bBDe (upS GBDe (by decide)) ⟨ma2_3, mi2_3, mk2_3⟩ bBRe (upS GBRe (by decide)) ⟨ma2_4, mi2_4, mk2_4⟩ bBRp GBRp
  have GLEd : FnOk P w K mg base CX0 176 _ _ ["_law_box_here", "_law_table_here", "_law_buffer", "_law_code", "_law_most"] (spLEdited K C0 C1 C2) := ok_lEdited FLEd T DLE GLE DBy (upS GBy (by decide)) DTa (ok_take FTa) DOf (ok_of (k := 173) FOf T DTa) DLAf GLA2 DLDn GLD
  have GAg : FnOk P w K mg base CX0 6 _ _ ["_law_table_here", "_law_code", "_law_one", "_law_other"] (spLAgreed K) := ok_lAgreed FLAg T DLCd (GLC 0)
  have GSn : FnG P w K mg base 176 _ _ ["_law_box_here", "_law_table_here", "_law_buffer", "_law_code"] (spSeen K C0 C1 C2) := ok_seen FLSn T BB DTa (ok_take FTa) DLCd (GLC 170) DLSt (upS GLS (by decide)) DLAg (upS GAg (by decide)) ⟨ma2_6, mi2_6, mk2_6⟩ bBLn (GBLn 174) ⟨ma2_7, mi2_7, mk2_7⟩ bBCo (upS GBCo (by decide)) ⟨ma2_8, mi2_8, mk2_8⟩ bBCd GBCd ⟨ma2_9, mi2_9, mk2_9⟩ bBCn GBCn ⟨ma2_11, mi2_11, mk2_11⟩ bBAg GBAg ⟨ma2_10, mi2_10, mk2_10⟩ bBNt (upS GBNt (by decide))
  obtain ⟨C, hC⟩ : ∃ C : Nat → Addr, C = fun i => ([z0, z1] : List Addr).getD i 0 := ⟨_, rfl⟩
  have c0_ : C 0 = z0 := by rw [hC]; rfl
  have c1_ : C 1 = z1 := by rw [hC]; rfl
  have inj : ∀ i j, i < 2 → j < 2 → C i = C j → i = j := fun i j hi hj e => by
    rw [hC] at e
    exact nodup_getD (l := [z0, z1]) i j hi hj e ndp
  clear hC ndp
  subst c0_ c1_
  have mro : ∀ i, i < 2 → ∃ r, (∀ b, PySem.W.mroIn K (C i) b = some ((Value.ref (C i) :: r).contains b)) ∧ (r = [.type "ValueError", .type "Exception", .type "BaseException", .type "object"] ∨ r = [.ref (C 1), .type "ValueError", .type "Exception", .type "BaseException", .type "object"]) ∧ (i ≠ 1 → r = [.ref (C 1), .type "ValueError", .type "Exception", .type "BaseException", .type "object"]) := fun i hi => match i, hi with
    | 0, _ => ⟨_, fun b => mro_of x0 b, .inr rfl, fun _ => rfl⟩
    | 1, _ => ⟨_, fun b => mro_of x1 b, .inl rfl, fun z => absurd rfl z⟩
    | n + 2, h => absurd h (by omega)
  have cls : ∀ i, i < 2 → ((PySem.W.clsIn K (C i)).isSome && PySem.W.typeIn K (.ref (C i)) == some (.type "type")) = true := fun i hi => match i, hi with
    | 0, _ => by rw [cls_of x0, ty0]; rfl
    | 1, _ => by rw [cls_of x1, ty1]; rfl
    | n + 2, h => absurd h (by omega)
  have exc : ∀ i, i < 2 → ExcC K (C i) := fun i hi => match i, hi with
    | 0, _ => ⟨ga0, gg0, by show PySem.W.mroIn K (C 0) _ = _; rw [mro_of x0]; rfl, eh0, gc0, spc, tkc, by rw [mro_of x0]; rfl⟩
    | 1, _ => ⟨ga1, gg1, by show PySem.W.mroIn K (C 1) _ = _; rw [mro_of x1]; rfl, eh1, gc1, spc, tkc, by rw [mro_of x1]; rfl⟩
    | n + 2, h => absurd h (by omega)
  have exm : ∀ i, i < 1 → PySem.W.exmOne K (.ref (C i)) (.ref (C 1)) = some true := fun i hi => PySem.W.exm_ref (by show PySem.W.mroIn K (C 1) _ = _; rw [mro_of x1]; rfl) eh1 ty1 (by
    show PySem.W.mroIn K (C i) (.ref (C 1)) = _
    obtain ⟨r, e, _, er⟩ := mro i (by omega)
    rw [e, er (by omega)]
    simp)
  have xfs : ∀ i, i < 1 → XfC K (C i) := fun i hi => match i, hi with
    | 0, _ => ⟨ga0, gg0, (exc 0 (by decide)).hs, eh0⟩
    | n + 1, h => absurd h (by omega)
  have SN : Err82 K mg C := ⟨PySem.W.mg_of X G mz0, PySem.W.mg_of X G mz1, exm 0 (by decide), ex0, gk0, by show PySem.W.mroIn K (C 0) _ = _; rw [mro_of x0]; rfl, ty0⟩
  have GUE : FnOk P w K mg base (L2.CX P w) 174 _ _ ["self"] (spBUndE K C1 C2 (C 0)) := ok_bUndE (k := 173) FBUn T BB SN
  have GBr : FnOk P w K mg base CX0 175 _ _ ["_law_buffer"] (spBare K C1 C2) := ok_bare FLBr T BB SN ⟨ma2_5, mi2_5, mk2_5⟩ bBUn GUE
  have GSo2 : FnOk P w K mg base CX0 92 _ _ ["instruction_set", "code"] (spSpanOf K C0 C1 2) := ok_spanOf (k := 88) DSo T SS CR32 ⟨mks1, ma1_0, mi1_0, kc1⟩ bSI (upS GSI (by decide)) DCM (upS GCM (by decide)) DJo GJo 2
  have GIn2 : FnOk P w K mg base CX0 93 _ _ ["self", "instruction_set", "code"] (spBInit K C0 C1 C2 2) := ok_bInit FBIn SS BB DCk (upS GCk (by decide)) DSo GSo2
  have GAl : FnG P w K mg base 176 _ _ ["_law_buffer", "_law_some"] (spAll82 K C0 C1 C2) := ok_all82 (k := 175) FAl82 T BB ⟨ma2_6, mi2_6, mk2_6⟩ bBLn (GBLn 174) ⟨ma2_7, mi2_7, mk2_7⟩ bBCo (upS GBCo (by decide)) ⟨ma2_8, mi2_8, mk2_8⟩ bBCd GBCd ⟨ma2_9, mi2_9, mk2_9⟩ bBCn GBCn ⟨ma2_10, mi2_10, mk2_10⟩ bBNt (upS GBNt (by decide)) ⟨ma2_11, mi2_11, mk2_11⟩ bBAg GBAg
  have GNw : FnG P w K mg base 177 _ _ ["_law_box_here", "_law_table_here", "_law_machine_here", "_law_buffer", "_law_code"] (spNew82 K C0 C1 C2) := ok_new82 (k := 175) FNw82 T BB DTa (ok_take FTa) DAl82 GAl DLSn GSn ⟨mks2, ma2_0, mi2_0, kc2⟩ bBIn_1 (upS GIn2 (by decide))
  have GRi : FnG P w K mg base 178 _ _ ["_law_box_here"] spRight := ok_right (k := 176) FRi T BB DSm (upS GSm (by decide)) DMa (upS GMa (by decide)) DBy (upS GBy (by decide)) DTa (ok_take FTa) DOf (ok_of (k := 175) FOf T DTa) ⟨mks2, ma2_0, mi2_0, kc2⟩ bBIn_1 (upS GBIn (by decide)) DLBr (upS GBr (by decide)) ⟨ma2_5, mi2_5, mk2_5⟩ bBUn (GBUn 176) DLEd (upS GLEd (by decide)) DNw82 GNw ⟨ma2_6, mi2_6, mk2_6⟩ bBLn (GBLn 176) ⟨ma2_7, mi2_7, mk2_7⟩ bBCo (upS GBCo (by decide))
  exact ok_law FLa T DBo (ok_box FBo T) DRi GRi
end Ov
open PySem PySem.W PyProof.Rows
set_option maxRecDepth 100000 in
set_option maxHeartbeats 0 in
theorem PySem.Challenge.cw_overlapcode_k82_whole_edit_histories_bes_holds : PySem.Challenge.rw_overlapcode_k82_whole_edit_histories_bes.Holds := by
  w_on; o_law; k_head; (case hw => w_witness2)
  k_fill
  refine Ov.walkG (l := PySem.Challenge.rw_overlapcode_k82_whole_edit_histories_bes) (n := 63) (k := 179) (x := "_law_script") (sp := fun K => Ov.spLaw K) rfl (by decide) rfl ⟨rfl, by decide, by decide⟩ (fun w h Y => PySem.W.kIn_of Y) ?F (fun _ _ a ns hl hS => ⟨a, ns, rfl, hS, hl, fun _ => rfl⟩)
  case F =>
    intro w mg fa h KX G hmg
    refine' Ov.all_mk KX G hmg ?a0 ?l0 ?c0 ?k0 ?a1 ?l1 ?c1 ?k1 ?a2 ?l2 ?c2 ?k2 ?a3 ?l3 ?c3 ?k3 ?a4 ?l4 ?c4 ?k4 ?a5 ?l5 ?c5 ?k5 ?a6 ?l6 ?c6 ?k6 ?a7 ?l7 ?c7 ?k7 ?a8 ?l8 ?c8 ?k8 ?a9 ?l9 ?c9 ?k9 ?a10 ?l10 ?c10 ?k10 ?a11 ?l11 ?c11 ?k11 ?a12 ?l12 ?c12 ?k12 ?a13 ?l13 ?c13 ?k13 ?a14 ?l14 ?c14 ?k14 ?a15 ?l15 ?c15 ?k15 ?a16 ?l16 ?c16 ?k16 ?a17 ?l17 ?c17 ?k17 ?a18 ?l18 ?c18 ?k18 ?a19 ?l19 ?c19 ?k19 ?a20 ?l20 ?c20 ?k20 ?a21 ?l21 ?c21 ?k21 ?a22 ?l22 ?c22 ?k22 ?a23 ?l23 ?c23 ?k23 ?a24 ?l24 ?c24 ?k24 ?a25 ?l25 ?c25 ?k25 ?a26 ?l26 ?c26 ?k26 ?a27 ?l27 ?c27 ?k27 ?a28 ?l28 ?c28 ?k28 ?a29 ?l29 ?c29 ?k29 ?a30 ?l30 ?c30 ?k30 ?a31 ?l31 ?c31 ?k31 ?a32 ?l32 ?c32 ?k32 ?a33 ?l33 ?c33 ?k33 ?a34 ?l34 ?c34 ?k34 ?a35 ?l35 ?c35 ?k35 ?a36 ?l36 ?c36 ?k36 ?a37 ?l37 ?c37 ?k37 ?a38 ?l38 ?c38 ?k38 ?a39 ?l39 ?c39 ?k39 ?a40 ?l40 ?c40 ?k40 ?a41 ?l41 ?c41 ?k41 ?a42 ?l42 ?c42 ?k42 ?a43 ?l43 ?c43 ?k43 ?a44 ?l44 ?c44 ?k44 ?a45 ?l45 ?c45 ?k45 ?a46 ?l46 ?c46 ?k46 ?a47 ?l47 ?c47 ?k47 ?mz0 ?mz1 ?x0 ?ga0 ?gg0 ?gc0 ?gk0 ?ty0 ?eh0 ?no0 ?x1 ?ga1 ?gg1 ?gc1 ?gk1 ?ty1 ?eh1 ?spc ?tkc ?ndp ?ex0 ?clA0 ?ma0_0 ?mi0_0 ?ml0_0 ?mc0_0 ?mk0_0 ?ma0_1 ?mi0_1 ?ml0_1 ?mc0_1 ?mk0_1 ?ma0_2 ?mi0_2 ?ml0_2 ?mc0_2 ?mk0_2 ?pg0 ?hd0 ?po0 ?sa0 ?mks0 ?kc0 ?na0_0 ?na0_1 ?na0_2 ?na0_3 ?clA1 ?ma1_0 ?mi1_0 ?ml1_0 ?mc1_0 ?mk1_0 ?pg1 ?hd1 ?po1 ?sa1 ?mks1 ?kc1 ?na1_0 ?na1_1 ?na1_2 ?na1_3 ?na1_4 ?na1_5 ?clA2 ?ma2_0 ?mi2_0 ?ml2_0 ?mc2_0 ?mk2_0 ?mld2_0 ?mel2_0 ?ma2_1 ?mi2_1 ?ml2_1 ?mc2_1 ?mk2_1 ?ma2_2 ?mi2_2 ?ml2_2 ?mc2_2 ?mk2_2 ?ma2_3 ?mi2_3 ?ml2_3 ?mc2_3 ?mk2_3 ?ma2_4 ?mi2_4 ?ml2_4 ?mc2_4 ?mk2_4 ?ma2_5 ?mi2_5 ?ml2_5 ?mc2_5 ?mk2_5 ?ma2_6 ?mi2_6 ?ml2_6 ?mc2_6 ?mk2_6 ?ma2_7 ?mi2_7 ?ml2_7 ?mc2_7 ?mk2_7 ?ma2_8 ?mi2_8 ?ml2_8 ?mc2_8 ?mk2_8 ?ma2_9 ?mi2_9 ?ml2_9 ?mc2_9 ?mk2_9 ?ma2_10 ?mi2_10 ?ml2_10 ?mc2_10 ?mk2_10 ?ma2_11 ?mi2_11 ?ml2_11 ?mc2_11 ?mk2_11 ?ma2_12 ?mi2_12 ?ml2_12 ?mc2_12 ?mk2_12 ?ma2_13 ?mi2_13 ?ml2_13 ?mc2_13 ?mk2_13 ?ma2_14 ?mi2_14 ?ml2_14 ?mc2_14 ?mk2_14 ?ma2_15 ?mi2_15 ?ml2_15 ?mc2_15 ?mk2_15 ?ma2_16 ?mi2_16 ?ml2_16 ?mc2_16 ?mk2_16 ?ma2_17 ?mi2_17 ?ml2_17 ?mc2_17 ?mk2_17 ?pg2 ?hd2 ?po2 ?sa2 ?mks2 ?kc2 ?na2_0 ?na2_1 ?na2_2 ?cst0 ?cst1 ?cst2 ?cst3 ?cst4 ?cst5 ?cst6 ?bz0 ?bz1 ?bz2 ?bz3 ?bz4 ?bz5 ?bz6 ?bz7 ?bz8 ?bz9 ?bz10 ?bz11 ?bz12 ?bz13 ?bz14 ?bz15 ?bz16 ?bz17 ?bz18 ?bz19 ?bz20
    (case a0 => k_is)
    (case l0 => k_is)
    (case c0 => k_is)
    (case k0 => k_is)
    (case a1 => k_is)
    (case l1 => k_is)
    (case c1 => k_is)
    (case k1 => k_is)
    (case a2 => k_is)
    (case l2 => k_is)
    (case c2 => k_is)
    (case k2 => k_is)
    (case a3 => k_is)
    (case l3 => k_is)
    (case c3 => k_is)
    (case k3 => k_is)
    (case a4 => k_is)
    (case l4 => k_is)
    (case c4 => k_is)
    (case k4 => k_is)
    (case a5 => k_is)
    (case l5 => k_is)
    (case c5 => k_is)
    (case k5 => k_is)
    (case a6 => k_is)
    (case l6 => k_is)
    (case c6 => k_is)
    (case k6 => k_is)
    (case a7 => k_is)
    (case l7 => k_is)
    (case c7 => k_is)
    (case k7 => k_is)
    (case a8 => k_is)
    (case l8 => k_is)
    (case c8 => k_is)
    (case k8 => k_is)
    (case a9 => k_is)
    (case l9 => k_is)
    (case c9 => k_is)
    (case k9 => k_is)
    (case a10 => k_is)
    (case l10 => k_is)
    (case c10 => k_is)
    (case k10 => k_is)
    (case a11 => k_is)
    (case l11 => k_is)
    (case c11 => k_is)
    (case k11 => k_is)
    (case a12 => k_is)
    (case l12 => k_is)
    (case c12 => k_is)
    (case k12 => k_is)
    (case a13 => k_is)
    (case l13 => k_is)
    (case c13 => k_is)
    (case k13 => k_is)
    (case a14 => k_is)
    (case l14 => k_is)
    (case c14 => k_is)
    (case k14 => k_is)
    (case a15 => k_is)
    (case l15 => k_is)
    (case c15 => k_is)
    (case k15 => k_is)
    (case a16 => k_is)
    (case l16 => k_is)
    (case c16 => k_is)
    (case k16 => k_is)
    (case a17 => k_is)
    (case l17 => k_is)
    (case c17 => k_is)
    (case k17 => k_is)
    (case a18 => k_is)
    (case l18 => k_is)
    (case c18 => k_is)
    (case k18 => k_is)
    (case a19 => k_is)
    (case l19 => k_is)
    (case c19 => k_is)
    (case k19 => k_is)
    (case a20 => k_is)
    (case l20 => k_is)
    (case c20 => k_is)
    (case k20 => k_is)
    (case a21 => k_is)
    (case l21 => k_is)
    (case c21 => k_is)
    (case k21 => k_is)
    (case a22 => k_is)
    (case l22 => k_is)
    (case c22 => k_is)
    (case k22 => k_is)
    (case a23 => k_is)
    (case l23 => k_is)
    (case c23 => k_is)
    (case k23 => k_is)
    (case a24 => k_is)
    (case l24 => k_is)
    (case c24 => k_is)
    (case k24 => k_is)
    (case a25 => k_is)
    (case l25 => k_is)
    (case c25 => k_is)
    (case k25 => k_is)
    (case a26 => k_is)
    (case l26 => k_is)
    (case c26 => k_is)
    (case k26 => k_is)
    (case a27 => k_is)
    (case l27 => k_is)
    (case c27 => k_is)
    (case k27 => k_is)
    (case a28 => k_is)
    (case l28 => k_is)
    (case c28 => k_is)
    (case k28 => k_is)
    (case a29 => k_is)
    (case l29 => k_is)
    (case c29 => k_is)
    (case k29 => k_is)
    (case a30 => k_is)
    (case l30 => k_is)
    (case c30 => k_is)
    (case k30 => k_is)
    (case a31 => k_is)
    (case l31 => k_is)
    (case c31 => k_is)
    (case k31 => k_is)
    (case a32 => k_is)
    (case l32 => k_is)
    (case c32 => k_is)
    (case k32 => k_is)
    (case a33 => k_is)
    (case l33 => k_is)
    (case c33 => k_is)
    (case k33 => k_is)
    (case a34 => k_is)
    (case l34 => k_is)
    (case c34 => k_is)
    (case k34 => k_is)
    (case a35 => k_is)
    (case l35 => k_is)
    (case c35 => k_is)
    (case k35 => k_is)
    (case a36 => k_is)
    (case l36 => k_is)
    (case c36 => k_is)
    (case k36 => k_is)
    (case a37 => k_is)
    (case l37 => k_is)
    (case c37 => k_is)
    (case k37 => k_is)
    (case a38 => k_is)
    (case l38 => k_is)
    (case c38 => k_is)
    (case k38 => k_is)
    (case a39 => k_is)
    (case l39 => k_is)
    (case c39 => k_is)
    (case k39 => k_is)
    (case a40 => k_is)
    (case l40 => k_is)
    (case c40 => k_is)
    (case k40 => k_is)
    (case a41 => k_is)
    (case l41 => k_is)
    (case c41 => k_is)
    (case k41 => k_is)
    (case a42 => k_is)
    (case l42 => k_is)
    (case c42 => k_is)
    (case k42 => k_is)
    (case a43 => k_is)
    (case l43 => k_is)
    (case c43 => k_is)
    (case k43 => k_is)
    (case a44 => k_is)
    (case l44 => k_is)
    (case c44 => k_is)
    (case k44 => k_is)
    (case a45 => k_is)
    (case l45 => k_is)
    (case c45 => k_is)
    (case k45 => k_is)
    (case a46 => k_is)
    (case l46 => k_is)
    (case c46 => k_is)
    (case k46 => k_is)
    (case a47 => k_is)
    (case l47 => k_is)
    (case c47 => k_is)
    (case k47 => k_is)
    (case mz0 => k_is)
    (case mz1 => k_is)
    (case x0 => k_is)
    (case ga0 => k_is)
    (case gg0 => k_is)
    (case gc0 => k_is)
    (case gk0 => k_is)
    (case ty0 => k_is)
    (case eh0 => k_is)
    (case no0 => k_is)
    (case x1 => k_is)
    (case ga1 => k_is)
    (case gg1 => k_is)
    (case gc1 => k_is)
    (case gk1 => k_is)
    (case ty1 => k_is)
    (case eh1 => k_is)
    (case spc => k_is)
    (case tkc => k_is)
    (case ndp => decide)
    (case ex0 => k_exc)
    (case clA0 => k_is)
    (case ma0_0 => k_is)
    (case mi0_0 => k_is)
    (case ml0_0 => k_is)
    (case mc0_0 => k_is)
    (case mk0_0 => k_is)
    (case ma0_1 => k_is)
    (case mi0_1 => k_is)
    (case ml0_1 => k_is)
    (case mc0_1 => k_is)
    (case mk0_1 => k_is)
    (case ma0_2 => k_is)
    (case mi0_2 => k_is)
    (case ml0_2 => k_is)
    (case mc0_2 => k_is)
    (case mk0_2 => k_is)
    (case pg0 => k_is)
    (case hd0 => k_is)
    (case po0 => k_is)
    (case sa0 => k_is)
    (case mks0 => k_is)
    (case kc0 => k_is)
    (case na0_0 => k_is)
    (case na0_1 => k_is)
    (case na0_2 => k_is)
    (case na0_3 => k_is)
    (case clA1 => k_is)
    (case ma1_0 => k_is)
    (case mi1_0 => k_is)
    (case ml1_0 => k_is)
    (case mc1_0 => k_is)
    (case mk1_0 => k_is)
    (case pg1 => k_is)
    (case hd1 => k_is)
    (case po1 => k_is)
    (case sa1 => k_is)
    (case mks1 => k_is)
    (case kc1 => k_is)
    (case na1_0 => k_is)
    (case na1_1 => k_is)
    (case na1_2 => k_is)
    (case na1_3 => k_is)
    (case na1_4 => k_is)
    (case na1_5 => k_is)
    (case clA2 => k_is)
    (case ma2_0 => k_is)
    (case mi2_0 => k_is)
    (case ml2_0 => k_is)
    (case mc2_0 => k_is)
    (case mk2_0 => k_is)
    (case mld2_0 => k_is)
    (case mel2_0 => k_is)
    (case ma2_1 => k_is)
    (case mi2_1 => k_is)
    (case ml2_1 => k_is)
    (case mc2_1 => k_is)
    (case mk2_1 => k_is)
    (case ma2_2 => k_is)
    (case mi2_2 => k_is)
    (case ml2_2 => k_is)
    (case mc2_2 => k_is)
    (case mk2_2 => k_is)
    (case ma2_3 => k_is)
    (case mi2_3 => k_is)
    (case ml2_3 => k_is)
    (case mc2_3 => k_is)
    (case mk2_3 => k_is)
    (case ma2_4 => k_is)
    (case mi2_4 => k_is)
    (case ml2_4 => k_is)
    (case mc2_4 => k_is)
    (case mk2_4 => k_is)
    (case ma2_5 => k_is)
    (case mi2_5 => k_is)
    (case ml2_5 => k_is)
    (case mc2_5 => k_is)
    (case mk2_5 => k_is)
    (case ma2_6 => k_is)
    (case mi2_6 => k_is)
    (case ml2_6 => k_is)
    (case mc2_6 => k_is)
    (case mk2_6 => k_is)
    (case ma2_7 => k_is)
    (case mi2_7 => k_is)
    (case ml2_7 => k_is)
    (case mc2_7 => k_is)
    (case mk2_7 => k_is)
    (case ma2_8 => k_is)
    (case mi2_8 => k_is)
    (case ml2_8 => k_is)
    (case mc2_8 => k_is)
    (case mk2_8 => k_is)
    (case ma2_9 => k_is)
    (case mi2_9 => k_is)
    (case ml2_9 => k_is)
    (case mc2_9 => k_is)
    (case mk2_9 => k_is)
    (case ma2_10 => k_is)
    (case mi2_10 => k_is)
    (case ml2_10 => k_is)
    (case mc2_10 => k_is)
    (case mk2_10 => k_is)
    (case ma2_11 => k_is)
    (case mi2_11 => k_is)
    (case ml2_11 => k_is)
    (case mc2_11 => k_is)
    (case mk2_11 => k_is)
    (case ma2_12 => k_is)
    (case mi2_12 => k_is)
    (case ml2_12 => k_is)
    (case mc2_12 => k_is)
    (case mk2_12 => k_is)
    (case ma2_13 => k_is)
    (case mi2_13 => k_is)
    (case ml2_13 => k_is)
    (case mc2_13 => k_is)
    (case mk2_13 => k_is)
    (case ma2_14 => k_is)
    (case mi2_14 => k_is)
    (case ml2_14 => k_is)
    (case mc2_14 => k_is)
    (case mk2_14 => k_is)
    (case ma2_15 => k_is)
    (case mi2_15 => k_is)
    (case ml2_15 => k_is)
    (case mc2_15 => k_is)
    (case mk2_15 => k_is)
    (case ma2_16 => k_is)
    (case mi2_16 => k_is)
    (case ml2_16 => k_is)
    (case mc2_16 => k_is)
    (case mk2_16 => k_is)
    (case ma2_17 => k_is)
    (case mi2_17 => k_is)
    (case ml2_17 => k_is)
    (case mc2_17 => k_is)
    (case mk2_17 => k_is)
    (case pg2 => k_is)
    (case hd2 => k_is)
    (case po2 => k_is)
    (case sa2 => k_is)
    (case mks2 => k_is)
    (case kc2 => k_is)
    (case na2_0 => k_is)
    (case na2_1 => k_is)
    (case na2_2 => k_is)
    (case cst0 => k_is)
    (case cst1 => k_is)
    (case cst2 => k_is)
    (case cst3 => k_is)
    (case cst4 => k_is)
    (case cst5 => k_is)
    (case cst6 => k_is)
    (case bz0 => k_is)
    (case bz1 => k_is)
    (case bz2 => k_is)
    (case bz3 => k_is)
    (case bz4 => k_is)
    (case bz5 => k_is)
    (case bz6 => k_is)
    (case bz7 => k_is)
    (case bz8 => k_is)
    (case bz9 => k_is)
    (case bz10 => k_is)
    (case bz11 => k_is)
    (case bz12 => k_is)
    (case bz13 => k_is)
    (case bz14 => k_is)
    (case bz15 => k_is)
    (case bz16 => k_is)
    (case bz17 => k_is)
    (case bz18 => k_is)
    (case bz19 => k_is)
    (case bz20 => k_is)
