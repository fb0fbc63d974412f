import PyProof.Rows.All
import Wide.All
import OpenK.AllK
import Wide.FinOn
import HandS.ForMost
import HandS.IsInst
import HandS.Zip
import HandS.TupAny
import HandS.Wide
import HandS.More
import HandS.Walk
import HandS.RaiseMore
import HandS.Flow
import HandS.Conv
import HandS.MakeKwOnly
import KE.DataMinMax
import HandS.Small
import HandS.Text
import HandS.Strs
import HandS.Codes
import HandS.ExcInit
import HandS.ExcField
import HandS.ExcIs
import HandS.ExcOwn
import HandS.ExcValue
import KE.KExcIs
import HandS.DictComp
import HandS.TupMul
import PyProof.AutoSeq1
import HandS.SetBool
import HandS.SetFor
import KE.KRevSl
import HandS.Dict
import PyProof.NeData
import PyProof.ListNew
import KE.KDictZip
import HandS.TupLe
import HandS.Defaults
import HandS.Deep
import PySem.Challenge.RW_overlapcode_k50_states_along_codes
set_option Elab.async false
set_option linter.all false
set_option maxRecDepth 100000
set_option maxHeartbeats 4000000
/-! Sums of lengths: the mathematics -/
namespace Ov
/-- a sum of the lengths -/
inductive Sum (ls : List Nat) : Nat → Prop
  | zero : Sum ls 0
  | add {l s : Nat} : l ∈ ls → Sum ls s → Sum ls (s + l)

theorem Sum.mono {ls ks : List Nat} (h : ∀ l ∈ ls, l ∈ ks) {s : Nat} (a : Sum ls s) : Sum ks s := by
  induction a with
  | zero => exact .zero
  | add hl _ ih => exact .add (h _ hl) ih

theorem Sum.plus {ls : List Nat} {s t : Nat} (a : Sum ls s) (b : Sum ls t) : Sum ls (s + t) := by
  induction b with
  | zero => exact a
  | add hl _ ih => rw [← Nat.add_assoc]; exact .add hl ih

theorem Sum.times {ls : List Nat} {l : Nat} (h : l ∈ ls) : ∀ (j : Nat), Sum ls (j * l)
  | 0 => by rw [Nat.zero_mul]; exact .zero
  | j + 1 => by rw [Nat.succ_mul]; exact .add h (Sum.times h j)

theorem Sum.step {ls : List Nat} {w : Nat} : Sum ls w ↔ w = 0 ∨ ∃ l ∈ ls, l ≤ w ∧ Sum ls (w - l) := by
  constructor
  · intro a
    cases a with
    | zero => exact .inl rfl
    | @add l s hl hs => exact .inr ⟨l, hl, Nat.le_add_left _ _, by rw [Nat.add_sub_cancel]; exact hs⟩
  · rintro (rfl | ⟨l, hl, hw, hs⟩)
    · exact .zero
    · have := Sum.add hl hs
      rwa [Nat.sub_add_cancel hw] at this

/-- one more length: a sum of the others and so many of it -/
theorem Sum.snoc {ls : List Nat} {L s : Nat} : Sum (ls ++ [L]) s ↔ ∃ j t, Sum ls t ∧ s = t + j * L := by
  constructor
  · intro a
    induction a with
    | zero => exact ⟨0, 0, .zero, by simp⟩
    | @add l s hl _ ih =>
      obtain ⟨j, t, ht, rfl⟩ := ih
      rcases List.mem_append.mp hl with h | h
      · exact ⟨j, t + l, .add h ht, by omega⟩
      · have : l = L := by simpa using h
        subst this
        exact ⟨j + 1, t, ht, by rw [Nat.succ_mul]; omega⟩
  · rintro ⟨j, t, ht, rfl⟩
    exact (ht.mono fun l h => List.mem_append_left _ h).plus (Sum.times (List.mem_append_right _ (List.mem_singleton.mpr rfl)) j)

theorem Sum.single {m s : Nat} : Sum [m] s ↔ ∃ j, s = j * m := by
  have := @Sum.snoc [] m s
  rw [List.nil_append] at this
  rw [this]
  constructor
  · rintro ⟨j, t, ht, rfl⟩
    have : t = 0 := by
      cases ht with
      | zero => rfl
      | add h _ => cases h
    exact ⟨j, by omega⟩
  · rintro ⟨j, rfl⟩
    exact ⟨j, 0, .zero, by omega⟩

/-! ### least sums by remainder -/
/-- a is at most b, where none is above all -/
def leO (a b : Option Nat) : Prop := ∀ y, b = some y → ∃ x, a = some x ∧ x ≤ y
theorem leO.rfl {a : Option Nat} : leO a a := fun y h => ⟨y, h, Nat.le_refl _⟩
theorem leO.trans {a b c : Option Nat} (h : leO a b) (k : leO b c) : leO a c := fun z hz => by
  obtain ⟨y, hy, hyz⟩ := k z hz
  obtain ⟨x, hx, hxy⟩ := h y hy
  exact ⟨x, hx, Nat.le_trans hxy hyz⟩
def leL (a b : List (Option Nat)) : Prop := a.length = b.length ∧ ∀ r, leO (a.getD r none) (b.getD r none)
theorem leL.rfl {a : List (Option Nat)} : leL a a := ⟨_root_.rfl, fun _ => leO.rfl⟩
theorem leL.trans {a b c : List (Option Nat)} (h : leL a b) (k : leL b c) : leL a c := ⟨h.1.trans k.1, fun r => (h.2 r).trans (k.2 r)⟩

/-- one step of the walk: what is reached at r, and the length, at the remainder that follows -/
def relax (L r f : Nat) (a : List (Option Nat)) : List (Option Nat) :=
  match a.getD r none with
  | none => a
  | some x => match a.getD f none with
    | none => a.set f (some (x + L))
    | some y => if x + L < y then a.set f (some (x + L)) else a

theorem getD_set {α : Type} (a : List α) (f r : Nat) (v d : α) : (a.set f v).getD r d = if f = r ∧ r < a.length then v else a.getD r d := by
  simp only [List.getD_eq_getElem?_getD, List.getElem?_set]
  by_cases h : f = r
  · subst h
    by_cases h2 : f < a.length
    · simp [h2]
    · simp [h2, List.getElem?_eq_none (Nat.le_of_not_lt h2)]
  · simp [h]

theorem relax_len (L r f : Nat) (a : List (Option Nat)) : (relax L r f a).length = a.length := by
  unfold relax
  split
  · rfl
  · split
    · simp
    · split <;> simp

theorem relax_le (L r f : Nat) (a : List (Option Nat)) : leL (relax L r f a) a := by
  refine ⟨relax_len .., fun q => ?_⟩
  unfold relax
  split
  · exact leO.rfl
  · rename_i x _
    split
    · rename_i hf
      rw [getD_set]
      by_cases c : f = q ∧ q < a.length
      · rw [if_pos c, ← c.1, hf]
        intro y h; cases h
      · rw [if_neg c]; exact leO.rfl
    · rename_i y hf
      split
      · rename_i hlt
        rw [getD_set]
        by_cases c : f = q ∧ q < a.length
        · rw [if_pos c, ← c.1, hf]
          intro z h
          cases h
          exact ⟨_, rfl, Nat.le_of_lt hlt⟩
        · rw [if_neg c]; exact leO.rfl
      · exact leO.rfl

theorem relax_at (L r f : Nat) (a : List (Option Nat)) (hf : f < a.length) : leO ((relax L r f a).getD f none) ((a.getD r none).map (· + L)) := by
  unfold relax
  split
  · rename_i h
    rw [h]
    intro y h; cases h
  · rename_i x h
    rw [h]
    split
    · rw [getD_set, if_pos ⟨rfl, hf⟩]
      exact leO.rfl
    · rename_i y hy
      split
      · rw [getD_set, if_pos ⟨rfl, hf⟩]
        exact leO.rfl
      · rename_i hn
        rw [hy]
        intro z hz
        have : x + L = z := Option.some.inj hz
        exact ⟨y, rfl, by omega⟩

/-- every entry is of S and has its remainder -/
def Sound (S : Nat → Prop) (m : Nat) (a : List (Option Nat)) : Prop := ∀ r x, a.getD r none = some x → S x ∧ x % m = r

theorem relax_sound {S : Nat → Prop} {m L r : Nat} {a : List (Option Nat)} (hS : ∀ x, S x → S (x + L)) (h : Sound S m a) : Sound S m (relax L r ((r + L) % m) a) := by
  have key : ∀ x, a.getD r none = some x → S (x + L) ∧ (x + L) % m = (r + L) % m := fun x hx => by
    obtain ⟨h1, h2⟩ := h r x hx
    refine ⟨hS x h1, ?_⟩
    rw [← h2, Nat.add_mod (x % m), Nat.mod_mod, ← Nat.add_mod]
  intro q z hz
  unfold relax at hz
  split at hz
  · exact h q z hz
  · rename_i x hx
    obtain ⟨k1, k2⟩ := key x hx
    split at hz
    · rw [getD_set] at hz
      by_cases c : (r + L) % m = q ∧ q < a.length
      · rw [if_pos c] at hz
        cases hz
        exact ⟨k1, k2.trans c.1⟩
      · rw [if_neg c] at hz; exact h q z hz
    · split at hz
      · rw [getD_set] at hz
        by_cases c : (r + L) % m = q ∧ q < a.length
        · rw [if_pos c] at hz
          cases hz
          exact ⟨k1, k2.trans c.1⟩
        · rw [if_neg c] at hz; exact h q z hz
      · exact h q z hz

/-- so many steps from r on: the list, and where the walk stands -/
def steps (L m : Nat) : Nat → Nat → List (Option Nat) → List (Option Nat) × Nat
  | 0, r, a => (a, r)
  | t + 1, r, a => let q := steps L m t r a; (relax L q.2 ((q.2 + L) % m) q.1, (q.2 + L) % m)

theorem steps_at (L m : Nat) (r : Nat) (a : List (Option Nat)) (hr : r < m) : ∀ t, (steps L m t r a).2 = (r + t * L) % m
  | 0 => by simp [steps, Nat.mod_eq_of_lt hr]
  | t + 1 => by
    show ((steps L m t r a).2 + L) % m = _
    rw [steps_at L m r a hr t, Nat.add_mod ((r + t * L) % m), Nat.mod_mod, ← Nat.add_mod, Nat.succ_mul, Nat.add_assoc]

theorem steps_le (L m : Nat) (r : Nat) (a : List (Option Nat)) : ∀ t, leL (steps L m t r a).1 a
  | 0 => leL.rfl
  | t + 1 => (relax_le ..).trans (steps_le L m r a t)

theorem steps_le' (L m : Nat) (r : Nat) (a : List (Option Nat)) (t : Nat) : ∀ d, leL (steps L m (t + d) r a).1 (steps L m t r a).1
  | 0 => leL.rfl
  | d + 1 => (relax_le ..).trans (steps_le' L m r a t d)

theorem steps_sound {S : Nat → Prop} {m L : Nat} {r : Nat} {a : List (Option Nat)} (hS : ∀ x, S x → S (x + L)) (h : Sound S m a) : ∀ t, Sound S m (steps L m t r a).1
  | 0 => h
  | t + 1 => relax_sound hS (steps_sound hS h t)

/-- what stands at the p-th place goes j steps on -/
theorem steps_far {L m : Nat} {r : Nat} {a : List (Option Nat)} (hm : 0 < m) (hl : a.length = m) (hr : r < m) (p : Nat) {y : Nat} (hy : a.getD ((r + p * L) % m) none = some y) :
    ∀ j, ∃ x, ((steps L m (p + j) r a).1).getD ((r + (p + j) * L) % m) none = some x ∧ x ≤ y + j * L
  | 0 => by
    obtain ⟨x, hx, hxy⟩ := (steps_le L m r a p).2 _ y hy
    exact ⟨x, hx, by omega⟩
  | j + 1 => by
    obtain ⟨x, hx, hxy⟩ := steps_far hm hl hr p hy j
    have hp := steps_at L m r a hr (p + j)
    have hlen : (steps L m (p + j) r a).1.length = m := (steps_le L m r a (p + j)).1.trans hl
    have e : (r + (p + (j + 1)) * L) % m = ((steps L m (p + j) r a).2 + L) % m := by
      rw [hp, Nat.add_mod ((r + (p + j) * L) % m), Nat.mod_mod, ← Nat.add_mod, ← Nat.add_assoc p j 1, Nat.succ_mul, Nat.add_assoc]
    rw [e]
    show ∃ x', (relax L (steps L m (p + j) r a).2 (((steps L m (p + j) r a).2 + L) % m) (steps L m (p + j) r a).1).getD _ none = some x' ∧ _
    have := relax_at L (steps L m (p + j) r a).2 (((steps L m (p + j) r a).2 + L) % m) (steps L m (p + j) r a).1 (by rw [hlen]; exact Nat.mod_lt _ hm)
    obtain ⟨x', hx', h2⟩ := this (x + L) (by rw [hp, hx]; rfl)
    exact ⟨x', hx', by rw [Nat.succ_mul]; omega⟩

/-! ### Bezout -/
theorem bezout (a b : Nat) : ∃ x y : Int, x * a + y * b = (Nat.gcd a b : Int) := by
  induction a, b using Nat.gcd.induction with
  | H0 n => exact ⟨0, 1, by simp⟩
  | H1 m n hm ih =>
    obtain ⟨x, y, h⟩ := ih
    refine ⟨y - x * ((n / m : Nat) : Int), x, ?_⟩
    rw [Nat.gcd_rec m n, ← h]
    have e : (n : Int) = (m : Int) * ((n / m : Nat) : Int) + ((n % m : Nat) : Int) := by
      have := Nat.div_add_mod n m
      exact_mod_cast this.symm
    conv => lhs; rw [e]
    rw [Int.sub_mul, Int.mul_add, Int.mul_assoc x, Int.mul_comm (m : Int) ((n / m : Nat) : Int)]
    omega

theorem bezout_mod (m L : Nat) (hm : 0 < m) : ∃ u : Nat, (u * L) % m = Nat.gcd m L % m := by
  obtain ⟨x, y, h⟩ := bezout m L
  refine ⟨(y % m).toNat, ?_⟩
  have hm' : (m : Int) ≠ 0 := by omega
  have hy : 0 ≤ y % (m : Int) := Int.emod_nonneg _ hm'
  have e : ((((y % (m : Int)).toNat * L : Nat) : Int)) % (m : Int) = ((Nat.gcd m L : Nat) : Int) % (m : Int) := by
    rw [Int.natCast_mul, Int.toNat_of_nonneg hy, ← h, Int.mul_emod, Int.emod_emod_of_dvd _ (Int.dvd_refl _), ← Int.mul_emod, Int.add_comm, Int.add_mul_emod_self_right]
  exact_mod_cast e

/-- from the class of r the walk comes by r -/
theorem comes_by (m L r : Nat) (hm : 0 < m) (hr : r < m) : ∃ p, p < m / Nat.gcd m L ∧ (r % Nat.gcd m L + p * L) % m = r := by
  obtain ⟨u, hu⟩ := bezout_mod m L hm
  have hg : 0 < Nat.gcd m L := Nat.gcd_pos_of_pos_left _ hm
  obtain ⟨c, hc⟩ := Nat.gcd_dvd_left m L
  obtain ⟨k, hk⟩ := Nat.gcd_dvd_right m L
  generalize hgg : Nat.gcd m L = g at *
  have hcd : m / g = c := by rw [hc]; exact Nat.mul_div_cancel_left _ hg
  have hcpos : 0 < c := by
    rcases Nat.eq_zero_or_pos c with h | h
    · rw [h] at hc; omega
    · exact h
  refine ⟨(u * (r / g)) % c, by rw [hcd]; exact Nat.mod_lt _ hcpos, ?_⟩
  -- ((u (r/g)) % c) L ≡ u (r/g) L
  have e1 : ((u * (r / g)) % c * L) % m = (u * (r / g) * L) % m := by
    have d := Nat.div_add_mod (u * (r / g)) c
    have : u * (r / g) * L = (u * (r / g)) % c * L + m * ((u * (r / g)) / c * k) := by
      calc u * (r / g) * L = (c * (u * (r / g) / c) + u * (r / g) % c) * L := by rw [d]
        _ = (u * (r / g)) % c * L + c * (u * (r / g) / c) * L := by rw [Nat.add_mul, Nat.add_comm]
        _ = (u * (r / g)) % c * L + m * ((u * (r / g)) / c * k) := by
          congr 1
          conv => lhs; rw [hk]
          conv => rhs; rw [hc]
          simp only [Nat.mul_comm, Nat.mul_left_comm]
    rw [this, Nat.add_mul_mod_self_left]
  have e2 : (u * (r / g) * L) % m = (g * (r / g)) % m := by
    rw [Nat.mul_right_comm, Nat.mul_mod, hu, ← Nat.mul_mod]
  rw [Nat.add_mod, e1, e2, ← Nat.add_mod, Nat.mod_add_div, Nat.mod_eq_of_lt hr]
end Ov
namespace Ov
/-- the walks from the first k places, one behind another -/
def walks (L m T : Nat) : Nat → List (Option Nat) → List (Option Nat)
  | 0, a => a
  | k + 1, a => (steps L m T k (walks L m T k a)).1
def withLen (L : Nat) (a : List (Option Nat)) : List (Option Nat) :=
  walks L a.length (2 * (a.length / Nat.gcd a.length L)) (Nat.gcd a.length L) a

theorem walks_le (L m T : Nat) (a : List (Option Nat)) : ∀ k, leL (walks L m T k a) a
  | 0 => leL.rfl
  | k + 1 => (steps_le ..).trans (walks_le L m T a k)
theorem walks_le' (L m T : Nat) (a : List (Option Nat)) (k : Nat) : ∀ d, leL (walks L m T (k + d) a) (walks L m T k a)
  | 0 => leL.rfl
  | d + 1 => (steps_le ..).trans (walks_le' L m T a k d)
theorem walks_sound {S : Nat → Prop} {m L T : Nat} {a : List (Option Nat)} (hS : ∀ x, S x → S (x + L)) (h : Sound S m a) : ∀ k, Sound S m (walks L m T k a)
  | 0 => h
  | k + 1 => steps_sound hS (walks_sound hS h k) T

theorem withLen_len (L : Nat) (a : List (Option Nat)) : (withLen L a).length = a.length := (walks_le ..).1

/-- what stands at r goes j steps on, j less than a whole round -/
theorem withLen_far {L : Nat} {a : List (Option Nat)} (hm : 0 < a.length) {r y j : Nat} (hr : r < a.length) (hy : a.getD r none = some y) (hj : j < a.length / Nat.gcd a.length L) :
    ∃ x, (withLen L a).getD ((r + j * L) % a.length) none = some x ∧ x ≤ y + j * L := by
  obtain ⟨p, hp, e⟩ := comes_by a.length L r hm hr
  have hg : 0 < Nat.gcd a.length L := Nat.gcd_pos_of_pos_left _ hm
  unfold withLen
  generalize hT : 2 * (a.length / Nat.gcd a.length L) = T
  have hk : r % Nat.gcd a.length L < Nat.gcd a.length L := Nat.mod_lt _ hg
  generalize hk0 : r % Nat.gcd a.length L = k at *
  obtain ⟨d, hd⟩ : ∃ d, Nat.gcd a.length L = (k + 1) + d := ⟨Nat.gcd a.length L - (k + 1), by omega⟩
  have hkm : k < a.length := Nat.lt_of_lt_of_le hk (Nat.le_of_dvd hm (Nat.gcd_dvd_left _ _))
  have hb : (walks L a.length T k a).length = a.length := (walks_le ..).1
  obtain ⟨y', hy', hle⟩ := (walks_le L a.length T a k).2 r y hy
  obtain ⟨x, hx, hxy⟩ := steps_far (L := L) (m := a.length) (r := k) (a := walks L a.length T k a) hm hb hkm p (y := y') (by rw [e]; exact hy') j
  have ej : (k + (p + j) * L) % a.length = (r + j * L) % a.length := by
    rw [Nat.add_mul, ← Nat.add_assoc, Nat.add_mod, e]
    conv => rhs; rw [Nat.add_mod, Nat.mod_eq_of_lt hr]
  rw [ej] at hx
  have l1 := steps_le' L a.length k (walks L a.length T k a) (p + j) (T - (p + j))
  rw [show p + j + (T - (p + j)) = T by omega] at l1
  have l2 := walks_le' L a.length T a (k + 1) d
  rw [← hd] at l2
  obtain ⟨x2, h2, h2'⟩ := (l2.trans l1).2 _ x hx
  exact ⟨x2, h2, by omega⟩

/-- a list tells the least members of S by their remainders -/
structure Rep (S : Nat → Prop) (a : List (Option Nat)) : Prop where
  pos : 0 < a.length
  sound : Sound S a.length a
  least : ∀ s, S s → ∃ x, a.getD (s % a.length) none = some x ∧ x ≤ s

theorem Rep.one {m : Nat} (hm : 0 < m) : Rep (Sum [m]) (some 0 :: List.replicate (m - 1) none) := by
  have hl : (some 0 :: List.replicate (m - 1) (none : Option Nat)).length = m := by simp; omega
  refine ⟨by simp, fun r x h => ?_, fun s hs => ?_⟩
  · rw [hl]
    cases r with
    | zero =>
      have : some 0 = some x := h
      cases this
      exact ⟨.zero, Nat.zero_mod _⟩
    | succ r =>
      exfalso
      rw [List.getD_eq_getElem?_getD, List.getElem?_cons_succ, List.getElem?_replicate] at h
      split at h <;> simp at h
  · obtain ⟨j, rfl⟩ := Sum.single.mp hs
    rw [hl, Nat.mul_mod_left]
    exact ⟨0, rfl, Nat.zero_le _⟩

theorem Rep.more {ls : List Nat} {L m : Nat} {a : List (Option Nat)} (h : Rep (Sum ls) a) (hm : a.length = m) (hin : m ∈ ls) : Rep (Sum (ls ++ [L])) (withLen L a) := by
  have hl := withLen_len L a
  have hp := h.pos
  refine ⟨by rw [hl]; exact hp, ?_, fun s hs => ?_⟩
  · rw [hl]
    refine walks_sound (fun x hx => .add (List.mem_append_right _ (List.mem_singleton.mpr rfl)) hx) (fun r x e => ?_) _
    obtain ⟨h1, h2⟩ := h.sound r x e
    exact ⟨h1.mono fun l hl => List.mem_append_left _ hl, h2⟩
  · rw [hl]
    obtain ⟨j, t, ht, rfl⟩ := Sum.snoc.mp hs
    -- less than a whole round of L's
    have hg : 0 < Nat.gcd a.length L := Nat.gcd_pos_of_pos_left _ hp
    obtain ⟨c, hc⟩ := Nat.gcd_dvd_left a.length L
    obtain ⟨k, hk⟩ := Nat.gcd_dvd_right a.length L
    have hcd : a.length / Nat.gcd a.length L = c := by
      generalize Nat.gcd a.length L = g at *
      rw [hc]
      exact Nat.mul_div_cancel_left _ hg
    have hcpos : 0 < c := by
      rcases Nat.eq_zero_or_pos c with h | h
      · rw [h] at hc; omega
      · exact h
    have ecL : c * L = k * a.length := by
      generalize Nat.gcd a.length L = g at *
      rw [hk, hc]
      simp only [Nat.mul_comm, Nat.mul_left_comm]
    have e : t + j * L = (t + (j / c * k) * a.length) + (j % c) * L := by
      have d := Nat.div_add_mod j c
      calc t + j * L = t + (c * (j / c) + j % c) * L := by rw [d]
        _ = t + (j / c * (c * L) + j % c * L) := by
          rw [Nat.add_mul]; congr 2; rw [Nat.mul_comm c, Nat.mul_assoc]
        _ = _ := by rw [ecL]; rw [Nat.mul_assoc]; omega
    have ht' : Sum ls (t + (j / c * k) * a.length) := ht.plus (by rw [hm]; exact Sum.times hin _)
    obtain ⟨y, hy, hyt⟩ := h.least _ ht'
    obtain ⟨x, hx, hxy⟩ := withLen_far (L := L) hp (Nat.mod_lt _ hp) hy (j := j % c) (by rw [hcd]; exact Nat.mod_lt _ hcpos)
    refine ⟨x, ?_, by rw [e]; omega⟩
    rw [e]
    rw [Nat.add_mod, Nat.mod_mod, ← Nat.add_mod] at hx
    exact hx

/-- the least sums of lengths -/
def leasts : List Nat → List (Option Nat)
  | [] => []
  | m :: ls => ls.foldl (fun a L => withLen L a) (some 0 :: List.replicate (m - 1) none)

theorem fold_rep : ∀ (ls pre : List Nat) (a : List (Option Nat)) (m : Nat), Rep (Sum pre) a → a.length = m → m ∈ pre → Rep (Sum (pre ++ ls)) (ls.foldl (fun a L => withLen L a) a) ∧ (ls.foldl (fun a L => withLen L a) a).length = m
  | [], pre, a, m, h, hm, _ => by simpa using ⟨h, hm⟩
  | L :: ls, pre, a, m, h, hm, hin => by
    have := fold_rep ls (pre ++ [L]) (withLen L a) m (h.more hm hin) ((withLen_len L a).trans hm) (List.mem_append_left _ hin)
    rw [List.append_assoc] at this
    exact this

theorem leasts_rep {m : Nat} (hm : 0 < m) (ls : List Nat) : Rep (Sum (m :: ls)) (leasts (m :: ls)) ∧ (leasts (m :: ls)).length = m :=
  fold_rep ls [m] _ m (Rep.one hm) (by simp; omega) (List.mem_singleton.mpr rfl)

/-- whether a total is a sum, by the least sums -/
def reached (a : List (Option Nat)) (t : Nat) : Bool :=
  if a.length = 0 then t == 0 else match a.getD (t % a.length) none with
    | none => false
    | some x => decide (x ≤ t)

theorem Rep.iff {S : Nat → Prop} {a : List (Option Nat)} (h : Rep S a) (hc : ∀ x, S x → S (x + a.length)) (t : Nat) : reached a t = true ↔ S t := by
  unfold reached
  rw [if_neg (by have := h.pos; omega)]
  have many : ∀ (k x : Nat), S x → S (x + k * a.length) := by
    intro k
    induction k with
    | zero => intro x hx; simpa using hx
    | succ k ih => intro x hx; rw [Nat.succ_mul, ← Nat.add_assoc]; exact hc _ (ih x hx)
  constructor
  · intro e
    split at e
    · cases e
    · rename_i x hx
      obtain ⟨h1, h2⟩ := h.sound _ x hx
      have hle : x ≤ t := of_decide_eq_true e
      have : t = x + (t / a.length - x / a.length) * a.length := by
        have d1 := Nat.div_add_mod t a.length
        have d2 := Nat.div_add_mod x a.length
        rw [h2] at d2
        have hd : x / a.length ≤ t / a.length := Nat.div_le_div_right hle
        rw [Nat.sub_mul, Nat.mul_comm (t / a.length), Nat.mul_comm (x / a.length)]
        have : a.length * (x / a.length) ≤ a.length * (t / a.length) := Nat.mul_le_mul_left _ hd
        omega
      rw [this]
      exact many _ _ h1
  · intro hs
    obtain ⟨x, hx, hxt⟩ := h.least t hs
    rw [hx]
    exact decide_eq_true hxt

theorem isSum_iff (ls : List Nat) (hpos : ∀ l ∈ ls, 0 < l) (t : Nat) : reached (leasts ls) t = true ↔ Sum ls t := by
  cases ls with
  | nil =>
    show (t == 0) = true ↔ _
    constructor
    · intro h
      have : t = 0 := by simpa using h
      rw [this]; exact .zero
    · intro h
      cases h with
      | zero => rfl
      | add h _ => cases h
  | cons m ls =>
    have hm : 0 < m := hpos m List.mem_cons_self
    obtain ⟨h, hl⟩ := leasts_rep hm ls
    exact h.iff (fun x hx => by rw [hl]; exact .add List.mem_cons_self hx) t
end Ov
/-! Least sums: how great they are, and how they are found one by one; the greatest common divisor -/
namespace Ov
theorem countP_le {α : Type} {p q : α → Bool} : ∀ {l : List α}, (∀ x ∈ l, p x = true → q x = true) → l.countP p ≤ l.countP q
  | [], _ => Nat.le_refl _
  | x :: l, h => by
    have ih := countP_le (l := l) fun y hy => h y (List.mem_cons_of_mem _ hy)
    have hx := h x List.mem_cons_self
    rw [List.countP_cons, List.countP_cons]
    cases hp : p x
    · simp only [Bool.false_eq_true, if_false]
      omega
    · rw [hx hp]; omega
theorem countP_lt {α : Type} {p q : α → Bool} : ∀ {l : List α} (x : α), x ∈ l → p x = false → q x = true → (∀ x ∈ l, p x = true → q x = true) → l.countP p < l.countP q
  | [], _, hx, _, _, _ => by cases hx
  | y :: l, x, hx, h1, h2, h => by
    rw [List.countP_cons, List.countP_cons]
    have hy := h y List.mem_cons_self
    rcases List.mem_cons.mp hx with e | hx
    · subst e
      have ih := countP_le (l := l) fun y hy => h y (List.mem_cons_of_mem _ hy)
      rw [h1, h2]
      simp only [Bool.false_eq_true, if_false, if_true]
      omega
    · have ih := countP_lt x hx h1 h2 fun y hy => h y (List.mem_cons_of_mem _ hy)
      cases hp : p y
      · simp only [Bool.false_eq_true, if_false]
        omega
      · rw [hy hp]; omega
/-- an entry below x -/
def below (x : Nat) : Option Nat → Bool
  | some y => decide (y < x)
  | none => false
theorem mem_of_getD {a : List (Option Nat)} {r x : Nat} (h : a.getD r none = some x) : some x ∈ a := by
  rw [List.getD_eq_getElem?_getD] at h
  cases e : a[r]? with
  | none => rw [e] at h; cases h
  | some o =>
    rw [e] at h
    have : o = some x := h
    rw [← this]
    exact List.mem_of_getElem? e
theorem rank_bound {ls : List Nat} {a : List (Option Nat)} (h : Rep (Sum ls) a) {M : Nat} (hM : ∀ l ∈ ls, 0 < l ∧ l ≤ M) : ∀ (x r : Nat), a.getD r none = some x → x ≤ a.countP (below x) * M := by
  intro x
  induction x using Nat.strongRecOn with
  | ind x ih =>
    intro r hr
    rcases Nat.eq_zero_or_pos x with h0 | h0
    · omega
    obtain ⟨sx, rx⟩ := h.sound r x hr
    rcases Sum.step.mp sx with h1 | ⟨l, hl, hlx, sy⟩
    · omega
    obtain ⟨l0, lM⟩ := hM l hl
    obtain ⟨z, hz, hzy⟩ := h.least _ sy
    obtain ⟨sz, rz⟩ := h.sound _ z hz
    have ezy : z = x - l := by
      rcases Nat.lt_or_ge z (x - l) with c | c
      · exfalso
        obtain ⟨x', hx', hle⟩ := h.least (z + l) (.add hl sz)
        have em : (z + l) % a.length = r := by
          rw [Nat.add_mod, rz, ← Nat.add_mod, Nat.sub_add_cancel hlx, rx]
        rw [em, hr] at hx'
        have : x = x' := Option.some.inj hx'
        omega
      · omega
    subst ezy
    have hy := ih (x - l) (by omega) _ hz
    have hlt : a.countP (below (x - l)) < a.countP (below x) := by
      refine countP_lt (some (x - l)) (mem_of_getD hz) ?_ ?_ ?_
      · exact decide_eq_false (Nat.lt_irrefl _)
      · exact decide_eq_true (by omega)
      · intro o _ ho
        cases o with
        | none => cases ho
        | some y =>
          have := of_decide_eq_true ho
          exact decide_eq_true (by omega)
    have := Nat.mul_le_mul_right M (Nat.succ_le_of_lt hlt)
    rw [Nat.succ_mul] at this
    omega
theorem least_le {ls : List Nat} {a : List (Option Nat)} (h : Rep (Sum ls) a) {M : Nat} (hM : ∀ l ∈ ls, 0 < l ∧ l ≤ M) {x r : Nat} (hr : a.getD r none = some x) : x ≤ (a.length - 1) * M := by
  have h1 := rank_bound h hM x r hr
  have h2 : a.countP (below x) < a.length := by
    have : a.countP (below x) < a.countP (fun _ => true) := countP_lt (some x) (mem_of_getD hr) (decide_eq_false (Nat.lt_irrefl _)) rfl fun _ _ _ => rfl
    rwa [List.countP_true] at this
  exact Nat.le_trans h1 (Nat.mul_le_mul_right M (by omega))
/-! ### found one by one -/
def cutO (i : Nat) : Option Nat → Option Nat
  | some x => if x < i then some x else none
  | none => none
theorem cutO_lt {i x : Nat} (h : x < i) : cutO i (some x) = some x := if_pos h
theorem cutO_ge {i x : Nat} (h : ¬ x < i) : cutO i (some x) = none := if_neg h
def seen (i : Nat) (a : List (Option Nat)) : List (Option Nat) := a.map (cutO i)
theorem seen_len (i : Nat) (a : List (Option Nat)) : (seen i a).length = a.length := List.length_map ..
theorem seen_zero (a : List (Option Nat)) : seen 0 a = List.replicate a.length none := by
  unfold seen
  rw [List.eq_replicate_iff]
  refine ⟨List.length_map .., fun o ho => ?_⟩
  obtain ⟨x, _, rfl⟩ := List.mem_map.mp ho
  cases x with
  | none => rfl
  | some x => exact cutO_ge (Nat.not_lt_zero _)
theorem seen_at (i : Nat) (a : List (Option Nat)) (r : Nat) : (seen i a).getD r none = cutO i (a.getD r none) := by
  unfold seen
  rw [List.getD_eq_getElem?_getD, List.getD_eq_getElem?_getD, List.getElem?_map]
  cases a[r]? <;> rfl
theorem ext_getD {a b : List (Option Nat)} (hl : a.length = b.length) (h : ∀ r, r < a.length → a.getD r none = b.getD r none) : a = b := by
  refine List.ext_getElem hl fun i h1 h2 => ?_
  have := h i h1
  rw [List.getD_eq_getElem?_getD, List.getD_eq_getElem?_getD, List.getElem?_eq_getElem h1, List.getElem?_eq_getElem h2] at this
  exact this
theorem seen_set {S : Nat → Prop} {a : List (Option Nat)} (h : Rep S a) {i : Nat} (hs : S i) (hn : (seen i a).getD (i % a.length) none = none) : (seen i a).set (i % a.length) (some i) = seen (i + 1) a := by
  obtain ⟨x, hx, hxi⟩ := h.least i hs
  rw [seen_at, hx] at hn
  have ex : x = i := by
    by_cases c : x < i
    · rw [cutO_lt c] at hn; cases hn
    · omega
  subst ex
  refine ext_getD (by rw [List.length_set, seen_len, seen_len]) fun r hr => ?_
  rw [List.length_set, seen_len] at hr
  rw [getD_set, seen_at, seen_at, seen_len]
  by_cases c : x % a.length = r
  · subst c
    rw [if_pos ⟨rfl, hr⟩, hx]
    exact (cutO_lt (Nat.lt_succ_self _)).symm
  · rw [if_neg fun z => c z.1]
    cases e : a.getD r none with
    | none => rfl
    | some y =>
      have hy := (h.sound r y e).2
      have : y ≠ x := fun z => c (by rw [← z]; exact hy)
      by_cases d : y < x
      · rw [cutO_lt d, cutO_lt (show y < x + 1 by omega)]
      · rw [cutO_ge d, cutO_ge (show ¬ y < x + 1 by omega)]
theorem seen_keep {S : Nat → Prop} {a : List (Option Nat)} (h : Rep S a) {i : Nat} (hn : S i → (seen i a).getD (i % a.length) none ≠ none) : seen i a = seen (i + 1) a := by
  refine ext_getD (by rw [seen_len, seen_len]) fun r hr => ?_
  rw [seen_at, seen_at]
  cases e : a.getD r none with
  | none => rfl
  | some y =>
    obtain ⟨sy, ry⟩ := h.sound r y e
    have : y ≠ i := fun z => by
      subst z
      refine hn sy ?_
      rw [seen_at, ry, e]
      exact cutO_ge (Nat.lt_irrefl _)
    by_cases d : y < i
    · rw [cutO_lt d, cutO_lt (show y < i + 1 by omega)]
    · rw [cutO_ge d, cutO_ge (show ¬ y < i + 1 by omega)]
theorem seen_all {a : List (Option Nat)} {M : Nat} (h : ∀ r x, a.getD r none = some x → x ≤ M) : seen (M + 1) a = a := by
  refine ext_getD (seen_len ..) fun r hr => ?_
  rw [seen_at]
  cases e : a.getD r none with
  | none => rfl
  | some y => exact cutO_lt (Nat.lt_succ_of_le (h r y e))
/-! ### the greatest common divisor -/
def gcdAll (ls : List Nat) : Nat := ls.foldl Nat.gcd 0
theorem foldl_gcd_dvd : ∀ (ls : List Nat) (g : Nat), ls.foldl Nat.gcd g ∣ g ∧ ∀ l ∈ ls, ls.foldl Nat.gcd g ∣ l
  | [], g => ⟨Nat.dvd_refl _, (fun _ h => nomatch h)⟩
  | l :: ls, g => by
    obtain ⟨h1, h2⟩ := foldl_gcd_dvd ls (Nat.gcd g l)
    refine ⟨Nat.dvd_trans h1 (Nat.gcd_dvd_left g l), fun x hx => ?_⟩
    rcases List.mem_cons.mp hx with rfl | hx
    · exact Nat.dvd_trans h1 (Nat.gcd_dvd_right _ _)
    · exact h2 x hx
theorem dvd_foldl_gcd {d : Nat} : ∀ (ls : List Nat) (g : Nat), d ∣ g → (∀ l ∈ ls, d ∣ l) → d ∣ ls.foldl Nat.gcd g
  | [], g, h, _ => h
  | l :: ls, g, h, k => dvd_foldl_gcd ls (Nat.gcd g l) (Nat.dvd_gcd h (k l List.mem_cons_self)) fun x hx => k x (List.mem_cons_of_mem _ hx)
theorem gcdAll_dvd {ls : List Nat} {l : Nat} (h : l ∈ ls) : gcdAll ls ∣ l := (foldl_gcd_dvd ls 0).2 l h
theorem dvd_gcdAll {ls : List Nat} {d : Nat} (h : ∀ l ∈ ls, d ∣ l) : d ∣ gcdAll ls := dvd_foldl_gcd ls 0 (Nat.dvd_zero d) h
/-- those below n that pass, where the greatest that passes is g -/
theorem filter_top {p : Nat → Bool} {g : Nat} (hg : p g = true) (hno : ∀ i, g < i → p i = false) : ∀ n, g < n → (List.range n).filter p = (List.range g).filter p ++ [g]
  | 0, h => by omega
  | n + 1, h => by
    rw [List.range_succ, List.filter_append]
    by_cases e : g = n
    · subst e
      rw [List.filter_cons, hg]
      rfl
    · rw [filter_top hg hno n (by omega), List.filter_cons, hno n (by omega)]
      simp
end Ov
/-! Conductors and gaps -/
namespace Ov
theorem res_step {all : List Nat} {m : Nat} (hm : 0 < m) : ∀ (rest : List Nat) (g A : Nat), Sum all A → A % m = g % m → (∀ l ∈ rest, l ∈ all) → ∃ B, Sum all B ∧ B % m = (rest.foldl Nat.gcd g) % m
  | [], g, A, hA, e, _ => ⟨A, hA, e⟩
  | l :: rest, g, A, hA, e, hl => by
    obtain ⟨x, y, h⟩ := bezout g l
    have hm' : (m : Int) ≠ 0 := by omega
    have hx : 0 ≤ x % (m : Int) := Int.emod_nonneg _ hm'
    have hy : 0 ≤ y % (m : Int) := Int.emod_nonneg _ hm'
    have many : ∀ (k s : Nat), Sum all s → Sum all (k * s) := fun k s hs => by
      induction k with
      | zero => rw [Nat.zero_mul]; exact .zero
      | succ k ih => rw [Nat.succ_mul]; exact ih.plus hs
    refine res_step hm rest (Nat.gcd g l) ((x % (m : Int)).toNat * A + (y % (m : Int)).toNat * l) ((many _ _ hA).plus (Sum.times (hl l List.mem_cons_self) _)) ?_ fun z hz => hl z (List.mem_cons_of_mem _ hz)
    have e' : (A : Int) % (m : Int) = (g : Int) % (m : Int) := by exact_mod_cast e
    have key : ((((x % (m : Int)).toNat * A + (y % (m : Int)).toNat * l : Nat) : Int)) % (m : Int) = ((Nat.gcd g l : Nat) : Int) % (m : Int) := by
      rw [Int.natCast_add, Int.natCast_mul, Int.natCast_mul, Int.toNat_of_nonneg hx, Int.toNat_of_nonneg hy, ← h]
      rw [Int.add_emod, Int.mul_emod (x % m), Int.emod_emod_of_dvd _ (Int.dvd_refl _), e', ← Int.mul_emod, Int.mul_emod (y % m), Int.emod_emod_of_dvd _ (Int.dvd_refl _), ← Int.mul_emod, ← Int.add_emod]
    exact_mod_cast key
theorem res_all {m : Nat} {rest : List Nat} (hm : 0 < m) (hg : gcdAll (m :: rest) = 1) (r : Nat) : ∃ s, Sum (m :: rest) s ∧ s % m = r % m := by
  have e0 : gcdAll (m :: rest) = rest.foldl Nat.gcd m := by
    unfold gcdAll
    rw [List.foldl_cons, Nat.gcd_zero_left]
  obtain ⟨B, hB, eB⟩ := res_step (all := m :: rest) hm rest m m (by have := Sum.times (ls := m :: rest) (List.mem_cons_self (a := m) (l := rest)) 1; rwa [Nat.one_mul] at this) rfl fun l hl => List.mem_cons_of_mem _ hl
  rw [← e0, hg] at eB
  refine ⟨r * B, ?_, ?_⟩
  · induction r with
    | zero => rw [Nat.zero_mul]; exact .zero
    | succ r ih => rw [Nat.succ_mul]; exact ih.plus hB
  · rw [Nat.mul_mod, eB, ← Nat.mul_mod, Nat.mul_one]
/-- every remainder is reached: the list holds numbers alone -/
theorem rep_full {m : Nat} {rest : List Nat} (hm : 0 < m) (hg : gcdAll (m :: rest) = 1) {a : List (Option Nat)} (h : Rep (Sum (m :: rest)) a) (hl : a.length = m) : ∃ xs : List Nat, a = xs.map some ∧ xs.length = m ∧ ∀ (r : Nat) (hr : r < xs.length), xs[r] % m = r ∧ Sum (m :: rest) xs[r] := by
  have hall : ∀ (r : Nat) (hr : r < a.length), ∃ x, a[r] = some x := fun r hr => by
    obtain ⟨s, hs, e⟩ := res_all hm hg r
    obtain ⟨x, hx, _⟩ := h.least s hs
    rw [hl, e, Nat.mod_eq_of_lt (by omega), List.getD_eq_getElem?_getD, List.getElem?_eq_getElem hr] at hx
    exact ⟨x, hx⟩
  have e : a = (a.map fun o => o.getD 0).map some := by
    refine List.ext_getElem (by simp) fun i h1 h2 => ?_
    obtain ⟨x, hx⟩ := hall i h1
    simp [hx]
  refine ⟨a.map fun o => o.getD 0, e, by rw [List.length_map, hl], fun r hr => ?_⟩
  rw [List.length_map] at hr
  obtain ⟨x, hx⟩ := hall r hr
  obtain ⟨s1, s2⟩ := h.sound r x (by rw [List.getD_eq_getElem?_getD, List.getElem?_eq_getElem hr, hx]; rfl)
  rw [hl] at s2
  have ex : (a.map fun o => o.getD 0)[r]'(by rw [List.length_map]; exact hr) = x := by simp [hx]
  rw [ex]
  exact ⟨s2, s1⟩
theorem sum_iff_le {m : Nat} {rest : List Nat} (hm : 0 < m) {xs : List Nat} (h : Rep (Sum (m :: rest)) (xs.map some)) (hl : xs.length = m) (w : Nat) (hw : w % m < xs.length) : Sum (m :: rest) w ↔ xs[w % m] ≤ w := by
  have := h.iff (fun x hx => by rw [List.length_map, hl]; exact .add List.mem_cons_self hx) w
  rw [← this]
  unfold reached
  rw [List.length_map, hl, if_neg (by omega), List.getD_eq_getElem?_getD, List.getElem?_map, List.getElem?_eq_getElem hw]
  show decide (xs[w % m] ≤ w) = true ↔ _
  exact decide_eq_true_iff
/-! ### the greatest -/
theorem foldl_max_ge : ∀ (l : List Nat) (n : Nat), n ≤ l.foldl max n ∧ ∀ x ∈ l, x ≤ l.foldl max n
  | [], n => ⟨Nat.le_refl _, (fun _ h => nomatch h)⟩
  | y :: l, n => by
    obtain ⟨h1, h2⟩ := foldl_max_ge l (max n y)
    refine ⟨Nat.le_trans (Nat.le_max_left n y) h1, fun x hx => ?_⟩
    rcases List.mem_cons.mp hx with rfl | hx
    · exact Nat.le_trans (Nat.le_max_right n x) h1
    · exact h2 x hx
theorem foldl_max_mem : ∀ (l : List Nat) (n : Nat), l.foldl max n = n ∨ l.foldl max n ∈ l
  | [], n => .inl rfl
  | y :: l, n => by
    rcases foldl_max_mem l (max n y) with h | h
    · rw [List.foldl_cons, h]
      rcases Nat.le_total n y with c | c
      · rw [Nat.max_eq_right c]; exact .inr List.mem_cons_self
      · rw [Nat.max_eq_left c]; exact .inl rfl
    · exact .inr (List.mem_cons_of_mem _ h)
def top' : List Nat → Nat
  | [] => 0
  | x :: l => l.foldl max x
theorem top_ge {l : List Nat} {x : Nat} (h : x ∈ l) : x ≤ top' l := by
  cases l with
  | nil => cases h
  | cons y l =>
    rcases List.mem_cons.mp h with rfl | h
    · exact (foldl_max_ge l _).1
    · exact (foldl_max_ge l _).2 x h
theorem top_mem {l : List Nat} (h : l ≠ []) : top' l ∈ l := by
  cases l with
  | nil => exact absurd rfl h
  | cons y l =>
    rcases foldl_max_mem l y with e | e
    · show l.foldl max y ∈ _
      rw [e]; exact List.mem_cons_self
    · exact List.mem_cons_of_mem _ e
/-! ### gaps -/
/-- so many below N, of those with remainder r, are below x -/
def cnt (m N r x : Nat) : Nat := (min N x + (m - 1 - r)) / m
theorem cnt_step {m N r x : Nat} (hm : 0 < m) (hr : r < m) (hx : x % m = r) : cnt m (N + 1) r x = cnt m N r x + (if N % m = r ∧ N < x then 1 else 0) := by
  unfold cnt
  by_cases c : N < x
  · rw [Nat.min_eq_left (show N + 1 ≤ x from c), Nat.min_eq_left (Nat.le_of_lt c), show N + 1 + (m - 1 - r) = (N + (m - 1 - r)) + 1 by omega, Nat.succ_div]
    have e : m ∣ N + (m - 1 - r) + 1 ↔ N % m = r := by
      rw [show N + (m - 1 - r) + 1 = N + (m - r) by omega]
      constructor
      · intro ⟨k, hk⟩
        have h1 : N = (k - 1) * m + r := by
          have hk0 : 0 < k := by
            rcases Nat.eq_zero_or_pos k with z | z
            · rw [z] at hk; omega
            · exact z
          have : m * k = m * (k - 1) + m := by
            rw [← Nat.mul_succ]
            congr 1
            omega
          rw [Nat.mul_comm (k - 1) m]
          omega
        rw [h1, Nat.add_comm, Nat.add_mul_mod_self_right, Nat.mod_eq_of_lt hr]
      · intro h
        refine ⟨N / m + 1, ?_⟩
        have d := Nat.div_add_mod N m
        rw [h] at d
        rw [Nat.mul_succ]
        omega
    by_cases d : N % m = r
    · rw [if_pos (e.mpr d), if_pos ⟨d, c⟩]
    · rw [if_neg (fun z => d (e.mp z)), if_neg (fun z => d z.1)]
  · rw [Nat.min_eq_right (show x ≤ N + 1 by omega), Nat.min_eq_right (show x ≤ N by omega), if_neg (fun z => c z.2)]
    rfl
theorem cnt_end {m N r x : Nat} (hm : 0 < m) (hr : r < m) (hx : x % m = r) (hN : x ≤ N) : cnt m N r x = x / m := by
  unfold cnt
  rw [Nat.min_eq_right hN]
  have d := Nat.div_add_mod x m
  rw [hx] at d
  rw [show x + (m - 1 - r) = (m - 1) + x / m * m by rw [Nat.mul_comm]; omega, Nat.add_mul_div_right _ _ hm, Nat.div_eq_of_lt (by omega), Nat.zero_add]
theorem cnt_zero {m r x : Nat} (hm : 0 < m) : cnt m 0 r x = 0 := by
  unfold cnt
  rw [Nat.zero_min, Nat.zero_add]
  exact Nat.div_eq_of_lt (by omega)
theorem sum_zero : ∀ {l : List Nat}, (∀ x ∈ l, x = 0) → l.sum = 0
  | [], _ => rfl
  | x :: l, h => by
    rw [List.sum_cons, h x List.mem_cons_self, sum_zero fun y hy => h y (List.mem_cons_of_mem _ hy)]
theorem sum_one (j y : Nat) (f : Nat → Bool) : ∀ n, j < n → ((List.range n).map fun r => if j = r ∧ f r = true then 1 else 0).sum = if f j = true then 1 else 0
  | 0, h => by omega
  | n + 1, h => by
    rw [List.range_succ, List.map_append, List.sum_append]
    by_cases e : j = n
    · subst e
      have z : ((List.range j).map fun r => if j = r ∧ f r = true then 1 else 0).sum = 0 := by
        apply sum_zero
        intro x hx
        obtain ⟨r, hr, rfl⟩ := List.mem_map.mp hx
        have := List.mem_range.mp hr
        rw [if_neg (fun z => by omega)]
      rw [z]
      by_cases c : f j = true <;> simp [c]
    · rw [sum_one j y f n (by omega)]
      simp [e]
theorem map_sum_add (f g : Nat → Nat) : ∀ l : List Nat, (l.map fun r => f r + g r).sum = (l.map f).sum + (l.map g).sum
  | [] => rfl
  | x :: l => by
    rw [List.map_cons, List.map_cons, List.map_cons, List.sum_cons, List.sum_cons, List.sum_cons, map_sum_add f g l]
    omega
/-- the gaps below N, counted by remainders -/
theorem gaps_cnt {m : Nat} (hm : 0 < m) {xs : List Nat} (hl : xs.length = m) (hx : ∀ (r : Nat) (hr : r < xs.length), xs[r] % m = r) (p : Nat → Bool) (hp : ∀ w (h : w % m < xs.length), p w = decide (w < xs[w % m])) :
    ∀ N, ((List.range N).filter p).length = ((List.range m).map fun r => cnt m N r (xs.getD r 0)).sum
  | 0 => by
    have : ((List.range m).map fun r => cnt m 0 r (xs.getD r 0)).sum = 0 := by
      apply sum_zero
      intro x hx
      obtain ⟨r, _, rfl⟩ := List.mem_map.mp hx
      exact cnt_zero hm
    rw [this]; rfl
  | N + 1 => by
    have ih := gaps_cnt hm hl hx p hp N
    rw [List.range_succ, List.filter_append, List.length_append, ih]
    have e1 : ((List.range m).map fun r => cnt m (N + 1) r (xs.getD r 0)) = (List.range m).map fun r => cnt m N r (xs.getD r 0) + (if N % m = r ∧ decide (N < xs.getD r 0) = true then 1 else 0) := by
      refine List.map_congr_left fun r hr => ?_
      have hrm := List.mem_range.mp hr
      have hg : xs.getD r 0 = xs[r]'(by omega) := by rw [List.getD_eq_getElem?_getD, List.getElem?_eq_getElem (by omega)]; rfl
      rw [cnt_step hm hrm (by rw [hg]; exact hx r (by omega))]
      simp only [decide_eq_true_eq]
    rw [e1, map_sum_add, sum_one (N % m) 0 (fun r => decide (N < xs.getD r 0)) m (Nat.mod_lt _ hm)]
    congr 1
    have hw : N % m < xs.length := by rw [hl]; exact Nat.mod_lt _ hm
    have hg : xs.getD (N % m) 0 = xs[N % m] := by rw [List.getD_eq_getElem?_getD, List.getElem?_eq_getElem hw]; rfl
    rw [List.filter_cons, hp N hw, hg]
    by_cases c : N < xs[N % m] <;> simp [c]
theorem range_getD (xs : List Nat) (f : Nat → Nat) : ((List.range xs.length).map fun r => f (xs.getD r 0)) = xs.map f := by
  refine List.ext_getElem (by simp) fun i h1 h2 => ?_
  have hi : i < xs.length := by simpa using h2
  simp [hi]
theorem gaps_len {m : Nat} (hm : 0 < m) {xs : List Nat} (hl : xs.length = m) (hx : ∀ (r : Nat) (hr : r < xs.length), xs[r] % m = r) (p : Nat → Bool) (hp : ∀ w (h : w % m < xs.length), p w = decide (w < xs[w % m])) {N : Nat} (hN : ∀ x ∈ xs, x ≤ N) :
    ((List.range N).filter p).length = (xs.map (· / m)).sum := by
  rw [gaps_cnt hm hl hx p hp N]
  have : ((List.range m).map fun r => cnt m N r (xs.getD r 0)) = (List.range xs.length).map fun r => (xs.getD r 0) / m := by
    rw [hl]
    refine List.map_congr_left fun r hr => ?_
    have hrm := List.mem_range.mp hr
    have hg : xs.getD r 0 = xs[r]'(by omega) := by rw [List.getD_eq_getElem?_getD, List.getElem?_eq_getElem (by omega)]; rfl
    rw [hg]
    exact cnt_end hm hrm (hx r (by omega)) (hN _ (List.getElem_mem _))
  rw [this, range_getD xs (· / m)]
/-- the last gap, or none -/
theorem gaps_last {m : Nat} (hm : 0 < m) {xs : List Nat} (hl : xs.length = m) (hx : ∀ (r : Nat) (hr : r < xs.length), xs[r] % m = r) (p : Nat → Bool) (hp : ∀ w (h : w % m < xs.length), p w = decide (w < xs[w % m])) {N : Nat} (hN : ∀ x ∈ xs, x ≤ N) :
    (top' xs < m ∧ top' xs + 1 = m ∧ (List.range N).filter p = []) ∨ (m ≤ top' xs ∧ (List.range N).filter p = (List.range (top' xs - m)).filter p ++ [top' xs - m]) := by
  have hne : xs ≠ [] := fun z => by rw [z] at hl; exact absurd hl (by simp; omega)
  have htm := top_mem hne
  obtain ⟨r, hr, er⟩ := List.mem_iff_getElem.mp htm
  have hmod : top' xs % m = r := by rw [← er]; exact hx r hr
  have gap : ∀ w, p w = true → w + m ≤ top' xs := fun w hw => by
    have hwm : w % m < xs.length := by rw [hl]; exact Nat.mod_lt _ hm
    rw [hp w hwm] at hw
    have h1 := of_decide_eq_true hw
    have h2 := hx (w % m) hwm
    have h3 := top_ge (List.getElem_mem hwm)
    have d1 := Nat.div_add_mod w m
    have d2 := Nat.div_add_mod xs[w % m] m
    rw [h2] at d2
    have h4 : w / m < xs[w % m] / m := by
      rcases Nat.lt_or_ge (w / m) (xs[w % m] / m) with c | c
      · exact c
      · have := Nat.mul_le_mul_left m c
        omega
    have h5 : m * (w / m + 1) ≤ m * (xs[w % m] / m) := Nat.mul_le_mul_left m h4
    rw [Nat.mul_succ] at h5
    omega
  rcases Nat.lt_or_ge (top' xs) m with c | c
  · refine .inl ⟨c, ?_, ?_⟩
    · have h1 := hx (m - 1) (by omega)
      have h2 := top_ge (List.getElem_mem (show m - 1 < xs.length by omega))
      have h3 : m - 1 ≤ xs[m - 1]'(by omega) := by
        have h4 := Nat.mod_le (xs[m - 1]'(by omega)) m
        omega
      omega
    · rw [List.filter_eq_nil_iff]
      intro w _ hw
      have := gap w hw
      omega
  · refine .inr ⟨c, filter_top ?_ (fun i hi => ?_) N ?_⟩
    · have hw : (top' xs - m) % m = r := by
        rw [← hmod]
        conv => rhs; rw [← Nat.sub_add_cancel c, Nat.add_mod_right]
      rw [hp _ (by rw [hw]; exact hr)]
      refine decide_eq_true ?_
      have same : ∀ (i : Nat) (hi : i < xs.length), i = r → xs[i] = top' xs := fun i hi e => by subst e; exact er
      have := same _ (by rw [hw]; exact hr) hw
      omega
    · cases e : p i with
      | false => rfl
      | true =>
        have := gap i e
        omega
    · have := hN _ htm
      omega
end Ov
/-! ### decoding: countdowns and starts, byte by byte -/
namespace Ov
section
variable (la : Int → Nat)
/-- what a byte makes of a countdown -/
def cdStep : Option Nat → Int → Option Nat
  | none, _ => none
  | some 0, b => if la b = 0 then none else some (la b - 1)
  | some (l + 1), _ => some l
def cdEnd (s : Option Nat) (bs : List Int) : Option Nat := bs.foldl (cdStep la) s
def stF (k : Nat) (s : Option Nat) : List Int → List Nat
  | [] => []
  | b :: bs => (if s = some 0 ∧ 0 < la b then [k] else []) ++ stF (k + 1) (cdStep la s b) bs
/-- the offset of the invalid byte -/
def spF (k : Nat) (s : Option Nat) : List Int → Option Nat
  | [] => none
  | b :: bs => if s = some 0 ∧ la b = 0 then some k else spF (k + 1) (cdStep la s b) bs
variable {la}
theorem cdEnd_nil (s : Option Nat) : cdEnd la s [] = s := rfl
theorem cdEnd_cons (s : Option Nat) (b : Int) (bs : List Int) : cdEnd la s (b :: bs) = cdEnd la (cdStep la s b) bs := rfl
theorem cdEnd_app (s : Option Nat) (as bs : List Int) : cdEnd la s (as ++ bs) = cdEnd la (cdEnd la s as) bs := by
  unfold cdEnd; rw [List.foldl_append]
theorem stF_app (k : Nat) (s : Option Nat) (as bs : List Int) : stF la k s (as ++ bs) = stF la k s as ++ stF la (k + as.length) (cdEnd la s as) bs := by
  induction as generalizing k s with
  | nil => rfl
  | cons a as ih =>
    show _ ++ stF la (k + 1) _ (as ++ bs) = (_ ++ stF la (k + 1) _ as) ++ _
    rw [ih, List.append_assoc, List.length_cons, cdEnd_cons, show k + 1 + as.length = k + (as.length + 1) by omega]
theorem stF_one (k : Nat) (s : Option Nat) (b : Int) : stF la k s [b] = if s = some 0 ∧ 0 < la b then [k] else [] := by
  show (if s = some 0 ∧ 0 < la b then [k] else []) ++ [] = _
  rw [List.append_nil]
theorem stF_snoc (k : Nat) (s : Option Nat) (as : List Int) (b : Int) : stF la k s (as ++ [b]) = stF la k s as ++ if cdEnd la s as = some 0 ∧ 0 < la b then [k + as.length] else [] := by
  rw [stF_app, stF_one]
theorem cdEnd_snoc (s : Option Nat) (as : List Int) (b : Int) : cdEnd la s (as ++ [b]) = cdStep la (cdEnd la s as) b := cdEnd_app s as [b]
/-- bytes of an instruction that is being read -/
theorem cdEnd_pass (m : Nat) (pre post : List Int) : cdEnd la (some (pre.length + m)) (pre ++ post) = cdEnd la (some m) post := by
  induction pre with
  | nil => rw [List.length_nil, Nat.zero_add]; rfl
  | cons a pre ih =>
    rw [List.length_cons, show pre.length + 1 + m = pre.length + m + 1 by omega]
    show cdEnd la (some (pre.length + m)) (pre ++ post) = _
    exact ih
theorem stF_pass (k m : Nat) (pre post : List Int) : stF la k (some (pre.length + m)) (pre ++ post) = stF la (k + pre.length) (some m) post := by
  induction pre generalizing k with
  | nil => rw [List.length_nil, Nat.zero_add]; rfl
  | cons a pre ih =>
    rw [List.length_cons, show pre.length + 1 + m = pre.length + m + 1 by omega]
    show (if some (pre.length + m + 1) = some 0 ∧ 0 < la a then [k] else []) ++ stF la (k + 1) (some (pre.length + m)) (pre ++ post) = _
    rw [if_neg (by rintro ⟨e, _⟩; cases e), List.nil_append, ih, show k + 1 + pre.length = k + (pre.length + 1) by omega]
theorem cdEnd_none (bs : List Int) : cdEnd la none bs = none := by
  induction bs with
  | nil => rfl
  | cons b bs ih => exact ih
theorem stF_none (k : Nat) (bs : List Int) : stF la k none bs = [] := by
  induction bs generalizing k with
  | nil => rfl
  | cons b bs ih =>
    show (if (none : Option Nat) = some 0 ∧ 0 < la b then [k] else []) ++ stF la (k + 1) none bs = []
    rw [if_neg (by rintro ⟨e, _⟩; cases e), List.nil_append, ih]
theorem cd_over {o : Nat} {bs : List Int} (h : bs.length ≤ o) : cdEnd la (some o) bs = some (o - bs.length) := by
  have := cdEnd_pass (la := la) (o - bs.length) bs []
  rw [List.append_nil, show bs.length + (o - bs.length) = o by omega] at this
  exact this
theorem st_over {k o : Nat} {bs : List Int} (h : bs.length ≤ o) : stF la k (some o) bs = [] := by
  have := stF_pass (la := la) k (o - bs.length) bs []
  rw [List.append_nil, show bs.length + (o - bs.length) = o by omega] at this
  exact this
theorem split_at {bs : List Int} {o : Nat} {b : Int} (h : bs[o]? = some b) : bs = bs.take o ++ b :: bs.drop (o + 1) ∧ (bs.take o).length = o := by
  obtain ⟨hl, e⟩ := List.getElem?_eq_some_iff.mp h
  refine ⟨?_, by rw [List.length_take]; omega⟩
  rw [← e, List.getElem_cons_drop, List.take_append_drop]
theorem cd_step {bs : List Int} {o : Nat} {b : Int} (h : bs[o]? = some b) (hl : 0 < la b) : cdEnd la (some o) bs = cdEnd la (some (o + la b)) bs := by
  obtain ⟨e, l⟩ := split_at h
  have h1 := cdEnd_pass (la := la) 0 (bs.take o) (b :: bs.drop (o + 1))
  have h2 := cdEnd_pass (la := la) (la b) (bs.take o) (b :: bs.drop (o + 1))
  rw [← e, l] at h1 h2
  rw [h2, show o + 0 = o from rfl] at *
  rw [h1]
  obtain ⟨n, en⟩ : ∃ n, la b = n + 1 := ⟨la b - 1, by omega⟩
  rw [cdEnd_cons, cdEnd_cons, en]
  show cdEnd la (if la b = 0 then none else some (la b - 1)) _ = cdEnd la (some n) _
  rw [if_neg (by omega), en]
  rfl
theorem st_step {bs : List Int} {k o : Nat} {b : Int} (h : bs[o]? = some b) (hl : 0 < la b) : stF la k (some o) bs = (k + o) :: stF la k (some (o + la b)) bs := by
  obtain ⟨e, l⟩ := split_at h
  have h1 := stF_pass (la := la) k 0 (bs.take o) (b :: bs.drop (o + 1))
  have h2 := stF_pass (la := la) k (la b) (bs.take o) (b :: bs.drop (o + 1))
  rw [← e, l] at h1 h2
  rw [show o + 0 = o from rfl] at h1
  rw [h1, h2]
  obtain ⟨n, en⟩ : ∃ n, la b = n + 1 := ⟨la b - 1, by omega⟩
  show (if some 0 = some 0 ∧ 0 < la b then [k + o] else []) ++ stF la (k + o + 1) (if la b = 0 then none else some (la b - 1)) _ = (k + o) :: ((if some (la b) = some 0 ∧ 0 < la b then [k + o] else []) ++ stF la (k + o + 1) (cdStep la (some (la b)) b) _)
  rw [if_pos ⟨rfl, hl⟩, if_neg (by omega), if_neg (by rintro ⟨e, _⟩; rw [en] at e; cases e), en]
  rfl
theorem cd_stop {bs : List Int} {o : Nat} {b : Int} (h : bs[o]? = some b) (hl : la b = 0) : cdEnd la (some o) bs = none := by
  obtain ⟨e, l⟩ := split_at h
  have h1 := cdEnd_pass (la := la) 0 (bs.take o) (b :: bs.drop (o + 1))
  rw [← e, l, show o + 0 = o from rfl] at h1
  rw [h1, cdEnd_cons]
  show cdEnd la (if la b = 0 then none else some (la b - 1)) _ = none
  rw [if_pos hl, cdEnd_none]
theorem st_stop {bs : List Int} {k o : Nat} {b : Int} (h : bs[o]? = some b) (hl : la b = 0) : stF la k (some o) bs = [] := by
  obtain ⟨e, l⟩ := split_at h
  have h1 := stF_pass (la := la) k 0 (bs.take o) (b :: bs.drop (o + 1))
  rw [← e, l, show o + 0 = o from rfl] at h1
  rw [h1]
  show (if some 0 = some 0 ∧ 0 < la b then [k + o] else []) ++ stF la (k + o + 1) (if la b = 0 then none else some (la b - 1)) _ = []
  rw [if_neg (by omega), if_pos hl, stF_none]
  rfl
theorem spF_pass (k m : Nat) (pre post : List Int) : spF la k (some (pre.length + m)) (pre ++ post) = spF la (k + pre.length) (some m) post := by
  induction pre generalizing k with
  | nil => rw [List.length_nil, Nat.zero_add]; rfl
  | cons a pre ih =>
    rw [List.length_cons, show pre.length + 1 + m = pre.length + m + 1 by omega]
    show (if some (pre.length + m + 1) = some 0 ∧ la a = 0 then some k else spF la (k + 1) (some (pre.length + m)) (pre ++ post)) = _
    rw [if_neg (by rintro ⟨e, _⟩; cases e), ih, show k + 1 + pre.length = k + (pre.length + 1) by omega]
theorem sp_step {bs : List Int} {k o : Nat} {b : Int} (h : bs[o]? = some b) (hl : 0 < la b) : spF la k (some o) bs = spF la k (some (o + la b)) bs := by
  obtain ⟨e, l⟩ := split_at h
  have h1 := spF_pass (la := la) k 0 (bs.take o) (b :: bs.drop (o + 1))
  have h2 := spF_pass (la := la) k (la b) (bs.take o) (b :: bs.drop (o + 1))
  rw [← e, l] at h1 h2
  rw [show o + 0 = o from rfl] at h1
  rw [h1, h2]
  obtain ⟨n, en⟩ : ∃ n, la b = n + 1 := ⟨la b - 1, by omega⟩
  show (if some 0 = some 0 ∧ la b = 0 then some (k + o) else spF la (k + o + 1) (if la b = 0 then none else some (la b - 1)) _) = (if some (la b) = some 0 ∧ la b = 0 then some (k + o) else spF la (k + o + 1) (cdStep la (some (la b)) b) _)
  rw [if_neg (by omega), if_neg (by omega), if_neg (by rintro ⟨e, _⟩; rw [en] at e; cases e), en]
  rfl
theorem sp_stop {bs : List Int} {k o : Nat} {b : Int} (h : bs[o]? = some b) (hl : la b = 0) : spF la k (some o) bs = some (k + o) := by
  obtain ⟨e, l⟩ := split_at h
  have h1 := spF_pass (la := la) k 0 (bs.take o) (b :: bs.drop (o + 1))
  rw [← e, l, show o + 0 = o from rfl] at h1
  rw [h1]
  show (if some 0 = some 0 ∧ la b = 0 then some (k + o) else _) = _
  rw [if_pos ⟨rfl, hl⟩]
/-- an entry within the code -/
theorem cd_entry {e : Nat} {bs : List Int} (h : e ≤ bs.length) : cdEnd la (some e) bs = cdEnd la (some 0) (bs.drop e) := by
  have := cdEnd_pass (la := la) 0 (bs.take e) (bs.drop e)
  rw [List.take_append_drop, List.length_take, show min e bs.length + 0 = e by omega] at this
  exact this
theorem st_entry {e : Nat} {bs : List Int} (h : e ≤ bs.length) : stF la 0 (some e) bs = stF la e (some 0) (bs.drop e) := by
  have := stF_pass (la := la) 0 0 (bs.take e) (bs.drop e)
  rw [List.take_append_drop, List.length_take, show min e bs.length + 0 = e by omega, show 0 + min e bs.length = e by omega] at this
  exact this
/-- how a walk ends -/
structure Ended (la : Int → Nat) (bs : List Int) (e : Nat) (begun : List Nat) (fol : Nat) : Prop where
  st : begun = stF la 0 (some e) bs
  cd : cdEnd la (some e) bs = if fol < bs.length then none else some (fol - bs.length)
  stop : fol < bs.length → ∃ b, bs[fol]? = some b ∧ la b = 0
  last : bs.length < fol → e ≤ bs.length → ∃ o b, begun.getLast? = some o ∧ bs[o]? = some b ∧ fol = o + la b
  lt : ∀ o ∈ begun, o < bs.length ∧ ∃ b, bs[o]? = some b ∧ 0 < la b
  sp : fol < bs.length → spF la 0 (some e) bs = some fol
/-- a walk under way -/
structure Going (la : Int → Nat) (bs : List Int) (e : Nat) (begun : List Nat) (o : Nat) : Prop where
  st : stF la 0 (some e) bs = begun ++ stF la 0 (some o) bs
  cd : cdEnd la (some e) bs = cdEnd la (some o) bs
  last : bs.length < o → e ≤ bs.length → ∃ q b, begun.getLast? = some q ∧ bs[q]? = some b ∧ o = q + la b
  lt : ∀ q ∈ begun, q < bs.length ∧ ∃ b, bs[q]? = some b ∧ 0 < la b
  few : begun.length ≤ bs.length - e ∧ (bs.length - o) + begun.length ≤ bs.length - e
  sp : spF la 0 (some e) bs = spF la 0 (some o) bs
theorem Going.start (bs : List Int) (e : Nat) : Going la bs e [] e :=
  ⟨rfl, rfl, fun h1 h2 => absurd h1 (by omega), (fun _ h => nomatch h), by simp, rfl⟩
theorem Going.step {bs : List Int} {e o : Nat} {begun : List Nat} (g : Going la bs e begun o) {b : Int} (h : bs[o]? = some b) (hl : 0 < la b) : Going la bs e (begun ++ [o]) (o + la b) := by
  have ho := (List.getElem?_eq_some_iff.mp h).1
  refine ⟨?_, ?_, fun _ _ => ⟨o, b, by simp, h, rfl⟩, fun q hq => ?_, ?_, by rw [g.sp, sp_step h hl]⟩
  · rw [g.st, st_step h hl, Nat.zero_add, List.append_assoc]; rfl
  · rw [g.cd, cd_step h hl]
  · rcases List.mem_append.mp hq with hq | hq
    · exact g.lt q hq
    · rw [List.mem_singleton.mp hq]
      exact ⟨ho, b, h, hl⟩
  · have := g.few
    rw [List.length_append, List.length_singleton]
    omega
theorem Going.over {bs : List Int} {e o : Nat} {begun : List Nat} (g : Going la bs e begun o) (h : bs.length ≤ o) : Ended la bs e begun o :=
  ⟨by rw [g.st, st_over h, List.append_nil], by rw [g.cd, cd_over h, if_neg (by omega)], fun z => absurd z (by omega), g.last, g.lt, fun z => absurd z (by omega)⟩
theorem Going.stop {bs : List Int} {e o : Nat} {begun : List Nat} (g : Going la bs e begun o) {b : Int} (h : bs[o]? = some b) (hl : la b = 0) : Ended la bs e begun o := by
  have ho := (List.getElem?_eq_some_iff.mp h).1
  exact ⟨by rw [g.st, st_stop h hl, List.append_nil], by rw [g.cd, cd_stop h hl, if_pos ho], fun _ => ⟨b, h, hl⟩, g.last, g.lt, fun _ => by rw [g.sp, sp_stop h hl, Nat.zero_add]⟩
theorem Ended.same {bs : List Int} {e : Nat} {b1 b2 : List Nat} {f1 f2 : Nat} (h1 : Ended la bs e b1 f1) (h2 : Ended la bs e b2 f2) : b1 = b2 ∧ f1 = f2 := by
  refine ⟨h1.st.trans h2.st.symm, ?_⟩
  have c := h1.cd.symm.trans h2.cd
  by_cases p1 : f1 < bs.length
  · by_cases p2 : f2 < bs.length
    · exact Option.some.inj ((h1.sp p1).symm.trans (h2.sp p2))
    · rw [if_pos p1, if_neg p2] at c; cases c
  · by_cases p2 : f2 < bs.length
    · rw [if_neg p1, if_pos p2] at c; cases c
    · rw [if_neg p1, if_neg p2] at c
      have := Option.some.inj c
      omega
/-! ### the countdowns of all offsets -/
variable (la)
def cds (s : Option Nat) (bs : List Int) : List (Option Nat) := (List.range (bs.length + 1)).map fun i => cdEnd la s (bs.take i)
variable {la}
theorem cds_len (s : Option Nat) (bs : List Int) : (cds la s bs).length = bs.length + 1 := by
  unfold cds; rw [List.length_map, List.length_range]
theorem cds_at {s : Option Nat} {bs : List Int} {i : Nat} (h : i ≤ bs.length) : (cds la s bs)[i]? = some (cdEnd la s (bs.take i)) := by
  unfold cds
  rw [List.getElem?_map, List.getElem?_range (by omega)]
  rfl
theorem cds_one (s : Option Nat) : cds la s [] = [s] := rfl
theorem cds_snoc (s : Option Nat) (bs : List Int) (b : Int) : cds la s (bs ++ [b]) = cds la s bs ++ [cdStep la (cdEnd la s bs) b] := by
  unfold cds
  rw [List.length_append, List.length_singleton, List.range_succ, List.map_append, List.map_singleton, ← List.length_singleton (a := b), ← List.length_append, List.take_length, cdEnd_snoc]
  congr 1
  refine List.map_congr_left fun i hi => ?_
  have := List.mem_range.mp hi
  rw [List.take_append_of_le_length (by rw [List.length_append, List.length_singleton] at this; omega)]
end
end Ov
namespace Ov
open PySem PySem.Spec PyProof.Rows L2
/-! ### heaps -/
theorem same_upd {H : Hp} {p : Addr} {o : HO} (h : H p = none) : Same H (upd H p o) := fun b x e => by
  rw [upd_ne (ne_of_none e h)]
  exact e
theorem _root_.L2.Same.tup {K : PySem.W.Frag} {H H' : Hp} {a : Addr} {xs : List V} (e : Same H H') (h : SqT K H a xs) : SqT K H' a xs := by
  rcases h with (h | ⟨o, h⟩) | h
  · exact .inl (.inl (e _ _ h))
  · exact .inl (.inr ⟨o, e _ _ h⟩)
  · exact .inr h
/-- a new list in the making at D: all that stood before stands, D is new and holds acc -/
structure Mk (H H' : Hp) (D : Addr) (acc : List V) : Prop where
  same : Same H H'
  new : H D = none
  at_ : H' D = some (.lst acc)
theorem Mk.start {H : Hp} {D : Addr} (h : H D = none) : Mk H (upd H D (.lst [])) D [] := ⟨same_upd h, h, upd_same⟩
theorem Mk.put {H H' H4 : Hp} {D : Addr} {acc acc' : List V} (m : Mk H H' D acc) (s : Same H' H4) : Mk H (upd H4 D (.lst acc')) D acc' :=
  ⟨fun b o e => by rw [upd_ne (ne_of_none e m.new)]; exact s _ _ (m.same _ _ e), m.new, upd_same⟩
/-- two tuples walked abreast -/
theorem walk_zipT {K : PySem.W.Frag} {a b : Addr} {xs ys : List V} {n : Nat} (hn : n = min xs.length ys.length) : Walk (RZ.ItzT K a b) n (fun H => SqT K H a xs ∧ SqT K H b ys) (YPair (fun i => xs[i]?) (fun i => ys[i]?)) := by
  subst hn
  refine ⟨fun i _ hi q => ?_, fun _ q => ⟨xs, ys, q.1, q.2, by omega⟩, fun i H v H' _ q y => ?_⟩
  · have h1 : i < xs.length := by omega
    have h2 : i < ys.length := by omega
    exact ⟨xs, ys, xs[i], ys[i], q.1, q.2, by simp [h1], by simp [h2]⟩
  · obtain ⟨T, x, z, h1, h2, h3, h4, h5⟩ := y
    exact ⟨T, x, z, h1, h2, h3, h4 xs q.1, h5 ys q.2⟩
theorem cut1 (xs : List V) : cutV xs (some 1) none = xs.drop 1 := by
  unfold cutV
  rw [show HT.sIx xs.length 0 (some 1) = min 1 xs.length from HT.sIx_nat xs.length 0 1, HT.sIx_none]
  cases xs with
  | nil => rfl
  | cons x r =>
    rw [show min 1 (x :: r).length = 1 by
      rw [List.length_cons]
      omega]
    show (List.take ((x :: r).length - 1) r) = r
    rw [List.length_cons, Nat.add_sub_cancel]
    exact List.take_length
theorem cut1_whole {xs : List V} (h : HT.sIx xs.length 0 (some 1) = 0 ∧ HT.sIx xs.length xs.length none = xs.length) : xs = [] := by
  have h1 := h.1
  rw [show HT.sIx xs.length 0 (some 1) = min 1 xs.length from HT.sIx_nat xs.length 0 1] at h1
  cases xs with
  | nil => rfl
  | cons x r => rw [List.length_cons] at h1; omega
/-! ### targets: two names -/
theorem pg_two {X : Cx} {x y : Str} {p1 p2 pos : Pos} {kk i j : Nat} (hc : X.calm = true) (hN : X.N.Nodup) (hi : X.N[i]? = some x) (hx : Loc X.env.scope x) (hfx : X.fn x = true ∨ X.env.scope.names.lookup x = some .local) (hj : X.N[j]? = some y) (hy : Loc X.env.scope y) (hfy : X.fn y = true ∨ X.env.scope.names.lookup y = some .local) :
    PG X (.Tuple [.Name x p1, .Name y p2] kk pos) (gTup X.K 2 (gCons (gName i) (gCons (gName j) gNil))) :=
  pg_tup hc (pgs_cons (pg_name hN hi hx hfx) (pgs_cons (pg_name hN hj hy hfy) pgs_nil))
/-! ### repr of a bool, a call by keywords alone -/
section
variable {X : Cx}
def boolText (b : Bool) : Str := if b then "True" else "False"
theorem call_repr_bool : CallR X (.builtin "repr") (fun xs H Q => ∃ b, xs = [.bl b] ∧ Q (.str (boolText b)) H) := by
  intro pins s σ H xs us Q I r h
  obtain ⟨b, rfl, q⟩ := h
  obtain ⟨u, rfl, rx⟩ := vals1 r
  cases (show u = Value.bool b from rx)
  exact PySem.P.repr_of_bool ⟨.str _, H, I.tok _, ⟨_, rfl⟩, q⟩
theorem boolText_inj {a b : Bool} : boolText a = boolText b ↔ a = b := by
  cases a <;> cases b <;> decide
variable {k : Nat} {f : Addr} {fd : FuncData} {ps ks : List Str} {sp : Sp} {CX : CXT} {E : XK} {x : Str} {p pos : Pos} {kws : List PySem.Keyword} {tk : TA} {g : List Value → List Value → List Value} {gV : List V → List V → List V}
theorem pe_callK0 (F : FnOk X.prog X.w X.K X.mg X.base CX k f fd ps sp) (hr : Room k X.A) (hg : Gl X x) (hm : X.mg x = some (.ref f)) (hk : PySem.W.keepIn X.K (.ref f) = true) (hb : KBinds X.K fd ps ks g gV) (hx : Passes CX X E)
    (hkw : PK X kws tk) (hall : (backToKw pos (keywordEach kws X.env)).all (·.1.isSome) = true := by rfl) (hks : (backToKw pos (keywordEach kws X.env)).filterMap (·.1) = ks := by rfl)
    (hdb : (x == ("__debug__" : Str)) = false := by decide)
    (hpl : ((backTo pos (starEach [] X.env)).any (·.1) || (backToKw pos (keywordEach kws X.env)).any (·.1.isNone)) = false := by rfl) :
    PE X (.Call (.Name x p) [] kws pos) (tCallK sp gV E tNil tk) := by
  refine ⟨fun pins s σ H Q I h => ?_⟩
  refine wpAny_Call_Name_kw (ld_glob I hg hm ?_ hdb)
  refine PySem.W.callWith_KW0 (h₀ := X.base) I.ok.mod.kin hk hall ?_ hpl
  refine thn (hkw.run pos pins s σ H _ I h) fun ws s2 ⟨zs, H2, I2, rz, q2⟩ => ⟨I2.kIn, ?_⟩
  rw [hks]
  exact run_fnk F hr hb hx I2 .nil rz q2
end
/-- two values by keywords, in the other order -/
def swap2 {α : Type} : List α → List α → List α
  | [], [a, b] => [b, a]
  | _, _ => []
theorem swap2_len {α : Type} {us ws : List α} (h : (swap2 us ws).length = 2) : ∃ a b, us = [] ∧ ws = [a, b] := by
  match us, ws, h with
  | [], [a, b], _ => exact ⟨a, b, rfl, rfl⟩
  | [], [], h => cases h
  | [], [_], h => cases h
  | [], _ :: _ :: _ :: _, h => cases h
  | _ :: _, _, h => cases h
theorem swap2_rel {vs : List V} {us : List Value} {zs : List V} {ws : List Value} (r : Vals vs us) (rz : Vals zs ws) : Vals (swap2 vs zs) (swap2 us ws) := by
  cases r with
  | nil =>
    cases rz with
    | nil => exact .nil
    | cons r1 rz =>
      cases rz with
      | nil => exact .nil
      | cons r2 rz =>
        cases rz with
        | nil => exact .cons r2 (.cons r1 .nil)
        | cons r3 rz => exact .nil
  | cons r1 r => exact .nil
/-- the built-in names that the text leaves alone -/
structure Bi (mg : Str → Option Value) : Prop where
  isi : mg "isinstance" = none
  int : mg "int" = none
  bool : mg "bool" = none
  tuple : mg "tuple" = none
  list : mg "list" = none
  all : mg "all" = none
  any : mg "any" = none
  zip : mg "zip" = none
  len : mg "len" = none
  range : mg "range" = none
  abs : mg "abs" = none
  sorted : mg "sorted" = none
  min : mg "min" = none
  repr : mg "repr" = none
  max : mg "max" = none
  sum : mg "sum" = none
  enumerate : mg "enumerate" = none
  str : mg "str" = none
  set : mg "set" = none
  dict : mg "dict" = none
  vErr : mg "ValueError" = none
/-! ### small things -/
/-- where a def stands, and that its name tells it -/
structure Def (K : PySem.W.Frag) (mg : Str → Option Value) (x : Str) (st : Stmt) (f : Addr) (fd : FuncData) (ps : List Str) : Prop where
  fn : Fun K x x st f fd
  gl : mg x = some (.ref f)
  bi : Binds K fd ps []
theorem ixN_at {n j : Nat} (hj : j < n) : ixN n (j : Int) = some j := by
  unfold ixN
  rw [if_pos (by omega), if_pos (by omega)]
  simp
theorem flat_rep {α : Type} (x : α) : ∀ n : Nat, (List.replicate n [x]).flatten = List.replicate n x
  | 0 => rfl
  | n + 1 => by rw [List.replicate_succ, List.flatten_cons, flat_rep x n, List.replicate_succ]; rfl
theorem take_more {α : Type} {l : List α} {i : Nat} {x : α} (h : l[i]? = some x) : l.take (i + 1) = l.take i ++ [x] := by
  rw [List.take_add_one, h]; rfl
theorem all_true (n : Nat) : (List.replicate n true).all id = true := by
  rw [List.all_eq_true]
  intro x hx
  exact (List.mem_replicate.mp hx).2
end Ov
namespace Ov
open PySem PySem.Spec PyProof.Rows L2
/-! ### defs that are called where no repr is under way: what they show of lists and tuples is then known -/
/-- the promise of a def, for calls under no guard -/
structure FnG (P : Program) (w : World) (K : PySem.W.Frag) (mg : Str → Option Value) (base : Heap) (k : Nat) (f : Addr) (fd : FuncData) (ps : List Str) (sp : Sp) : Prop where
  len : ∀ vs H Q E, sp vs H Q E → vs.length = ps.length
  run : ∀ (A : Around) (outer : List Env) (s : Shared) (H : Hp) (args : Args) (us : List Value) (vs : List V) (Q : VK) (E : XK),
    A.guards = some [] → Room k A → Env0 P w K mg base A outer s H → BindsTo s fd args (ps.zip us) → Vals vs us → sp vs H Q E →
    codeAny (model P w) A (.call (.ref f) args) (CR CX0 outer P w H s Q E) s
section
variable {P : Program} {w : World} {K : PySem.W.Frag} {mg : Str → Option Value} {base : Heap}
theorem okG {x qual : Str} {st : Stmt} {f : Addr} {fd : FuncData} {N ps : List Str} {k : Nat} {sp : Sp} (F : Fun K x qual st f fd) (S : FnScope N ps (defScope st)) (len : ∀ vs H Q E, sp vs H Q E → vs.length = ps.length)
    (body : ∀ (cdv : Value) (A : Around) (outer : List Env) (s : Shared) (H : Hp) (vs : List V) (Q : VK) (E : XK), A.guards = some [] → Room k (A.deeper (envOfC qual (defScope st) s.heap.objs.size f cdv)) → sp vs H Q E →
      ∃ t, PSs (cxOf CX0 P w K mg base N qual (defScope st) f cdv A outer s H E).nox (defBody st) t ∧ t { nx := fun _ H' => Q .non H', rt := Q } (start N vs) H) :
    FnG P w K mg base (k + 1) f fd ps sp := by
  obtain ⟨oc, od, kV, doc, pm, an, cdv, ct, osl, rfl, lk, hcd⟩ := F.ex
  constructor
  · exact len
  intro A outer s H args us vs Q E gd room env bnd rel pr
  obtain ⟨t, walk, reads⟩ := body cdv A outer s H vs Q E gd (room.deeper _) pr
  have down : ∀ b o, base.get? b = some o → s.heap.get? b = some o := fun b o e => (env.bs b o e).1
  have kin := env.mod.kin.keeps down
  have kinds : ∀ y ∈ ps.zip us, (defScope st).names.lookup y.1 = some .local ∨ ((defScope st).names.lookup y.1 = some .cell ∧ ((cellsFrom (s.heap.objs.size + 1) (defScope st).names []).lookup y.1).isSome = true) := by
    rintro ⟨y, v⟩ hy
    have hm := (List.of_mem_zip hy).1
    exact (S.par y hm).imp id fun q => ⟨q, PySem.W.cellsFrom_some _ _ _ (.inl q)⟩
  refine codeAny_call_function room.depth (kin _ _ lk) rfl S.co S.gen rfl (PySem.W.codeRec_of kin hcd) (bnd _ _ _ _ (wpAny_newFunctionEnv_cells S.kind kinds ?_))
  rintro env' rfl s1 ic
  refine ⟨(env.mod.nolimit.keeps down).keeps ic.toInCall.keep, codeAny_func (wpAny_mono (walk.nox.run [] s1 (start N vs) H _ (inv_start S room.hd env (len _ _ _ _ pr) rel ic) reads) ?_ fun _ _ h => h)⟩
  intro fl s' h
  cases fl with
  | brk => obtain ⟨_, _, _, q⟩ := h; exact q.elim
  | cont => obtain ⟨_, _, _, q⟩ := h; exact q.elim
  | next => obtain ⟨_, H', J, q⟩ := h; exact ⟨.non, H', J.os, J.bare, J.base, J.hok, rfl, q⟩
  | ret u => obtain ⟨v, _, H', J, rv, q⟩ := h; exact ⟨v, H', J.os, J.bare, J.base, J.hok, rv, q⟩
/-- a def that keeps its promise anywhere keeps it there -/
theorem FnG.of {k : Nat} {f : Addr} {fd : FuncData} {ps : List Str} {sp : Sp} (F : FnOk P w K mg base CX0 k f fd ps sp) : FnG P w K mg base k f fd ps sp :=
  ⟨F.len, fun A outer s H args us vs Q E _ => F.run A outer s H args us vs Q E⟩
end
section
variable {X : Cx} {k : Nat} {f : Addr} {fd : FuncData} {ps : List Str} {sp : Sp} {x : Str} {p pos : Pos} {e : Expr} {es : List Expr} {t : TA} {ds : List Value} {dvs : List V}
/-- such a def called by its name -/
theorem pe_callG (F : FnG X.prog X.w X.K X.mg X.base k f fd ps sp) (gd : X.A.guards = some []) (room : Room k X.A) (hg : Gl X x) (hm : X.mg x = some (.ref f)) (hk : PySem.W.keepIn X.K (.ref f) = true) (bi : Binds X.K fd ps [])
    (ha : PA X (e :: es) t) (hdb : (x == ("__debug__" : Str)) = false := by decide) (he : starEach (e :: es) X.env = (false, eval e X.env) :: starEach es X.env := by rfl) (hpl : (backTo pos (starEach es X.env)).any (·.1) = false := by rfl) :
    PE X (.Call (.Name x p) (e :: es) [] pos) (tCall sp [] E0 t) := by
  constructor
  intro pins s σ H Q I h
  refine wpAny_Call_Name_kw (ld_glob I hg hm (PySem.W.callWith_K (h₀ := X.base) I.ok.mod.kin hk (thn (ha.run pos pins s σ H _ I h) ?_) he hpl) hdb)
  rintro us s1 ⟨vs, H1, I1, r, q⟩
  have pr : sp vs H1 Q E0 := by
    have z : sp (vs ++ []) H1 Q E0 := q
    rwa [List.append_nil] at z
  have hl : us.length = ps.length := by rw [← r.length]; exact F.len _ _ _ _ pr
  have bt := bi s1 us I1.kIn (by simpa using hl)
  rw [List.append_nil] at bt
  refine ⟨I1.kIn, wpAny_call (codeAny_mono (F.run X.A X.stack s1 H1 ⟨us, []⟩ us vs Q E0 gd room I1.env0 bt r pr) ?_)⟩
  intro rs s' hq
  match rs, hq with
  | .error e, hq => exact (show False from hq).elim
  | .ok (.ret u), hq => exact I1.after hq
  | .ok .next, hq => exact (show False from hq).elim
  | .ok .brk, hq => exact (show False from hq).elim
  | .ok .cont, hq => exact (show False from hq).elim
/-- what is shown of lists and tuples of any depth -/
theorem call_repr_data (gd : X.A.guards = some []) (room : Room k X.A) : CallR X (.builtin "repr") (fun xs H Q => ∃ a d, xs = [.ref a] ∧ Dp X.K H (.ref a) d ∧ d.showable = true ∧ d.hasDict = false ∧ d.depth ≤ 60 ∧ d.shown.length ≤ sizeLine ∧ Q (.str d.shown) H) := by
  intro pins s σ H xs us Q I r h
  obtain ⟨a, d, rfl, hd, sh, nod, dep, sz, q⟩ := h
  obtain ⟨u, rfl, rx⟩ := vals1 r
  cases (show u = Value.ref a from rx)
  obtain ⟨as, rd⟩ := Dp.reads I d _ _ hd rx
  have un := room.un
  refine repr_of_reads' (h₀ := s.heap) rd sh (fun z => by rw [nod] at z; cases z) gd (by omega) (fun _ _ e => e) ?_ sz
  intro h' u tk kp
  exact ⟨.str d.shown, H, I.kept (t' := tk) kp, ⟨u, rfl⟩, q⟩
end
end Ov
namespace Ov
open PySem PySem.Spec PyProof.Rows L2
/-- the law's call, from its promise under no guard -/
theorem callG {P : Program} {w : World} {K : PySem.W.Frag} {mg mb : Str → Option Value} {k : Nat} {fa a : Addr} {fd : FuncData} {x : Str} {sp : Sp} {s : Shared} {vs : List Value} {ns : List Int}
    (KX : K.In s.heap) (hns : s.heap.Ns mainGlobals mg) (hb : s.heap.Ns builtinsNs mb) (hbb : ∀ x : Str, x ≠ "__name__" → mb x = bootBuiltins x) (hlim : s.heap.NoLimit) (hg : s.gens = #[])
    (ha : s.heap.get? a = some { cls := .type "list", data := .seq vs.toArray }) (hi : IntsAre vs ns) (hl : ns.length ≤ sizeLine) (room : Room k callerA)
    (F : ∀ base : Heap, K.In base → base.Ns mainGlobals mg → FnG P w K mg base k fa fd [x] sp) (bind : ∀ (s : Shared) (u : Value), BindsTo s fd ⟨[u], []⟩ [(x, u)])
    (pr : ∀ H : Hp, SqL K H a (ns.map V.int) → sp [.ref a] H (fun v _ => v = .bl true) fun _ _ _ => False) :
    codeAny (model P w) callerA (.call (.ref fa) ⟨[.ref a], []⟩) (fun r s' => r = .ok (.ret (.bool true)) ∧ OldK s.heap s'.heap ∧ s'.os = s.os ∧ AllBare s'.gens) s := by
  have rv : Vals (ns.map V.int) vs := vals_ints hi
  -- what is tracked: the script, unless it is the module's own
  obtain ⟨H, seq, hok, only, sep, froz⟩ : ∃ H : Hp, SqL K H a (ns.map V.int) ∧ HOk P w H s.heap ∧ (∀ b, H b ≠ none → b = a) ∧ (H a ≠ none → K.lookup a = none) ∧ (∀ b u, H b = some u → ∃ o xs, u = .frz o (.lst xs)) := by
    cases hk : K.lookup a with
    | some o =>
      have e : o = { cls := .type "list", data := .seq vs.toArray } := Option.some.inj ((KX a o hk).symm.trans ha)
      subst e
      exact ⟨fun _ => none, .inr ⟨_, vs.toArray, _, hk, rfl, rfl, rfl, by rw [List.size_toArray, hi.length]; exact hl, by simpa using rv⟩, (fun _ _ z => nomatch z), (fun _ z => absurd rfl z), (fun z => absurd rfl z), (fun _ _ z => nomatch z)⟩
    | none =>
      refine ⟨fun b => if b = a then some (.frz { cls := .type "list", data := .seq vs.toArray } (.lst (ns.map V.int))) else none, .inl (.inr ⟨_, if_pos rfl⟩), ?_, ?_, fun _ => rfl, ?_⟩
      · intro b u z
        by_cases e : b = a
        · subst e
          have z' : HO.frz { cls := .type "list", data := .seq vs.toArray } (.lst (ns.map V.int)) = u := Option.some.inj ((if_pos rfl).symm.trans z)
          subst z'
          exact ⟨ha, by rw [List.length_map]; exact hl, vs, _, rv, ha⟩
        · exact absurd ((if_neg e).symm.trans z) (fun y => nomatch y)
      · intro b z
        by_cases e : b = a
        · exact e
        · exact absurd (if_neg e) z
      · intro b u z
        by_cases e : b = a
        · exact ⟨_, _, (Option.some.inj ((if_pos e).symm.trans z)).symm⟩
        · exact absurd ((if_neg e).symm.trans z) (fun y => nomatch y)
  -- the base: all the rest
  have rest : ∀ {b : Addr} {o : Obj}, s.heap.get? b = some o → H b = none → (hidT s.heap H).get? b = some o := fun e n => hidT_get e n
  have gone : ∀ {b : Addr}, b ≠ a → H b = none := fun {b} n => by
    cases z : H b with
    | none => rfl
    | some u => exact absurd (only b (by rw [z]; exact fun y => nomatch y)) n
  have spaces : ∀ {b : Addr} {m : Str → Option Value}, s.heap.Ns b m → (hidT s.heap H).Ns b m := by
    rintro b m ⟨o, es, ep, e, d, r⟩
    refine ⟨o, es, ep, rest e (gone ?_), d, r⟩
    rintro rfl
    have eo : o = { cls := .type "list", data := .seq vs.toArray } := Option.some.inj (e.symm.trans ha)
    rw [eo] at d
    cases (show Data.seq vs.toArray _ = Data.dict es ep from d)
  have kin : K.In (hidT s.heap H) := fun b o e => rest (KX b o e) (by
    cases z : H b with
    | none => rfl
    | some u =>
      have eb := only b (by rw [z]; exact fun y => nomatch y)
      subst eb
      rw [sep (by rw [z]; exact fun y => nomatch y)] at e
      cases e)
  obtain ⟨mc, lim1, lim2⟩ := hlim
  have env : Env0 P w K mg (hidT s.heap H) callerA [] s H :=
    ⟨rfl, ⟨kin, spaces hns, ⟨mb, spaces hb, hbb⟩, ⟨mc, spaces lim1, lim2⟩⟩, fun b o e => of_hidT e, Nat.le_of_eq (hidT_size _ _), trivial, fun b hb => absurd (show b ∈ ([] : List Addr) from hb) (by simp), hok, .of_eq hg⟩
  refine codeAny_mono ((F _ kin (spaces hns)).run callerA [] s H ⟨[.ref a], []⟩ [.ref a] [.ref a] _ _ rfl room env (bind s (.ref a)) (.cons rfl .nil) (pr H seq)) ?_
  intro r s' h
  match r, h with
  | .error e, h => exact (show False from h).elim
  | .ok .next, h => exact (show False from h).elim
  | .ok .brk, h => exact (show False from h).elim
  | .ok .cont, h => exact (show False from h).elim
  | .ok (.ret u), ⟨v, H', os, bare, un, hok', rel, q⟩ =>
    have ev : v = .bl true := q
    subst ev
    obtain rfl : u = Value.bool true := rel
    refine ⟨rfl, OldK.of_keep fun b o e => ?_, os, bare⟩
    cases z : H b with
    | none => exact un.keep b o e z (fun y => absurd (show b ∈ ([] : List Addr) from y) (by simp)) (by simp)
    | some u =>
      obtain ⟨ob, xs, rfl⟩ := froz b u z
      have h1 := (hok b _ z).1
      have h2 := (hok' b _ (un.frzs b ob _ z)).1
      have eo : o = ob := Option.some.inj (e.symm.trans h1)
      rw [eo]
      exact h2
theorem walkG {l : PySem.W.OpenLaw} {n k : Nat} {q : Program} {loose : List Str} {XP : (Str → Option Value) → Heap → Prop} {YP : World → Heap → Prop} {d : DefRec} {K : Params → PySem.W.Frag} {sp : PySem.W.Frag → Sp} {x : Str}
    (hn : l.most = some n) (hn2 : n ≤ sizeLine) (hdf : d.params.defaults = []) (room : Room k callerA) (hY : ∀ (w : World) (h : Heap), YP w h → (K w.params).In h)
    (F : ∀ (w : World) (mg : Str → Option Value) (fa : Addr) (h : Heap), (K w.params).In h → h.Ns mainGlobals mg → mg d.name = some (.ref fa) →
      ∃ fd : FuncData, (∀ (s : Shared) (u : Value), BindsTo s fd ⟨[u], []⟩ [(x, u)]) ∧ ∀ base : Heap, (K w.params).In base → base.Ns mainGlobals mg → FnG l.prog w (K w.params) mg base k fa fd [x] (sp (K w.params)))
    (pr : ∀ (K : PySem.W.Frag) (H : Hp) (a : Addr) (ns : List Int), ns.length ≤ n → SqL K H a (ns.map V.int) → sp K [.ref a] H (fun v _ => v = .bl true) fun _ _ _ => False) :
    PySem.W.WalkO q loose XP YP l.row.toRowW d [] (fun f vs => PySem.call f vs) := by
  refine Att.attach_call hn hdf ?_
  intro w s₀ s₁ mg mb fa o pm cd doc a vs ns G Y ho hd hcd hmg hobj hints hlen hg
  have kin := hY w _ Y
  obtain ⟨fd, bind, okF⟩ := F w mg fa _ kin G.T.g hmg
  exact callG kin G.T.g G.T.b G.T.builtins G.T.nolimit hg hobj hints (Nat.le_trans hlen hn2) room okF bind fun H seq => pr (K w.params) H a ns hlen seq
end Ov
namespace Ov
open PySem PySem.Spec PyProof.Rows L2
/-! ### how long a shown value may be -/
mutual
def nodes : PyData → Nat
  | .str x => 1 + (reprText x).length
  | .list xs => 1 + nodesAll xs
  | .tuple xs => 1 + nodesAll xs
  | .none => 1
  | .bool _ => 1
  | .int _ => 1
  | .dict kvs => 1 + (dictText (PyData.shownKv kvs)).length
def nodesAll : List PyData → Nat
  | [] => 0
  | x :: xs => nodes x + nodesAll xs
end
theorem strLen0 : (Str.ofString "None").length = 4 := by decide +kernel
theorem listText_le (ts : List Str) : (listText ts).length ≤ piled ts + 2 := by
  rw [listText_eq_join, strLen_append, strLen_append]
  have a : (Str.ofString "[").length = 1 := by decide +kernel
  have b : (Str.ofString "]").length = 1 := by decide +kernel
  cases ts with
  | nil =>
    have : (Str.join (Str.ofString ", ") []).length = 0 := by decide +kernel
    rw [a, b, this]; omega
  | cons t ts =>
    have := join_length_add (t :: ts) (List.cons_ne_nil _ _)
    rw [a, b]; omega
theorem tupleText_le (ts : List Str) : (tupleText ts).length ≤ piled ts + 3 := by
  unfold tupleText
  rw [strLen_append, strLen_append]
  have a : (Str.ofString "(").length = 1 := by decide +kernel
  have b : (Str.ofString (if (ts.length == 1) = true then ",)" else ")" : String)).length ≤ 2 := by
    by_cases h : (ts.length == 1) = true
    · rw [if_pos h]; decide +kernel
    · rw [if_neg h]; decide +kernel
  cases ts with
  | nil =>
    have : (Str.join (Str.ofString ", ") []).length = 0 := by decide +kernel
    rw [a, this]
    exact Nat.le_trans (Nat.add_le_add_left b _) (by omega)
  | cons t ts =>
    have := join_length_add (t :: ts) (List.cons_ne_nil _ _)
    rw [a]
    omega
mutual
theorem shown_le : ∀ d : PyData, d.showable = true → d.shown.length + 10 ≤ 2000 * nodes d
  | .none, _ => by
    simp only [PyData.shown, nodes]
    rw [strLen0]; decide
  | .bool b, _ => by
    simp only [PyData.shown, nodes]
    cases b <;> decide +kernel
  | .int i, h => by
    simp only [PyData.shown, nodes]
    have := int_text_len_1921 (i := i) (by simpa [PyData.showable] using h)
    omega
  | .str x, _ => by
    simp only [PyData.shown, nodes]
    omega
  | .list xs, h => by
    simp only [PyData.shown, nodes]
    have := shownAll_le xs (by simpa [PyData.showable] using h)
    have := listText_le (PyData.shownAll xs)
    omega
  | .tuple xs, h => by
    simp only [PyData.shown, nodes]
    have := shownAll_le xs (by simpa [PyData.showable] using h)
    have := tupleText_le (PyData.shownAll xs)
    omega
  | .dict kvs, _ => by
    simp only [PyData.shown, nodes]
    omega
theorem shownAll_le : ∀ xs : List PyData, PyData.showableAll xs = true → piled (PyData.shownAll xs) ≤ 2000 * nodesAll xs
  | [], _ => by
    simp only [PyData.shownAll, nodesAll]
    decide +kernel
  | x :: xs, h => by
    have h' : x.showable = true ∧ PyData.showableAll xs = true := by simpa [PyData.showableAll] using h
    have h1 := shown_le x h'.1
    have h2 := shownAll_le xs h'.2
    simp only [PyData.shownAll, nodesAll]
    rw [piled_cons]
    omega
end
theorem fits_shown {d : PyData} (h : d.showable = true) (n : nodes d ≤ 8000) : d.shown.length ≤ sizeLine := by
  have := shown_le d h
  rw [sizeLine_eq]
  omega
/-! ### ints and least sums as data -/
theorem dp_ints {K : PySem.W.Frag} {H : Hp} : ∀ ns : List Int, DpAll K H (ns.map V.int) (ns.map PyData.int)
  | [] => .nil
  | n :: ns => .cons (.int n) (dp_ints ns)
/-- a plain value: None, a bool, an int that is not too great to be shown -/
inductive Sc : PyData → Prop
  | non : Sc .none
  | bl (b : Bool) : Sc (.bool b)
  | int (i : Int) (h : i.natAbs.log2 < 1920) : Sc (.int i)
theorem Sc.small {i : Int} (h : i.natAbs < 2 ^ 1000) : Sc (.int i) := by
  refine .int i ?_
  by_cases e : i.natAbs = 0
  · rw [e]; decide
  · exact Nat.lt_of_lt_of_le ((Nat.log2_lt e).mpr h) (by decide)
structure Flat (ds : List PyData) : Prop where
  lay : PyData.canLayAll0 ds = true
  dep : PyData.depthAll ds = 0
  sh : PyData.showableAll ds = true
  nod : PyData.hasDictAll ds = false
  nds : nodesAll ds = ds.length
theorem flat_of : ∀ {ds : List PyData}, (∀ d ∈ ds, Sc d) → Flat ds
  | [], _ => ⟨by simp [PyData.canLayAll0], by simp [PyData.depthAll], by simp [PyData.showableAll], by simp [PyData.hasDictAll], by simp [nodesAll]⟩
  | d :: ds, h => by
    obtain ⟨h1, h2, h3, h4, h5⟩ := flat_of (ds := ds) fun x hx => h x (List.mem_cons_of_mem _ hx)
    have hd := h d List.mem_cons_self
    refine ⟨?_, ?_, ?_, ?_, ?_⟩
    · cases hd <;> simp [PyData.canLayAll0, PyData.canLay0, h1]
    · cases hd <;> simp [PyData.depthAll, PyData.depth, h2]
    · cases hd <;> simp_all [PyData.showableAll, PyData.showable]
    · cases hd <;> simp [PyData.hasDictAll, PyData.hasDict, h4]
    · cases hd <;> simp [nodesAll, nodes, h5] <;> omega
theorem shaped_tup {ds : List PyData} (f : Flat ds) : SeqAt.shaped (.tuple ds) = true := by
  unfold SeqAt.shaped
  simp [PyData.canLay0, PyData.depth, f.lay, f.dep]
theorem shaped_lst {ds : List PyData} (f : Flat ds) : SeqAt.shaped (.list ds) = true := by
  unfold SeqAt.shaped
  simp [PyData.canLay0, PyData.depth, f.lay, f.dep]
theorem flat_ints {ns : List Int} (h : ∀ n ∈ ns, n.natAbs < 2 ^ 1000) : Flat (ns.map PyData.int) := flat_of fun d hd => by
  obtain ⟨n, hn, rfl⟩ := List.mem_map.mp hd
  exact .small (h n hn)
theorem eqv_nil : ∀ ds : List PyData, PyData.eqv (.tuple ds) (.tuple []) = ds.isEmpty
  | [] => by simp [PyData.eqv, PyData.eqvAll]
  | d :: ds => by simp [PyData.eqv, PyData.eqvAll]
end Ov
namespace Ov
open PySem PySem.Spec PyProof.Rows L2
section
variable {X : Cx} {k : Nat}
/-- max of a tuple of ints -/
theorem cr_maxT (hc : X.calm = true) (room : Room k X.A) : CallR X (.builtin "max") (fun vs H Q => ∃ (a : Addr) (n : Int) (ns : List Int), vs = [.ref a] ∧ SqT X.K H a ((n :: ns).map V.int) ∧ Q (.int (ns.foldl max n)) H) := by
  intro pins s σ H vs us Q I r h
  obtain ⟨a, n, ns, rfl, hs, q⟩ := h
  obtain ⟨its, rv, pl, _⟩ := I.tuple hs
  obtain ⟨as, rd⟩ := Dp.readsAll I ((n :: ns).map PyData.int) _ its (dp_ints (n :: ns)) rv
  rw [Vals.ref1 r]
  have un := room.un
  have dep : PyData.depthAll ((n :: ns).map PyData.int) = 0 := by
    generalize n :: ns = l
    induction l with
    | nil => simp [PyData.depthAll]
    | cons x l ih => simp [PyData.depthAll, PyData.depth, ih]
  have ali : PySem.W.AlikeAll ((n :: ns).map PyData.int) := by
    constructor
    · intro x hx y hy
      obtain ⟨i, _, rfl⟩ := List.mem_map.mp hx
      obtain ⟨j, _, rfl⟩ := List.mem_map.mp hy
      simp [PySem.W.alike]
    · intro x hx
      obtain ⟨i, _, rfl⟩ := List.mem_map.mp hx
      exact fun z => nomatch z
  rw [List.map_cons] at rd ali dep
  refine PySem.W.max_tuple_data (I.ok.hd hc) pl (by simpa using rd) ali (by rw [dep]; omega) ?_
  intro i v h' tk bs hi hr kp
  rw [PySem.W.maxD_ints] at hr
  cases hr with
  | int => exact ⟨.int _, H, I.kept kp, ⟨_, rfl⟩, q⟩
end
end Ov
namespace Ov
open PySem PySem.Spec PyProof.Rows L2
/-! ### texts by their codes; a text so many times; list(range(n)) -/
def txt (l : List Nat) : Str := ⟨l.toArray⟩
theorem txt_inj {a b : List Nat} (h : txt a = txt b) : a = b := by
  have : a.toArray = b.toArray := congrArg Str.cps h
  simpa using congrArg Array.toList this
theorem txt_len (l : List Nat) : (txt l).length = l.length := by
  show l.toArray.size = _
  simp
theorem fold_reps : ∀ (k : Nat) (l : List Nat) (acc : Array Nat), (List.replicate k l.toArray).foldl (· ++ ·) acc = acc ++ (List.replicate k l).flatten.toArray
  | 0, l, acc => by simp
  | k + 1, l, acc => by
    rw [List.replicate_succ, List.foldl_cons, fold_reps k l, List.replicate_succ, List.flatten_cons]
    simp
section
variable {X : Cx}
/-- a text times a small number -/
theorem op_mulS : OpR X (binaryOp .Mult) (fun x y H Q => ∃ (l : List Nat) (n : Int), x = .str (txt l) ∧ y = .int n ∧ 0 ≤ n ∧ n ≤ 1000 ∧ l.length ≤ 1000 ∧ Q (.str (txt (List.replicate n.toNat l).flatten)) H) := by
  intro pins s σ H x y v u Q I rx ry h
  obtain ⟨l, n, rfl, rfl, h0, h1, hl, q⟩ := h
  obtain ⟨t, rfl⟩ := rx
  obtain ⟨t', rfl⟩ := ry
  have hlen := txt_len l
  have fin : ∀ (tk tk' : Nat), EP X pins σ Q (.str (txt (List.replicate n.toNat l).flatten) tk) { s with toks := tk' } := fun tk tk' => ⟨.str _, H, I.tok _, ⟨_, rfl⟩, q⟩
  refine PySem.P.mul_str ?_ ?_ ?_ ?_
  · rw [decide_eq_false (show ¬ n < -(2 ^ 63 : Int) by omega), decide_eq_false (show ¬ n ≥ 2 ^ 63 by omega)]
    rfl
  · intro a b
    rw [hlen]
    have hn : 1 ≤ n := by omega
    have : (1000 : Int) ≤ (2 ^ 63 - 1) / n := by
      rw [Int.le_ediv_iff_mul_le (by omega)]
      omega
    omega
  · intro a b
    rw [hlen]
    refine decide_eq_false ?_
    rw [sizeLine_eq]
    have : l.length * n.toNat ≤ 1000 * 1000 := Nat.mul_le_mul hl (by omega)
    omega
  · by_cases c : n < 1
    · rw [if_pos c]
      have hn : n.toNat = 0 := by omega
      have := fin s.toks (s.toks + 1)
      rw [hn] at this
      exact ⟨Nat.zero_le _, this⟩
    · rw [if_neg c]
      by_cases d : (n == 1 || (txt l).length == 0) = true
      · rw [if_pos d]
        have e : txt (List.replicate n.toNat l).flatten = txt l := by
          rcases Bool.or_eq_true_iff.mp d with d | d
          · have : n = 1 := eq_of_beq d
            subst this
            simp
          · have hz : l.length = 0 := by rw [← hlen]; exact eq_of_beq d
            have : l = [] := List.eq_nil_of_length_eq_zero hz
            subst this
            simp
        have := fin t s.toks
        rw [e] at this
        exact this
      · rw [if_neg d]
        have e : (⟨(List.replicate n.toNat (txt l).cps).foldl (· ++ ·) #[]⟩ : Str) = txt (List.replicate n.toNat l).flatten := by
          show (⟨(List.replicate n.toNat l.toArray).foldl (· ++ ·) #[]⟩ : Str) = _
          rw [fold_reps]
          simp [txt]
        rw [e]
        refine ⟨?_, fin s.toks (s.toks + 1)⟩
        rw [txt_len, sizeLine_eq]
        have h2 : (List.replicate n.toNat l).flatten.length = n.toNat * l.length := by simp
        rw [h2]
        have : n.toNat * l.length ≤ 1000 * 1000 := Nat.mul_le_mul (by omega) hl
        omega
/-- list(range(n)) -/
theorem pe_listRange {a : Expr} {ta : TE} {p p2 q pos : Pos} (hg : Gl X "list") (hm : X.mg "list" = none) (hg2 : Gl X "range") (hm2 : X.mg "range" = none) (ha : PE X a ta) (hc : X.calm = true := by rfl)
    (na : starEach [a] X.env = (false, eval a X.env) :: starEach [] X.env := by rfl) :
    PE X (.Call (.Name "list" p) [.Call (.Name "range" p2) [a] [] q] [] pos) (fun σ H Q => ta σ H fun x H1 => ∃ n : Nat, x = .int (n : Int) ∧ n ≤ 100000 ∧ ∀ l, H1 l = none → Q (.ref l) (upd H1 l (.lst ((List.range n).map fun i : Nat => V.int (i : Int))))) := by
  constructor
  intro pins s σ H Q I h
  have bl : bootBuiltins "list" = some (.type "list") := by decide +kernel
  refine Call_ (ld_blt I hg hm bl (PyProof.Rows.callWith_type1 (PyProof.Rows.args_cons ?_ rfl) rfl rfl))
  refine Call_ (ld_blt I hg2 hm2 boot_range (PyProof.Rows.callWith_type1 (PyProof.Rows.args_cons (thn (ha.run pins s σ H _ I h) ?_) na) na rfl))
  rintro v s1 ⟨x, H1, I1, r1, n, rfl, hn, q1⟩
  obtain ⟨t, rfl⟩ := r1
  refine PyProof.Rows.args_nil (call_range_1 (PyProof.Rows.args_nil ?_))
  have hsmall : Builtin.Range.small 0 (n : Int) 1 = true := small_one (by omega) (by omega) (by omega) (by omega)
  refine call_list_range (n := n) (I1.ok.hd hc) (Heap.get?_push_size _ rfl) hsmall ?_ (by omega) ?_
  · rw [rangeSize_nat]
    simp
  · intro h' tk acc c kp hat hit
    have vals : Vals ((List.range n).map fun i : Nat => V.int (i : Int)) acc.toList := by
      obtain ⟨hz, hv⟩ := hit
      have key : ∀ (l : List Value) (k : Nat), (∀ j v, l[j]? = some v → ∃ t, v = Value.int (0 + ((k + j : Nat) : Int) * 1) t) → Vals ((List.range' k l.length).map fun i : Nat => V.int (i : Int)) l := by
        intro l
        induction l with
        | nil => intro k _; exact .nil
        | cons v l ih =>
          intro k hk
          rw [List.length_cons, List.range'_succ, List.map_cons]
          refine .cons ?_ (ih (k + 1) fun j w hj => ?_)
          · obtain ⟨t, e⟩ := hk 0 v rfl
            exact ⟨t, by rw [e, show (0 + ((k + 0 : Nat) : Int) * 1) = (k : Int) by omega]⟩
          · obtain ⟨t, e⟩ := hk (j + 1) w hj
            exact ⟨t, by rw [e, show (0 + ((k + (j + 1) : Nat) : Int) * 1) = (0 + ((k + 1 + j : Nat) : Int) * 1) by omega]⟩
      have := key acc.toList 0 (fun j v hj => by
        obtain ⟨t, e⟩ := hv j v (by simpa using hj)
        exact ⟨t, by rw [e, show (0 + ((0 + j : Nat) : Int) * 1) = (0 + ((j : Nat) : Int) * 1) by omega]⟩)
      rw [Array.length_toList, hz, ← List.range_eq_range'] at this
      exact this
    have old : ∀ b o, s1.heap.get? b = some o → h'.get? b = some o := fun b o e => kp b o (Heap.get?_push_of_some _ e)
    have ez : ∀ (o : Obj), (s1.heap.push o).objs.size = s1.heap.objs.size + 1 := fun o => Heap.size_push _ _
    rw [ez] at hat ⊢
    have fit : ((List.range n).map fun i : Nat => V.int (i : Int)).length ≤ sizeLine := by
      rw [List.length_map, List.length_range, sizeLine_eq]
      omega
    exact ⟨.ref _, upd H1 (s1.heap.objs.size + 1) (.lst _), I1.laid (t' := tk) old (Nat.le_succ _) ⟨fit, acc.toList, c, vals, hat⟩, rfl, q1 _ (I1.hok.fresh (Nat.le_succ _))⟩
end
end Ov
namespace Ov
open PySem PySem.Spec PyProof.Rows L2
/-! ### a set of texts, made of a list of unlike ones: how many it holds -/
/-- the empty set as it is made -/
abbrev noText (led : Bool) : Obj := { cls := .type "set", dict := none, data := .set #[] 0 (.fresh 0 0 led) }
section
variable {prog : Program} {w : World} {A : Around} {R : Result → Shared → Prop} {it : Addr} {fp wr : List Addr} {G : Array GenState → Array GenState → Prop} {n : Nat} {P : Nat → Value → Prop} {St : Nat → Shared → Prop}
theorem has_next {xs : List Str} (nd : xs.Nodup) {i : Nat} (hi : i < xs.length) : (xs.take i).any (· == xs[i]) = false := by
  rw [List.any_eq_false]
  intro y hy e
  have ey : y = xs[i] := eq_of_beq e
  obtain ⟨j, hj, ej⟩ := List.mem_take_iff_getElem.mp hy
  have hlt : j < i := by omega
  exact (List.pairwise_iff_getElem.mp nd j i (by omega) hi hlt) (ej.trans ey)
/-- texts put into it, one behind another -/
theorem texts_in (W : WalksS prog w A.in1 it fp wr G n P St) (S : Addr) (out : S ∉ fp) {xs : List Str} (len : xs.length = n) (nd : xs.Nodup) (few : n + 1 < scanBound)
    (val : ∀ (i : Nat) (hi : i < xs.length) (v : Value), P i v → ∃ t, v = .str xs[i] t) :
    ∀ (left i : Nat) (s : Shared), i + left = n → St i s → s.heap.SetOf (PySem.strKind prog w) S (fun k => (xs.take i).any (· == k)) i →
      (∀ s', Moved (S :: wr) G s s' → s'.heap.SetOf (PySem.strKind prog w) S (fun k => xs.any (· == k)) n → R (.ok (.ret .none)) s') →
      codeAny (model prog w) A (.builtin "set.update.loop" ⟨[.ref S, .ref it], []⟩) R s := by
  have outw : S ∉ wr := fun z => out (W.sub _ z)
  have wide : ∀ b ∈ wr, b ∈ S :: wr := fun b z => List.mem_cons_of_mem _ z
  have carry : ∀ {s s' : Shared} {f : Str → Bool} {c : Nat}, Moved wr G s s' → s.heap.SetOf (PySem.strKind prog w) S f c → s'.heap.SetOf (PySem.strKind prog w) S f c := by
    rintro s s' f c mv ⟨o, es, ep, t, ho, more⟩
    exact ⟨o, es, ep, t, mv.heap S _ outw ho, more⟩
  intro left
  induction left with
  | zero =>
    intro i s e st hS fin
    obtain rfl : i = n := by omega
    refine codeAny_builtin PyProof.Rows.F.entry_set_update_loop ?_
    rw [Around.under_plainId PyProof.Rows.F.plain_set_update_loop _]
    refine wpAny_bind (W.done s _ _ st fun s' mv => wpAny_pure (fin s' (mv.mono wide) ?_))
    have := carry mv hS
    rwa [← len, List.take_length, len] at this
  | succ left ih =>
    intro i s e st hS fin
    have hi : i < xs.length := by omega
    refine codeAny_builtin PyProof.Rows.F.entry_set_update_loop ?_
    rw [Around.under_plainId PyProof.Rows.F.plain_set_update_loop _]
    refine wpAny_bind (W.item i s _ _ (by omega) st ?_)
    intro v s' pv st' mv
    obtain ⟨t, rfl⟩ := val i hi v pv
    refine wpAny_bind (wpAny_holding ?_)
    unfold setAdd
    refine wpAny_holding (wpAny_bind ((PySem.strKind prog w).pyHash (k := xs[i]) (strKind_is _ _ _ _) ?_))
    have held := carry mv hS
    refine wpAny_setAddHashed_of (knd := PySem.strKind prog w) (s := { s' with toks := s'.toks + 1 }) (strKind_is _ _ _ _) rfl held (by omega) ?_
    intro h' but hS2
    rw [has_next nd hi] at hS2
    have grown : h'.SetOf (PySem.strKind prog w) S (fun k => (xs.take (i + 1)).any (· == k)) (i + 1) := by
      refine SetOf_congr hS2 (fun k => ?_) rfl
      rw [List.take_add_one, List.getElem?_eq_getElem hi, List.any_append]
      congr 1
      show decide (k = xs[i]) = ([xs[i]].any (· == k))
      by_cases z : k = xs[i]
      · subst z; simp
      · have : (xs[i] == k) = false := beq_eq_false_iff_ne.mpr fun y => z y.symm
        simp [z, this]
    refine wpAny_pure ⟨plainId_quiet PyProof.Rows.F.plain_set_update_loop _, ih (i + 1) _ (by omega) (W.frame _ s' _ _ st' (Nat.le_succ _) ?_) grown ?_⟩
    · intro b hb o eb
      rw [but.2 b fun z => out (z ▸ hb)]
      exact eb
    · intro s'' mv'' hS''
      refine fin s'' (Moved.trans W.gtrans ((mv.mono wide).then_heap (Nat.le_succ _) ?_) mv'') hS''
      intro b o hb eb
      rw [but.2 b fun z => hb (z ▸ List.mem_cons_self)]
      exact eb
end
section
variable {prog : Program} {w : World} {A : Around} {E : Value → Shared → Prop} {s : Shared}
theorem set_texts {l : Addr} {items : Array Value} {xs : List Str} {Q : Value → Shared → Prop} (hh : A.handled = none) (hl : s.heap.IsList l items) (hi : StrsAre items.toList xs) (nd : xs.Nodup) (few : xs.length + 1 < scanBound)
    (h : ∀ (h' : Heap) (tk : Nat), h'.SetOf (PySem.strKind prog w) s.heap.objs.size (fun k => xs.any (· == k)) xs.length → (∀ b o, b < s.heap.objs.size → s.heap.get? b = some o → h'.get? b = some o) → Q (.ref s.heap.objs.size) { s with heap := h', toks := tk }) :
    wpAny (model prog w) A (call (.type "set") [.ref l]) Q E s := by
  obtain ⟨c, tl, hmro⟩ := PySem.F.called_set.mro
  have q1 := PySem.F.called_set.made
  have q2 := PySem.F.called_set.sub
  have q3 := PySem.F.called_set.notType
  have q4 := PySem.F.called_set.canCreate
  have q5 := PySem.F.typeCall_set_1 (.ref l)
  refine wpAny_call (codeAny_of_tree ?_)
  show wpAny _ _ (callAny (.type "set") _) _ _ _
  refine wpAny_pure ⟨Code.quiet_builtin _ (by decide +kernel), codeAny_builtin PySem.F.entry_type_call ?_⟩
  rw [Around.under_plain (weight_type_call_type "set" [.ref l] []) rfl]
  repeat (any_goals (first | assumption | wp_step))
  refine codeAny_mono (code_set_new_1 (.ref l) (E := E) (Q₁ := fun obj s₁ => ∃ led : Bool, obj = .ref s.heap.objs.size ∧ s₁ = { s with heap := s.heap.push (noText led) }) fun led => ⟨led, rfl, rfl⟩) ?_
  intro r s₁ hr
  match r, hr with
  | .error e, hr => exact hr
  | .ok .next, hr => exact hr.elim
  | .ok .brk, hr => exact hr.elim
  | .ok .cont, hr => exact hr.elim
  | .ok (.ret obj), ⟨led, e1, e2⟩ =>
    subst e1 e2
    have at_ : (s.heap.push (noText led)).get? s.heap.objs.size = some (noText led) := Heap.get?_push_size _ rfl
    have ty : Shared.TypeIs { s with heap := s.heap.push (noText led) } (.ref s.heap.objs.size) "set" := ⟨_, at_, rfl⟩
    have q6 := PySem.F.called_set.init.lookup
    have q7 := PySem.F.called_set.init.bind (.ref s.heap.objs.size)
    repeat (any_goals (first | assumption | wp_step))
    refine codeAny_mono (codeAny_call_builtin (R := wants (fun r s₂ => r = .none ∧ ∃ h' tk, s₂ = { s with heap := h', toks := tk } ∧ h'.SetOf (PySem.strKind prog w) s.heap.objs.size (fun k => xs.any (· == k)) xs.length ∧
        (∀ b o, b < s.heap.objs.size → s.heap.get? b = some o → h'.get? b = some o)) E) PySem.F.called_set.init.plain PySem.F.entry_set_init (check_set_init_1 ty ?_)) ?_
    · obtain ⟨⟨cl, dc, dt, sl⟩, hol, hcl, nl, hdl⟩ := hl
      dsimp only at hcl hdl
      subst hcl hdl
      have below := Heap.lt_size hol
      have hol' : (s.heap.push (noText led)).get? l = some { cls := .type "list", dict := dc, data := .seq items nl, slots := sl } := Heap.get?_push_of_some _ hol
      have hl1 : (s.heap.push (noText led)).IsList l items := ⟨_, hol', rfl, nl, rfl⟩
      have q8 := PySem.F.sub_list_set
      have q9 := PySem.F.sub_list_frozenset
      have q0 : (Value.type "list" == Value.type "dict") = false := by decide
      unfold Builtin.«set.__init__» noKeywords Builtin.Frozenset.updateFrom
      generalize hPI : pyIter = PI
      wp_walk
      subst hPI
      have sz : (s.heap.push (noText led)).objs.size = s.heap.objs.size + 1 := Heap.size_push _ _
      have calm3 : A.in1.in1.in1.handled = none := by simp [hh]
      have apart : l ≠ (s.heap.push (noText led)).objs.size := by rw [sz]; exact Nat.ne_of_lt (Nat.lt_succ_of_lt below)
      have far : s.heap.objs.size ∉ [(s.heap.push (noText led)).objs.size, l] := by
        rw [sz]
        simp only [List.mem_cons, List.not_mem_nil, or_false, not_or]
        exact ⟨Nat.ne_of_lt (Nat.lt_succ_self _), Nat.ne_of_gt below⟩
      have len : xs.length = items.size := by rw [← StrsAre.len_eq hi, Array.length_toList]
      refine wpAny_pyIter_list hl1 (wpAny_bind (wpAny_runValue ?_))
      refine texts_in ((Walks.list calm3 _ l apart items).toS) s.heap.objs.size far len nd (by rw [← len]; exact few) (fun i hlt v hv => ?_) items.size 0 _ (by omega) ⟨⟨_, Heap.get?_push_size _ rfl, rfl, rfl⟩, hl1.push _⟩ ?_ ?_
      · obtain ⟨t, e⟩ := SS.strs_at hi i v (by rw [Array.getElem?_toList]; exact hv)
        refine ⟨t, ?_⟩
        rw [e, List.getD_eq_getElem?_getD, List.getElem?_eq_getElem hlt]
        rfl
      · exact SetOf_congr ((setObjOf_fresh (knd := PySem.strKind prog w) led).setOf (Heap.get?_push_of_some _ at_) (by unfold scanBound; omega)) (fun _ => rfl) rfl
      · rintro ⟨h', g', d', tk', os'⟩ mv hS'
        have eg : g' = s.gens := mv.gens
        have ed : d' = s.drawn := mv.drawn
        have eo : os' = s.os := mv.os
        subst eg ed eo
        refine wpAny_pure (wpAny_pure ⟨rfl, h', tk', rfl, by rw [len]; exact hS', ?_⟩)
        intro b o hb eb
        refine mv.heap b o ?_ (Heap.get?_push_of_some _ (Heap.get?_push_of_some _ eb))
        rw [sz]
        simp only [List.mem_cons, List.not_mem_nil, or_false, not_or]
        exact ⟨Nat.ne_of_lt hb, Nat.ne_of_lt (Nat.lt_succ_of_lt hb)⟩
    · intro r₂ s₂ hr₂
      match r₂, hr₂ with
      | .error e, hr₂ => exact hr₂
      | .ok .next, hr₂ => exact hr₂.elim
      | .ok .brk, hr₂ => exact hr₂.elim
      | .ok .cont, hr₂ => exact hr₂.elim
      | .ok (.ret r), ⟨e1, h', tk, e2, hS', kp⟩ =>
        subst e1 e2
        repeat (any_goals (first | assumption | wp_step))
        exact h _ _ hS' kp
end
section
variable {X : Cx}
/-- len(set(xs)), xs a list of unlike texts -/
theorem pe_lenSetT {a : Expr} {ta : TE} {p p2 q pos : Pos} (hc : X.calm = true) (hg : Gl X "len") (hm : X.mg "len" = none) (hg2 : Gl X "set") (hm2 : X.mg "set" = none) (ha : PE X a ta)
    (na : starEach [a] X.env = (false, eval a X.env) :: starEach [] X.env := by rfl) :
    PE X (.Call (.Name "len" p) [.Call (.Name "set" p2) [a] [] q] [] pos) (fun σ H Q => ta σ H fun x H1 => ∃ (l : Addr) (xs : List Str), x = .ref l ∧ SqL X.K H1 l (xs.map V.str) ∧ xs.Nodup ∧ xs.length ≤ 4000 ∧ Q (.int (xs.length : Int)) H1) := by
  constructor
  intro pins s σ H Q I h
  refine Call_ (ld_blt I hg hm boot_len (PyProof.Rows.callWith_builtin1 (PyProof.Rows.args_cons ?_ rfl) rfl rfl))
  refine Call_ (ld_blt I hg2 hm2 boot_set (PyProof.Rows.callWith_type1 (PyProof.Rows.args_cons (thn (ha.run pins s σ H _ I h) ?_) na) na rfl))
  rintro v s1 ⟨x, H1, I1, r1, l, xs, rfl, hq, nd, few, q1⟩
  cases r1
  refine PyProof.Rows.args_nil ?_
  obtain ⟨its, r, pl, hz⟩ := I1.list hq
  refine set_texts (I1.ok.hd hc) pl.isList (by simpa using strsAre_of r) nd (by unfold scanBound; omega) ?_
  intro h' tk hS kp
  refine PyProof.Rows.args_nil ?_
  obtain ⟨o, es, ep, t, ho, hex, hd, _, _, _, hf, hn⟩ := hS
  have I2 : Inv X pins σ H1 { s1 with heap := h', toks := tk } := I1.kept fun b o e => kp b o (Heap.lt_size e) e
  exact call_len_set ho hex hd hf (by rw [hn]; omega) ⟨.int xs.length, H1, I2.tok _, ⟨_, by rw [hn]⟩, q1⟩
end
end Ov
namespace Ov
open PySem PySem.Spec PyProof.Rows L2
/-! ### things of any kind: None, bools, ints, texts, lists, tuples and empty dicts, of any depth -/
mutual
inductive Dx (K : PySem.W.Frag) (H : Hp) : V → PyData → Prop
  | non : Dx K H .non .none
  | bl (b : Bool) : Dx K H (.bl b) (.bool b)
  | int (i : Int) : Dx K H (.int i) (.int i)
  | str (x : Str) : Dx K H (.str x) (.str x)
  | dct {a : Addr} : H a = some (.dK []) → Dx K H (.ref a) (.dict [])
  | lst {a : Addr} {xs : List V} {ds : List PyData} : SqL K H a xs → DxAll K H xs ds → Dx K H (.ref a) (.list ds)
  | tup {a : Addr} {xs : List V} {ds : List PyData} : SqT K H a xs → DxAll K H xs ds → Dx K H (.ref a) (.tuple ds)
inductive DxAll (K : PySem.W.Frag) (H : Hp) : List V → List PyData → Prop
  | nil : DxAll K H [] []
  | cons {v : V} {vs : List V} {d : PyData} {ds : List PyData} : Dx K H v d → DxAll K H vs ds → DxAll K H (v :: vs) (d :: ds)
end
theorem sqL_same {K : PySem.W.Frag} {H H' : Hp} {a : Addr} {xs : List V} (e : Same H H') (h : SqL K H a xs) : SqL K H' a xs := by
  rcases h with (h | ⟨o, h⟩) | h
  · exact .inl (.inl (e _ _ h))
  · exact .inl (.inr ⟨o, e _ _ h⟩)
  · exact .inr h
mutual
theorem Dx.same {K : PySem.W.Frag} {H H' : Hp} (e : Same H H') : ∀ {v : V} {d : PyData}, Dx K H v d → Dx K H' v d
  | _, _, .non => .non
  | _, _, .bl b => .bl b
  | _, _, .int i => .int i
  | _, _, .str x => .str x
  | _, _, .dct h => .dct (e _ _ h)
  | _, _, .lst h a => .lst (sqL_same e h) (DxAll.same e a)
  | _, _, .tup h a => .tup (e.tup h) (DxAll.same e a)
theorem DxAll.same {K : PySem.W.Frag} {H H' : Hp} (e : Same H H') : ∀ {vs : List V} {ds : List PyData}, DxAll K H vs ds → DxAll K H' vs ds
  | _, _, .nil => .nil
  | _, _, .cons h a => .cons (Dx.same e h) (DxAll.same e a)
end
theorem DxAll.at {K : PySem.W.Frag} {H : Hp} : ∀ {vs : List V} {ds : List PyData}, DxAll K H vs ds → ∀ {i : Nat} {v : V}, vs[i]? = some v → ∃ d, ds[i]? = some d ∧ Dx K H v d
  | _, _, .nil, i, v, e => by simp at e
  | _, _, .cons h a, 0, v, e => by cases e; exact ⟨_, rfl, h⟩
  | _, _, .cons h a, i + 1, v, e => a.at (i := i) e
theorem DxAll.len {K : PySem.W.Frag} {H : Hp} : ∀ {vs : List V} {ds : List PyData}, DxAll K H vs ds → vs.length = ds.length
  | _, _, .nil => rfl
  | _, _, .cons _ a => by rw [List.length_cons, List.length_cons, a.len]
theorem DxAll.app {K : PySem.W.Frag} {H : Hp} : ∀ {vs us : List V} {ds es : List PyData}, DxAll K H vs ds → DxAll K H us es → DxAll K H (vs ++ us) (ds ++ es)
  | _, _, _, _, .nil, b => b
  | _, _, _, _, .cons h a, b => .cons h (a.app b)
theorem dx_ints {K : PySem.W.Frag} {H : Hp} : ∀ ns : List Int, DxAll K H (ns.map V.int) (ns.map PyData.int)
  | [] => .nil
  | n :: ns => .cons (.int n) (dx_ints ns)
/-- the name of a thing's type -/
def tyN : PyData → String
  | .none => "NoneType" | .bool _ => "bool" | .int _ => "int" | .str _ => "str" | .list _ => "list" | .tuple _ => "tuple" | .dict _ => "dict"
theorem Dx.ty {K : PySem.W.Frag} {H : Hp} {v : V} {d : PyData} (h : Dx K H v d) : TyX K H v (.type (tyN d)) := by
  cases h with
  | non => exact .base .non
  | bl b => exact .base (.bl b)
  | int i => exact .base (.int i)
  | str x => exact .base (.str x)
  | dct h => exact .base (.dK h)
  | lst h _ =>
    rcases h with (h | ⟨o, h⟩) | ⟨o, its, n, h, c, _⟩
    · exact .base (.lst h)
    · exact .base (.frz h)
    · exact .kList h c
  | tup h _ =>
    rcases h with (h | ⟨o, h⟩) | ⟨o, its, n, h, c, _⟩
    · exact .base (.tup h)
    · exact .fTuple h
    · exact .kTuple h c
def isT : PyData → Bool | .tuple _ => true | _ => false
def isI : PyData → Bool | .int _ => true | .bool _ => true | _ => false
def isB : PyData → Bool | .bool _ => true | _ => false
def isL : PyData → Bool | .list _ => true | _ => false
def isS : PyData → Bool | .str _ => true | _ => false
theorem kit_t : ∀ d : PyData, kitB (tyN d) "tuple" = some (isT d)
  | .none => (by decide +kernel : kitB "NoneType" "tuple" = some false)
  | .bool _ => (by decide +kernel : kitB "bool" "tuple" = some false)
  | .int _ => (by decide +kernel : kitB "int" "tuple" = some false)
  | .str _ => (by decide +kernel : kitB "str" "tuple" = some false)
  | .list _ => (by decide +kernel : kitB "list" "tuple" = some false)
  | .tuple _ => (by decide +kernel : kitB "tuple" "tuple" = some true)
  | .dict _ => (by decide +kernel : kitB "dict" "tuple" = some false)
theorem kit_i : ∀ d : PyData, kitB (tyN d) "int" = some (isI d)
  | .none => (by decide +kernel : kitB "NoneType" "int" = some false)
  | .bool _ => (by decide +kernel : kitB "bool" "int" = some true)
  | .int _ => (by decide +kernel : kitB "int" "int" = some true)
  | .str _ => (by decide +kernel : kitB "str" "int" = some false)
  | .list _ => (by decide +kernel : kitB "list" "int" = some false)
  | .tuple _ => (by decide +kernel : kitB "tuple" "int" = some false)
  | .dict _ => (by decide +kernel : kitB "dict" "int" = some false)
theorem kit_b : ∀ d : PyData, kitB (tyN d) "bool" = some (isB d)
  | .none => (by decide +kernel : kitB "NoneType" "bool" = some false)
  | .bool _ => (by decide +kernel : kitB "bool" "bool" = some true)
  | .int _ => (by decide +kernel : kitB "int" "bool" = some false)
  | .str _ => (by decide +kernel : kitB "str" "bool" = some false)
  | .list _ => (by decide +kernel : kitB "list" "bool" = some false)
  | .tuple _ => (by decide +kernel : kitB "tuple" "bool" = some false)
  | .dict _ => (by decide +kernel : kitB "dict" "bool" = some false)
theorem kit_l : ∀ d : PyData, kitB (tyN d) "list" = some (isL d)
  | .none => (by decide +kernel : kitB "NoneType" "list" = some false)
  | .bool _ => (by decide +kernel : kitB "bool" "list" = some false)
  | .int _ => (by decide +kernel : kitB "int" "list" = some false)
  | .str _ => (by decide +kernel : kitB "str" "list" = some false)
  | .list _ => (by decide +kernel : kitB "list" "list" = some true)
  | .tuple _ => (by decide +kernel : kitB "tuple" "list" = some false)
  | .dict _ => (by decide +kernel : kitB "dict" "list" = some false)
theorem kit_s : ∀ d : PyData, kitB (tyN d) "str" = some (isS d)
  | .none => (by decide +kernel : kitB "NoneType" "str" = some false)
  | .bool _ => (by decide +kernel : kitB "bool" "str" = some false)
  | .int _ => (by decide +kernel : kitB "int" "str" = some false)
  | .str _ => (by decide +kernel : kitB "str" "str" = some true)
  | .list _ => (by decide +kernel : kitB "list" "str" = some false)
  | .tuple _ => (by decide +kernel : kitB "tuple" "str" = some false)
  | .dict _ => (by decide +kernel : kitB "dict" "str" = some false)
/-! ### what is shown of them -/
mutual
def noList : PyData → Bool
  | .list _ => false
  | .tuple ds => noListAll ds
  | _ => true
def noListAll : List PyData → Bool
  | [] => true
  | d :: ds => noList d && noListAll ds
end
section
variable {X : Cx} {pins : List (Addr × Obj)} {σ : L2.St} {H : Hp} {s : Shared}
mutual
theorem Dx.reads (I : Inv X pins σ H s) : ∀ (d : PyData) (v : V) (u : Value), Dx X.K H v d → RelV v u → ∃ as, Reads s.heap u d as ∧ (noList d = true → sysModules ∉ as)
  | .none, _, _, h, r => by
    cases h
    cases r
    exact ⟨_, Reads.none, fun _ z => nomatch z⟩
  | .bool b, _, _, h, r => by
    cases h
    cases r
    exact ⟨_, Reads.bool b, fun _ z => nomatch z⟩
  | .int i, _, _, h, r => by
    cases h
    obtain ⟨t, rfl⟩ := r
    exact ⟨_, Reads.int i t, fun _ z => nomatch z⟩
  | .str x, _, _, h, r => by
    cases h
    obtain ⟨t, rfl⟩ := r
    exact ⟨_, Reads.str x t, fun _ z => nomatch z⟩
  | .list ds, _, _, h, r => by
    cases h with
    | lst hs ha =>
      cases r
      obtain ⟨its, rv, ⟨o, n, ho, hc, _, hd⟩, _⟩ := I.list hs
      obtain ⟨as, hr, _⟩ := Dx.readsAll I ds _ its ha rv
      exact ⟨_, Reads.list ho hc hd hr, fun z => by simp [noList] at z⟩
  | .tuple ds, _, _, h, r => by
    cases h with
    | tup hs ha =>
      cases r
      obtain ⟨its, rv, ⟨o, ho, hc, n, hd⟩, _⟩ := I.tuple hs
      obtain ⟨as, hr, f⟩ := Dx.readsAll I ds _ its ha rv
      exact ⟨_, Reads.tuple ho hc hd hr, fun z => f (by simpa [noList] using z)⟩
  | .dict kvs, _, _, h, r => by
    cases h with
    | dct hs =>
      cases r
      obtain ⟨_, ns, vs, kv, o, es, ep, ho, hc, hd, hv⟩ := dk_of I.hok hs
      cases kv
      have e0 : es.toList = [] := by
        have z := hv.2.1
        revert z
        generalize es.toList = l
        intro z
        cases z
        rfl
      refine ⟨_, Reads.dict ho hc.1 hd (by rw [e0]; exact .nil) (by rw [e0]; exact .nil), fun _ z => ?_⟩
      rcases List.mem_cons.mp z with z | z
      · rw [← z] at ns
        cases ns
      · cases z
theorem Dx.readsAll (I : Inv X pins σ H s) : ∀ (ds : List PyData) (vs : List V) (us : List Value), DxAll X.K H vs ds → Vals vs us → ∃ as, ReadsAll s.heap us ds as ∧ (noListAll ds = true → sysModules ∉ as)
  | [], _, _, h, r => by
    cases h
    cases r
    exact ⟨_, ReadsAll.nil, fun _ z => nomatch z⟩
  | d :: ds, _, _, h, r => by
    cases h with
    | cons h1 h2 =>
      cases r with
      | cons r1 r2 =>
        obtain ⟨as, q1, f1⟩ := Dx.reads I d _ _ h1 r1
        obtain ⟨bs, q2, f2⟩ := Dx.readsAll I ds _ _ h2 r2
        refine ⟨_, ReadsAll.cons q1 q2, fun z m => ?_⟩
        have z' : noList d = true ∧ noListAll ds = true := by simpa [noListAll] using z
        exact (List.mem_append.mp m).elim (f1 z'.1) (f2 z'.2)
end
end
/-- what can be shown -/
structure Shows (d : PyData) : Prop where
  sh : d.showable = true
  nl : d.hasDict = true → noList d = true
  dep : d.depth ≤ 60
  nd : nodes d ≤ 8000
section
variable {X : Cx} {k : Nat}
theorem call_repr_x (gd : X.A.guards = some []) (room : Room k X.A) : CallR X (.builtin "repr") (fun xs H Q => ∃ v d, xs = [v] ∧ Dx X.K H v d ∧ Shows d ∧ Q (.str d.shown) H) := by
  intro pins s σ H xs us Q I r h
  obtain ⟨v, d, rfl, hd, S, q⟩ := h
  obtain ⟨u, rfl, rx⟩ := vals1 r
  have un := room.un
  have sz := fits_shown S.sh S.nd
  have ref : ∀ a : Addr, u = .ref a → wpAny (model X.prog X.w) X.A (call (.builtin "repr") [u]) (fun u' s' => ∃ v' H', Inv X pins σ H' s' ∧ RelV v' u' ∧ Q v' H') X.xe s := by
    intro a ha
    subst ha
    obtain ⟨as, rd, f⟩ := Dx.reads I d _ _ hd rx
    have dep := S.dep
    refine repr_of_reads' (h₀ := s.heap) rd S.sh (fun z => f (S.nl z)) gd (by omega) (fun _ _ e => e) ?_ sz
    intro h' u tk kp
    exact ⟨.str d.shown, H, I.kept (t' := tk) kp, ⟨u, rfl⟩, q⟩
  cases hd with
  | non =>
    cases (show u = Value.none from rx)
    exact PySem.P.repr_of_none ⟨.str _, H, I.tok _, ⟨_, rfl⟩, q⟩
  | bl b =>
    cases (show u = Value.bool b from rx)
    exact PySem.P.repr_of_bool ⟨.str _, H, I.tok _, ⟨_, rfl⟩, q⟩
  | int i =>
    obtain ⟨t, rfl⟩ := (show ∃ t, u = Value.int i t from rx)
    exact PySem.P.repr_of_int (by simpa [PyData.showable] using S.sh) ⟨.str _, H, I.tok _, ⟨_, rfl⟩, q⟩
  | str x =>
    obtain ⟨t, rfl⟩ := (show ∃ t, u = Value.str x t from rx)
    exact PySem.P.repr_of_str ⟨.str _, H, I.tok _, ⟨_, rfl⟩, q⟩ sz
  | dct h => exact ref _ rx
  | lst h a => exact ref _ rx
  | tup h a => exact ref _ rx
end
end Ov
namespace Ov
open PySem PySem.Spec PyProof.Rows L2
/-! ### exceptions of the program's classes as values: made, read, asked for their class -/
/-- C(e, ..) as a value, C's own __init__ keeping sp -/
def tMkV (C : Addr) (sp : Sp) (ta : TA) : TE := fun σ H Q => ta σ H fun vs H1 => vs.length ≤ 1000 ∧ ∀ a, H1 a = none → sp (.ref a :: vs) (upd H1 a (exo a C none)) (fun v H2 => v = .non ∧ Q (.ref a) H2) (fun _ _ _ => False)
section
variable {X : Cx} {o e : Expr} {es : List Expr} {to te : TE} {ta : TA} {f : Str} {p p' p1 p2 pos : Pos}
theorem pe_oexV {CX : CXT} {x : Str} {C fI : Addr} {k : Nat} {fd : FuncData} {ps : List Str} {sp : Sp} (T : OexC X.K C) (iC : PySem.W.findIn X.K (.ref C) "__init__" = some (some (.ref fI))) (tI : PySem.W.typeIn X.K (.ref fI) = some (.type "function"))
    (F1 : FnOk X.prog X.w X.K X.mg X.base CX k fI fd ps sp) (hr : Room (k + 1) X.A) (hb : Binds X.K fd ps []) (hx : Passes CX X (fun _ _ _ => False)) (hg : Gl X x) (hm : X.mg x = some (.ref C)) (ha : PA X (e :: es) ta)
    (hdb : (x == ("__debug__" : Str)) = false := by decide) (he : starEach (e :: es) X.env = (false, eval e X.env) :: starEach es X.env := by rfl) (hpl : (backTo pos (starEach es X.env)).any (·.1) = false := by rfl) :
    PE X (.Call (.Name x p) (e :: es) [] pos) (tMkV C sp ta) := by
  refine ⟨fun pins s σ H Q I h => ?_⟩
  obtain ⟨nm, q, N, bs, bm, sn, sub, ab, col, dd, k0, k1, k2, k3, k5, hC, hbm⟩ := T.cls
  refine wpAny_Call_Name_kw (ld_glob I hg hm ?_ hdb)
  refine PySem.W.callWith_K (h₀ := X.base) I.ok.mod.kin T.kC (thn (ha.run pos pins s σ H _ I h) fun us s1 ⟨vs, H1, I1, r1, hz, q1⟩ => ⟨I1.kIn, ?_⟩) he hpl
  show wpAny _ _ (call (.ref C) us) _ _ _
  obtain ⟨hp, g, dr, tk, os⟩ := s1
  have hsz : hp.objs.size ≤ hp.objs.size + 1 := Nat.le_succ _
  have hn : H1 (hp.objs.size + 1) = none := I1.hok.fresh hsz
  have hq := q1 (hp.objs.size + 1) hn
  have kk : ∀ b o, hp.get? b = some o → ((hp.push (PySem.W.kdv_tup us)).push (PySem.HandSPX.excO C hp.objs.size)).get? b = some o := fun b o e => Heap.get?_push_of_some _ (Heap.get?_push_of_some _ e)
  have hget : ((hp.push (PySem.W.kdv_tup us)).push (PySem.HandSPX.excO C hp.objs.size)).get? (hp.objs.size + 1) = some (PySem.HandSPX.excO C hp.objs.size) := by heap_get
  have I2 : Inv X pins σ (upd H1 (hp.objs.size + 1) (exo (hp.objs.size + 1) C none)) ⟨(hp.push (PySem.W.kdv_tup us)).push (PySem.HandSPX.excO C hp.objs.size), g, dr, tk, os⟩ :=
    I1.laid (t' := tk) (a := hp.objs.size + 1) (o := exo (hp.objs.size + 1) C none) (h' := (hp.push (PySem.W.kdv_tup us)).push (PySem.HandSPX.excO C hp.objs.size)) kk hsz (exo_ok hget)
  have r2 : Vals (V.ref (hp.objs.size + 1) :: vs) (Value.ref (hp.objs.size + 1) :: us) := .cons rfl r1
  have hl : (Value.ref (hp.objs.size + 1) :: us).length = ps.length := by
    have e := r2.length
    rw [F1.len _ _ _ _ hq] at e
    exact e.symm
  have hus : us.length ≤ sizeLine := by
    rw [← Paired.length r1, sizeLine_eq]
    omega
  have bt := hb _ (Value.ref (hp.objs.size + 1) :: us) I2.kIn (by simpa using hl)
  rw [List.append_nil] at bt
  refine wpAny_call (PySem.HandSPX.call_own F.excBase_ValueError (fun Y => PySem.HandSPX.refsVE_contains Y bm hbm) (I1.kIn _ _ hC) (PySem.W.looks_findIn I1.kIn iC) (fun self => PySem.W.bind_fn I1.kIn self tI) hus
    (codeAny_mono (F1.run _ X.stack _ _ ⟨Value.ref (hp.objs.size + 1) :: us, []⟩ (Value.ref (hp.objs.size + 1) :: us) _ _ (fun _ _ _ => False) (hr.make C us []) (I2.env0.make C us []) bt r2 hq) fun r s' hq' => ?_))
  cases r with
  | error er => exact hx pins σ _ _ er s' I2 hq'
  | ok fl =>
    cases fl with
    | ret u =>
      obtain ⟨v, H', I3, rv, ev, q3⟩ := I2.after hq'
      subst ev
      exact ⟨rv, ⟨V.ref (hp.objs.size + 1), H', I3, rfl, q3⟩⟩
    | next => exact False.elim hq'
    | brk => exact False.elim hq'
    | cont => exact False.elim hq'
/-- C() as a value, no own __init__ -/
theorem pe_exc0V {C : Addr} {bmB : List Value} {B newId initId : String} {x : Str} (F : ExcBaseFacts B newId initId bmB) (q : PySem.W.excIn X.K C bmB newId = true) (gC : X.mg x = some (.ref C)) (kC : PySem.W.keepIn X.K (.ref C) = true) (hg : Gl X x)
    (hdb : (x == ("__debug__" : Str)) = false := by decide) :
    PE X (.Call (.Name x p) [] [] pos) (fun σ H Q => ∀ a, H a = none → Q (.ref a) (upd H a (exo a C none))) := by
  refine ⟨fun pins s σ H Q I h => ?_⟩
  refine wpAny_Call_Name_kw (ld_glob I hg gC ?_ hdb)
  refine PySem.W.callWith_K0 I.kIn kC ?_
  obtain ⟨bm, N, nm, qn, bs, hdct, sn, sub, ab, col, dd, k0, k1, k2, k3, k5, mN, hC, hN, hni, T⟩ := exc_obj I.kIn q
  refine wpAny_call_exc_subT F T hC hN hni (fun h' a hm => ?_) (by show 0 ≤ sizeLine; exact Nat.zero_le _)
  have hn : H a = none := I.hok.gone hm.new
  obtain ⟨t, ht, _, _⟩ := hm.there
  exact ⟨.ref a, upd H a (exo a C none), I.laidN hm.keeps hm.new hn (exo_ok ht), rfl, h a hn⟩
/-- e.f, e an exception that stands in H -/
def tExf (K : PySem.W.Frag) (n : Str) (te : TE) : TE := fun σ H Q => te σ H fun x H1 => ∃ (a C dx : Addr) (fs : List (Str × V)) (v : V), x = .ref a ∧ XfC K C ∧ PySem.W.findIn K (.ref C) n = some none ∧ H1 a = some (exo a C (some dx)) ∧ H1 dx = some (exd dx fs) ∧ fs.lookup n = some v ∧ Q v H1
theorem pe_exf {n : Str} (he : PE X e te) (hb : attributeBase e n X.env (eval e X.env) = eval e X.env := by rfl) : PE X (.Attribute e n pos) (tExf X.K n te) := by
  refine ⟨fun pins s σ H Q I h => ?_⟩
  refine attr_of hb (thn (he.run pins s σ H _ I h) fun u s1 hh => ?_)
  obtain ⟨x, H1, I1, rx, a, C, dx, fs, v, ex, T, hno, ea, ed, l, q⟩ := hh
  subst ex
  obtain rfl : u = Value.ref a := rx
  obtain ⟨t1, ha⟩ := exo_at I1.hok ea
  obtain ⟨mA, hns, hr⟩ := exd_at I1.hok ed
  obtain ⟨od, ho, hl⟩ := lookIn_ns hns
  obtain ⟨u, hu, ru⟩ := RelO.some_of (v := v) (o := mA n) (by rw [← l]; exact hr n)
  have J : PySem.W.InstAt s1.heap a _ C (some od) := ⟨ha, rfl, rfl, ho⟩
  exact HandSPX.exc_get I1.kIn J T.ga T.gg T.exC (PySem.W.findObj_own T.hdC hno rfl (by rw [hl, hu])) (handed_of ru) ⟨v, H1, I1.tok _, ru, q⟩
/-- isinstance(e, c), e an exception that stands in H -/
def rIsX (K : PySem.W.Frag) : List V → Hp → VK → Prop := fun xs H Q => ∃ (a C : Addr) (d : Option Addr) (c : V) (cv : Value) (b : Bool), xs = [.ref a, c] ∧ ExcC K C ∧ H a = some (exo a C d) ∧ (∀ dx, d = some dx → ∃ fs, H dx = some (exd dx fs)) ∧ (∀ u, RelV c u → u = cv) ∧ PySem.W.kitOne K (.ref C) cv = some b ∧ Q (.bl b) H
theorem call_isX : CallR X (.builtin "isinstance") (rIsX X.K) := by
  intro pins s σ H xs us Q I r h
  obtain ⟨a, C, d, c, cv, b, rfl, E, ea, hd, hcv, e, q⟩ := h
  obtain ⟨u1, u2, rfl, r1, r2⟩ := vals2 r
  cases (show u1 = Value.ref a from r1)
  have ec := hcv _ r2
  subst ec
  obtain ⟨t1, ha⟩ := exo_at I.hok ea
  have hc : (PySem.W.clsIn X.K C).isSome = true := by
    obtain ⟨cd, z, _⟩ := PySem.W.any_some E.hd
    rw [z]
    rfl
  cases d with
  | none =>
    have J : PySem.W.InstAt s.heap a _ C none := ⟨ha, rfl, rfl, trivial⟩
    exact PySem.W.kia_one (PySem.W.kitx_exc hc E.hg E.hk E.hs E.ha E.hn E.ht E.hm) I.kIn J e (fun z => nomatch z) fun tk => ⟨.bl b, H, I.tok tk, rfl, q⟩
  | some dx =>
    obtain ⟨fs, ed⟩ := hd dx rfl
    obtain ⟨mA, hns, hr⟩ := exd_at I.hok ed
    obtain ⟨od, ho, hl⟩ := lookIn_ns hns
    have J : PySem.W.InstAt s.heap a _ C (some od) := ⟨ha, rfl, rfl, ho⟩
    exact PySem.W.kia_one (PySem.W.kitx_exc hc E.hg E.hk E.hs E.ha E.hn E.ht E.hm) I.kIn J e (fun z => nomatch z) fun tk => ⟨.bl b, H, I.tok tk, rfl, q⟩
end
end Ov
namespace Ov
open PySem PySem.Spec PyProof.Rows L2
section
variable {X : Cx}
/-- in every block of a comprehension -/
abbrev Blk (X : Cx) (sc : Scope) (R : Cx → Prop) : Prop := ∀ (s : Shared) (H : Hp) (C : Addr) (cl : List (Str × Addr)) (fp : List Addr), R (X.blk s H sc (compEnvC sc cl C X.env) fp)
/-- a local name that is given a new dict by a comprehension on its own row -/
theorem ps_setDc {i : Nat} {y : Str} {py pos ps : Pos} {kx vx tg it : Expr} {ifs : List Expr} {sc : Scope} {own : List (Str × Nat)} {wi : TI} {g : TG} {tt : TT} {tk tv : TE} (hc : X.calm = true) (nd : X.N.Nodup) (hy : X.N[i]? = some y) (loc : X.env.scope.names.lookup y = some .local)
    (sw : swapsWith (.DictComp kx vx [⟨tg, it, ifs, 0⟩] sc pos) (some (.Name y py)) ps.line X.env = pure true) (hi : PI X tg it wi) (ok : BlkOk X.N X.env.scope sc own) (hg : Blk X sc fun Y => PG Y tg g) (ht : Blk X sc fun Y => PTs Y ifs tt)
    (hk : Blk X sc fun Y => PE Y kx tk) (hv : Blk X sc fun Y => PE Y vx tv) (fs : ∀ x, foldedSetIterable it X.env x = pure x := by intro _; rfl) :
    PS X (.Assign [.Name y py] (.DictComp kx vx [⟨tg, it, ifs, 0⟩] sc pos) ps) (tAsg (tDc wi g tt tk tv (own.map (·.2))) (gName i)) := by
  constructor
  intro pins s σ H D I h
  rw [exec_Assign_Name_used _ _ _ _ sw]
  have core := dc_core (pos := pos) (pos' := firstIterPos [⟨tg, it, ifs, 0⟩] pos) (use := some (assign (.Name y py) X.env)) (Qf := fun _ t => SP X pins D .next t) (Q := fun x H1 => gName i x σ H1 D.nx) hc nd I hi ok hg ht hk hv fs h ?key
  · exact wpAny_bind (wpAny_standAt (wpAny_bind (wpAny_bind (thn core fun _ _ z => wpAny_pure (wpAny_pure z)))))
  case key =>
    intro L C t m G J q ns fp
    obtain ⟨p0, p1, _, p3, p4, p5⟩ := fp
    refine wpAny_assign_Name (store_ok2 (v := V.ref L) J nd hy (Or.inl loc) rfl ?_ (Or.inr loc))
    rintro t2 J2 ⟨a, sb, ha⟩
    have away : C ≠ a := ha.elim (fun z => z ▸ p1) (fun z w => p4 y a z w.symm)
    exact ⟨m, ns.sameBut sb away, fun _ sb3 => ⟨_, G, J2.turned (t' := t2.toks) (fun b _ hb e => (sb3.2 b hb).trans e) p0 p1 p3 p4 p5, q⟩⟩
theorem sw_dict {kx vx : Expr} {gs : List Comprehension} {sc : Scope} {pos py : Pos} {y : Str} {l : Nat} {env : Env} (kd : env.scope.kind = .function) (loc : env.scope.names.lookup y = some .local) (row : (py.line == pos.line) = true)
    (no : (sc.names.any fun (n, k) => n == y && (k == .local || k == .cell)) = false) : swapsWith (.DictComp kx vx gs sc pos) (some (.Name y py)) l env = pure true := by
  have h1 : env.blockKind = .function := by rw [Env.blockKind, kd]; rfl
  have h2 : env.kindOf y = some .local := loc
  rw [swapsWith]
  simp only [h1, h2, no, Expr.pos, row]
  rfl
end
end Ov
namespace Ov
open PySem PySem.Spec PyProof.Rows L2
/-! ### tuple * int where nothing new is made, or nothing is left -/
theorem mul_same (l : Addr) (it : Array Value) (n : Nat) (dd : Option Addr) (sl : Array (Option Value)) (x : Int) (u : Tok) (c0 : (decide (x < -(2 ^ 63)) || decide (x ≥ 2 ^ 63)) = false) (c1 : (it.isEmpty || x == 1) = true) :
    Meets (Builtin.«tuple.__mul__» ⟨[.ref l, .int x u], []⟩) (fun _ R s => s.heap.get? l = some { cls := .type "tuple", dict := dd, data := .seq it n, slots := sl } ∧ R (.ok (.ret (Value.ref l))) s) := by
  refine .of_wp fun prog w A R s h => ?_
  rcases s with ⟨hp, g, d, tk, os⟩
  rcases h with ⟨at_, hR⟩
  have ix := AutoSeq1.idx_int
  wp_walk using wpAny_loadPart' at_
  refine wpAny_ite_false (decide_eq_false fun z => by rw [c0] at z; cases z) ?_
  wp_walk using wpAny_loadPart' at_
  exact ⟨_, rfl, hR⟩
theorem mul_none (l : Addr) (it : Array Value) (n : Nat) (dd : Option Addr) (sl : Array (Option Value)) (x : Int) (u : Tok) (c0 : (decide (x < -(2 ^ 63)) || decide (x ≥ 2 ^ 63)) = false) (c1 : (it.isEmpty || x == 1) = false) (c2 : (decide (x ≤ 0) || it.isEmpty) = true) :
    Meets (Builtin.«tuple.__mul__» ⟨[.ref l, .int x u], []⟩) (fun _ R s => s.heap.get? l = some { cls := .type "tuple", dict := dd, data := .seq it n, slots := sl } ∧ R (.ok (.ret (Value.ref s.heap.objs.size))) { s with heap := s.heap.push { cls := Value.type "tuple", data := Data.seq #[] } }) := by
  refine .of_wp fun prog w A R s h => ?_
  rcases s with ⟨hp, g, d, tk, os⟩
  rcases h with ⟨at_, hR⟩
  have ix := AutoSeq1.idx_int
  wp_walk using wpAny_loadPart' at_
  refine wpAny_ite_false (decide_eq_false fun z => by rw [c0] at z; cases z) ?_
  wp_walk using wpAny_loadPart' at_
  exact ⟨_, rfl, hR⟩
/-- tuple * int, 0 to 1000 times -/
def rRepA (K : PySem.W.Frag) : R2 := fun x y H Q => ∃ (l : Addr) (k : Nat) (xs : List V), x = .ref l ∧ y = .int (k : Int) ∧ SqT K H l xs ∧ k ≤ 1000 ∧ xs.length ≤ 1000 ∧ (xs = [] ∨ k = 1 → Q (.ref l) H) ∧ (xs ≠ [] → k ≠ 1 → ∀ p, H p = none → Q (.ref p) (upd H p (.tup (List.replicate k xs).flatten)))
theorem op_repA {X : Cx} : OpR X (binaryOp .Mult) (rRepA X.K) := by
  intro pins s σ H x y v u Q I rx ry h
  have h0 := h
  obtain ⟨l, k, xs, ex, ey, hT, hk, hz, q1, q2⟩ := h
  by_cases big : xs ≠ [] ∧ 2 ≤ k
  · refine op_repT pins s σ H x y v u Q I rx ry ⟨l, (k : Int), xs, ex, ey, hT, big.1, by omega, by omega, hz, fun p np => ?_⟩
    rw [Int.toNat_natCast]
    exact q2 big.1 (by omega) p np
  subst ex ey
  cases rx
  obtain ⟨t, rfl⟩ := ry
  obtain ⟨its, r, ⟨⟨cls, dd, data, sl⟩, ho, hc, n, hd⟩, hs⟩ := I.tuple hT
  dsimp only at hc hd
  subst hc hd
  have le : its.length = xs.length := r.length.symm
  have c0 : (decide ((k : Int) < -(2 ^ 63)) || decide ((k : Int) ≥ 2 ^ 63)) = false := by
    rw [Bool.or_eq_false_iff]
    exact ⟨decide_eq_false (by omega), decide_eq_false (by omega)⟩
  by_cases one : xs = [] ∨ k = 1
  · have c1 : (its.toArray.isEmpty || (k : Int) == 1) = true := by
      rcases one with e | e
      · have : its = [] := List.eq_nil_of_length_eq_zero (by rw [le, e]; rfl)
        rw [this]
        rfl
      · rw [e, Bool.or_eq_true]
        exact .inr rfl
    exact wpAny_binaryOp_repeat_ref (T := "tuple") (U := "int") (by decide) ⟨_, ho, rfl⟩ (fun s' => typeIs_int s' _ t) noFill_tuple_mul F.fills_int_mul F.slot_int_rmul repeat_tuple F.slot_int_index.lookup
      (call_meets F.slot_int_rmul (typeIs_int s _ t) F.entry_int_rmul (F.args_int_rmul_2 _ _) (int_rmul_tuple _ t l its.toArray n dd sl)
        ⟨ho, rfl, ⟨_, ho, rfl⟩, call_meets F.slot_tuple_mul ⟨_, ho, rfl⟩ F.entry_tuple_mul (F.args_tuple_mul_2 _ _) (mul_same l its.toArray n dd sl _ t c0 c1) ⟨ho, .ref l, H, I, rfl, q1 one⟩⟩)
  · have k0 : k = 0 := by
      rcases Nat.lt_or_ge k 2 with z | z
      · have : k ≠ 1 := fun e => one (.inr e)
        omega
      · exact absurd ⟨fun e => one (.inl e), z⟩ big
    subst k0
    have ne : xs ≠ [] := fun e => one (.inl e)
    have c1 : (its.toArray.isEmpty || ((0 : Nat) : Int) == 1) = false := by
      cases its with
      | nil => exact absurd (List.eq_nil_of_length_eq_zero le.symm) ne
      | cons a b => rfl
    have hq := q2 ne (by decide) s.heap.objs.size (I.hok.fresh (Nat.le_refl _))
    refine wpAny_binaryOp_repeat_ref (T := "tuple") (U := "int") (by decide) ⟨_, ho, rfl⟩ (fun s' => typeIs_int s' _ t) noFill_tuple_mul F.fills_int_mul F.slot_int_rmul repeat_tuple F.slot_int_index.lookup
      (call_meets F.slot_int_rmul (typeIs_int s _ t) F.entry_int_rmul (F.args_int_rmul_2 _ _) (int_rmul_tuple _ t l its.toArray n dd sl)
        ⟨ho, rfl, ⟨_, ho, rfl⟩, call_meets F.slot_tuple_mul ⟨_, ho, rfl⟩ F.entry_tuple_mul (F.args_tuple_mul_2 _ _) (mul_none l its.toArray n dd sl _ t c0 c1 rfl) ⟨ho, .ref s.heap.objs.size, _, ?_, rfl, hq⟩⟩)
    exact I.laid (t' := s.toks) (o := .tup []) (fun b ob z => Heap.get?_push_of_some _ z) (Nat.le_refl _) ⟨Nat.zero_le _, [], .nil, IsTup.new _ _⟩
end Ov
namespace Ov
open PySem PySem.Spec PyProof.Rows L2
/-! ### sets of ints made by a comprehension -/
/-- an int that goes into the set at D -/
def PutI (w : World) (D : Addr) (y : V) (H : Hp) (N : Hp → Prop) : Prop := ∃ (c : Int) (S : Int → Bool) (n : Nat), y = .int c ∧ H D = some (SetO w D S n) ∧ n + 1 < scanBound ∧ N (upd H D (SetO w D (fun j => S j || decide (j = c)) (if S c = true then n else n + 1)))
/-- a turn: the item x, the test, the member -/
def TurnI (w : World) (D : Addr) (g : TG) (tt : TT) (te : TE) (σ0 : L2.St) (vs : List Nat) (x : V) (H : Hp) (N : Hp → Prop) : Prop := g x σ0 H fun σ2 H2 => wipe σ2 vs = σ0 ∧ tt σ2 H2 fun b H3 => if b = true then te σ2 H3 fun y H4 => PutI w D y H4 N else N H3
def tScI (w : World) (wi : TI) (g : TG) (tt : TT) (te : TE) (vs : List Nat) : TE := fun σ H Q => wi σ H fun J H1 => ∀ D, H1 D = none → ∃ W : Nat → Nat → Hp → Prop, (∃ m, W 0 m (upd H1 D (SetO w D (fun _ => false) 0))) ∧
  ∀ i m G, W i m G → (J.stop i G ∧ Q (.ref D) G) ∨ (J.go i G ∧ ∃ N : Hp → Prop, (∀ G', N G' → ∃ m', m' < m ∧ W (i + 1) m' G') ∧ ∀ x G', J.yld i G x G' → TurnI w D g tt te (wipe σ vs) vs x G' N)
section
variable {X : Cx}
theorem addI_ok {pins : List (Addr × Obj)} {σ : L2.St} {H : Hp} {s : Shared} {E : Value → Shared → Prop} {D : Addr} {S : Int → Bool} {n : Nat} {y : Int} {u : Value} {Q : Value → Shared → Prop} (I : Inv X pins σ H s) (hD : H D = some (SetO X.w D S n)) (room : n + 1 < scanBound) (ru : RelV (.int y) u)
    (h : ∀ t, Inv X pins σ (upd H D (SetO X.w D (fun j => S j || decide (j = y)) (if S y = true then n else n + 1))) t → Q .none t) : wpAny (model X.prog X.w) X.A (call (.builtin "set.add") [.ref D, u]) Q E s := by
  obtain ⟨tk, rfl⟩ := ru
  refine setR_add (setO_get I hD) room fun g sb nw => h _ ?_
  obtain ⟨o, _, _, _, ho, _⟩ := id nw
  exact I.write (e := D) (t' := s.toks + 1) (by rw [hD]; trivial) (.inl rfl) (fun b _ hb z => (sb.2 b hb).trans z) ⟨o, ho⟩ (setO_new nw)
/-- the object of a new set -/
abbrev set0 (w : World) : Obj := { cls := .type "set", dict := none, data := .set #[] 0 (.fresh 0 0 (!w.params.followText "set-order")) }
theorem pe_scI {el tg it : Expr} {ifs : List Expr} {sc : Scope} {own : List (Str × Nat)} {pos : Pos} {wi : TI} {g : TG} {tt : TT} {te : TE} (hc : X.calm = true) (nd : X.N.Nodup) (hi : PI X tg it wi) (ok : BlkOk X.N X.env.scope sc own)
    (hg : Blk X sc fun Y => PG Y tg g) (ht : Blk X sc fun Y => PTs Y ifs tt) (he : Blk X sc fun Y => PE Y el te) (fs : ∀ x, foldedSetIterable it X.env x = pure x := by intro _; rfl) :
    PE X (.SetComp el [⟨tg, it, ifs, 0⟩] sc pos) (tScI X.w wi g tt te (own.map (·.2))) := by
  constructor
  intro pins s σ H Q I h
  rw [PpSet.eval_SetComp]
  have cells : ∀ y ∈ sc.names, y.2 = .free → ∃ c, X.env.cells.lookup y.1 = some c := fun y hy e => (ok.free y hy e).elim (fun z => I.ok.has _ (Or.inl z)) (fun z => I.ok.has _ (Or.inr z))
  refine wpAny_comprehension_free (use := none) rfl fs (closure_ok cells) ok.kind (fun y hy e => by rw [ok.uniq y hy, e]) (thn (hi.run pins s σ H _ I h) fun _ _ z1 => thn z1 fun _ t2 z2 => ?_)
  obtain ⟨a, fp, tn, J, G2, rfl, I2, T, st2, f2, q⟩ := z2
  refine PpSet.newSet_ok (newEnv_comp ?_)
  obtain ⟨D, eD⟩ : ∃ D, D = t2.heap.objs.size := ⟨_, rfl⟩
  rw [← eD]
  obtain ⟨W, ⟨m0, w0⟩, turn⟩ := q D (I2.hok.fresh (Nat.le_of_eq eD.symm))
  obtain ⟨t3, e3⟩ : ∃ t3 : Shared, t3 = { t2 with heap := t2.heap.push (set0 X.w) } := ⟨_, rfl⟩
  have hp3 : t3.heap = t2.heap.push (set0 X.w) := by rw [e3]
  have I3 : Inv X pins σ (upd G2 D (SetO X.w D (fun _ => false) 0)) t3 := by
    rw [e3]
    refine I2.laid (t' := t2.toks) (fun _ _ z => Heap.get?_push_of_some _ z) (Nat.le_of_eq eD.symm) ?_
    rw [eD]
    exact setO_new (setR_fresh X.w)
  have low : ∀ b ∈ fp, b < t2.heap.objs.size := fun b hb => (T.obj _ _ st2 b hb).elim fun _ z => Heap.lt_size z.1
  have f3 : ∀ b ∈ fp, FpOk X pins (upd G2 D (SetO X.w D (fun _ => false) 0)) b ∧ b < t3.heap.objs.size := fun b hb =>
    ⟨⟨by rw [upd_ne (by rw [eD]; exact Nat.ne_of_lt (low b hb))]; exact (f2 b hb).1, (f2 b hb).2⟩, by rw [hp3, Heap.size_push]; exact Nat.lt_succ_of_lt (low b hb)⟩
  have st3 : tn 0 t3.heap := T.keep _ _ _ st2 fun _ _ _ z => by rw [hp3]; exact Heap.get?_push_of_some _ z
  have I4 := block_start I3 ok nd f3
  generalize hG3 : upd G2 D (SetO X.w D (fun _ => false) 0) = G3 at *
  obtain ⟨C, eC⟩ : ∃ C, C = t3.heap.objs.size := ⟨_, rfl⟩
  obtain ⟨ce, ece⟩ : ∃ ce, ce = compEnvC sc (cellsFrom (t3.heap.objs.size + 1) sc.names (cloFrom X.env.cells sc.names [])) t3.heap.objs.size X.env := ⟨_, rfl⟩
  have pg := hg t3 G3 t3.heap.objs.size (cellsFrom (t3.heap.objs.size + 1) sc.names (cloFrom X.env.cells sc.names [])) fp
  have pt := ht t3 G3 t3.heap.objs.size (cellsFrom (t3.heap.objs.size + 1) sc.names (cloFrom X.env.cells sc.names [])) fp
  have pe := he t3 G3 t3.heap.objs.size (cellsFrom (t3.heap.objs.size + 1) sc.names (cloFrom X.env.cells sc.names [])) fp
  rw [← ece] at pg pt pe I4
  have loc : ce.locals = C := by rw [ece, eC]; rfl
  obtain ⟨t4, e4⟩ : ∃ t4 : Shared, t4 = { t3 with heap := pushCells (t3.heap.push { cls := .type "dict", data := .dict #[] }) sc.names } := ⟨_, rfl⟩
  rw [← e4] at I4
  have st4 : tn 0 t4.heap := T.keep _ _ _ st3 fun _ _ _ z => by rw [e4]; exact pushCells_keeps _ _ _ _ (Heap.get?_push_of_some _ z)
  have nfp : ∀ b ∈ fp, G3 b = none := fun b hb => (f3 b hb).1.1
  have still : ∀ {σ' : L2.St} {G : Hp} {t : Shared}, Inv (X.blk t3 G3 sc ce fp) [] σ' G t → (∀ b ∈ fp, G b = none) → ∀ b ∈ fp, FpOk (X.blk t3 G3 sc ce fp) [] G b := fun {σ' G t} K hn b hb =>
    ⟨hn b hb, (K.ok.exf b hb).1, K.ok.exfs b hb, .inl hb, fun x c z => (K.ok.exf b hb).2 x c z, fun p hp => absurd (show p ∈ ([] : List (Addr × Obj)) ++ [] from hp) (by simp)⟩
  have loop : codeAny (model X.prog X.w) X.A (.compLoop (.SetComp el [⟨tg, it, ifs, 0⟩] sc pos) 0 (.ref a) (.ref D) ce) (compPost (model X.prog X.w) X.A X.xe none (EP X pins σ Q) (.ref D) C) t4 := by
    refine PpSet.compLoopS_any (fun n t => ∃ i G, Inv (X.blk t3 G3 sc ce fp) [] (wipe σ (own.map (·.2))) G t ∧ tn i t.heap ∧ (∀ b ∈ fp, G b = none) ∧ W i n G) ?_ m0 ⟨0, G3, I4, st4, nfp, w0⟩
    rintro n t5 ⟨i, G5, I5, st5, n5, w5⟩
    rcases turn i n G5 w5 with ⟨stop, qq⟩ | ⟨go, N, hN, step⟩
    · refine thnF (T.done (X.blk t3 G3 sc ce fp) rfl rfl rfl hc i [] t5 _ G5 (fun _ _ => False) I5 (still I5 n5) st5 stop) fun r t6 z => ?_
      obtain ⟨rfl, I6⟩ := z
      have I7 : Inv X pins σ G5 t6 := I3.call' (ch := fp) I6.os I6.base I6.hok I6.bare fun b hb => ⟨(f3 b hb).1.2.2.2.1, (f3 b hb).1.2.1, (f3 b hb).1.2.2.2.2.1, (f3 b hb).1.2.2.2.2.2⟩
      have nC : G5 C = none := by rw [← loc]; exact I6.free
      obtain ⟨m, ns, _⟩ := I6.loc
      replace ns : t6.heap.Ns C m := by rw [← loc]; exact ns
      obtain ⟨p0, p1, _, p3, p4, p5⟩ := I3.fpOk (Nat.le_of_eq eC.symm) nC
      exact ⟨m, ns, fun _ sb => ⟨.ref D, G5, I7.turned (t' := t6.toks) (fun b _ hb z => (sb.2 b hb).trans z) p0 p1 p3 p4 p5, rfl, qq⟩⟩
    · refine thnF (T.item (X.blk t3 G3 sc ce fp) rfl rfl rfl hc i [] t5 _ G5 (fun _ _ => False) I5 (still I5 n5) st5 go) fun r t6 z => ?_
      obtain ⟨u, rfl, z⟩ := z
      refine thnF z fun _ t7 ⟨x, G7, I7, r7, y7, st7, n7⟩ => ?_
      refine thnF (pg.run _ t7 _ G7 x u _ (I7.pinned (still I7 n7) (T.obj _ _ st7)) r7 (step x G7 y7)) fun _ t8 ⟨σ8, G8, I8, w8, q8⟩ => ?_
      refine thnF (pt.run _ t8 σ8 G8 _ I8 q8) fun b t9 ⟨G9, I9, q9⟩ => ?_
      have again : ∀ {t : Shared} {G : Hp}, Inv (X.blk t3 G3 sc ce fp) ([] ++ pinsAt fp t7.heap) σ8 G t → N G → ∃ m, m < n ∧ ∃ i G, Inv (X.blk t3 G3 sc ce fp) [] (wipe σ (own.map (·.2))) G t ∧ tn i t.heap ∧ (∀ b ∈ fp, G b = none) ∧ W i m G := fun {t G} K nx => by
        obtain ⟨m', lt, w'⟩ := hN G nx
        have pin : ∀ b ∈ fp, ∀ o, t7.heap.get? b = some o → t.heap.get? b = some o ∧ G b = none := fun b hb o z => by
          have y := K.pin (b, o) (List.mem_append_right _ (List.mem_append_right _ (mem_pinsAt hb z)))
          exact ⟨y.1, y.2.1⟩
        have len : (wipe σ (own.map (·.2))).length = σ8.length := by rw [← w8, wipe_length]
        exact ⟨m', lt, i + 1, G, (K.unpinned (pins := [])).weak len (fun _ _ z => by rw [← w8] at z; exact (wipe_some z).1), T.keep _ _ _ st7 fun b hb o z => (pin b hb o z).1, fun b hb => (T.obj _ _ st7 b hb).elim fun o z => (pin b hb o z.1).2, w'⟩
      cases b with
      | false => exact again I9 q9
      | true =>
        refine thnF (pe.run _ t9 σ8 G9 _ I9 q9) fun v t10 ⟨yv, G10, I10, r10, z⟩ => ?_
        obtain ⟨c, S, k, rfl, hD, room, nx⟩ := z
        exact addI_ok (X := X.blk t3 G3 sc ce fp) I10 hD room r10 fun t11 I11 => again I11 nx
  have start := PpSet.codeAny_compStart_set loop (T.self X.A 0 _ _ _ st4 loop)
  rw [ece, e4, e3] at start
  rw [eC, e3] at start
  exact start
end
end Ov
namespace Ov
open PySem PySem.Spec PyProof.Rows L2
/-! ### set(xs), xs a list of ints -/
section
variable {P : Program} {w : World} {A : Around} {E : Value → Shared → Prop} {s : Shared}
theorem set_of_ints {l : Addr} {its : Array Value} (zs : List Int) {Q : Value → Shared → Prop} (ha : A.handled = none) (hl : s.heap.IsList l its) (hz : IntsAre its.toList zs) (few : zs.length + 1 < scanBound)
    (fin : ∀ (g : Heap) (tk c : Nat), SetR w g s.heap.objs.size (fun j => decide (j ∈ zs)) c → c ≤ zs.length → (∀ b o, s.heap.get? b = some o → g.get? b = some o) → Q (.ref s.heap.objs.size) { s with heap := g, toks := tk }) :
    wpAny (model P w) A (call (.type "set") [.ref l]) Q E s := by
  have n0 : its.size = zs.length := by have z := IntsAre.length hz; rwa [Array.length_toList] at z
  obtain ⟨c0, t0, m0⟩ := PySem.F.called_set.mro
  have m1 := PySem.F.called_set.made; have m2 := PySem.F.called_set.sub
  have m3 := PySem.F.called_set.notType; have m4 := PySem.F.called_set.canCreate
  have m5 := PySem.F.typeCall_set_1 (.ref l)
  refine wpAny_call (codeAny_of_tree ?_); show wpAny _ _ (callAny (.type "set") _) _ _ _
  refine wpAny_pure (And.intro (Code.quiet_builtin _ (by decide +kernel)) (codeAny_builtin PySem.F.entry_type_call ?_)); rewrite [Around.under_plain (weight_type_call_type "set" [Value.ref l] []) rfl]
  repeat any_goals first | assumption | wp_step
  generalize hS0 : s.heap.objs.size = D at *
  have gD : (s.heap.push (set0 w)).get? D = some (set0 w) := by rw [← hS0]; exact Heap.get?_push_size _ rfl
  have tD : Shared.TypeIs { s with heap := s.heap.push (set0 w) } (.ref D) "set" := ⟨_, gD, rfl⟩
  refine codeAny_mono (code_set_led1 (.ref l) (E := E) (Q₁ := fun o s₁ => o = .ref D ∧ s₁ = { s with heap := s.heap.push (set0 w) }) ⟨by rw [hS0], rfl⟩) fun r s₁ hr => ?_
  cases r with
  | error e => exact hr
  | ok fl =>
    cases fl with
    | ret o =>
      obtain ⟨rfl, rfl⟩ := hr
      have i1 := PySem.F.called_set.init.lookup; have i2 := PySem.F.called_set.init.bind (.ref D)
      repeat any_goals first | assumption | wp_step
      refine codeAny_mono (codeAny_call_builtin (R := wants (fun r s₂ => r = .none ∧ ∃ g tk c, s₂ = { s with heap := g, toks := tk } ∧ SetR w g D (fun j => decide (j ∈ zs)) c ∧ c ≤ zs.length ∧ ∀ b o, s.heap.get? b = some o → g.get? b = some o) E) PySem.F.called_set.init.plain PySem.F.entry_set_init (check_set_init_1 tD ?_)) fun r₂ s₂ h₂ => ?_
      · obtain ⟨lo, lg, lc, ln, ld⟩ := hl
        obtain ⟨lcls, ldict, ldata, lslots⟩ := lo
        simp only at lc ld; subst lc; subst ld
        have gl : (s.heap.push (set0 w)).get? l = some { cls := .type "list", dict := ldict, data := .seq its ln, slots := lslots } := Heap.get?_push_of_some _ lg
        have il : (s.heap.push (set0 w)).IsList l its := ⟨_, gl, rfl, ln, rfl⟩
        have x1 := PySem.F.sub_list_set; have x2 := PySem.F.sub_list_frozenset
        have x3 : (Value.type "list" == Value.type "dict") = false := by decide
        unfold Builtin.«set.__init__» noKeywords Builtin.Frozenset.updateFrom; generalize pe : pyIter = it0
        wp_walk
        subst pe; refine wpAny_pyIter_list il (wpAny_bind (wpAny_runValue ?_))
        have l0 : l < D := by rw [← hS0]; exact Heap.lt_size lg
        have sz : (s.heap.push (set0 w)).objs.size = D + 1 := by rw [Heap.size_push, hS0]
        have vals : ∀ (i : Nat) (v : Value), its[i]? = some v → ∃ k t, zs[i]? = some k ∧ v = .int k t := fun i v hv => by
          have lt : i < zs.length := by rw [← n0]; exact (Array.getElem?_eq_some_iff.mp hv).1
          obtain ⟨t, e⟩ := IntsAre.int_at hz i v (by rw [Array.getElem?_toList]; exact hv)
          exact ⟨zs[i], t, List.getElem?_eq_getElem lt, by rw [e, List.getD_eq_getElem?_getD, List.getElem?_eq_getElem lt]; rfl⟩
        refine set_update_ints ((Walks.list (by simp [ha]) _ l (by rw [sz]; exact Nat.ne_of_lt (Nat.lt_succ_of_lt l0)) its).toS) D (by rw [sz]; simp; exact Nat.ne_of_gt l0) zs n0 few vals its.size 0 _ (by omega) (Nat.zero_le _) ⟨⟨_, Heap.get?_push_size _ rfl, rfl, rfl⟩, il.push _⟩ ⟨0, Nat.le_refl 0, setR_new_at (Heap.get?_push_of_some _ gD)⟩ ?_
        rintro ⟨g, g2, d2, tk2, os2⟩ c mv cl hR
        obtain rfl : g2 = s.gens := mv.gens
        obtain rfl : d2 = s.drawn := mv.drawn
        obtain rfl : os2 = s.os := mv.os
        show wpAny _ _ _ _ _ _; refine wpAny_pure ?_; show wpAny _ _ (ret Value.none) _ _ _
        refine wpAny_pure ⟨rfl, g, tk2, c, rfl, hR, by omega, fun b o e => ?_⟩
        have bl : b < D := by rw [← hS0]; exact Heap.lt_size e
        exact mv.heap b o (by rw [sz]; simp; exact ⟨Nat.ne_of_lt bl, Nat.ne_of_lt (Nat.lt_succ_of_lt bl)⟩) (Heap.get?_push_of_some _ (Heap.get?_push_of_some _ e))
      · cases r₂ with
        | error e => exact h₂
        | ok f₂ =>
          cases f₂ with
          | ret r =>
            obtain ⟨rfl, g, tk, c, rfl, z1, z2, z3⟩ := h₂
            repeat any_goals first | assumption | wp_step
            exact fin g tk c z1 z2 z3
          | _ => exact h₂.elim
    | _ => exact hr.elim
end
section
variable {X : Cx}
theorem ints_of {zs : List Int} {us : List Value} (h : Vals (zs.map V.int) us) : IntsAre us zs := by
  induction zs generalizing us with
  | nil => cases h; exact .nil
  | cons z r ih =>
    cases h with
    | cons a b =>
      obtain ⟨t, rfl⟩ := a
      exact .cons z t (ih b)
/-- a new set of the ints of a list; ds are its members -/
def rSetI (K : PySem.W.Frag) (w : World) : List V → Hp → VK → Prop := fun xs H Q => ∃ (l : Addr) (zs : List Int), xs = [V.ref l] ∧ SqL K H l (zs.map V.int) ∧ zs.length < 4000 ∧
  ∀ (a : Addr) (ds : List Int), H a = none → ds.Nodup → (∀ d ∈ ds, d ∈ zs) → Q (.ref a) (upd H a (SetO w a (fun j => decide (j ∈ zs)) ds.length))
theorem cr_setI (hc : X.calm = true) : CallR X (.type "set") (rSetI X.K X.w) := by
  intro pins s σ H xs us Q I r h
  obtain ⟨l, zs, rfl, hl, few, q⟩ := h
  rw [Vals.ref1 r]
  obtain ⟨its, rv, pl, sz⟩ := I.list hl
  have nn : H s.heap.objs.size = none := I.hok.fresh (Nat.le_refl _)
  refine set_of_ints zs (I.ok.hd hc) pl.isList (by simpa using ints_of rv) (by show zs.length + 1 < 4096; omega) fun g tk c R le k => ?_
  obtain ⟨o, es, ep, t, _, _, _, _, z1, z2, _, _, z3, _⟩ := id R
  have len : (es.toList.map keyOf).length = c := by rw [List.length_map, Array.length_toList]; exact z3
  rw [← len] at R
  exact ⟨.ref s.heap.objs.size, _, I.laid (t' := tk) k (Nat.le_refl _) (setO_new R), rfl, q _ _ nn z1 fun d hd => of_decide_eq_true ((z2 d).mpr hd)⟩
/-! ### tuple(range(i, j, c)) -/
def rg3V (i c : Int) (n : Nat) : List V := (List.range n).map fun k => V.int (i + ((k : Nat) : Int) * c)
def tTupRg3 (ta : TA) : TE := fun σ H Q => ta σ H fun vs H1 => ∃ (i j c : Int) (n : Nat), vs = [.int i, .int j, .int c] ∧ RgC i j c n ∧ n ≤ 1000 ∧ ∀ q, H1 q = none → Q (.ref q) (upd H1 q (.tup (rg3V i c n)))
theorem vals_rg3 {i c : Int} {n : Nat} {acc : Array Value} (h : ItemsOf (fun k v => ∃ t, v = .int (i + k * c) t) acc n) : Vals (rg3V i c n) acc.toList := by
  have len : n = acc.toList.length := by rw [Array.length_toList, h.1]
  subst len
  exact vals_of_get acc.toList (fun m => V.int (i + ((m : Nat) : Int) * c)) fun m x hm => by
    obtain ⟨t, ex⟩ := h.2 m x (by rw [← Array.getElem?_toList]; exact hm)
    exact ⟨t, ex⟩
theorem pe_tupRg3 {a b c : Expr} {ta : TA} {p p2 pos pos2 : Pos} (hc : X.calm = true) (hg : Gl X "tuple") (hm : X.mg "tuple" = none) (hgR : Gl X "range") (hmR : X.mg "range" = none) (ha : PA X [a, b, c] ta)
    (na : starEach [.Call (.Name "range" p2) [a, b, c] [] pos2] X.env = (false, eval (.Call (.Name "range" p2) [a, b, c] [] pos2) X.env) :: starEach [] X.env := by rfl)
    (hs : starEach [a, b, c] X.env = (false, eval a X.env) :: starEach [b, c] X.env := by rfl) (hpl : (backTo pos2 (starEach [b, c] X.env)).any (·.1) = false := by rfl) :
    PE X (.Call (.Name "tuple" p) [.Call (.Name "range" p2) [a, b, c] [] pos2] [] pos) (tTupRg3 ta) := by
  refine ⟨fun pins s σ H Q I h => Call_ (ld_blt I hg hm boot_tuple (PyProof.Rows.callWith_type1 (args_cons (Call_ (ld_blt I hgR hmR boot_range (PyProof.Rows.callWith_type1 (thn (ha.run pos2 pins s σ H _ I h) fun us s1 ⟨vs, H1, I1, r1, q1⟩ => ?_) hs hpl))) na) na))⟩
  obtain ⟨lo, up, st, n, rfl, ⟨z0, z1, z2, z3⟩, hn, q⟩ := q1
  obtain _ | ⟨⟨t0, rfl⟩, _ | ⟨⟨t1, rfl⟩, _ | ⟨⟨t2, rfl⟩, _ | _⟩⟩⟩ := r1
  refine call_range_3 z0 (args_nil ?_) (.inl (PyProof.noPylong_small z1))
  have J : Inv X pins σ H1 { s1 with heap := s1.heap.push { cls := .type "range", data := .fields #[.int lo t0, .int up t1, .int st t2] } } := I1.kept (t' := s1.toks) fun _ _ z => Heap.get?_push_of_some _ z
  refine call_tuple_range (n := n) (J.ok.hd hc) (IsRange.new ..) z2 z3 (by omega) fun g tk acc kp its => ?_
  have J3 : Inv X pins σ H1 { s1 with heap := g, toks := tk } := J.kept kp
  have small : (rg3V lo st n).length ≤ sizeLine := by unfold rg3V; rw [List.length_map, List.length_range, sizeLine_eq]; omega
  have new : ObjOk X.prog X.w (upd H1 g.objs.size (.tup (rg3V lo st n))) (g.push { cls := .type "tuple", data := .seq acc }) g.objs.size (.tup (rg3V lo st n)) := ⟨small, acc.toList, vals_rg3 its, (by rw [Array.toArray_toList]; exact IsTup.new _ _)⟩
  exact ⟨.ref g.objs.size, _, J3.laid (t' := tk) (fun _ _ z => Heap.get?_push_of_some _ z) (Nat.le_refl _) new, rfl, q _ (J3.hok.fresh (Nat.le_refl _))⟩
end
end Ov
namespace Ov
open PySem PySem.Spec PyProof.Rows L2 HT
/-! ### every second item -/
def evn {α : Type} : List α → List α
  | [] => []
  | [x] => [x]
  | x :: _ :: r => x :: evn r
theorem evn_sub {α : Type} : ∀ l : List α, (evn l).Sublist l
  | [] => .slnil
  | [x] => List.Sublist.refl _
  | x :: y :: r => ((evn_sub r).cons y).cons₂ x
theorem evn_vals : ∀ (xs : List V) (us : List Value), Vals xs us → Vals (evn xs) (evn us)
  | [], _, .nil => .nil
  | [x], _, .cons a .nil => .cons a .nil
  | x :: y :: r, _, .cons a (.cons _ c) => .cons a (evn_vals r _ c)
theorem evn_pick {α : Type} : ∀ l : List α, ((List.range ((l.length + 1) / 2)).filterMap fun k => l[2 * k]?) = evn l
  | [] => by simp [evn]
  | [x] => by
    rw [show ([x].length + 1) / 2 = 1 by simp, show List.range 1 = [0] from rfl]
    simp [evn]
  | x :: y :: r => by
    have e : ((x :: y :: r).length + 1) / 2 = (r.length + 1) / 2 + 1 := by
      show (r.length + 1 + 1 + 1) / 2 = _
      omega
    rw [e, List.range_succ_eq_map, List.filterMap_cons, List.filterMap_map]
    show x :: _ = x :: evn r
    rw [← evn_pick r]
    congr 1
section
variable {prog : Program} {w : World} {A : Around} {E : Value → Shared → Prop} {s : Shared}
theorem applied_two {sl : Addr} {n : Nat} {tk : Tok} {Q : Int × Int × Nat → Shared → Prop} (hs : s.heap.IsSliceOf sl .none .none (.int 2 tk)) (h : Q (0, 2, (n + 1) / 2) s) :
    wpAny (model prog w) A (Builtin.Slice.sliceApplied (.ref sl) (pure (n : Int))) Q E s := by
  obtain ⟨os, hos, hcs, hds⟩ := id hs
  unfold Builtin.Slice.sliceApplied Builtin.Slice.sliceFields
  refine wpAny_bind (wpAny_bind (wpAny_field hos hds (x := .none) rfl (wpAny_bind (wpAny_field hos hds (x := .none) rfl (wpAny_bind (wpAny_field hos hds (x := .int 2 tk) rfl (wpAny_pure ?_)))))))
  refine wpAny_bind (slicePart_ (.int 2 tk) ?_)
  show wpAny _ _ (if ((2 : Int) == 0) = true then _ else _) _ _ s
  rw [if_neg (by decide)]
  refine wpAny_bind (slicePart_ .none (wpAny_bind (slicePart_ .none (wpAny_bind (wpAny_pure ?_)))))
  show wpAny _ _ (pure ((0 : Int), (2 : Int), Builtin.Slice.slicePlaces 0 (n : Int) 2)) _ _ s
  have e : Builtin.Slice.slicePlaces 0 (n : Int) 2 = (n + 1) / 2 := by
    unfold Builtin.Slice.slicePlaces
    simp only [show (2 : Int) > 0 by decide, if_true]
    split <;> omega
  rw [e]
  exact wpAny_pure h
theorem get_two {t sl : Addr} {items : Array Value} {tk : Tok} {Q : Value → Shared → Prop} (ht : IsTup s.heap t items) (hs : s.heap.IsSliceOf sl .none .none (.int 2 tk))
    (h : Q (.ref s.heap.objs.size) { s with heap := s.heap.push { cls := .type "tuple", data := .seq (evn items.toList).toArray } })
    (hsz : items.size ≤ sizeLine) : wpAny (model prog w) A (getItem (.ref t) (.ref sl)) Q E s := by
  have fits : sizeOk (.seq (evn items.toList).toArray) := by
    show (evn items.toList).toArray.size ≤ sizeLine
    have z := (evn_sub items.toList).length_le
    rw [Array.length_toList] at z
    rw [List.size_toArray]
    exact Nat.le_trans z hsz
  obtain ⟨os, hos, hcs, hds⟩ := id hs
  have hTs : s.TypeIs (.ref sl) "slice" := ⟨os, hos, hcs⟩
  unfold getItem
  try with_reducible refine wpAny_holding ?_
  first | refine wpAny_bind (wpAny_pure ?_) | skip
  refine wpAny_bind (wpAny_sequenceKey ht.typeIs (by decide) ?_)
  refine wpAny_bind (wpAny_callSpecial?_slot (name := Str.ofString "__getitem__") ht.typeIs PyProof.Rows.slot_tuple_getitem
    (wpAny_call_entry PyProof.Rows.slot_tuple_getitem ht.typeIs entry_tuple_getitem ?_ (args_tuple_getitem _ _)))
  show wpAny _ _ (Builtin.Tuple.tupleItemsOf (.ref t) >>= _) _ _ s
  refine wpAny_bind (tupleItemsOf_ ht ?_)
  refine wpAny_bind (wpAny_typeOf hTs ?_)
  rw [if_pos (by decide)]
  refine wpAny_bind (applied_two hs ?_)
  show wpAny _ _ (if ((0 : Int) == 0 && (2 : Int) == 1 && ((items.size + 1) / 2) == items.size) = true then _ else _) _ _ s
  rw [if_neg (by simp)]
  have pick : ((List.range ((items.size + 1) / 2)).filterMap fun (k : Nat) => items[((0 : Int) + (k : Int) * 2).toNat]?) = evn items.toList := by
    rw [← evn_pick items.toList, Array.length_toList]
    congr 1
    funext k
    rw [Array.getElem?_toList]
    congr 1
    omega
  rw [pick]
  first
    | exact wpAny_bind (m := Builtin.Tuple.tupleExact _) (wpAny_newObj_type (wpAny_pure ⟨_, rfl, wpAny_pure h⟩) fits)
    | exact wpAny_bind (m := Builtin.Tuple.tupleExact _) (wpAny_newObj_type (wpAny_bind (wpAny_pure (wpAny_pure ⟨_, rfl, wpAny_pure h⟩))) fits)
    | exact wpAny_bind (wpAny_bind (m := Builtin.Tuple.tupleExact _) (wpAny_newObj_type (wpAny_pure (wpAny_pure ⟨_, rfl, wpAny_pure h⟩)) fits))
    | exact wpAny_bind (wpAny_bind (m := Builtin.Tuple.tupleExact _) (wpAny_newObj_type (wpAny_pure ⟨_, rfl, wpAny_pure h⟩) fits))
end
section
variable {X : Cx} {e : Expr} {te : TE} {p2 pos : Pos}
/-- t[::2] -/
theorem pe_two {jj} {p3 : Pos} (he : PE X e te) : PE X (.Subscript e (.Slice none none (some (.Constant (.int 2) jj p3)) p2) pos) (fun σ H Q => te σ H fun x H1 => ∃ a xs, x = .ref a ∧ SqT X.K H1 a xs ∧ ∀ p, H1 p = none → Q (.ref p) (upd H1 p (.tup (evn xs)))) := by
  refine ⟨fun pins s σ H Q I h => ?_⟩
  refine Subscript_ (thn (he.run pins s σ H _ I h) fun v s1 ⟨x, H1, I1, r1, q1⟩ => ?_)
  refine wpAny_Slice ?_
  rw [evalPart_none]
  refine wpAny_pure (wpAny_pure ?_)
  rw [evalPart_some]
  refine wpAny_Constant_int ?_
  obtain ⟨a, xs, rfl, hx, q⟩ := q1
  cases r1
  have I4 : Inv X pins σ H1 { s1 with heap := s1.heap.push { cls := .type "slice", data := .fields #[.none, .none, .int 2 s1.toks] }, toks := s1.toks + 1 } := I1.kept (t' := s1.toks + 1) fun b ob q => Heap.get?_push_of_some _ q
  obtain ⟨its, r, ht, hz⟩ := I4.tuple hx
  have hlen : its.toArray.size = xs.length := by rw [List.size_toArray]; exact r.length.symm
  refine tail_any (ops := [.ref a, .ref s1.heap.objs.size]) ht.typeIs PyProof.Rows.slot_tuple_getitem.lookup ?_ (by with_unfolding_all rfl)
  refine get_two ht (Heap.IsSliceOf.new ..) ?_ (by rw [hlen]; exact hz)
  refine ⟨.ref _, _, I4.laid (t' := s1.toks + 1) (o := .tup (evn xs)) (fun b ob q => Heap.get?_push_of_some _ q) (Nat.le_refl _) ?_, rfl, q _ (I4.hok.fresh (Nat.le_refl _))⟩
  exact ⟨Nat.le_trans (evn_sub xs).length_le hz, _, evn_vals xs its r, IsTup.new _ _⟩
/-! ### set(t), t a tuple of ints -/
def rSetT (K : PySem.W.Frag) (w : World) : List V → Hp → VK → Prop := fun xs H Q => ∃ (l : Addr) (zs : List Int), xs = [V.ref l] ∧ SqT K H l (zs.map V.int) ∧ zs.length < 4000 ∧
  ∀ (a : Addr) (ds : List Int), H a = none → ds.Nodup → (∀ d ∈ ds, d ∈ zs) → ds.length ≤ zs.length → Q (.ref a) (upd H a (SetO w a (fun j => decide (j ∈ zs)) ds.length))
theorem cr_setT (hc : X.calm = true) : CallR X (.type "set") (rSetT X.K X.w) := by
  intro pins s σ H xs us Q I r h
  obtain ⟨l, zs, rfl, hl, few, q⟩ := h
  rw [Vals.ref1 r]
  obtain ⟨its, rv, pl, sz⟩ := I.tuple hl
  have nn : H s.heap.objs.size = none := I.hok.fresh (Nat.le_refl _)
  refine call_set_tupI zs (I.ok.hd hc) pl (by simpa using ints_of rv) (by show zs.length + 1 < 4096; omega) fun g tk c R le k => ?_
  obtain ⟨o, es, ep, t, _, _, _, _, z1, z2, _, _, z3, _⟩ := id R
  have len : (es.toList.map keyOf).length = c := by rw [List.length_map, Array.length_toList]; exact z3
  rw [← len] at R
  exact ⟨.ref s.heap.objs.size, _, I.laid (t' := tk) k (Nat.le_refl _) (setO_new R), rfl, q _ _ nn z1 (fun d hd => of_decide_eq_true ((z2 d).mpr hd)) (by omega)⟩
end
end Ov
namespace Ov
open PySem PySem.Spec PyProof.Rows L2 HT
/-! ### t[::-1] -/
theorem fmap_congr {α β : Type} {f g : α → Option β} : ∀ {l : List α}, (∀ a ∈ l, f a = g a) → l.filterMap f = l.filterMap g
  | [], _ => rfl
  | a :: l, h => by rw [List.filterMap_cons, List.filterMap_cons, h a List.mem_cons_self, fmap_congr fun b hb => h b (List.mem_cons_of_mem _ hb)]
section
variable {prog : Program} {w : World} {A : Around} {E : Value → Shared → Prop} {s : Shared}
theorem applied_rev {sl : Addr} {n : Nat} {tk : Tok} {Q : Int × Int × Nat → Shared → Prop} (hs : s.heap.IsSliceOf sl .none .none (.int (-1) tk)) (h : Q ((n : Int) - 1, -1, n) s) :
    wpAny (model prog w) A (Builtin.Slice.sliceApplied (.ref sl) (pure (n : Int))) Q E s := by
  obtain ⟨os, hos, hcs, hds⟩ := id hs
  unfold Builtin.Slice.sliceApplied Builtin.Slice.sliceFields
  refine wpAny_bind (wpAny_bind (wpAny_field hos hds (x := .none) rfl (wpAny_bind (wpAny_field hos hds (x := .none) rfl (wpAny_bind (wpAny_field hos hds (x := .int (-1) tk) rfl (wpAny_pure ?_)))))))
  refine wpAny_bind (slicePart_ (.int (-1) tk) ?_)
  show wpAny _ _ (if ((-1 : Int) == 0) = true then _ else _) _ _ s
  rw [if_neg (by decide)]
  refine wpAny_bind (slicePart_ .none (wpAny_bind (slicePart_ .none (wpAny_bind (wpAny_pure ?_)))))
  show wpAny _ _ (pure ((n : Int) - 1, (-1 : Int), Builtin.Slice.slicePlaces ((n : Int) - 1) (-1) (-1))) _ _ s
  have e : Builtin.Slice.slicePlaces ((n : Int) - 1) (-1) (-1) = n := by
    unfold Builtin.Slice.slicePlaces
    simp only [show ¬ ((-1 : Int) > 0) by decide, if_false, show (- -1 : Int) = 1 by decide, Int.ediv_one]
    split <;> omega
  rw [e]
  exact wpAny_pure h
theorem get_rev {t sl : Addr} {items : Array Value} {tk : Tok} {Q : Value → Shared → Prop} (ht : IsTup s.heap t items) (hs : s.heap.IsSliceOf sl .none .none (.int (-1) tk))
    (h : Q (.ref s.heap.objs.size) { s with heap := s.heap.push { cls := .type "tuple", data := .seq items.toList.reverse.toArray } })
    (hsz : items.size ≤ sizeLine) : wpAny (model prog w) A (getItem (.ref t) (.ref sl)) Q E s := by
  have fits : sizeOk (.seq items.toList.reverse.toArray) := by
    show items.toList.reverse.toArray.size ≤ sizeLine
    rw [List.size_toArray, List.length_reverse, Array.length_toList]
    exact hsz
  obtain ⟨os, hos, hcs, hds⟩ := id hs
  have hTs : s.TypeIs (.ref sl) "slice" := ⟨os, hos, hcs⟩
  unfold getItem
  try with_reducible refine wpAny_holding ?_
  first | refine wpAny_bind (wpAny_pure ?_) | skip
  refine wpAny_bind (wpAny_sequenceKey ht.typeIs (by decide) ?_)
  refine wpAny_bind (wpAny_callSpecial?_slot (name := Str.ofString "__getitem__") ht.typeIs PyProof.Rows.slot_tuple_getitem
    (wpAny_call_entry PyProof.Rows.slot_tuple_getitem ht.typeIs entry_tuple_getitem ?_ (args_tuple_getitem _ _)))
  show wpAny _ _ (Builtin.Tuple.tupleItemsOf (.ref t) >>= _) _ _ s
  refine wpAny_bind (tupleItemsOf_ ht ?_)
  refine wpAny_bind (wpAny_typeOf hTs ?_)
  rw [if_pos (by decide)]
  refine wpAny_bind (applied_rev hs ?_)
  show wpAny _ _ (if (((items.size : Int) - 1) == 0 && (-1 : Int) == 1 && items.size == items.size) = true then _ else _) _ _ s
  rw [if_neg (by simp)]
  have pick : ((List.range items.size).filterMap fun (k : Nat) => items[(((items.size : Int) - 1) + (k : Int) * (-1)).toNat]?) = items.toList.reverse := by
    have e : ∀ k ∈ List.range items.size, items[(((items.size : Int) - 1) + (k : Int) * (-1)).toNat]? = items[items.size - 1 - k]? := fun k hk => by
      have := List.mem_range.mp hk
      rw [show (((items.size : Int) - 1) + (k : Int) * (-1)).toNat = items.size - 1 - k by omega]
    rw [fmap_congr e]
    have z : (List.range items.size).filterMap (fun k => items[items.size - 1 - k]?) = ((List.range items.size).map (fun k => items.size - 1 - k)).filterMap (items[·]?) := by rw [List.filterMap_map]; rfl
    rw [z, PySem.W.krv_range, List.filterMap_reverse, PySem.W.krv_all]
  rw [pick]
  first
    | exact wpAny_bind (m := Builtin.Tuple.tupleExact _) (wpAny_newObj_type (wpAny_pure ⟨_, rfl, wpAny_pure h⟩) fits)
    | exact wpAny_bind (m := Builtin.Tuple.tupleExact _) (wpAny_newObj_type (wpAny_bind (wpAny_pure (wpAny_pure ⟨_, rfl, wpAny_pure h⟩))) fits)
    | exact wpAny_bind (wpAny_bind (m := Builtin.Tuple.tupleExact _) (wpAny_newObj_type (wpAny_pure (wpAny_pure ⟨_, rfl, wpAny_pure h⟩)) fits))
    | exact wpAny_bind (wpAny_bind (m := Builtin.Tuple.tupleExact _) (wpAny_newObj_type (wpAny_pure ⟨_, rfl, wpAny_pure h⟩) fits))
end
section
variable {X : Cx} {e e2 : Expr} {te t2 : TE} {p2 pos : Pos}
theorem vals_rev {xs : List V} {us : List Value} (r : Vals xs us) : Vals xs.reverse us.reverse := by
  induction r with
  | nil => exact .nil
  | cons a _ ih => rw [List.reverse_cons, List.reverse_cons]; exact ih.append (.cons a .nil)
theorem pe_rev (he : PE X e te) (h2 : PE X e2 t2) : PE X (.Subscript e (.Slice none none (some e2) p2) pos) (fun σ H Q => te σ H fun x H1 => t2 σ H1 fun y H2 => y = .int (-1) ∧ ∃ a xs, x = .ref a ∧ SqT X.K H2 a xs ∧ ∀ p, H2 p = none → Q (.ref p) (upd H2 p (.tup xs.reverse))) := by
  refine ⟨fun pins s σ H Q I h => ?_⟩
  refine Subscript_ (thn (he.run pins s σ H _ I h) fun v s1 ⟨x, H1, I1, r1, q1⟩ => ?_)
  refine wpAny_Slice ?_
  rw [evalPart_none]
  refine wpAny_pure (wpAny_pure ?_)
  rw [evalPart_some]
  refine thn (h2.run pins s1 σ H1 _ I1 q1) fun u s2 ⟨y, H2, I2, r2, q2⟩ => ?_
  obtain ⟨rfl, a, xs, rfl, hx, q⟩ := q2
  obtain ⟨tk, rfl⟩ := r2
  cases r1
  have I4 : Inv X pins σ H2 { s2 with heap := s2.heap.push { cls := .type "slice", data := .fields #[.none, .none, .int (-1) tk] } } := I2.kept (t' := s2.toks) fun b ob q => Heap.get?_push_of_some _ q
  obtain ⟨its, r, ht, hz⟩ := I4.tuple hx
  have hlen : its.toArray.size = xs.length := by rw [List.size_toArray]; exact r.length.symm
  refine tail_any (ops := [.ref a, .ref s2.heap.objs.size]) ht.typeIs PyProof.Rows.slot_tuple_getitem.lookup ?_ (by with_unfolding_all rfl)
  refine get_rev ht (Heap.IsSliceOf.new ..) ?_ (by rw [hlen]; exact hz)
  refine ⟨.ref _, _, I4.laid (t' := s2.toks) (o := .tup xs.reverse) (fun b ob q => Heap.get?_push_of_some _ q) (Nat.le_refl _) ?_, rfl, q _ (I4.hok.fresh (Nat.le_refl _))⟩
  exact ⟨by rw [List.length_reverse]; exact hz, _, vals_rev r, IsTup.new _ _⟩
end
end Ov
namespace Ov
open PySem PySem.Spec PyProof.Rows L2
/-! ### things of any kind that stand in the heap that is told of, nothing of them in the text's own part -/
mutual
inductive Dz (H : Hp) : V → PyData → Prop
  | non : Dz H .non .none
  | bl (b : Bool) : Dz H (.bl b) (.bool b)
  | int (i : Int) : Dz H (.int i) (.int i)
  | str (x : Str) : Dz H (.str x) (.str x)
  | dct {a : Addr} : H a = some (.dK []) → Dz H (.ref a) (.dict [])
  | lst {a : Addr} {xs : List V} {ds : List PyData} : H a = some (.lst xs) → a ≠ sysModules → DzAll H xs ds → Dz H (.ref a) (.list ds)
  | tup {a : Addr} {xs : List V} {ds : List PyData} : H a = some (.tup xs) → DzAll H xs ds → Dz H (.ref a) (.tuple ds)
inductive DzAll (H : Hp) : List V → List PyData → Prop
  | nil : DzAll H [] []
  | cons {v : V} {vs : List V} {d : PyData} {ds : List PyData} : Dz H v d → DzAll H vs ds → DzAll H (v :: vs) (d :: ds)
end
mutual
theorem Dz.dx {K : PySem.W.Frag} {H : Hp} : ∀ {v : V} {d : PyData}, Dz H v d → Dx K H v d
  | _, _, .non => .non
  | _, _, .bl b => .bl b
  | _, _, .int i => .int i
  | _, _, .str x => .str x
  | _, _, .dct h => .dct h
  | _, _, .lst h _ a => .lst (SqL.of h) (DzAll.dx a)
  | _, _, .tup h a => .tup (SqT.of h) (DzAll.dx a)
theorem DzAll.dx {K : PySem.W.Frag} {H : Hp} : ∀ {vs : List V} {ds : List PyData}, DzAll H vs ds → DxAll K H vs ds
  | _, _, .nil => .nil
  | _, _, .cons h a => .cons (Dz.dx h) (DzAll.dx a)
end
mutual
theorem Dz.same {H H' : Hp} (e : Same H H') : ∀ {v : V} {d : PyData}, Dz H v d → Dz H' v d
  | _, _, .non => .non
  | _, _, .bl b => .bl b
  | _, _, .int i => .int i
  | _, _, .str x => .str x
  | _, _, .dct h => .dct (e _ _ h)
  | _, _, .lst h n a => .lst (e _ _ h) n (DzAll.same e a)
  | _, _, .tup h a => .tup (e _ _ h) (DzAll.same e a)
theorem DzAll.same {H H' : Hp} (e : Same H H') : ∀ {vs : List V} {ds : List PyData}, DzAll H vs ds → DzAll H' vs ds
  | _, _, .nil => .nil
  | _, _, .cons h a => .cons (Dz.same e h) (DzAll.same e a)
end
theorem DzAll.at {H : Hp} : ∀ {vs : List V} {ds : List PyData}, DzAll H vs ds → ∀ {i : Nat} {v : V}, vs[i]? = some v → ∃ d, ds[i]? = some d ∧ Dz H v d
  | _, _, .nil, i, v, e => by simp at e
  | _, _, .cons h a, 0, v, e => by cases e; exact ⟨_, rfl, h⟩
  | _, _, .cons h a, i + 1, v, e => a.at (i := i) e
theorem DzAll.len {H : Hp} : ∀ {vs : List V} {ds : List PyData}, DzAll H vs ds → vs.length = ds.length
  | _, _, .nil => rfl
  | _, _, .cons _ a => by rw [List.length_cons, List.length_cons, a.len]
theorem DzAll.app {H : Hp} : ∀ {vs us : List V} {ds es : List PyData}, DzAll H vs ds → DzAll H us es → DzAll H (vs ++ us) (ds ++ es)
  | _, _, _, _, .nil, b => b
  | _, _, _, _, .cons h a, b => .cons h (a.app b)
theorem DzAll.take {H : Hp} : ∀ {vs : List V} {ds : List PyData} (n : Nat), DzAll H vs ds → DzAll H (vs.take n) (ds.take n)
  | _, _, 0, _ => .nil
  | _, _, n + 1, .nil => .nil
  | _, _, n + 1, .cons h a => .cons h (a.take n)
theorem DzAll.drop {H : Hp} : ∀ {vs : List V} {ds : List PyData} (n : Nat), DzAll H vs ds → DzAll H (vs.drop n) (ds.drop n)
  | _, _, 0, a => a
  | _, _, n + 1, .nil => .nil
  | _, _, n + 1, .cons h a => a.drop n
theorem dz_ints {H : Hp} : ∀ ns : List Int, DzAll H (ns.map V.int) (ns.map PyData.int)
  | [] => .nil
  | n :: ns => .cons (.int n) (dz_ints ns)
section
variable {X : Cx} {pins : List (Addr × Obj)} {σ : L2.St} {H : Hp} {s : Shared}
mutual
theorem Dz.reads (I : Inv X pins σ H s) : ∀ (d : PyData) (v : V) (u : Value), Dz H v d → RelV v u → ∃ as, Reads s.heap u d as ∧ sysModules ∉ as
  | .none, _, _, h, r => by
    cases h
    cases r
    exact ⟨_, Reads.none, fun z => nomatch z⟩
  | .bool b, _, _, h, r => by
    cases h
    cases r
    exact ⟨_, Reads.bool b, fun z => nomatch z⟩
  | .int i, _, _, h, r => by
    cases h
    obtain ⟨t, rfl⟩ := r
    exact ⟨_, Reads.int i t, fun z => nomatch z⟩
  | .str x, _, _, h, r => by
    cases h
    obtain ⟨t, rfl⟩ := r
    exact ⟨_, Reads.str x t, fun z => nomatch z⟩
  | .list ds, _, _, h, r => by
    cases h with
    | @lst a xs _ hs na ha =>
      cases r
      obtain ⟨its, rv, ⟨o, n, ho, hc, _, hd⟩, _⟩ := I.list (SqL.of hs)
      obtain ⟨as, hr, f⟩ := Dz.readsAll I ds _ its ha rv
      refine ⟨_, Reads.list ho hc hd hr, fun z => ?_⟩
      rcases List.mem_cons.mp z with z | z
      · exact na z.symm
      · exact f z
  | .tuple ds, _, _, h, r => by
    cases h with
    | tup hs ha =>
      cases r
      obtain ⟨its, rv, ⟨o, ho, hc, n, hd⟩, _⟩ := I.tuple (SqT.of hs)
      obtain ⟨as, hr, f⟩ := Dz.readsAll I ds _ its ha rv
      exact ⟨_, Reads.tuple ho hc hd hr, f⟩
  | .dict kvs, _, _, h, r => by
    cases h with
    | dct hs =>
      cases r
      obtain ⟨_, ns, vs, kv, o, es, ep, ho, hc, hd, hv⟩ := dk_of I.hok hs
      cases kv
      have e0 : es.toList = [] := by
        have z := hv.2.1
        revert z
        generalize es.toList = l
        intro z
        cases z
        rfl
      refine ⟨_, Reads.dict ho hc.1 hd (by rw [e0]; exact .nil) (by rw [e0]; exact .nil), fun z => ?_⟩
      rcases List.mem_cons.mp z with z | z
      · rw [← z] at ns
        cases ns
      · cases z
theorem Dz.readsAll (I : Inv X pins σ H s) : ∀ (ds : List PyData) (vs : List V) (us : List Value), DzAll H vs ds → Vals vs us → ∃ as, ReadsAll s.heap us ds as ∧ sysModules ∉ as
  | [], _, _, h, r => by
    cases h
    cases r
    exact ⟨_, ReadsAll.nil, fun z => nomatch z⟩
  | d :: ds, _, _, h, r => by
    cases h with
    | cons h1 h2 =>
      cases r with
      | cons r1 r2 =>
        obtain ⟨as, q1, f1⟩ := Dz.reads I d _ _ h1 r1
        obtain ⟨bs, q2, f2⟩ := Dz.readsAll I ds _ _ h2 r2
        exact ⟨_, ReadsAll.cons q1 q2, fun m => (List.mem_append.mp m).elim f1 f2⟩
end
end
section
variable {X : Cx} {pos : Pos} {es : List Expr} {t : TA}
/-- a new list, which stands where no module's table does -/
def tLow (t : TA) : TE := fun σ H Q => t σ H fun xs G => xs.length ≤ sizeLine ∧ ∀ l, G l = none → l ≠ sysModules → Q (.ref l) (upd G l (.lst xs))
theorem pe_low (h : PA X es t) : PE X (.List es pos) (tLow t) := by
  constructor
  intro pins s σ H Q I hq
  refine wpAny_List_spliced (thn (h.run pos pins s σ H _ I hq) ?_)
  rintro us s1 ⟨xs, G, J, r, z, q⟩
  have nl := Nat.ne_of_gt J.big
  have fr : G s1.heap.objs.size = none := J.hok.fresh (Nat.le_refl _)
  have z' : us.length ≤ sizeLine := r.length ▸ z
  have ob : ObjOk X.prog X.w (upd G s1.heap.objs.size (.lst xs)) (s1.heap.push { cls := .type "list", data := .seq us.toArray }) s1.heap.objs.size (.lst xs) := ⟨z, us, 0, r, Heap.get?_push_size _ rfl⟩
  exact ⟨z', .ref s1.heap.objs.size, _, J.laid (t' := s1.toks) (fun b u e => Heap.get?_push_of_some _ e) (Nat.le_refl _) ob, rfl, q _ fr nl⟩
theorem call_listLow : CallR X (.type "list") (fun xs H Q => ∃ p ys, xs = [.ref p] ∧ SqT X.K H p ys ∧ ∀ l, H l = none → l ≠ sysModules → Q (.ref l) (upd H l (.lst ys))) := by
  intro pins s σ H xs us Q I r h
  obtain ⟨p, ys, rfl, hq, q⟩ := h
  obtain ⟨u, rfl, rx⟩ := vals1 r
  cases rx
  have nl := Nat.ne_of_gt I.big
  obtain ⟨its, rr, ⟨o, ho, hc, n, hd⟩, hz⟩ := I.tuple hq
  have el := rr.length
  refine call_list_seq p (.inr rfl) ho hc hd (fun g c kp e => ?_) (by rw [List.size_toArray]; omega)
  exact ⟨.ref s.heap.objs.size, _, I.laid (t' := s.toks) kp (Nat.le_refl _) (show ObjOk X.prog X.w _ g _ (.lst ys) from ⟨hz, its, c, rr, e⟩), rfl, q _ (I.hok.fresh (Nat.le_refl _)) nl⟩
end
/-- what can be shown of such things -/
structure Shz (d : PyData) (n : Nat) : Prop where
  sh : d.showable = true
  dep : d.depth ≤ n
  nd : nodes d ≤ 8000
section
variable {X : Cx} {k : Nat}
theorem call_repr_z (gd : X.A.guards = some []) (room : Room k X.A) : CallR X (.builtin "repr") (fun xs H Q => ∃ v d, xs = [v] ∧ Dz H v d ∧ Shz d 60 ∧ Q (.str d.shown) H) := by
  intro pins s σ H xs us Q I r h
  obtain ⟨v, d, rfl, hd, S, q⟩ := h
  obtain ⟨u, rfl, rx⟩ := vals1 r
  have un := room.un
  have sz := fits_shown S.sh S.nd
  have ref : ∀ a : Addr, u = .ref a → wpAny (model X.prog X.w) X.A (call (.builtin "repr") [u]) (fun u' s' => ∃ v' H', Inv X pins σ H' s' ∧ RelV v' u' ∧ Q v' H') X.xe s := by
    intro a ha
    subst ha
    obtain ⟨as, rd, f⟩ := Dz.reads I d _ _ hd rx
    have dep := S.dep
    refine repr_of_reads' (h₀ := s.heap) rd S.sh (fun _ => f) gd (by omega) (fun _ _ e => e) ?_ sz
    intro h' u tk kp
    exact ⟨.str d.shown, H, I.kept (t' := tk) kp, ⟨u, rfl⟩, q⟩
  cases hd with
  | non =>
    cases (show u = Value.none from rx)
    exact PySem.P.repr_of_none ⟨.str _, H, I.tok _, ⟨_, rfl⟩, q⟩
  | bl b =>
    cases (show u = Value.bool b from rx)
    exact PySem.P.repr_of_bool ⟨.str _, H, I.tok _, ⟨_, rfl⟩, q⟩
  | int i =>
    obtain ⟨t, rfl⟩ := (show ∃ t, u = Value.int i t from rx)
    exact PySem.P.repr_of_int (by simpa [PyData.showable] using S.sh) ⟨.str _, H, I.tok _, ⟨_, rfl⟩, q⟩
  | str x =>
    obtain ⟨t, rfl⟩ := (show ∃ t, u = Value.str x t from rx)
    exact PySem.P.repr_of_str ⟨.str _, H, I.tok _, ⟨_, rfl⟩, q⟩ sz
  | dct h => exact ref _ rx
  | lst h a => exact ref _ rx
  | tup h a => exact ref _ rx
/-! ### a list or a tuple of anything against an empty one -/
def rNoL (K : PySem.W.Frag) (b : Bool) : R2 := fun x y H Q => ∃ p q xs, x = .ref p ∧ y = .ref q ∧ SqL K H p xs ∧ SqL K H q [] ∧ Q (.bl (xs.isEmpty == b)) H
def rNoT (K : PySem.W.Frag) (b : Bool) : R2 := fun x y H Q => ∃ p q xs, x = .ref p ∧ y = .ref q ∧ SqT K H p xs ∧ SqT K H q [] ∧ Q (.bl (xs.isEmpty == b)) H
theorem op_eqNoL (hu : X.A.units + 64 < cLine) : OpR X (compareOp .Eq) (rNoL X.K true) := by
  intro pins s σ H x y v u Q I rx ry h
  obtain ⟨p, q, xs, rfl, rfl, hp, hq, z⟩ := h
  obtain rfl : v = Value.ref p := rx
  obtain rfl : u = Value.ref q := ry
  obtain ⟨its, rv, ⟨o, n, ho, hc, _, hd⟩, _⟩ := I.list hp
  obtain ⟨jts, rw', ⟨o', n', ho', hc', _, hd'⟩, _⟩ := I.list hq
  cases rw'
  have h1 : s.heap.IsList p its.toArray := ⟨o, ho, hc, n, hd⟩
  have h2 : s.heap.IsList q (([] : List Value).toArray) := ⟨o', ho', hc', n', hd'⟩
  cases rv with
  | nil => exact SeqAt.RcAt.lists (e := fun _ => true) h1 h2 rfl (by omega) (fun j j1 j2 => absurd j2 (Nat.not_lt_zero _)) _ _ _ _ ⟨.bl _, H, I, rfl, z⟩
  | cons r1 r2 => exact SeqAt.RcAt.lists_lengths h1 h2 (by simp) (by omega) _ _ _ _ ⟨.bl _, H, I, rfl, z⟩
theorem op_neNoL (hu : X.A.units + 64 < cLine) : OpR X (compareOp .NotEq) (rNoL X.K false) := by
  intro pins s σ H x y v u Q I rx ry h
  obtain ⟨p, q, xs, rfl, rfl, hp, hq, z⟩ := h
  obtain rfl : v = Value.ref p := rx
  obtain rfl : u = Value.ref q := ry
  obtain ⟨its, rv, ⟨o, n, ho, hc, _, hd⟩, _⟩ := I.list hp
  obtain ⟨jts, rw', ⟨o', n', ho', hc', _, hd'⟩, _⟩ := I.list hq
  cases rw'
  have h1 : s.heap.IsList p its.toArray := ⟨o, ho, hc, n, hd⟩
  have h2 : s.heap.IsList q (([] : List Value).toArray) := ⟨o', ho', hc', n', hd'⟩
  cases rv with
  | nil => exact SeqAt.RcNeAt.lists (e := fun _ => true) h1 h2 rfl (by omega) (fun j j1 j2 => absurd j2 (Nat.not_lt_zero _)) _ _ _ _ ⟨.bl _, H, I, rfl, z⟩
  | cons r1 r2 => exact SeqAt.RcNeAt.lists_lengths h1 h2 (by simp) (by omega) _ _ _ _ ⟨.bl _, H, I, rfl, z⟩
theorem op_neNoT (hu : X.A.units + 64 < cLine) : OpR X (compareOp .NotEq) (rNoT X.K false) := by
  intro pins s σ H x y v u Q I rx ry h
  obtain ⟨p, q, xs, rfl, rfl, hp, hq, z⟩ := h
  obtain rfl : v = Value.ref p := rx
  obtain rfl : u = Value.ref q := ry
  obtain ⟨its, rv, h1, _⟩ := I.tuple hp
  obtain ⟨jts, rw', h2, _⟩ := I.tuple hq
  cases rw'
  have w := SeqAt.RcNeAt.tuples (A := X.A) (e := fun _ => true) h1 h2 (by omega) (fun j j1 j2 => absurd j2 (Nat.not_lt_zero _)) X.prog X.w X.xe
  refine w _ ⟨.bl _, H, I, rfl, ?_⟩
  cases rv with
  | nil => exact z
  | cons r1 r2 =>
    simp
    exact z
end
end Ov
/-! zip of three: each a list or a tuple; zip of two of unlike kinds -/
namespace Zq
open PySem PySem.Spec PyProof.Rows L2
open PySem.Sem (wp)
theorem neQ {a b : Nat} (h : a ≠ b) : (a : Addr) ≠ (b : Addr) := h
def SI (k : Bool) (h : Heap) (it l : Addr) (n : Nat) : Prop := match k with
  | true => h.IsTupleIter it l n
  | false => h.IsListIter it l n
def SO (k : Bool) (h : Heap) (l : Addr) (us : Array Value) : Prop := match k with
  | true => h.IsTuple l us
  | false => h.IsList l us
theorem SI.ext {k : Bool} {h h' : Heap} {it l b : Addr} {n : Nat} (x : SI k h it l n) (e : Heap.ExtBut b h h') (ne : it ≠ b) : SI k h' it l n := by
  cases k with
  | true => exact Heap.IsTupleIter.extBut x e ne
  | false => exact Heap.IsListIter.extBut x e ne
theorem SI.to {k : Bool} {h h' : Heap} {it l : Addr} {n : Nat} (x : SI k h it l n) (e : ∀ o, h.get? it = some o → h'.get? it = some o) : SI k h' it l n := by
  cases k with
  | true => exact Heap.IsTupleIter.at x e
  | false => exact Heap.IsListIter.at x e
theorem SI.obj {k : Bool} {h : Heap} {it l : Addr} {n : Nat} (x : SI k h it l n) : ∃ o, h.get? it = some o ∧ o.data = .fields #[.ref l, .int n 0] := by
  cases k with
  | true => obtain ⟨o, e, _, d⟩ := x; exact ⟨o, e, d⟩
  | false => obtain ⟨o, e, _, d⟩ := x; exact ⟨o, e, d⟩
theorem SO.ext {k : Bool} {h h' : Heap} {l b : Addr} {us : Array Value} (x : SO k h l us) (e : Heap.ExtBut b h h') (ne : l ≠ b) : SO k h' l us := by
  cases k with
  | true => exact Heap.IsTuple.extBut x e ne
  | false => exact Heap.IsList.extBut x e ne
theorem SO.push {k : Bool} {h : Heap} {l : Addr} {us : Array Value} (x : SO k h l us) (o : Obj) : SO k (h.push o) l us := by
  cases k with
  | true => exact Heap.IsTuple.push x o
  | false => exact Heap.IsList.push x o
theorem SO.lt {k : Bool} {h : Heap} {l : Addr} {us : Array Value} (x : SO k h l us) : l < h.objs.size := by
  cases k with
  | true => obtain ⟨o, e, _⟩ := x; exact Heap.lt_size e
  | false => obtain ⟨o, e, _⟩ := x; exact Heap.lt_size e
/-- three in a tuple -/
abbrev Tr (h : Heap) (T : Addr) (a b c : Value) : Prop := h.get? T = some { cls := .type "tuple", data := .seq #[a, b, c] }
section
variable {prog : Program} {w : World} {A : Around} {E : Value → Shared → Prop} {s : Shared}
theorem next_item {k : Bool} {it l : Addr} {n : Nat} {us : Array Value} {x : Value} {Q : Value → Shared → Prop} (a : SI k s.heap it l n) (o : SO k s.heap l us) (e : us[n]? = some x)
    (q : ∀ g, SI k g it l (n + 1) → Heap.SameBut it s.heap g → Q x { s with heap := g }) : wpAny (model prog w) A (Builtin.SmallTypes.nextOf (.ref it)) Q E s := by
  cases k with
  | true => exact RZ.nextOf_tuple_item a o e q
  | false => exact wpAny_nextOf_list_item a o e q
theorem next_end {k : Bool} {it l : Addr} {n : Nat} {us : Array Value} {Q : Value → Shared → Prop} (hh : A.handled = none) (a : SI k s.heap it l n) (o : SO k s.heap l us) (e : us[n]? = none)
    (q : ∀ g r, Heap.ExtBut it s.heap g → (∃ o, g.get? r = some o ∧ o.cls = .type "StopIteration") → E (.ref r) { s with heap := g }) : wpAny (model prog w) A (Builtin.SmallTypes.nextOf (.ref it)) Q E s := by
  cases k with
  | true => exact RZ.nextOf_tuple_end hh a o e q
  | false => exact wpAny_nextOf_list_end hh a o e q
theorem upd_tr {T : Addr} {a b c x : Value} {j : Nat} {Q : Unit → Shared → Prop} (hT : Tr s.heap T a b c) (q : ∀ g, g.get? T = some { cls := .type "tuple", data := .seq ((#[a, b, c] : Array Value).setIfInBounds j x) } → Heap.SameBut T s.heap g → Q () { s with heap := g }) :
    wpAny (model prog w) A (updateSeq T (·.setIfInBounds j x)) Q E s := by
  refine wpAny_updateSeq hT rfl (q _ ?_ (Heap.SameBut.update ..))
  rw [Heap.get?_update_self _ hT rfl]; simp [Obj.mapSeq]
/-- where the pieces of a zip of three stand: iterators at I, I + 1, I + 2, their tuple at I + 3, the items' at I + 4, the zip at I + 5 -/
structure Z3 (h : Heap) (I l1 l2 l3 n : Nat) (k1 k2 k3 : Bool) : Prop where
  z : IsZip h (I + 5) (I + 3) (I + 4) .none
  ti : Tr h (I + 3) (.ref I) (.ref (I + 1)) (.ref (I + 2))
  to : ∃ a b c, Tr h (I + 4) a b c
  a1 : SI k1 h I l1 n
  a2 : SI k2 h (I + 1) l2 n
  a3 : SI k3 h (I + 2) l3 n
theorem z3_item {I l1 l2 l3 n : Nat} {k1 k2 k3 : Bool} {xs ys zs : Array Value} {x y v : Value} {Q : Value → Shared → Prop} (Z : Z3 s.heap I l1 l2 l3 n k1 k2 k3) (b1 : l1 < I) (b2 : l2 < I) (b3 : l3 < I)
    (o1 : SO k1 s.heap l1 xs) (o2 : SO k2 s.heap l2 ys) (o3 : SO k3 s.heap l3 zs) (hx : xs[n]? = some x) (hy : ys[n]? = some y) (hv : zs[n]? = some v)
    (hQ : ∀ g, IsZip g (I + 5) (I + 3) (I + 4) (rawInt s.heap.objs.size) → Tr g (I + 3) (.ref I) (.ref (I + 1)) (.ref (I + 2)) → Tr g (I + 4) x y v → SI k1 g I l1 (n + 1) → SI k2 g (I + 1) l2 (n + 1) → SI k3 g (I + 2) l3 (n + 1) → Tr g s.heap.objs.size x y v → g.objs.size = s.heap.objs.size + 1 →
      (∀ c o, c ≠ I → c ≠ I + 1 → c ≠ I + 2 → c ≠ I + 4 → c ≠ I + 5 → s.heap.get? c = some o → g.get? c = some o) → Q (.ref s.heap.objs.size) { s with heap := g }) :
    wpAny (model prog w) A (Builtin.«zip.__next__» ⟨[.ref (I + 5)], []⟩) (fun fin s' => ∃ v, fin = .done (.ret v) ∧ Q v s') E s := by
  obtain ⟨hz, ti, ⟨a, b, c, hto⟩, a1, a2, a3⟩ := Z
  show wpAny _ _ (field (.ref (I + 5)) 2 >>= _) _ _ _
  refine wpAny_bind (wpAny_field hz rfl (x := .bool false) rfl ?_); show wpAny _ _ (field (.ref (I + 5)) 3 >>= _) _ _ _
  refine wpAny_bind (wpAny_field hz rfl (x := .ref (I + 3)) rfl ?_)
  refine wpAny_bind (wpAny_seqItems ti rfl ?_)
  show wpAny _ _ (Builtin.SmallTypes.ownedTupleIsFree (.ref (I + 5)) >>= _) _ _ _
  refine wpAny_bind ?_; unfold Builtin.SmallTypes.ownedTupleIsFree
  refine wpAny_bind (wpAny_field hz rfl (x := .none) rfl (wpAny_pure ?_)); simp only [if_true]
  refine wpAny_bind (wpAny_rule ?_)
  refine wpAny_bind (wpAny_field hz rfl (x := .ref (I + 4)) rfl ?_)
  refine wpAny_bind (wpAny_setField_rec hz (by simp) fun g1 z1 s1 => ?_)
  replace z1 : IsZip g1 (I + 5) (I + 3) (I + 4) .ellipsis := z1
  refine wpAny_bind ?_; simp only [List.zipIdx_cons, List.zipIdx_nil, List.forIn_cons, List.forIn_nil]
  -- the first
  refine wpAny_bind (wpAny_bind (wpAny_onRaise ?_)); show wpAny _ _ (Builtin.SmallTypes.nextOf (.ref I) >>= _) _ _ _
  refine wpAny_bind (next_item (a1.ext s1.extBut (neQ (by omega))) (o1.ext s1.extBut (neQ (by omega))) hx fun g2 c1 s2 => wpAny_pure ?_)
  have t2 : Tr g2 (I + 4) a b c := s2.extBut _ _ (neQ (by omega)) (s1.extBut _ _ (neQ (by omega)) hto)
  refine wpAny_bind (wpAny_seqItems t2 rfl ?_)
  refine wpAny_bind (upd_tr t2 fun g3 t3 s3 => ?_)
  replace t3 : Tr g3 (I + 4) x b c := t3
  refine wpAny_bind (wpAny_letGo (wpAny_pure ?_))
  -- the second
  refine wpAny_bind (wpAny_bind (wpAny_onRaise ?_)); show wpAny _ _ (Builtin.SmallTypes.nextOf (.ref (I + 1)) >>= _) _ _ _
  refine wpAny_bind (next_item (((a2.ext s1.extBut (neQ (by omega))).ext s2.extBut (neQ (by omega))).ext s3.extBut (neQ (by omega))) (((o2.ext s1.extBut (neQ (by omega))).ext s2.extBut (neQ (by omega))).ext s3.extBut (neQ (by omega))) hy fun g4 c2 s4 => wpAny_pure ?_)
  have t4 : Tr g4 (I + 4) x b c := s4.extBut _ _ (neQ (by omega)) t3
  refine wpAny_bind (wpAny_seqItems t4 rfl ?_)
  refine wpAny_bind (upd_tr t4 fun g5 t5 s5 => ?_)
  replace t5 : Tr g5 (I + 4) x y c := t5
  refine wpAny_bind (wpAny_letGo (wpAny_pure ?_))
  -- the third
  refine wpAny_bind (wpAny_bind (wpAny_onRaise ?_)); show wpAny _ _ (Builtin.SmallTypes.nextOf (.ref (I + 2)) >>= _) _ _ _
  refine wpAny_bind (next_item (((((a3.ext s1.extBut (neQ (by omega))).ext s2.extBut (neQ (by omega))).ext s3.extBut (neQ (by omega))).ext s4.extBut (neQ (by omega))).ext s5.extBut (neQ (by omega))) (((((o3.ext s1.extBut (neQ (by omega))).ext s2.extBut (neQ (by omega))).ext s3.extBut (neQ (by omega))).ext s4.extBut (neQ (by omega))).ext s5.extBut (neQ (by omega))) hv fun g6 c3 s6 => wpAny_pure ?_)
  have t6 : Tr g6 (I + 4) x y c := s6.extBut _ _ (neQ (by omega)) t5
  refine wpAny_bind (wpAny_seqItems t6 rfl ?_)
  refine wpAny_bind (upd_tr t6 fun g7 t7 s7 => ?_)
  replace t7 : Tr g7 (I + 4) x y v := t7
  refine wpAny_bind (wpAny_letGo (wpAny_pure (wpAny_pure ?_)))
  refine wpAny_bind (wpAny_seqItems t7 rfl ?_)
  refine wpAny_bind (wpAny_newTuple ?_)
  have sz : g7.objs.size = s.heap.objs.size := by rw [s7.1, s6.1, s5.1, s4.1, s3.1, s2.1, s1.1]
  have k7 : ∀ c o, c ≠ I → c ≠ I + 1 → c ≠ I + 2 → c ≠ I + 4 → c ≠ I + 5 → s.heap.get? c = some o → g7.get? c = some o := fun c o n0 n1 n2 n4 n5 e =>
    s7.extBut _ _ n4 (s6.extBut _ _ n2 (s5.extBut _ _ n4 (s4.extBut _ _ n1 (s3.extBut _ _ n4 (s2.extBut _ _ n0 (s1.extBut _ _ n5 e))))))
  have z7 : IsZip g7 (I + 5) (I + 3) (I + 4) .ellipsis := s7.extBut _ _ (neQ (by omega)) (s6.extBut _ _ (neQ (by omega)) (s5.extBut _ _ (neQ (by omega)) (s4.extBut _ _ (neQ (by omega)) (s3.extBut _ _ (neQ (by omega)) (s2.extBut _ _ (neQ (by omega)) z1)))))
  have ti7 : Tr g7 (I + 3) (.ref I) (.ref (I + 1)) (.ref (I + 2)) := k7 _ _ (neQ (by omega)) (neQ (by omega)) (neQ (by omega)) (neQ (by omega)) (neQ (by omega)) ti
  have c17 : SI k1 g7 I l1 (n + 1) := ((((c1.ext s3.extBut (neQ (by omega))).ext s4.extBut (neQ (by omega))).ext s5.extBut (neQ (by omega))).ext s6.extBut (neQ (by omega))).ext s7.extBut (neQ (by omega))
  have c27 : SI k2 g7 (I + 1) l2 (n + 1) := ((c2.ext s5.extBut (neQ (by omega))).ext s6.extBut (neQ (by omega))).ext s7.extBut (neQ (by omega))
  have c37 : SI k3 g7 (I + 2) l3 (n + 1) := c3.ext s7.extBut (neQ (by omega))
  have lt : I + 5 < g7.objs.size := Heap.lt_size z7
  show wpAny _ _ (Builtin.SmallTypes.ownedTupleHandOut (.ref (I + 5)) (.ref g7.objs.size) >>= _) _ _ _
  refine wpAny_bind ?_; unfold Builtin.SmallTypes.ownedTupleHandOut
  have z8 : IsZip (g7.push { cls := .type "tuple", data := .seq #[x, y, v] }) (I + 5) (I + 3) (I + 4) .ellipsis := Heap.get?_push_of_some _ z7
  refine wpAny_bind (wpAny_setField_rec z8 (by simp) fun g9 z9 s9 => ?_)
  replace z9 : IsZip g9 (I + 5) (I + 3) (I + 4) (rawInt g7.objs.size) := z9
  refine wpAny_setField_rec z9 (by simp) fun g10 z10 s10 => ?_
  replace z10 : IsZip g10 (I + 5) (I + 3) (I + 4) (rawInt g7.objs.size) := z10
  have up : ∀ c o, c ≠ I + 5 → g7.get? c = some o → g10.get? c = some o := fun c o n5 e => s10.extBut _ _ n5 (s9.extBut _ _ n5 (Heap.get?_push_of_some _ e))
  have t10 : Tr g10 g7.objs.size x y v := s10.extBut _ _ (Nat.ne_of_gt lt) (s9.extBut _ _ (Nat.ne_of_gt lt) (Heap.get?_push_size _ rfl))
  have sz10 : g10.objs.size = g7.objs.size + 1 := by rw [s10.1, s9.1, Heap.size_push]
  rw [sz] at z10 t10 sz10
  refine wpAny_pure ⟨_, rfl, ?_⟩; show Q (.ref g7.objs.size) _
  rw [sz]
  exact hQ g10 z10 (up _ _ (neQ (by omega)) ti7) (up _ _ (neQ (by omega)) t7) (c17.to fun o e => up _ o (neQ (by omega)) e) (c27.to fun o e => up _ o (neQ (by omega)) e) (c37.to fun o e => up _ o (neQ (by omega)) e) t10 sz10 fun c o n0 n1 n2 n4 n5 e => up c o n5 (k7 c o n0 n1 n2 n4 n5 e)
theorem z3_end {I l1 l2 l3 n : Nat} {k1 k2 k3 : Bool} {xs : Array Value} {Q : Fin → Shared → Prop} (hh : A.handled = none) (Z : Z3 s.heap I l1 l2 l3 n k1 k2 k3) (b1 : l1 < I)
    (o1 : SO k1 s.heap l1 xs) (hx : xs[n]? = none)
    (hE : ∀ g e, (∀ c o, c ≠ I → c ≠ I + 1 → c ≠ I + 2 → c ≠ I + 4 → c ≠ I + 5 → s.heap.get? c = some o → g.get? c = some o) → (∃ o, g.get? e = some o ∧ o.cls = .type "StopIteration") → E (.ref e) { s with heap := g }) :
    wpAny (model prog w) A (Builtin.«zip.__next__» ⟨[.ref (I + 5)], []⟩) Q E s := by
  obtain ⟨hz, ti, ⟨a, b, c, hto⟩, a1, a2, a3⟩ := Z
  show wpAny _ _ (field (.ref (I + 5)) 2 >>= _) _ _ _
  refine wpAny_bind (wpAny_field hz rfl (x := .bool false) rfl ?_); show wpAny _ _ (field (.ref (I + 5)) 3 >>= _) _ _ _
  refine wpAny_bind (wpAny_field hz rfl (x := .ref (I + 3)) rfl ?_)
  refine wpAny_bind (wpAny_seqItems ti rfl ?_)
  show wpAny _ _ (Builtin.SmallTypes.ownedTupleIsFree (.ref (I + 5)) >>= _) _ _ _
  refine wpAny_bind ?_; unfold Builtin.SmallTypes.ownedTupleIsFree
  refine wpAny_bind (wpAny_field hz rfl (x := .none) rfl (wpAny_pure ?_)); simp only [if_true]
  refine wpAny_bind (wpAny_rule ?_)
  refine wpAny_bind (wpAny_field hz rfl (x := .ref (I + 4)) rfl ?_)
  refine wpAny_bind (wpAny_setField_rec hz (by simp) fun g1 z1 s1 => ?_)
  replace z1 : IsZip g1 (I + 5) (I + 3) (I + 4) .ellipsis := z1
  refine wpAny_bind ?_; simp only [List.zipIdx_cons, List.zipIdx_nil, List.forIn_cons, List.forIn_nil]
  refine wpAny_bind (wpAny_bind (wpAny_onRaise ?_)); show wpAny _ _ (Builtin.SmallTypes.nextOf (.ref I) >>= _) _ _ _
  refine wpAny_bind (next_end hh (a1.ext s1.extBut (neQ (by omega))) (o1.ext s1.extBut (neQ (by omega))) hx fun g2 r s2 he => ?_)
  obtain ⟨oe, hoe, hce⟩ := he
  have z2 : IsZip g2 (I + 5) (I + 3) (I + 4) .ellipsis := s2 _ _ (neQ (by omega)) z1
  have rz : r ≠ I + 5 := fun q => by subst q; rw [z2] at hoe; cases hoe; simp at hce
  refine wpAny_setField_rec z2 (by simp) fun g3 _ s3 => hE g3 r (fun c o n0 _ _ _ n5 e => s3.extBut _ _ n5 (s2 _ _ n0 (s1.extBut _ _ n5 e))) ⟨oe, s3.extBut _ _ rz hoe, hce⟩
theorem next3_item {I l1 l2 l3 n : Nat} {k1 k2 k3 : Bool} {xs ys zs : Array Value} {x y v : Value} {Q : Option Value → Shared → Prop} (Z : Z3 s.heap I l1 l2 l3 n k1 k2 k3) (b1 : l1 < I) (b2 : l2 < I) (b3 : l3 < I)
    (o1 : SO k1 s.heap l1 xs) (o2 : SO k2 s.heap l2 ys) (o3 : SO k3 s.heap l3 zs) (hx : xs[n]? = some x) (hy : ys[n]? = some y) (hv : zs[n]? = some v)
    (hQ : ∀ g, IsZip g (I + 5) (I + 3) (I + 4) (rawInt s.heap.objs.size) → Tr g (I + 3) (.ref I) (.ref (I + 1)) (.ref (I + 2)) → Tr g (I + 4) x y v → SI k1 g I l1 (n + 1) → SI k2 g (I + 1) l2 (n + 1) → SI k3 g (I + 2) l3 (n + 1) → Tr g s.heap.objs.size x y v → g.objs.size = s.heap.objs.size + 1 →
      (∀ c o, c ≠ I → c ≠ I + 1 → c ≠ I + 2 → c ≠ I + 4 → c ≠ I + 5 → s.heap.get? c = some o → g.get? c = some o) → Q (some (.ref s.heap.objs.size)) { s with heap := g }) :
    wpAny (model prog w) A (pyNext (.ref (I + 5))) Q E s := by
  have hT : s.TypeIs (.ref (I + 5)) "zip" := ⟨_, Z.z, rfl⟩
  unfold pyNext
  exact wpAny_bind (wpAny_attempt (wpAny_callSpecial?_slot (name := Str.ofString "__next__") hT F.slot_zip_next (wpAny_call_entry F.slot_zip_next hT F.entry_zip_next
    (z3_item Z b1 b2 b3 o1 o2 o3 hx hy hv fun g a1 a2 a3 a4 a5 a6 a7 a8 a9 => wpAny_pure (hQ g a1 a2 a3 a4 a5 a6 a7 a8 a9)) (F.args_zip_next_1 _))))
theorem next3_end {I l1 l2 l3 n : Nat} {k1 k2 k3 : Bool} {xs : Array Value} {Q : Option Value → Shared → Prop} (hh : A.handled = none) (Z : Z3 s.heap I l1 l2 l3 n k1 k2 k3) (b1 : l1 < I) (o1 : SO k1 s.heap l1 xs) (hx : xs[n]? = none)
    (hQ : ∀ g, (∀ c o, c ≠ I → c ≠ I + 1 → c ≠ I + 2 → c ≠ I + 4 → c ≠ I + 5 → s.heap.get? c = some o → g.get? c = some o) → Q none { s with heap := g }) : wpAny (model prog w) A (pyNext (.ref (I + 5))) Q E s := by
  have hT : s.TypeIs (.ref (I + 5)) "zip" := ⟨_, Z.z, rfl⟩
  unfold pyNext
  refine wpAny_bind (wpAny_attempt (wpAny_callSpecial?_slot (name := Str.ofString "__next__") hT F.slot_zip_next (wpAny_call_entry F.slot_zip_next hT F.entry_zip_next
    (z3_end hh Z b1 o1 hx fun g e k ⟨o, ho, hc⟩ => ?_) (F.args_zip_next_1 _))))
  exact wpAny_bind (wpAny_isInstance (T := "StopIteration") (b := true) ⟨o, ho, hc⟩ isSubtype_stop (wpAny_pure (hQ _ k)))
end
theorem type3 (a b c : Value) : checkTypeCall "zip" ⟨[a, b, c], []⟩ = pure () := by kernel_rfl
theorem new3 (a b c : Value) : checkBuiltinCall "zip.__new__" ⟨[.type "zip", a, b, c], []⟩ = pure () := by kernel_rfl
theorem init4 (a b c d : Value) : argsOk "object.__init__" ⟨[a, b, c, d], []⟩ := by
  unfold argsOk
  rw [signature?_of (id := "object.__init__") (n := ['_', '_', 't', 'i', 'n', 'i', '_', '_']) (o := ['t', 'c', 'e', 'j', 'b', 'o']) (by kernel_rfl) F.owner_object]; kernel_rfl
abbrev P1 (h : Heap) (l1 : Addr) : Heap := h.push { cls := .type "tuple_iterator", data := .fields #[.ref l1, .int 0 0] }
abbrev P2 (h : Heap) (l1 l2 : Addr) : Heap := (P1 h l1).push { cls := .type "tuple_iterator", data := .fields #[.ref l2, .int 0 0] }
abbrev P3 (h : Heap) (l1 l2 l3 : Addr) : Heap := (P2 h l1 l2).push { cls := .type "list_iterator", data := .fields #[.ref l3, .int 0 0] }
abbrev P4 (h : Heap) (l1 l2 l3 : Addr) : Heap := (P3 h l1 l2 l3).push { cls := .type "tuple", data := .seq #[.ref h.objs.size, .ref (P1 h l1).objs.size, .ref (P2 h l1 l2).objs.size] }
abbrev P5 (h : Heap) (l1 l2 l3 : Addr) : Heap := (P4 h l1 l2 l3).push { cls := .type "tuple", data := .seq #[.none, .none, .none] }
abbrev P6 (h : Heap) (l1 l2 l3 : Addr) : Heap := (P5 h l1 l2 l3).push { cls := .type "zip", data := .fields #[.none, .bool false, .bool false, .ref (P3 h l1 l2 l3).objs.size, .ref (P4 h l1 l2 l3).objs.size] }
theorem meets3 (l1 l2 l3 : Addr) (xs ys zs : Array Value) :
    Meets (Builtin.«zip.__new__» ⟨[.type "zip", .ref l1, .ref l2, .ref l3], []⟩) (fun _ R s => s.heap.IsTuple l1 xs ∧ s.heap.IsTuple l2 ys ∧ s.heap.IsList l3 zs ∧ R (.ok (.ret (.ref (P5 s.heap l1 l2 l3).objs.size))) { s with heap := P6 s.heap l1 l2 l3 }) :=
  .of_wp fun prog w A R s h => by
    obtain ⟨hp, g, d, tk, os⟩ := s; obtain ⟨a1, a2, a3, h⟩ := h
    have hsub := sub_zip
    have b1 : Heap.IsTuple (Shared.heap ⟨hp, g, d, tk, os⟩) l1 xs := a1
    have b2 : Heap.IsTuple (Shared.heap ⟨P1 hp l1, g, d, tk, os⟩) l2 ys := Heap.IsTuple.push a2 _
    have b3 : Heap.IsList (Shared.heap ⟨P2 hp l1 l2, g, d, tk, os⟩) l3 zs := Heap.IsList.push (Heap.IsList.push a3 _) _
    wp_walk using wpAny_pyIter_tuple b1, wpAny_pyIter_tuple b2, wpAny_pyIter_list b3
    exact ⟨_, rfl, h⟩
section
variable {prog : Program} {w : World} {A : Around} {E : Value → Shared → Prop} {s : Shared}
theorem call3 {l1 l2 l3 : Addr} {xs ys zs : Array Value} {Q : Value → Shared → Prop} (a1 : s.heap.IsTuple l1 xs) (a2 : s.heap.IsTuple l2 ys) (a3 : s.heap.IsList l3 zs)
    (h : ∀ g, Z3 g s.heap.objs.size l1 l2 l3 0 true true false → g.objs.size = s.heap.objs.size + 6 → (∀ c o, s.heap.get? c = some o → g.get? c = some o) → Q (.ref (s.heap.objs.size + 5)) { s with heap := g }) :
    wpAny (model prog w) A (call (.type "zip") [.ref l1, .ref l2, .ref l3]) Q E s := by
  refine callType_new F.called_zip (by decide) (type3 _ _ _) (new3 _ _ _) (fun obj => init4 obj _ _ _) F.entry_zip_new (meets3 l1 l2 l3 xs ys zs) ⟨a1, a2, a3, ?_⟩
  have z1 : (P1 s.heap l1).objs.size = s.heap.objs.size + 1 := Heap.size_push ..
  have z2 : (P2 s.heap l1 l2).objs.size = s.heap.objs.size + 2 := by rw [Heap.size_push, z1]
  have z3 : (P3 s.heap l1 l2 l3).objs.size = s.heap.objs.size + 3 := by rw [Heap.size_push, z2]
  have z4 : (P4 s.heap l1 l2 l3).objs.size = s.heap.objs.size + 4 := by rw [Heap.size_push, z3]
  have z5 : (P5 s.heap l1 l2 l3).objs.size = s.heap.objs.size + 5 := by rw [Heap.size_push, z4]
  have z6 : (P6 s.heap l1 l2 l3).objs.size = s.heap.objs.size + 6 := by rw [Heap.size_push, z5]
  have g6 : (P6 s.heap l1 l2 l3).get? (P5 s.heap l1 l2 l3).objs.size = some _ := Heap.get?_push_size _ rfl
  have g5 : (P6 s.heap l1 l2 l3).get? (P4 s.heap l1 l2 l3).objs.size = some _ := Heap.get?_push_of_some _ (Heap.get?_push_size _ rfl)
  have g4 : (P6 s.heap l1 l2 l3).get? (P3 s.heap l1 l2 l3).objs.size = some _ := Heap.get?_push_of_some _ (Heap.get?_push_of_some _ (Heap.get?_push_size _ rfl))
  have g3 : (P6 s.heap l1 l2 l3).get? (P2 s.heap l1 l2).objs.size = some _ := Heap.get?_push_of_some _ (Heap.get?_push_of_some _ (Heap.get?_push_of_some _ (Heap.get?_push_size _ rfl)))
  have g2 : (P6 s.heap l1 l2 l3).get? (P1 s.heap l1).objs.size = some _ := Heap.get?_push_of_some _ (Heap.get?_push_of_some _ (Heap.get?_push_of_some _ (Heap.get?_push_of_some _ (Heap.get?_push_size _ rfl))))
  have g1 : (P6 s.heap l1 l2 l3).get? s.heap.objs.size = some _ := Heap.get?_push_of_some _ (Heap.get?_push_of_some _ (Heap.get?_push_of_some _ (Heap.get?_push_of_some _ (Heap.get?_push_of_some _ (Heap.get?_push_size _ rfl)))))
  show _ ∧ _
  rw [z3, z4, z5] at g6
  rw [z1, z2, z3] at g4
  rw [z4] at g5
  rw [z2] at g3
  rw [z1] at g2
  rw [z5]
  exact ⟨⟨_, g6, rfl⟩, h _ ⟨g6, g4, ⟨_, _, _, g5⟩, ⟨_, g1, rfl, rfl⟩, ⟨_, g2, rfl, rfl⟩, ⟨_, g3, rfl, rfl⟩⟩ z6 fun c o x =>
    Heap.get?_push_of_some _ (Heap.get?_push_of_some _ (Heap.get?_push_of_some _ (Heap.get?_push_of_some _ (Heap.get?_push_of_some _ (Heap.get?_push_of_some _ x)))))⟩
end
/-- the tuples at a and b and the list at c as they stand at each turn, the items in new triples -/
def It3 (K : PySem.W.Frag) (a b c : Addr) : It :=
  ⟨fun i H => ∃ (xs ys zs : List V) (x y v : V), SqT K H a xs ∧ SqT K H b ys ∧ SqL K H c zs ∧ xs[i]? = some x ∧ ys[i]? = some y ∧ zs[i]? = some v,
    fun i H u H' => ∃ T x y v, u = .ref T ∧ H T = none ∧ H' = upd H T (.tup [x, y, v]) ∧ (∀ xs, SqT K H a xs → xs[i]? = some x) ∧ (∀ ys, SqT K H b ys → ys[i]? = some y) ∧ ∀ zs, SqL K H c zs → zs[i]? = some v,
    fun i H => ∃ xs : List V, SqT K H a xs ∧ xs.length ≤ i⟩
theorem turn3 {P : Program} {w : World} {K : PySem.W.Frag} {elts : List Expr} {kk : Nat} {tpos : Pos} {a b c I : Nat} (b1 : a < I) (b2 : b < I) (b3 : c < I) :
    Turn P w K (.Tuple elts kk tpos) (It3 K a b c) [I + 5, I + 3, I + 4, I, I + 1, I + 2] (I + 5) (fun i h => Z3 h I a b c i true true false) where
  mem := by simp
  obj := fun i h st q hq => by
    obtain ⟨z, ti, ⟨x, y, v, to⟩, a1, a2, a3⟩ := st
    obtain ⟨o1, e1, d1⟩ := a1.obj
    obtain ⟨o2, e2, d2⟩ := a2.obj
    obtain ⟨o3, e3, d3⟩ := a3.obj
    have e' : q = I + 5 ∨ q = I + 3 ∨ q = I + 4 ∨ q = I ∨ q = I + 1 ∨ q = I + 2 := by simpa using hq
    rcases e' with r | r | r | r | r | r
    · rw [r]; exact ⟨_, z, fun v q => nomatch q⟩
    · rw [r]; exact ⟨_, ti, fun v q => nomatch q⟩
    · rw [r]; exact ⟨_, to, fun v q => nomatch q⟩
    · rw [r]; exact ⟨o1, e1, fun v q => by rw [d1] at q; cases q⟩
    · rw [r]; exact ⟨o2, e2, fun v q => by rw [d2] at q; cases q⟩
    · rw [r]; exact ⟨o3, e3, fun v q => by rw [d3] at q; cases q⟩
  keep := fun i h h' st k => by
    obtain ⟨z, ti, ⟨x, y, v, to⟩, a1, a2, a3⟩ := st
    exact ⟨k (I + 5) (by simp) _ z, k (I + 3) (by simp) _ ti, ⟨x, y, v, k (I + 4) (by simp) _ to⟩, a1.to fun o q => k I (by simp) o q, a2.to fun o q => k (I + 1) (by simp) o q, a3.to fun o q => k (I + 2) (by simp) o q⟩
  item := by
    intro X hP hw hK hc i pins s σ H E I' hf st hg
    subst hP hw hK
    obtain ⟨xs, ys, zs, x, y, v, qx, qy, qz, hx, hy, hv⟩ := hg
    obtain ⟨u1, r1, p1, _⟩ := I'.tuple qx
    obtain ⟨u2, r2, p2, _⟩ := I'.tuple qy
    obtain ⟨u3, r3, p3, _⟩ := I'.list qz
    obtain ⟨w1, hw1, rw1⟩ := r1.get hx
    obtain ⟨w2, hw2, rw2⟩ := r2.get hy
    obtain ⟨w3, hw3, rw3⟩ := r3.get hv
    have hzl : I + 5 < s.heap.objs.size := Heap.lt_size st.z
    refine next3_item st b1 b2 b3 (xs := u1.toArray) (ys := u2.toArray) (zs := u3.toArray) (show SO true s.heap a _ from p1) (show SO true s.heap b _ from p2) (show SO false s.heap c _ from p3.isList) (x := w1) (y := w2) (v := w3) (by simpa using hw1) (by simpa using hw2) (by simpa using hw3) fun g z' ti' to' c1 c2 c3 hT hsz hk => ?_
    refine ⟨_, rfl, wpAny_letOwnedTupleGo_zip (s := { s with heap := g }) z' fun g2 z2 sb => ?_⟩
    have hT2 : g2.get? s.heap.objs.size = some { cls := .type "tuple", data := .seq #[w1, w2, w3] } := (sb.2 _ (Nat.ne_of_gt hzl)).trans hT
    have new : ObjOk X.prog X.w (upd H s.heap.objs.size (.tup [x, y, v])) g2 s.heap.objs.size (.tup [x, y, v]) :=
      ⟨by show 3 ≤ sizeLine; decide, [w1, w2, w3], .cons rw1 (.cons rw2 (.cons rw3 .nil)), ⟨_, hT2, rfl, _, rfl⟩⟩
    have I1 : Inv X pins σ (upd H s.heap.objs.size (.tup [x, y, v])) { s with heap := g2 } :=
      I'.turnedNew (t' := s.toks) (ch := [I + 5, I + 3, I + 4, I, I + 1, I + 2]) (fun c o hb q => (sb.2 c (fun q' => hb (by simp [q']))).trans (hk c o (fun q' => hb (by simp [q'])) (fun q' => hb (by simp [q'])) (fun q' => hb (by simp [q'])) (fun q' => hb (by simp [q'])) (fun q' => hb (by simp [q'])) q)) hf (Nat.le_refl _) new
    refine ⟨.ref s.heap.objs.size, _, I1, rfl, ⟨_, x, y, v, rfl, I'.hok.fresh (Nat.le_refl _), rfl, fun l hl => by rw [I'.tuple_inj hl qx]; exact hx, fun l hl => by rw [I'.tuple_inj hl qy]; exact hy, fun l hl => by rw [I'.list_inj hl qz]; exact hv⟩, ⟨z2, ?_, ⟨w1, w2, w3, ?_⟩, ?_, ?_, ?_⟩, fun q hq => ?_⟩
    · exact (sb.2 _ (neQ (by omega))).trans ti'
    · exact (sb.2 _ (neQ (by omega))).trans to'
    · exact c1.to fun o q => (sb.2 _ (neQ (by omega))).trans q
    · exact c2.to fun o q => (sb.2 _ (neQ (by omega))).trans q
    · exact c3.to fun o q => (sb.2 _ (neQ (by omega))).trans q
    · have e' : q = I + 5 ∨ q = I + 3 ∨ q = I + 4 ∨ q = I ∨ q = I + 1 ∨ q = I + 2 := by simpa using hq
      have lt' : ∀ m : Nat, m ≤ I + 5 → m < s.heap.objs.size := fun m hm => Nat.lt_of_le_of_lt hm hzl
      have hlt : q < s.heap.objs.size := by rcases e' with r | r | r | r | r | r <;> (rw [r]; exact lt' _ (by omega))
      rw [upd_ne (Nat.ne_of_lt hlt)]
      exact (hf q hq).1
  done := by
    intro X hP hw hK hc i pins s σ H E I' hf st hg
    subst hP hw hK
    obtain ⟨xs, qx, hend⟩ := hg
    obtain ⟨u1, r1, p1, _⟩ := I'.tuple qx
    have l1 := r1.length
    exact next3_end (I'.ok.hd hc) st b1 (xs := u1.toArray) (show SO true s.heap a _ from p1) (by simp; omega) fun g hk => ⟨rfl, I'.turnedL (t' := s.toks) (ch := [I + 5, I + 3, I + 4, I, I + 1, I + 2]) (fun c o hb q =>
      hk c o (fun q' => hb (by simp [q'])) (fun q' => hb (by simp [q'])) (fun q' => hb (by simp [q'])) (fun q' => hb (by simp [q'])) (fun q' => hb (by simp [q'])) q) hf⟩
  self := fun A i s Q E st h => wpAny_pyIter_zip st.z h
def iZip3 (K : PySem.W.Frag) (ta : TA) : TI := fun σ H R => ta σ H fun vs H1 => ∃ a b c xs ys zs, vs = [.ref a, .ref b, .ref c] ∧ SqT K H1 a xs ∧ SqT K H1 b ys ∧ SqL K H1 c zs ∧ R (It3 K a b c) H1
theorem pi_zip3 {X : Cx} {e e2 e3 : Expr} {ta : TA} {p pos tpos : Pos} {elts : List Expr} {kk : Nat} (hg : Gl X "zip") (hm : X.mg "zip" = none) (ha : PA X [e, e2, e3] ta)
    (hs : starEach [e, e2, e3] X.env = (false, eval e X.env) :: starEach [e2, e3] X.env := by rfl) (hpl : (backTo pos (starEach [e2, e3] X.env)).any (·.1) = false := by rfl) :
    PI X (.Tuple elts kk tpos) (.Call (.Name "zip" p) [e, e2, e3] [] pos) (iZip3 X.K ta) := by
  refine ⟨fun pins s σ H R I h => ?_⟩
  refine Call_ (ld_blt I hg hm PyProof.Rows.boot_zip (PyProof.Rows.callWith_type1 (thn (ha.run pos pins s σ H _ I h) fun us s1 ⟨vs, H1, I1, r1, q1⟩ => ?_) hs hpl))
  obtain ⟨a, b, c, xs, ys, zs, ex, qx, qy, qz, q⟩ := q1
  subst ex
  cases r1 with
  | cons r rr =>
    cases rr with
    | cons r' rr =>
      cases rr with
      | cons r'' rr =>
        cases rr
        cases r
        cases r'
        cases r''
        have fresh6 : ∀ c, c ∈ [s1.heap.objs.size + 5, s1.heap.objs.size + 3, s1.heap.objs.size + 4, s1.heap.objs.size, s1.heap.objs.size + 1, s1.heap.objs.size + 2] → FpOk X pins H1 c := fun c hcm => by
          have e' : c = s1.heap.objs.size + 5 ∨ c = s1.heap.objs.size + 3 ∨ c = s1.heap.objs.size + 4 ∨ c = s1.heap.objs.size ∨ c = s1.heap.objs.size + 1 ∨ c = s1.heap.objs.size + 2 := by simpa using hcm
          have hle : s1.heap.objs.size ≤ c := by
            rcases e' with z | z | z | z | z | z <;> rw [z]
            · exact Nat.le_add_right _ _
            · exact Nat.le_add_right _ _
            · exact Nat.le_add_right _ _
            · exact Nat.le_refl _
            · exact Nat.le_add_right _ _
            · exact Nat.le_add_right _ _
          exact I1.fpOk hle (I1.hok.fresh hle)
        obtain ⟨u1, v1, p1, _⟩ := I1.tuple qx
        obtain ⟨u2, v2, p2, _⟩ := I1.tuple qy
        obtain ⟨u3, v3, p3, _⟩ := I1.list qz
        obtain ⟨o1, ho1, _⟩ := id p1
        obtain ⟨o2, ho2, _⟩ := id p2
        refine call3 (show s1.heap.IsTuple a u1.toArray from p1) (show s1.heap.IsTuple b u2.toArray from p2) p3.isList fun g Z hsz hk => wpAny_pyIter_zip Z.z ?_
        have I2 : Inv X pins σ H1 { s1 with heap := g } := I1.kept (t' := s1.toks) hk
        exact ⟨s1.heap.objs.size + 5, [s1.heap.objs.size + 5, s1.heap.objs.size + 3, s1.heap.objs.size + 4, s1.heap.objs.size, s1.heap.objs.size + 1, s1.heap.objs.size + 2], _, _, H1, rfl, I2, turn3 (Heap.lt_size ho1) (Heap.lt_size ho2) p3.lt, Z, fresh6, q⟩
/-- three abreast -/
theorem walk_zip3 {K : PySem.W.Frag} {a b c : Addr} {xs ys zs : List V} (l1 : xs.length = ys.length) (l2 : xs.length = zs.length) : Walk (It3 K a b c) xs.length (fun H => SqT K H a xs ∧ SqT K H b ys ∧ SqL K H c zs)
    (fun i H u H' => ∃ T x y v, u = .ref T ∧ H T = none ∧ H' = upd H T (.tup [x, y, v]) ∧ xs[i]? = some x ∧ ys[i]? = some y ∧ zs[i]? = some v) := by
  refine ⟨fun i _ hi q => ?_, fun _ q => ⟨xs, q.1, Nat.le_refl _⟩, fun i H u H' _ q y => ?_⟩
  · have h2 : i < ys.length := by omega
    have h3 : i < zs.length := by omega
    exact ⟨xs, ys, zs, xs[i], ys[i], zs[i], q.1, q.2.1, q.2.2, by simp [hi], by simp [h2], by simp [h3]⟩
  · obtain ⟨T, x, y, v, h1, h2, h3, h4, h5, h6⟩ := y
    exact ⟨T, x, y, v, h1, h2, h3, h4 xs q.1, h5 ys q.2.1, h6 zs q.2.2⟩
end Zq
/-! zip of two of any kinds (tuple, list); list(zip(..)) -/
namespace Zq
open PySem PySem.Spec PyProof.Rows L2
open PySem.Sem (wp)
/-- where the pieces of a zip of two stand: iterators at I, I + 1, their tuple at I + 2, the items' at I + 3, the zip at I + 4 -/
structure Z2 (h : Heap) (I l1 l2 n : Nat) (k1 k2 : Bool) : Prop where
  ti : IsPair h (I + 2) (.ref I) (.ref (I + 1))
  a1 : SI k1 h I l1 n
  a2 : SI k2 h (I + 1) l2 n
def Free2 (h : Heap) (I : Nat) : Prop := IsZip h (I + 4) (I + 2) (I + 3) .none ∧ ∃ a b, IsPair h (I + 3) a b
def Out2 (h : Heap) (I T : Nat) : Prop := ∃ f oT, IsZipHeld h (I + 4) (I + 2) (I + 3) T f ∧ h.get? T = some oT ∧ I + 4 < T
section
variable {prog : Program} {w : World} {A : Around} {E : Value → Shared → Prop} {s : Shared} {I l1 l2 n : Nat} {k1 k2 : Bool} {xs ys : Array Value}
theorem z2_item {x y : Value} {Q : Value → Shared → Prop} (Z : Z2 s.heap I l1 l2 n k1 k2) (F : Free2 s.heap I) (b1 : l1 < I) (b2 : l2 < I)
    (o1 : SO k1 s.heap l1 xs) (o2 : SO k2 s.heap l2 ys) (hx : xs[n]? = some x) (hy : ys[n]? = some y)
    (hQ : ∀ g, Z2 g I l1 l2 (n + 1) k1 k2 → IsZip g (I + 4) (I + 2) (I + 3) (rawInt s.heap.objs.size) → IsPair g (I + 3) x y → IsPair g s.heap.objs.size x y → g.objs.size = s.heap.objs.size + 1 →
      (∀ c o, c ≠ I → c ≠ I + 1 → c ≠ I + 3 → c ≠ I + 4 → s.heap.get? c = some o → g.get? c = some o) → Q (.ref s.heap.objs.size) { s with heap := g }) :
    wpAny (model prog w) A (Builtin.«zip.__next__» ⟨[.ref (I + 4)], []⟩) (fun fin s' => ∃ v, fin = .done (.ret v) ∧ Q v s') E s := by
  obtain ⟨ti, a1, a2⟩ := Z
  obtain ⟨hz, a, b, hto⟩ := F
  show wpAny _ _ (field (.ref (I + 4)) 2 >>= _) _ _ _
  refine wpAny_bind (wpAny_field hz rfl (x := .bool false) rfl ?_); show wpAny _ _ (field (.ref (I + 4)) 3 >>= _) _ _ _
  refine wpAny_bind (wpAny_field hz rfl (x := .ref (I + 2)) rfl ?_)
  refine wpAny_bind (wpAny_seqItems ti rfl ?_)
  show wpAny _ _ (Builtin.SmallTypes.ownedTupleIsFree (.ref (I + 4)) >>= _) _ _ _
  refine wpAny_bind ?_; unfold Builtin.SmallTypes.ownedTupleIsFree
  refine wpAny_bind (wpAny_field hz rfl (x := .none) rfl (wpAny_pure ?_)); simp only [if_true]
  refine wpAny_bind (wpAny_rule ?_)
  refine wpAny_bind (wpAny_field hz rfl (x := .ref (I + 3)) rfl ?_)
  refine wpAny_bind (wpAny_setField_rec hz (by simp) fun g1 z1 s1 => ?_)
  replace z1 : IsZip g1 (I + 4) (I + 2) (I + 3) .ellipsis := z1
  refine wpAny_bind ?_; simp only [List.zipIdx_cons, List.zipIdx_nil, List.forIn_cons, List.forIn_nil]
  refine wpAny_bind (wpAny_bind (wpAny_onRaise ?_)); show wpAny _ _ (Builtin.SmallTypes.nextOf (.ref I) >>= _) _ _ _
  refine wpAny_bind (next_item (a1.ext s1.extBut (neQ (by omega))) (o1.ext s1.extBut (neQ (by omega))) hx fun g2 c1 s2 => wpAny_pure ?_)
  have t2 : IsPair g2 (I + 3) a b := s2.extBut _ _ (neQ (by omega)) (s1.extBut _ _ (neQ (by omega)) hto)
  refine wpAny_bind (wpAny_seqItems t2 rfl ?_)
  refine wpAny_bind (wpAny_updateSeq_pair t2 fun g3 t3 s3 => ?_)
  replace t3 : IsPair g3 (I + 3) x b := t3
  refine wpAny_bind (wpAny_letGo (wpAny_pure ?_))
  refine wpAny_bind (wpAny_bind (wpAny_onRaise ?_)); show wpAny _ _ (Builtin.SmallTypes.nextOf (.ref (I + 1)) >>= _) _ _ _
  refine wpAny_bind (next_item (((a2.ext s1.extBut (neQ (by omega))).ext s2.extBut (neQ (by omega))).ext s3.extBut (neQ (by omega))) (((o2.ext s1.extBut (neQ (by omega))).ext s2.extBut (neQ (by omega))).ext s3.extBut (neQ (by omega))) hy fun g4 c2 s4 => wpAny_pure ?_)
  have t4 : IsPair g4 (I + 3) x b := s4.extBut _ _ (neQ (by omega)) t3
  refine wpAny_bind (wpAny_seqItems t4 rfl ?_)
  refine wpAny_bind (wpAny_updateSeq_pair t4 fun g5 t5 s5 => ?_)
  replace t5 : IsPair g5 (I + 3) x y := t5
  refine wpAny_bind (wpAny_letGo (wpAny_pure (wpAny_pure ?_)))
  refine wpAny_bind (wpAny_seqItems t5 rfl ?_)
  refine wpAny_bind (wpAny_newTuple ?_)
  have sz : g5.objs.size = s.heap.objs.size := by rw [s5.1, s4.1, s3.1, s2.1, s1.1]
  have k5 : ∀ c o, c ≠ I → c ≠ I + 1 → c ≠ I + 3 → c ≠ I + 4 → s.heap.get? c = some o → g5.get? c = some o := fun c o n0 n1 n3 n4 e =>
    s5.extBut _ _ n3 (s4.extBut _ _ n1 (s3.extBut _ _ n3 (s2.extBut _ _ n0 (s1.extBut _ _ n4 e))))
  have z5 : IsZip g5 (I + 4) (I + 2) (I + 3) .ellipsis := s5.extBut _ _ (neQ (by omega)) (s4.extBut _ _ (neQ (by omega)) (s3.extBut _ _ (neQ (by omega)) (s2.extBut _ _ (neQ (by omega)) z1)))
  have ti5 : IsPair g5 (I + 2) (.ref I) (.ref (I + 1)) := k5 _ _ (neQ (by omega)) (neQ (by omega)) (neQ (by omega)) (neQ (by omega)) ti
  have c15 : SI k1 g5 I l1 (n + 1) := ((c1.ext s3.extBut (neQ (by omega))).ext s4.extBut (neQ (by omega))).ext s5.extBut (neQ (by omega))
  have c25 : SI k2 g5 (I + 1) l2 (n + 1) := c2.ext s5.extBut (neQ (by omega))
  have lt : I + 4 < g5.objs.size := Heap.lt_size z5
  show wpAny _ _ (Builtin.SmallTypes.ownedTupleHandOut (.ref (I + 4)) (.ref g5.objs.size) >>= _) _ _ _
  refine wpAny_bind ?_; unfold Builtin.SmallTypes.ownedTupleHandOut
  have z6 : IsZip (g5.push { cls := .type "tuple", data := .seq #[x, y] }) (I + 4) (I + 2) (I + 3) .ellipsis := Heap.get?_push_of_some _ z5
  refine wpAny_bind (wpAny_setField_rec z6 (by simp) fun g7 z7 s7 => ?_)
  replace z7 : IsZip g7 (I + 4) (I + 2) (I + 3) (rawInt g5.objs.size) := z7
  refine wpAny_setField_rec z7 (by simp) fun g8 z8 s8 => ?_
  replace z8 : IsZip g8 (I + 4) (I + 2) (I + 3) (rawInt g5.objs.size) := z8
  have up : ∀ c o, c ≠ I + 4 → g5.get? c = some o → g8.get? c = some o := fun c o n4 e => s8.extBut _ _ n4 (s7.extBut _ _ n4 (Heap.get?_push_of_some _ e))
  have t8 : IsPair g8 g5.objs.size x y := s8.extBut _ _ (Nat.ne_of_gt lt) (s7.extBut _ _ (Nat.ne_of_gt lt) (Heap.get?_push_size _ rfl))
  have sz8 : g8.objs.size = g5.objs.size + 1 := by rw [s8.1, s7.1, Heap.size_push]
  rw [sz] at z8 t8 sz8
  refine wpAny_pure ⟨_, rfl, ?_⟩; show Q (.ref g5.objs.size) _
  rw [sz]
  exact hQ g8 ⟨up _ _ (neQ (by omega)) ti5, c15.to fun o e => up _ o (neQ (by omega)) e, c25.to fun o e => up _ o (neQ (by omega)) e⟩ z8 (up _ _ (neQ (by omega)) t5) t8 sz8 fun c o n0 n1 n3 n4 e => up c o n4 (k5 c o n0 n1 n3 n4 e)
theorem z2_end {Q : Fin → Shared → Prop} (hh : A.handled = none) (Z : Z2 s.heap I l1 l2 n k1 k2) (F : Free2 s.heap I) (b1 : l1 < I) (b2 : l2 < I)
    (o1 : SO k1 s.heap l1 xs) (o2 : SO k2 s.heap l2 ys) (hend : xs[n]? = none ∨ ys[n]? = none)
    (hE : ∀ g e, (∀ c o, c ≠ I → c ≠ I + 1 → c ≠ I + 3 → c ≠ I + 4 → s.heap.get? c = some o → g.get? c = some o) → (∃ o, g.get? e = some o ∧ o.cls = .type "StopIteration") → E (.ref e) { s with heap := g }) :
    wpAny (model prog w) A (Builtin.«zip.__next__» ⟨[.ref (I + 4)], []⟩) Q E s := by
  obtain ⟨ti, a1, a2⟩ := Z
  obtain ⟨hz, a, b, hto⟩ := F
  show wpAny _ _ (field (.ref (I + 4)) 2 >>= _) _ _ _
  refine wpAny_bind (wpAny_field hz rfl (x := .bool false) rfl ?_); show wpAny _ _ (field (.ref (I + 4)) 3 >>= _) _ _ _
  refine wpAny_bind (wpAny_field hz rfl (x := .ref (I + 2)) rfl ?_)
  refine wpAny_bind (wpAny_seqItems ti rfl ?_)
  show wpAny _ _ (Builtin.SmallTypes.ownedTupleIsFree (.ref (I + 4)) >>= _) _ _ _
  refine wpAny_bind ?_; unfold Builtin.SmallTypes.ownedTupleIsFree
  refine wpAny_bind (wpAny_field hz rfl (x := .none) rfl (wpAny_pure ?_)); simp only [if_true]
  refine wpAny_bind (wpAny_rule ?_)
  refine wpAny_bind (wpAny_field hz rfl (x := .ref (I + 3)) rfl ?_)
  refine wpAny_bind (wpAny_setField_rec hz (by simp) fun g1 z1 s1 => ?_)
  replace z1 : IsZip g1 (I + 4) (I + 2) (I + 3) .ellipsis := z1
  refine wpAny_bind ?_; simp only [List.zipIdx_cons, List.zipIdx_nil, List.forIn_cons, List.forIn_nil]
  refine wpAny_bind (wpAny_bind (wpAny_onRaise ?_)); show wpAny _ _ (Builtin.SmallTypes.nextOf (.ref I) >>= _) _ _ _
  cases hx : xs[n]? with
  | none =>
    refine wpAny_bind (next_end hh (a1.ext s1.extBut (neQ (by omega))) (o1.ext s1.extBut (neQ (by omega))) hx fun g2 r s2 he => ?_)
    obtain ⟨oe, hoe, hce⟩ := he
    have z2 : IsZip g2 (I + 4) (I + 2) (I + 3) .ellipsis := s2 _ _ (neQ (by omega)) z1
    have rz : r ≠ I + 4 := fun q => by subst q; rw [z2] at hoe; cases hoe; simp at hce
    refine wpAny_setField_rec z2 (by simp) fun g3 _ s3 => hE g3 r (fun c o n0 _ _ n4 e => s3.extBut _ _ n4 (s2 _ _ n0 (s1.extBut _ _ n4 e))) ⟨oe, s3.extBut _ _ rz hoe, hce⟩
  | some x =>
    have hy : ys[n]? = none := by rcases hend with h | h; rw [hx] at h; cases h; exact h
    refine wpAny_bind (next_item (a1.ext s1.extBut (neQ (by omega))) (o1.ext s1.extBut (neQ (by omega))) hx fun g2 c1 s2 => wpAny_pure ?_)
    have t2 : IsPair g2 (I + 3) a b := s2.extBut _ _ (neQ (by omega)) (s1.extBut _ _ (neQ (by omega)) hto)
    refine wpAny_bind (wpAny_seqItems t2 rfl ?_)
    refine wpAny_bind (wpAny_updateSeq_pair t2 fun g3 t3 s3 => ?_)
    refine wpAny_bind (wpAny_letGo (wpAny_pure ?_))
    refine wpAny_bind (wpAny_bind (wpAny_onRaise ?_)); show wpAny _ _ (Builtin.SmallTypes.nextOf (.ref (I + 1)) >>= _) _ _ _
    refine wpAny_bind (next_end hh (((a2.ext s1.extBut (neQ (by omega))).ext s2.extBut (neQ (by omega))).ext s3.extBut (neQ (by omega))) (((o2.ext s1.extBut (neQ (by omega))).ext s2.extBut (neQ (by omega))).ext s3.extBut (neQ (by omega))) hy fun g4 r s4 he => ?_)
    obtain ⟨oe, hoe, hce⟩ := he
    have z4 : IsZip g4 (I + 4) (I + 2) (I + 3) .ellipsis := s4 _ _ (neQ (by omega)) (s3.extBut _ _ (neQ (by omega)) (s2.extBut _ _ (neQ (by omega)) z1))
    have rz : r ≠ I + 4 := fun q => by subst q; rw [z4] at hoe; cases hoe; simp at hce
    refine wpAny_setField_rec z4 (by simp) fun g5 _ s5 => hE g5 r (fun c o n0 n1 n3 n4 e => s5.extBut _ _ n4 (s4 _ _ n1 (s3.extBut _ _ n3 (s2.extBut _ _ n0 (s1.extBut _ _ n4 e))))) ⟨oe, s5.extBut _ _ rz hoe, hce⟩
/-! .. while the tuple last handed out is kept -/
theorem z2_itemO {T : Nat} {x y : Value} {Q : Value → Shared → Prop} (Z : Z2 s.heap I l1 l2 n k1 k2) (F : Out2 s.heap I T) (b1 : l1 < I) (b2 : l2 < I)
    (o1 : SO k1 s.heap l1 xs) (o2 : SO k2 s.heap l2 ys) (hx : xs[n]? = some x) (hy : ys[n]? = some y)
    (hQ : ∀ g, Z2 g I l1 l2 (n + 1) k1 k2 → Out2 g I T → IsPair g s.heap.objs.size x y → g.objs.size = s.heap.objs.size + 1 →
      (∀ c o, c ≠ I → c ≠ I + 1 → c ≠ I + 3 → c ≠ I + 4 → s.heap.get? c = some o → g.get? c = some o) → Q (.ref s.heap.objs.size) { s with heap := g }) :
    wpAny (model prog w) A (Builtin.«zip.__next__» ⟨[.ref (I + 4)], []⟩) (fun fin s' => ∃ v, fin = .done (.ret v) ∧ Q v s') E s := by
  obtain ⟨ti, a1, a2⟩ := Z
  obtain ⟨f, oT, hz, hT, lT⟩ := F
  show wpAny _ _ (field (.ref (I + 4)) 2 >>= _) _ _ _
  refine wpAny_bind (wpAny_field hz rfl (x := .bool false) rfl ?_); show wpAny _ _ (field (.ref (I + 4)) 3 >>= _) _ _ _
  refine wpAny_bind (wpAny_field hz rfl (x := .ref (I + 2)) rfl ?_)
  refine wpAny_bind (wpAny_seqItems ti rfl ?_)
  show wpAny _ _ (Builtin.SmallTypes.ownedTupleIsFree (.ref (I + 4)) >>= _) _ _ _
  refine wpAny_bind (wpAny_tupleHeld_zip hz hT fun g1 z1 s1 => ?_)
  simp only [Bool.false_eq_true, if_false]
  refine wpAny_bind ?_
  rw [← Array.forIn_toList]
  simp only [List.forIn_cons, List.forIn_nil]
  refine wpAny_bind (wpAny_bind (wpAny_holding ?_)); show wpAny _ _ (Builtin.SmallTypes.nextOf (.ref I) >>= _) _ _ _
  refine wpAny_bind (next_item (s := { s with heap := g1 }) (a1.ext s1.extBut (neQ (by omega))) (o1.ext s1.extBut (neQ (by omega))) hx fun g2 c1 s2 => wpAny_pure ?_)
  refine wpAny_pure ?_
  refine wpAny_bind (wpAny_bind (wpAny_holding ?_)); show wpAny _ _ (Builtin.SmallTypes.nextOf (.ref (I + 1)) >>= _) _ _ _
  refine wpAny_bind (next_item (s := { s with heap := g2 }) ((a2.ext s1.extBut (neQ (by omega))).ext s2.extBut (neQ (by omega))) ((o2.ext s1.extBut (neQ (by omega))).ext s2.extBut (neQ (by omega))) hy fun g3 c2 s3 => wpAny_pure ?_)
  refine wpAny_pure (wpAny_pure ?_)
  show wpAny _ _ (newTuple [x, y] >>= _) _ _ _
  refine wpAny_bind (wpAny_newTuple ?_)
  have sz : g3.objs.size = s.heap.objs.size := by rw [s3.1, s2.1, s1.1]
  have k3 : ∀ c o, c ≠ I → c ≠ I + 1 → c ≠ I + 4 → s.heap.get? c = some o → g3.get? c = some o := fun c o n0 n1 n4 e => s3.extBut _ _ n1 (s2.extBut _ _ n0 (s1.extBut _ _ n4 e))
  have z3 : IsZipHeld g3 (I + 4) (I + 2) (I + 3) T true := s3.extBut _ _ (neQ (by omega)) (s2.extBut _ _ (neQ (by omega)) z1)
  have c13 : SI k1 g3 I l1 (n + 1) := c1.ext s3.extBut (neQ (by omega))
  refine wpAny_pure ⟨_, rfl, ?_⟩; show Q (.ref g3.objs.size) _
  have hp : IsPair (g3.push { cls := .type "tuple", data := .seq #[x, y] }) g3.objs.size x y := Heap.get?_push_size _ rfl
  have hs : (g3.push { cls := .type "tuple", data := .seq #[x, y] }).objs.size = g3.objs.size + 1 := Heap.size_push ..
  rw [sz] at hp hs ⊢
  exact hQ _ ⟨Heap.get?_push_of_some _ (k3 _ _ (neQ (by omega)) (neQ (by omega)) (neQ (by omega)) ti), c13.to fun o e => Heap.get?_push_of_some _ e, c2.to fun o e => Heap.get?_push_of_some _ e⟩
    ⟨true, oT, Heap.get?_push_of_some _ z3, Heap.get?_push_of_some _ (k3 _ _ (neQ (by omega)) (neQ (by omega)) (neQ (by omega)) hT), lT⟩ hp hs fun c o n0 n1 n3 n4 e => Heap.get?_push_of_some _ (k3 c o n0 n1 n4 e)
theorem z2_endO {T : Nat} {Q : Fin → Shared → Prop} (hh : A.handled = none) (Z : Z2 s.heap I l1 l2 n k1 k2) (F : Out2 s.heap I T) (b1 : l1 < I) (b2 : l2 < I)
    (o1 : SO k1 s.heap l1 xs) (o2 : SO k2 s.heap l2 ys) (hend : xs[n]? = none ∨ ys[n]? = none)
    (hE : ∀ g e, (∀ c o, c ≠ I → c ≠ I + 1 → c ≠ I + 3 → c ≠ I + 4 → s.heap.get? c = some o → g.get? c = some o) → (∃ o, g.get? e = some o ∧ o.cls = .type "StopIteration") → E (.ref e) { s with heap := g }) :
    wpAny (model prog w) A (Builtin.«zip.__next__» ⟨[.ref (I + 4)], []⟩) Q E s := by
  obtain ⟨ti, a1, a2⟩ := Z
  obtain ⟨f, oT, hz, hT, lT⟩ := F
  show wpAny _ _ (field (.ref (I + 4)) 2 >>= _) _ _ _
  refine wpAny_bind (wpAny_field hz rfl (x := .bool false) rfl ?_); show wpAny _ _ (field (.ref (I + 4)) 3 >>= _) _ _ _
  refine wpAny_bind (wpAny_field hz rfl (x := .ref (I + 2)) rfl ?_)
  refine wpAny_bind (wpAny_seqItems ti rfl ?_)
  show wpAny _ _ (Builtin.SmallTypes.ownedTupleIsFree (.ref (I + 4)) >>= _) _ _ _
  refine wpAny_bind (wpAny_tupleHeld_zip hz hT fun g1 z1 s1 => ?_)
  simp only [Bool.false_eq_true, if_false]
  refine wpAny_bind ?_
  rw [← Array.forIn_toList]
  simp only [List.forIn_cons, List.forIn_nil]
  refine wpAny_bind (wpAny_bind (wpAny_holding ?_)); show wpAny _ _ (Builtin.SmallTypes.nextOf (.ref I) >>= _) _ _ _
  cases hx : xs[n]? with
  | none =>
    refine wpAny_bind (next_end (s := { s with heap := g1 }) hh (a1.ext s1.extBut (neQ (by omega))) (o1.ext s1.extBut (neQ (by omega))) hx fun g2 r s2 he => ?_)
    exact hE g2 r (fun c o n0 _ _ n4 e => s2 _ _ n0 (s1.extBut _ _ n4 e)) he
  | some x =>
    have hy : ys[n]? = none := by rcases hend with h | h; rw [hx] at h; cases h; exact h
    refine wpAny_bind (next_item (s := { s with heap := g1 }) (a1.ext s1.extBut (neQ (by omega))) (o1.ext s1.extBut (neQ (by omega))) hx fun g2 c1 s2 => wpAny_pure ?_)
    refine wpAny_pure ?_
    refine wpAny_bind (wpAny_bind (wpAny_holding ?_)); show wpAny _ _ (Builtin.SmallTypes.nextOf (.ref (I + 1)) >>= _) _ _ _
    refine wpAny_bind (next_end (s := { s with heap := g2 }) hh ((a2.ext s1.extBut (neQ (by omega))).ext s2.extBut (neQ (by omega))) ((o2.ext s1.extBut (neQ (by omega))).ext s2.extBut (neQ (by omega))) hy fun g3 r s3 he => ?_)
    exact hE g3 r (fun c o n0 n1 _ n4 e => s3 _ _ n1 (s2.extBut _ _ n0 (s1.extBut _ _ n4 e))) he
/-! pyNext -/
theorem isz2 (F : Free2 s.heap I ∨ ∃ T, Out2 s.heap I T) : s.TypeIs (.ref (I + 4)) "zip" := by
  rcases F with ⟨hz, _⟩ | ⟨T, f, oT, hz, _⟩
  · exact ⟨_, hz, rfl⟩
  · exact ⟨_, hz, rfl⟩
theorem next2_item {x y : Value} {Q : Option Value → Shared → Prop} (Z : Z2 s.heap I l1 l2 n k1 k2) (Fr : Free2 s.heap I) (b1 : l1 < I) (b2 : l2 < I)
    (o1 : SO k1 s.heap l1 xs) (o2 : SO k2 s.heap l2 ys) (hx : xs[n]? = some x) (hy : ys[n]? = some y)
    (hQ : ∀ g, Z2 g I l1 l2 (n + 1) k1 k2 → IsZip g (I + 4) (I + 2) (I + 3) (rawInt s.heap.objs.size) → IsPair g (I + 3) x y → IsPair g s.heap.objs.size x y → g.objs.size = s.heap.objs.size + 1 →
      (∀ c o, c ≠ I → c ≠ I + 1 → c ≠ I + 3 → c ≠ I + 4 → s.heap.get? c = some o → g.get? c = some o) → Q (some (.ref s.heap.objs.size)) { s with heap := g }) :
    wpAny (model prog w) A (pyNext (.ref (I + 4))) Q E s := by
  have hT : s.TypeIs (.ref (I + 4)) "zip" := isz2 (.inl Fr)
  unfold pyNext
  exact wpAny_bind (wpAny_attempt (wpAny_callSpecial?_slot (name := Str.ofString "__next__") hT F.slot_zip_next (wpAny_call_entry F.slot_zip_next hT F.entry_zip_next
    (z2_item Z Fr b1 b2 o1 o2 hx hy fun g a1 a2 a3 a4 a5 a6 => wpAny_pure (hQ g a1 a2 a3 a4 a5 a6)) (F.args_zip_next_1 _))))
theorem next2_itemO {T : Nat} {x y : Value} {Q : Option Value → Shared → Prop} (Z : Z2 s.heap I l1 l2 n k1 k2) (Fr : Out2 s.heap I T) (b1 : l1 < I) (b2 : l2 < I)
    (o1 : SO k1 s.heap l1 xs) (o2 : SO k2 s.heap l2 ys) (hx : xs[n]? = some x) (hy : ys[n]? = some y)
    (hQ : ∀ g, Z2 g I l1 l2 (n + 1) k1 k2 → Out2 g I T → IsPair g s.heap.objs.size x y → g.objs.size = s.heap.objs.size + 1 →
      (∀ c o, c ≠ I → c ≠ I + 1 → c ≠ I + 3 → c ≠ I + 4 → s.heap.get? c = some o → g.get? c = some o) → Q (some (.ref s.heap.objs.size)) { s with heap := g }) :
    wpAny (model prog w) A (pyNext (.ref (I + 4))) Q E s := by
  have hT : s.TypeIs (.ref (I + 4)) "zip" := isz2 (.inr ⟨T, Fr⟩)
  unfold pyNext
  exact wpAny_bind (wpAny_attempt (wpAny_callSpecial?_slot (name := Str.ofString "__next__") hT F.slot_zip_next (wpAny_call_entry F.slot_zip_next hT F.entry_zip_next
    (z2_itemO Z Fr b1 b2 o1 o2 hx hy fun g a1 a2 a3 a4 a5 => wpAny_pure (hQ g a1 a2 a3 a4 a5)) (F.args_zip_next_1 _))))
theorem next2_end {Q : Option Value → Shared → Prop} (hh : A.handled = none) (Z : Z2 s.heap I l1 l2 n k1 k2) (Fr : Free2 s.heap I ∨ ∃ T, Out2 s.heap I T) (b1 : l1 < I) (b2 : l2 < I)
    (o1 : SO k1 s.heap l1 xs) (o2 : SO k2 s.heap l2 ys) (hend : xs[n]? = none ∨ ys[n]? = none)
    (hQ : ∀ g, (∀ c o, c ≠ I → c ≠ I + 1 → c ≠ I + 3 → c ≠ I + 4 → s.heap.get? c = some o → g.get? c = some o) → Q none { s with heap := g }) : wpAny (model prog w) A (pyNext (.ref (I + 4))) Q E s := by
  have hT : s.TypeIs (.ref (I + 4)) "zip" := isz2 Fr
  unfold pyNext
  rcases Fr with Fr | ⟨T, Fr⟩
  · refine wpAny_bind (wpAny_attempt (wpAny_callSpecial?_slot (name := Str.ofString "__next__") hT F.slot_zip_next (wpAny_call_entry F.slot_zip_next hT F.entry_zip_next
      (z2_end hh Z Fr b1 b2 o1 o2 hend fun g e k ⟨o, ho, hc⟩ => ?_) (F.args_zip_next_1 _))))
    exact wpAny_bind (wpAny_isInstance (T := "StopIteration") (b := true) ⟨o, ho, hc⟩ isSubtype_stop (wpAny_pure (hQ _ k)))
  · refine wpAny_bind (wpAny_attempt (wpAny_callSpecial?_slot (name := Str.ofString "__next__") hT F.slot_zip_next (wpAny_call_entry F.slot_zip_next hT F.entry_zip_next
      (z2_endO hh Z Fr b1 b2 o1 o2 hend fun g e k ⟨o, ho, hc⟩ => ?_) (F.args_zip_next_1 _))))
    exact wpAny_bind (wpAny_isInstance (T := "StopIteration") (b := true) ⟨o, ho, hc⟩ isSubtype_stop (wpAny_pure (hQ _ k)))
end
def itO (k : Bool) (l : Addr) : Obj := match k with
  | true => { cls := .type "tuple_iterator", data := .fields #[.ref l, .int 0 0] }
  | false => { cls := .type "list_iterator", data := .fields #[.ref l, .int 0 0] }
theorem itO_nf (k : Bool) (l : Addr) : (itO k l).isFreed = false := by cases k <;> rfl
theorem itO_si {k : Bool} {h : Heap} {i l : Addr} (e : h.get? i = some (itO k l)) : SI k h i l 0 := by
  cases k with
  | true => exact ⟨_, e, rfl, rfl⟩
  | false => exact ⟨_, e, rfl, rfl⟩
section
variable {prog : Program} {w : World} {A : Around} {E : Value → Shared → Prop} {s : Shared}
theorem pyIter_k {k : Bool} {l : Addr} {us : Array Value} {Q : Value → Shared → Prop} (o : SO k s.heap l us) (q : Q (.ref s.heap.objs.size) { s with heap := s.heap.push (itO k l) }) : wpAny (model prog w) A (pyIter (.ref l)) Q E s := by
  cases k with
  | true => exact wpAny_pyIter_tuple o q
  | false => exact wpAny_pyIter_list o q
end
abbrev R1 (h : Heap) (k1 : Bool) (l1 : Addr) : Heap := h.push (itO k1 l1)
abbrev R2 (h : Heap) (k1 k2 : Bool) (l1 l2 : Addr) : Heap := (R1 h k1 l1).push (itO k2 l2)
abbrev R3 (h : Heap) (k1 k2 : Bool) (l1 l2 : Addr) : Heap := (R2 h k1 k2 l1 l2).push { cls := .type "tuple", data := .seq #[.ref h.objs.size, .ref (R1 h k1 l1).objs.size] }
abbrev R4 (h : Heap) (k1 k2 : Bool) (l1 l2 : Addr) : Heap := (R3 h k1 k2 l1 l2).push { cls := .type "tuple", data := .seq #[.none, .none] }
abbrev R5 (h : Heap) (k1 k2 : Bool) (l1 l2 : Addr) : Heap := (R4 h k1 k2 l1 l2).push { cls := .type "zip", data := .fields #[.none, .bool false, .bool false, .ref (R2 h k1 k2 l1 l2).objs.size, .ref (R3 h k1 k2 l1 l2).objs.size] }
theorem meets2 (k1 k2 : Bool) (l1 l2 : Addr) (xs ys : Array Value) :
    Meets (Builtin.«zip.__new__» ⟨[.type "zip", .ref l1, .ref l2], []⟩) (fun _ R s => SO k1 s.heap l1 xs ∧ SO k2 s.heap l2 ys ∧ R (.ok (.ret (.ref (R4 s.heap k1 k2 l1 l2).objs.size))) { s with heap := R5 s.heap k1 k2 l1 l2 }) :=
  .of_wp fun prog w A R s h => by
    obtain ⟨hp, g, d, tk, os⟩ := s; obtain ⟨a1, a2, h⟩ := h
    have hsub := sub_zip
    have b1 : SO k1 (Shared.heap ⟨hp, g, d, tk, os⟩) l1 xs := a1
    have b2 : SO k2 (Shared.heap ⟨R1 hp k1 l1, g, d, tk, os⟩) l2 ys := SO.push a2 _
    wp_walk using pyIter_k b1, pyIter_k b2
    exact ⟨_, rfl, h⟩
section
variable {prog : Program} {w : World} {A : Around} {E : Value → Shared → Prop} {s : Shared}
theorem call2 {k1 k2 : Bool} {l1 l2 : Addr} {xs ys : Array Value} {Q : Value → Shared → Prop} (a1 : SO k1 s.heap l1 xs) (a2 : SO k2 s.heap l2 ys)
    (h : ∀ g, Z2 g s.heap.objs.size l1 l2 0 k1 k2 → Free2 g s.heap.objs.size → g.objs.size = s.heap.objs.size + 5 → (∀ c o, s.heap.get? c = some o → g.get? c = some o) → Q (.ref (s.heap.objs.size + 4)) { s with heap := g }) :
    wpAny (model prog w) A (call (.type "zip") [.ref l1, .ref l2]) Q E s := by
  refine callType_new F.called_zip (by decide) (F.typeCall_zip_2 _ _) (F.newCall_zip_2 _ _) (fun obj => F.args_object_init_3 obj _ _) F.entry_zip_new (meets2 k1 k2 l1 l2 xs ys) ⟨a1, a2, ?_⟩
  have z1 : (R1 s.heap k1 l1).objs.size = s.heap.objs.size + 1 := Heap.size_push ..
  have z2 : (R2 s.heap k1 k2 l1 l2).objs.size = s.heap.objs.size + 2 := by rw [Heap.size_push, z1]
  have z3 : (R3 s.heap k1 k2 l1 l2).objs.size = s.heap.objs.size + 3 := by rw [Heap.size_push, z2]
  have z4 : (R4 s.heap k1 k2 l1 l2).objs.size = s.heap.objs.size + 4 := by rw [Heap.size_push, z3]
  have z5 : (R5 s.heap k1 k2 l1 l2).objs.size = s.heap.objs.size + 5 := by rw [Heap.size_push, z4]
  have g5 : (R5 s.heap k1 k2 l1 l2).get? (R4 s.heap k1 k2 l1 l2).objs.size = some _ := Heap.get?_push_size _ rfl
  have g4 : (R5 s.heap k1 k2 l1 l2).get? (R3 s.heap k1 k2 l1 l2).objs.size = some _ := Heap.get?_push_of_some _ (Heap.get?_push_size _ rfl)
  have g3 : (R5 s.heap k1 k2 l1 l2).get? (R2 s.heap k1 k2 l1 l2).objs.size = some _ := Heap.get?_push_of_some _ (Heap.get?_push_of_some _ (Heap.get?_push_size _ rfl))
  have g2 : (R5 s.heap k1 k2 l1 l2).get? (R1 s.heap k1 l1).objs.size = some _ := Heap.get?_push_of_some _ (Heap.get?_push_of_some _ (Heap.get?_push_of_some _ (Heap.get?_push_size _ (itO_nf _ _))))
  have g1 : (R5 s.heap k1 k2 l1 l2).get? s.heap.objs.size = some _ := Heap.get?_push_of_some _ (Heap.get?_push_of_some _ (Heap.get?_push_of_some _ (Heap.get?_push_of_some _ (Heap.get?_push_size _ (itO_nf _ _)))))
  show _ ∧ _
  rw [z2, z3, z4] at g5
  rw [z1, z2] at g3
  rw [z3] at g4
  rw [z1] at g2
  rw [z4]
  exact ⟨⟨_, g5, rfl⟩, h _ ⟨g3, itO_si g1, itO_si g2⟩ ⟨g5, _, _, g4⟩ z5 fun c o x =>
    Heap.get?_push_of_some _ (Heap.get?_push_of_some _ (Heap.get?_push_of_some _ (Heap.get?_push_of_some _ (Heap.get?_push_of_some _ x))))⟩
end
/-- where the items of a zip come from -/
def SqO (K : PySem.W.Frag) (k : Bool) (H : Hp) (a : Addr) (xs : List V) : Prop := match k with
  | true => SqT K H a xs
  | false => SqL K H a xs
theorem sqO_at {X : Cx} {pins : List (Addr × Obj)} {σ : L2.St} {H : Hp} {s : Shared} {k : Bool} {a : Addr} {xs : List V} (I : Inv X pins σ H s) (h : SqO X.K k H a xs) : ∃ its : List Value, Vals xs its ∧ SO k s.heap a its.toArray ∧ xs.length ≤ sizeLine := by
  cases k with
  | true =>
    obtain ⟨its, r, p, z⟩ := I.tuple h
    exact ⟨its, r, p, z⟩
  | false =>
    obtain ⟨its, r, p, z⟩ := I.list h
    exact ⟨its, r, p.isList, z⟩
/-- the zip of a tuple and a list -/
def It2 (K : PySem.W.Frag) (a b : Addr) : It :=
  ⟨fun i H => ∃ (xs ys : List V) (x y : V), SqT K H a xs ∧ SqL K H b ys ∧ xs[i]? = some x ∧ ys[i]? = some y,
    fun i H u H' => ∃ T x y, u = .ref T ∧ H T = none ∧ H' = upd H T (.tup [x, y]) ∧ (∀ xs, SqT K H a xs → xs[i]? = some x) ∧ ∀ ys, SqL K H b ys → ys[i]? = some y,
    fun i H => ∃ xs ys : List V, SqT K H a xs ∧ SqL K H b ys ∧ (xs.length ≤ i ∨ ys.length ≤ i)⟩
theorem fp4 {X : Cx} {pins : List (Addr × Obj)} {H : Hp} {I : Nat} (hf : ∀ c, c ∈ [I + 4, I + 2, I + 3, I, I + 1] → FpOk X pins H c) : ∀ c, c ∈ [I, I + 1, I + 3, I + 4] → FpOk X pins H c := fun c hc => hf c (by
  have e' : c = I ∨ c = I + 1 ∨ c = I + 3 ∨ c = I + 4 := by simpa using hc
  rcases e' with r | r | r | r <;> rw [r] <;> simp)
theorem turn2 {P : Program} {w : World} {K : PySem.W.Frag} {elts : List Expr} {kk : Nat} {tpos : Pos} {a b I : Nat} (b1 : a < I) (b2 : b < I) :
    Turn P w K (.Tuple elts kk tpos) (It2 K a b) [I + 4, I + 2, I + 3, I, I + 1] (I + 4) (fun i h => Z2 h I a b i true false ∧ Free2 h I) where
  mem := by simp
  obj := fun i h st q hq => by
    obtain ⟨⟨ti, a1, a2⟩, z, x, y, to⟩ := st
    obtain ⟨o1, e1, d1⟩ := a1.obj
    obtain ⟨o2, e2, d2⟩ := a2.obj
    have e' : q = I + 4 ∨ q = I + 2 ∨ q = I + 3 ∨ q = I ∨ q = I + 1 := by simpa using hq
    rcases e' with r | r | r | r | r
    · rw [r]; exact ⟨_, z, fun v q => nomatch q⟩
    · rw [r]; exact ⟨_, ti, fun v q => nomatch q⟩
    · rw [r]; exact ⟨_, to, fun v q => nomatch q⟩
    · rw [r]; exact ⟨o1, e1, fun v q => by rw [d1] at q; cases q⟩
    · rw [r]; exact ⟨o2, e2, fun v q => by rw [d2] at q; cases q⟩
  keep := fun i h h' st k => by
    obtain ⟨⟨ti, a1, a2⟩, z, x, y, to⟩ := st
    exact ⟨⟨k (I + 2) (by simp) _ ti, a1.to fun o q => k I (by simp) o q, a2.to fun o q => k (I + 1) (by simp) o q⟩, k (I + 4) (by simp) _ z, x, y, k (I + 3) (by simp) _ to⟩
  item := by
    intro X hP hw hK hc i pins s σ H E I' hf st hg
    subst hP hw hK
    obtain ⟨xs, ys, x, y, qx, qy, hx, hy⟩ := hg
    obtain ⟨u1, r1, p1, _⟩ := I'.tuple qx
    obtain ⟨u2, r2, p2, _⟩ := I'.list qy
    obtain ⟨w1, hw1, rw1⟩ := r1.get hx
    obtain ⟨w2, hw2, rw2⟩ := r2.get hy
    have hzl : I + 4 < s.heap.objs.size := Heap.lt_size st.2.1
    refine next2_item st.1 st.2 b1 b2 (xs := u1.toArray) (ys := u2.toArray) (show SO true s.heap a _ from p1) (show SO false s.heap b _ from p2.isList) (x := w1) (y := w2) (by simpa using hw1) (by simpa using hw2) fun g Z' z' to' hT hsz hk => ?_
    refine ⟨_, rfl, wpAny_letOwnedTupleGo_zip (s := { s with heap := g }) z' fun g2 z2 sb => ?_⟩
    have hT2 : g2.get? s.heap.objs.size = some { cls := .type "tuple", data := .seq #[w1, w2] } := (sb.2 _ (Nat.ne_of_gt hzl)).trans hT
    have new : ObjOk X.prog X.w (upd H s.heap.objs.size (.tup [x, y])) g2 s.heap.objs.size (.tup [x, y]) :=
      ⟨by show 2 ≤ sizeLine; decide, [w1, w2], .cons rw1 (.cons rw2 .nil), ⟨_, hT2, rfl, _, rfl⟩⟩
    have I1 : Inv X pins σ (upd H s.heap.objs.size (.tup [x, y])) { s with heap := g2 } :=
      I'.turnedNew (t' := s.toks) (ch := [I, I + 1, I + 3, I + 4]) (fun c o hb q => (sb.2 c (fun q' => hb (by simp [q']))).trans (hk c o (fun q' => hb (by simp [q'])) (fun q' => hb (by simp [q'])) (fun q' => hb (by simp [q'])) (fun q' => hb (by simp [q'])) q)) (fp4 hf) (Nat.le_refl _) new
    refine ⟨.ref s.heap.objs.size, _, I1, rfl, ⟨_, x, y, rfl, I'.hok.fresh (Nat.le_refl _), rfl, fun l hl => by rw [I'.tuple_inj hl qx]; exact hx, fun l hl => by rw [I'.list_inj hl qy]; exact hy⟩, ⟨⟨?_, ?_, ?_⟩, z2, w1, w2, ?_⟩, fun q hq => ?_⟩
    · exact (sb.2 _ (neQ (by omega))).trans Z'.ti
    · exact Z'.a1.to fun o q => (sb.2 _ (neQ (by omega))).trans q
    · exact Z'.a2.to fun o q => (sb.2 _ (neQ (by omega))).trans q
    · exact (sb.2 _ (neQ (by omega))).trans to'
    · have e' : q = I + 4 ∨ q = I + 2 ∨ q = I + 3 ∨ q = I ∨ q = I + 1 := by simpa using hq
      have lt' : ∀ m : Nat, m ≤ I + 4 → m < s.heap.objs.size := fun m hm => Nat.lt_of_le_of_lt hm hzl
      have hlt : q < s.heap.objs.size := by rcases e' with r | r | r | r | r <;> (rw [r]; exact lt' _ (by omega))
      rw [upd_ne (Nat.ne_of_lt hlt)]
      exact (hf q hq).1
  done := by
    intro X hP hw hK hc i pins s σ H E I' hf st hg
    subst hP hw hK
    obtain ⟨xs, ys, qx, qy, hend⟩ := hg
    obtain ⟨u1, r1, p1, _⟩ := I'.tuple qx
    obtain ⟨u2, r2, p2, _⟩ := I'.list qy
    have l1 := r1.length
    have l2 := r2.length
    have he : u1.toArray[i]? = none ∨ u2.toArray[i]? = none := by
      rcases hend with q | q
      · exact .inl (by simp; omega)
      · exact .inr (by simp; omega)
    exact next2_end (I'.ok.hd hc) st.1 (.inl st.2) b1 b2 (show SO true s.heap a _ from p1) (show SO false s.heap b _ from p2.isList) he fun g hk => ⟨rfl, I'.turnedL (t' := s.toks) (ch := [I, I + 1, I + 3, I + 4]) (fun c o hb q =>
      hk c o (fun q' => hb (by simp [q'])) (fun q' => hb (by simp [q'])) (fun q' => hb (by simp [q'])) (fun q' => hb (by simp [q'])) q) (fp4 hf)⟩
  self := fun A i s Q E st h => wpAny_pyIter_zip st.2.1 h
theorem fresh5 {X : Cx} {pins : List (Addr × Obj)} {σ : L2.St} {H : Hp} {s : Shared} (I1 : Inv X pins σ H s) : ∀ c, c ∈ [s.heap.objs.size + 4, s.heap.objs.size + 2, s.heap.objs.size + 3, s.heap.objs.size, s.heap.objs.size + 1] → FpOk X pins H c := fun c hcm => by
  have e' : c = s.heap.objs.size + 4 ∨ c = s.heap.objs.size + 2 ∨ c = s.heap.objs.size + 3 ∨ c = s.heap.objs.size ∨ c = s.heap.objs.size + 1 := by simpa using hcm
  have hle : s.heap.objs.size ≤ c := by
    rcases e' with z | z | z | z | z <;> rw [z]
    · exact Nat.le_add_right _ _
    · exact Nat.le_add_right _ _
    · exact Nat.le_add_right _ _
    · exact Nat.le_refl _
    · exact Nat.le_add_right _ _
  exact I1.fpOk hle (I1.hok.fresh hle)
def iZipTL (K : PySem.W.Frag) (ta : TA) : TI := fun σ H R => ta σ H fun vs H1 => ∃ a b xs ys, vs = [.ref a, .ref b] ∧ SqT K H1 a xs ∧ SqL K H1 b ys ∧ R (It2 K a b) H1
theorem pi_zipTL {X : Cx} {e e2 : Expr} {ta : TA} {p pos tpos : Pos} {elts : List Expr} {kk : Nat} (hg : Gl X "zip") (hm : X.mg "zip" = none) (ha : PA X [e, e2] ta)
    (hs : starEach [e, e2] X.env = (false, eval e X.env) :: starEach [e2] X.env := by rfl) (hpl : (backTo pos (starEach [e2] X.env)).any (·.1) = false := by rfl) :
    PI X (.Tuple elts kk tpos) (.Call (.Name "zip" p) [e, e2] [] pos) (iZipTL X.K ta) := by
  refine ⟨fun pins s σ H R I h => ?_⟩
  refine Call_ (ld_blt I hg hm PyProof.Rows.boot_zip (PyProof.Rows.callWith_type1 (thn (ha.run pos pins s σ H _ I h) fun us s1 ⟨vs, H1, I1, r1, q1⟩ => ?_) hs hpl))
  obtain ⟨a, b, xs, ys, ex, qx, qy, q⟩ := q1
  subst ex
  cases r1 with
  | cons r rr =>
    cases rr with
    | cons r' rr =>
      cases rr
      cases r
      cases r'
      obtain ⟨u1, v1, p1, _⟩ := I1.tuple qx
      obtain ⟨u2, v2, p2, _⟩ := I1.list qy
      obtain ⟨o1, ho1, _⟩ := id p1
      refine call2 (k1 := true) (k2 := false) (show SO true s1.heap a u1.toArray from p1) (show SO false s1.heap b u2.toArray from p2.isList) fun g Z F hsz hk => wpAny_pyIter_zip F.1 ?_
      have I2 : Inv X pins σ H1 { s1 with heap := g } := I1.kept (t' := s1.toks) hk
      exact ⟨s1.heap.objs.size + 4, [s1.heap.objs.size + 4, s1.heap.objs.size + 2, s1.heap.objs.size + 3, s1.heap.objs.size, s1.heap.objs.size + 1], _, _, H1, rfl, I2, turn2 (Heap.lt_size ho1) p2.lt, ⟨Z, F⟩, fresh5 I1, q⟩
/-- two abreast -/
theorem walk_zipTL {K : PySem.W.Frag} {a b : Addr} {xs ys : List V} (l1 : xs.length = ys.length) : Walk (It2 K a b) xs.length (fun H => SqT K H a xs ∧ SqL K H b ys)
    (fun i H u H' => ∃ T x y, u = .ref T ∧ H T = none ∧ H' = upd H T (.tup [x, y]) ∧ xs[i]? = some x ∧ ys[i]? = some y) := by
  refine ⟨fun i _ hi q => ?_, fun _ q => ⟨xs, ys, q.1, q.2, .inl (Nat.le_refl _)⟩, fun i H u H' _ q y => ?_⟩
  · have h2 : i < ys.length := by omega
    exact ⟨xs, ys, xs[i], ys[i], q.1, q.2, by simp [hi], by simp [h2]⟩
  · obtain ⟨T, x, y, h1, h2, h3, h4, h5⟩ := y
    exact ⟨T, x, y, h1, h2, h3, h4 xs q.1, h5 ys q.2⟩
/-! ### list(zip(..)) of two tuples -/
theorem zip_no_len : typeLookup (.type "zip") "__len__" = pure none := by rw [typeLookup_type, builtinLookup_eq_fast]; kernel_rfl
theorem zip_no_hint : typeLookup (.type "zip") "__length_hint__" = pure none := by rw [typeLookup_type, builtinLookup_eq_fast]; kernel_rfl
/-- pairs in new tuples -/
def PairsAt (H : Hp) (us xs ys : List V) : Prop := ∀ (j : Nat) (u : V), us[j]? = some u → ∃ (T : Addr) (x y : V), u = .ref T ∧ xs[j]? = some x ∧ ys[j]? = some y ∧ H T = some (.tup [x, y])
theorem PairsAt.same {H H' : Hp} {us xs ys : List V} (h : PairsAt H us xs ys) (s : Same H H') : PairsAt H' us xs ys := fun j u e => by
  obtain ⟨T, x, y, h1, h2, h3, h4⟩ := h j u e
  exact ⟨T, x, y, h1, h2, h3, s _ _ h4⟩
theorem sUpd {H : Hp} {a : Addr} {o : HO} (n : H a = none) : Same H (upd H a o) := fun b u e => by
  rw [upd_ne (ne_of_none e n)]
  exact e
theorem upd_swap {H : Hp} {a b : Addr} {o u : HO} (n : a ≠ b) : upd (upd H a o) b u = upd (upd H b u) a o := by
  funext c
  by_cases h1 : c = b
  · subst h1
    rw [upd_same, upd_ne (Ne.symm n), upd_same]
  · rw [upd_ne h1]
    by_cases h2 : c = a
    · subst h2; rw [upd_same, upd_same]
    · rw [upd_ne h2, upd_ne h2, upd_ne h1]
/-- where a list of pairs is made -/
structure LZ (X : Cx) (pins : List (Addr × Obj)) (σ : L2.St) (H0 Hi : Hp) (s : Shared) (I S l1 l2 : Nat) (us xs ys : List V) : Prop where
  iv : Inv X pins σ (upd Hi S (.lst us)) s
  nS : Hi S = none
  st : Same H0 Hi
  z : Z2 s.heap I l1 l2 us.length true true
  f : Free2 s.heap I ∨ ∃ T, Out2 s.heap I T
  fp : ∀ c, c ∈ [I + 4, I + 2, I + 3, I, I + 1] → FpOk X pins (upd Hi S (.lst us)) c
  pr : PairsAt Hi us xs ys
  lz : us.length ≤ min xs.length ys.length
section
variable {X : Cx} {pins : List (Addr × Obj)} {σ : L2.St} {H0 : Hp} {I S l1 l2 : Nat} {xs ys : List V}
theorem ne5 {S c : Nat} (h : I + 4 < S) (hc : c ∈ [I + 4, I + 2, I + 3, I, I + 1]) : c ≠ S := by
  have e' : c = I + 4 ∨ c = I + 2 ∨ c = I + 3 ∨ c = I ∨ c = I + 1 := by simpa using hc
  omega
theorem loop_zip {A : Around} {R : Result → Shared → Prop} (hh : A.handled = none) (res : Value) (b1 : l1 < I) (b2 : l2 < I) (bS : I + 4 < S) (q1 : SqT X.K H0 l1 xs) (q2 : SqT X.K H0 l2 ys) (few : min xs.length ys.length < sizeLine) :
    ∀ (k : Nat) (Hi : Hp) (s : Shared) (us : List V), min xs.length ys.length - us.length = k → LZ X pins σ H0 Hi s I S l1 l2 us xs ys →
    (∀ s' Hi' us', Inv X pins σ (upd Hi' S (.lst us')) s' → Hi' S = none → Same H0 Hi' → PairsAt Hi' us' xs ys → us'.length = min xs.length ys.length → R (.ok (.ret res)) s') →
    codeAny (model X.prog X.w) A (.builtin "list.extend.loop" ⟨[.ref S, .ref (I + 4), res], []⟩) R s := by
  intro k
  induction k with
  | zero =>
    intro Hi s us hk L hR
    obtain ⟨iv, nS, st, z, f, fp, pr, lz⟩ := L
    have t0 := sUpd (o := HO.lst us) nS
    obtain ⟨u1, r1, p1, _⟩ := iv.tuple ((st.trans t0).tup q1)
    obtain ⟨u2, r2, p2, _⟩ := iv.tuple ((st.trans t0).tup q2)
    have e1 := r1.length
    have e2 := r2.length
    have he : u1.toArray[us.length]? = none ∨ u2.toArray[us.length]? = none := by
      rcases Nat.le_total xs.length ys.length with h | h
      · exact .inl (by simp; omega)
      · exact .inr (by simp; omega)
    refine codeAny_builtin F.entry_extend_loop ?_
    rw [Around.under_plainId F.plain_extend_loop _]
    show wpAny _ A.in1 (pyNext (.ref (I + 4)) >>= _) _ _ s
    refine wpAny_bind (next2_end (A := A.in1) hh z f b1 b2 (show SO true s.heap l1 _ from p1) (show SO true s.heap l2 _ from p2) he fun g hk => ?_)
    have iv' : Inv X pins σ (upd Hi S (.lst us)) { s with heap := g } := iv.turnedL (t' := s.toks) (ch := [I, I + 1, I + 3, I + 4]) (fun c o hb q =>
      hk c o (fun q' => hb (by simp [q'])) (fun q' => hb (by simp [q'])) (fun q' => hb (by simp [q'])) (fun q' => hb (by simp [q'])) q) (fp4 fp)
    exact wpAny_pure (hR _ Hi us iv' nS st pr (by omega))
  | succ k ih =>
    intro Hi s us hk L hR
    obtain ⟨iv, nS, st, z, f, fp, pr, lz⟩ := L
    have t0 := sUpd (o := HO.lst us) nS
    obtain ⟨u1, r1, p1, _⟩ := iv.tuple ((st.trans t0).tup q1)
    obtain ⟨u2, r2, p2, _⟩ := iv.tuple ((st.trans t0).tup q2)
    have lx : us.length < xs.length := by omega
    have ly : us.length < ys.length := by omega
    have hx : xs[us.length]? = some xs[us.length] := List.getElem?_eq_getElem lx
    have hy : ys[us.length]? = some ys[us.length] := List.getElem?_eq_getElem ly
    obtain ⟨w1, hw1, rw1⟩ := r1.get hx
    obtain ⟨w2, hw2, rw2⟩ := r2.get hy
    have zl : I + 4 < s.heap.objs.size := by
      rcases f with f | ⟨T, f⟩
      · exact Heap.lt_size f.1
      · obtain ⟨_, _, hz, _⟩ := f
        exact Heap.lt_size hz
    have Sl : S < s.heap.objs.size := ObjOk.lt (iv.hok S _ upd_same)
    have key : ∀ g, Z2 g I l1 l2 (us.length + 1) true true → (∃ T, Out2 g I T) → IsPair g s.heap.objs.size w1 w2 → g.objs.size = s.heap.objs.size + 1 →
        (∀ c o, c ≠ I → c ≠ I + 1 → c ≠ I + 3 → c ≠ I + 4 → s.heap.get? c = some o → g.get? c = some o) →
        wpAny (model X.prog X.w) A.in1 (updateSeq S (·.push (.ref s.heap.objs.size)) >>= fun _ => again (.builtin "list.extend.loop" ⟨[.ref S, .ref (I + 4), res], []⟩))
          (fun fin s' => match fin with | .done f => R (.ok f) s' | .again c' => c'.quiet = true ∧ codeAny (model X.prog X.w) A c' R s') (fun e s' => R (.error e) s') { s with heap := g } := by
      intro g Z' F' hT hsz hk'
      have nT : Hi s.heap.objs.size = none := by
        have := iv.hok.fresh (Nat.le_refl s.heap.objs.size)
        rwa [upd_ne (Nat.ne_of_gt Sl)] at this
      have new : ObjOk X.prog X.w (upd (upd Hi S (.lst us)) s.heap.objs.size (.tup [xs[us.length], ys[us.length]])) g s.heap.objs.size (.tup [xs[us.length], ys[us.length]]) :=
        ⟨by show 2 ≤ sizeLine; decide, [w1, w2], .cons rw1 (.cons rw2 .nil), ⟨_, hT, rfl, _, rfl⟩⟩
      have I1 : Inv X pins σ (upd (upd Hi S (.lst us)) s.heap.objs.size (.tup [xs[us.length], ys[us.length]])) { s with heap := g } :=
        iv.turnedNew (t' := s.toks) (ch := [I, I + 1, I + 3, I + 4]) (fun c o hb q => hk' c o (fun q' => hb (by simp [q'])) (fun q' => hb (by simp [q'])) (fun q' => hb (by simp [q'])) (fun q' => hb (by simp [q'])) q) (fp4 fp) (Nat.le_refl _) new
      rw [upd_swap (Nat.ne_of_lt Sl)] at I1
      have nS2 : upd Hi s.heap.objs.size (.tup [xs[us.length], ys[us.length]]) S = none := by rw [upd_ne (Nat.ne_of_lt Sl)]; exact nS
      have sT : Same Hi (upd Hi s.heap.objs.size (.tup [xs[us.length], ys[us.length]])) := sUpd nT
      have oH : ∀ c, c < s.heap.objs.size → upd Hi s.heap.objs.size (.tup [xs[us.length], ys[us.length]]) c = Hi c := fun c hc => upd_ne (Nat.ne_of_lt hc)
      have hTn : upd Hi s.heap.objs.size (.tup [xs[us.length], ys[us.length]]) s.heap.objs.size = some (.tup [xs[us.length], ys[us.length]]) := upd_same
      generalize upd Hi s.heap.objs.size (.tup [xs[us.length], ys[us.length]]) = Hj at *
      obtain ⟨fit, its, c0, vits, hSg⟩ := (show ObjOk X.prog X.w (upd Hj S (.lst us)) g S (.lst us) from I1.hok S _ upd_same)
      have lits := vits.length
      have ul : us.length < sizeLine := by omega
      refine wpAny_bind (wpAny_updateSeq hSg rfl (wpAny_pure ⟨plainId_quiet F.plain_extend_loop _, ?_⟩) (by show its.toArray.size ≤ _; rw [List.size_toArray]; omega) (by show (its.toArray.push _).size ≤ sizeLine + 1; rw [Array.size_push, List.size_toArray]; omega))
      have hS2 := Heap.get?_update_self (Obj.mapSeq (·.push (.ref s.heap.objs.size))) hSg rfl
      have oth : ∀ b o, b ≠ S → g.get? b = some o → (g.update S (Obj.mapSeq (·.push (.ref s.heap.objs.size)))).get? b = some o := fun b o hb e => (Heap.get?_update_other _ _ (Ne.symm hb)).trans e
      have lu : (us ++ [V.ref s.heap.objs.size]).length = us.length + 1 := by rw [List.length_append]; rfl
      have I2 : Inv X pins σ (upd (upd Hj S (.lst us)) S (.lst (us ++ [.ref s.heap.objs.size]))) { s with heap := g.update S (Obj.mapSeq (·.push (.ref s.heap.objs.size))), toks := s.toks } :=
        I1.write (t' := s.toks) (x := S) (e := S) (by rw [upd_same]; trivial) (.inl rfl) (fun b o hb e => oth b o hb e) ⟨_, hS2⟩
          ⟨by rw [lu]; omega, its ++ [.ref s.heap.objs.size], _, (show Vals (us ++ [V.ref s.heap.objs.size]) (its ++ [Value.ref s.heap.objs.size]) from Vals.append vits (.cons (show RelV (V.ref s.heap.objs.size) (Value.ref s.heap.objs.size) from rfl) .nil)), by rw [hS2]; simp [Obj.mapSeq]; rfl⟩
      rw [upd_upd] at I2
      refine ih Hj _ (us ++ [.ref s.heap.objs.size]) (by rw [lu]; omega) ⟨I2, nS2, st.trans sT, ?_, .inr ?_, fun c hc => ?_, fun j u hj => ?_, by rw [lu]; omega⟩ hR
      · rw [lu]
        exact ⟨oth _ _ (ne5 bS (by simp)) Z'.ti, Z'.a1.to fun o q => oth _ _ (ne5 bS (by simp)) q, Z'.a2.to fun o q => oth _ _ (ne5 bS (by simp)) q⟩
      · obtain ⟨T, f', oT, hz, hT', lT⟩ := F'
        by_cases e : T = S
        · subst e
          exact ⟨T, f', _, oth _ _ (ne5 bS (by simp)) hz, hS2, lT⟩
        · exact ⟨T, f', oT, oth _ _ (ne5 bS (by simp)) hz, oth _ _ e hT', lT⟩
      · obtain ⟨x1, x2⟩ := fp c hc
        have cS := ne5 bS hc
        refine ⟨?_, x2⟩
        have cl : c < s.heap.objs.size := by
          have e' : c = I + 4 ∨ c = I + 2 ∨ c = I + 3 ∨ c = I ∨ c = I + 1 := by simpa using hc
          show (c : Nat) < _
          omega
        rw [upd_ne cS, oH c cl]
        rwa [upd_ne cS] at x1
      · rw [List.getElem?_append] at hj
        split at hj
        · exact pr.same sT j u hj
        · rename_i h
          have e : j - us.length = 0 := by
            cases hji : j - us.length with
            | zero => rfl
            | succ k => rw [hji] at hj; simp at hj
          have ej : j = us.length := by omega
          rw [e] at hj
          cases hj
          subst ej
          exact ⟨_, _, _, rfl, hx, hy, hTn⟩
    refine codeAny_builtin F.entry_extend_loop ?_
    rw [Around.under_plainId F.plain_extend_loop _]
    show wpAny _ A.in1 (pyNext (.ref (I + 4)) >>= _) _ _ s
    have hw1' : u1.toArray[us.length]? = some w1 := by simpa using hw1
    have hw2' : u2.toArray[us.length]? = some w2 := by simpa using hw2
    rcases f with f | ⟨T, f⟩
    · refine wpAny_bind (next2_item z f b1 b2 (show SO true s.heap l1 _ from p1) (show SO true s.heap l2 _ from p2) hw1' hw2' fun g Z' z' to' hT hsz hk' => ?_)
      exact key g Z' ⟨_, false, _, z', hT, zl⟩ hT hsz hk'
    · refine wpAny_bind (next2_itemO z f b1 b2 (show SO true s.heap l1 _ from p1) (show SO true s.heap l2 _ from p2) hw1' hw2' fun g Z' F' hT hsz hk' => ?_)
      exact key g Z' ⟨_, F'⟩ hT hsz hk'
def tLstZip (K : PySem.W.Frag) (ta : TA) : TE := fun σ H Q => ta σ H fun vs H1 => ∃ a b xs ys, vs = [.ref a, .ref b] ∧ SqT K H1 a xs ∧ SqT K H1 b ys ∧ min xs.length ys.length < sizeLine ∧
  ∀ (S : Addr) (us : List V) (H2 : Hp), H1 S = none → Same H1 H2 → H2 S = none → PairsAt H2 us xs ys → us.length = min xs.length ys.length → Q (.ref S) (upd H2 S (.lst us))
theorem pe_listZip {e e2 : Expr} {ta : TA} {p p2 q pos : Pos} (hg : Gl X "list") (hm : X.mg "list" = none) (hg2 : Gl X "zip") (hm2 : X.mg "zip" = none) (ha : PA X [e, e2] ta) (hc : X.calm = true := by rfl)
    (hs : starEach [e, e2] X.env = (false, eval e X.env) :: starEach [e2] X.env := by rfl) (hpl : (backTo q (starEach [e2] X.env)).any (·.1) = false := by rfl) :
    PE X (.Call (.Name "list" p) [.Call (.Name "zip" p2) [e, e2] [] q] [] pos) (tLstZip X.K ta) := by
  constructor
  intro pins s σ H Q I0 h
  have bl : bootBuiltins "list" = some (.type "list") := by decide +kernel
  refine Call_ (ld_blt I0 hg hm bl (PyProof.Rows.callWith_type1 (PyProof.Rows.args_cons ?_ rfl) rfl rfl))
  refine Call_ (ld_blt I0 hg2 hm2 PyProof.Rows.boot_zip (PyProof.Rows.callWith_type1 (thn (ha.run q pins s σ H _ I0 h) fun us s1 ⟨vs, H1, I1, r1, q1⟩ => ?_) hs hpl))
  obtain ⟨a, b, xs, ys, ex, qx, qy, few, k⟩ := q1
  subst ex
  cases r1 with
  | cons r rr =>
    cases rr with
    | cons r' rr =>
      cases rr
      cases r
      cases r'
      obtain ⟨u1, v1, p1, _⟩ := I1.tuple qx
      obtain ⟨u2, v2, p2, _⟩ := I1.tuple qy
      obtain ⟨o1, ho1, _⟩ := id p1
      obtain ⟨o2, ho2, _⟩ := id p2
      refine call2 (k1 := true) (k2 := true) (show SO true s1.heap a u1.toArray from p1) (show SO true s1.heap b u2.toArray from p2) fun g Z Fr hsz hk => PyProof.Rows.args_nil ?_
      have fp := fresh5 I1
      have I2 : Inv X pins σ H1 { s1 with heap := g } := I1.kept (t' := s1.toks) hk
      have b1 : a < s1.heap.objs.size := Heap.lt_size ho1
      have b2 : b < s1.heap.objs.size := Heap.lt_size ho2
      have hh : X.A.handled = none := I1.ok.hd hc
      generalize s1.heap.objs.size = J at *
      have zl : J + 4 < g.objs.size := by omega
      refine callType_codes (Q₁ := fun obj s₁ => obj = .ref g.objs.size ∧ s₁ = { s1 with heap := g.push { cls := .type "list", data := .seq #[] } }) F.called_list (F.typeCall_list_1 _) F.entry_list_init (code_list_new _ ⟨rfl, rfl⟩) fun obj s₁ h₁ => ?_
      obtain ⟨rfl, rfl⟩ := h₁
      have hS : (g.push { cls := .type "list", data := .seq #[] }).get? g.objs.size = some { cls := .type "list", data := .seq #[] } := Heap.get?_push_size _ rfl
      have nS : H1 g.objs.size = none := I2.hok.fresh (Nat.le_refl _)
      have up : ∀ c o, g.get? c = some o → (g.push { cls := .type "list", data := .seq #[] }).get? c = some o := fun c o e => Heap.get?_push_of_some _ e
      have I3 : Inv X pins σ (upd H1 g.objs.size (.lst [])) { s1 with heap := g.push { cls := .type "list", data := .seq #[] } } := I2.laid (t' := s1.toks) up (Nat.le_refl _) ⟨Nat.zero_le _, [], _, .nil, hS⟩
      refine ⟨⟨_, hS, rfl⟩, F.args_list_init_2 _ _, ?_⟩
      generalize hSS : g.objs.size = S at *
      show wpAny _ _ (do let old ← Builtin.List.listItems (.ref S); Builtin.List.listUpdate (.ref S) (fun _ => #[]); letGo old.toList.reverse; Builtin.List.listExtendWith (.ref S) (.ref (J + 4)) .none) _ _ _
      refine wpAny_bind ?_
      unfold Builtin.List.listItems
      refine wpAny_bind (wpAny_seqItems hS rfl (wpAny_pure ?_))
      show wpAny _ _ (updateSeq S (fun _ => #[]) >>= fun _ => letGo (#[] : Array Value).toList.reverse >>= fun _ => Builtin.List.listExtendWith (.ref S) (.ref (J + 4)) .none) _ _ _
      refine wpAny_bind (wpAny_updateSeq hS rfl ?_)
      have hS2 := Heap.get?_update_self (Obj.mapSeq (fun _ => (#[] : Array Value))) hS rfl
      refine wpAny_bind (wpAny_letGo ?_)
      have oth : ∀ c o, c ≠ S → g.get? c = some o → ((g.push { cls := .type "list", data := .seq #[] }).update S (Obj.mapSeq (fun _ => (#[] : Array Value)))).get? c = some o := fun c o hb e => (Heap.get?_update_other _ _ (Ne.symm hb)).trans (up c o e)
      have oth0 : ∀ c o, c ≠ S → (g.push { cls := .type "list", data := .seq #[] }).get? c = some o → ((g.push { cls := .type "list", data := .seq #[] }).update S (Obj.mapSeq (fun _ => (#[] : Array Value)))).get? c = some o := fun c o hb e => (Heap.get?_update_other _ _ (Ne.symm hb)).trans e
      unfold Builtin.List.listExtendWith
      have hz1 := oth _ _ (Nat.ne_of_lt zl) Fr.1
      refine wpAny_bind (wpAny_typeOf (T := "zip") ⟨_, hz1, rfl⟩ ?_)
      have nJ : S ≠ J + 4 := Nat.ne_of_gt zl
      have h1 : Builtin.List.listSameRef (.ref S) (.ref (J + 4)) = false := by simp [Builtin.List.listSameRef, nJ]
      have h2 : (Value.type "zip" == Value.type "list") = false := by decide
      have h3 : (Value.type "zip" == Value.type "tuple") = false := by decide
      simp only [h1, h2, h3, Bool.or_false, Bool.false_eq_true, if_false]
      refine wpAny_bind (wpAny_pyIter_zip hz1 ?_)
      refine wpAny_bind (wpAny_holding ?_)
      unfold Builtin.List.listLengthHint
      refine wpAny_bind (wpAny_specialOf (T := "zip") ⟨_, hz1, rfl⟩ zip_no_len ?_)
      show wpAny _ _ (specialOf (Value.ref (J + 4)) (Str.ofString "__length_hint__") >>= _) _ _ _
      refine wpAny_bind (wpAny_specialOf (T := "zip") ⟨_, hz1, rfl⟩ zip_no_hint ?_)
      refine wpAny_pure ?_
      show wpAny _ _ (rule "list.extend.makes-room" >>= fun _ => Builtin.List.listTouch (.ref S) >>= fun _ => again (.builtin "list.extend.loop" ⟨[.ref S, .ref (J + 4), .none], []⟩)) _ _ _
      refine wpAny_bind (wpAny_rule ?_)
      refine wpAny_bind ?_
      show wpAny _ _ (updateSeq S (·.push .none) >>= fun _ => updateSeq S (·.pop)) _ _ _
      refine wpAny_bind (wpAny_updateSeq hS2 rfl ?_)
      have hS3 := Heap.get?_update_self (Obj.mapSeq (·.push Value.none)) hS2 rfl
      refine wpAny_updateSeq (hz := by seq_fits) hS3 rfl ?_
      have hS4 := Heap.get?_update_self (Obj.mapSeq (·.pop)) hS3 rfl
      have oth4 : ∀ c o, c ≠ S → (g.push { cls := .type "list", data := .seq #[] }).get? c = some o → ((((g.push { cls := .type "list", data := .seq #[] }).update S (Obj.mapSeq (fun _ => (#[] : Array Value)))).update S (Obj.mapSeq (·.push Value.none))).update S (Obj.mapSeq (·.pop))).get? c = some o :=
        fun c o hb e => (Heap.get?_update_other _ _ (Ne.symm hb)).trans ((Heap.get?_update_other _ _ (Ne.symm hb)).trans (oth0 c o hb e))
      generalize (((g.push { cls := .type "list", data := .seq #[] }).update S (Obj.mapSeq (fun _ => (#[] : Array Value)))).update S (Obj.mapSeq (·.push Value.none))).update S (Obj.mapSeq (·.pop)) = g4 at *
      have I4 : Inv X pins σ (upd (upd H1 S (.lst [])) S (.lst [])) { s1 with heap := g4, toks := s1.toks } := I3.write (t' := s1.toks) (x := S) (e := S) (by rw [upd_same]; trivial) (.inl rfl) (fun c o hb e => oth4 c o hb e) ⟨_, hS4⟩ ⟨Nat.zero_le _, [], _, .nil, by rw [hS4]; rfl⟩
      rw [upd_upd] at I4
      have oth5 : ∀ c o, c ≠ S → g.get? c = some o → g4.get? c = some o := fun c o hb e => oth4 c o hb (up c o e)
      refine wpAny_pure ⟨plainId_quiet F.plain_extend_loop _, loop_zip (A := X.A.in1) (H0 := H1) hh .none b1 b2 zl qx qy few _ H1 _ [] rfl ⟨I4, nS, Same.refl _, ⟨oth5 _ _ (ne5 zl (by simp)) Z.ti, Z.a1.to fun o e => oth5 _ _ (ne5 zl (by simp)) e, Z.a2.to fun o e => oth5 _ _ (ne5 zl (by simp)) e⟩, .inl ⟨oth5 _ _ (ne5 zl (by simp)) Fr.1, ?_⟩, fun c hc => ?_, fun j u e => by simp at e, Nat.zero_le _⟩ fun s' Hi' us' I5 n5 st5 pr5 l5 => ?_⟩
      · obtain ⟨x, y, e⟩ := Fr.2
        exact ⟨x, y, oth5 _ _ (ne5 zl (by simp)) e⟩
      · obtain ⟨x1, x2⟩ := fp c hc
        exact ⟨by rw [upd_ne (ne5 zl hc)]; exact x1, x2⟩
      · exact ⟨rfl, .ref S, _, I5, rfl, k S us' Hi' nS st5 n5 pr5 l5⟩
end
end Zq
namespace Ov
open PySem PySem.Spec PyProof.Rows L2
def top (i : Nat) : Stmt := PySem.Challenge.pw_overlapcode_k50_states_along_codes.main.body.getD i (.Pass ⟨0, 0, 0, 0⟩)
abbrev s_wall : Stmt := top 0
abbrev sIsInt : Stmt := top 2
abbrev sBetween : Stmt := top 3
abbrev sAscending : Stmt := top 4
abbrev cOverlapError : Stmt := top 6
abbrev cInvalidInstructionSet : Stmt := top 7
abbrev cInvalidProgram : Stmt := top 8
abbrev cInvalidEntries : Stmt := top 9
abbrev cTooManyStates : Stmt := top 10
abbrev cInstructionSet : Stmt := top 16
abbrev sAreInstr : Stmt := top 17
abbrev sIsInstr : Stmt := top 18
abbrev sIsName : Stmt := top 19
abbrev s_is_program : Stmt := top 22
abbrev s_check_program : Stmt := top 23
abbrev s_step_lengths : Stmt := top 24
abbrev s_is_step : Stmt := top 25
abbrev cStateMachine : Stmt := top 27
abbrev s_padding_by_opcode : Stmt := top 28
abbrev s_opcode_steps : Stmt := top 29
abbrev s_decoder_behind : Stmt := top 30
abbrev s_padding_decoder : Stmt := top 31
abbrev s_step_decoder : Stmt := top 32
abbrev s_state_count : Stmt := top 37
abbrev s_check_overlay : Stmt := top 38
abbrev s_check_programs : Stmt := top 39
abbrev s_check_entries : Stmt := top 40
abbrev s_are_entries : Stmt := top 41
abbrev s_decoder_count : Stmt := top 42
abbrev s_longest_rest : Stmt := top 43
abbrev s_start_state : Stmt := top 45
abbrev s_next_state : Stmt := top 46
abbrev sBox : Stmt := top 48
abbrev sTake : Stmt := top 49
abbrev sOf : Stmt := top 50
abbrev sTable : Stmt := top 51
abbrev sBytes : Stmt := top 52
abbrev sLLenAt : Stmt := top 53
abbrev s_law_read : Stmt := top 54
abbrev s_law_known : Stmt := top 55
abbrev s_law_steps : Stmt := top 56
abbrev s_law_open : Stmt := top 57
abbrev s_law_plan : Stmt := top 58
abbrev s_law_gates : Stmt := top 59
abbrev s_law_decoder : Stmt := top 60
abbrev s_law_state : Stmt := top 61
abbrev sSmall : Stmt := top 62
abbrev s_law_along_right : Stmt := top 63
abbrev sLaw : Stmt := top 64
end Ov
namespace Ov
open PySem PySem.Spec PyProof.Rows L2
section
variable {P : Program} {w : World} {K : PySem.W.Frag} {mg : Str → Option Value} {base : Heap}
/-! ### is_integer, is_integer_between -/
def spIsInt : Sp := fun vs H Q _ => ∃ (v : Int), vs = [.int v] ∧ Q (.bl true) H
theorem scIsInt : FnScope ["value"] ["value"] (defScope sIsInt) := ⟨rfl, rfl, rfl, by decide +kernel, rfl, by decide +kernel, by decide +kernel⟩
theorem ok_isInt {f : Addr} {fd : FuncData} {k : Nat} (F : Fun K "is_integer" "is_integer" sIsInt f fd) (T : Bi mg) : FnOk P w K mg base CX0 (k + 1) f fd ["value"] spIsInt := by
  refine F.ok scIsInt (fun vs H Q E h => ?_) (fun cdv A outer s H vs Q E hr h => ?_)
  · obtain ⟨v, rfl, _⟩ := h
    rfl
  · obtain ⟨v, rfl, q⟩ := h
    refine ⟨_, pss_one (ps_ret (pe_and (pe_callB call_isi (by rfl) T.isi (by decide +kernel) (pa_cons (pv 0) (pa_cons (pe_bltn (v := .ty "int") (u := .type "int") (by rfl) T.int (by decide +kernel) rfl) pa_nil)))
      (pe_one (pe_not (pe_callB call_isi (by rfl) T.isi (by decide +kernel) (pa_cons (pv 0) (pa_cons (pe_bltn (v := .ty "bool") (u := .type "bool") (by rfl) T.bool (by decide +kernel) rfl) pa_nil))))))), ?_⟩
    refine ⟨_, rfl, _, _, _, _, _, rfl, .ty _, .base (.int _), kit_ty (by decide +kernel : kitB "int" "int" = some true), _, rfl, iteT ?_⟩
    exact ⟨_, rfl, _, _, _, _, _, rfl, .ty _, .base (.int _), kit_ty (by decide +kernel : kitB "int" "bool" = some false), _, rfl, q⟩
def spBetween : Sp := fun vs H Q _ => ∃ (v lo hi : Int), vs = [.int v, .int lo, .int hi] ∧ lo ≤ v ∧ v ≤ hi ∧ Q (.bl true) H
theorem scBetween : FnScope ["value", "least", "most"] ["value", "least", "most"] (defScope sBetween) := ⟨rfl, rfl, rfl, by decide +kernel, rfl, by decide +kernel, by decide +kernel⟩
theorem ok_between {f fI : Addr} {fd fdI : FuncData} {k : Nat} (F : Fun K "is_integer_between" "is_integer_between" sBetween f fd) (T : Bi mg) (I : Def K mg "is_integer" sIsInt fI fdI ["value"]) : FnOk P w K mg base CX0 (k + 2) f fd ["value", "least", "most"] spBetween := by
  have GI : FnOk P w K mg base CX0 (k + 1) fI fdI ["value"] spIsInt := ok_isInt I.fn T
  refine F.ok scBetween (fun vs H Q E h => ?_) (fun cdv A outer s H vs Q E hr h => ?_)
  · obtain ⟨v, lo, hi, rfl, _⟩ := h
    rfl
  · obtain ⟨v, lo, hi, rfl, h1, h2, q⟩ := h
    refine ⟨_, pss_one (ps_ret (pe_and (pe_call GI hr (by rfl) I.gl I.fn.kp I.bi .nil pass0 (pa_cons (pv 0) pa_nil))
        (pe_one (pe_chain op_le op_le (pv 1) (pv 0) (pv 2))))), ?_⟩
    refine ⟨_, rfl, v, rfl, _, rfl, iteT ?_⟩
    refine ⟨_, rfl, _, rfl, _, _, rfl, rfl, _, rfl, ?_⟩
    rw [decide_eq_true h1]
    refine iteT ⟨_, rfl, _, _, rfl, rfl, ?_⟩
    show Q (.bl (decide (v ≤ hi))) H
    rw [decide_eq_true h2]
    exact q
/-! ### is_ascending -/
def spAscending (K : PySem.W.Frag) : Sp := fun vs H Q _ => ∃ (a : Addr) (ns : List Int), vs = [.ref a] ∧ SqT K H a (ns.map V.int) ∧ ns.length ≤ 1000 ∧ ns.Pairwise (· < ·) ∧ ∀ H', Same H H' → Q (.bl true) H'
theorem scAscending : FnScope ["numbers", "low", "high"] ["numbers"] (defScope sAscending) := ⟨rfl, rfl, rfl, by decide +kernel, rfl, by decide +kernel, by decide +kernel⟩
theorem ok_ascending {f : Addr} {fd : FuncData} {k : Nat} (F : Fun K "is_ascending" "is_ascending" sAscending f fd) (T : Bi mg) : FnOk P w K mg base CX0 (k + 1) f fd ["numbers"] (spAscending K) := by
  refine F.ok scAscending (fun vs H Q E h => ?_) (fun cdv A outer s H vs Q E hr h => ?_)
  · obtain ⟨a, ns, rfl, _⟩ := h
    rfl
  · obtain ⟨a, ns, rfl, hS, hlen, hasc, q⟩ := h
    refine ⟨_, pss_one (ps_ret (pe_callB (cr_all rfl) (by rfl) T.all (by decide +kernel) (pa_cons
      (pe_lc (own := [("low", 1), ("high", 2)]) (g := gTup K 2 (gCons (gName 1) (gCons (gName 2) gNil))) (tt := tYes) (by rfl) scAscending.nd (RZ.pi_zipA (by rfl) T.zip (pa_cons (pv 0) (pa_cons (pe_slice sl_tupA (pv 0) (po_some pe_int) po_none) pa_nil)))
        (blkOk_by (own := [("low", 1), ("high", 2)]) (N := ["numbers", "low", "high"]) (sc := defScope sAscending) (by decide +kernel))
        (fun _ _ _ _ _ => pg_tup rfl (pgs_cons (pg_name (i := 1) scAscending.nd rfl (Or.inl rfl)) (pgs_cons (pg_name (i := 2) scAscending.nd rfl (Or.inl rfl)) pgs_nil)))
        (fun _ _ _ _ _ => pts_nil) (fun _ _ _ _ _ => pe_cmpR op_lt (pv 1) (pv 2) (nomark _))) pa_nil))), ?_⟩
    -- zip(numbers, numbers[1:])
    refine ⟨_, rfl, _, rfl, 1, rfl, a, ns.map V.int, rfl, hS, fun hw => ?_, fun hw c nc => ?_⟩
    · have e0 : ns = [] := List.map_eq_nil_iff.mp (cut1_whole hw)
      subst e0
      refine ⟨a, a, [], [], rfl, .inr ⟨hS, hS, fun D nD => lc_it (walk_zipT (xs := []) (ys := []) rfl) (fun i H2 => i = 0 ∧ Mk H H2 D []) ⟨rfl, .start nD⟩ (fun i H2 _ p => ⟨p.2.same.tup hS, p.2.same.tup hS⟩) (fun i x H2 H3 hi => absurd hi (by show ¬ i < 0; omega)) (fun H2 p => ?_)⟩⟩
      exact ⟨D, [], rfl, .inl (.inl p.2.at_), q H2 p.2.same⟩
    · have s1 : Same H (upd H c (.tup (cutV (ns.map V.int) (some 1) none))) := same_upd nc
      have hc : SqT K (upd H c (.tup (cutV (ns.map V.int) (some 1) none))) c ((ns.drop 1).map V.int) := .inl (.inl (by rw [upd_same, cut1, List.map_drop]))
      refine ⟨a, c, ns.map V.int, (ns.drop 1).map V.int, rfl, .inr ⟨s1.tup hS, hc, fun D nD => lc_it (walk_zipT (xs := ns.map V.int) (ys := (ns.drop 1).map V.int) rfl)
        (fun i H2 => Mk (upd H c (.tup (cutV (ns.map V.int) (some 1) none))) H2 D ((List.replicate i true).map V.bl)) (.start nD) (fun i H2 _ p => ⟨p.same.tup (s1.tup hS), p.same.tup hc⟩) (fun i x H2 H3 hi p y => ?_) (fun H2 p => ?_)⟩⟩
      · obtain ⟨t, x1, x2, rfl, nt, rfl, f1, f2⟩ := y
        have hi' : i < min ns.length (ns.length - 1) := by simpa using hi
        have h1 : i < ns.length := by omega
        have h2 : i + 1 < ns.length := by omega
        have e1 : x1 = .int ns[i] := by
          have : (ns.map V.int)[i]? = some x1 := f1
          rw [List.getElem?_map, List.getElem?_eq_getElem h1] at this
          exact (Option.some.inj this).symm
        have e2 : x2 = .int ns[i + 1] := by
          have : ((ns.drop 1).map V.int)[i]? = some x2 := f2
          rw [List.getElem?_map, List.getElem?_drop, Nat.add_comm 1 i, List.getElem?_eq_getElem h2] at this
          exact (Option.some.inj this).symm
        have hlt : ns[i] < ns[i + 1] := List.pairwise_iff_getElem.mp hasc i (i + 1) h1 h2 (by omega)
        refine ⟨t, [x1, x2], rfl, .inl (.inl upd_same), rfl, x1, [x2], rfl, x2, [], rfl, rfl, rfl, x1, rfl, x2, rfl, _, _, e1, e2, _, (by rw [upd_ne (ne_of_none p.at_ nt)]; exact p.at_), (by rw [List.length_map, List.length_replicate]; exact small1000 (by omega)), ?_⟩
        show Mk _ (upd _ D (.lst (_ ++ [V.bl (decide (ns[i] < ns[i + 1]))]))) D _
        rw [decide_eq_true hlt, List.replicate_succ', List.map_append]
        exact p.put (same_upd nt)
      · refine ⟨D, _, rfl, .inl (.inl p.at_), ?_⟩
        rw [all_true]
        exact q H2 (s1.trans p.same)
end
end Ov

namespace Ov
open PySem PySem.Spec PyProof.Rows L2
/-- a box of numbers: what is left of its own digits, a number, and how many were mixed -/
def BoxAt (H : Hp) (p : Addr) (n : Nat) : Prop := ∃ a b c : Int, H p = some (.lst [.int a, .int b, .int c]) ∧ 0 ≤ a ∧ a < 2 ^ 800 ∧ 0 ≤ b ∧ b < 2 ^ 62 ∧ 0 ≤ c ∧ c ≤ n
theorem BoxAt.mono {H : Hp} {p : Addr} {n m : Nat} (h : BoxAt H p n) (l : n ≤ m) : BoxAt H p m := by
  obtain ⟨a, b, c, e, h1, h2, h3, h4, h5, h6⟩ := h
  exact ⟨a, b, c, e, h1, h2, h3, h4, h5, by omega⟩
theorem BoxAt.same {H H' : Hp} {p : Addr} {n : Nat} (h : BoxAt H p n) (s : Same H H') : BoxAt H' p n := by
  obtain ⟨a, b, c, e, r⟩ := h
  exact ⟨a, b, c, s _ _ e, r⟩
/-- all that stood, but at p, stands -/
def But (p : Addr) (H H' : Hp) : Prop := ∀ b o, H b = some o → b ≠ p → H' b = some o
theorem But.refl (p : Addr) (H : Hp) : But p H H := fun _ _ e _ => e
theorem But.trans {p : Addr} {H H1 H2 : Hp} (a : But p H H1) (b : But p H1 H2) : But p H H2 := fun c o e n => b c o (a c o e n) n
theorem But.of {p : Addr} {H H1 : Hp} (a : Same H H1) : But p H H1 := fun c o e _ => a c o e
theorem But.free {p l : Addr} {H H' : Hp} (e : But p H H') (hp : H p ≠ none) (h : H' l = none) (hp' : H' p ≠ none) : H l = none := by
  cases q : H l with
  | none => rfl
  | some o =>
    by_cases hl : l = p
    · subst hl; exact absurd h hp'
    · rw [e l o q hl] at h; cases h
theorem BoxAt.ne {H : Hp} {p : Addr} {n : Nat} (h : BoxAt H p n) : H p ≠ none := by
  obtain ⟨a, b, c, e, _⟩ := h
  rw [e]; exact fun z => nomatch z
section
variable {P : Program} {w : World} {K : PySem.W.Frag} {mg : Str → Option Value} {base : Heap}
/-! ### _law_box -/
def spBox (K : PySem.W.Frag) : Sp := fun vs H Q _ => ∃ (a : Addr) (ns : List Int) (j : Nat), vs = [.ref a, .int j] ∧ SqL K H a (ns.map V.int) ∧ j ≤ 63 ∧ ∀ H' p, Same H H' → H p = none → BoxAt H' p 0 → Q (.ref p) H'
theorem scBox : FnScope ["_law_script", "_law_k", "_law_cell", "_law_own"] ["_law_script", "_law_k"] (defScope sBox) := ⟨rfl, rfl, rfl, by decide +kernel, rfl, by decide +kernel, by decide +kernel⟩
theorem big_pos : (0 : Int) < 10 ^ (60 : Int).toNat * 10 ^ (60 : Int).toNat * 10 ^ (60 : Int).toNat * 10 ^ (60 : Int).toNat := by decide +kernel
theorem big_lt : (10 : Int) ^ (60 : Int).toNat * 10 ^ (60 : Int).toNat * 10 ^ (60 : Int).toNat * 10 ^ (60 : Int).toNat ≤ 2 ^ 800 := by decide +kernel
/-- what is left of the text behind the cell -/
def tBoxRest : TS := tSeq (tAsg (tOp (rI CMul fun i j => .int (i * j)) (tOp (rI (fun _ j => 0 < j) fun i j => .int (i % j)) (tCB (fun xs H Q => ∃ i, xs = [.int i] ∧ Q (.int (if i < 0 then -i else i)) H) (tCons (tVar 2) tNil))
    (tOp (rI CMulW fun i j => .int (i * j)) (tOp (rI CMulW fun i j => .int (i * j)) (tOp (rI CMulW fun i j => .int (i * j)) (tOp (rI CPow fun i j => .int (i ^ j.toNat)) (tC (.int 10)) (tC (.int 60))) (tOp (rI CPow fun i j => .int (i ^ j.toNat)) (tC (.int 10)) (tC (.int 60)))) (tOp (rI CPow fun i j => .int (i ^ j.toNat)) (tC (.int 10)) (tC (.int 60)))) (tOp (rI CPow fun i j => .int (i ^ j.toNat)) (tC (.int 10)) (tC (.int 60)))))
    (tCB (fun xs H Q => (∃ i, xs = [.int i] ∧ Q (.int i) H) ∨ ∃ k, xs = [.bl k] ∧ Q (.int (if k then 1 else 0)) H) (tCons (tOp (rI0 fun i j => .bl (decide (j ≤ i))) (tCB (fun xs H Q => ∃ i, xs = [.int i] ∧ Q (.int (if i < 0 then -i else i)) H) (tCons (tVar 2) tNil)) (tOp (rI CPow fun i j => .int (i ^ j.toNat)) (tC (.int 10)) (tC (.int 18)))) tNil))) (gName 3))
  (tRet (tLst (tCons (tVar 3) (tCons (tOp (rI (fun _ j => 0 < j) fun i j => .int (i % j)) (tOp (rI CMul fun i j => .int (i * j)) (tOp (rI0 fun i j => .int (i + j)) (tOp (rI0 fun i j => .int (i + j)) (tOp (rI (fun _ j => 0 < j) fun i j => .int (i % j)) (tVar 2) (tC (.int 2305843009213693951))) (tOp (rI CMul fun i j => .int (i * j)) (tOp (rI CMul fun i j => .int (i * j)) (tC (.int 7919)) (tVar 1)) (tVar 1))) (tC (.int 43))) (tC (.int 48271))) (tC (.int 2305843009213693921))) (tCons (tC (.int 0)) tNil)))))
theorem own_ok {x : Int} (h0 : 0 ≤ x) (h1 : x < 2 ^ 800) (c : Bool) : 0 ≤ x * (if c = true then 1 else 0) ∧ x * (if c = true then 1 else 0) < 2 ^ 800 := by
  cases c
  · rw [if_neg (by decide), Int.mul_zero]
    exact ⟨by decide, by decide +kernel⟩
  · rw [if_pos rfl, Int.mul_one]
    exact ⟨h0, h1⟩
theorem bit_ok (c : Bool) : -(2 ^ 64) < (if c = true then (1 : Int) else 0) ∧ (if c = true then (1 : Int) else 0) < 2 ^ 64 := by
  cases c <;> exact ⟨by decide, by decide⟩
theorem box_rest {H : Hp} {D : Ends} {a : Addr} {j : Nat} {cell : Int} {y : Option V} (hj : j ≤ 63) (q : ∀ (H' : Hp) (p : Addr), Same H H' → H p = none → BoxAt H' p 0 → D.rt (V.ref p) H') : tBoxRest D [some (.ref a), some (.int j), some (.int cell), y] H := by
  have h60 : ((10 : Int) ^ (60 : Int).toNat).natAbs < 2 ^ 200 := by decide +kernel
  have h120 : ((10 : Int) ^ (60 : Int).toNat * 10 ^ (60 : Int).toNat).natAbs < 2 ^ 400 := by decide +kernel
  have h180 : ((10 : Int) ^ (60 : Int).toNat * 10 ^ (60 : Int).toNat * 10 ^ (60 : Int).toNat).natAbs < 2 ^ 600 := by decide +kernel
  have hp : CPow 10 60 := ⟨by decide, by decide, by decide⟩
  have hp2 : CPow 10 18 := ⟨by decide, by decide, by decide⟩
  refine ⟨_, rfl, _, rfl, _, _, rfl, rfl, hp, _, _, rfl, rfl, hp, _, _, rfl, rfl, wide_mul h60 h60 (by decide) (by decide) (by decide), _, _, rfl, rfl, hp, _, _, rfl, rfl, wide_mul h120 h60 (by decide) (by decide) (by decide), _, _, rfl, rfl, hp, _, _, rfl, rfl, wide_mul h180 h60 (by decide) (by decide) (by decide), _, _, rfl, rfl, big_pos, ?_⟩
  have hm0 : 0 ≤ (if cell < 0 then -cell else cell) % (10 ^ (60 : Int).toNat * 10 ^ (60 : Int).toNat * 10 ^ (60 : Int).toNat * 10 ^ (60 : Int).toNat) := Int.emod_nonneg _ (Int.ne_of_gt big_pos)
  have hm1 : (if cell < 0 then -cell else cell) % (10 ^ (60 : Int).toNat * 10 ^ (60 : Int).toNat * 10 ^ (60 : Int).toNat * 10 ^ (60 : Int).toNat) < 2 ^ 800 := Int.lt_of_lt_of_le (Int.emod_lt_of_pos _ big_pos) big_lt
  dsimp only
  generalize (if cell < 0 then -cell else cell) % (10 ^ (60 : Int).toNat * 10 ^ (60 : Int).toNat * 10 ^ (60 : Int).toNat * 10 ^ (60 : Int).toNat) = own at *
  refine ⟨_, rfl, _, rfl, _, _, rfl, rfl, hp2, _, _, rfl, rfl, .inr ⟨_, rfl, _, _, rfl, rfl, ?_, ?_⟩⟩
  · exact .inr (bit_ok _)
  dsimp only
  generalize decide ((10 : Int) ^ (18 : Int).toNat ≤ if cell < 0 then -cell else cell) = bb
  obtain ⟨ho0, ho1⟩ := own_ok hm0 hm1 bb
  generalize own * (if bb = true then 1 else 0) = o2 at *
  have hc0 : 0 ≤ cell % 2305843009213693951 := Int.emod_nonneg _ (by decide)
  have hc1 : cell % 2305843009213693951 < 2305843009213693951 := Int.emod_lt_of_pos _ (by decide)
  have hkk : (0 : Int) ≤ 7919 * (j : Int) * (j : Int) := Int.mul_nonneg (Int.mul_nonneg (by decide) (by omega)) (by omega)
  refine ⟨_, rfl, _, rfl, _, _, rfl, rfl, (show (0 : Int) < 2305843009213693951 by decide), _, rfl, _, _, rfl, rfl, .inl ⟨by decide, by decide⟩, _, rfl, _, _, rfl, rfl, .inr ⟨by omega, by omega⟩, _, _, rfl, rfl, _, _, rfl, rfl, _, _, rfl, rfl, .inr ⟨by decide, by decide⟩, _, _, rfl, rfl, (show (0 : Int) < 2305843009213693921 by decide), by show 3 ≤ sizeLine; decide, fun p np => ?_⟩
  exact q _ p (same_upd np) np ⟨_, _, _, upd_same, ho0, ho1, Int.emod_nonneg _ (by decide), Int.lt_of_lt_of_le (Int.emod_lt_of_pos _ (by decide)) (by decide), by decide, by decide⟩
theorem ok_box {f : Addr} {fd : FuncData} {k : Nat} (F : Fun K "_law_box" "_law_box" sBox f fd) (T : Bi mg) : FnOk P w K mg base CX0 (k + 1) f fd ["_law_script", "_law_k"] (spBox K) := by
  refine F.ok scBox (fun vs H Q E h => ?_) (fun cdv A' outer s H vs Q E hr h => ?_)
  · obtain ⟨a, ns, j, rfl, _⟩ := h
    rfl
  · obtain ⟨a, ns, j, rfl, hS, hj, q⟩ := h
    refine ⟨_, pss_cons (ps_set (i := 2) scBox.nd rfl (.inl rfl) (pe_ifExp (pt_cmpR op_lt (pv 1) (pe_callB call_len_seq (by rfl) T.len PySem.boot_len (pa_cons (pv 0) pa_nil)) (nomark _)) (pe_ix ix_list (pv 0) (pv 1) (fun _ _ => rfl)) pe_int))
      (pss_cons (ps_set (i := 3) scBox.nd rfl (.inl rfl) (pe_op op_mul (pe_op op_mod (pe_callB call_abs (by rfl) T.abs (by decide +kernel) (pa_cons (pv 2) pa_nil))
          (pe_op op_mulW (pe_op op_mulW (pe_op op_mulW (pe_op op_pow pe_int pe_int) (pe_op op_pow pe_int pe_int)) (pe_op op_pow pe_int pe_int)) (pe_op op_pow pe_int pe_int)))
        (pe_callTy call_int1 (by rfl) T.int (by decide +kernel) (pa_cons (pe_cmpR op_ge (pe_callB call_abs (by rfl) T.abs (by decide +kernel) (pa_cons (pv 2) pa_nil)) (pe_op op_pow pe_int pe_int) (nomark _)) pa_nil))))
      (pss_one (ps_ret (pe_lst (pa_cons (pv 3) (pa_cons (pe_op op_mod (pe_op op_mul (pe_op op_add (pe_op op_add (pe_op op_mod (pv 2) pe_int) (pe_op op_mul (pe_op op_mul pe_int (pv 1)) (pv 1))) pe_int) pe_int) pe_int) (pa_cons pe_int pa_nil))))))), ?_⟩
    refine ⟨_, rfl, _, rfl, a, _, rfl, .inl hS, _, _, rfl, rfl, _, rfl, ite2 (fun c => ?_) (fun c => ?_)⟩
    · have hj' : j < ns.length := by
        have := of_decide_eq_true c
        rw [List.length_map] at this
        omega
      refine ⟨_, rfl, _, rfl, a, _, _, _, rfl, rfl, hS, atI_nat (v := .int ns[j]) (by rw [List.getElem?_map, List.getElem?_eq_getElem hj']; rfl), ?_⟩
      exact box_rest (D := { nx := fun _ H' => Q .non H', rt := Q }) (y := none) hj q
    · exact box_rest (D := { nx := fun _ H' => Q .non H', rt := Q }) (y := none) hj q
end
end Ov
namespace Ov
open PySem PySem.Spec PyProof.Rows L2
section
variable {P : Program} {w : World} {K : PySem.W.Frag} {mg : Str → Option Value} {base : Heap}
/-! ### _law_take -/
def spTake : Sp := fun vs H Q _ => ∃ (p : Addr) (m : Int) (n : Nat), vs = [.ref p, .int m] ∧ BoxAt H p n ∧ n ≤ 2 ^ 40 ∧ 0 < m ∧ m < 2 ^ 200 ∧ ∀ H' (d : Int), But p H H' → BoxAt H' p (n + 1) → 0 ≤ d → d < m → (∀ b, H b = none → H' b = none) → Q (.int d) H'
theorem scTake : FnScope ["_law_box_here", "_law_many", "_law_digit", "_law_mixed"] ["_law_box_here", "_law_many"] (defScope sTake) := ⟨rfl, rfl, rfl, by decide +kernel, rfl, by decide +kernel, by decide +kernel⟩
theorem ok_take {f : Addr} {fd : FuncData} {k : Nat} (F : Fun K "_law_take" "_law_take" sTake f fd) : FnOk P w K mg base CX0 (k + 1) f fd ["_law_box_here", "_law_many"] spTake := by
  refine F.ok scTake (fun vs H Q E h => ?_) (fun cdv A' outer s H vs Q E hr h => ?_)
  · obtain ⟨p, m, n, rfl, _⟩ := h
    rfl
  · obtain ⟨p, m, n, rfl, ⟨a, b, c, hp, a0, a1, b0, b1, c0, c1⟩, hn, m0, m1, q⟩ := h
    refine ⟨_, pss_cons (ps_if (pt_cmpR op_gt (pe_ix ix_list (pv 0) pe_int (fun _ _ => rfl)) pe_int (nomark _))
        (pss_cons (ps_set (i := 2) scTake.nd rfl (.inl rfl) (pe_op op_mod (pe_ix ix_list (pv 0) pe_int (fun _ _ => rfl)) (pv 1)))
        (pss_cons (ps_asg (pe_op op_fdivW (pe_ix ix_list (pv 0) pe_int (fun _ _ => rfl)) (pv 1)) (pg_sub (pv 0) pe_int set_list))
        (pss_one (ps_ret (pv 2))))) pss_nil)
      (pss_cons (ps_asg (pe_op op_add (pe_ix ix_list (pv 0) pe_int (fun _ _ => rfl)) pe_int) (pg_sub (pv 0) pe_int set_list))
      (pss_cons (ps_set (i := 3) scTake.nd rfl (.inl rfl) (pe_op op_mod (pe_op op_mul (pe_op op_add (pe_op op_add (pe_ix ix_list (pv 0) pe_int (fun _ _ => rfl)) (pe_op op_mul (pe_op op_mul pe_int (pe_ix ix_list (pv 0) pe_int (fun _ _ => rfl))) (pe_ix ix_list (pv 0) pe_int (fun _ _ => rfl)))) pe_int) pe_int) pe_int))
      (pss_cons (ps_set (i := 3) scTake.nd rfl (.inl rfl) (pe_op op_mod (pe_op op_mul (pv 3) (pe_op op_add (pe_op op_mod (pv 3) pe_int) (pe_op op_mul pe_int (pe_ix ix_list (pv 0) pe_int (fun _ _ => rfl))))) pe_int))
      (pss_one (ps_ret (pe_op op_mod (pe_op op_add (pe_op op_fdiv (pv 3) pe_int) (pe_op op_fdiv (pv 3) pe_int)) (pv 1))))))), ?_⟩
    have i0 : ∀ x y z : V, atI [x, y, z] 0 = some x := fun x y z => atI_nat (j := 0) rfl
    have i1 : ∀ x y z : V, atI [x, y, z] 1 = some y := fun x y z => atI_nat (j := 1) rfl
    have i2 : ∀ x y z : V, atI [x, y, z] 2 = some z := fun x y z => atI_nat (j := 2) rfl
    refine ⟨_, rfl, p, _, _, _, rfl, rfl, SqL.of hp, i0 _ _ _, _, _, rfl, rfl, _, rfl, ?_⟩
    by_cases ha : 0 < a
    · rw [decide_eq_true ha]
      refine iteT ?_
      refine ⟨_, rfl, p, _, _, _, rfl, rfl, SqL.of hp, i0 _ _ _, _, rfl, _, _, rfl, rfl, m0, ?_⟩
      refine ⟨_, rfl, p, _, _, _, rfl, rfl, SqL.of hp, i0 _ _ _, _, rfl, _, _, rfl, rfl, wide_div (b := 200) m0 (by omega) (by decide) (by decide), _, rfl, p, _, _, 0, rfl, rfl, hp, rfl, _, rfl, ?_⟩
      refine q _ _ (fun x o e hx => by rw [upd_ne hx]; exact e) ⟨a / m, b, c, upd_same, ?_, ?_, b0, b1, c0, by omega⟩ (Int.emod_nonneg _ (by omega)) (Int.emod_lt_of_pos _ m0) (fun x e => by rw [upd_ne (fun z => by rw [z, hp] at e; cases e)]; exact e)
      · exact Int.ediv_nonneg a0 (by omega)
      · exact Int.lt_of_le_of_lt (Int.ediv_le_self _ a0) a1
    · rw [decide_eq_false ha]
      refine iteF ?_
      refine ⟨_, rfl, p, _, _, _, rfl, rfl, SqL.of hp, i2 _ _ _, _, _, rfl, rfl, _, rfl, p, _, _, 2, rfl, rfl, hp, rfl, ?_⟩
      have hp2 : (upd H p (.lst (([V.int a, V.int b, V.int c] : List V).set 2 (V.int (c + 1))))) p = some (.lst [V.int a, V.int b, V.int (c + 1)]) := upd_same
      have s2 : But p H (upd H p (.lst (([V.int a, V.int b, V.int c] : List V).set 2 (V.int (c + 1))))) := fun x o e hx => by rw [upd_ne hx]; exact e
      have f2 : ∀ x, H x = none → (upd H p (.lst (([V.int a, V.int b, V.int c] : List V).set 2 (V.int (c + 1))))) x = none := fun x e => by rw [upd_ne (fun z => by rw [z, hp] at e; cases e)]; exact e
      generalize upd H p (.lst (([V.int a, V.int b, V.int c] : List V).set 2 (V.int (c + 1)))) = H2 at *
      have hc2 : c + 1 ≤ 2 ^ 40 + 1 := by omega
      refine ⟨_, rfl, p, _, _, _, rfl, rfl, SqL.of hp2, i1 _ _ _, _, rfl, p, _, _, _, rfl, rfl, SqL.of hp2, i2 _ _ _, _, _, rfl, rfl, .inl ⟨by decide, by decide⟩, _, rfl, p, _, _, _, rfl, rfl, SqL.of hp2, i2 _ _ _, _, _, rfl, rfl, .inr ⟨by omega, by omega⟩, _, _, rfl, rfl, _, _, rfl, rfl, _, _, rfl, rfl, .inr ⟨by decide, by decide⟩, _, _, rfl, rfl, (show (0 : Int) < 2305843009213693921 by decide), ?_⟩
      dsimp only
      have x0 : 0 ≤ (b + 65537 * (c + 1) * (c + 1) + 11) * 48271 % 2305843009213693921 := Int.emod_nonneg _ (by decide)
      have x1 : (b + 65537 * (c + 1) * (c + 1) + 11) * 48271 % 2305843009213693921 < 2305843009213693921 := Int.emod_lt_of_pos _ (by decide)
      generalize (b + 65537 * (c + 1) * (c + 1) + 11) * 48271 % 2305843009213693921 = x at *
      refine ⟨_, rfl, _, rfl, _, _, rfl, rfl, (show (0 : Int) < 1000003 by decide), _, rfl, p, _, _, _, rfl, rfl, SqL.of hp2, i2 _ _ _, _, _, rfl, rfl, .inl ⟨by decide, by decide⟩, _, _, rfl, rfl, _, _, rfl, rfl, .inl ⟨by omega, by omega⟩, _, _, rfl, rfl, (show (0 : Int) < 2305843009213693907 by decide), ?_⟩
      dsimp only
      generalize x * (x % 1000003 + 99991 * (c + 1)) % 2305843009213693907 = y at *
      refine ⟨_, rfl, _, _, rfl, rfl, ⟨by decide, by decide⟩, _, rfl, _, _, rfl, rfl, ⟨by decide, by decide⟩, _, _, rfl, rfl, _, rfl, _, _, rfl, rfl, m0, ?_⟩
      exact q _ _ s2 ⟨a, b, c + 1, hp2, a0, a1, b0, b1, by omega, by omega⟩ (Int.emod_nonneg _ (by omega)) (Int.emod_lt_of_pos _ m0) f2
/-! ### _law_of -/
def spOf : Sp := fun vs H Q _ => ∃ (p l : Addr) (n : Nat) (xs : List V), vs = [.ref p, .ref l] ∧ BoxAt H p n ∧ n ≤ 2 ^ 40 ∧ H l = some (.lst xs) ∧ l ≠ p ∧ 0 < xs.length ∧ xs.length ≤ 1000 ∧ ∀ H' (v : V), v ∈ xs → But p H H' → BoxAt H' p (n + 1) → (∀ b, H b = none → H' b = none) → Q v H'
theorem scOf : FnScope ["_law_box_here", "_law_some"] ["_law_box_here", "_law_some"] (defScope sOf) := ⟨rfl, rfl, rfl, by decide +kernel, rfl, by decide +kernel, by decide +kernel⟩
theorem ok_of {f fT : Addr} {fd fdT : FuncData} {k : Nat} (F : Fun K "_law_of" "_law_of" sOf f fd) (T : Bi mg) (Tk : Def K mg "_law_take" sTake fT fdT ["_law_box_here", "_law_many"]) : FnOk P w K mg base CX0 (k + 2) f fd ["_law_box_here", "_law_some"] spOf := by
  have GT : FnOk P w K mg base CX0 (k + 1) fT fdT ["_law_box_here", "_law_many"] spTake := ok_take Tk.fn
  refine F.ok scOf (fun vs H Q E h => ?_) (fun cdv A' outer s H vs Q E hr h => ?_)
  · obtain ⟨p, l, n, xs, rfl, _⟩ := h
    rfl
  · obtain ⟨p, l, n, xs, rfl, B, hn, hl, hlp, h0, h1, q⟩ := h
    refine ⟨_, pss_one (ps_ret (pe_ix ix_list (pv 1) (pe_call GT hr (by rfl) Tk.gl Tk.fn.kp Tk.bi .nil pass0 (pa_cons (pv 0) (pa_cons (pe_callB call_len_seq (by rfl) T.len PySem.boot_len (pa_cons (pv 1) pa_nil)) pa_nil))) (fun _ _ => rfl))), ?_⟩
    refine ⟨_, rfl, _, rfl, _, rfl, l, _, rfl, .inl (SqL.of hl), p, _, n, rfl, B, hn, by omega, by omega, fun H' d bt B' d0 d1 fr => ?_⟩
    obtain ⟨i, rfl⟩ : ∃ i : Nat, d = i := ⟨d.toNat, by omega⟩
    have hi : i < xs.length := by omega
    exact ⟨l, xs, _, xs[i], rfl, rfl, SqL.of (bt _ _ hl hlp), atI_nat (List.getElem?_eq_getElem hi), q H' _ (List.getElem_mem hi) bt B' fr⟩
end
end Ov

namespace Ov
open PySem PySem.Spec PyProof.Rows L2
/-! ### names of instructions -/
def tail (c : Nat) : Nat := if c = 122 then 121 else 122
def nameOf (c t k : Nat) : List Nat := List.replicate (1 + t) c ++ List.replicate k (tail c)
theorem tail_ne (c : Nat) : tail c ≠ c := by
  unfold tail
  split <;> omega
theorem nameOf_inj {c t k c' t' k' : Nat} (h : nameOf c t k = nameOf c' t' k') : c = c' ∧ k = k' := by
  have hc : c = c' := by
    unfold nameOf at h
    rw [Nat.add_comm 1 t, Nat.add_comm 1 t', List.replicate_succ, List.replicate_succ] at h
    exact (List.cons.inj h).1
  subst hc
  refine ⟨rfl, ?_⟩
  have cnt : ∀ t k, (nameOf c t k).count (tail c) = k := fun t k => by
    unfold nameOf
    rw [List.count_append, List.count_replicate, List.count_replicate_self, if_neg]
    · omega
    · intro z
      exact tail_ne c (Eq.symm (by simpa using z))
  rw [← cnt t k, h, cnt]
theorem nameOf_len (c t k : Nat) : (nameOf c t k).length = 1 + t + k := by
  unfold nameOf
  rw [List.length_append, List.length_replicate, List.length_replicate]
theorem nameOf_low {c t k : Nat} (h1 : 97 ≤ c) (h2 : c ≤ 122) : ∀ x ∈ nameOf c t k, 97 ≤ x ∧ x ≤ 122 := by
  intro x hx
  unfold nameOf at hx
  rcases List.mem_append.mp hx with hx | hx
  · rw [(List.mem_replicate.mp hx).2]; exact ⟨h1, h2⟩
  · rw [(List.mem_replicate.mp hx).2]
    unfold tail
    split <;> omega
/-- an instruction -/
structure I4 where
  op : Nat
  nm : List Nat
  ln : Nat
  pad : Bool
/-- what is drawn for the place at -/
structure Drawn (lg first at_ : Nat) (x : I4) : Prop where
  nm : ∃ t, t < 3 ∧ x.nm = nameOf (97 + (first + 5 * at_) % 26) t (at_ / 26)
  ln : 1 ≤ x.ln ∧ x.ln ≤ lg
  pad : at_ = 0 → x.pad = true
/-- a valid table of instructions -/
structure TabOk (cnt lg : Nat) (is : List I4) : Prop where
  cb : 2 ≤ cnt ∧ cnt ≤ 256
  lb : lg ≤ 12
  ne : is ≠ []
  few : is.length ≤ 71
  asc : (is.map I4.op).Pairwise (· < ·)
  ops : ∀ x ∈ is, x.op < cnt
  len : ∀ x ∈ is, 1 ≤ x.ln ∧ x.ln ≤ lg
  nms : ∀ x ∈ is, 1 ≤ x.nm.length ∧ x.nm.length ≤ 8 ∧ ∀ c ∈ x.nm, 97 ≤ c ∧ c ≤ 122
  nd : (is.map I4.nm).Nodup
  fst : ∀ x, is[0]? = some x → x.pad = true
theorem names_nodup {lg first : Nat} {is : List I4} (hd : ∀ i x, is[i]? = some x → Drawn lg first i x) : (is.map I4.nm).Nodup := by
  rw [List.nodup_iff_pairwise_ne, List.pairwise_map, List.pairwise_iff_getElem]
  intro i j hi hj hij e
  obtain ⟨t, _, e1⟩ := (hd i _ (List.getElem?_eq_getElem hi)).nm
  obtain ⟨t', _, e2⟩ := (hd j _ (List.getElem?_eq_getElem hj)).nm
  rw [e1, e2] at e
  obtain ⟨h1, h2⟩ := nameOf_inj e
  omega
/-- an instruction as it stands -/
def I4.vs (x : I4) : List V := [.int (x.op : Int), .str (txt x.nm), .int (x.ln : Int), .bl x.pad]
/-- instructions, each a tuple of its own, in a tuple (or list) -/
def Rows (H : Hp) (rs : List Addr) (is : List I4) : Prop := rs.length = is.length ∧ ∀ (i : Nat) (r : Addr) (x : I4), rs[i]? = some r → is[i]? = some x → H r = some (.tup x.vs)
theorem Rows.same {H H' : Hp} {rs : List Addr} {is : List I4} (h : Rows H rs is) (s : Same H H') : Rows H' rs is := ⟨h.1, fun i r x h1 h2 => s _ _ (h.2 i r x h1 h2)⟩
theorem Rows.but {H H' : Hp} {p : Addr} {n : Nat} {rs : List Addr} {is : List I4} (h : Rows H rs is) (b : But p H H') (B : BoxAt H p n) : Rows H' rs is := by
  refine ⟨h.1, fun i r x h1 h2 => ?_⟩
  have hr := h.2 i r x h1 h2
  refine b _ _ hr fun z => ?_
  obtain ⟨a, b, c, e, _⟩ := B
  rw [z, e] at hr
  cases hr
theorem Rows.more {H : Hp} {rs : List Addr} {is : List I4} {r : Addr} {x : I4} (h : Rows H rs is) (hr : H r = some (.tup x.vs)) : Rows H (rs ++ [r]) (is ++ [x]) := by
  refine ⟨by rw [List.length_append, List.length_append, h.1]; rfl, fun i r' x' h1 h2 => ?_⟩
  by_cases c : i < rs.length
  · rw [List.getElem?_append_left c] at h1
    rw [List.getElem?_append_left (by rw [← h.1]; exact c)] at h2
    exact h.2 i r' x' h1 h2
  · have hl := (List.getElem?_eq_some_iff.mp h1).1
    rw [List.length_append] at hl
    have e : i = rs.length := by
      have : ([r] : List Addr).length = 1 := rfl
      omega
    subst e
    rw [List.getElem?_append_right (Nat.le_refl _), Nat.sub_self] at h1
    rw [h.1, List.getElem?_append_right (Nat.le_refl _), Nat.sub_self] at h2
    have e1 : r = r' := Option.some.inj h1
    have e2 : x = x' := Option.some.inj h2
    subst e1 e2
    exact hr
/-- a table: (byte count, instructions) -/
structure Tab (H : Hp) (t : Addr) (cnt lg : Nat) (is : List I4) (it : Addr) (rs : List Addr) : Prop where
  at_ : H t = some (.tup [.int (cnt : Int), .ref it])
  its : H it = some (.tup (rs.map V.ref))
  rows : Rows H rs is
  ok : TabOk cnt lg is
theorem Tab.same {H H' : Hp} {t : Addr} {cnt lg : Nat} {is : List I4} {it : Addr} {rs : List Addr} (h : Tab H t cnt lg is it rs) (s : Same H H') : Tab H' t cnt lg is it rs := ⟨s _ _ h.at_, s _ _ h.its, h.rows.same s, h.ok⟩
theorem ne_box {H : Hp} {p a : Addr} {n : Nat} {xs : List V} (B : BoxAt H p n) (h : H a = some (.tup xs)) : a ≠ p := fun z => by
  obtain ⟨_, _, _, e, _⟩ := B
  rw [z, e] at h
  cases h
theorem Tab.but {H H' : Hp} {p : Addr} {n : Nat} {t : Addr} {cnt lg : Nat} {is : List I4} {it : Addr} {rs : List Addr} (h : Tab H t cnt lg is it rs) (b : But p H H') (B : BoxAt H p n) : Tab H' t cnt lg is it rs :=
  ⟨b _ _ h.at_ (ne_box B h.at_), b _ _ h.its (ne_box B h.its), h.rows.but b B, h.ok⟩
theorem abc_at : ∀ i : Nat, i < 26 → atI (Str.ofString "abcdefghijklmnopqrstuvwxyz").cps.toList (i : Int) = some (97 + i) := by
  intro i hi
  refine atI_nat ?_
  rcases i with _ | _ | _ | _ | _ | _ | _ | _ | _ | _ | _ | _ | _ | _ | _ | _ | _ | _ | _ | _ | _ | _ | _ | _ | _ | _ | i <;> first | (exfalso; omega) | decide +kernel
theorem txt_add (a b : List Nat) : txt a ++ txt b = txt (a ++ b) := by
  show (⟨a.toArray ++ b.toArray⟩ : Str) = ⟨(a ++ b).toArray⟩
  simp
/-- how long the list at l is -/
def lenAt (H : Hp) (l : Addr) : Nat := match H l with
  | some (.lst xs) => xs.length
  | _ => 0
theorem lenAt_of {H : Hp} {l : Addr} {xs : List V} (h : H l = some (.lst xs)) : lenAt H l = xs.length := by
  unfold lenAt
  rw [h]
end Ov

namespace Ov
open PySem PySem.Spec PyProof.Rows L2
theorem erase_map {α β : Type} (f : α → β) : ∀ (l : List α) (j : Nat), (l.map f).eraseIdx j = (l.eraseIdx j).map f
  | [], j => rfl
  | a :: l, 0 => rfl
  | a :: l, j + 1 => by
    rw [List.map_cons, List.eraseIdx_cons_succ, List.eraseIdx_cons_succ, List.map_cons, erase_map f l j]
section
variable {P : Program} {w : World} {K : PySem.W.Frag} {mg : Str → Option Value} {base : Heap}
/-! ### _law_table -/
def spTable : Sp := fun vs H Q _ => ∃ (p : Addr) (n mb lg : Nat), vs = [.ref p, .int (mb : Int), .int (lg : Int)] ∧ BoxAt H p n ∧ n ≤ 2 ^ 39 ∧ 2 ≤ mb ∧ mb ≤ 256 ∧ 1 ≤ lg ∧ lg ≤ 12 ∧
  ∀ H' t cnt is it rs, But p H H' → BoxAt H' p (n + 1000) → H t = none → Tab H' t cnt lg is it rs → cnt ≤ mb → Q (.ref t) H'
theorem scTable : FnScope ["_law_box_here", "_law_most_bytes", "_law_longest", "_law_count", "_law_many", "_law_opcodes", "_law_found", "_law_first", "_law_at", "_law_opcode", "_law_letter", "_law_name", "_law_length"] ["_law_box_here", "_law_most_bytes", "_law_longest"] (defScope sTable) := ⟨rfl, rfl, rfl, by decide +kernel, rfl, by decide +kernel, by decide +kernel⟩
theorem ok_table {f fO fT : Addr} {fd fdO fdT : FuncData} {k : Nat} (F : Fun K "_law_table" "_law_table" sTable f fd) (T : Bi mg) (O : Def K mg "_law_of" sOf fO fdO ["_law_box_here", "_law_some"]) (Tk : Def K mg "_law_take" sTake fT fdT ["_law_box_here", "_law_many"]) :
    FnOk P w K mg base CX0 (k + 3) f fd ["_law_box_here", "_law_most_bytes", "_law_longest"] spTable := by
  have GO : FnOk P w K mg base CX0 (k + 2) fO fdO ["_law_box_here", "_law_some"] spOf := ok_of O.fn T Tk
  have GT : FnOk P w K mg base CX0 (k + 2) fT fdT ["_law_box_here", "_law_many"] spTake := ok_take Tk.fn
  refine F.ok scTable (fun vs H Q E h => ?_) (fun cdv A' outer s H vs Q E hr h => ?_)
  · obtain ⟨p, n, mb, lg, rfl, _⟩ := h
    rfl
  · obtain ⟨p, n, mb, lg, rfl, B, hn, mb1, mb2, lg1, lg2, q⟩ := h
    refine ⟨_, pss_cons (ps_set (i := 3) scTable.nd rfl (.inl rfl) (pe_op op_add pe_int (pe_call GT hr (by rfl) Tk.gl Tk.fn.kp Tk.bi .nil pass0 (pa_cons (pv 0) (pa_cons (pe_op op_sub (pv 1) pe_int) pa_nil)))))
      (pss_cons (ps_par (i := 4) (j := 5) (by rfl) scTable.nd rfl rfl (by decide) rfl rfl (pa_cons (pe_op op_add pe_int (pe_call GT hr (by rfl) Tk.gl Tk.fn.kp Tk.bi .nil pass0 (pa_cons (pv 0) (pa_cons (pe_callB (call_min2 rfl) (by rfl) T.min (by decide +kernel) (pa_cons pe_int (pa_cons (pv 3) pa_nil))) pa_nil))))
          (pa_cons (pe_listRange (by rfl) T.list (by rfl) T.range (pv 3)) pa_nil)) (by rfl))
      (C8.pss_cut (ps_if (PW.pt (pw_and (pt_cmpR op_gt (pv 3) pe_int (nomark _)) (pw_and1 (pt_cmpR op_eq (pe_op op_mod (pv 3) pe_int) pe_int (nomark _))))) (pss_one (ps_set (i := 4) scTable.nd rfl (.inl rfl) (pe_op op_add pe_int (pe_op op_fdiv (pv 3) pe_int)))) pss_nil)
      (pss_cons (ps_while PassesOwn.never (pt_cmpR op_gt (pe_callB call_len_seq (by rfl) T.len PySem.boot_len (pa_cons (pv 5) pa_nil)) (pv 4) (nomark _))
        (pss_one (ps_expr (pe_bm PySem.F.plainAttrs_list PySem.F.slot_list_pop PySem.F.type_list_pop mt_popAt (pv 5) (pa_cons (pe_call GT hr (by rfl) Tk.gl Tk.fn.kp Tk.bi .nil pass0 (pa_cons (pv 0) (pa_cons (pe_callB call_len_seq (by rfl) T.len PySem.boot_len (pa_cons (pv 5) pa_nil)) pa_nil))) pa_nil)))))
      (pss_cons (ps_par (i := 6) (j := 7) (by rfl) scTable.nd rfl rfl (by decide) rfl rfl (pa_cons (pe_lst pa_nil) (pa_cons (pe_call GT hr (by rfl) Tk.gl Tk.fn.kp Tk.bi .nil pass0 (pa_cons (pv 0) (pa_cons pe_int pa_nil))) pa_nil)) (by rfl))
      (pss_cons (ps_for PassesOwn.never rfl (pi_enum (by rfl) T.enumerate (pa_cons (pv 5) pa_nil)) (pg_tup rfl (pgs_cons (pg_name (i := 8) scTable.nd rfl (.inl rfl)) (pgs_cons (pg_name (i := 9) scTable.nd rfl (.inl rfl)) pgs_nil)))
        (pss_cons (ps_set (i := 10) scTable.nd rfl (.inl rfl) (pe_ix ix_str pe_str (pe_op op_mod (pe_op op_add (pv 7) (pe_op op_mul pe_int (pv 8))) pe_int) (fun _ _ => rfl)))
        (pss_cons (ps_set (i := 11) scTable.nd rfl (.inl rfl) (pe_op op_add_str (pe_op op_mulS (pv 10) (pe_op op_add pe_int (pe_call GT hr (by rfl) Tk.gl Tk.fn.kp Tk.bi .nil pass0 (pa_cons (pv 0) (pa_cons pe_int pa_nil)))))
          (pe_op op_mulS (pe_ifExp (pt_cmpR op_eq (pv 10) pe_str (nomark _)) pe_str pe_str) (pe_op op_fdiv (pv 8) pe_int))))
        (pss_cons (ps_set (i := 12) scTable.nd rfl (.inl rfl) (pe_call GO hr (by rfl) O.gl O.fn.kp O.bi .nil pass0 (pa_cons (pv 0) (pa_cons (pe_lst (pa_cons pe_int (pa_cons pe_int (pa_cons pe_int (pa_cons (pe_op op_add pe_int (pe_call GT hr (by rfl) Tk.gl Tk.fn.kp Tk.bi .nil pass0 (pa_cons (pv 0) (pa_cons (pv 2) pa_nil)))) pa_nil))))) pa_nil))))
        (pss_one (ps_expr (pe_bm PySem.F.plainAttrs_list PySem.F.slot_list_append PySem.F.type_list_append mt_append (pv 6) (pa_cons (pe_tup (pa_cons (pv 9) (pa_cons (pv 11) (pa_cons (pe_callB (call_min2 rfl) (by rfl) T.min (by decide +kernel) (pa_cons (pv 12) (pa_cons (pv 2) pa_nil)))
          (pa_cons (pe_or (pe_cmpR op_eq (pv 8) pe_int (nomark _)) (pe_one (pe_cmpR op_eq (pe_call GT hr (by rfl) Tk.gl Tk.fn.kp Tk.bi .nil pass0 (pa_cons (pv 0) (pa_cons pe_int pa_nil))) pe_int (nomark _)))) pa_nil))))) pa_nil))))))))
      (pss_one (ps_ret (pe_tup (pa_cons (pv 3) (pa_cons (pe_callTy call_tuple_of (by rfl) T.tuple (by decide +kernel) (pa_cons (pv 6) pa_nil)) pa_nil)))))))))), ?_⟩
    -- the byte count
    refine ⟨_, rfl, _, rfl, _, _, rfl, rfl, p, _, n, rfl, B, by omega, by omega, by omega, fun H1 c b1 B1 c0 c1 f1 => ⟨_, _, rfl, rfl, ?_⟩⟩
    obtain ⟨cnt, ec⟩ : ∃ cnt : Nat, 2 + c = (cnt : Int) := ⟨(2 + c).toNat, by omega⟩
    have hc2 : 2 ≤ cnt ∧ cnt ≤ mb := by omega
    dsimp only
    rw [ec]
    -- how many, and all opcodes
    refine ⟨_, rfl, _, rfl, _, _, rfl, p, _, n + 1, rfl, B1, by omega, by split <;> omega, by split <;> omega, fun H2 e b2 B2 e0 e1 f2 => ?_⟩
    refine ⟨_, _, rfl, rfl, _, rfl, cnt, rfl, by omega, fun l nl => ⟨_, _, rfl, ?_⟩⟩
    obtain ⟨mn0, em⟩ : ∃ m : Nat, 1 + e = (m : Int) := ⟨(1 + e).toNat, by omega⟩
    have hm0 : 1 ≤ mn0 ∧ mn0 ≤ 71 := by
      have : e < 6 := by
        revert e1
        split <;> omega
      omega
    dsimp only
    rw [em]
    have b02 : But p H H2 := b1.trans b2
    have hlp : l ≠ p := fun z => B2.ne (z ▸ nl)
    have hHl : H l = none := b02.free B.ne nl B2.ne
    have s3 := same_upd (o := HO.lst ((List.range cnt).map fun i : Nat => V.int (i : Int))) nl
    have b03 : But p H _ := b02.trans (But.of s3)
    have B3 := B2.same s3
    have h3 := @upd_same H2 l (HO.lst ((List.range cnt).map fun i : Nat => V.int (i : Int)))
    generalize upd H2 l (HO.lst ((List.range cnt).map fun i : Nat => V.int (i : Int))) = H3 at *
    -- at times more of them
    refine ⟨fun σ H4 => H4 = H3 ∧ ∃ mn : Nat, 1 ≤ mn ∧ mn ≤ 71 ∧ σ = [some (.ref p), some (.int (mb : Int)), some (.int (lg : Int)), some (.int (cnt : Int)), some (.int (mn : Int)), some (.ref l), none, none, none, none, none, none, none], ?_, ?_⟩
    · refine ⟨_, rfl, _, _, rfl, rfl, _, rfl, ite2 (fun _ => ?_) (fun _ => ?_)⟩
      · refine ⟨_, rfl, _, _, rfl, rfl, (show (0 : Int) < 7 by decide), rfl, _, rfl, ite2 (fun _ => ?_) (fun _ => ?_)⟩
        · refine ⟨_, rfl, _, _, rfl, rfl, ⟨by decide, by decide⟩, _, _, rfl, rfl, rfl, 7 + cnt / 4, by omega, by omega, ?_⟩
          show [some (V.ref p), _, _, _, some (V.int (7 + (cnt : Int) / 4)), _, _, _, _, _, _, _, _] = _
          rw [show (7 + (cnt : Int) / 4) = ((7 + cnt / 4 : Nat) : Int) by omega]
        · exact ⟨rfl, mn0, hm0.1, hm0.2, rfl⟩
      · exact ⟨rfl, mn0, hm0.1, hm0.2, rfl⟩
    rintro σ H4 ⟨rfl, mn, mn1, mn2, rfl⟩
    -- thrown out, one by one
    refine while_by (fun σ H5 => σ = [some (.ref p), some (.int (mb : Int)), some (.int (lg : Int)), some (.int (cnt : Int)), some (.int (mn : Int)), some (.ref l), none, none, none, none, none, none, none] ∧
        But p H H5 ∧ ∃ ops : List Nat, H5 l = some (.lst (ops.map fun i : Nat => V.int (i : Int))) ∧ ops.Pairwise (· < ·) ∧ (∀ x ∈ ops, x < cnt) ∧ 1 ≤ ops.length ∧ ops.length ≤ cnt ∧ BoxAt H5 p (n + 2 + (cnt - ops.length))) (fun _ H5 => lenAt H5 l)
      ⟨rfl, b03, List.range cnt, h3, List.pairwise_lt_range, fun x hx => List.mem_range.mp hx, by rw [List.length_range]; omega, by rw [List.length_range]; exact Nat.le_refl _, B3.mono (by omega)⟩ ?_ ?_
    · rintro σ H5 ⟨rfl, b5, ops, h5, asc, lt, l1, l2, B5⟩
      refine ⟨_, rfl, l, _, rfl, .inl (SqL.of h5), _, rfl, _, _, rfl, rfl, _, rfl, ?_⟩
      rw [List.length_map]
      by_cases big : (mn : Int) < (ops.length : Int)
      · rw [decide_eq_true big]
        refine iteT ?_
        refine ⟨_, rfl, .inl ⟨rfl, _, SqL.of h5⟩, _, rfl, _, rfl, l, _, rfl, .inl (SqL.of h5), p, _, _, rfl, B5, by omega, by rw [List.length_map]; omega, by rw [List.length_map]; omega, fun H6 d b6 B6 d0 d1 f6 => ?_⟩
        rw [List.length_map] at d1
        obtain ⟨j, rfl⟩ : ∃ j : Nat, d = (j : Int) := ⟨d.toNat, by omega⟩
        have hj : j < ops.length := by omega
        have h6 := b6 _ _ h5 hlp
        refine ⟨l, _, (j : Int), j, _, rfl, rfl, h6, by omega, by omega, (ixN_seq (ixN_at (by rw [List.length_map]; exact hj))).1, (by rw [List.getElem?_map, List.getElem?_eq_getElem hj]; rfl), ?_⟩
        have eE : (ops.map fun i : Nat => V.int (i : Int)).eraseIdx j = (ops.eraseIdx j).map fun i : Nat => V.int (i : Int) := by
          exact erase_map _ _ _
        rw [eE]
        have hlen : (ops.eraseIdx j).length = ops.length - 1 := List.length_eraseIdx_of_lt hj
        refine ⟨⟨rfl, fun b o eb hb => ?_, ops.eraseIdx j, upd_same, asc.sublist (List.eraseIdx_sublist ops j), fun x hx => lt x (List.mem_of_mem_eraseIdx hx), by omega, by omega, ?_⟩, ?_⟩
        · rw [upd_ne (ne_of_none eb hHl)]
          exact b6 _ _ (b5 b o eb hb) hb
        · obtain ⟨x1, x2, x3, e1, r⟩ := B6
          have := (show BoxAt (upd H6 l (.lst ((ops.eraseIdx j).map fun i : Nat => V.int (i : Int)))) p (n + 2 + (cnt - ops.length) + 1) from ⟨x1, x2, x3, by rw [upd_ne (Ne.symm hlp)]; exact e1, r⟩)
          exact this.mono (by omega)
        · rw [lenAt_of upd_same, lenAt_of h5, List.length_map, List.length_map]
          omega
      · rw [decide_eq_false big]
        refine iteF ?_
        have few : ops.length ≤ 71 := by omega
        -- the names' first letter
        refine ⟨Nat.zero_le _, fun fo nfo => ?_⟩
        have s7 := same_upd (o := HO.lst []) nfo
        have hfp : fo ≠ p := fun z => B5.ne (z ▸ nfo)
        have hHfo : H fo = none := b5.free B.ne nfo B5.ne
        refine ⟨_, rfl, p, 26, _, rfl, B5.same s7, by omega, by decide, by decide, fun H8 fst b8 B8 f80 f81 f8 => ⟨_, _, rfl, ?_⟩⟩
        obtain ⟨fi, rfl⟩ : ∃ j : Nat, fst = (j : Int) := ⟨fst.toNat, by omega⟩
        have h8l := b8 _ _ (s7 _ _ h5) hlp
        have h8f : H8 fo = some (.lst []) := b8 _ _ upd_same hfp
        have b08 : But p H H8 := (b5.trans (But.of s7)).trans b8
        have nHfo8 : fo ≠ l := (ne_of_none h5 nfo).symm
        -- one instruction for each
        refine ⟨_, rfl, l, _, rfl, SqL.of h8l, for_it (walk_enum (K := K) (a := l) (xs := ops.map fun i : Nat => V.int (i : Int)))
          (fun i σ H9 => ∃ y8 y9 y10 y11 y12, σ = [some (.ref p), some (.int (mb : Int)), some (.int (lg : Int)), some (.int (cnt : Int)), some (.int (mn : Int)), some (.ref l), some (.ref fo), some (.int (fi : Int)), y8, y9, y10, y11, y12] ∧
            But p H H9 ∧ H9 l = some (.lst (ops.map fun i : Nat => V.int (i : Int))) ∧ BoxAt H9 p (n + 300 + 4 * i) ∧ ∃ (rs : List Addr) (is : List I4), H9 fo = some (.lst (rs.map V.ref)) ∧ is.length = i ∧ Rows H9 rs is ∧ (∀ j x, is[j]? = some x → Drawn lg fi j x ∧ ops[j]? = some x.op))
          ⟨none, none, none, none, none, rfl, b08, h8l, B8.mono (by omega), [], [], h8f, rfl, ⟨rfl, fun i r x h => by simp at h⟩, fun j x h => by simp at h⟩ (fun i σ H9 _ ⟨_, _, _, _, _, _, _, h, _⟩ => SqL.of h) ?_ ?_⟩
        · rintro i x σ H9 H10 hi ⟨y8, y9, y10, y11, y12, rfl, b9, h9l, B9, rs, is, h9f, hil, R9, D9⟩ ⟨tt, x1, x2, rfl, ntt, rfl, f1, f2⟩
          rw [List.length_map] at hi
          have e1 : x1 = .int (i : Int) := (Option.some.inj f1).symm
          have e2 : x2 = .int ((ops[i] : Nat) : Int) := by
            have : (ops.map fun i : Nat => V.int (i : Int))[i]? = some x2 := f2
            rw [List.getElem?_map, List.getElem?_eq_getElem hi] at this
            exact (Option.some.inj this).symm
          subst e1 e2
          have st := same_upd (o := HO.tup [V.int (i : Int), V.int ((ops[i] : Nat) : Int)]) ntt
          refine ⟨tt, _, rfl, SqT.of upd_same, rfl, _, _, rfl, _, _, rfl, rfl, ?_⟩
          -- the letter
          refine ⟨_, rfl, _, rfl, _, _, rfl, rfl, .inl ⟨by decide, by decide⟩, _, _, rfl, rfl, _, _, rfl, rfl, (show (0 : Int) < 26 by decide), _, _, 97 + (fi + 5 * i) % 26, rfl, rfl, by decide +kernel, ?_, ?_⟩
          · rw [show ((fi : Int) + 5 * (i : Int)) % 26 = (((fi + 5 * i) % 26 : Nat) : Int) by omega]
            exact abc_at _ (Nat.mod_lt _ (by decide))
          generalize hcc : 97 + (fi + 5 * i) % 26 = cc at *
          have cc1 : 97 ≤ cc ∧ cc ≤ 122 := by omega
          -- the name
          refine ⟨_, rfl, _, rfl, p, 3, _, rfl, B9.same st, by omega, by decide, by decide, fun H11 t3 b11 B11 t0 t1 f11 => ?_⟩
          obtain ⟨t, rfl⟩ : ∃ j : Nat, t3 = (j : Int) := ⟨t3.toNat, by omega⟩
          refine ⟨_, _, rfl, rfl, [cc], _, rfl, rfl, by omega, by omega, (show 1 ≤ 1000 by decide), ?_⟩
          have eqz : ∀ (Q : Prop) (R : Prop), (cc = 122 → Q) → (cc ≠ 122 → R) → (if decide (V.str (txt [cc]) = V.str (Str.ofString "z")) = true then Q else R) := fun Q R h1 h2 => by
            by_cases z : cc = 122
            · rw [decide_eq_true (by rw [z]; decide +kernel)]
              exact iteT (h1 z)
            · rw [decide_eq_false (fun w => z (by
                have : txt [cc] = txt [122] := (V.str.inj w).trans (by decide +kernel)
                exact (List.cons.inj (txt_inj this)).1))]
              exact iteF (h2 z)
          have rep1 : ∀ (m c : Nat), (List.replicate m [c]).flatten = List.replicate m c := fun m c => flat_rep c m
          have s911 : But p H9 H11 := (But.of st).trans b11
          have b11' : But p H H11 := b9.trans s911
          have h11l := s911 _ _ h9l hlp
          have h11f := s911 _ _ h9f hfp
          have R11 := R9.but s911 B9
          refine ⟨_, rfl, rfl, _, rfl, eqz _ _ (fun z => ?_) (fun z => ?_)⟩
          all_goals
            refine ⟨_, rfl, _, _, rfl, rfl, ⟨by decide, by decide⟩, [tail cc], _, ?_, rfl, by omega, by omega, (show 1 ≤ 1000 by decide), ?_⟩
            · unfold tail
              first
                | (rw [if_pos z]; decide +kernel)
                | (rw [if_neg z]; decide +kernel)
            rw [rep1, rep1, show (1 + (t : Int)).toNat = 1 + t by omega, show ((i : Int) / 26).toNat = i / 26 by omega]
            refine ⟨_, _, rfl, rfl, ?_, ?_⟩
            · rw [txt_len, txt_len, List.length_replicate, List.length_replicate]
              exact Nat.le_of_lt (small1000 (by omega))
            rw [txt_add]
            show tSeq _ _ _ ([some (V.ref p), some (.int (mb : Int)), some (.int (lg : Int)), some (.int (cnt : Int)), some (.int (mn : Int)), some (.ref l), some (.ref fo), some (.int (fi : Int)), some (.int (i : Int)), some (.int ((ops[i] : Nat) : Int)), some (.str (txt [cc])), some (.str (txt (nameOf cc t (i / 26)))), y12] : L2.St) H11
            -- the length
            refine ⟨_, rfl, _, rfl, _, rfl, p, (lg : Int), _, rfl, B11, by omega, by omega, by omega, fun H12 e4 b12 B12 e40 e41 f12 => ?_⟩
            refine ⟨_, _, rfl, rfl, by show 4 ≤ sizeLine; decide, fun l4 nl4 => ?_⟩
            have s12 := same_upd (o := HO.lst [V.int 1, V.int 2, V.int 3, V.int (1 + e4)]) nl4
            have hl4p : l4 ≠ p := fun z => B12.ne (z ▸ nl4)
            refine ⟨p, l4, _, _, rfl, B12.same s12, by omega, upd_same, hl4p, (show 0 < 4 by decide), (show 4 ≤ 1000 by decide), fun H13 v hv b13 B13 f13 => ?_⟩
            obtain ⟨ln, rfl, ln1, ln2⟩ : ∃ ln : Nat, v = .int (ln : Int) ∧ 1 ≤ ln ∧ ln ≤ 12 := by
              simp only [List.mem_cons, List.not_mem_nil, or_false] at hv
              rcases hv with rfl | rfl | rfl | rfl
              · exact ⟨1, rfl, by decide, by decide⟩
              · exact ⟨2, rfl, by decide, by decide⟩
              · exact ⟨3, rfl, by decide, by decide⟩
              · exact ⟨(1 + e4).toNat, by congr 1; omega, by omega, by omega⟩
            have s1113 : But p H11 H13 := (b12.trans (But.of s12)).trans b13
            have h13l := s1113 _ _ h11l hlp
            have h13f := s1113 _ _ h11f hfp
            have R13 := R11.but s1113 B11
            have b13' := b11'.trans s1113
            refine ⟨_, rfl, .inl ⟨rfl, _, SqL.of h13f⟩, _, rfl, _, rfl, _, rfl, _, rfl, _, _, rfl, _, rfl, rfl, _, rfl, ?_⟩
            have emin : (if (lg : Int) < (ln : Int) then (lg : Int) else (ln : Int)) = ((min ln lg : Nat) : Int) := by
              split <;> omega
            dsimp only
            rw [emin]
            -- the last part: it is put behind the others
            have put : ∀ (b : Bool) (H14 : Hp), (i = 0 → b = true) → But p H H14 → H14 l = some (.lst (ops.map fun i : Nat => V.int (i : Int))) → BoxAt H14 p (n + 300 + 4 * (i + 1)) → H14 fo = some (.lst (rs.map V.ref)) → Rows H14 rs is →
                ∀ r, H14 r = none → ∃ (rs' : List Addr) (is' : List I4), upd (upd H14 r (.tup [.int ((ops[i] : Nat) : Int), .str (txt (nameOf cc t (i / 26))), .int ((min ln lg : Nat) : Int), .bl b])) fo (.lst (rs.map V.ref ++ [V.ref r])) fo = some (.lst (rs'.map V.ref)) ∧ is'.length = i + 1 ∧
                  Rows (upd (upd H14 r (.tup [.int ((ops[i] : Nat) : Int), .str (txt (nameOf cc t (i / 26))), .int ((min ln lg : Nat) : Int), .bl b])) fo (.lst (rs.map V.ref ++ [V.ref r]))) rs' is' ∧ (∀ j x, is'[j]? = some x → Drawn lg fi j x ∧ ops[j]? = some x.op) := by
              intro b H14 hb b14 h14l B14 h14f R14 r nr
              have sr := same_upd (o := HO.tup [.int ((ops[i] : Nat) : Int), .str (txt (nameOf cc t (i / 26))), .int ((min ln lg : Nat) : Int), .bl b]) nr
              have hrf : r ≠ fo := fun z => by rw [z, h14f] at nr; cases nr
              have R15 := (R14.same sr).more (r := r) (x := ⟨ops[i], nameOf cc t (i / 26), min ln lg, b⟩) upd_same
              refine ⟨rs ++ [r], is ++ [⟨ops[i], nameOf cc t (i / 26), min ln lg, b⟩], by rw [upd_same, List.map_append]; rfl, by rw [List.length_append, hil]; rfl, ⟨R15.1, fun j r' x' h1 h2 => ?_⟩, fun j x hj => ?_⟩
              · have := R15.2 j r' x' h1 h2
                rw [upd_ne (fun z => by rw [z, sr _ _ h14f] at this; cases this)]
                exact this
              · by_cases c : j < is.length
                · rw [List.getElem?_append_left c] at hj
                  exact D9 j x hj
                · have hl := (List.getElem?_eq_some_iff.mp hj).1
                  rw [List.length_append] at hl
                  have e : j = i := by
                    have : ([⟨ops[i], nameOf cc t (i / 26), min ln lg, b⟩] : List I4).length = 1 := rfl
                    omega
                  subst e
                  rw [List.getElem?_append_right (by omega), hil, Nat.sub_self] at hj
                  have ex : (⟨ops[j], nameOf cc t (j / 26), min ln lg, b⟩ : I4) = x := Option.some.inj hj
                  subst ex
                  exact ⟨⟨⟨t, by omega, by rw [← hcc]⟩, ⟨by show 1 ≤ min ln lg; omega, by show min ln lg ≤ lg; omega⟩, hb⟩, List.getElem?_eq_getElem hi⟩
            have fin : ∀ (b : Bool) (H14 : Hp), (i = 0 → b = true) → But p H H14 → H14 l = some (.lst (ops.map fun i : Nat => V.int (i : Int))) → BoxAt H14 p (n + 300 + 4 * (i + 1)) → H14 fo = some (.lst (rs.map V.ref)) → Rows H14 rs is →
                ∀ r, H14 r = none → But p H (upd (upd H14 r (.tup [.int ((ops[i] : Nat) : Int), .str (txt (nameOf cc t (i / 26))), .int ((min ln lg : Nat) : Int), .bl b])) fo (.lst (rs.map V.ref ++ [V.ref r]))) ∧
                  (upd (upd H14 r (.tup [.int ((ops[i] : Nat) : Int), .str (txt (nameOf cc t (i / 26))), .int ((min ln lg : Nat) : Int), .bl b])) fo (.lst (rs.map V.ref ++ [V.ref r]))) l = some (.lst (ops.map fun i : Nat => V.int (i : Int))) ∧
                  BoxAt (upd (upd H14 r (.tup [.int ((ops[i] : Nat) : Int), .str (txt (nameOf cc t (i / 26))), .int ((min ln lg : Nat) : Int), .bl b])) fo (.lst (rs.map V.ref ++ [V.ref r]))) p (n + 300 + 4 * (i + 1)) := by
              intro b H14 hb b14 h14l B14 h14f R14 r nr
              have sr := same_upd (o := HO.tup [.int ((ops[i] : Nat) : Int), .str (txt (nameOf cc t (i / 26))), .int ((min ln lg : Nat) : Int), .bl b]) nr
              refine ⟨fun c o eb hb => ?_, ?_, ?_⟩
              · rw [upd_ne (ne_of_none eb hHfo)]
                exact sr _ _ (b14 c o eb hb)
              · rw [upd_ne (Ne.symm nHfo8)]
                exact sr _ _ h14l
              · obtain ⟨x1, x2, x3, e1, r⟩ := B14.same sr
                exact ⟨x1, x2, x3, by rw [upd_ne (Ne.symm hfp)]; exact e1, r⟩
            have rlen : (rs.map V.ref).length < sizeLine := by
              rw [List.length_map, R9.1, hil]
              exact small1000 (by omega)
            by_cases i0 : i = 0
            · rw [decide_eq_true (show V.int (i : Int) = V.int 0 by rw [i0]; rfl)]
              refine iteT ⟨by show 4 ≤ sizeLine; decide, fun r nr => ?_⟩
              have hb : i = 0 → true = true := fun _ => rfl
              have B13' : BoxAt H13 p (n + 300 + 4 * (i + 1)) := B13.mono (by omega)
              obtain ⟨a1, a2, a3⟩ := fin true H13 hb b13' h13l B13' h13f R13 r nr
              refine ⟨fo, _, _, rfl, rfl, same_upd nr _ _ h13f, rlen, ?_⟩
              exact ⟨_, _, _, _, _, rfl, a1, a2, a3, put true H13 hb b13' h13l B13' h13f R13 r nr⟩
            · rw [decide_eq_false (show ¬ V.int (i : Int) = V.int 0 from fun z => i0 (by have := V.int.inj z; omega))]
              refine iteF ⟨_, rfl, p, 2, _, rfl, B13, by omega, by decide, by decide, fun H14 e5 b14 B14 e50 e51 f14 => ⟨rfl, by show 4 ≤ sizeLine; decide, fun r nr => ?_⟩⟩
              have hb : i = 0 → decide (V.int e5 = V.int 0) = true := fun z => absurd z i0
              have h14l := b14 _ _ h13l hlp
              have h14f := b14 _ _ h13f hfp
              have R14 := R13.but b14 B13
              have b14' := b13'.trans b14
              have B14' : BoxAt H14 p (n + 300 + 4 * (i + 1)) := B14.mono (by omega)
              obtain ⟨a1, a2, a3⟩ := fin _ H14 hb b14' h14l B14' h14f R14 r nr
              refine ⟨fo, _, _, rfl, rfl, same_upd nr _ _ h14f, rlen, ?_⟩
              exact ⟨_, _, _, _, _, rfl, a1, a2, a3, put _ H14 hb b14' h14l B14' h14f R14 r nr⟩
        · rintro σ H9 ⟨y8, y9, y10, y11, y12, rfl, b9, h9l, B9, rs, is, h9f, hil, R9, D9⟩
          rw [List.length_map] at hil B9
          refine ⟨_, rfl, _, rfl, fo, _, rfl, .inl ⟨SqL.of h9f, fun it nit => ?_⟩⟩
          refine ⟨by show 2 ≤ sizeLine; decide, fun t nt => ?_⟩
          have sA := same_upd (o := HO.tup (rs.map V.ref)) nit
          have sB := same_upd (o := HO.tup [V.int (cnt : Int), V.ref it]) nt
          have sAB := sA.trans sB
          have nt9 : H9 t = none := sA.free nt
          have eops : is.map I4.op = ops := by
            refine List.ext_getElem (by rw [List.length_map, hil]) fun j h1 h2 => ?_
            rw [List.length_map] at h1
            have := (D9 j _ (List.getElem?_eq_getElem h1)).2
            rw [List.getElem?_eq_getElem h2] at this
            rw [List.getElem_map]
            exact (Option.some.inj this).symm
          refine q _ t cnt is it rs (b9.trans (But.of sAB)) ((B9.same sAB).mono (by omega)) (b9.free B.ne nt9 B9.ne) ⟨upd_same, sB _ _ upd_same, R9.same sAB, ?_⟩ hc2.2
          refine ⟨⟨by omega, by omega⟩, by omega, fun z => by rw [z] at hil; simp at hil; omega, by omega, by rw [eops]; exact asc, fun x hx => ?_, fun x hx => ?_, fun x hx => ?_, names_nodup (fun i x h => (D9 i x h).1), fun x hx => (D9 0 x hx).1.pad rfl⟩
          · exact lt _ (by rw [← eops]; exact List.mem_map.mpr ⟨x, hx, rfl⟩)
          · obtain ⟨j, hj⟩ := List.mem_iff_getElem?.mp hx
            exact (D9 j x hj).1.ln
          · obtain ⟨j, hj⟩ := List.mem_iff_getElem?.mp hx
            have hjl := (List.getElem?_eq_some_iff.mp hj).1
            obtain ⟨t, ht, en⟩ := (D9 j x hj).1.nm
            rw [en, nameOf_len]
            exact ⟨by omega, by omega, nameOf_low (by omega) (by omega)⟩
    · rintro σ H5 Q1 Q2 hQ ⟨v, h1, pp, ys, h2, h3, v2, h4, i, j, h5, h6, b, h7, h8⟩
      exact ⟨v, h1, pp, ys, h2, h3, v2, h4, i, j, h5, h6, b, h7, hQ _ _ h8⟩
end
end Ov

namespace Ov
open PySem PySem.Spec PyProof.Rows L2
theorem nlt_sign {a b : Nat} (h : a ≤ b) : decide (([b] : List Nat) < [a]) = false := by
  refine decide_eq_false ?_
  rw [List.cons_lt_cons_iff]
  rintro (z | ⟨_, z⟩)
  · omega
  · exact absurd z (by simp)
section
variable {X : Cx}
/-- a slice of a tuple, or of a list -/
theorem sl_seq : SlR X (fun x lo hi H Q => rSlA X.K x lo hi H Q ∨ rSlL X.K x lo hi H Q) := by
  intro pins s σ H x v vl vu lo hi sl Q I rx hs pl pu h
  rcases h with h | h
  · exact sl_tupA pins s σ H x v vl vu lo hi sl Q I rx hs pl pu h
  · exact sl_list pins s σ H x v vl vu lo hi sl Q I rx hs pl pu h
end
section
variable {P : Program} {w : World} {K : PySem.W.Frag} {mg : Str → Option Value} {base : Heap}
/-! ### is_ascending of a list -/
def spAscL (K : PySem.W.Frag) : Sp := fun vs H Q _ => ∃ (a : Addr) (ns : List Int), vs = [.ref a] ∧ SqL K H a (ns.map V.int) ∧ ns.length ≤ 1000 ∧ ns.Pairwise (· < ·) ∧ ∀ H', Same H H' → Q (.bl true) H'
theorem ok_ascL {f : Addr} {fd : FuncData} {k : Nat} (F : Fun K "is_ascending" "is_ascending" sAscending f fd) (T : Bi mg) : FnOk P w K mg base CX0 (k + 1) f fd ["numbers"] (spAscL K) := by
  refine F.ok scAscending (fun vs H Q E h => ?_) (fun cdv A outer s H vs Q E hr h => ?_)
  · obtain ⟨a, ns, rfl, _⟩ := h
    rfl
  · obtain ⟨a, ns, rfl, hS, hlen, hasc, q⟩ := h
    refine ⟨_, pss_one (ps_ret (pe_callB (cr_all rfl) (by rfl) T.all (by decide +kernel) (pa_cons
      (pe_lc (own := [("low", 1), ("high", 2)]) (g := gTup K 2 (gCons (gName 1) (gCons (gName 2) gNil))) (tt := tYes) (by rfl) scAscending.nd (RZ.pi_zipA (by rfl) T.zip (pa_cons (pv 0) (pa_cons (pe_slice sl_list (pv 0) (po_some pe_int) po_none) pa_nil)))
        (blkOk_by (own := [("low", 1), ("high", 2)]) (N := ["numbers", "low", "high"]) (sc := defScope sAscending) (by decide +kernel))
        (fun _ _ _ _ _ => pg_tup rfl (pgs_cons (pg_name (i := 1) scAscending.nd rfl (Or.inl rfl)) (pgs_cons (pg_name (i := 2) scAscending.nd rfl (Or.inl rfl)) pgs_nil)))
        (fun _ _ _ _ _ => pts_nil) (fun _ _ _ _ _ => pe_cmpR op_lt (pv 1) (pv 2) (nomark _))) pa_nil))), ?_⟩
    refine ⟨_, rfl, _, rfl, 1, rfl, a, ns.map V.int, rfl, hS, fun c nc => ?_⟩
    have s1 : Same H (upd H c (.lst (cutV (ns.map V.int) (some 1) none))) := same_upd nc
    have hc : SqL K (upd H c (.lst (cutV (ns.map V.int) (some 1) none))) c ((ns.drop 1).map V.int) := .inl (.inl (by rw [upd_same, cut1, List.map_drop]))
    refine ⟨a, c, ns.map V.int, (ns.drop 1).map V.int, rfl, .inl ⟨s1.seq hS, hc, fun D nD => lc_it (walk_zip (xs := ns.map V.int) (ys := (ns.drop 1).map V.int) rfl)
      (fun i H2 => Mk (upd H c (.lst (cutV (ns.map V.int) (some 1) none))) H2 D ((List.replicate i true).map V.bl)) (.start nD) (fun i H2 _ p => ⟨p.same.seq (s1.seq hS), p.same.seq hc⟩) (fun i x H2 H3 hi p y => ?_) (fun H2 p => ?_)⟩⟩
    · obtain ⟨t, x1, x2, rfl, nt, rfl, f1, f2⟩ := y
      have hi' : i < min ns.length (ns.length - 1) := by simpa using hi
      have h1 : i < ns.length := by omega
      have h2 : i + 1 < ns.length := by omega
      have e1 : x1 = .int ns[i] := by
        have : (ns.map V.int)[i]? = some x1 := f1
        rw [List.getElem?_map, List.getElem?_eq_getElem h1] at this
        exact (Option.some.inj this).symm
      have e2 : x2 = .int ns[i + 1] := by
        have : ((ns.drop 1).map V.int)[i]? = some x2 := f2
        rw [List.getElem?_map, List.getElem?_drop, Nat.add_comm 1 i, List.getElem?_eq_getElem h2] at this
        exact (Option.some.inj this).symm
      have hlt : ns[i] < ns[i + 1] := List.pairwise_iff_getElem.mp hasc i (i + 1) h1 h2 (by omega)
      refine ⟨t, [x1, x2], rfl, .inl (.inl upd_same), rfl, x1, [x2], rfl, x2, [], rfl, rfl, rfl, x1, rfl, x2, rfl, _, _, e1, e2, _, (by rw [upd_ne (ne_of_none p.at_ nt)]; exact p.at_), (by rw [List.length_map, List.length_replicate]; exact small1000 (by omega)), ?_⟩
      show Mk _ (upd _ D (.lst (_ ++ [V.bl (decide (ns[i] < ns[i + 1]))]))) D _
      rw [decide_eq_true hlt, List.replicate_succ', List.map_append]
      exact p.put (same_upd nt)
    · refine ⟨D, _, rfl, .inl (.inl p.at_), ?_⟩
      rw [all_true]
      exact q H2 (s1.trans p.same)
/-! ### is_name -/
def spName : Sp := fun vs H Q _ => ∃ nm : List Nat, vs = [.str (txt nm)] ∧ 1 ≤ nm.length ∧ nm.length ≤ 8 ∧ (∀ c ∈ nm, 97 ≤ c ∧ c ≤ 122) ∧ ∀ H', Same H H' → Q (.bl true) H'
theorem scName : FnScope ["value", "letter"] ["value"] (defScope sIsName) := ⟨rfl, rfl, rfl, by decide +kernel, rfl, by decide +kernel, by decide +kernel⟩
theorem ok_name {f : Addr} {fd : FuncData} {k : Nat} (F : Fun K "is_name" "is_name" sIsName f fd) (T : Bi mg) (m8 : ∃ t, mg "MOST_LETTERS" = some (.int 8 t)) : FnOk P w K mg base CX0 (k + 1) f fd ["value"] spName := by
  obtain ⟨t8, m8⟩ := m8
  refine F.ok scName (fun vs H Q E h => ?_) (fun cdv A outer s H vs Q E hr h => ?_)
  · obtain ⟨nm, rfl, _⟩ := h
    rfl
  · obtain ⟨nm, rfl, h1, h2, low, q⟩ := h
    refine ⟨_, pss_cons (ps_if (PW.pt (pw_or (pt_not (pt_val (pe_callB call_isi (by rfl) T.isi (by decide +kernel) (pa_cons (pv 0) (pa_cons (pe_bltn (v := .ty "str") (u := .type "str") (by rfl) T.str (by decide +kernel) rfl) pa_nil)))))
        (pw_or1 (pt_not (pt_chain op_le op_le pe_int (pe_callB call_len_str (by rfl) T.len PySem.boot_len (pa_cons (pv 0) pa_nil)) (pe_glob (v := .int 8) (by rfl) m8 ⟨_, rfl⟩)))))) (pss_one (ps_ret pe_bl)) pss_nil)
      (pss_one (ps_ret (pe_callB (cr_all rfl) (by rfl) T.all (by decide +kernel) (pa_cons
        (pe_lc (own := [("letter", 1)]) (g := gName 1) (tt := tYes) (by rfl) scName.nd (pi_str (pv 0)) (blkOk_by (own := [("letter", 1)]) (N := ["value", "letter"]) (sc := defScope sIsName) (by decide +kernel))
          (fun _ _ _ _ _ => pg_name (i := 1) scName.nd rfl (Or.inl rfl)) (fun _ _ _ _ _ => pts_nil) (fun _ _ _ _ _ => pe_chain op_le_str op_le_str pe_str (pv 1) pe_str)) pa_nil)))), ?_⟩
    have hsz : (txt nm).length ≤ sizeLine := by rw [txt_len]; exact Nat.le_of_lt (small1000 (by omega))
    refine ⟨_, rfl, _, _, _, _, _, rfl, .ty _, .base (.str _), kit_ty (by decide +kernel : kitB "str" "str" = some true), _, rfl, ?_⟩
    refine iteF ⟨_, rfl, _, rfl, hsz, _, _, rfl, rfl, _, rfl, ?_⟩
    rw [txt_len, decide_eq_true (show (1 : Int) ≤ (nm.length : Int) by omega)]
    refine iteT ⟨_, _, rfl, rfl, _, rfl, ?_⟩
    rw [decide_eq_true (show (nm.length : Int) ≤ 8 by omega)]
    refine iteF ?_
    refine ⟨_, rfl, txt nm, rfl, fun D nD => lc_it (walk_str (z := txt nm)) (fun i H2 => Mk H H2 D ((List.replicate i true).map V.bl)) (.start nD) (fun _ _ _ _ => trivial) ?_ ?_⟩
    · rintro i x H2 H3 hi mk ⟨rfl, c, hc, rfl⟩
      have hcm : c ∈ nm := by
        have : nm[i]? = some c := by simpa [txt] using hc
        exact List.mem_of_getElem? this
      obtain ⟨c1, c2⟩ := low c hcm
      have hi' : i < nm.length := by
        have : i < (txt nm).cps.size := hi
        simpa [txt] using this
      refine ⟨rfl, _, rfl, Str.ofString "a", _, rfl, rfl, _, rfl, ?_⟩
      have ea : (Str.ofString "a").cps.toList = [97] := by decide +kernel
      have ez : (Str.ofString "z").cps.toList = [122] := by decide +kernel
      rw [ea, show decide (((⟨#[c]⟩ : Str).cps.toList) < ([97] : List Nat)) = false from nlt_sign c1]
      refine iteT ⟨_, Str.ofString "z", rfl, rfl, ?_⟩
      rw [ez, show decide (([122] : List Nat) < ((⟨#[c]⟩ : Str).cps.toList)) = false from nlt_sign c2]
      refine ⟨_, mk.at_, (by rw [List.length_map, List.length_replicate]; exact small1000 (by omega)), ?_⟩
      rw [List.replicate_succ', List.map_append]
      exact mk.put (Same.refl _)
    · intro H2 mk
      refine ⟨D, _, rfl, SqL.of mk.at_, ?_⟩
      rw [all_true]
      exact q H2 mk.same
/-! ### is_instruction -/
/-- a valid instruction for this byte count -/
structure InsOk (cnt : Nat) (x : I4) : Prop where
  op : x.op < cnt
  nm : 1 ≤ x.nm.length ∧ x.nm.length ≤ 8 ∧ ∀ c ∈ x.nm, 97 ≤ c ∧ c ≤ 122
  ln : 1 ≤ x.ln ∧ x.ln ≤ 12
theorem TabOk.ins {cnt lg : Nat} {is : List I4} (h : TabOk cnt lg is) {x : I4} (hx : x ∈ is) : InsOk cnt x := ⟨h.ops x hx, h.nms x hx, (h.len x hx).1, Nat.le_trans (h.len x hx).2 h.lb⟩
def spInstr : Sp := fun vs H Q _ => ∃ (cnt : Nat) (r : Addr) (x : I4), vs = [.int (cnt : Int), .ref r] ∧ H r = some (.tup x.vs) ∧ InsOk cnt x ∧ ∀ H', Same H H' → Q (.bl true) H'
theorem scInstr : FnScope ["byte_count", "value", "opcode", "name", "length", "is_padding"] ["byte_count", "value"] (defScope sIsInstr) := ⟨rfl, rfl, rfl, by decide +kernel, rfl, by decide +kernel, by decide +kernel⟩
theorem ok_instr {f fB fN : Addr} {fd fdB fdN : FuncData} {k : Nat} (F : Fun K "is_instruction" "is_instruction" sIsInstr f fd) (T : Bi mg)
    (B : Def K mg "is_integer_between" sBetween fB fdB ["value", "least", "most"]) (GB : FnOk P w K mg base CX0 (k + 1) fB fdB ["value", "least", "most"] spBetween) (Nm : Def K mg "is_name" sIsName fN fdN ["value"]) (m8 : ∃ t, mg "MOST_LETTERS" = some (.int 8 t)) (m12 : ∃ t, mg "MOST_LENGTH" = some (.int 12 t)) :
    FnOk P w K mg base CX0 (k + 2) f fd ["byte_count", "value"] spInstr := by
  have GN : FnOk P w K mg base CX0 (k + 1) fN fdN ["value"] spName := ok_name Nm.fn T m8
  obtain ⟨t12, m12⟩ := m12
  refine F.ok scInstr (fun vs H Q E h => ?_) (fun cdv A outer s H vs Q E hr h => ?_)
  · obtain ⟨cnt, r, x, rfl, _⟩ := h
    rfl
  · obtain ⟨cnt, r, x, rfl, hx, ok, q⟩ := h
    refine ⟨_, pss_cons (ps_if (PW.pt (pw_or (pt_not (pt_val (pe_callB call_isi (by rfl) T.isi (by decide +kernel) (pa_cons (pv 1) (pa_cons (pe_bltn (v := .ty "tuple") (u := .type "tuple") (by rfl) T.tuple (by decide +kernel) rfl) pa_nil)))))
        (pw_or1 (pt_cmpR op_ne (pe_callB call_len_seq (by rfl) T.len PySem.boot_len (pa_cons (pv 1) pa_nil)) pe_int (nomark _))))) (pss_one (ps_ret pe_bl)) pss_nil)
      (pss_cons (ps_asg (pv 1) (pg_tup rfl (pgs_cons (pg_name (i := 2) scInstr.nd rfl (.inl rfl)) (pgs_cons (pg_name (i := 3) scInstr.nd rfl (.inl rfl)) (pgs_cons (pg_name (i := 4) scInstr.nd rfl (.inl rfl)) (pgs_cons (pg_name (i := 5) scInstr.nd rfl (.inl rfl)) pgs_nil))))))
      (pss_one (ps_ret (pe_and (pe_call GB hr (by rfl) B.gl B.fn.kp B.bi .nil pass0 (pa_cons (pv 2) (pa_cons pe_int (pa_cons (pe_op op_sub (pv 0) pe_int) pa_nil))))
        (pe_and (pe_call GN hr (by rfl) Nm.gl Nm.fn.kp Nm.bi .nil pass0 (pa_cons (pv 3) pa_nil))
        (pe_and (pe_call GB hr (by rfl) B.gl B.fn.kp B.bi .nil pass0 (pa_cons (pv 4) (pa_cons pe_int (pa_cons (pe_glob (v := .int 12) (by rfl) m12 ⟨_, rfl⟩) pa_nil))))
        (pe_one (pe_callB call_isi (by rfl) T.isi (by decide +kernel) (pa_cons (pv 5) (pa_cons (pe_bltn (v := .ty "bool") (u := .type "bool") (by rfl) T.bool (by decide +kernel) rfl) pa_nil)))))))))), ?_⟩
    refine ⟨_, rfl, _, _, _, _, _, rfl, .ty _, .base (.tup hx), kit_ty (by decide +kernel : kitB "tuple" "tuple" = some true), _, rfl, ?_⟩
    refine iteF ⟨_, rfl, r, _, rfl, .inr (SqT.of hx), rfl, _, rfl, ?_⟩
    refine iteNS rfl ?_
    refine ⟨_, rfl, r, _, rfl, SqT.of hx, rfl, _, _, rfl, _, _, rfl, _, _, rfl, _, _, rfl, rfl, ?_⟩
    have o1 := ok.op
    have o2 := ok.ln
    refine ⟨_, rfl, _, rfl, _, _, rfl, rfl, _, _, _, rfl, by omega, by omega, _, rfl, iteT ?_⟩
    refine ⟨_, rfl, x.nm, rfl, ok.nm.1, ok.nm.2.1, ok.nm.2.2, fun H1 s1 => ⟨_, rfl, iteT ?_⟩⟩
    refine ⟨_, rfl, _, _, _, rfl, by omega, by omega, _, rfl, iteT ?_⟩
    exact ⟨_, rfl, _, _, _, _, _, rfl, .ty _, .base (.bl _), kit_ty (by decide +kernel : kitB "bool" "bool" = some true), q H1 s1⟩
/-! ### are_instructions -/
def spAreI : Sp := fun vs H Q _ => ∃ (cnt lg : Nat) (it : Addr) (rs : List Addr) (is : List I4), vs = [.int (cnt : Int), .ref it] ∧ H it = some (.tup (rs.map V.ref)) ∧ Rows H rs is ∧ TabOk cnt lg is ∧ ∀ H', Same H H' → Q (.bl true) H'
theorem scAreI : FnScope ["byte_count", "value", "opcodes", "names", "item", "opcode", "name", "length", "is_padding"] ["byte_count", "value"] (defScope sAreInstr) := ⟨rfl, rfl, rfl, by decide +kernel, rfl, by decide +kernel, by decide +kernel⟩
theorem rows_at {H : Hp} {rs : List Addr} {is : List I4} (h : Rows H rs is) {i : Nat} {x : V} (hx : (rs.map V.ref)[i]? = some x) : ∃ (hi : i < is.length) (r : Addr), x = .ref r ∧ H r = some (.tup is[i].vs) ∧ rs[i]? = some r := by
  have hi : i < rs.length := by
    have := (List.getElem?_eq_some_iff.mp hx).1
    rwa [List.length_map] at this
  have hi2 : i < is.length := by rw [← h.1]; exact hi
  rw [List.getElem?_map, List.getElem?_eq_getElem hi] at hx
  exact ⟨hi2, rs[i], (Option.some.inj hx).symm, h.2 i _ _ (List.getElem?_eq_getElem hi) (List.getElem?_eq_getElem hi2), List.getElem?_eq_getElem hi⟩
theorem ok_areI {f fI fA : Addr} {fd fdI fdA : FuncData} {k : Nat} (F : Fun K "are_instructions" "are_instructions" sAreInstr f fd) (T : Bi mg)
    (Ii : Def K mg "is_instruction" sIsInstr fI fdI ["byte_count", "value"]) (GI : FnOk P w K mg base CX0 k fI fdI ["byte_count", "value"] spInstr) (A : Def K mg "is_ascending" sAscending fA fdA ["numbers"]) (GA : FnOk P w K mg base CX0 k fA fdA ["numbers"] (spAscL K)) :
    FnOk P w K mg base CX0 (k + 1) f fd ["byte_count", "value"] spAreI := by
  refine F.ok scAreI (fun vs H Q E h => ?_) (fun cdv A' outer s H vs Q E hr h => ?_)
  · obtain ⟨cnt, lg, it, rs, is, rfl, _⟩ := h
    rfl
  · obtain ⟨cnt, lg, it, rs, is, rfl, hit, R, ok, q⟩ := h
    refine ⟨_, pss_cons (ps_if (PW.pt (pw_or (pt_not (pt_val (pe_callB call_isi (by rfl) T.isi (by decide +kernel) (pa_cons (pv 1) (pa_cons (pe_bltn (v := .ty "tuple") (u := .type "tuple") (by rfl) T.tuple (by decide +kernel) rfl) pa_nil)))))
        (pw_or1 (pt_cmpR op_eq (pe_callB call_len_seq (by rfl) T.len PySem.boot_len (pa_cons (pv 1) pa_nil)) pe_int (nomark _))))) (pss_one (ps_ret pe_bl)) pss_nil)
      (pss_cons (ps_if (pt_not (pt_val (pe_callB (cr_all rfl) (by rfl) T.all (by decide +kernel) (pa_cons
        (pe_lc (own := [("item", 4)]) (g := gName 4) (tt := tYes) (by rfl) scAreI.nd (pi_tup (pv 1)) (blkOk_by (own := [("item", 4)]) (N := ["byte_count", "value", "opcodes", "names", "item", "opcode", "name", "length", "is_padding"]) (sc := defScope sAreInstr) (by decide +kernel))
          (fun _ _ _ _ _ => pg_name (i := 4) scAreI.nd rfl (Or.inl rfl)) (fun _ _ _ _ _ => pts_nil)
          (fun _ _ _ _ _ => pe_call GI hr (by rfl) Ii.gl Ii.fn.kp Ii.bi .nil pass0 (pa_cons (pv 0) (pa_cons (pv 4) pa_nil)))) pa_nil)))) (pss_one (ps_ret pe_bl)) pss_nil)
      (pss_cons (ps_setLc (i := 2) (own := [("opcode", 5), ("name", 6), ("length", 7), ("is_padding", 8)]) (g := gTup K 4 (gCons (gName 5) (gCons (gName 6) (gCons (gName 7) (gCons (gName 8) gNil))))) (tt := tYes) (by rfl) scAreI.nd rfl rfl (sw_true rfl rfl rfl (by decide +kernel)) (pi_tup (pv 1))
          (blkOk_by (own := [("opcode", 5), ("name", 6), ("length", 7), ("is_padding", 8)]) (N := ["byte_count", "value", "opcodes", "names", "item", "opcode", "name", "length", "is_padding"]) (sc := defScope sAreInstr) (by decide +kernel))
          (fun _ _ _ _ _ => pg_tup rfl (pgs_cons (pg_name (i := 5) scAreI.nd rfl (Or.inl rfl)) (pgs_cons (pg_name (i := 6) scAreI.nd rfl (Or.inl rfl)) (pgs_cons (pg_name (i := 7) scAreI.nd rfl (Or.inl rfl)) (pgs_cons (pg_name (i := 8) scAreI.nd rfl (Or.inl rfl)) pgs_nil)))))
          (fun _ _ _ _ _ => pts_nil) (fun _ _ _ _ _ => pv 5))
      (pss_cons (ps_setLc (i := 3) (own := [("opcode", 5), ("name", 6), ("length", 7), ("is_padding", 8)]) (g := gTup K 4 (gCons (gName 5) (gCons (gName 6) (gCons (gName 7) (gCons (gName 8) gNil))))) (tt := tYes) (by rfl) scAreI.nd rfl rfl (sw_true rfl rfl rfl (by decide +kernel)) (pi_tup (pv 1))
          (blkOk_by (own := [("opcode", 5), ("name", 6), ("length", 7), ("is_padding", 8)]) (N := ["byte_count", "value", "opcodes", "names", "item", "opcode", "name", "length", "is_padding"]) (sc := defScope sAreInstr) (by decide +kernel))
          (fun _ _ _ _ _ => pg_tup rfl (pgs_cons (pg_name (i := 5) scAreI.nd rfl (Or.inl rfl)) (pgs_cons (pg_name (i := 6) scAreI.nd rfl (Or.inl rfl)) (pgs_cons (pg_name (i := 7) scAreI.nd rfl (Or.inl rfl)) (pgs_cons (pg_name (i := 8) scAreI.nd rfl (Or.inl rfl)) pgs_nil)))))
          (fun _ _ _ _ _ => pts_nil) (fun _ _ _ _ _ => pv 6))
      (pss_one (ps_ret (pe_and (pe_call GA hr (by rfl) A.gl A.fn.kp A.bi .nil pass0 (pa_cons (pv 2) pa_nil))
        (pe_one (pe_cmpR op_eq (pe_lenSetT (by rfl) (by rfl) T.len (by rfl) T.set (pv 3)) (pe_callB call_len_seq (by rfl) T.len PySem.boot_len (pa_cons (pv 3) pa_nil)) (nomark _))))))))), ?_⟩
    have few := ok.few
    have rl := R.1
    refine ⟨_, rfl, _, _, _, _, _, rfl, .ty _, .base (.tup hit), kit_ty (by decide +kernel : kitB "tuple" "tuple" = some true), _, rfl, ?_⟩
    refine iteF ⟨_, rfl, it, _, rfl, .inr (SqT.of hit), rfl, _, rfl, ?_⟩
    rw [decide_eq_false (fun z => ok.ne (List.eq_nil_of_length_eq_zero (by have := V.int.inj z; rw [List.length_map] at this; omega)))]
    refine iteF ?_
    -- all are instructions
    refine ⟨_, rfl, it, rfl, ⟨_, SqT.of hit⟩, fun D nD => lc_tup (K := K) (a := it) (xs := rs.map V.ref) (fun i H2 => Mk H H2 D ((List.replicate i true).map V.bl)) (.start nD) (fun i H2 _ p => p.same.tup (SqT.of hit)) ?_ ?_⟩
    · intro i x H2 hx mk
      obtain ⟨hi, r, rfl, hr2, _⟩ := rows_at R hx
      refine ⟨rfl, _, rfl, _, rfl, cnt, r, is[i], rfl, mk.same _ _ hr2, ok.ins (List.getElem_mem hi), fun H3 s3 => ⟨_, s3 _ _ mk.at_, (by rw [List.length_map, List.length_replicate]; exact small1000 (by omega)), ?_⟩⟩
      rw [List.replicate_succ', List.map_append]
      exact mk.put s3
    intro H2 mk
    refine ⟨D, _, rfl, SqL.of mk.at_, _, rfl, ?_⟩
    rw [all_true]
    refine iteF ?_
    have s2 := mk.same
    have hit2 := s2 _ _ hit
    have R2 := R.same s2
    clear mk
    -- opcodes
    refine ⟨_, rfl, it, rfl, ⟨_, SqT.of hit2⟩, fun D3 nD3 => lc_tup (K := K) (a := it) (xs := rs.map V.ref) (fun i H3 => Mk H2 H3 D3 (((is.take i).map fun x => (x.op : Int)).map V.int)) (.start nD3) (fun i H3 _ p => p.same.tup (SqT.of hit2)) ?_ ?_⟩
    · intro i x H3 hx mk
      obtain ⟨hi, r, rfl, hr2, _⟩ := rows_at R2 hx
      refine ⟨r, _, rfl, SqT.of (mk.same _ _ hr2), rfl, _, _, rfl, _, _, rfl, _, _, rfl, _, _, rfl, rfl, rfl, _, rfl, _, mk.at_, (by rw [List.length_map, List.length_map, List.length_take]; exact small1000 (by omega)), ?_⟩
      rw [take_more (List.getElem?_eq_getElem hi), List.map_append, List.map_append]
      exact mk.put (Same.refl _)
    intro H3 m3
    rw [List.length_map, rl, List.take_length] at m3
    have s3 := s2.trans m3.same
    have hit3 := s3 _ _ hit
    have R3 := R.same s3
    -- names
    refine ⟨_, rfl, it, rfl, ⟨_, SqT.of hit3⟩, fun D4 nD4 => lc_tup (K := K) (a := it) (xs := rs.map V.ref) (fun i H4 => Mk H3 H4 D4 (((is.take i).map fun x => txt x.nm).map V.str)) (.start nD4) (fun i H4 _ p => p.same.tup (SqT.of hit3)) ?_ ?_⟩
    · intro i x H4 hx mk
      obtain ⟨hi, r, rfl, hr2, _⟩ := rows_at R3 hx
      refine ⟨r, _, rfl, SqT.of (mk.same _ _ hr2), rfl, _, _, rfl, _, _, rfl, _, _, rfl, _, _, rfl, rfl, rfl, _, rfl, _, mk.at_, (by rw [List.length_map, List.length_map, List.length_take]; exact small1000 (by omega)), ?_⟩
      rw [take_more (List.getElem?_eq_getElem hi), List.map_append, List.map_append]
      exact mk.put (Same.refl _)
    intro H4 m4
    rw [List.length_map, rl, List.take_length] at m4
    have h43 := m4.same _ _ m3.at_
    refine ⟨_, rfl, D3, is.map fun x => (x.op : Int), rfl, SqL.of h43, by rw [List.length_map]; omega, ?_, fun H5 s5 => ⟨_, rfl, iteT ?_⟩⟩
    · have := ok.asc
      rw [List.pairwise_map] at this ⊢
      exact this.imp fun z => by omega
    have h54 := s5 _ _ m4.at_
    refine ⟨_, rfl, D4, is.map fun x => txt x.nm, rfl, SqL.of h54, ?_, by rw [List.length_map]; omega, _, rfl, D4, _, rfl, .inl (SqL.of h54), rfl, ?_⟩
    · have := ok.nd
      rw [List.nodup_iff_pairwise_ne, List.pairwise_map] at this ⊢
      exact this.imp fun z y => z (txt_inj y)
    rw [decide_eq_true (by rw [List.length_map, List.length_map, List.length_map])]
    exact q H5 ((s3.trans m4.same).trans s5)
end
end Ov

namespace Ov
open PySem PySem.Spec PyProof.Rows L2
abbrev sInitI : Stmt := inClass cInstructionSet 0
/-! ### the attributes of an instruction set -/
def lenKV (is : List I4) : List (Key × V) := is.map fun x => ((Sum.inl (x.op : Int) : Key), V.int (x.ln : Int))
def nameKV (is : List I4) : List (Key × V) := is.map fun x => ((Sum.inr (txt x.nm) : Key), V.int (x.op : Int))
def flds (cnt : Nat) (it d1 d2 : Addr) : List (Str × V) := putF "opcode_of_name" (.ref d2) (putF "length_of_opcode" (.ref d1) (putF "instructions" (.ref it) (putF "byte_count" (.int (cnt : Int)) [])))
theorem n01 : ¬ (("byte_count" : Str) = "opcode_of_name") := by decide +kernel
theorem n02 : ¬ (("byte_count" : Str) = "length_of_opcode") := by decide +kernel
theorem n03 : ¬ (("byte_count" : Str) = "instructions") := by decide +kernel
theorem n11 : ¬ (("instructions" : Str) = "opcode_of_name") := by decide +kernel
theorem n12 : ¬ (("instructions" : Str) = "length_of_opcode") := by decide +kernel
theorem n21 : ¬ (("length_of_opcode" : Str) = "opcode_of_name") := by decide +kernel
theorem flds_cnt (cnt : Nat) (it d1 d2 : Addr) : (flds cnt it d1 d2).lookup ("byte_count" : Str) = some (.int (cnt : Int)) := by
  unfold flds
  rw [lookup_putF, if_neg n01, lookup_putF, if_neg n02, lookup_putF, if_neg n03, lookup_putF, if_pos rfl]
theorem flds_its (cnt : Nat) (it d1 d2 : Addr) : (flds cnt it d1 d2).lookup ("instructions" : Str) = some (.ref it) := by
  unfold flds
  rw [lookup_putF, if_neg n11, lookup_putF, if_neg n12, lookup_putF, if_pos rfl]
theorem flds_len (cnt : Nat) (it d1 d2 : Addr) : (flds cnt it d1 d2).lookup ("length_of_opcode" : Str) = some (.ref d1) := by
  unfold flds
  rw [lookup_putF, if_neg n21, lookup_putF, if_pos rfl]
theorem flds_nms (cnt : Nat) (it d1 d2 : Addr) : (flds cnt it d1 d2).lookup ("opcode_of_name" : Str) = some (.ref d2) := by
  unfold flds
  rw [lookup_putF, if_pos rfl]
theorem put_fresh {kvs : List (Key × V)} {k : Key} {v : V} (h : k ∉ kvs.map (·.1)) : putK kvs k v = kvs ++ [(k, v)] := by
  unfold putK
  refine if_neg fun z => h ?_
  obtain ⟨q, hq, e⟩ := List.any_eq_true.mp z
  exact List.mem_map.mpr ⟨q, hq, of_decide_eq_true e⟩
/-- an instruction set as it stands -/
structure SetAt (C : Addr) (H : Hp) (p : Addr) (cnt : Nat) (it : Addr) (is : List I4) : Prop where
  ob : ∃ dx d1 d2, H p = some (.ins C dx (flds cnt it d1 d2)) ∧ H d1 = some (.dK (lenKV is)) ∧ H d2 = some (.dK (nameKV is))
theorem SetAt.same {C : Addr} {H H' : Hp} {p : Addr} {cnt : Nat} {it : Addr} {is : List I4} (h : SetAt C H p cnt it is) (s : Same H H') : SetAt C H' p cnt it is := by
  obtain ⟨dx, d1, d2, h1, h2, h3⟩ := h.ob
  exact ⟨dx, d1, d2, s _ _ h1, s _ _ h2, s _ _ h3⟩
/-- what the top says of the class -/
structure SetTxt (K : PySem.W.Frag) (mg : Str → Option Value) (C : Addr) : Prop where
  cl : Cls K C
  nB : NoAttr K C "byte_count"
  nI : NoAttr K C "instructions"
  nL : NoAttr K C "length_of_opcode"
  nO : NoAttr K C "opcode_of_name"
  mgC : mg "InstructionSet" = some (.ref C)
section
variable {P : Program} {w : World} {K : PySem.W.Frag} {mg : Str → Option Value} {base : Heap}
def spInitI (C : Addr) : Sp := fun vs H Q _ => ∃ (p dx : Addr) (cnt lg : Nat) (it : Addr) (rs : List Addr) (is : List I4), vs = [.ref p, .int (cnt : Int), .ref it] ∧ H p = some (.ins C dx []) ∧ H it = some (.tup (rs.map V.ref)) ∧ Rows H rs is ∧ TabOk cnt lg is ∧
  ∀ H', SetAt C H' p cnt it is → (∀ b o, H b = some o → b ≠ p → H' b = some o) → Q .non H'
theorem scInitI : FnScope ["self", "byte_count", "instructions", "opcode", "name", "length", "is_padding"] ["self", "byte_count", "instructions"] (defScope sInitI) := ⟨rfl, rfl, rfl, by decide +kernel, rfl, by decide +kernel, by decide +kernel⟩
theorem ok_initI {f fB fA C : Addr} {fd fdB fdA : FuncData} {k : Nat} (F : Fun K "__init__" "InstructionSet.__init__" sInitI f fd) (T : Bi mg) (S : SetTxt K mg C)
    (B : Def K mg "is_integer_between" sBetween fB fdB ["value", "least", "most"]) (GB : FnOk P w K mg base CX0 k fB fdB ["value", "least", "most"] spBetween)
    (A : Def K mg "are_instructions" sAreInstr fA fdA ["byte_count", "value"]) (GA : FnOk P w K mg base CX0 k fA fdA ["byte_count", "value"] spAreI)
    (m2 : ∃ t, mg "LEAST_BYTE_COUNT" = some (.int 2 t)) (m256 : ∃ t, mg "MOST_BYTE_COUNT" = some (.int 256 t)) : FnOk P w K mg base CX0 (k + 1) f fd ["self", "byte_count", "instructions"] (spInitI C) := by
  obtain ⟨t2, m2⟩ := m2
  obtain ⟨t256, m256⟩ := m256
  refine F.ok scInitI (fun vs H Q E h => ?_) (fun cdv A' outer s H vs Q E hr h => ?_)
  · obtain ⟨p, dx, cnt, lg, it, rs, is, rfl, _⟩ := h
    rfl
  · obtain ⟨p, dx, cnt, lg, it, rs, is, rfl, hp, hit, R, ok, q⟩ := h
    refine ⟨_, pss_cons (ps_if (pt_not (pt_val (pe_call GB hr (by rfl) B.gl B.fn.kp B.bi .nil pass0 (pa_cons (pv 1) (pa_cons (pe_glob (v := .int 2) (by rfl) m2 ⟨_, rfl⟩) (pa_cons (pe_glob (v := .int 256) (by rfl) m256 ⟨_, rfl⟩) pa_nil)))))) (pss_one ps_never) pss_nil)
      (pss_cons (ps_if (pt_not (pt_val (pe_call GA hr (by rfl) A.gl A.fn.kp A.bi .nil pass0 (pa_cons (pv 1) (pa_cons (pv 2) pa_nil))))) (pss_one ps_never) pss_nil)
      (pss_cons (ps_fld (pv 0) (pv 1) rfl)
      (pss_cons (ps_fld (pv 0) (pv 2) rfl)
      (pss_cons (ps_fld (pv 0) (pe_dc (own := [("opcode", 3), ("name", 4), ("length", 5), ("is_padding", 6)]) (g := gTup K 4 (gCons (gName 3) (gCons (gName 4) (gCons (gName 5) (gCons (gName 6) gNil))))) (tt := tYes) (by rfl) scInitI.nd (pi_tup (pv 2))
          (blkOk_by (own := [("opcode", 3), ("name", 4), ("length", 5), ("is_padding", 6)]) (N := ["self", "byte_count", "instructions", "opcode", "name", "length", "is_padding"]) (sc := defScope sInitI) (by decide +kernel))
          (fun _ _ _ _ _ => pg_tup rfl (pgs_cons (pg_name (i := 3) scInitI.nd rfl (Or.inl rfl)) (pgs_cons (pg_name (i := 4) scInitI.nd rfl (Or.inl rfl)) (pgs_cons (pg_name (i := 5) scInitI.nd rfl (Or.inl rfl)) (pgs_cons (pg_name (i := 6) scInitI.nd rfl (Or.inl rfl)) pgs_nil)))))
          (fun _ _ _ _ _ => pts_nil) (fun _ _ _ _ _ => pv 3) (fun _ _ _ _ _ => pv 5)) rfl)
      (pss_one (ps_fld (pv 0) (pe_dc (own := [("opcode", 3), ("name", 4), ("length", 5), ("is_padding", 6)]) (g := gTup K 4 (gCons (gName 3) (gCons (gName 4) (gCons (gName 5) (gCons (gName 6) gNil))))) (tt := tYes) (by rfl) scInitI.nd (pi_tup (pv 2))
          (blkOk_by (own := [("opcode", 3), ("name", 4), ("length", 5), ("is_padding", 6)]) (N := ["self", "byte_count", "instructions", "opcode", "name", "length", "is_padding"]) (sc := defScope sInitI) (by decide +kernel))
          (fun _ _ _ _ _ => pg_tup rfl (pgs_cons (pg_name (i := 3) scInitI.nd rfl (Or.inl rfl)) (pgs_cons (pg_name (i := 4) scInitI.nd rfl (Or.inl rfl)) (pgs_cons (pg_name (i := 5) scInitI.nd rfl (Or.inl rfl)) (pgs_cons (pg_name (i := 6) scInitI.nd rfl (Or.inl rfl)) pgs_nil)))))
          (fun _ _ _ _ _ => pts_nil) (fun _ _ _ _ _ => pv 4) (fun _ _ _ _ _ => pv 3)) rfl)))))), ?_⟩
    have cb := ok.cb
    have few := ok.few
    have rl := R.1
    refine ⟨_, rfl, _, _, _, rfl, by omega, by omega, _, rfl, iteF ?_⟩
    refine ⟨_, rfl, _, rfl, cnt, lg, it, rs, is, rfl, hit, R, ok, fun H1 s1 => ⟨_, rfl, iteF ?_⟩⟩
    have hp1 := s1 _ _ hp
    -- byte_count, instructions
    refine ⟨_, rfl, _, rfl, p, C, dx, [], rfl, hp1, S.cl, S.nB, (by show 0 < 1000; decide), ?_⟩
    refine ⟨_, rfl, _, rfl, p, C, dx, _, rfl, upd_same, S.cl, S.nI, (by show 1 < 1000; decide), ?_⟩
    generalize hH3 : upd (upd H1 p (HO.ins C dx (putF "byte_count" (V.int (cnt : Int)) []))) p (HO.ins C dx (putF "instructions" (V.ref it) (putF "byte_count" (V.int (cnt : Int)) []))) = H3
    have hp3 : H3 p = some (.ins C dx (putF "instructions" (V.ref it) (putF "byte_count" (V.int (cnt : Int)) []))) := by rw [← hH3]; exact upd_same
    have s3 : ∀ b o, H1 b = some o → b ≠ p → H3 b = some o := fun b o e n => by rw [← hH3, upd_ne n, upd_ne n]; exact e
    have itp : it ≠ p := fun z => by rw [z, hp] at hit; cases hit
    have hit3 := s3 _ _ (s1 _ _ hit) itp
    have R3 : Rows H3 rs is := ⟨R.1, fun i r x h1 h2 => s3 _ _ (s1 _ _ (R.2 i r x h1 h2)) fun z => by have := R.2 i r x h1 h2; rw [z, hp] at this; cases this⟩
    clear hH3
    -- lengths by opcodes
    have fresh1 : ∀ (i : Nat) (hi : i < is.length), (Sum.inl ((is[i]).op : Int) : Key) ∉ (lenKV (is.take i)).map (·.1) := fun i hi z => by
      unfold lenKV at z
      rw [List.map_map] at z
      obtain ⟨y, hy, e⟩ := List.mem_map.mp z
      obtain ⟨j, hj, ej⟩ := List.mem_take_iff_getElem.mp hy
      have e' : (y.op : Int) = ((is[i]).op : Int) := Sum.inl.inj e
      have h1 := List.pairwise_iff_getElem.mp ok.asc j i (by rw [List.length_map]; omega) (by rw [List.length_map]; exact hi) (by omega)
      rw [List.getElem_map, List.getElem_map, ej] at h1
      omega
    have fresh2 : ∀ (i : Nat) (hi : i < is.length), (Sum.inr (txt (is[i]).nm) : Key) ∉ (nameKV (is.take i)).map (·.1) := fun i hi z => by
      unfold nameKV at z
      rw [List.map_map] at z
      obtain ⟨y, hy, e⟩ := List.mem_map.mp z
      obtain ⟨j, hj, ej⟩ := List.mem_take_iff_getElem.mp hy
      have e' : txt y.nm = txt (is[i]).nm := Sum.inr.inj e
      have h1 := List.pairwise_iff_getElem.mp (List.nodup_iff_pairwise_ne.mp ok.nd) j i (by rw [List.length_map]; omega) (by rw [List.length_map]; exact hi) (by omega)
      rw [List.getElem_map, List.getElem_map, ej] at h1
      exact h1 (txt_inj e')
    refine ⟨_, rfl, it, rfl, ⟨_, SqT.of hit3⟩, fun D nD => dc_tup (K := K) (a := it) (xs := rs.map V.ref) (fun i H4 => Same H3 H4 ∧ H4 D = some (.dK (lenKV (is.take i)))) ⟨same_upd nD, upd_same⟩ (fun i H4 _ p => p.1.tup (SqT.of hit3)) ?_ ?_⟩
    · rintro i x H4 hx ⟨s4, hD⟩
      obtain ⟨hi, r, rfl, hr2, _⟩ := rows_at R3 hx
      refine ⟨r, _, rfl, SqT.of (s4 _ _ hr2), rfl, _, _, rfl, _, _, rfl, _, _, rfl, _, _, rfl, rfl, rfl, _, rfl, _, rfl, _, Sum.inl ((is[i]).op : Int), rfl, hD, ?_, fun b o e => ?_, ?_⟩
      · unfold lenKV
        rw [List.length_map, List.length_take]
        exact small1000 (by omega)
      · rw [upd_ne (ne_of_none e nD)]
        exact s4 b o e
      · rw [upd_same, put_fresh (fresh1 i hi), take_more (List.getElem?_eq_getElem hi)]
        unfold lenKV
        rw [List.map_append]
        rfl
    rintro H4 ⟨s4, hD⟩
    rw [List.length_map, rl, List.take_length] at hD
    have hDp : D ≠ p := (ne_of_none hp3 nD).symm
    refine ⟨_, rfl, p, C, dx, _, rfl, s4 _ _ hp3, S.cl, S.nL, (by show 2 < 1000; decide), ?_⟩
    generalize hH5 : upd H4 p (HO.ins C dx (putF "length_of_opcode" (V.ref D) (putF "instructions" (V.ref it) (putF "byte_count" (V.int (cnt : Int)) [])))) = H5
    have hp5 : H5 p = some (.ins C dx (putF "length_of_opcode" (V.ref D) (putF "instructions" (V.ref it) (putF "byte_count" (V.int (cnt : Int)) [])))) := by rw [← hH5]; exact upd_same
    have s5 : ∀ b o, H4 b = some o → b ≠ p → H5 b = some o := fun b o e n => by rw [← hH5, upd_ne n]; exact e
    have hD5 := s5 _ _ hD hDp
    have hit5 := s5 _ _ (s4 _ _ hit3) itp
    have R5 : Rows H5 rs is := ⟨R.1, fun i r x h1 h2 => s5 _ _ (s4 _ _ (R3.2 i r x h1 h2)) fun z => by have := R3.2 i r x h1 h2; rw [z, hp3] at this; cases this⟩
    clear hH5
    -- opcodes by names
    refine ⟨_, rfl, it, rfl, ⟨_, SqT.of hit5⟩, fun E2 nE => dc_tup (K := K) (a := it) (xs := rs.map V.ref) (fun i H6 => Same H5 H6 ∧ H6 E2 = some (.dK (nameKV (is.take i)))) ⟨same_upd nE, upd_same⟩ (fun i H6 _ p => p.1.tup (SqT.of hit5)) ?_ ?_⟩
    · rintro i x H6 hx ⟨s6, hE⟩
      obtain ⟨hi, r, rfl, hr2, _⟩ := rows_at R5 hx
      refine ⟨r, _, rfl, SqT.of (s6 _ _ hr2), rfl, _, _, rfl, _, _, rfl, _, _, rfl, _, _, rfl, rfl, rfl, _, rfl, _, rfl, _, Sum.inr (txt (is[i]).nm), rfl, hE, ?_, fun b o e => ?_, ?_⟩
      · unfold nameKV
        rw [List.length_map, List.length_take]
        exact small1000 (by omega)
      · rw [upd_ne (ne_of_none e nE)]
        exact s6 b o e
      · rw [upd_same, put_fresh (fresh2 i hi), take_more (List.getElem?_eq_getElem hi)]
        unfold nameKV
        rw [List.map_append]
        rfl
    rintro H6 ⟨s6, hE⟩
    rw [List.length_map, rl, List.take_length] at hE
    have hEp : E2 ≠ p := (ne_of_none hp5 nE).symm
    refine ⟨_, rfl, p, C, dx, _, rfl, s6 _ _ hp5, S.cl, S.nO, (by show 3 < 1000; decide), ?_⟩
    refine q _ ⟨dx, D, E2, upd_same, ?_, ?_⟩ fun b o e n => ?_
    · rw [upd_ne hDp]; exact s6 _ _ hD5
    · rw [upd_ne hEp]; exact hE
    · rw [upd_ne n]
      exact s6 _ _ (s5 _ _ (s4 _ _ (s3 _ _ (s1 _ _ e) n)) n)
end
end Ov
namespace Ov
open PySem PySem.Spec PyProof.Rows L2
/-- a part of the heap, and what was laid beside it -/
structure Grow (T H T' H' : Hp) : Prop where
  hh : Same H H'
  tt : Same T T'
  th : Same T' H'
  new : ∀ b, T b = none → H b ≠ none → T' b = none
theorem Grow.refl {T H : Hp} (h : Same T H) : Grow T H T H := ⟨Same.refl _, Same.refl _, h, fun _ e _ => e⟩
theorem Grow.put {T H T' H' : Hp} (g : Grow T H T' H') {p : Addr} (o : HO) (n : H' p = none) : Grow T H (upd T' p o) (upd H' p o) := by
  refine ⟨g.hh.trans (same_upd n), g.tt.trans (same_upd ?_), fun b x e => ?_, fun b e h => ?_⟩
  · cases q : T' p with
    | none => rfl
    | some x => rw [g.th _ _ q] at n; cases n
  · by_cases hb : b = p
    · subst hb
      rw [upd_same] at e ⊢
      exact e
    · rw [upd_ne hb] at e ⊢
      exact g.th _ _ e
  · by_cases hb : b = p
    · subst hb
      cases q : H b with
      | none => exact absurd q h
      | some x => rw [g.hh _ _ q] at n; cases n
    · rw [upd_ne hb]
      exact g.new b e h
theorem Grow.trans {T H T1 H1 T2 H2 : Hp} (a : Grow T H T1 H1) (b : Grow T1 H1 T2 H2) : Grow T H T2 H2 :=
  ⟨a.hh.trans b.hh, a.tt.trans b.tt, b.th, fun c e h => b.new c (a.new c e h) fun z => by
    cases q : H c with
    | none => exact h q
    | some x => rw [a.hh _ _ q] at z; cases z⟩
theorem none_of {T H : Hp} {l : Addr} (s : Same T H) (n : H l = none) : T l = none := by
  cases z : T l with
  | none => rfl
  | some x => rw [s _ _ z] at n; cases n
end Ov

namespace Ov
open PySem PySem.Spec PyProof.Rows L2
/-! ### lists of data put together -/
theorem showableAll_app : ∀ a b : List PyData, PyData.showableAll (a ++ b) = (PyData.showableAll a && PyData.showableAll b)
  | [], b => by simp [PyData.showableAll]
  | x :: a, b => by simp [PyData.showableAll, showableAll_app a b, Bool.and_assoc]
theorem hasDictAll_app : ∀ a b : List PyData, PyData.hasDictAll (a ++ b) = (PyData.hasDictAll a || PyData.hasDictAll b)
  | [], b => by simp [PyData.hasDictAll]
  | x :: a, b => by simp [PyData.hasDictAll, hasDictAll_app a b, Bool.or_assoc]
theorem noListAll_app : ∀ a b : List PyData, noListAll (a ++ b) = (noListAll a && noListAll b)
  | [], b => by simp [noListAll]
  | x :: a, b => by simp [noListAll, noListAll_app a b, Bool.and_assoc]
theorem depthAll_app : ∀ a b : List PyData, PyData.depthAll (a ++ b) = max (PyData.depthAll a) (PyData.depthAll b)
  | [], b => by simp [PyData.depthAll]
  | x :: a, b => by simp [PyData.depthAll, depthAll_app a b] <;> omega
theorem nodesAll_app : ∀ a b : List PyData, nodesAll (a ++ b) = nodesAll a + nodesAll b
  | [], b => by simp [nodesAll]
  | x :: a, b => by simp [nodesAll, nodesAll_app a b] <;> omega
theorem noListAll_ints : ∀ ns : List Int, noListAll (ns.map PyData.int) = true
  | [] => by simp [noListAll]
  | n :: ns => by simp [noListAll, noList, noListAll_ints ns]
/-- what can be shown as a part -/
structure ShowsAll (ds : List PyData) (n : Nat) : Prop where
  sh : PyData.showableAll ds = true
  nl : PyData.hasDictAll ds = true → noListAll ds = true
  dep : PyData.depthAll ds ≤ 50
  nd : nodesAll ds ≤ n
theorem ShowsAll.tup {ds : List PyData} {n : Nat} (h : ShowsAll ds n) (hn : n ≤ 7999) : Shows (.tuple ds) :=
  ⟨by simp only [PyData.showable]; exact h.sh, fun z => by simp only [noList]; exact h.nl (by simpa only [PyData.hasDict] using z), by simp only [PyData.depth]; have := h.dep; omega, by simp only [nodes]; have := h.nd; omega⟩
theorem ints_show {ns : List Int} (h : ∀ n ∈ ns, n.natAbs < 2 ^ 1000) : ShowsAll (ns.map PyData.int) ns.length := by
  have f := flat_ints h
  exact ⟨f.sh, fun _ => noListAll_ints _, by rw [f.dep]; decide, by rw [f.nds, List.length_map]; exact Nat.le_refl _⟩
/-- ints, a thing, ints -/
theorem odd_show {a b : List Int} {d : PyData} (ha : ∀ n ∈ a, n.natAbs < 2 ^ 1000) (hb : ∀ n ∈ b, n.natAbs < 2 ^ 1000) (S : Shows d) (dep : d.depth ≤ 50) : ShowsAll (a.map PyData.int ++ [d] ++ b.map PyData.int) (a.length + nodes d + b.length) := by
  have fa := flat_ints ha
  have fb := flat_ints hb
  refine ⟨?_, fun z => ?_, ?_, ?_⟩
  · rw [showableAll_app, showableAll_app, fa.sh, fb.sh]
    simp [PyData.showableAll, S.sh]
  · rw [hasDictAll_app, hasDictAll_app, fa.nod, fb.nod] at z
    have z' : d.hasDict = true := by simpa [PyData.hasDictAll] using z
    rw [noListAll_app, noListAll_app, noListAll_ints, noListAll_ints]
    simp [noListAll, S.nl z']
  · rw [depthAll_app, depthAll_app, fa.dep, fb.dep]
    simp [PyData.depthAll]
    omega
  · rw [nodesAll_app, nodesAll_app, fa.nds, fb.nds]
    simp [nodesAll]
theorem shows_int {i : Int} (h : i.natAbs < 2 ^ 1000) : Shows (.int i) := by
  have f := flat_ints (ns := [i]) (fun n hn => by rw [List.mem_singleton.mp hn]; exact h)
  refine ⟨by have := f.sh; simpa [PyData.showableAll] using this, fun z => by simp [PyData.hasDict] at z, by simp [PyData.depth], by simp [nodes]⟩
theorem shows_bool (b : Bool) : Shows (.bool b) := ⟨by simp [PyData.showable], fun z => by simp [PyData.hasDict] at z, by simp [PyData.depth], by simp [nodes]⟩
theorem shows_none : Shows .none := ⟨by simp [PyData.showable], fun z => by simp [PyData.hasDict] at z, by simp [PyData.depth], by simp [nodes]⟩
theorem shows_str {x : Str} (h : (reprText x).length ≤ 100) : Shows (.str x) := ⟨by simp [PyData.showable], fun z => by simp [PyData.hasDict] at z, by simp [PyData.depth], by simp [nodes]; omega⟩
theorem dict0_nodes : nodes (.dict []) ≤ 100 := by
  simp only [nodes, PyData.shownKv]
  decide +kernel
theorem shows_dict : Shows (.dict []) := ⟨by simp [PyData.showable, PyData.showableKv], fun _ => by simp [noList], by simp [PyData.depth, PyData.depthKv], Nat.le_trans dict0_nodes (by decide)⟩
theorem shows_nil : Shows (.list []) := ⟨by simp [PyData.showable, PyData.showableAll], fun z => by simp [PyData.hasDict, PyData.hasDictAll] at z, by simp [PyData.depth, PyData.depthAll], by simp [nodes, nodesAll]⟩
/-- parts of tuples -/
theorem cut_from (k : Nat) (xs : List V) : cutV xs (some (k : Int)) none = xs.drop k := by
  unfold cutV
  rw [show HT.sIx xs.length 0 (some (k : Int)) = min k xs.length from HT.sIx_nat xs.length 0 k, HT.sIx_none]
  rcases Nat.le_total k xs.length with c | c
  · rw [Nat.min_eq_left c]
    exact List.take_of_length_le (by rw [List.length_drop]; exact Nat.le_refl _)
  · rw [Nat.min_eq_right c, List.drop_of_length_le c, List.drop_of_length_le (Nat.le_refl _), List.take_nil]
theorem cut_to (k : Nat) (xs : List V) : cutV xs none (some (k : Int)) = xs.take k := by
  unfold cutV
  rw [show HT.sIx xs.length xs.length (some (k : Int)) = min k xs.length from HT.sIx_nat xs.length xs.length k, HT.sIx_none, List.drop_zero, Nat.sub_zero]
  rcases Nat.le_total k xs.length with c | c
  · rw [Nat.min_eq_left c]
  · rw [Nat.min_eq_right c, List.take_length, List.take_of_length_le c]
theorem cut_all {xs : List V} {lo hi : Option Int} (h : HT.sIx xs.length 0 lo = 0 ∧ HT.sIx xs.length xs.length hi = xs.length) : cutV xs lo hi = xs := by
  unfold cutV
  rw [h.1, h.2, List.drop_zero, Nat.sub_zero, List.take_length]
section
variable {K : PySem.W.Frag} {T H : Hp} {Q : VK}
theorem cat_x {a b : Addr} {xs ys : List V} (st : Same T H) (ha : SqT K T a xs) (hb : SqT K T b ys) (hl : xs.length + ys.length ≤ sizeLine) (q : ∀ l H' T', Grow T H T' H' → SqT K T' l (xs ++ ys) → Q (.ref l) H') : rCatA K (.ref a) (.ref b) H Q := by
  refine ⟨a, b, xs, ys, rfl, rfl, st.tup ha, st.tup hb, hl, fun e => ?_, fun _ e => ?_, fun _ _ p np => ?_⟩
  · subst e
    exact q b H T (.refl st) hb
  · subst e
    exact q a H T (.refl st) (by rw [List.append_nil]; exact ha)
  · exact q p _ _ ((Grow.refl st).put _ np) (SqT.of upd_same)
theorem cut_x {a : Addr} {xs : List V} {lo hi : Option Int} (st : Same T H) (ha : SqT K T a xs) (q : ∀ l H' T', Grow T H T' H' → SqT K T' l (cutV xs lo hi) → Q (.ref l) H') : rSlA K (.ref a) lo hi H Q := by
  refine ⟨a, xs, rfl, st.tup ha, fun e => ?_, fun _ p np => ?_⟩
  · exact q a H T (.refl st) (by rw [cut_all e]; exact ha)
  · exact q p _ _ ((Grow.refl st).put _ np) (SqT.of upd_same)
end
end Ov

namespace Ov
open PySem PySem.Spec PyProof.Rows L2
/-! ### integers and codes among things of any kind -/
def btw (lo hi : Int) : PyData → Bool
  | .int i => decide (lo ≤ i) && decide (i ≤ hi)
  | _ => false
section
variable {P : Program} {w : World} {K : PySem.W.Frag} {mg : Str → Option Value} {base : Heap}
def isInt : PyData → Bool
  | .int _ => true
  | _ => false
def spIsIntX (K : PySem.W.Frag) : Sp := fun vs H Q _ => ∃ (v : V) (d : PyData), vs = [v] ∧ Dx K H v d ∧ Q (.bl (isInt d)) H
theorem ok_isIntX {f : Addr} {fd : FuncData} {k : Nat} (F : Fun K "is_integer" "is_integer" sIsInt f fd) (T : Bi mg) : FnOk P w K mg base CX0 (k + 1) f fd ["value"] (spIsIntX K) := by
  refine F.ok scIsInt (fun vs H Q E h => ?_) (fun cdv A outer s H vs Q E hr h => ?_)
  · obtain ⟨v, d, rfl, _⟩ := h
    rfl
  · obtain ⟨v, d, rfl, D, q⟩ := h
    refine ⟨_, pss_one (ps_ret (pe_and (pe_callB call_isi (by rfl) T.isi (by decide +kernel) (pa_cons (pv 0) (pa_cons (pe_bltn (v := .ty "int") (u := .type "int") (by rfl) T.int (by decide +kernel) rfl) pa_nil)))
      (pe_one (pe_not (pe_callB call_isi (by rfl) T.isi (by decide +kernel) (pa_cons (pv 0) (pa_cons (pe_bltn (v := .ty "bool") (u := .type "bool") (by rfl) T.bool (by decide +kernel) rfl) pa_nil))))))), ?_⟩
    refine ⟨_, rfl, _, _, _, _, _, rfl, .ty _, D.ty, kit_ty (kit_i d), _, rfl, ?_⟩
    have D0 := D
    cases D with
    | non => exact iteF q
    | str x => exact iteF q
    | dct h => exact iteF q
    | lst h a => exact iteF q
    | tup h a => exact iteF q
    | bl b => exact iteT ⟨_, rfl, _, _, _, _, _, rfl, .ty _, D0.ty, kit_ty (kit_b _), _, rfl, q⟩
    | int i => exact iteT ⟨_, rfl, _, _, _, _, _, rfl, .ty _, D0.ty, kit_ty (kit_b _), _, rfl, q⟩
def spBetweenX (K : PySem.W.Frag) : Sp := fun vs H Q _ => ∃ (v : V) (d : PyData) (lo hi : Int), vs = [v, .int lo, .int hi] ∧ Dx K H v d ∧ Q (.bl (btw lo hi d)) H
theorem ok_betweenX {f fI : Addr} {fd fdI : FuncData} {k : Nat} (F : Fun K "is_integer_between" "is_integer_between" sBetween f fd) (T : Bi mg) (I : Def K mg "is_integer" sIsInt fI fdI ["value"]) : FnOk P w K mg base CX0 (k + 2) f fd ["value", "least", "most"] (spBetweenX K) := by
  have GI : FnOk P w K mg base CX0 (k + 1) fI fdI ["value"] (spIsIntX K) := ok_isIntX I.fn T
  refine F.ok scBetween (fun vs H Q E h => ?_) (fun cdv A outer s H vs Q E hr h => ?_)
  · obtain ⟨v, d, lo, hi, rfl, _⟩ := h
    rfl
  · obtain ⟨v, d, lo, hi, rfl, D, q⟩ := h
    refine ⟨_, pss_one (ps_ret (pe_and (pe_call GI hr (by rfl) I.gl I.fn.kp I.bi .nil pass0 (pa_cons (pv 0) pa_nil))
        (pe_one (pe_chain op_le op_le (pv 1) (pv 0) (pv 2))))), ?_⟩
    refine ⟨_, rfl, v, d, rfl, D, _, rfl, ?_⟩
    cases D with
    | non => exact iteF q
    | str x => exact iteF q
    | dct h => exact iteF q
    | lst h a => exact iteF q
    | tup h a => exact iteF q
    | bl b => exact iteF q
    | int i =>
      refine iteT ?_
      refine ⟨_, rfl, _, rfl, _, _, rfl, rfl, _, rfl, ?_⟩
      have q' : Q (.bl (decide (lo ≤ i) && decide (i ≤ hi))) H := q
      by_cases h1 : lo ≤ i
      · rw [decide_eq_true h1] at q' ⊢
        refine iteT ⟨_, rfl, _, _, rfl, rfl, ?_⟩
        rw [Bool.true_and] at q'
        exact q'
      · rw [decide_eq_false h1] at q' ⊢
        rw [Bool.false_and] at q'
        exact iteF q'
end
end Ov

namespace Ov
open PySem PySem.Spec PyProof.Rows L2
section
variable {P : Program} {w : World} {K : PySem.W.Frag} {mg : Str → Option Value} {base : Heap}
/-! ### _law_bytes -/
def spBytes : Sp := fun vs H Q _ => ∃ (p t : Addr) (n cnt lg : Nat) (is : List I4) (it : Addr) (rs : List Addr) (many : Nat), vs = [.ref p, .ref t, .int (many : Int)] ∧ BoxAt H p n ∧ n ≤ 2 ^ 39 ∧ Tab H t cnt lg is it rs ∧ many ≤ 900 ∧
  ∀ H' c (bs : List Int), But p H H' → BoxAt H' p (n + 2 * many) → H c = none → H' c = some (.tup (bs.map V.int)) → (∀ b ∈ bs, 0 ≤ b ∧ b < (cnt : Int)) → bs.length = many → Q (.ref c) H'
theorem scBytes : FnScope ["_law_box_here", "_law_table_here", "_law_many", "_law_some", "_law_instruction", "_law_at"] ["_law_box_here", "_law_table_here", "_law_many"] (defScope sBytes) := ⟨rfl, rfl, rfl, by decide +kernel, rfl, by decide +kernel, by decide +kernel⟩
theorem ok_bytes {f fO fT : Addr} {fd fdO fdT : FuncData} {k : Nat} (F : Fun K "_law_bytes" "_law_bytes" sBytes f fd) (T : Bi mg)
    (O : Def K mg "_law_of" sOf fO fdO ["_law_box_here", "_law_some"]) (GO : FnOk P w K mg base CX0 k fO fdO ["_law_box_here", "_law_some"] spOf)
    (Tk : Def K mg "_law_take" sTake fT fdT ["_law_box_here", "_law_many"]) (GT : FnOk P w K mg base CX0 k fT fdT ["_law_box_here", "_law_many"] spTake) :
    FnOk P w K mg base CX0 (k + 1) f fd ["_law_box_here", "_law_table_here", "_law_many"] spBytes := by
  refine F.ok scBytes (fun vs H Q E h => ?_) (fun cdv A' outer s H vs Q E hr h => ?_)
  · obtain ⟨p, t, n, cnt, lg, is, it, rs, many, rfl, _⟩ := h
    rfl
  · obtain ⟨p, t, n, cnt, lg, is, it, rs, many, rfl, B, hn, Tb, hm, q⟩ := h
    refine ⟨_, pss_cons (ps_set (i := 3) scBytes.nd rfl (.inr rfl) (pe_lc (own := [("_law_instruction", 4)]) (g := gName 4) (tt := tYes) (by rfl) scBytes.nd (pi_tup (pe_ix ix_tup (pv 1) pe_int (fun _ _ => rfl)))
          (blkOk_by (own := [("_law_instruction", 4)]) (N := ["_law_box_here", "_law_table_here", "_law_many", "_law_some", "_law_instruction", "_law_at"]) (sc := defScope sBytes) (by decide +kernel))
          (fun _ _ _ _ _ => pg_name (i := 4) scBytes.nd rfl (Or.inl rfl)) (fun _ _ _ _ _ => pts_nil)
          (fun _ _ _ _ _ => pe_ix (r := rIxT K) ix_tup (pv 4) pe_int (fun _ _ => rfl))))
      (pss_one (ps_ret (pe_callTy call_tuple_of (by rfl) T.tuple (by decide +kernel) (pa_cons
        (pe_lc (own := [("_law_at", 5)]) (g := gName 5) (tt := tYes) (by rfl) scBytes.nd (pi_range1 (by rfl) T.range (pa_cons (pv 2) pa_nil))
          (blkOk_by (own := [("_law_at", 5)]) (N := ["_law_box_here", "_law_table_here", "_law_many", "_law_some", "_law_instruction", "_law_at"]) (sc := defScope sBytes) (by decide +kernel))
          (fun _ _ _ _ _ => pg_name (i := 5) scBytes.nd rfl (Or.inl rfl)) (fun _ _ _ _ _ => pts_nil)
          (fun _ _ _ _ _ => pe_ifExp (pt_cmpR op_gt (pe_call GT hr (by rfl) Tk.gl Tk.fn.kp Tk.bi .nil pass0 (pa_cons (pv 0) (pa_cons pe_int pa_nil))) pe_int (nomark _))
            (pe_call GO hr (by rfl) O.gl O.fn.kp O.bi .nil pass0 (pa_cons (pv 0) (pa_cons (pv 3) pa_nil)))
            (pe_call GT hr (by rfl) Tk.gl Tk.fn.kp Tk.bi .nil pass0 (pa_cons (pv 0) (pa_cons (pe_ix (r := rIxT K) ix_tup (pv 1) pe_int (fun _ _ => rfl)) pa_nil))))) pa_nil)))), ?_⟩
    have ok := Tb.ok
    have cb := ok.cb
    have few := ok.few
    have rl := Tb.rows.1
    have hit := Tb.its
    have i0 : ∀ x y : V, atI [x, y] 0 = some x := fun x y => atI_nat (j := 0) rfl
    have i1 : ∀ x y : V, atI [x, y] 1 = some y := fun x y => atI_nat (j := 1) rfl
    refine ⟨_, rfl, t, _, _, _, rfl, rfl, SqT.of Tb.at_, i1 _ _, it, rfl, ⟨_, SqT.of hit⟩, fun D nD => lc_tup (K := K) (a := it) (xs := rs.map V.ref) (fun i H2 => Mk H H2 D (((is.take i).map fun x => (x.op : Int)).map V.int)) (.start nD) (fun i H2 _ p => p.same.tup (SqT.of hit)) ?_ ?_⟩
    · intro i x H2 hx mk
      obtain ⟨hi, r, rfl, hr2, _⟩ := rows_at Tb.rows hx
      refine ⟨rfl, _, rfl, r, _, _, _, rfl, rfl, SqT.of (mk.same _ _ hr2), atI_nat (j := 0) rfl, _, mk.at_, (by rw [List.length_map, List.length_map, List.length_take]; exact small1000 (by omega)), ?_⟩
      rw [take_more (List.getElem?_eq_getElem hi), List.map_append, List.map_append]
      exact mk.put (Same.refl _)
    intro H2 m2
    rw [List.length_map, rl, List.take_length] at m2
    have s2 := m2.same
    have B2 := B.same s2
    have T2 := Tb.same s2
    have hD2 := m2.at_
    have hDp : D ≠ p := fun z => B.ne (z ▸ nD)
    generalize hops : (is.map fun x => (x.op : Int)) = ops at hD2
    have ol : ops.length = is.length := by rw [← hops, List.length_map]
    have ob : ∀ b ∈ ops, 0 ≤ b ∧ b < (cnt : Int) := fun b hb => by
      rw [← hops] at hb
      obtain ⟨x, hx, rfl⟩ := List.mem_map.mp hb
      have := ok.ops x hx
      omega
    have ne : 0 < is.length := List.length_pos_iff.mpr ok.ne
    clear m2
    refine ⟨_, rfl, _, rfl, by omega, by omega, fun L nL => lc_range (lo := 0) (n := many) (fun i H3 => ∃ bs : List Int, bs.length = i ∧ (∀ b ∈ bs, 0 ≤ b ∧ b < (cnt : Int)) ∧ But p H2 H3 ∧ BoxAt H3 p (n + 2 * i) ∧ H3 L = some (.lst (bs.map V.int)))
      ⟨[], rfl, (fun _ h => nomatch h), But.of (same_upd nL), B2.same (same_upd nL), upd_same⟩ ?_ ?_⟩
    · rintro i H3 hi ⟨bs, bl, bb, b3, B3, hL⟩
      have hLp : L ≠ p := fun z => B2.ne (z ▸ nL)
      have hLD : L ≠ D := fun z => by rw [z, hD2] at nL; cases nL
      refine ⟨rfl, _, rfl, p, 4, n + 2 * i, rfl, B3, by omega, by decide, by decide, fun H4 e b4 B4 e0 e1 f4 => ⟨_, _, rfl, rfl, _, rfl, ?_⟩⟩
      have fin : ∀ (b : Int) (H5 : Hp), 0 ≤ b → b < (cnt : Int) → But p H4 H5 → BoxAt H5 p (n + 2 * i + 1 + 1) → ∃ acc, H5 L = some (.lst acc) ∧ acc.length < sizeLine ∧ ∃ bs : List Int, bs.length = i + 1 ∧ (∀ b ∈ bs, 0 ≤ b ∧ b < (cnt : Int)) ∧ But p H2 (upd H5 L (.lst (acc ++ [.int b]))) ∧ BoxAt (upd H5 L (.lst (acc ++ [.int b]))) p (n + 2 * (i + 1)) ∧ (upd H5 L (.lst (acc ++ [.int b]))) L = some (.lst (bs.map V.int)) := by
        intro b H5 h0 h1 b5 B5
        have h5L := b5 _ _ (b4 _ _ hL hLp) hLp
        refine ⟨_, h5L, by rw [List.length_map, bl, sizeLine_eq]; omega, bs ++ [b], by rw [List.length_append, bl]; rfl, fun x hx => ?_, fun c o ec nc => ?_, ?_, ?_⟩
        · rcases List.mem_append.mp hx with hx | hx
          · exact bb x hx
          · rw [List.mem_singleton.mp hx]; exact ⟨h0, h1⟩
        · rw [upd_ne (ne_of_none ec nL)]
          exact b5 _ _ (b4 _ _ (b3 _ _ ec nc) nc) nc
        · obtain ⟨z1, z2, z3, ez, r⟩ := B5
          exact ⟨z1, z2, z3, by rw [upd_ne (Ne.symm hLp)]; exact ez, by omega⟩
        · rw [upd_same, List.map_append]; rfl
      by_cases c : 0 < e
      · rw [decide_eq_true c]
        refine iteT ⟨_, rfl, _, rfl, p, D, n + 2 * i + 1, ops.map V.int, rfl, B4, by omega, b4 _ _ (b3 _ _ hD2 hDp) hDp, hDp, by rw [List.length_map]; omega, by rw [List.length_map]; omega, fun H5 v hv b5 B5 f5 => ?_⟩
        obtain ⟨b, hb, rfl⟩ := List.mem_map.mp hv
        exact fin b H5 (ob b hb).1 (ob b hb).2 b5 B5
      · rw [decide_eq_false c]
        have T4 := (T2.but b3 B2).but b4 B3
        refine iteF ⟨_, rfl, _, rfl, t, _, _, _, rfl, rfl, SqT.of T4.at_, i0 _ _, p, cnt, n + 2 * i + 1, rfl, B4, by omega, by omega, by omega, fun H5 b b5 B5 h0 h1 f5 => fin b H5 h0 h1 b5 B5⟩
    rintro H3 ⟨bs, bl, bb, b3, B3, hL⟩
    refine ⟨L, _, rfl, .inl ⟨SqL.of hL, fun c nc => ?_⟩⟩
    have s3 := same_upd (o := HO.tup (bs.map V.int)) nc
    have nc2 : H2 c = none := b3.free B2.ne nc B3.ne
    exact q _ c bs ((But.of s2).trans (b3.trans (But.of s3))) (B3.same s3) (s2.free nc2) upd_same bb bl
end
end Ov

namespace Ov
open PySem PySem.Spec PyProof.Rows L2
/-! ### lengths by opcodes -/
def laOf (is : List I4) (b : Int) : Nat := match is.find? (fun x => decide ((x.op : Int) = b)) with
  | some x => x.ln
  | none => 0
theorem val_len (is : List I4) (b : Int) : (valV (lenKV is) (Sum.inl b : Key)).getD (V.int 0) = V.int (laOf is b : Int) := by
  unfold valV lenKV laOf
  induction is with
  | nil => rfl
  | cons x is ih =>
    rw [List.map_cons, List.find?_cons, List.find?_cons]
    by_cases h : (x.op : Int) = b
    · subst h; simp
    · rw [decide_eq_false h, decide_eq_false (fun z => h (Sum.inl.inj z))]
      exact ih
theorem la_le {cnt lg : Nat} {is : List I4} (ok : TabOk cnt lg is) (b : Int) : laOf is b ≤ 12 := by
  unfold laOf
  cases e : is.find? (fun x => decide ((x.op : Int) = b)) with
  | none => exact Nat.zero_le _
  | some x =>
    have := ok.len x (List.mem_of_find?_eq_some e)
    have := ok.lb
    show x.ln ≤ 12
    omega
def natV (n : Nat) : V := .int (n : Int)
section
variable {P : Program} {w : World} {K : PySem.W.Frag} {mg : Str → Option Value} {base : Heap}
/-! ### length_at -/
def spLenAt (C : Addr) : Sp := fun vs H Q _ => ∃ (p it : Addr) (cnt : Nat) (is : List I4) (b : Int), vs = [.ref p, .int b] ∧ SetAt C H p cnt it is ∧ Q (.int (laOf is b : Int)) H
/-! ### walk -/
def spWalk (K : PySem.W.Frag) (C : Addr) : Sp := fun vs H Q _ => ∃ (p it c : Addr) (cnt : Nat) (is : List I4) (bs : List Int) (e : Nat), vs = [.ref p, .ref c, .int (e : Int)] ∧ SetAt C H p cnt it is ∧ SqT K H c (bs.map V.int) ∧ bs.length ≤ 100000 ∧
  ∀ H' r l begun fol, Same H H' → Ended (laOf is) bs e begun fol → H r = none → H' r = some (.tup [.ref l, .int (fol : Int)]) → H' l = some (.lst (begun.map natV)) → begun.length ≤ bs.length → Q (.ref r) H'
def offOf (n : Nat) (σ : L2.St) : Nat := match σ with
  | [_, _, _, _, some (.int o)] => n - o.toNat
  | _ => 0
theorem no_meth (cnt : Nat) (it d1 d2 : Addr) : (flds cnt it d1 d2).lookup ("length_at" : Str) = none := by
  unfold flds
  rw [lookup_putF, if_neg (by decide +kernel), lookup_putF, if_neg (by decide +kernel), lookup_putF, if_neg (by decide +kernel), lookup_putF, if_neg (by decide +kernel)]
  rfl
end
end Ov

namespace Ov
open PySem PySem.Spec PyProof.Rows L2
/-! ### what is laid beside a part of the heap while the box is used -/
structure GB (p : Addr) (T H T' H' : Hp) : Prop where
  hh : But p H H'
  tt : Same T T'
  th : Same T' H'
  new : ∀ b, T b = none → H b ≠ none → T' b = none
  up : ∀ b, H b ≠ none → H' b ≠ none
section
variable {p : Addr} {T H T' H' T2 H2 : Hp}
theorem GB.refl (st : Same T H) : GB p T H T H := ⟨But.refl _ _, Same.refl _, st, fun _ e _ => e, fun _ e => e⟩
theorem GB.of (g : Grow T H T' H') : GB p T H T' H' := ⟨But.of g.hh, g.tt, g.th, g.new, fun b e => by
  cases h : H b with
  | none => exact absurd h e
  | some o => rw [g.hh b o h]; exact fun z => nomatch z⟩
theorem GB.trans (g : GB p T H T' H') (g2 : GB p T' H' T2 H2) : GB p T H T2 H2 := ⟨g.hh.trans g2.hh, g.tt.trans g2.tt, g2.th, fun b e n => g2.new b (g.new b e n) (g.up b n), fun b n => g2.up b (g.up b n)⟩
theorem GB.box {n : Nat} (st : Same T H) (tp : T p = none) (b : But p H H') (B : BoxAt H' p n) : GB p T H T H' := ⟨b, Same.refl _, fun c o e => b _ _ (st _ _ e) (ne_of_none e tp), fun _ e _ => e, fun c e => by
  by_cases z : c = p
  · rw [z]; exact B.ne
  · cases h : H c with
    | none => exact absurd h e
    | some o => rw [b c o h z]; exact fun y => nomatch y⟩
theorem GB.lay (g : GB p T H T' H') {a : Addr} (o : HO) (n : H' a = none) : GB p T H T' (upd H' a o) := ⟨g.hh.trans (But.of (same_upd n)), g.tt, g.th.trans (same_upd n), g.new, fun b e => by
  have z := g.up b e
  by_cases y : b = a
  · rw [y, upd_same]; exact fun w => nomatch w
  · rw [upd_ne y]; exact z⟩
theorem GB.put (g : GB p T H T' H') {a : Addr} (o : HO) (n : H' a = none) : GB p T H (upd T' a o) (upd H' a o) := g.trans (.of ((Grow.refl g.th).put o n))
end
end Ov

namespace Ov
open PySem PySem.Spec PyProof.Rows L2
theorem GB.set {p : Addr} {T H T' H' : Hp} (g : GB p T H T' H') {L : Addr} (o : HO) (nH : H L = none) (nT : T' L = none) : GB p T H T' (upd H' L o) :=
  ⟨fun b x e n => by rw [upd_ne (ne_of_none e nH)]; exact g.hh b x e n, g.tt, fun b x e => by rw [upd_ne (ne_of_none e nT)]; exact g.th b x e, g.new, fun b e => by
    by_cases y : b = L
    · rw [y, upd_same]; exact fun w => nomatch w
    · rw [upd_ne y]; exact g.up b e⟩
/-- things in a list in the making, beside the box -/
structure HoldZ (T0 T H : Hp) (p D : Addr) (n : Nat) (vs : List V) (ds : List PyData) : Prop where
  tt : Same T0 T
  ht : Same T H
  tp : T p = none
  tD : T D = none
  ne : D ≠ p
  at_ : H D = some (.lst vs)
  all : DzAll T vs ds
  box : BoxAt H p n
theorem HoldZ.mono {T0 T H : Hp} {p D : Addr} {n m : Nat} {vs : List V} {ds : List PyData} (h : HoldZ T0 T H p D n vs ds) (l : n ≤ m) : HoldZ T0 T H p D m vs ds := { h with box := h.box.mono l }
theorem HoldZ.gb {T0 T H T' G : Hp} {p D : Addr} {n m : Nat} {vs : List V} {ds : List PyData} (h : HoldZ T0 T H p D n vs ds) (g : GB p T H T' G) (B : BoxAt G p m) : HoldZ T0 T' G p D m vs ds :=
  ⟨h.tt.trans g.tt, g.th, g.new _ h.tp h.box.ne, g.new _ h.tD (by rw [h.at_]; exact fun z => nomatch z), h.ne, g.hh _ _ h.at_ h.ne, h.all.same g.tt, B⟩
theorem HoldZ.grow {T0 T H T' G : Hp} {p D : Addr} {n : Nat} {vs : List V} {ds : List PyData} (h : HoldZ T0 T H p D n vs ds) (g : Grow T H T' G) : HoldZ T0 T' G p D n vs ds := h.gb (.of g) (h.box.same g.hh)
theorem BoxAt.upd {H : Hp} {p D : Addr} {n : Nat} {o : HO} (B : BoxAt H p n) (ne : D ≠ p) : BoxAt (L2.upd H D o) p n := by
  obtain ⟨z1, z2, z3, e, r⟩ := B
  exact ⟨z1, z2, z3, by rw [upd_ne (Ne.symm ne)]; exact e, r⟩
theorem HoldZ.push {T0 T H : Hp} {p D : Addr} {n : Nat} {vs us : List V} {ds es : List PyData} (h : HoldZ T0 T H p D n vs ds) (A : DzAll T us es) : HoldZ T0 T (upd H D (.lst (vs ++ us))) p D n (vs ++ us) (ds ++ es) :=
  ⟨h.tt, fun b o e => by rw [upd_ne (ne_of_none e h.tD)]; exact h.ht _ _ e, h.tp, h.tD, h.ne, upd_same, h.all.app A, h.box.upd h.ne⟩
theorem HoldZ.start {T H : Hp} {p D : Addr} {n : Nat} (st : Same T H) (tp : T p = none) (B : BoxAt H p n) (nD : H D = none) : HoldZ T T (upd H D (.lst [])) p D n [] [] :=
  ⟨Same.refl _, st.trans (same_upd nD), tp, st.free nD, fun z => B.ne (z ▸ nD), upd_same, .nil, B.same (same_upd nD)⟩
/-- a heap without p -/
def hide (p : Addr) (H : Hp) : Hp := fun b => if b = p then none else H b
theorem hide_same {p : Addr} {H : Hp} : Same (hide p H) H := fun b o e => by
  unfold hide at e
  by_cases h : b = p
  · rw [if_pos h] at e; cases e
  · rw [if_neg h] at e; exact e
theorem hide_at {p b : Addr} {H : Hp} {o : HO} (e : H b = some o) (h : b ≠ p) : hide p H b = some o := by
  unfold hide
  rw [if_neg h]
  exact e
theorem hide_none {p : Addr} {H : Hp} : hide p H p = none := if_pos rfl
theorem but_hide {p : Addr} {H : Hp} : But p H (hide p H) := fun _ _ e h => hide_at e h
end Ov
namespace Ov
open PySem PySem.Spec PyProof.Rows L2
theorem SetAt.but {C : Addr} {H H' : Hp} {x p : Addr} {cnt n : Nat} {it : Addr} {is : List I4} (h : SetAt C H x cnt it is) (b : But p H H') (B : BoxAt H p n) : SetAt C H' x cnt it is := by
  obtain ⟨dx, d1, d2, h1, h2, h3⟩ := h.ob
  obtain ⟨_, _, _, e, _⟩ := B
  refine ⟨dx, d1, d2, b _ _ h1 ?_, b _ _ h2 ?_, b _ _ h3 ?_⟩
  · intro z; rw [z, e] at h1; cases h1
  · intro z; rw [z, e] at h2; cases h2
  · intro z; rw [z, e] at h3; cases h3
end Ov

namespace Ov
open PySem PySem.Spec PyProof.Rows L2
/-- an instruction set with its rows -/
structure Mach (C : Addr) (H : Hp) (p : Addr) (cnt lg : Nat) (it : Addr) (is : List I4) (rs : List Addr) : Prop where
  at_ : SetAt C H p cnt it is
  its : H it = some (.tup (rs.map V.ref))
  rows : Rows H rs is
  ok : TabOk cnt lg is
theorem Mach.same {C : Addr} {H H' : Hp} {p : Addr} {cnt lg : Nat} {it : Addr} {is : List I4} {rs : List Addr} (h : Mach C H p cnt lg it is rs) (s : Same H H') : Mach C H' p cnt lg it is rs := ⟨h.at_.same s, s _ _ h.its, h.rows.same s, h.ok⟩
theorem Mach.but {C : Addr} {H H' : Hp} {x p : Addr} {cnt lg n : Nat} {it : Addr} {is : List I4} {rs : List Addr} (h : Mach C H x cnt lg it is rs) (b : But p H H') (B : BoxAt H p n) : Mach C H' x cnt lg it is rs := ⟨h.at_.but b B, b _ _ h.its (ne_box B h.its), h.rows.but b B, h.ok⟩
end Ov

namespace Ov
open PySem PySem.Spec PyProof.Rows L2
/-! ### steps of programs: names, lengths, operands -/
def stepKV (is : List I4) : List (Key × V) := (is.filter fun x => !x.pad).map fun x => ((Sum.inr (txt x.nm) : Key), V.int (x.ln : Int))
def stepI (is : List I4) (nm : Str) : Option I4 := (is.filter fun x => !x.pad).find? fun x => decide (txt x.nm = nm)
theorem stepI_in {is : List I4} {nm : Str} {x : I4} (h : stepI is nm = some x) : x ∈ is ∧ x.pad = false ∧ txt x.nm = nm := by
  have m := List.mem_filter.mp (List.mem_of_find?_eq_some h)
  refine ⟨m.1, ?_, ?_⟩
  · have := m.2
    revert this
    cases x.pad <;> simp
  · have := List.find?_some h
    exact of_decide_eq_true this
theorem stepKV_more (is : List I4) (x : I4) : stepKV (is ++ [x]) = stepKV is ++ (if x.pad = true then [] else [((Sum.inr (txt x.nm) : Key), V.int (x.ln : Int))]) := by
  unfold stepKV
  rw [List.filter_append, List.map_append]
  cases h : x.pad <;> simp [List.filter_cons, h]
theorem val_step (is : List I4) (nm : Str) : valV (stepKV is) (Sum.inr nm : Key) = (stepI is nm).map fun x => V.int (x.ln : Int) := by
  unfold valV stepKV stepI
  induction (is.filter fun x => !x.pad) with
  | nil => rfl
  | cons x l ih =>
    rw [List.map_cons, List.find?_cons, List.find?_cons]
    by_cases e : txt x.nm = nm
    · subst e; simp
    · rw [decide_eq_false e, decide_eq_false (fun z => e (Sum.inr.inj z))]
      exact ih
def opOk (cnt : Nat) : PyData → Bool
  | .none => true
  | d => btw 0 ((cnt : Int) - 1) d
def isOps (cnt l : Nat) : PyData → Bool
  | .tuple os => decide (os.length + 1 = l) && os.all (opOk cnt)
  | _ => false
def isNm (is : List I4) (f : Nat → Bool) : PyData → Bool
  | .str nm => match stepI is nm with
    | some x => f x.ln
    | none => false
  | _ => false
def isStepD (cnt : Nat) (is : List I4) : PyData → Bool
  | .tuple [a, b] => isNm is (fun l => isOps cnt l b) a
  | _ => false
def isProgD (cnt : Nat) (is : List I4) : PyData → Bool
  | .tuple ds => decide (ds.length ≤ 12) && ds.all (isStepD cnt is)
  | _ => false
theorem isStepD_len {cnt : Nat} {is : List I4} {ds : List PyData} (h : ds.length ≠ 2) : isStepD cnt is (.tuple ds) = false := by
  match ds, h with
  | [], _ => rfl
  | [_], _ => rfl
  | [_, _], h => exact absurd rfl h
  | _ :: _ :: _ :: _, _ => rfl
theorem two_of {ds : List PyData} (h : ds.length = 2) : ∃ a b, ds = [a, b] := by
  match ds, h with
  | [a, b], _ => exact ⟨a, b, rfl⟩
section
variable {P : Program} {w : World} {K : PySem.W.Frag} {mg : Str → Option Value} {base : Heap}
/-! ### step_lengths -/
def spStepL (C : Addr) : Sp := fun vs H Q _ => ∃ (p it : Addr) (cnt lg : Nat) (is : List I4) (rs : List Addr), vs = [.ref p] ∧ Mach C H p cnt lg it is rs ∧ ∀ H' d, Same H H' → H d = none → H' d = some (.dK (stepKV is)) → Q (.ref d) H'
theorem scStepL : FnScope ["instruction_set", "opcode", "name", "length", "is_padding"] ["instruction_set"] (defScope s_step_lengths) := ⟨rfl, rfl, rfl, by decide +kernel, rfl, by decide +kernel, by decide +kernel⟩
theorem ok_stepL {f C : Addr} {fd : FuncData} {k : Nat} (F : Fun K "step_lengths" "step_lengths" s_step_lengths f fd) (S : SetTxt K mg C) : FnOk P w K mg base CX0 (k + 1) f fd ["instruction_set"] (spStepL C) := by
  refine F.ok scStepL (fun vs H Q E h => ?_) (fun cdv A' outer s H vs Q E hr h => ?_)
  · obtain ⟨p, it, cnt, lg, is, rs, rfl, _⟩ := h
    rfl
  · obtain ⟨p, it, cnt, lg, is, rs, rfl, M, q⟩ := h
    refine ⟨_, pss_one (ps_ret (pe_dc (own := [("opcode", 1), ("name", 2), ("length", 3), ("is_padding", 4)]) (g := gTup K 4 (gCons (gName 1) (gCons (gName 2) (gCons (gName 3) (gCons (gName 4) gNil))))) (by rfl) scStepL.nd (pi_tup (pe_fld (pv 0) rfl))
          (blkOk_by (own := [("opcode", 1), ("name", 2), ("length", 3), ("is_padding", 4)]) (N := ["instruction_set", "opcode", "name", "length", "is_padding"]) (sc := defScope s_step_lengths) (by decide +kernel))
          (fun _ _ _ _ _ => pg_tup rfl (pgs_cons (pg_name (i := 1) scStepL.nd rfl (Or.inl rfl)) (pgs_cons (pg_name (i := 2) scStepL.nd rfl (Or.inl rfl)) (pgs_cons (pg_name (i := 3) scStepL.nd rfl (Or.inl rfl)) (pgs_cons (pg_name (i := 4) scStepL.nd rfl (Or.inl rfl)) pgs_nil)))))
          (fun _ _ _ _ _ => pts_one (pt_not (pt_val (pv 4)))) (fun _ _ _ _ _ => pv 2) (fun _ _ _ _ _ => pv 3))), ?_⟩
    obtain ⟨dx, d1, d2, hp, _⟩ := M.at_.ob
    have few := M.ok.few
    have rl := M.rows.1
    refine ⟨_, rfl, p, C, dx, _, _, rfl, hp, S.cl, S.nI, flds_its _ _ _ _, it, rfl, ⟨_, SqT.of M.its⟩, fun D nD => dc_tup (K := K) (a := it) (xs := rs.map V.ref) (fun i G => Same H G ∧ G D = some (.dK (stepKV (is.take i)))) ⟨same_upd nD, upd_same⟩ (fun i G _ p => p.1.tup (SqT.of M.its)) ?_ ?_⟩
    · rintro i x G hx ⟨sG, hD⟩
      obtain ⟨hi, r, rfl, hr2, _⟩ := rows_at M.rows hx
      refine ⟨r, _, rfl, SqT.of (sG _ _ hr2), rfl, _, _, rfl, _, _, rfl, _, _, rfl, _, _, rfl, rfl, rfl, _, rfl, _, rfl, ?_⟩
      rw [take_more (List.getElem?_eq_getElem hi), stepKV_more]
      cases hpad : (is[i]).pad with
      | true =>
        refine iteF ?_
        rw [if_pos rfl, List.append_nil]
        exact ⟨sG, hD⟩
      | false =>
        refine iteT ⟨_, rfl, _, rfl, _, Sum.inr (txt (is[i]).nm), rfl, hD, ?_, fun b o e => ?_, ?_⟩
        · unfold stepKV
          rw [List.length_map]
          have := List.length_filter_le (fun x : I4 => !x.pad) (is.take i)
          rw [List.length_take] at this
          exact small1000 (by omega)
        · rw [upd_ne (ne_of_none e nD)]
          exact sG b o e
        · rw [upd_same, if_neg Bool.false_ne_true, put_fresh]
          intro z
          unfold stepKV at z
          rw [List.map_map] at z
          obtain ⟨y, hy, e⟩ := List.mem_map.mp z
          obtain ⟨j, hj, ej⟩ := List.mem_take_iff_getElem.mp (List.mem_filter.mp hy).1
          have e' : txt y.nm = txt (is[i]).nm := Sum.inr.inj e
          have h1 := List.pairwise_iff_getElem.mp (List.nodup_iff_pairwise_ne.mp M.ok.nd) j i (by rw [List.length_map]; omega) (by rw [List.length_map]; exact hi) (by omega)
          rw [List.getElem_map, List.getElem_map, ej] at h1
          exact h1 (txt_inj e')
    · rintro G ⟨sG, hD⟩
      rw [List.length_map, rl, List.take_length] at hD
      exact q G D sG nD hD
/-! ### is_step -/
def spStep (K : PySem.W.Frag) (C : Addr) : Sp := fun vs H Q _ => ∃ (p it L : Addr) (cnt lg : Nat) (is : List I4) (v : V) (d : PyData), vs = [.ref p, .ref L, v] ∧ SetAt C H p cnt it is ∧ TabOk cnt lg is ∧ H L = some (.dK (stepKV is)) ∧ Dx K H v d ∧ ∀ H', Same H H' → Q (.bl (isStepD cnt is d)) H'
theorem scStep : FnScope ["instruction_set", "lengths", "value", "name", "operands", "greatest", "item"] ["instruction_set", "lengths", "value"] (defScope s_is_step) := ⟨rfl, rfl, rfl, by decide +kernel, rfl, by decide +kernel, by decide +kernel⟩
theorem ok_step {f fB C : Addr} {fd fdB : FuncData} {k : Nat} (F : Fun K "is_step" "is_step" s_is_step f fd) (T : Bi mg) (S : SetTxt K mg C)
    (B : Def K mg "is_integer_between" sBetween fB fdB ["value", "least", "most"]) (GB : FnOk P w K mg base CX0 k fB fdB ["value", "least", "most"] (spBetweenX K)) : FnOk P w K mg base CX0 (k + 1) f fd ["instruction_set", "lengths", "value"] (spStep K C) := by
  refine F.ok scStep (fun vs H Q E h => ?_) (fun cdv A' outer s H vs Q E hr h => ?_)
  · obtain ⟨p, it, L, cnt, lg, is, v, d, rfl, _⟩ := h
    rfl
  · obtain ⟨p, it, L, cnt, lg, is, v, d, rfl, SA, ok, hL, D, q⟩ := h
    have hu := hu_of hr
    refine ⟨_, pss_cons (ps_if (PW.pt (pw_or (pt_not (pt_val (pe_callB call_isi (by rfl) T.isi (by decide +kernel) (pa_cons (pv 2) (pa_cons (pe_bltn (v := .ty "tuple") (u := .type "tuple") (by rfl) T.tuple (by decide +kernel) rfl) pa_nil)))))
        (pw_or1 (pt_cmpR op_ne (pe_callB call_len_seq (by rfl) T.len PySem.boot_len (pa_cons (pv 2) pa_nil)) pe_int (nomark _))))) (pss_one (ps_ret pe_bl)) pss_nil)
      (pss_cons (ps_asg (pv 2) (pg_tup rfl (pgs_cons (pg_name (i := 3) scStep.nd rfl (.inl rfl)) (pgs_cons (pg_name (i := 4) scStep.nd rfl (.inl rfl)) pgs_nil))))
      (pss_cons (ps_if (PW.pt (pw_or (pt_not (pt_val (pe_callB call_isi (by rfl) T.isi (by decide +kernel) (pa_cons (pv 3) (pa_cons (pe_bltn (v := .ty "str") (u := .type "str") (by rfl) T.str (by decide +kernel) rfl) pa_nil)))))
        (pw_or1 (pt_cmp (pc_dnotin hu (pv 3) (pv 1)))))) (pss_one (ps_ret pe_bl)) pss_nil)
      (pss_cons (ps_if (PW.pt (pw_or (pt_not (pt_val (pe_callB call_isi (by rfl) T.isi (by decide +kernel) (pa_cons (pv 4) (pa_cons (pe_bltn (v := .ty "tuple") (u := .type "tuple") (by rfl) T.tuple (by decide +kernel) rfl) pa_nil)))))
        (pw_or1 (pt_cmpR op_ne (pe_callB call_len_seq (by rfl) T.len PySem.boot_len (pa_cons (pv 4) pa_nil)) (pe_op op_sub (pe_dget hu (pv 1) (pv 3) (fun _ _ => rfl)) pe_int) (nomark _))))) (pss_one (ps_ret pe_bl)) pss_nil)
      (pss_cons (ps_set (i := 5) scStep.nd rfl (.inr rfl) (pe_op op_sub (pe_fld (pv 0) rfl) pe_int))
      (pss_one (ps_ret (pe_callB (cr_all rfl) (by rfl) T.all (by decide +kernel) (pa_cons
        (pe_lc (own := [("item", 6)]) (g := gName 6) (tt := tYes) (by rfl) scStep.nd (pi_tup (pv 4)) (blkOk_by (own := [("item", 6)]) (N := ["instruction_set", "lengths", "value", "name", "operands", "greatest", "item"]) (sc := defScope s_is_step) (by decide +kernel))
          (fun _ _ _ _ _ => pg_name (i := 6) scStep.nd rfl (Or.inl rfl)) (fun _ _ _ _ _ => pts_nil)
          (fun _ _ _ _ _ => pe_or (pe_cmpR op_isN (pv 6) pe_non (nomark _)) (pe_one (pe_call GB hr (by rfl) B.gl B.fn.kp B.bi .nil pass0 (pa_cons (pv 6) (pa_cons pe_int (pa_cons (pv 5) pa_nil))))))) pa_nil)))))))), ?_⟩
    have q0 := q H (Same.refl _)
    refine ⟨_, rfl, _, _, _, _, _, rfl, .ty _, D.ty, kit_ty (kit_t d), _, rfl, ?_⟩
    cases D with
    | non => exact iteT q0
    | str x => exact iteT q0
    | dct h => exact iteT q0
    | lst h a => exact iteT q0
    | bl b => exact iteT q0
    | int i => exact iteT q0
    | @tup a xs ds hs ha =>
      have el := ha.len
      refine iteF ⟨_, rfl, a, _, rfl, .inr hs, rfl, _, rfl, ?_⟩
      by_cases h2 : ds.length = 2
      · rw [show decide (V.int ((xs.length : Nat) : Int) = V.int 2) = true from decide_eq_true (by rw [el, h2]; rfl)]
        obtain ⟨d1, d2, rfl⟩ := two_of h2
        cases ha with
        | @cons v1 _ _ _ D1 ha =>
          cases ha with
          | @cons v2 _ _ _ D2 ha =>
            cases ha
            refine iteF ⟨_, rfl, a, _, rfl, hs, rfl, _, _, rfl, _, _, rfl, rfl, ?_⟩
            refine ⟨_, rfl, _, _, _, _, _, rfl, .ty _, D1.ty, kit_ty (kit_s d1), _, rfl, ?_⟩
            cases D1 with
            | non => exact iteT q0
            | tup h a => exact iteT q0
            | dct h => exact iteT q0
            | lst h a => exact iteT q0
            | bl b => exact iteT q0
            | int i => exact iteT q0
            | str nm =>
              refine iteF ⟨_, rfl, _, rfl, L, _, rfl, DGet.k (k := Sum.inr nm) hL, _, rfl, ?_⟩
              have vs := val_step is nm
              rw [vs]
              cases hst : stepI is nm with
              | none =>
                refine iteT ?_
                have e : isStepD cnt is (.tuple [.str nm, d2]) = false := by simp [isStepD, isNm, hst]
                rw [e] at q0
                exact q0
              | some x =>
                obtain ⟨xin, _, _⟩ := stepI_in hst
                have xl := ok.len x xin
                have lb := ok.lb
                have e : isStepD cnt is (.tuple [.str nm, d2]) = isOps cnt x.ln d2 := by simp [isStepD, isNm, hst]
                rw [e] at q q0
                refine iteF ⟨_, rfl, _, _, _, _, _, rfl, .ty _, D2.ty, kit_ty (kit_t d2), _, rfl, ?_⟩
                cases D2 with
                | non => exact iteT q0
                | str x => exact iteT q0
                | dct h => exact iteT q0
                | lst h a => exact iteT q0
                | bl b => exact iteT q0
                | int i => exact iteT q0
                | @tup c ys os hc hys =>
                  have ol := hys.len
                  have g : DGet H L (.str nm) (some (V.int (x.ln : Int))) := by
                    have z := DGet.k (k := Sum.inr nm) hL
                    rw [vs, hst] at z
                    exact z
                  refine iteF ⟨_, rfl, c, _, rfl, .inr hc, _, rfl, _, rfl, L, _, rfl, g, _, _, rfl, rfl, rfl, _, rfl, ?_⟩
                  by_cases hl : os.length + 1 = x.ln
                  · rw [decide_eq_true (show V.int (ys.length : Int) = V.int ((x.ln : Int) - 1) by congr 1; omega)]
                    obtain ⟨dx, e1, e2, hp, _⟩ := SA.ob
                    refine iteF ⟨_, rfl, p, C, dx, _, _, rfl, hp, S.cl, S.nB, flds_cnt _ _ _ _, _, _, rfl, rfl, ?_⟩
                    refine ⟨_, rfl, c, rfl, ⟨_, hc⟩, fun D nD => lc_tup (K := K) (a := c) (xs := ys) (fun i G => Mk H G D (((os.take i).map (opOk cnt)).map V.bl)) (.start nD) (fun i G _ p => p.same.tup hc) ?_ ?_⟩
                    · intro i y G hy mk
                      obtain ⟨dy, hdy, Dy⟩ := hys.at hy
                      rw [take_more hdy, List.map_append, List.map_append]
                      have sz : (((os.take i).map (opOk cnt)).map V.bl).length < sizeLine := by rw [List.length_map, List.length_map, List.length_take]; exact small1000 (by omega)
                      refine ⟨rfl, _, rfl, rfl, _, rfl, ?_⟩
                      have two : (y = .non ∧ dy = .none) ∨ (y ≠ .non ∧ opOk cnt dy = btw 0 ((cnt : Int) - 1) dy) := by
                        cases Dy with
                        | non => exact .inl ⟨rfl, rfl⟩
                        | tup h a => exact .inr ⟨fun z => (nomatch z), rfl⟩
                        | str h => exact .inr ⟨fun z => (nomatch z), rfl⟩
                        | dct h => exact .inr ⟨fun z => (nomatch z), rfl⟩
                        | lst h a => exact .inr ⟨fun z => (nomatch z), rfl⟩
                        | bl b => exact .inr ⟨fun z => (nomatch z), rfl⟩
                        | int i => exact .inr ⟨fun z => (nomatch z), rfl⟩
                      rcases two with ⟨rfl, rfl⟩ | ⟨hn, ho⟩
                      · exact iteT ⟨_, mk.at_, sz, mk.put (Same.refl _)⟩
                      · rw [decide_eq_false hn]
                        refine iteF ⟨_, rfl, _, rfl, y, dy, 0, (cnt : Int) - 1, rfl, Dy.same mk.same, _, mk.at_, sz, ?_⟩
                        rw [← ho]
                        exact mk.put (Same.refl _)
                    intro G mk
                    refine ⟨D, _, rfl, SqL.of mk.at_, ?_⟩
                    rw [ol, List.take_length, List.all_map]
                    have z := q G mk.same
                    have e : isOps cnt x.ln (.tuple os) = os.all (opOk cnt) := by simp [isOps, hl]
                    rw [e] at z
                    exact z
                  · rw [decide_eq_false (fun z => hl (by have := V.int.inj z; omega))]
                    refine iteT ?_
                    have e : isOps cnt x.ln (.tuple os) = false := by simp [isOps, hl]
                    rw [e] at q0
                    exact q0
      · rw [show decide (V.int ((xs.length : Nat) : Int) = V.int 2) = false from decide_eq_false (fun z => h2 (by have := V.int.inj z; omega))]
        refine iteT ?_
        rw [isStepD_len h2] at q0
        exact q0
/-! ### is_program -/
def spProg (K : PySem.W.Frag) (C : Addr) : Sp := fun vs H Q _ => ∃ (p it : Addr) (cnt lg : Nat) (is : List I4) (rs : List Addr) (v : V) (d : PyData), vs = [.ref p, v] ∧ Mach C H p cnt lg it is rs ∧ Dx K H v d ∧ ∀ H', Same H H' → Q (.bl (isProgD cnt is d)) H'
theorem scProg : FnScope ["instruction_set", "value", "lengths", "item"] ["instruction_set", "value"] (defScope s_is_program) := ⟨rfl, rfl, rfl, by decide +kernel, rfl, by decide +kernel, by decide +kernel⟩
theorem ok_prog {f fL fS C : Addr} {fd fdL fdS : FuncData} {k : Nat} (F : Fun K "is_program" "is_program" s_is_program f fd) (T : Bi mg) (ms : ∃ t, mg "MOST_STEPS" = some (.int 12 t))
    (Sl : Def K mg "step_lengths" s_step_lengths fL fdL ["instruction_set"]) (GSl : FnOk P w K mg base CX0 k fL fdL ["instruction_set"] (spStepL C))
    (St : Def K mg "is_step" s_is_step fS fdS ["instruction_set", "lengths", "value"]) (GSt : FnOk P w K mg base CX0 k fS fdS ["instruction_set", "lengths", "value"] (spStep K C)) : FnOk P w K mg base CX0 (k + 1) f fd ["instruction_set", "value"] (spProg K C) := by
  obtain ⟨tm, ms⟩ := ms
  refine F.ok scProg (fun vs H Q E h => ?_) (fun cdv A' outer s H vs Q E hr h => ?_)
  · obtain ⟨p, it, cnt, lg, is, rs, v, d, rfl, _⟩ := h
    rfl
  · obtain ⟨p, it, cnt, lg, is, rs, v, d, rfl, M, D, q⟩ := h
    refine ⟨_, pss_cons (ps_if (PW.pt (pw_or (pt_not (pt_val (pe_callB call_isi (by rfl) T.isi (by decide +kernel) (pa_cons (pv 1) (pa_cons (pe_bltn (v := .ty "tuple") (u := .type "tuple") (by rfl) T.tuple (by decide +kernel) rfl) pa_nil)))))
        (pw_or1 (pt_cmpR op_gt (pe_callB call_len_seq (by rfl) T.len PySem.boot_len (pa_cons (pv 1) pa_nil)) (pe_glob (v := .int 12) (by rfl) ms ⟨_, rfl⟩) (nomark _))))) (pss_one (ps_ret pe_bl)) pss_nil)
      (pss_cons (ps_set (i := 2) scProg.nd rfl (.inr rfl) (pe_call GSl hr (by rfl) Sl.gl Sl.fn.kp Sl.bi .nil pass0 (pa_cons (pv 0) pa_nil)))
      (pss_one (ps_ret (pe_callB (cr_all rfl) (by rfl) T.all (by decide +kernel) (pa_cons
        (pe_lc (own := [("item", 3)]) (g := gName 3) (tt := tYes) (by rfl) scProg.nd (pi_tup (pv 1)) (blkOk_by (own := [("item", 3)]) (N := ["instruction_set", "value", "lengths", "item"]) (sc := defScope s_is_program) (by decide +kernel))
          (fun _ _ _ _ _ => pg_name (i := 3) scProg.nd rfl (Or.inl rfl)) (fun _ _ _ _ _ => pts_nil)
          (fun _ _ _ _ _ => pe_call GSt hr (by rfl) St.gl St.fn.kp St.bi .nil pass0 (pa_cons (pv 0) (pa_cons (pv 2) (pa_cons (pv 3) pa_nil))))) pa_nil))))), ?_⟩
    have q0 := q H (Same.refl _)
    refine ⟨_, rfl, _, _, _, _, _, rfl, .ty _, D.ty, kit_ty (kit_t d), _, rfl, ?_⟩
    cases D with
    | non => exact iteT q0
    | str x => exact iteT q0
    | dct h => exact iteT q0
    | lst h a => exact iteT q0
    | bl b => exact iteT q0
    | int i => exact iteT q0
    | @tup a xs ds hs ha =>
      have el := ha.len
      refine iteF ⟨_, rfl, a, _, rfl, .inr hs, _, _, rfl, rfl, _, rfl, ?_⟩
      by_cases h12 : ds.length ≤ 12
      · rw [el, decide_eq_false (show ¬ (12 : Int) < (ds.length : Int) by omega)]
        refine iteF ⟨_, rfl, p, it, cnt, lg, is, rs, rfl, M, fun G L sG nL hL => ?_⟩
        have hs1 := sG.tup hs
        have M1 := M.same sG
        have ha1 := ha.same sG
        refine ⟨_, rfl, a, rfl, ⟨_, hs1⟩, fun D nD => lc_tup (K := K) (a := a) (xs := xs) (fun i G2 => Mk G G2 D (((ds.take i).map (isStepD cnt is)).map V.bl)) (.start nD) (fun i G2 _ p => p.same.tup hs1) ?_ ?_⟩
        · intro i y G2 hy mk
          obtain ⟨dy, hdy, Dy⟩ := ha1.at hy
          rw [take_more hdy, List.map_append, List.map_append]
          refine ⟨rfl, _, rfl, _, rfl, _, rfl, p, it, L, cnt, lg, is, y, dy, rfl, M1.at_.same mk.same, M.ok, mk.same _ _ hL, Dy.same mk.same, fun G3 s3 => ⟨_, s3 _ _ mk.at_, ?_, mk.put s3⟩⟩
          rw [List.length_map, List.length_map, List.length_take]
          exact small1000 (by omega)
        intro G2 mk
        refine ⟨D, _, rfl, SqL.of mk.at_, ?_⟩
        rw [el, List.take_length, List.all_map]
        have z := q G2 (sG.trans mk.same)
        have e : isProgD cnt is (.tuple ds) = ds.all (isStepD cnt is) := by simp [isProgD, h12]
        rw [e] at z
        exact z
      · rw [el, decide_eq_true (show (12 : Int) < (ds.length : Int) by omega)]
        refine iteT ?_
        have e : isProgD cnt is (.tuple ds) = false := by simp [isProgD, h12]
        rw [e] at q0
        exact q0
end
end Ov
namespace Ov
open PySem PySem.Spec PyProof.Rows L2
/-! ### plans: steps with operands that are bytes or None -/
def oV : Option Int → V
  | none => .non
  | some b => .int b
def oD : Option Int → PyData
  | none => .none
  | some b => .int b
theorem dz_opts {H : Hp} : ∀ os : List (Option Int), DzAll H (os.map oV) (os.map oD)
  | [] => .nil
  | none :: os => .cons .non (dz_opts os)
  | some b :: os => .cons (.int b) (dz_opts os)
abbrev PStep := I4 × List (Option Int)
def stepD (x : PStep) : PyData := .tuple [.str (txt x.1.nm), .tuple (x.2.map oD)]
structure StepOk (cnt : Nat) (is : List I4) (x : PStep) : Prop where
  mem : x.1 ∈ is
  pad : x.1.pad = false
  len : x.2.length + 1 = x.1.ln
  low : ∀ b, some b ∈ x.2 → 0 ≤ b ∧ b < (cnt : Int)
def someI (is : List I4) (rs : List Addr) : List Addr := ((rs.zip is).filter fun q => !q.2.pad).map (·.1)
theorem someI_in {is : List I4} {rs : List Addr} {r : Addr} (h : r ∈ someI is rs) : ∃ (i : Nat) (x : I4), rs[i]? = some r ∧ is[i]? = some x ∧ x.pad = false := by
  obtain ⟨⟨a, x⟩, hm, rfl⟩ := List.mem_map.mp h
  obtain ⟨h1, h2⟩ := List.mem_filter.mp hm
  obtain ⟨i, hi⟩ := List.mem_iff_getElem?.mp h1
  rw [List.getElem?_zip_eq_some] at hi
  refine ⟨i, x, hi.1, hi.2, ?_⟩
  revert h2
  cases x.pad <;> simp
theorem someI_len (is : List I4) (rs : List Addr) : (someI is rs).length ≤ is.length := by
  unfold someI
  rw [List.length_map]
  refine Nat.le_trans (List.length_filter_le _ _) ?_
  rw [List.length_zip]
  omega
theorem someI_more {is : List I4} {rs : List Addr} {i : Nat} {r : Addr} {x : I4} (h1 : rs[i]? = some r) (h2 : is[i]? = some x) : someI (is.take (i + 1)) (rs.take (i + 1)) = someI (is.take i) (rs.take i) ++ (if x.pad = true then [] else [r]) := by
  unfold someI
  have tz : ∀ j, (rs.take j).zip (is.take j) = (rs.zip is).take j := fun j => by simp only [List.zip, List.take_zipWith]
  rw [tz, tz, take_more (List.getElem?_zip_eq_some (z := (r, x)) |>.mpr ⟨h1, h2⟩), List.filter_append, List.map_append]
  cases h : x.pad <;> simp [List.filter_cons, h]
section
variable {P : Program} {w : World} {K : PySem.W.Frag} {mg : Str → Option Value} {base : Heap}
/-! ### _law_plan -/
def spPlan : Sp := fun vs H Q _ => ∃ (p t it : Addr) (n cnt lg most : Nat) (is : List I4) (rs : List Addr) (T : Hp), vs = [.ref p, .ref t, .int (most : Int)] ∧ BoxAt H p n ∧ n ≤ 2 ^ 38 ∧ Same T H ∧ T p = none ∧ Tab T t cnt lg is it rs ∧ most ≤ 12 ∧
  ∀ H' T' r (ps : List PStep), GB p T H T' H' → BoxAt H' p (n + 300) → Dz T' (.ref r) (.tuple (ps.map stepD)) → ps.length ≤ most → (∀ x ∈ ps, StepOk cnt is x) → Q (.ref r) H'
abbrev nPlan : List Str := ["_law_box_here", "_law_table_here", "_law_most", "_law_some", "_law_plan_here", "_law_turn", "_law_opcode", "_law_name", "_law_size", "_law_is_padding", "_law_wanted", "_law_instruction", "_law_at"]
theorem scPlan : FnScope nPlan ["_law_box_here", "_law_table_here", "_law_most"] (defScope s_law_plan) := ⟨rfl, rfl, rfl, by decide +kernel, rfl, by decide +kernel, by decide +kernel⟩
theorem ok_plan {f fO fT : Addr} {fd fdO fdT : FuncData} {k : Nat} (F : Fun K "_law_plan" "_law_plan" s_law_plan f fd) (Ti : Bi mg)
    (O : Def K mg "_law_of" sOf fO fdO ["_law_box_here", "_law_some"]) (GO : FnOk P w K mg base CX0 k fO fdO ["_law_box_here", "_law_some"] spOf)
    (Tk : Def K mg "_law_take" sTake fT fdT ["_law_box_here", "_law_many"]) (GT : FnOk P w K mg base CX0 k fT fdT ["_law_box_here", "_law_many"] spTake) :
    FnOk P w K mg base CX0 (k + 1) f fd ["_law_box_here", "_law_table_here", "_law_most"] spPlan := by
  refine F.ok scPlan (fun vs H Q E h => ?_) (fun cdv A' outer s H vs Q E hr h => ?_)
  · obtain ⟨p, t, it, n, cnt, lg, most, is, rs, T, rfl, _⟩ := h
    rfl
  · obtain ⟨p, t, it, n, cnt, lg, most, is, rs, T, rfl, B, hn, st, tp, T0, m12, q⟩ := h
    refine ⟨_, pss_cons (ps_par (i := 3) (j := 4) (by rfl) scPlan.nd rfl rfl (by decide) rfl rfl (pa_cons
          (pe_lc (own := [("_law_instruction", 11)]) (g := gName 11) (tt := tNot (tB (tOp (rIxT K) (tVar 11) (tC (.int 3))))) (by rfl) scPlan.nd (pi_tup (pe_ix ix_tup (pv 1) pe_int (fun _ _ => rfl)))
            (blkOk_by (own := [("_law_instruction", 11)]) (N := nPlan) (sc := defScope s_law_plan) (by decide +kernel))
            (fun _ _ _ _ _ => pg_name (i := 11) scPlan.nd rfl (Or.inl rfl)) (fun _ _ _ _ _ => pts_one (pt_not (pt_val (pe_ix (r := rIxT K) ix_tup (pv 11) pe_int (fun _ _ => rfl))))) (fun _ _ _ _ _ => pv 11))
          (pa_cons (pe_lst pa_nil) pa_nil)) (by rfl))
      (pss_cons (ps_for PassesOwn.never rfl (pi_range1 (by rfl) Ti.range (pa_cons (pe_op op_mul (pe_call GT hr (by rfl) Tk.gl Tk.fn.kp Tk.bi .nil pass0 (pa_cons (pv 0) (pa_cons (pe_op op_add (pv 2) pe_int) pa_nil)))
            (pe_callTy call_int1 (by rfl) Ti.int (by decide +kernel) (pa_cons (pe_cmpR (op_neNoL hr.units) (pv 3) (pe_lst pa_nil) (nomark _)) pa_nil))) pa_nil)) (pg_name (i := 5) scPlan.nd rfl (.inl rfl))
        (pss_cons (ps_asg (pe_call GO hr (by rfl) O.gl O.fn.kp O.bi .nil pass0 (pa_cons (pv 0) (pa_cons (pv 3) pa_nil))) (pg_tup rfl (pgs_cons (pg_name (i := 6) scPlan.nd rfl (.inl rfl)) (pgs_cons (pg_name (i := 7) scPlan.nd rfl (.inl rfl)) (pgs_cons (pg_name (i := 8) scPlan.nd rfl (.inl rfl)) (pgs_cons (pg_name (i := 9) scPlan.nd rfl (.inl rfl)) pgs_nil))))))
        (pss_cons (ps_setLc (i := 10) (own := [("_law_at", 12)]) (g := gName 12) (tt := tYes) (by rfl) scPlan.nd rfl rfl (sw_true rfl rfl rfl (by decide +kernel)) (pi_range1 (by rfl) Ti.range (pa_cons (pe_op op_sub (pv 8) pe_int) pa_nil))
            (blkOk_by (own := [("_law_at", 12)]) (N := nPlan) (sc := defScope s_law_plan) (by decide +kernel))
            (fun _ _ _ _ _ => pg_name (i := 12) scPlan.nd rfl (Or.inl rfl)) (fun _ _ _ _ _ => pts_nil)
            (fun _ _ _ _ _ => pe_call GO hr (by rfl) O.gl O.fn.kp O.bi .nil pass0 (pa_cons (pv 0) (pa_cons (pe_lst (pa_cons pe_non (pa_cons (pe_call GT hr (by rfl) Tk.gl Tk.fn.kp Tk.bi .nil pass0 (pa_cons (pv 0) (pa_cons (pe_ix (r := rIxT K) ix_tup (pv 1) pe_int (fun _ _ => rfl)) pa_nil))) pa_nil))) pa_nil))))
        (pss_one (ps_expr (pe_bm PySem.F.plainAttrs_list PySem.F.slot_list_append PySem.F.type_list_append mt_append (pv 4) (pa_cons (pe_tup (pa_cons (pv 7) (pa_cons (pe_callTy call_tuple_of (by rfl) Ti.tuple (by decide +kernel) (pa_cons (pv 10) pa_nil)) pa_nil))) pa_nil)))))))
      (pss_one (ps_ret (pe_callTy call_tuple_of (by rfl) Ti.tuple (by decide +kernel) (pa_cons (pv 4) pa_nil))))), ?_⟩
    have i0 : ∀ x y : V, atI [x, y] 0 = some x := fun x y => atI_nat (j := 0) rfl
    have i1 : ∀ x y : V, atI [x, y] 1 = some y := fun x y => atI_nat (j := 1) rfl
    have TH := T0.same st
    have hit := TH.its
    have rl := TH.rows.1
    have few := TH.ok.few
    have cb := TH.ok.cb
    have lb := TH.ok.lb
    -- the instructions that are no padding
    refine ⟨_, rfl, t, _, _, _, rfl, rfl, SqT.of TH.at_, i1 _ _, it, rfl, ⟨_, SqT.of hit⟩, fun D nD => lc_tup (K := K) (a := it) (xs := rs.map V.ref) (fun i G => Mk H G D ((someI (is.take i) (rs.take i)).map V.ref)) (.start nD) (fun i G _ mk => mk.same.tup (SqT.of hit)) ?_ ?_⟩
    · intro i x G hx mk
      obtain ⟨hi, r, rfl, hr2, _⟩ := rows_at TH.rows hx
      have hri : rs[i]? = some r := by
        rw [List.getElem?_map] at hx
        obtain ⟨z, hz, e⟩ := Option.map_eq_some_iff.mp hx
        cases e
        exact hz
      have at3 : atI (is[i]).vs 3 = some (.bl (is[i]).pad) := atI_nat (j := 3) rfl
      refine ⟨rfl, _, rfl, r, _, _, _, rfl, rfl, SqT.of (mk.same _ _ hr2), at3, _, rfl, ?_⟩
      rw [someI_more hri (List.getElem?_eq_getElem hi), List.map_append]
      cases hp : (is[i]).pad with
      | true =>
        refine iteF ?_
        rw [if_pos rfl, List.map_nil, List.append_nil]
        exact mk
      | false =>
        refine iteT ⟨_, rfl, _, mk.at_, ?_, mk.put (Same.refl _)⟩
        rw [List.length_map]
        have := someI_len (is.take i) (rs.take i)
        rw [List.length_take] at this
        exact small1000 (by omega)
    intro G1 mk1
    rw [List.length_map, rl, List.take_length, ← rl, List.take_length] at mk1
    have sl := someI_len is rs
    have inI : ∀ r, r ∈ someI is rs → ∃ x, x ∈ is ∧ x.pad = false ∧ T r = some (.tup x.vs) := fun r h => by
      obtain ⟨i, x, h1, h2, h3⟩ := someI_in h
      exact ⟨x, List.mem_of_getElem? h2, h3, T0.rows.2 i r x h1 h2⟩
    generalize hS : someI is rs = ss at mk1 sl inI
    -- the part of the heap that stays: with the list of instructions
    have tD : T D = none := st.free nD
    have sT : Same T (upd T D (.lst (ss.map V.ref))) := same_upd tD
    have st1 : Same (upd T D (.lst (ss.map V.ref))) G1 := fun b o e => by
      by_cases z : b = D
      · rw [z, upd_same] at e
        cases e
        rw [z]
        exact mk1.at_
      · rw [upd_ne z] at e
        exact mk1.same _ _ (st _ _ e)
    have Dp : D ≠ p := fun z => B.ne (z ▸ nD)
    have tp1 : upd T D (.lst (ss.map V.ref)) p = none := by rw [upd_ne (Ne.symm Dp)]; exact tp
    have g1 : GB p T H (upd T D (.lst (ss.map V.ref))) G1 := ⟨But.of mk1.same, sT, st1, fun b e n => by
      by_cases z : b = D
      · rw [z] at n; exact absurd nD n
      · rw [upd_ne z]; exact e, fun b e => by
      cases z : H b with
      | none => exact absurd z e
      | some o => rw [mk1.same _ _ z]; exact fun y => nomatch y⟩
    have hDT : upd T D (.lst (ss.map V.ref)) D = some (.lst (ss.map V.ref)) := upd_same
    have T1 := T0.same sT
    have inJ : ∀ r, r ∈ ss → ∃ x, x ∈ is ∧ x.pad = false ∧ upd T D (.lst (ss.map V.ref)) r = some (.tup x.vs) := fun r h => by
      obtain ⟨x, a, b, c⟩ := inI r h
      exact ⟨x, a, b, sT _ _ c⟩
    have B1 := B.same mk1.same
    generalize upd T D (.lst (ss.map V.ref)) = Tp at *
    -- the plan's list
    refine ⟨Nat.zero_le _, fun L nL => ⟨_, _, rfl, ?_⟩⟩
    have h0 := HoldZ.start st1 tp1 B1 nL
    have gL : GB p T H Tp (upd G1 L (.lst [])) := g1.lay _ nL
    have nLH : H L = none := mk1.same.free nL
    -- how many
    refine ⟨_, rfl, _, rfl, _, _, rfl, rfl, p, (most : Int) + 1, n, rfl, h0.box, by omega, by omega, by omega, fun G2 m b2 B2 m0 m1 f2 => ?_⟩
    have g2 := gL.trans (GB.box h0.ht h0.tp b2 B2)
    have h2 := h0.gb (GB.box h0.ht h0.tp b2 B2) B2
    refine ⟨_, rfl, Nat.zero_le _, fun e ne => ?_⟩
    have se := same_upd (o := HO.lst []) ne
    have gE := (GB.refl (p := p) h2.ht).lay (HO.lst []) ne
    have g3 := g2.trans gE
    have h3 := h2.gb gE (h2.box.same se)
    refine ⟨D, e, _, rfl, rfl, SqL.of (h3.ht _ _ hDT), SqL.of upd_same, .inr ⟨_, rfl, _, _, rfl, rfl, .inr (bit_ok _), ?_⟩⟩
    generalize upd G2 e (HO.lst []) = G3 at *
    obtain ⟨mt, hmt, hm12, hss⟩ : ∃ mt : Nat, m * (if ((ss.map V.ref).isEmpty == false) = true then 1 else 0) = (mt : Int) ∧ mt ≤ most ∧ (0 < mt → 0 < ss.length) := by
      cases hs : ss with
      | nil => exact ⟨0, by simp, Nat.zero_le _, fun z => absurd z (by decide)⟩
      | cons a l => exact ⟨m.toNat, by simp; omega, by omega, fun _ => by simp⟩
    refine ⟨(mt : Int), congrArg (fun z => [V.int z]) hmt, by omega, by omega, for_range (lo := 0) (n := mt) (fun i σ G => ∃ (T2 : Hp) (vs : List V) (ps : List PStep) (y5 y6 y7 y8 y9 y10 : Option V), σ = [some (.ref p), some (.ref t), some (.int (most : Int)), some (.ref D), some (.ref L), y5, y6, y7, y8, y9, y10, none, none] ∧ GB p T H T2 G ∧ HoldZ Tp T2 G p L (n + 1 + 24 * i) vs (ps.map stepD) ∧ ps.length = i ∧ ∀ x ∈ ps, StepOk cnt is x)
      ⟨Tp, [], [], none, none, none, none, none, none, rfl, g3, h3, rfl, (fun _ h => nomatch h)⟩ ?_ ?_⟩
    · rintro i σ G hi ⟨T2, vs, ps, y5, y6, y7, y8, y9, y10, rfl, gG, hG, pl, pok⟩
      have ssp := hss (by omega)
      refine ⟨_, rfl, _, rfl, p, D, _, _, rfl, hG.box, by omega, hG.ht _ _ (hG.tt _ _ hDT), Dp, by rw [List.length_map]; exact ssp, by rw [List.length_map]; omega, fun G4 v mv b4 B4 f4 => ?_⟩
      obtain ⟨r, hr2, rfl⟩ := List.mem_map.mp mv
      obtain ⟨x, xin, xpad, hx⟩ := inJ r hr2
      have xl := T0.ok.len x xin
      have e4 := GB.box hG.ht hG.tp b4 B4
      have g4 := gG.trans e4
      have h4 := hG.gb e4 B4
      refine ⟨r, _, rfl, SqT.of (h4.ht _ _ (h4.tt _ _ hx)), rfl, _, _, rfl, _, _, rfl, _, _, rfl, _, _, rfl, rfl, ?_⟩
      -- what is wanted
      refine ⟨_, rfl, _, _, rfl, rfl, _, rfl, by omega, by omega, fun W nW => lc_range (lo := 0) (fun j G => ∃ (T3 : Hp) (os : List (Option Int)), GB p T H T3 G ∧ HoldZ Tp T3 G p L (n + 1 + 24 * i + 1 + 2 * j) vs (ps.map stepD) ∧ T3 W = none ∧ G W = some (.lst (os.map oV)) ∧ os.length = j ∧ ∀ b, some b ∈ os → 0 ≤ b ∧ b < (cnt : Int)) ?_ ?_ ?_⟩
      · have eW := (GB.refl (p := p) h4.ht).lay (HO.lst []) nW
        exact ⟨T2, [], g4.trans eW, h4.gb eW (h4.box.same (same_upd nW)), h4.ht.free nW, upd_same, rfl, (fun _ h => nomatch h)⟩
      · rintro j G5 hj ⟨T3, os, g5, h5, tW, hW, ol, olow⟩
        have nWH : H W = none := (g4.th.trans (Same.refl _)) |> fun _ => by
          cases z : H W with
          | none => rfl
          | some o =>
            have := g4.up W (by rw [z]; exact fun y => nomatch y)
            exact absurd nW this
        have Wp : W ≠ p := fun z => by rw [z] at hW; obtain ⟨_, _, _, e, _⟩ := h4.box; rw [z, e] at nW; cases nW
        have WL : W ≠ L := fun z => by rw [z, h4.at_] at nW; cases nW
        have t5 := (T1.same h5.tt).same h5.ht
        refine ⟨rfl, _, rfl, _, rfl, _, rfl, t, _, _, _, rfl, rfl, SqT.of t5.at_, i0 _ _, p, (cnt : Int), _, rfl, h5.box, by omega, by omega, by omega, fun G6 b b6 B6 z0 z1 f6 => ?_⟩
        have e6 := GB.box h5.ht h5.tp b6 B6
        have h6 := h5.gb e6 B6
        refine ⟨by show 2 ≤ sizeLine; decide, fun l nl => ?_⟩
        have e7 := (GB.refl (p := p) h6.ht).lay (HO.lst [V.non, V.int b]) nl
        have lp : l ≠ p := fun z => h6.box.ne (z ▸ nl)
        have h7 := h6.gb e7 (h6.box.same (same_upd nl))
        refine ⟨p, l, _, _, rfl, h7.box, by omega, upd_same, lp, by show 0 < 2; decide, by show 2 ≤ 1000; decide, fun G8 v mv b8 B8 f8 => ?_⟩
        have e8 := GB.box h7.ht h7.tp b8 B8
        have h8 := h7.gb e8 B8
        have g8 := ((g5.trans e6).trans e7).trans e8
        have eG := (e6.trans e7).trans e8
        have hW8 := eG.hh _ _ hW Wp
        have tW8 := eG.new _ tW (by rw [hW]; exact fun y => nomatch y)
        obtain ⟨o, rfl, ob⟩ : ∃ o : Option Int, v = oV o ∧ ∀ c, o = some c → 0 ≤ c ∧ c < (cnt : Int) := by
          rcases List.mem_cons.mp mv with rfl | mv
          · exact ⟨none, rfl, fun c z => nomatch z⟩
          · exact ⟨some b, List.mem_singleton.mp mv, fun c z => by cases z; exact ⟨z0, z1⟩⟩
        refine ⟨_, hW8, by rw [List.length_map, ol, sizeLine_eq]; omega, T3, os ++ [o], g8.set _ nWH tW8, ?_, tW8, by rw [upd_same, List.map_append]; rfl, by rw [List.length_append, ol]; rfl, fun c hc => ?_⟩
        · refine ⟨h8.tt, fun b o e => by rw [upd_ne (ne_of_none e tW8)]; exact h8.ht b o e, h8.tp, h8.tD, h8.ne, by rw [upd_ne (Ne.symm WL)]; exact h8.at_, h8.all, ?_⟩
          exact (h8.box.upd Wp).mono (by omega)
        · rcases List.mem_append.mp hc with hc | hc
          · exact olow c hc
          · exact ob c (List.mem_singleton.mp hc).symm
      · rintro G5 ⟨T3, os, g5, h5, tW, hW, ol, olow⟩
        -- the step
        refine ⟨_, rfl, .inl ⟨rfl, _, SqL.of h5.at_⟩, _, rfl, _, rfl, W, _, rfl, .inl ⟨SqL.of hW, fun u nu => ?_⟩⟩
        have k1 := (Grow.refl h5.ht).put (HO.tup (os.map oV)) nu
        have D1 : Dz (upd T3 u (HO.tup (os.map oV))) (.ref u) (.tuple (os.map oD)) := .tup upd_same (dz_opts os)
        have h9 := h5.grow k1
        have g9 := g5.trans (.of k1)
        generalize upd T3 u (HO.tup (os.map oV)) = T4, upd G5 u (HO.tup (os.map oV)) = G6 at *
        refine ⟨by show 2 ≤ sizeLine; decide, fun r2 nr2 => ?_⟩
        have k2 := (Grow.refl h9.ht).put (HO.tup [V.str (txt x.nm), V.ref u]) nr2
        have D2 : Dz (upd T4 r2 (HO.tup [V.str (txt x.nm), V.ref u])) (.ref r2) (stepD (x, os)) := .tup upd_same (.cons (.str _) (.cons (D1.same k2.tt) .nil))
        have h10 := h9.grow k2
        have g10 := g9.trans (.of k2)
        generalize upd T4 r2 (HO.tup [V.str (txt x.nm), V.ref u]) = T5, upd G6 r2 (HO.tup [V.str (txt x.nm), V.ref u]) = G7 at *
        have vl : vs.length = i := by rw [h10.all.len, List.length_map, pl]
        refine ⟨L, _, _, rfl, rfl, h10.at_, by rw [vl, sizeLine_eq]; omega, T5, vs ++ [V.ref r2], ps ++ [(x, os)], _, _, _, _, _, _, rfl, g10.set _ nLH h10.tD, ?_, by rw [List.length_append, pl]; rfl, fun y hy => ?_⟩
        · rw [List.map_append]
          refine (h10.push (.cons D2 .nil)).mono ?_
          have : ((x.ln : Int) - 1).toNat ≤ 11 := by omega
          omega
        · rcases List.mem_append.mp hy with hy | hy
          · exact pok y hy
          · rw [List.mem_singleton.mp hy]
            exact ⟨xin, xpad, by show os.length + 1 = x.ln; rw [ol]; omega, olow⟩
    · rintro σ G ⟨T2, vs, ps, y5, y6, y7, y8, y9, y10, rfl, gG, hG, pl, pok⟩
      refine ⟨_, rfl, L, _, rfl, .inl ⟨SqL.of hG.at_, fun r nr => ?_⟩⟩
      have k1 := (Grow.refl hG.ht).put (HO.tup vs) nr
      refine q _ _ r ps (gG.trans (.of k1)) ((hG.box.same k1.hh).mono (by omega)) (.tup upd_same (hG.all.same k1.tt)) ?_ pok
      rw [pl]
      exact hm12
end
end Ov

namespace Ov
open PySem PySem.Spec PyProof.Rows L2
section
variable {P : Program} {w : World} {K : PySem.W.Frag} {mg : Str → Option Value} {base : Heap}
/-! ### check_entry, starts, countdown_at -/
def spCkE (K : PySem.W.Frag) : Sp := fun vs H Q _ => ∃ (c : Addr) (xs : List V) (e : Nat), vs = [.ref c, .int (e : Int)] ∧ SqT K H c xs ∧ e ≤ xs.length ∧ Q .non H
end
end Ov

namespace Ov
open PySem PySem.Spec PyProof.Rows L2
/-! ### names by opcodes, rows of decoded instructions -/
def nmOf (is : List I4) (b : Int) : List Nat := match is.find? (fun x => decide ((x.op : Int) = b)) with
  | some x => x.nm
  | none => []
def nmKV (is : List I4) : List (Key × V) := is.map fun x => ((Sum.inl (x.op : Int) : Key), V.str (txt x.nm))
theorem val_nm {is : List I4} {b : Int} (h : 0 < laOf is b) : valV (nmKV is) (Sum.inl b : Key) = some (.str (txt (nmOf is b))) := by
  unfold valV nmKV nmOf
  unfold laOf at h
  induction is with
  | nil => cases h
  | cons x is ih =>
    rw [List.map_cons, List.find?_cons, List.find?_cons]
    rw [List.find?_cons] at h
    by_cases e : (x.op : Int) = b
    · subst e; simp
    · rw [decide_eq_false e] at h ⊢
      rw [decide_eq_false (fun z => e (Sum.inl.inj z))]
      exact ih h
theorem nm_ok {cnt lg : Nat} {is : List I4} (ok : TabOk cnt lg is) (b : Int) : (reprText (txt (nmOf is b))).length ≤ 100 := by
  have h : (nmOf is b).length ≤ 8 ∧ ∀ c ∈ nmOf is b, c ≤ 122 := by
    unfold nmOf
    cases e : is.find? (fun x => decide ((x.op : Int) = b)) with
    | none => exact ⟨by decide, fun c hc => nomatch hc⟩
    | some x =>
      have := ok.nms x (List.mem_of_find?_eq_some e)
      exact ⟨this.2.1, fun c hc => (this.2.2 c hc).2⟩
  have z := PySem.StrLaws.reprText_len (txt (nmOf is b)) (fun c hc => by
    have : c ∈ nmOf is b := by simpa [txt] using hc
    have := h.2 c this
    exact Nat.lt_of_le_of_lt this (by decide))
  have l : (txt (nmOf is b)).length = (nmOf is b).length := by
    show (nmOf is b).toArray.size = _
    simp
  rw [l] at z
  omega
def opsOf (bs : List Int) (o l : Nat) : List Int := (bs.drop (o + 1)).take (l - 1)
def rowD (is : List I4) (bs : List Int) (o : Nat) : PyData := .tuple [.int (o : Int), .str (txt (nmOf is (bs.getD o 0))), .tuple ((opsOf bs o (laOf is (bs.getD o 0))).map PyData.int)]
def endD (n : Nat) (begun : List Nat) (fol : Nat) : PyData :=
  if fol < n then .tuple [.str "stopped", .int (fol : Int)] else if n < fol then .tuple [.str "cut", .int ((begun.getLast?.getD 0 : Nat) : Int), .int ((fol - n : Nat) : Int)] else .tuple [.str "complete"]
def compOf (n : Nat) (begun : List Nat) (fol : Nat) : List Nat := if n < fol then begun.dropLast else begun
def decD (is : List I4) (bs : List Int) (begun : List Nat) (fol : Nat) : PyData := .tuple [.tuple ((compOf bs.length begun fol).map (rowD is bs)), endD bs.length begun fol]
theorem cut_mid (a b : Nat) (xs : List V) (h : a ≤ b) : cutV xs (some (a : Int)) (some (b : Int)) = (xs.drop a).take (b - a) := by
  unfold cutV
  rw [show HT.sIx xs.length 0 (some (a : Int)) = min a xs.length from HT.sIx_nat xs.length 0 a, show HT.sIx xs.length xs.length (some (b : Int)) = min b xs.length from HT.sIx_nat xs.length xs.length b]
  rcases Nat.le_total xs.length a with c | c
  · rw [Nat.min_eq_right c, List.drop_of_length_le c, List.drop_of_length_le (Nat.le_refl _), List.take_nil, List.take_nil]
  · rw [Nat.min_eq_left c]
    rcases Nat.le_total xs.length b with d | d
    · rw [Nat.min_eq_right d, List.take_of_length_le (by rw [List.length_drop]; exact Nat.le_refl _), List.take_of_length_le (by rw [List.length_drop]; omega)]
    · rw [Nat.min_eq_left d]
theorem cut_but (xs : List V) : cutV xs none (some (-1)) = xs.dropLast := by
  unfold cutV
  rw [HT.sIx_none, List.drop_zero, Nat.sub_zero, List.dropLast_eq_take]
  congr 1
  show (if (-1 : Int) < 0 then ((-1 : Int) + (xs.length : Int)).toNat else min (-1 : Int).toNat xs.length) = xs.length - 1
  rw [if_pos (by decide)]
  omega
/-- a list of things in the making: they live in the part T of the heap, the list itself does not -/
structure Coll (K : PySem.W.Frag) (T H : Hp) (D : Addr) (vs : List V) (ds : List PyData) : Prop where
  th : Same T H
  td : T D = none
  at_ : H D = some (.lst vs)
  all : DxAll K T vs ds
theorem Coll.grow {K : PySem.W.Frag} {T H T' H' : Hp} {D : Addr} {vs : List V} {ds : List PyData} (h : Coll K T H D vs ds) (g : Grow T H T' H') : Coll K T' H' D vs ds :=
  ⟨g.th, g.new _ h.td (by rw [h.at_]; exact fun z => nomatch z), g.hh _ _ h.at_, h.all.same g.tt⟩
theorem Coll.push {K : PySem.W.Frag} {T H : Hp} {D : Addr} {vs : List V} {ds : List PyData} {v : V} {d : PyData} (h : Coll K T H D vs ds) (x : Dx K T v d) : Coll K T (upd H D (.lst (vs ++ [v]))) D (vs ++ [v]) (ds ++ [d]) :=
  ⟨fun b o e => by rw [upd_ne (ne_of_none e h.td)]; exact h.th _ _ e, h.td, upd_same, h.all.app (.cons x .nil)⟩
section
variable {P : Program} {w : World} {K : PySem.W.Frag} {mg : Str → Option Value} {base : Heap}
/-! ### read_instructions -/
def spReadI (K : PySem.W.Frag) (C : Addr) : Sp := fun vs H Q _ => ∃ (p it c lo : Addr) (cnt lg : Nat) (is : List I4) (rs : List Addr) (bs : List Int) (os : List Nat), vs = [.ref p, .ref c, .ref lo] ∧ Mach C H p cnt lg it is rs ∧ SqT K H c (bs.map V.int) ∧ H lo = some (.lst (os.map natV)) ∧ os.length ≤ 100000 ∧ (∀ o ∈ os, ∃ b, bs[o]? = some b ∧ 0 < laOf is b) ∧
  ∀ H' r, Same H H' → H r = none → Dx K H' (.ref r) (.tuple (os.map (rowD is bs))) → Q (.ref r) H'
/-! ### ending -/
def spEnding (K : PySem.W.Frag) : Sp := fun vs H Q _ => ∃ (c l : Addr) (xs : List V) (begun : List Nat) (fol : Nat), vs = [.ref c, .ref l, .int (fol : Int)] ∧ SqT K H c xs ∧ H l = some (.lst (begun.map natV)) ∧ (xs.length < fol → begun ≠ []) ∧
  ∀ H' r, Same H H' → H r = none → Dx K H' (.ref r) (endD xs.length begun fol) → Q (.ref r) H'
/-! ### decode -/
def spDecode (K : PySem.W.Frag) (C : Addr) : Sp := fun vs H Q _ => ∃ (p it c : Addr) (cnt lg : Nat) (is : List I4) (rs : List Addr) (bs : List Int) (e : Nat), vs = [.ref p, .ref c, .int (e : Int)] ∧ Mach C H p cnt lg it is rs ∧ SqT K H c (bs.map V.int) ∧ bs.length ≤ 100000 ∧ e ≤ bs.length ∧
  ∀ H' r begun fol, Same H H' → H r = none → Ended (laOf is) bs e begun fol → begun.length ≤ bs.length → Dx K H' (.ref r) (decD is bs begun fol) → Q (.ref r) H'
end
end Ov
namespace Ov
open PySem PySem.Spec PyProof.Rows L2
/-! ### data, read back -/
mutual
theorem Dx.dp {K : PySem.W.Frag} {H : Hp} : ∀ {v : V} {d : PyData}, Dx K H v d → d.hasDict = false → Dp K H v d
  | _, _, .non, _ => .non
  | _, _, .bl b, _ => .bl b
  | _, _, .int i, _ => .int i
  | _, _, .str x, _ => .str x
  | _, _, .dct h, z => by simp [PyData.hasDict] at z
  | _, _, .lst h a, z => .lst h (DxAll.dp a (by simpa only [PyData.hasDict] using z))
  | _, _, .tup h a, z => .tup h (DxAll.dp a (by simpa only [PyData.hasDict] using z))
theorem DxAll.dp {K : PySem.W.Frag} {H : Hp} : ∀ {vs : List V} {ds : List PyData}, DxAll K H vs ds → PyData.hasDictAll ds = false → DpAll K H vs ds
  | _, _, .nil, _ => .nil
  | _, _, .cons (ds := ds) h a, z => by
    simp only [PyData.hasDictAll, Bool.or_eq_false_iff] at z
    exact .cons (Dx.dp h z.1) (DxAll.dp a z.2)
end
theorem dx_str {K : PySem.W.Frag} {H : Hp} {v : V} {x : Str} (h : Dx K H v (.str x)) : v = .str x := by cases h; rfl
theorem dx_int {K : PySem.W.Frag} {H : Hp} {v : V} {x : Int} (h : Dx K H v (.int x)) : v = .int x := by cases h; rfl
theorem dx_oD {K : PySem.W.Frag} {H : Hp} {v : V} {o : Option Int} (h : Dx K H v (oD o)) : v = oV o := by
  cases o with
  | none => cases h; rfl
  | some b => cases h; rfl
theorem dx_opts {K : PySem.W.Frag} {H : Hp} : ∀ {os : List (Option Int)} {vs : List V}, DxAll K H vs (os.map oD) → vs = os.map oV
  | [], _, h => by cases h; rfl
  | o :: os, _, h => by
    cases h with
    | cons h a => rw [dx_oD h, dx_opts a]; rfl
theorem dx_intsI {K : PySem.W.Frag} {H : Hp} : ∀ {os : List Int} {vs : List V}, DxAll K H vs (os.map PyData.int) → vs = os.map V.int
  | [], _, h => by cases h; rfl
  | o :: os, _, h => by
    cases h with
    | cons h a => rw [dx_int h, dx_intsI a]; rfl
theorem dx_tup {K : PySem.W.Frag} {H : Hp} {v : V} {ds : List PyData} (h : Dx K H v (.tuple ds)) : ∃ a xs, v = .ref a ∧ SqT K H a xs ∧ DxAll K H xs ds := by
  cases h with
  | tup h a => exact ⟨_, _, rfl, h, a⟩
theorem dx_step {K : PySem.W.Frag} {H : Hp} {v : V} {x : PStep} (h : Dx K H v (stepD x)) : ∃ a b, v = .ref a ∧ SqT K H a [.str (txt x.1.nm), .ref b] ∧ SqT K H b (x.2.map oV) := by
  obtain ⟨a, xs, rfl, h1, a1⟩ := dx_tup h
  cases a1 with
  | cons d1 a1 =>
    cases a1 with
    | cons d2 a1 =>
      cases a1
      obtain ⟨b, ys, rfl, h2, a2⟩ := dx_tup d2
      rw [dx_str d1] at h1
      rw [dx_opts a2] at h2
      exact ⟨a, b, rfl, h1, h2⟩
theorem dx_rowD {K : PySem.W.Frag} {H : Hp} {v : V} {is : List I4} {bs : List Int} {o : Nat} (h : Dx K H v (rowD is bs o)) : ∃ a b, v = .ref a ∧ SqT K H a [natV o, .str (txt (nmOf is (bs.getD o 0))), .ref b] ∧ SqT K H b ((opsOf bs o (laOf is (bs.getD o 0))).map V.int) := by
  obtain ⟨a, xs, rfl, h1, a1⟩ := dx_tup h
  cases a1 with
  | cons d1 a1 =>
    cases a1 with
    | cons d2 a1 =>
      cases a1 with
      | cons d3 a1 =>
        cases a1
        obtain ⟨b, ys, rfl, h2, a2⟩ := dx_tup d3
        rw [dx_int d1, dx_str d2] at h1
        rw [dx_intsI a2] at h2
        exact ⟨a, b, rfl, h1, h2⟩
/-! ### the steps that a decoder executes -/
def stepAt (is : List I4) (bs : List Int) (o : Nat) : Option PStep := match is.find? (fun x => decide ((x.op : Int) = bs.getD o 0)) with
  | some x => if x.pad = true then none else some (x, (opsOf bs o x.ln).map some)
  | none => none
def stepsOf (is : List I4) (bs : List Int) (begun : List Nat) : List PStep := begun.filterMap (stepAt is bs)
def foundOf (is : List I4) (bs : List Int) (begun : List Nat) (fol : Nat) : Option (List PStep) := if fol = bs.length then some (stepsOf is bs begun) else none
def foundD : Option (List PStep) → PyData
  | none => .none
  | some gs => .tuple (gs.map stepD)
theorem nm_inj {is : List I4} (nd : (is.map I4.nm).Nodup) {x y : I4} (hx : x ∈ is) (hy : y ∈ is) (e : x.nm = y.nm) : x = y := by
  induction is with
  | nil => cases hx
  | cons z is ih =>
    rw [List.map_cons, List.nodup_cons] at nd
    rcases List.mem_cons.mp hx with rfl | hx'
    · rcases List.mem_cons.mp hy with rfl | hy'
      · rfl
      · exact absurd (List.mem_map.mpr ⟨y, hy', e.symm⟩) nd.1
    · rcases List.mem_cons.mp hy with rfl | hy'
      · exact absurd (List.mem_map.mpr ⟨x, hx', e⟩) nd.1
      · exact ih nd.2 hx' hy'
theorem step_of {is : List I4} (nd : (is.map I4.nm).Nodup) {x : I4} (hx : x ∈ is) : stepI is (txt x.nm) = if x.pad = true then none else some x := by
  cases hp : x.pad with
  | true =>
    rw [if_pos rfl]
    cases h : stepI is (txt x.nm) with
    | none => rfl
    | some y =>
      obtain ⟨y1, y2, y3⟩ := stepI_in h
      have e := nm_inj nd y1 hx (txt_inj y3)
      rw [e, hp] at y2
      cases y2
  | false =>
    rw [if_neg (by decide)]
    cases h : stepI is (txt x.nm) with
    | none =>
      unfold stepI at h
      have z := List.find?_eq_none.mp h x (List.mem_filter.mpr ⟨hx, by rw [hp]; rfl⟩)
      exact absurd (decide_eq_true rfl) z
    | some y =>
      obtain ⟨y1, y2, y3⟩ := stepI_in h
      rw [nm_inj nd y1 hx (txt_inj y3)]
theorem at_of {is : List I4} {b : Int} (h : 0 < laOf is b) : ∃ x, x ∈ is ∧ is.find? (fun x => decide ((x.op : Int) = b)) = some x ∧ laOf is b = x.ln ∧ nmOf is b = x.nm := by
  unfold laOf at h
  cases e : is.find? (fun x => decide ((x.op : Int) = b)) with
  | none => rw [e] at h; cases h
  | some x =>
    refine ⟨x, List.mem_of_find?_eq_some e, rfl, ?_, ?_⟩
    · unfold laOf; rw [e]
    · unfold nmOf; rw [e]
theorem stepAt_of {is : List I4} {bs : List Int} {o : Nat} {x : I4} (h : is.find? (fun x => decide ((x.op : Int) = bs.getD o 0)) = some x) : stepAt is bs o = if x.pad = true then none else some (x, (opsOf bs o x.ln).map some) := by
  unfold stepAt
  rw [h]
theorem opts_some (os : List Int) : (os.map some).map oD = os.map PyData.int := by rw [List.map_map]; rfl
theorem optv_some (os : List Int) : (os.map some).map oV = os.map V.int := by rw [List.map_map]; rfl
section
variable {P : Program} {w : World} {K : PySem.W.Frag} {mg : Str → Option Value} {base : Heap}
/-! ### executed -/
def endComplete : PyData := .tuple [.str "complete"]
theorem end_ne (n : Nat) (begun : List Nat) (fol : Nat) : PyData.eqv (endD n begun fol) endComplete = decide (fol = n) := by
  unfold endD endComplete
  by_cases h1 : fol < n
  · rw [if_pos h1, decide_eq_false (by omega)]
    simp [PyData.eqv, PyData.eqvAll]
  · rw [if_neg h1]
    by_cases h2 : n < fol
    · rw [if_pos h2, decide_eq_false (by omega)]
      simp [PyData.eqv, PyData.eqvAll]
    · rw [if_neg h2, decide_eq_true (by omega)]
      simp [PyData.eqv, PyData.eqvAll]
theorem end_shaped (n : Nat) (begun : List Nat) (fol : Nat) : SeqAt.shaped (endD n begun fol) = true ∧ (endD n begun fol).hasDict = false := by
  have sh : ∀ (x : Str) (ds : List PyData), PyData.strOk x = true → PyData.canLayAll0 ds = true → PyData.depthAll ds ≤ 1 → SeqAt.shaped (.tuple (.str x :: ds)) = true := fun x ds h1 h2 h3 => by
    refine Bool.and_eq_true_iff.mpr ⟨?_, decide_eq_true ?_⟩
    · simp only [PyData.canLay0, PyData.canLayAll0]
      rw [h1, h2]
      rfl
    · simp only [PyData.depth, PyData.depthAll]
      omega
  unfold endD
  split
  · exact ⟨sh _ _ (by decide +kernel) (by simp [PyData.canLayAll0, PyData.canLay0]) (by simp [PyData.depthAll, PyData.depth]), rfl⟩
  · split
    · exact ⟨sh _ _ (by decide +kernel) (by simp [PyData.canLayAll0, PyData.canLay0]) (by simp [PyData.depthAll, PyData.depth]), rfl⟩
    · exact ⟨sh _ _ (by decide +kernel) (by simp [PyData.canLayAll0, PyData.canLay0]) (by simp [PyData.depthAll, PyData.depth]), rfl⟩
def spExec (K : PySem.W.Frag) (C : Addr) : Sp := fun vs H Q _ => ∃ (p it c : Addr) (cnt lg : Nat) (is : List I4) (rs : List Addr) (bs : List Int) (e : Nat), vs = [.ref p, .ref c, .int (e : Int)] ∧ Mach C H p cnt lg it is rs ∧ SqT K H c (bs.map V.int) ∧ bs.length ≤ 100000 ∧ e ≤ bs.length ∧
  ∀ H' v begun fol, Same H H' → Ended (laOf is) bs e begun fol → begun.length ≤ bs.length → Dx K H' v (foundD (foundOf is bs begun fol)) → Q v H'
abbrev nExec : List Str := ["instruction_set", "code", "entry", "read", "ending", "lengths", "offset", "name", "operands"]
end
end Ov
namespace Ov
open PySem PySem.Spec PyProof.Rows L2
/-! ### steps beside wanted ones -/
def optFit : Option Int → Option Int → Bool
  | none, _ => true
  | some b, g => decide (some b = g)
def stepFit (w g : PStep) : Bool := decide (txt g.1.nm = txt w.1.nm) && (g.2.zip w.2).all fun q => optFit q.2 q.1
def fits : Option (List PStep) → List PStep → Bool
  | none, _ => false
  | some gs, ps => decide (gs.length = ps.length) && (gs.zip ps).all fun q => stepFit q.2 q.1
theorem optFit_some (b : Int) (g : Option Int) : optFit (some b) g = decide (some b = g) := rfl
theorem fits_some (gs ps : List PStep) : fits (some gs) ps = (decide (gs.length = ps.length) && (gs.zip ps).all fun q => stepFit q.2 q.1) := rfl
theorem opt_fit {b : Int} {o : Int} : decide (V.int b = V.int o) = optFit (some b) (some o) := by
  rw [optFit_some]
  by_cases h : b = o
  · subst h; simp
  · rw [decide_eq_false (fun z => h (V.int.inj z)), decide_eq_false (fun z => h (Option.some.inj z))]
theorem stepOk_prog {cnt lg : Nat} {is : List I4} (ok : TabOk cnt lg is) {x : PStep} (h : StepOk cnt is x) : isStepD cnt is (stepD x) = true := by
  have e : isStepD cnt is (stepD x) = isOps cnt x.1.ln (.tuple (x.2.map oD)) := by
    have z := step_of ok.nd h.mem
    rw [h.pad, if_neg (by decide)] at z
    simp [stepD, isStepD, isNm, z]
  have e2 : isOps cnt x.1.ln (.tuple (x.2.map oD)) = (decide ((x.2.map oD).length + 1 = x.1.ln) && (x.2.map oD).all (opOk cnt)) := by simp [isOps]
  rw [e, e2, List.length_map, decide_eq_true h.len, Bool.true_and, List.all_eq_true]
  intro d hd
  obtain ⟨o, ho, rfl⟩ := List.mem_map.mp hd
  cases o with
  | none => rfl
  | some b =>
    have := h.low b ho
    show btw 0 ((cnt : Int) - 1) (.int b) = true
    unfold btw
    simp only [Bool.and_eq_true, decide_eq_true_eq]
    omega
theorem plan_prog {cnt lg : Nat} {is : List I4} (ok : TabOk cnt lg is) {ps : List PStep} (h : ∀ x ∈ ps, StepOk cnt is x) (l : ps.length ≤ 12) : isProgD cnt is (.tuple (ps.map stepD)) = true := by
  have e : isProgD cnt is (.tuple (ps.map stepD)) = (decide ((ps.map stepD).length ≤ 12) && (ps.map stepD).all (isStepD cnt is)) := by simp [isProgD]
  rw [e, List.length_map, decide_eq_true l, Bool.true_and, List.all_eq_true]
  intro d hd
  obtain ⟨x, hx, rfl⟩ := List.mem_map.mp hd
  exact stepOk_prog ok (h x hx)
theorem steps_some {is : List I4} {bs : List Int} {begun : List Nat} {g : PStep} (h : g ∈ stepsOf is bs begun) : ∃ os : List Int, g.2 = os.map some := by
  obtain ⟨o, _, e⟩ := List.mem_filterMap.mp h
  unfold stepAt at e
  split at e
  · split at e
    · cases e
    · cases e
      exact ⟨_, rfl⟩
  · cases e
section
variable {P : Program} {w : World} {K : PySem.W.Frag} {mg : Str → Option Value} {base : Heap}
/-! ### is_match -/
def spMatch (K : PySem.W.Frag) : Sp := fun vs H Q _ => ∃ (v1 v2 : V) (x : I4) (os : List Int) (y : PStep), vs = [v1, v2] ∧ Dx K H v1 (stepD (x, os.map some)) ∧ Dx K H v2 (stepD y) ∧ os.length ≤ 1000 ∧ ∀ H', Same H H' → Q (.bl (stepFit y (x, os.map some))) H'
abbrev nMatch : List Str := ["step", "wanted", "name", "operands", "wanted_name", "wanted_operands", "byte", "item"]
/-! ### check_program, where the value is a program -/
def spCkP (K : PySem.W.Frag) (C : Addr) : Sp := fun vs H Q _ => ∃ (p it : Addr) (cnt lg : Nat) (is : List I4) (rs : List Addr) (v : V) (d : PyData), vs = [.ref p, v] ∧ Mach C H p cnt lg it is rs ∧ Dx K H v d ∧ isProgD cnt is d = true ∧ ∀ H', Same H H' → Q .non H'
theorem scCkP : FnScope ["instruction_set", "program"] ["instruction_set", "program"] (defScope s_check_program) := ⟨rfl, rfl, rfl, by decide +kernel, rfl, by decide +kernel, by decide +kernel⟩
theorem ok_ckP {f fP C : Addr} {fd fdP : FuncData} {k : Nat} (F : Fun K "check_program" "check_program" s_check_program f fd)
    (Pr : Def K mg "is_program" s_is_program fP fdP ["instruction_set", "value"]) (GP : FnOk P w K mg base CX0 k fP fdP ["instruction_set", "value"] (spProg K C)) : FnOk P w K mg base CX0 (k + 1) f fd ["instruction_set", "program"] (spCkP K C) := by
  refine F.ok scCkP (fun vs H Q E h => ?_) (fun cdv A' outer s H vs Q E hr h => ?_)
  · obtain ⟨p, it, cnt, lg, is, rs, v, d, rfl, _⟩ := h
    rfl
  · obtain ⟨p, it, cnt, lg, is, rs, v, d, rfl, M, D, ok, q⟩ := h
    refine ⟨_, pss_one (ps_if (pt_not (pt_val (pe_call GP hr (by rfl) Pr.gl Pr.fn.kp Pr.bi .nil pass0 (pa_cons (pv 0) (pa_cons (pv 1) pa_nil))))) (pss_one ps_never) pss_nil), ?_⟩
    refine ⟨_, rfl, _, rfl, p, it, cnt, lg, is, rs, v, d, rfl, M, D, fun H' s' => ?_⟩
    rw [ok]
    exact ⟨_, rfl, iteF (q H' s')⟩
/-! ### runs -/
def spRuns (K : PySem.W.Frag) (C : Addr) : Sp := fun vs H Q _ => ∃ (p it c : Addr) (cnt lg : Nat) (is : List I4) (rs : List Addr) (bs : List Int) (e : Nat) (v : V) (ps : List PStep), vs = [.ref p, .ref c, .int (e : Int), v] ∧ Mach C H p cnt lg it is rs ∧ SqT K H c (bs.map V.int) ∧ bs.length ≤ 1000 ∧ e ≤ bs.length ∧
  Dx K H v (.tuple (ps.map stepD)) ∧ (∀ x ∈ ps, StepOk cnt is x) ∧ ps.length ≤ 12 ∧ ∀ H' begun fol, Same H H' → Ended (laOf is) bs e begun fol → begun.length ≤ bs.length → Q (.bl (fits (foundOf is bs begun fol) ps)) H'
abbrev nRuns : List Str := ["instruction_set", "code", "entry", "program", "steps", "step", "wanted"]
end
end Ov
namespace Ov
open PySem PySem.Spec PyProof.Rows L2
/-! ### programs and entries that an overlay is asked for -/
def planD (ps : List PStep) : PyData := .tuple (ps.map stepD)
/-- so many programs, each of so many steps that the set knows -/
structure Plns (cnt : Nat) (is : List I4) (pss : List (List PStep)) : Prop where
  one : 1 ≤ pss.length
  few : pss.length ≤ 3
  ok : ∀ ps ∈ pss, ps.length ≤ 12 ∧ ∀ x ∈ ps, StepOk cnt is x
section
variable {P : Program} {w : World} {K : PySem.W.Frag} {mg : Str → Option Value} {base : Heap}
/-! ### check_programs -/
def spCkPs (K : PySem.W.Frag) (C : Addr) : Sp := fun vs H Q _ => ∃ (p it l : Addr) (cnt lg : Nat) (is : List I4) (rs : List Addr) (xs : List V) (pss : List (List PStep)), vs = [.ref p, .ref l] ∧ Mach C H p cnt lg it is rs ∧ SqT K H l xs ∧ DxAll K H xs (pss.map planD) ∧ Plns cnt is pss ∧ ∀ H', Same H H' → Q .non H'
theorem scCkPs : FnScope ["instruction_set", "programs", "program"] ["instruction_set", "programs"] (defScope s_check_programs) := ⟨rfl, rfl, rfl, by decide +kernel, rfl, by decide +kernel, by decide +kernel⟩
theorem ok_ckPs {f fP C : Addr} {fd fdP : FuncData} {k : Nat} (F : Fun K "check_programs" "check_programs" s_check_programs f fd) (T : Bi mg) (mP : ∃ t, mg "MOST_PROGRAMS" = some (.int 3 t))
    (Cp : Def K mg "check_program" s_check_program fP fdP ["instruction_set", "program"]) (GP : FnOk P w K mg base CX0 k fP fdP ["instruction_set", "program"] (spCkP K C)) :
    FnOk P w K mg base CX0 (k + 1) f fd ["instruction_set", "programs"] (spCkPs K C) := by
  obtain ⟨tP, mP⟩ := mP
  refine F.ok scCkPs (fun vs H Q E h => ?_) (fun cdv A' outer s H vs Q E hr h => ?_)
  · obtain ⟨p, it, l, cnt, lg, is, rs, xs, pss, rfl, _⟩ := h
    rfl
  · obtain ⟨p, it, l, cnt, lg, is, rs, xs, pss, rfl, M, hl, D, ok, q⟩ := h
    refine ⟨_, pss_cons (ps_if (PW.pt (pw_or (pt_not (pt_val (pe_callB call_isi (by rfl) T.isi (by decide +kernel) (pa_cons (pv 1) (pa_cons (pe_bltn (v := .ty "tuple") (u := .type "tuple") (by rfl) T.tuple (by decide +kernel) rfl) pa_nil)))))
        (pw_or1 (pt_not (pt_chain op_le op_le pe_int (pe_callB call_len_seq (by rfl) T.len PySem.boot_len (pa_cons (pv 1) pa_nil)) (pe_glob (v := .int 3) (by rfl) mP ⟨_, rfl⟩)))))) (pss_one ps_never) pss_nil)
      (pss_one (ps_for PassesOwn.never rfl (pi_tup (pv 1)) (pg_name (i := 2) scCkPs.nd rfl (.inl rfl))
        (pss_one (ps_expr (pe_call GP hr (by rfl) Cp.gl Cp.fn.kp Cp.bi .nil pass0 (pa_cons (pv 0) (pa_cons (pv 2) pa_nil))))))), ?_⟩
    have xl : xs.length = pss.length := by rw [D.len, List.length_map]
    have one := ok.one
    have few := ok.few
    refine ⟨_, rfl, _, _, _, _, _, rfl, .ty _, (Dx.tup hl D).ty, kit_ty (by decide +kernel : kitB "tuple" "tuple" = some true), _, rfl, iteF ?_⟩
    refine ⟨_, rfl, l, _, rfl, .inr hl, _, _, rfl, rfl, _, rfl, ?_⟩
    rw [xl, decide_eq_true (show (1 : Int) ≤ (pss.length : Int) by omega)]
    refine iteT ⟨_, _, rfl, rfl, _, rfl, ?_⟩
    rw [decide_eq_true (show (pss.length : Int) ≤ 3 by omega)]
    refine iteF ?_
    refine ⟨_, rfl, l, rfl, ⟨_, hl⟩, for_tup (K := K) (a := l) (xs := xs) (fun i σ G => ∃ y2, σ = [some (.ref p), some (.ref l), y2] ∧ Same H G) ⟨_, rfl, Same.refl _⟩ (fun i σ G _ ⟨_, _, s⟩ => s.tup hl) ?_ ?_⟩
    · rintro i v σ G hv ⟨y2, rfl, s1⟩
      obtain ⟨d, hd, Dv⟩ := D.at hv
      rw [List.getElem?_map] at hd
      obtain ⟨ps, hps, rfl⟩ := Option.map_eq_some_iff.mp hd
      obtain ⟨l12, sok⟩ := ok.ok ps (List.mem_of_getElem? hps)
      refine ⟨_, rfl, _, rfl, p, it, cnt, lg, is, rs, v, _, rfl, M.same s1, Dv.same s1, plan_prog M.ok sok l12, fun G2 s2 => ⟨_, rfl, s1.trans s2⟩⟩
    · rintro σ G ⟨y2, rfl, s1⟩
      exact q _ s1
/-! ### are_entries, check_entries -/
/-- entries: the first is 0, each behind the one in front, none above 12 -/
structure Ents (gs : List Nat) : Prop where
  hd : gs.head? = some 0
  asc : (gs.map fun n : Nat => (n : Int)).Pairwise (· < ·)
  low : ∀ g ∈ gs, g ≤ 12
  few : gs.length ≤ 13
abbrev entV (gs : List Nat) : List V := (gs.map fun n : Nat => (n : Int)).map V.int
def spAreE (K : PySem.W.Frag) : Sp := fun vs H Q _ => ∃ (g : Addr) (gs : List Nat), vs = [.ref g] ∧ SqT K H g (entV gs) ∧ Ents gs ∧ ∀ H', Same H H' → Q (.bl true) H'
theorem scAreE : FnScope ["value", "item"] ["value"] (defScope s_are_entries) := ⟨rfl, rfl, rfl, by decide +kernel, rfl, by decide +kernel, by decide +kernel⟩
theorem ok_areE {f fB fA : Addr} {fd fdB fdA : FuncData} {k : Nat} (F : Fun K "are_entries" "are_entries" s_are_entries f fd) (T : Bi mg) (mE : ∃ t, mg "GREATEST_ENTRY" = some (.int 12 t))
    (Bt : Def K mg "is_integer_between" sBetween fB fdB ["value", "least", "most"]) (GB : FnOk P w K mg base CX0 k fB fdB ["value", "least", "most"] spBetween)
    (As : Def K mg "is_ascending" sAscending fA fdA ["numbers"]) (GA : FnOk P w K mg base CX0 k fA fdA ["numbers"] (spAscending K)) :
    FnOk P w K mg base CX0 (k + 1) f fd ["value"] (spAreE K) := by
  obtain ⟨tE, mE⟩ := mE
  refine F.ok scAreE (fun vs H Q E h => ?_) (fun cdv A' outer s H vs Q E hr h => ?_)
  · obtain ⟨g, gs, rfl, _⟩ := h
    rfl
  · obtain ⟨g, gs, rfl, hg, ok, q⟩ := h
    refine ⟨_, pss_cons (ps_if (PW.pt (pw_or (pt_not (pt_val (pe_callB call_isi (by rfl) T.isi (by decide +kernel) (pa_cons (pv 0) (pa_cons (pe_bltn (v := .ty "tuple") (u := .type "tuple") (by rfl) T.tuple (by decide +kernel) rfl) pa_nil)))))
        (pw_or1 (pt_not (pt_val (pe_callB (cr_all rfl) (by rfl) T.all (by decide +kernel) (pa_cons (pe_lc (own := [("item", 1)]) (g := gName 1) (tt := tYes) (by rfl) scAreE.nd (pi_tup (pv 0))
          (blkOk_by (own := [("item", 1)]) (N := ["value", "item"]) (sc := defScope s_are_entries) (by decide +kernel))
          (fun _ _ _ _ _ => pg_name (i := 1) scAreE.nd rfl (Or.inl rfl)) (fun _ _ _ _ _ => pts_nil)
          (fun _ _ _ _ _ => pe_call GB hr (by rfl) Bt.gl Bt.fn.kp Bt.bi .nil pass0 (pa_cons (pv 1) (pa_cons pe_int (pa_cons (pe_glob (v := .int 12) (by rfl) mE ⟨_, rfl⟩) pa_nil))))) pa_nil))))))) (pss_one (ps_ret pe_bl)) pss_nil)
      (pss_one (ps_ret (pe_and (pe_cmpR op_gt (pe_callB call_len_seq (by rfl) T.len PySem.boot_len (pa_cons (pv 0) pa_nil)) pe_int (nomark _)) (pe_and (pe_cmpR op_eq (pe_ix ix_tup (pv 0) pe_int (fun _ _ => rfl)) pe_int (nomark _)) (pe_one (pe_call GA hr (by rfl) As.gl As.fn.kp As.bi .nil pass0 (pa_cons (pv 0) pa_nil))))))), ?_⟩
    obtain ⟨g0, gr, rfl⟩ : ∃ g0 gr, gs = g0 :: gr := by
      cases gs with
      | nil => exact absurd ok.hd (by simp)
      | cons a r => exact ⟨a, r, rfl⟩
    obtain rfl : g0 = 0 := by simpa using ok.hd
    have D : DxAll K H (entV (0 :: gr)) (((0 :: gr).map fun n : Nat => (n : Int)).map PyData.int) := dx_ints _
    refine ⟨_, rfl, _, _, _, _, _, rfl, .ty _, (Dx.tup hg D).ty, kit_ty (by decide +kernel : kitB "tuple" "tuple" = some true), _, rfl, iteF ?_⟩
    refine ⟨_, rfl, g, rfl, ⟨_, hg⟩, fun L nL => lc_tup (K := K) (a := g) (xs := entV (0 :: gr)) (fun i G => Mk H G L ((List.replicate i true).map V.bl)) (.start nL) (fun i G _ mk => mk.same.tup hg) ?_ ?_⟩
    · intro i v G hv mk
      rw [List.getElem?_map, List.getElem?_map] at hv
      obtain ⟨z, hz, rfl⟩ := Option.map_eq_some_iff.mp hv
      obtain ⟨gn, hgn, rfl⟩ := Option.map_eq_some_iff.mp hz
      have l12 := ok.low gn (List.mem_of_getElem? hgn)
      have il := (List.getElem?_eq_some_iff.mp hgn).1
      have few := ok.few
      refine ⟨rfl, _, rfl, (gn : Int), 0, 12, rfl, by omega, by omega, ?_⟩
      refine ⟨_, mk.at_, by rw [List.length_map, List.length_replicate, sizeLine_eq]; omega, ?_⟩
      rw [List.replicate_succ', List.map_append]
      exact mk.put (Same.refl _)
    intro G mk
    refine ⟨L, _, rfl, SqL.of mk.at_, ?_⟩
    rw [all_true]
    have hgG := mk.same.tup hg
    refine ⟨_, rfl, iteF ?_⟩
    refine ⟨_, rfl, g, _, rfl, .inr hgG, _, _, rfl, rfl, _, rfl, ?_⟩
    rw [decide_eq_true (show (0 : Int) < ((entV (0 :: gr)).length : Int) by rw [List.length_map, List.length_map, List.length_cons]; omega)]
    refine iteT ⟨_, rfl, g, _, _, _, rfl, rfl, hgG, atI_nat (j := 0) (v := .int 0) rfl, rfl, _, rfl, ?_⟩
    rw [decide_eq_true rfl]
    refine iteT ⟨_, rfl, g, _, rfl, hgG, by have := ok.few; rw [List.length_map]; omega, ok.asc, fun G2 s2 => ?_⟩
    exact q _ (mk.same.trans s2)
def spCkEs (K : PySem.W.Frag) : Sp := fun vs H Q _ => ∃ (l g : Addr) (xs : List V) (gs : List Nat), vs = [.ref l, .ref g] ∧ SqT K H l xs ∧ SqT K H g (entV gs) ∧ Ents gs ∧ gs.length = xs.length ∧ ∀ H', Same H H' → Q .non H'
theorem scCkEs : FnScope ["programs", "entries"] ["programs", "entries"] (defScope s_check_entries) := ⟨rfl, rfl, rfl, by decide +kernel, rfl, by decide +kernel, by decide +kernel⟩
theorem ok_ckEs {f fA : Addr} {fd fdA : FuncData} {k : Nat} (F : Fun K "check_entries" "check_entries" s_check_entries f fd) (T : Bi mg)
    (Ar : Def K mg "are_entries" s_are_entries fA fdA ["value"]) (GA : FnOk P w K mg base CX0 k fA fdA ["value"] (spAreE K)) :
    FnOk P w K mg base CX0 (k + 1) f fd ["programs", "entries"] (spCkEs K) := by
  refine F.ok scCkEs (fun vs H Q E h => ?_) (fun cdv A' outer s H vs Q E hr h => ?_)
  · obtain ⟨l, g, xs, gs, rfl, _⟩ := h
    rfl
  · obtain ⟨l, g, xs, gs, rfl, hl, hg, ok, le, q⟩ := h
    refine ⟨_, pss_one (ps_if (PW.pt (pw_or (pt_not (pt_val (pe_call GA hr (by rfl) Ar.gl Ar.fn.kp Ar.bi .nil pass0 (pa_cons (pv 1) pa_nil))))
        (pw_or1 (pt_cmpR op_ne (pe_callB call_len_seq (by rfl) T.len PySem.boot_len (pa_cons (pv 1) pa_nil)) (pe_callB call_len_seq (by rfl) T.len PySem.boot_len (pa_cons (pv 0) pa_nil)) (nomark _))))) (pss_one ps_never) pss_nil), ?_⟩
    refine ⟨_, rfl, g, gs, rfl, hg, ok, fun H1 s1 => ⟨_, rfl, iteF ?_⟩⟩
    refine ⟨_, rfl, g, _, rfl, .inr (s1.tup hg), _, rfl, l, _, rfl, .inr (s1.tup hl), rfl, _, rfl, ?_⟩
    rw [List.length_map, List.length_map, le, decide_eq_true rfl]
    exact iteF (q _ s1)
end
end Ov

namespace Ov
open PySem PySem.Spec PyProof.Rows L2
/-! ### decoder_count -/
def rLenV (K : PySem.W.Frag) : List V → Hp → VK → Prop := fun args G R => ∃ a items, args = [.ref a] ∧ (SqL K G a items ∨ SqT K G a items) ∧ R (.int items.length) G
theorem cr_lenV {X : Cx} : CallR X (.builtin "len") (rLenV X.K) := call_len_seq
/-- the longest rest of a padding instruction -/
def lrOf (is : List I4) : Nat := ((is.filter (·.pad)).map fun x => x.ln - 1).foldl max 0
def opsN (ps : List PStep) : Nat := (ps.map fun x => x.2.length).sum
/-- the states of one decoder -/
def dcnt (is : List I4) (ps : List PStep) : Nat := 1 + ps.length + opsN ps + (ps.length + 1) * lrOf is
theorem sum_take (ps : List PStep) : ((ps.map fun x => ((x.2.length : Nat) : Int))).sum = ((opsN ps : Nat) : Int) := by
  unfold opsN
  induction ps with
  | nil => rfl
  | cons a r ih => rw [List.map_cons, List.sum_cons, List.map_cons, List.sum_cons, ih, Int.natCast_add]
section
variable {P : Program} {w : World} {K : PySem.W.Frag} {mg : Str → Option Value} {base : Heap}
def spLRest (C : Addr) : Sp := fun vs H Q _ => ∃ (p it : Addr) (cnt lg : Nat) (is : List I4) (rs : List Addr), vs = [.ref p] ∧ Mach C H p cnt lg it is rs ∧ ∀ H', Same H H' → Q (.int (lrOf is : Int)) H'
def spDcnt (K : PySem.W.Frag) (C : Addr) : Sp := fun vs H Q _ => ∃ (p it : Addr) (cnt lg : Nat) (is : List I4) (rs : List Addr) (v : V) (ps : List PStep), vs = [.ref p, v] ∧ Mach C H p cnt lg it is rs ∧ Dx K H v (planD ps) ∧ ps.length ≤ 12 ∧ ∀ H', Same H H' → Q (.int (dcnt is ps : Int)) H'
abbrev nDcnt : List Str := ["instruction_set", "program", "operand_count", "name", "operands"]
theorem scDcnt : FnScope nDcnt ["instruction_set", "program"] (defScope s_decoder_count) := ⟨rfl, rfl, rfl, by decide +kernel, rfl, by decide +kernel, by decide +kernel⟩
theorem ok_dcnt {f fL C : Addr} {fd fdL : FuncData} {k : Nat} (F : Fun K "decoder_count" "decoder_count" s_decoder_count f fd) (T : Bi mg)
    (Lr : Def K mg "longest_rest" s_longest_rest fL fdL ["instruction_set"]) (GL : FnOk P w K mg base CX0 k fL fdL ["instruction_set"] (spLRest C)) :
    FnOk P w K mg base CX0 (k + 1) f fd ["instruction_set", "program"] (spDcnt K C) := by
  refine F.ok scDcnt (fun vs H Q E h => ?_) (fun cdv A' outer s H vs Q E hr h => ?_)
  · obtain ⟨p, it, cnt, lg, is, rs, v, ps, rfl, _⟩ := h
    rfl
  · obtain ⟨p, it, cnt, lg, is, rs, v, ps, rfl, M, D, l12, q⟩ := h
    refine ⟨_, pss_cons (ps_set (i := 2) scDcnt.nd rfl (.inl rfl) (pe_callB (cr_sum rfl) (by rfl) T.sum (by decide +kernel) (pa_cons (pe_lc (own := [("name", 3), ("operands", 4)]) (g := gTup K 2 (gCons (gName 3) (gCons (gName 4) gNil))) (tt := tYes) (te := tCB (rLenV K) (tCons (tVar 4) tNil)) (by rfl) scDcnt.nd (pi_tup (pv 1))
          (blkOk_by (own := [("name", 3), ("operands", 4)]) (N := nDcnt) (sc := defScope s_decoder_count) (by decide +kernel))
          (fun _ _ _ _ _ => pg_tup rfl (pgs_cons (pg_name (i := 3) scDcnt.nd rfl (Or.inl rfl)) (pgs_cons (pg_name (i := 4) scDcnt.nd rfl (Or.inl rfl)) pgs_nil)))
          (fun _ _ _ _ _ => pts_nil) (fun _ _ _ _ _ => pe_callB (r := rLenV K) cr_lenV (by rfl) T.len PySem.boot_len (pa_cons (pv 4) pa_nil))) pa_nil)))
      (pss_one (ps_ret (pe_op op_add (pe_op op_add (pe_op op_add pe_int (pe_callB call_len_seq (by rfl) T.len PySem.boot_len (pa_cons (pv 1) pa_nil))) (pv 2)) (pe_op op_mul (pe_op op_add (pe_callB call_len_seq (by rfl) T.len PySem.boot_len (pa_cons (pv 1) pa_nil)) pe_int) (pe_call GL hr (by rfl) Lr.gl Lr.fn.kp Lr.bi .nil pass0 (pa_cons (pv 0) pa_nil)))))), ?_⟩
    cases D with
    | @tup a ys _ ha DA =>
      have yl : ys.length = ps.length := by rw [DA.len, List.length_map]
      refine ⟨_, rfl, a, rfl, ⟨_, ha⟩, fun D nD => lc_tup (K := K) (a := a) (xs := ys) (fun i G => Mk H G D (((ps.take i).map fun x => ((x.2.length : Nat) : Int)).map V.int)) (.start nD) (fun i G _ mk => mk.same.tup ha) ?_ ?_⟩
      · intro i v G hv mk
        obtain ⟨d, hd, Dv⟩ := DA.at hv
        rw [List.getElem?_map] at hd
        obtain ⟨y, hy, rfl⟩ := Option.map_eq_some_iff.mp hd
        have hi := (List.getElem?_eq_some_iff.mp hy).1
        cases Dv with
        | @tup b us _ hb Ub =>
          cases Ub with
          | @cons u0 _ r0 _ h0 t0 =>
            cases t0 with
            | @cons u1 _ r1 _ h1 t1 =>
              cases t1
              cases h1 with
              | @tup c zs _ hc Uc =>
                have zl : zs.length = y.2.length := by rw [Uc.len, List.length_map]
                refine ⟨b, _, rfl, mk.same.tup hb, rfl, _, _, rfl, _, _, rfl, rfl, rfl, _, rfl, c, zs, rfl, .inr (mk.same.tup hc), _, mk.at_, by rw [List.length_map, List.length_map, List.length_take, sizeLine_eq]; omega, ?_⟩
                rw [zl, take_more hy, List.map_append, List.map_append]
                exact mk.put (Same.refl _)
      · intro G mk
        rw [yl, List.take_length] at mk
        refine ⟨D, _, rfl, SqL.of mk.at_, ?_⟩
        rw [sum_take]
        have haG := mk.same.tup ha
        refine ⟨_, rfl, a, _, rfl, .inr haG, _, _, rfl, rfl, _, rfl, _, _, rfl, rfl, _, rfl, a, _, rfl, .inr haG, _, _, rfl, rfl, _, rfl, p, it, cnt, lg, is, rs, rfl, M.same mk.same, fun G2 s2 => ?_⟩
        have e : (1 : Int) + (ys.length : Int) + ((opsN ps : Nat) : Int) + ((ys.length : Int) + 1) * ((lrOf is : Nat) : Int) = ((dcnt is ps : Nat) : Int) := by
          rw [yl]
          unfold dcnt
          rw [Int.natCast_add, Int.natCast_mul, Int.natCast_add, Int.natCast_add, Int.natCast_add]
          rfl
        refine ⟨_, _, rfl, rfl, .inl ⟨by omega, by omega⟩, _, _, rfl, rfl, ?_⟩
        show Q (V.int ((1 : Int) + (ys.length : Int) + ((opsN ps : Nat) : Int) + ((ys.length : Int) + 1) * ((lrOf is : Nat) : Int))) G2
        rw [e]
        exact q _ (mk.same.trans s2)
end
end Ov

namespace Ov
open PySem PySem.Spec PyProof.Rows L2
section
variable {P : Program} {w : World} {K : PySem.W.Frag} {mg : Str → Option Value} {base : Heap}
/-! ### state_count -/
def stcN (is : List I4) (pss : List (List PStep)) (gs : List Nat) : Nat := pss.foldl (fun n ps => n * dcnt is ps) (gs.getLast?.getD 0 + 1)
def spStc (K : PySem.W.Frag) (C : Addr) : Sp := fun vs H Q _ => ∃ (p it l g : Addr) (cnt lg : Nat) (is : List I4) (rs : List Addr) (xs : List V) (pss : List (List PStep)) (gs : List Nat), vs = [.ref p, .ref l, .ref g] ∧ Mach C H p cnt lg it is rs ∧ SqT K H l xs ∧ DxAll K H xs (pss.map planD) ∧ Plns cnt is pss ∧ SqT K H g (entV gs) ∧ Ents gs ∧ gs.length = pss.length ∧ (∀ ps ∈ pss, dcnt is ps ≤ 1000) ∧ ∀ H', Same H H' → Q (.int (stcN is pss gs : Int)) H'
abbrev nStc : List Str := ["instruction_set", "programs", "entries", "count", "program"]
theorem scStc : FnScope nStc ["instruction_set", "programs", "entries"] (defScope s_state_count) := ⟨rfl, rfl, rfl, by decide +kernel, rfl, by decide +kernel, by decide +kernel⟩
theorem ok_stc {f fP fE fD C : Addr} {fd fdP fdE fdD : FuncData} {k : Nat} (F : Fun K "state_count" "state_count" s_state_count f fd) (T : Bi mg)
    (Cp : Def K mg "check_programs" s_check_programs fP fdP ["instruction_set", "programs"]) (GP : FnOk P w K mg base CX0 k fP fdP ["instruction_set", "programs"] (spCkPs K C))
    (Ce : Def K mg "check_entries" s_check_entries fE fdE ["programs", "entries"]) (GE : FnOk P w K mg base CX0 k fE fdE ["programs", "entries"] (spCkEs K))
    (Dc : Def K mg "decoder_count" s_decoder_count fD fdD ["instruction_set", "program"]) (GD : FnOk P w K mg base CX0 k fD fdD ["instruction_set", "program"] (spDcnt K C)) :
    FnOk P w K mg base CX0 (k + 1) f fd ["instruction_set", "programs", "entries"] (spStc K C) := by
  refine F.ok scStc (fun vs H Q E h => ?_) (fun cdv A' outer s H vs Q E hr h => ?_)
  · obtain ⟨p, it, l, g, cnt, lg, is, rs, xs, pss, gs, rfl, _⟩ := h
    rfl
  · obtain ⟨p, it, l, g, cnt, lg, is, rs, xs, pss, gs, rfl, M, hl, D, ok, hg, oe, le, small, q⟩ := h
    refine ⟨_, pss_cons (ps_expr (pe_call GP hr (by rfl) Cp.gl Cp.fn.kp Cp.bi .nil pass0 (pa_cons (pv 0) (pa_cons (pv 1) pa_nil))))
      (pss_cons (ps_expr (pe_call GE hr (by rfl) Ce.gl Ce.fn.kp Ce.bi .nil pass0 (pa_cons (pv 1) (pa_cons (pv 2) pa_nil))))
      (pss_cons (ps_set (i := 3) scStc.nd rfl (.inl rfl) (pe_op op_add (pe_ix ix_tup (pv 2) (pe_un un_neg pe_int) (fun _ _ => rfl)) pe_int))
      (pss_cons (ps_for PassesOwn.never rfl (pi_tup (pv 1)) (pg_name (i := 4) scStc.nd rfl (.inl rfl))
        (pss_one (ps_aug (i := 3) scStc.nd rfl (.inl rfl) (pe_call GD hr (by rfl) Dc.gl Dc.fn.kp Dc.bi .nil pass0 (pa_cons (pv 0) (pa_cons (pv 4) pa_nil))) iop_mul)))
      (pss_one (ps_ret (pv 3)))))), ?_⟩
    have xl : xs.length = pss.length := by rw [D.len, List.length_map]
    refine ⟨_, rfl, _, rfl, p, it, l, cnt, lg, is, rs, xs, pss, rfl, M, hl, D, ok, fun H1 s1 => ?_⟩
    refine ⟨_, rfl, _, rfl, l, g, xs, gs, rfl, s1.tup hl, s1.tup hg, oe, by rw [le, xl], fun H2 s2 => ?_⟩
    have s02 := s1.trans s2
    obtain ⟨gr, z, rfl⟩ : ∃ (gr : List Nat) (z : Nat), gs = gr ++ [z] := by
      rcases List.eq_nil_or_concat gs with e0 | ⟨gr, z, e0⟩
      · rw [e0] at oe
        exact absurd oe.hd (by simp)
      · exact ⟨gr, z, by rw [e0, List.concat_eq_append]⟩
    have hg' : SqT K H g (entV gr ++ [V.int (z : Int)]) := by
      have e : entV (gr ++ [z]) = entV gr ++ [V.int (z : Int)] := by
        show ((gr ++ [z]).map fun n : Nat => (n : Int)).map V.int = _
        rw [List.map_append, List.map_append]
        rfl
      rw [← e]
      exact hg
    have q' : ∀ H', Same H H' → Q (.int ((pss.foldl (fun n ps => n * dcnt is ps) (z + 1) : Nat) : Int)) H' := fun H' s => by
      have := q H' s
      unfold stcN at this
      rw [show (gr ++ [z]).getLast?.getD 0 = z by simp] at this
      exact this
    refine ⟨_, rfl, _, rfl, g, _, _, _, rfl, rfl, s02.tup hg', atI_last _ _, _, _, rfl, rfl, ?_⟩
    refine ⟨_, rfl, l, rfl, ⟨_, s02.tup hl⟩, for_tup (K := K) (a := l) (xs := xs) (fun i σ G => ∃ y4, σ = [some (.ref p), some (.ref l), some (.ref g), some (.int (((pss.take i).foldl (fun n ps => n * dcnt is ps) (z + 1) : Nat) : Int)), y4] ∧ Same H G) ⟨_, rfl, s02⟩ (fun i σ G _ ⟨_, _, s⟩ => s.tup hl) ?_ ?_⟩
    · rintro i v σ G hv ⟨y4, rfl, sG⟩
      obtain ⟨d, hd, Dv⟩ := D.at hv
      rw [List.getElem?_map] at hd
      obtain ⟨ps, hps, rfl⟩ := Option.map_eq_some_iff.mp hd
      obtain ⟨l12, _⟩ := ok.ok ps (List.mem_of_getElem? hps)
      have sd := small ps (List.mem_of_getElem? hps)
      refine ⟨_, rfl, _, rfl, _, rfl, p, it, cnt, lg, is, rs, v, ps, rfl, M.same sG, Dv.same sG, l12, fun G2 s2 => ⟨_, _, rfl, rfl, .inr ⟨by omega, by omega⟩, ?_⟩⟩
      rw [take_more hps, List.foldl_append]
      exact ⟨_, rfl, sG.trans s2⟩
    · rintro σ G ⟨y4, rfl, sG⟩
      rw [xl, List.take_length]
      exact ⟨_, rfl, q' _ sG⟩
end
end Ov

namespace Ov
open PySem PySem.Spec PyProof.Rows L2
section
variable {P : Program} {w : World} {K : PySem.W.Frag} {mg : Str → Option Value} {base : Heap}
/-! ### check_overlay -/
def spCkO (K : PySem.W.Frag) (C : Addr) : Sp := fun vs H Q _ => ∃ (p it l g : Addr) (cnt lg : Nat) (is : List I4) (rs : List Addr) (xs : List V) (pss : List (List PStep)) (gs : List Nat), vs = [.ref p, .ref l, .ref g] ∧ Mach C H p cnt lg it is rs ∧ SqT K H l xs ∧ DxAll K H xs (pss.map planD) ∧ Plns cnt is pss ∧ SqT K H g (entV gs) ∧ Ents gs ∧ gs.length = pss.length ∧ (∀ ps ∈ pss, dcnt is ps ≤ 1000) ∧ stcN is pss gs ≤ 5000 ∧ ∀ H', Same H H' → Q .non H'
theorem scCkO : FnScope ["instruction_set", "programs", "entries", "count"] ["instruction_set", "programs", "entries"] (defScope s_check_overlay) := ⟨rfl, rfl, rfl, by decide +kernel, rfl, by decide +kernel, by decide +kernel⟩
theorem ok_ckO {f fS C : Addr} {fd fdS : FuncData} {k : Nat} (F : Fun K "check_overlay" "check_overlay" s_check_overlay f fd) (mS : ∃ t, mg "MOST_STATES" = some (.int 5000 t))
    (Sc : Def K mg "state_count" s_state_count fS fdS ["instruction_set", "programs", "entries"]) (GS : FnOk P w K mg base CX0 k fS fdS ["instruction_set", "programs", "entries"] (spStc K C)) :
    FnOk P w K mg base CX0 (k + 1) f fd ["instruction_set", "programs", "entries"] (spCkO K C) := by
  obtain ⟨tS, mS⟩ := mS
  refine F.ok scCkO (fun vs H Q E h => ?_) (fun cdv A' outer s H vs Q E hr h => ?_)
  · obtain ⟨p, it, l, g, cnt, lg, is, rs, xs, pss, gs, rfl, _⟩ := h
    rfl
  · obtain ⟨p, it, l, g, cnt, lg, is, rs, xs, pss, gs, rfl, M, hl, D, ok, hg, oe, le, small, few, q⟩ := h
    refine ⟨_, pss_cons (ps_set (i := 3) scCkO.nd rfl (.inl rfl) (pe_call GS hr (by rfl) Sc.gl Sc.fn.kp Sc.bi .nil pass0 (pa_cons (pv 0) (pa_cons (pv 1) (pa_cons (pv 2) pa_nil)))))
      (pss_one (ps_if (pt_cmpR op_gt (pv 3) (pe_glob (v := .int 5000) (by rfl) mS ⟨_, rfl⟩) (nomark _)) (pss_one ps_never) pss_nil)), ?_⟩
    refine ⟨_, rfl, _, rfl, _, rfl, p, it, l, g, cnt, lg, is, rs, xs, pss, gs, rfl, M, hl, D, ok, hg, oe, le, small, fun H1 s1 => ?_⟩
    refine ⟨_, rfl, _, _, rfl, rfl, _, rfl, ?_⟩
    rw [decide_eq_false (show ¬ ((5000 : Int) < (stcN is pss gs : Int)) by omega)]
    exact iteF (q _ s1)
end
end Ov
namespace Ov
open PySem PySem.Spec PyProof.Rows L2
abbrev sPadLens : Stmt := inClass cInstructionSet 3
/-! ### a set of ints by a comprehension over a tuple -/
theorem sc_tupI {w : World} {K : PySem.W.Frag} {a : Addr} {xs : List V} {g : TG} {tt : TT} {te : TE} {vs : List Nat} {σ : L2.St} {H1 : Hp} {D : Addr} {Qd : Hp → Prop} (Pv : Nat → Hp → Prop) (h0 : Pv 0 (upd H1 D (SetO w D (fun _ => false) 0))) (stays : ∀ i G, i ≤ xs.length → Pv i G → SqT K G a xs)
    (turn : ∀ i x G, xs[i]? = some x → Pv i G → TurnI w D g tt te (wipe σ vs) vs x G (Pv (i + 1))) (done : ∀ G, Pv xs.length G → Qd G) :
    ∃ W : Nat → Nat → Hp → Prop, (∃ m, W 0 m (upd H1 D (SetO w D (fun _ => false) 0))) ∧ ∀ i m G, W i m G → ((Itt K a).stop i G ∧ Qd G) ∨ ((Itt K a).go i G ∧ ∃ N : Hp → Prop, (∀ G', N G' → ∃ m', m' < m ∧ W (i + 1) m' G') ∧ ∀ x G', (Itt K a).yld i G x G' → TurnI w D g tt te (wipe σ vs) vs x G' N) := by
  refine ⟨fun i m G => m + i = xs.length ∧ Pv i G, ⟨xs.length, rfl, h0⟩, ?_⟩
  rintro i m G ⟨e, p⟩
  have st := stays i G (by omega) p
  rcases Nat.lt_or_ge i xs.length with lt | ge
  · refine .inr ⟨⟨xs, xs[i], st, List.getElem?_eq_getElem lt⟩, Pv (i + 1), fun G' p' => ⟨m - 1, by omega, by omega, p'⟩, ?_⟩
    rintro x G' ⟨rfl, y⟩
    exact turn i x _ (y xs st) p
  · obtain rfl : i = xs.length := by omega
    exact .inl ⟨⟨xs, st, Nat.le_refl _⟩, done G p⟩
/-! ### lengths of padding -/
structure PadL (is : List I4) (ns : List Int) : Prop where
  asc : ns.Pairwise (· < ·)
  mem : ∀ k : Int, k ∈ ns ↔ ∃ x ∈ is, x.pad = true ∧ (x.ln : Int) = k
theorem nodup_lenF : ∀ (L : Nat) (hs : List Nat), hs.Nodup → (∀ h ∈ hs, h < L) → hs.length ≤ L
  | 0, [], _, _ => Nat.le_refl _
  | 0, h :: _, _, b => absurd (b h List.mem_cons_self) (Nat.not_lt_zero _)
  | L + 1, hs, nd, b => by
    have ih := nodup_lenF L (hs.erase L) (nd.erase L) fun h hh => by
      have z := (nd.mem_erase_iff).mp hh
      have := b h z.2
      have := z.1
      omega
    by_cases m : L ∈ hs
    · rw [List.length_erase_of_mem m] at ih
      omega
    · rw [List.erase_of_not_mem m] at ih
      omega
section
variable {P : Program} {w : World} {K : PySem.W.Frag} {mg : Str → Option Value} {base : Heap}
def spPadLens (C : Addr) : Sp := fun vs H Q _ => ∃ (p it : Addr) (cnt lg : Nat) (is : List I4) (rs : List Addr), vs = [.ref p] ∧ Mach C H p cnt lg it is rs ∧ ∀ H' r ns, Same H H' → H r = none → PadL is ns → ns.length ≤ 50 → H' r = some (.tup (ns.map V.int)) → Q (.ref r) H'
theorem scPadLens : FnScope ["self", "opcode", "name", "length", "is_padding"] ["self"] (defScope sPadLens) := ⟨rfl, rfl, rfl, by decide +kernel, rfl, by decide +kernel, by decide +kernel⟩
theorem ok_padLens {f C : Addr} {fd : FuncData} {k : Nat} (F : Fun K "padding_lengths" "InstructionSet.padding_lengths" sPadLens f fd) (T : Bi mg) (S : SetTxt K mg C) : FnOk P w K mg base CX0 (k + 1) f fd ["self"] (spPadLens C) := by
  refine F.ok scPadLens (fun vs H Q E h => ?_) (fun cdv A' outer s H vs Q E hr h => ?_)
  · obtain ⟨p, it, cnt, lg, is, rs, rfl, _⟩ := h
    rfl
  · obtain ⟨p, it, cnt, lg, is, rs, rfl, M, q⟩ := h
    refine ⟨_, pss_one (ps_ret (pe_callTy call_tuple_of (by rfl) T.tuple (by decide +kernel) (pa_cons (pe_callB (cr_sortedSet rfl) (by rfl) T.sorted (by decide +kernel) (pa_cons (pe_scI (own := [("opcode", 1), ("name", 2), ("length", 3), ("is_padding", 4)]) (g := gTup K 4 (gCons (gName 1) (gCons (gName 2) (gCons (gName 3) (gCons (gName 4) gNil))))) (by rfl) scPadLens.nd (pi_tup (pe_fld (pv 0) rfl))
          (blkOk_by (own := [("opcode", 1), ("name", 2), ("length", 3), ("is_padding", 4)]) (N := ["self", "opcode", "name", "length", "is_padding"]) (sc := defScope sPadLens) (by decide +kernel))
          (fun _ _ _ _ _ => pg_tup rfl (pgs_cons (pg_name (i := 1) scPadLens.nd rfl (Or.inl rfl)) (pgs_cons (pg_name (i := 2) scPadLens.nd rfl (Or.inl rfl)) (pgs_cons (pg_name (i := 3) scPadLens.nd rfl (Or.inl rfl)) (pgs_cons (pg_name (i := 4) scPadLens.nd rfl (Or.inl rfl)) pgs_nil)))))
          (fun _ _ _ _ _ => pts_one (pt_val (pv 4))) (fun _ _ _ _ _ => pv 3)) pa_nil)) pa_nil))), ?_⟩
    obtain ⟨dx, d1, d2, hp, h1, h2⟩ := M.at_.ob
    have hit := M.its
    have rl := M.rows.1
    have few := M.ok.few
    refine ⟨_, rfl, p, C, dx, _, _, rfl, hp, S.cl, S.nI, flds_its _ _ _ _, it, rfl, ⟨_, SqT.of hit⟩, fun D nD => sc_tupI (K := K) (a := it) (xs := rs.map V.ref) (fun i G => Same H G ∧ ∃ (Sx : Int → Bool) (ds : List Nat), G D = some (SetO w D Sx ds.length) ∧ ds.Nodup ∧ (∀ d ∈ ds, d < 13 ∧ Sx (d : Int) = true) ∧ ∀ k : Int, Sx k = true ↔ ∃ x ∈ is.take i, x.pad = true ∧ (x.ln : Int) = k) ?_ (fun i G _ p => p.1.tup (SqT.of hit)) ?_ ?_⟩
    · exact ⟨same_upd nD, fun _ => false, [], upd_same, List.nodup_nil, (fun _ z => nomatch z), fun k => ⟨fun z => (nomatch z), fun ⟨x, hx, _⟩ => by simp at hx⟩⟩
    · rintro i x G hx ⟨sG, Sx, ds, hD, nd, lt, mem⟩
      obtain ⟨hi, r, rfl, hr2, _⟩ := rows_at M.rows hx
      have dl : ds.length ≤ 13 := nodup_lenF 13 ds nd fun d hd => (lt d hd).1
      refine ⟨r, _, rfl, SqT.of (sG _ _ hr2), rfl, _, _, rfl, _, _, rfl, _, _, rfl, _, _, rfl, rfl, rfl, _, rfl, _, rfl, ?_⟩
      have more : ∀ y, y ∈ is.take (i + 1) ↔ y ∈ is.take i ∨ y = is[i] := fun y => by rw [take_more (List.getElem?_eq_getElem hi), List.mem_append, List.mem_singleton]
      have ln12 : (is[i]).ln < 13 := by
        have := M.ok.len _ (List.getElem_mem hi)
        have := M.ok.lb
        omega
      by_cases pd : (is[i]).pad = true
      · rw [pd]
        refine iteT ⟨_, rfl, ((is[i]).ln : Int), Sx, ds.length, rfl, hD, by show ds.length + 1 < 4096; omega, fun b o e => by rw [upd_ne (ne_of_none e nD)]; exact sG b o e, ?_⟩
        have mem2 : ∀ k : Int, (Sx k || decide (k = ((is[i]).ln : Int))) = true ↔ ∃ x ∈ is.take (i + 1), x.pad = true ∧ (x.ln : Int) = k := fun k => by
          rw [Bool.or_eq_true, mem k, decide_eq_true_eq]
          constructor
          · rintro (⟨x, h1, h2, h3⟩ | rfl)
            · exact ⟨x, (more x).mpr (.inl h1), h2, h3⟩
            · exact ⟨_, (more _).mpr (.inr rfl), pd, rfl⟩
          · rintro ⟨x, h1, h2, h3⟩
            rcases (more x).mp h1 with h | rfl
            · exact .inl ⟨x, h, h2, h3⟩
            · exact .inr h3.symm
        by_cases inS : Sx ((is[i]).ln : Int) = true
        · exact ⟨fun j => Sx j || decide (j = ((is[i]).ln : Int)), ds, by rw [upd_same, if_pos inS]; rfl, nd, fun d hd => ⟨(lt d hd).1, Bool.or_eq_true_iff.mpr (.inl (lt d hd).2)⟩, mem2⟩
        · have fresh : (is[i]).ln ∉ ds := fun z => inS (lt _ z).2
          refine ⟨fun j => Sx j || decide (j = ((is[i]).ln : Int)), ds ++ [(is[i]).ln], by rw [upd_same, if_neg inS, List.length_append]; rfl, ?_, fun d hd => ?_, mem2⟩
          · rw [List.nodup_append]
            exact ⟨nd, by simp, fun x hx y hy z => by rw [List.mem_singleton.mp hy] at z; exact fresh (z ▸ hx)⟩
          · rcases List.mem_append.mp hd with h | h
            · exact ⟨(lt d h).1, Bool.or_eq_true_iff.mpr (.inl (lt d h).2)⟩
            · rw [List.mem_singleton.mp h]
              exact ⟨ln12, Bool.or_eq_true_iff.mpr (.inr (decide_eq_true rfl))⟩
      · rw [Bool.not_eq_true] at pd
        rw [pd]
        refine iteF ⟨sG, Sx, ds, hD, nd, lt, fun k => ?_⟩
        rw [mem k]
        constructor
        · rintro ⟨x, h1, h2, h3⟩
          exact ⟨x, (more x).mpr (.inl h1), h2, h3⟩
        · rintro ⟨x, h1, h2, h3⟩
          rcases (more x).mp h1 with h | rfl
          · exact ⟨x, h, h2, h3⟩
          · rw [pd] at h2; cases h2
    · rintro G ⟨sG, Sx, ds, hD, nd, lt, mem⟩
      rw [List.length_map, rl, List.take_length] at mem
      have dl : ds.length ≤ 13 := nodup_lenF 13 ds nd fun d hd => (lt d hd).1
      refine ⟨D, Sx, ds.length, rfl, hD, by omega, fun ns lp asc mem' len np => ?_⟩
      refine ⟨lp, _, rfl, .inl ⟨SqL.of upd_same, fun r nr => ?_⟩⟩
      have s1 := same_upd (o := HO.lst (ns.map V.int)) np
      have s2 := same_upd (o := HO.tup (ns.map V.int)) nr
      have s12 := sG.trans s1
      exact q _ r ns (s12.trans s2) (s12.free nr) ⟨asc, fun k => (mem' k).trans (mem k)⟩ (by omega) upd_same
end
end Ov

namespace Ov
open PySem PySem.Spec PyProof.Rows L2
theorem fmax_ge : ∀ (l : List Nat) (a : Nat), a ≤ l.foldl max a ∧ ∀ x ∈ l, x ≤ l.foldl max a
  | [], a => ⟨Nat.le_refl _, fun _ h => nomatch h⟩
  | b :: l, a => by
    obtain ⟨h1, h2⟩ := fmax_ge l (max a b)
    refine ⟨Nat.le_trans (Nat.le_max_left a b) h1, fun x hx => ?_⟩
    rcases List.mem_cons.mp hx with rfl | hx
    · exact Nat.le_trans (Nat.le_max_right a x) h1
    · exact h2 x hx
theorem fmax_le : ∀ (l : List Nat) (a m : Nat), a ≤ m → (∀ x ∈ l, x ≤ m) → l.foldl max a ≤ m
  | [], _, _, h, _ => h
  | b :: l, a, m, h, k => fmax_le l (max a b) m (Nat.max_le.mpr ⟨h, k b List.mem_cons_self⟩) fun x hx => k x (List.mem_cons_of_mem _ hx)
theorem lr_last {is : List I4} {ns : List Int} {n : Int} (pos : ∀ x ∈ is, 1 ≤ x.ln) (PL : PadL is (ns ++ [n])) : ((lrOf is : Nat) : Int) = n - 1 := by
  obtain ⟨x, hx, xp, xn⟩ := (PL.mem n).mp (List.mem_append_right _ List.mem_cons_self)
  have up : ∀ y ∈ is, y.pad = true → (y.ln : Int) ≤ n := fun y hy yp => by
    have hm := (PL.mem (y.ln : Int)).mpr ⟨y, hy, yp, rfl⟩
    rcases List.mem_append.mp hm with h | h
    · have := (List.pairwise_append.mp PL.asc).2.2 _ h n List.mem_cons_self
      omega
    · rw [List.mem_singleton.mp h]
      exact Int.le_refl _
  have x1 := pos x hx
  have g := (fmax_ge ((is.filter (·.pad)).map fun x => x.ln - 1) 0).2 (x.ln - 1) (List.mem_map.mpr ⟨x, List.mem_filter.mpr ⟨hx, xp⟩, rfl⟩)
  have l := fmax_le ((is.filter (·.pad)).map fun x => x.ln - 1) 0 (x.ln - 1) (Nat.zero_le _) fun z hz => by
    obtain ⟨y, hy, rfl⟩ := List.mem_map.mp hz
    obtain ⟨hy1, hy2⟩ := List.mem_filter.mp hy
    have := up y hy1 hy2
    omega
  have e : lrOf is = x.ln - 1 := Nat.le_antisymm l g
  rw [e]
  omega
theorem lr_none {is : List I4} (PL : PadL is []) : lrOf is = 0 := by
  have e : is.filter (·.pad) = [] := List.filter_eq_nil_iff.mpr fun x hx xp => by
    have := (PL.mem (x.ln : Int)).mpr ⟨x, hx, xp, rfl⟩
    cases this
  unfold lrOf
  rw [e]
  rfl
section
variable {P : Program} {w : World} {K : PySem.W.Frag} {mg : Str → Option Value} {base : Heap}
theorem scLRest : FnScope ["instruction_set", "lengths"] ["instruction_set"] (defScope s_longest_rest) := ⟨rfl, rfl, rfl, by decide +kernel, rfl, by decide +kernel, by decide +kernel⟩
end
end Ov

namespace Ov
open PySem PySem.Spec PyProof.Rows L2
abbrev sOpc : Stmt := inClass cInstructionSet 5
/-! ### opcode -/
def opV (is : List I4) : PyData → V
  | .str x => (valV (nameKV is) (Sum.inr x : Key)).getD .non
  | _ => .non
theorem op_hit {is : List I4} (nd : (is.map I4.nm).Nodup) {x : I4} (hx : x ∈ is) : opV is (.str (txt x.nm)) = .int (x.op : Int) := by
  show (valV (nameKV is) (Sum.inr (txt x.nm) : Key)).getD .non = _
  induction is with
  | nil => cases hx
  | cons y is ih =>
    rw [List.map_cons, List.nodup_cons] at nd
    have e : nameKV (y :: is) = ((Sum.inr (txt y.nm) : Key), V.int (y.op : Int)) :: nameKV is := rfl
    rw [e]
    rcases List.mem_cons.mp hx with rfl | hx
    · rw [valV_pos rfl]; rfl
    · rw [valV_neg, ih nd.2 hx]
      intro z
      have z1 : txt y.nm = txt x.nm := Sum.inr.inj z
      have z2 : y.nm = x.nm := by
        have := congrArg (fun s : Str => s.cps.toList) z1
        simpa [txt] using this
      exact nd.1 (by rw [z2]; exact List.mem_map.mpr ⟨x, hx, rfl⟩)
theorem op_miss {is : List I4} {z : Str} (h : ∀ x ∈ is, txt x.nm ≠ z) : opV is (.str z) = .non := by
  show (valV (nameKV is) (Sum.inr z : Key)).getD .non = _
  induction is with
  | nil => rfl
  | cons y is ih =>
    have e : nameKV (y :: is) = ((Sum.inr (txt y.nm) : Key), V.int (y.op : Int)) :: nameKV is := rfl
    rw [e, valV_neg (fun y' => h y List.mem_cons_self (Sum.inr.inj y')), ih fun x hx => h x (List.mem_cons_of_mem _ hx)]
section
variable {P : Program} {w : World} {K : PySem.W.Frag} {mg : Str → Option Value} {base : Heap}
def spOpc (K : PySem.W.Frag) (C : Addr) : Sp := fun vs H Q _ => ∃ (p it : Addr) (cnt : Nat) (is : List I4) (v : V) (d : PyData), vs = [.ref p, v] ∧ SetAt C H p cnt it is ∧ Dx K H v d ∧ Q (opV is d) H
theorem scOpc : FnScope ["self", "name"] ["self", "name"] (defScope sOpc) := ⟨rfl, rfl, rfl, by decide +kernel, rfl, by decide +kernel, by decide +kernel⟩
theorem ok_opc {f C : Addr} {fd : FuncData} {k : Nat} (F : Fun K "opcode" "InstructionSet.opcode" sOpc f fd) (T : Bi mg) (S : SetTxt K mg C) : FnOk P w K mg base CX0 (k + 1) f fd ["self", "name"] (spOpc K C) := by
  refine F.ok scOpc (fun vs H Q E h => ?_) (fun cdv A' outer s H vs Q E hr h => ?_)
  · obtain ⟨p, it, cnt, is, v, d, rfl, _⟩ := h
    rfl
  · obtain ⟨p, it, cnt, is, v, d, rfl, SA, D, q⟩ := h
    refine ⟨_, pss_cons (ps_if (pt_not (pt_val (pe_callB call_isi (by rfl) T.isi (by decide +kernel) (pa_cons (pv 1) (pa_cons (pe_bltn (v := .ty "str") (u := .type "str") (by rfl) T.str (by decide +kernel) rfl) pa_nil))))) (pss_one (ps_ret pe_non)) pss_nil)
      (pss_one (ps_ret (pe_dget1 (hu_of hr) (pe_fld (pv 0) rfl) (pv 1) ⟨rfl, rfl, rfl, rfl⟩))), ?_⟩
    refine ⟨_, rfl, _, _, _, _, _, rfl, .ty _, D.ty, kit_ty (kit_s d), _, rfl, ?_⟩
    obtain ⟨dx, d1, d2, hp, h1, h2⟩ := SA.ob
    cases D with
    | non => exact iteT q
    | bl b => exact iteT q
    | int i => exact iteT q
    | dct h => exact iteT q
    | lst h a => exact iteT q
    | tup h a => exact iteT q
    | str x => exact iteF ⟨_, rfl, p, C, dx, _, _, rfl, hp, S.cl, S.nO, flds_nms _ _ _ _, d2, rfl, .inl ⟨_, .inl h2⟩, _, rfl, _, DGet.k (k := Sum.inr x) h2, q⟩
end
theorem no_methO (cnt : Nat) (it d1 d2 : Addr) : (flds cnt it d1 d2).lookup ("opcode" : Str) = none := by
  unfold flds
  rw [lookup_putF, if_neg (by decide +kernel), lookup_putF, if_neg (by decide +kernel), lookup_putF, if_neg (by decide +kernel), lookup_putF, if_neg (by decide +kernel)]
  rfl
end Ov
namespace Ov
open PySem PySem.Spec PyProof.Rows L2
section
variable {P : Program} {w : World} {K : PySem.W.Frag} {mg : Str → Option Value} {base : Heap}
/-! ### is_code -/
def isCode (cnt : Nat) : PyData → Bool
  | .tuple ds => ds.all (btw 0 ((cnt : Int) - 1))
  | _ => false
def spIsCode (K : PySem.W.Frag) (C : Addr) : Sp := fun vs H Q _ => ∃ (p it : Addr) (cnt : Nat) (is : List I4) (v : V) (d : PyData), vs = [.ref p, v] ∧ SetAt C H p cnt it is ∧ Dx K H v d ∧ (∀ ds, d = .tuple ds → ds.length ≤ 1000) ∧ ∀ H', Same H H' → Q (.bl (isCode cnt d)) H'
end
end Ov

namespace Ov
open PySem PySem.Spec PyProof.Rows L2
/-! ### longest_rest -/
theorem no_methP (cnt : Nat) (it d1 d2 : Addr) : (flds cnt it d1 d2).lookup ("padding_lengths" : Str) = none := by
  unfold flds
  rw [lookup_putF, if_neg (by decide +kernel), lookup_putF, if_neg (by decide +kernel), lookup_putF, if_neg (by decide +kernel), lookup_putF, if_neg (by decide +kernel)]
  rfl
section
variable {P : Program} {w : World} {K : PySem.W.Frag} {mg : Str → Option Value} {base : Heap}
abbrev nLrest : List Str := ["instruction_set", "lengths"]
theorem scLrest : FnScope nLrest ["instruction_set"] (defScope s_longest_rest) := ⟨rfl, rfl, rfl, by decide +kernel, rfl, by decide +kernel, by decide +kernel⟩
theorem ok_lrest {f C fIPl : Addr} {fd fdIPl : FuncData} {k : Nat} (F : Fun K "longest_rest" "longest_rest" s_longest_rest f fd) (T : Bi mg) (S : SetTxt K mg C) (MIPl : Meth K C "padding_lengths" fIPl) (bIPl : Binds K fdIPl ["self"] []) (GIPl : FnOk P w K mg base CX0 k fIPl fdIPl ["self"] (spPadLens C)) :
    FnOk P w K mg base CX0 (k + 1) f fd ["instruction_set"] (spLRest C) := by
  refine F.ok scLrest (fun vs H Q E h => ?_) (fun cdv A' outer s H vs Q E hr h => ?_)
  · obtain ⟨p, it, cnt, lg, is, rs, rfl, _⟩ := h
    rfl
  · obtain ⟨p, it, cnt, lg, is, rs, rfl, M, q⟩ := h
    refine ⟨_, pss_cons (ps_set (i := 1) scLrest.nd rfl (.inl rfl) (pe_meth0 (pv 0) S.cl MIPl GIPl hr bIPl .nil pass0))
      (pss_one (ps_ret (pe_ifExp (pt_cmpR op_gt (pe_callB call_len_seq (by rfl) T.len PySem.boot_len (pa_cons (pv 1) pa_nil)) pe_int (nomark _)) (pe_op op_sub (pe_ix ix_tup (pv 1) (pe_un un_neg pe_int) (fun _ _ => rfl)) pe_int) pe_int))), ?_⟩
    have pos : ∀ x ∈ is, 1 ≤ x.ln := fun x hx => (M.ok.len x hx).1
    obtain ⟨dx, d1, d2, hp, _⟩ := M.at_.ob
    refine ⟨_, rfl, p, dx, _, rfl, hp, no_methP _ _ _ _, p, it, cnt, lg, is, rs, rfl, M, fun H2 r2 ns s2 nr2 PL few hr2 => ?_⟩
    refine ⟨_, rfl, r2, _, rfl, .inr (SqT.of hr2), _, _, rfl, rfl, _, rfl, ?_⟩
    rw [List.length_map]
    rcases List.eq_nil_or_concat ns with e0 | ⟨mr, z, e0⟩
    · subst e0
      rw [decide_eq_false (show ¬ ((0 : Int) < (([] : List Int).length : Int)) by decide)]
      have z := q H2 s2
      rw [lr_none PL] at z
      exact iteF z
    · rw [List.concat_eq_append] at e0
      subst e0
      rw [decide_eq_true (show (0 : Int) < ((mr ++ [z]).length : Int) by rw [List.length_append, List.length_singleton]; omega)]
      have hz := q H2 s2
      rw [lr_last pos PL] at hz
      rw [List.map_append] at hr2
      exact iteT ⟨_, rfl, _, rfl, r2, _, _, _, rfl, rfl, SqT.of hr2, atI_last _ _, _, _, rfl, rfl, hz⟩
/-! ### is_overlay -/
/-- what a decoder from e finds, told by the code alone -/
def foundAt (is : List I4) (bs : List Int) (e : Nat) : Option (List PStep) := if cdEnd (laOf is) (some e) bs = some 0 then some (stepsOf is bs (stF (laOf is) 0 (some e) bs)) else none
theorem found_at {is : List I4} {bs : List Int} {e : Nat} {begun : List Nat} {fol : Nat} (en : Ended (laOf is) bs e begun fol) : foundOf is bs begun fol = foundAt is bs e := by
  unfold foundOf foundAt
  rw [en.cd, en.st]
  by_cases h : fol = bs.length
  · subst h
    rw [if_pos rfl, if_neg (Nat.lt_irrefl _), Nat.sub_self, if_pos rfl]
  · rw [if_neg h]
    by_cases h2 : fol < bs.length
    · rw [if_pos h2, if_neg (fun z => nomatch z)]
    · rw [if_neg h2, if_neg (fun z => by have := Option.some.inj z; omega)]
def ovB (is : List I4) (bs : List Int) (pss : List (List PStep)) (gs : List Nat) : Bool := decide (gs.getLast?.getD 0 ≤ bs.length) && (gs.zip pss).all fun q => fits (foundAt is bs q.1) q.2
def intD : PyData → Int
  | .int i => i
  | _ => 0
def bsD : PyData → List Int
  | .tuple ds => ds.map intD
  | _ => []
def isOvD (cnt : Nat) (is : List I4) (pss : List (List PStep)) (gs : List Nat) (d : PyData) : Bool := isCode cnt d && ovB is (bsD d) pss gs
theorem code_ints {cnt : Nat} {d : PyData} (h : isCode cnt d = true) : d = .tuple ((bsD d).map PyData.int) ∧ ∀ b ∈ bsD d, 0 ≤ b ∧ b < (cnt : Int) := by
  cases d with
  | tuple ds =>
    have h' : ∀ x ∈ ds, btw 0 ((cnt : Int) - 1) x = true := List.all_eq_true.mp h
    have one : ∀ x ∈ ds, PyData.int (intD x) = x ∧ 0 ≤ intD x ∧ intD x < (cnt : Int) := fun x hx => by
      have z := h' x hx
      cases x with
      | int i =>
        have z' := Bool.and_eq_true_iff.mp z
        have a := of_decide_eq_true z'.1
        have b := of_decide_eq_true z'.2
        exact ⟨rfl, a, by show i < _; omega⟩
      | _ => cases z
    refine ⟨?_, fun b hb => ?_⟩
    · show PyData.tuple ds = .tuple ((ds.map intD).map PyData.int)
      rw [List.map_map]
      congr 1
      exact (List.map_id ds).symm.trans (List.map_congr_left fun x hx => (one x hx).1.symm)
    · obtain ⟨x, hx, rfl⟩ := List.mem_map.mp hb
      exact (one x hx).2
  | _ => cases h
theorem ents_le {gs : List Nat} (oe : Ents gs) {z : Nat} (hz : gs.getLast? = some z) : ∀ g ∈ gs, g ≤ z := fun g hg => by
  obtain ⟨gr, rfl⟩ : ∃ gr, gs = gr ++ [z] := by
    rcases List.eq_nil_or_concat gs with e | ⟨gr, y, e⟩
    · rw [e] at hz; cases hz
    · rw [List.concat_eq_append] at e
      rw [e] at hz
      simp at hz
      exact ⟨gr, by rw [e, hz]⟩
  rcases List.mem_append.mp hg with h | h
  · have a := oe.asc
    rw [List.map_append] at a
    have := (List.pairwise_append.mp a).2.2 (g : Int) (List.mem_map.mpr ⟨g, h, rfl⟩) (z : Int) (by simp)
    omega
  · rw [List.mem_singleton.mp h]; exact Nat.le_refl _
def spIsOv (K : PySem.W.Frag) (C : Addr) : Sp := fun vs H Q _ => ∃ (p it l g : Addr) (cnt lg : Nat) (is : List I4) (rs : List Addr) (xs : List V) (pss : List (List PStep)) (gs : List Nat) (v : V) (d : PyData), vs = [.ref p, .ref l, .ref g, v] ∧ Mach C H p cnt lg it is rs ∧ SqT K H l xs ∧ DxAll K H xs (pss.map planD) ∧ Plns cnt is pss ∧ SqT K H g (entV gs) ∧ Ents gs ∧ gs.length = pss.length ∧ (∀ ps ∈ pss, dcnt is ps ≤ 1000) ∧ stcN is pss gs ≤ 5000 ∧
  Dx K H v d ∧ (∀ ds, d = .tuple ds → ds.length ≤ 1000) ∧ ∀ H', Same H H' → Q (.bl (isOvD cnt is pss gs d)) H'
abbrev nIsOv : List Str := ["instruction_set", "programs", "entries", "value", "entry", "program"]
end
end Ov
namespace Ov
open PySem PySem.Spec PyProof.Rows L2
def rLen (K : PySem.W.Frag) : List V → Hp → VK → Prop := fun args G R => ∃ a items, args = [.ref a] ∧ (SqL K G a items ∨ SqT K G a items) ∧ R (.int items.length) G
theorem cr_len {X : Cx} : CallR X (.builtin "len") (rLen X.K) := call_len_seq
end Ov

namespace Ov
open PySem PySem.Spec PyProof.Rows L2
/-! ### the world of a law: a part that stands (T), lists that change (M), the box at p with what is left to be drawn (f) -/
def Chg : HO → Prop
  | .lst _ => True
  | .dK _ => True
  | .dT _ => True
  | .set _ _ => True
  | .ins _ _ _ => True
  | .own _ => True
  | _ => False
structure Wd (p : Addr) (T M H : Hp) (f : Nat) : Prop where
  th : Same T H
  mh : Same M H
  dis : ∀ b, M b ≠ none → T b = none
  nt : ∀ b u, M b = some u → Chg u
  tp : T p = none
  mp : M p = none
  box : ∃ n, BoxAt H p n ∧ n + f ≤ 2 ^ 37
/-- all of a heap but the box and what changes -/
def rest (p : Addr) (M H : Hp) : Hp := fun b => if b = p then none else match M b with
  | some _ => none
  | none => H b
section
variable {p : Addr} {T T' M H H' : Hp} {f : Nat} {L : Addr} {o : HO}
theorem Wd.mono (W : Wd p T M H f) {f' : Nat} (h : f' ≤ f) : Wd p T M H f' := { W with box := by obtain ⟨n, B, l⟩ := W.box; exact ⟨n, B, by omega⟩ }
theorem Wd.pne (W : Wd p T M H f) : H p ≠ none := by obtain ⟨n, B, _⟩ := W.box; exact B.ne
theorem Wd.free (W : Wd p T M H f) {a : Addr} (n : H a = none) : T a = none ∧ M a = none ∧ a ≠ p := ⟨W.th.free n, W.mh.free n, fun z => W.pne (z ▸ n)⟩
theorem Wd.put (W : Wd p T M H f) {a : Addr} (o : HO) (n : H a = none) : Wd p (upd T a o) M (upd H a o) f := by
  obtain ⟨t0, m0, ap⟩ := W.free n
  refine ⟨fun b x e => ?_, W.mh.trans (same_upd n), fun b e => ?_, W.nt, by rw [upd_ne (Ne.symm ap)]; exact W.tp, W.mp, ?_⟩
  · by_cases h : b = a
    · subst h; rw [upd_same] at e ⊢; exact e
    · rw [upd_ne h] at e ⊢; exact W.th _ _ e
  · rw [upd_ne (show b ≠ a from fun z => e (by rw [z]; exact m0))]; exact W.dis b e
  · obtain ⟨k, B, l⟩ := W.box
    exact ⟨k, B.same (same_upd n), l⟩
theorem Wd.putT (W : Wd p T M H f) {a : Addr} (o : HO) (n : H a = none) : Same T (upd T a o) := same_upd (W.free n).1
theorem Wd.newM (W : Wd p T M H f) {L : Addr} (o : HO) (n : H L = none) (ho : Chg o) : Wd p T (upd M L o) (upd H L o) f := by
  obtain ⟨t0, m0, ap⟩ := W.free n
  refine ⟨W.th.trans (same_upd n), fun b x e => ?_, fun b e => ?_, fun b xs e => ?_, W.tp, by rw [upd_ne (Ne.symm ap)]; exact W.mp, ?_⟩
  · by_cases h : b = L
    · subst h; rw [upd_same] at e ⊢; exact e
    · rw [upd_ne h] at e ⊢; exact W.mh _ _ e
  · by_cases h : b = L
    · subst h; exact t0
    · rw [upd_ne h] at e; exact W.dis b e
  · by_cases h : b = L
    · subst h; rw [upd_same] at e; cases e; exact ho
    · rw [upd_ne h] at e; exact W.nt b xs e
  · obtain ⟨k, B, l⟩ := W.box
    exact ⟨k, B.same (same_upd n), l⟩
theorem Wd.setM (W : Wd p T M H f) {L : Addr} (o : HO) (n : M L ≠ none) (ho : Chg o) : Wd p T (upd M L o) (upd H L o) f := by
  have t0 := W.dis L n
  have ap : L ≠ p := fun z => n (z ▸ W.mp)
  refine ⟨fun b x e => ?_, fun b x e => ?_, fun b e => ?_, fun b xs e => ?_, W.tp, by rw [upd_ne (Ne.symm ap)]; exact W.mp, ?_⟩
  · rw [upd_ne (ne_of_none e t0)]; exact W.th _ _ e
  · by_cases h : b = L
    · subst h; rw [upd_same] at e ⊢; exact e
    · rw [upd_ne h] at e ⊢; exact W.mh _ _ e
  · by_cases h : b = L
    · subst h; exact t0
    · rw [upd_ne h] at e; exact W.dis b e
  · by_cases h : b = L
    · subst h; rw [upd_same] at e; cases e; exact ho
    · rw [upd_ne h] at e; exact W.nt b xs e
  · obtain ⟨k, ⟨a, b, c, e, r⟩, l⟩ := W.box
    exact ⟨k, ⟨a, b, c, by rw [upd_ne (Ne.symm ap)]; exact e, r⟩, l⟩
theorem Wd.setL (W : Wd p T (upd M L o) H f) (o' : HO) (ho : Chg o') : Wd p T (upd M L o') (upd H L o') f := by
  have z := W.setM (L := L) o' (by rw [upd_same]; exact fun z => nomatch z) ho
  rwa [upd_upd] at z
theorem Wd.at (W : Wd p T (upd M L o) H f) : H L = some o := W.mh _ _ upd_same
theorem Wd.less (W : Wd p T M H f) {M' : Hp} (s : Same M' M) : Wd p T M' H f :=
  ⟨W.th, fun b o e => W.mh _ _ (s _ _ e), fun b e => W.dis b (fun z => by
    cases h : M' b with
    | none => exact e h
    | some o => rw [s _ _ h] at z; cases z), fun b xs e => W.nt b xs (s _ _ e), W.tp, s.free W.mp, W.box⟩
theorem Wd.drop (W : Wd p T (upd M L o) H f) (n : M L = none) : Wd p T M H f := W.less (same_upd n)
theorem Wd.freeze (W : Wd p T (upd M L o) H f) (n : M L = none) : Wd p (upd T L o) M H f := by
  have t0 := W.dis L (by rw [upd_same]; exact fun z => nomatch z)
  have lp : p ≠ L := fun z => by have := W.mp; rw [z, upd_same] at this; cases this
  have W2 := W.drop n
  refine ⟨fun b x e => ?_, W2.mh, fun b e => ?_, W2.nt, by rw [upd_ne lp]; exact W.tp, W2.mp, W.box⟩
  · by_cases h : b = L
    · subst h; rw [upd_same] at e; cases e; exact W.at
    · rw [upd_ne h] at e; exact W.th _ _ e
  · rw [upd_ne (show b ≠ L from fun z => e (by rw [z]; exact n))]; exact W2.dis b e
theorem Wd.frT (W : Wd p T (upd M L o) H f) : Same T (upd T L o) := same_upd (W.dis L (by rw [upd_same]; exact fun z => nomatch z))
theorem Wd.pure (W : Wd p T M H f) (s : Same H H') : Wd p T M H' f := ⟨W.th.trans s, W.mh.trans s, W.dis, W.nt, W.tp, W.mp, by obtain ⟨n, B, l⟩ := W.box; exact ⟨n, B.same s, l⟩⟩
theorem rest_same : Same (rest p M H) H := fun b o e => by
  unfold rest at e
  by_cases h : b = p
  · rw [if_pos h] at e; cases e
  · rw [if_neg h] at e
    cases q : M b with
    | some x => rw [q] at e; cases e
    | none => rw [q] at e; exact e
theorem Wd.restT (W : Wd p T M H f) : Same T (rest p M H) := fun b o e => by
  unfold rest
  rw [if_neg (ne_of_none e W.tp)]
  cases q : M b with
  | some x => rw [W.dis b (by rw [q]; exact fun z => nomatch z)] at e; cases e
  | none => exact W.th _ _ e
theorem Wd.rest (W : Wd p T M H f) : Wd p (rest p M H) M H f := ⟨rest_same, W.mh, (fun b e => by
    unfold Ov.rest
    by_cases h : b = p
    · rw [if_pos h]
    · rw [if_neg h]
      cases q : M b with
      | some x => rfl
      | none => exact absurd q e), W.nt, by unfold Ov.rest; rw [if_pos rfl], W.mp, W.box⟩
theorem Wd.tup (W : Wd p T M H f) {a : Addr} {xs : List V} (h : H a = some (.tup xs)) : Ov.rest p M H a = some (.tup xs) := by
  unfold Ov.rest
  rw [if_neg (fun z => by obtain ⟨n, ⟨_, _, _, e, _⟩, _⟩ := W.box; rw [z, e] at h; cases h)]
  cases q : M a with
  | some x => have := W.mh _ _ q; rw [h] at this; cases this; exact (W.nt a _ q).elim
  | none => exact h
theorem Wd.sqT (W : Wd p T M H f) {K : PySem.W.Frag} {a : Addr} {xs : List V} (h : SqT K H a xs) : SqT K (Ov.rest p M H) a xs := by
  rcases h with (h | ⟨o, h⟩) | h
  · exact .inl (.inl (W.tup h))
  · refine .inl (.inr ⟨o, ?_⟩)
    unfold Ov.rest
    rw [if_neg (fun z => by obtain ⟨n, ⟨_, _, _, e, _⟩, _⟩ := W.box; rw [z, e] at h; cases h)]
    cases q : M a with
    | some x => have := W.mh _ _ q; rw [h] at this; cases this; exact (W.nt a _ q).elim
    | none => exact h
  · exact .inr h
/-- a number is drawn -/
theorem Wd.take (W : Wd p T M H (f + 1)) {m : Int} {Q : VK} (m0 : 0 < m) (m1 : m < 2 ^ 200) (k : ∀ H' d, Wd p T M H' f → 0 ≤ d → d < m → (∀ b, H b = none → H' b = none) → Q (.int d) H') : spTake [.ref p, .int m] H Q E0 := by
  obtain ⟨n, B, l⟩ := W.box
  refine ⟨p, m, n, rfl, B, by omega, m0, m1, fun H' d b B' d0 d1 fr => k H' d ⟨fun c o e => b _ _ (W.th _ _ e) (ne_of_none e W.tp), fun c o e => b _ _ (W.mh _ _ e) (ne_of_none e W.mp), W.dis, W.nt, W.tp, W.mp, n + 1, B', by omega⟩ d0 d1 fr⟩
theorem Wd.tk (W : Wd p T M H (f + 1)) : ∃ n, BoxAt H p n ∧ n ≤ 2 ^ 37 ∧ ∀ {H'}, But p H H' → BoxAt H' p (n + 1) → Wd p T M H' f := by
  obtain ⟨n, B, l⟩ := W.box
  exact ⟨n, B, by omega, fun b B' => ⟨fun c o e => b _ _ (W.th _ _ e) (ne_of_none e W.tp), fun c o e => b _ _ (W.mh _ _ e) (ne_of_none e W.mp), W.dis, W.nt, W.tp, W.mp, n + 1, B', by omega⟩⟩
/-- one of a list -/
theorem Wd.of_ (W : Wd p T M H (f + 1)) {l : Addr} {xs : List V} {Q : VK} (hl : T l = some (.lst xs)) (l0 : 0 < xs.length) (l1 : xs.length ≤ 1000) (k : ∀ H' v, v ∈ xs → Wd p T M H' f → Q v H') : spOf [.ref p, .ref l] H Q E0 := by
  obtain ⟨n, B, le⟩ := W.box
  refine ⟨p, l, n, xs, rfl, B, by omega, W.th _ _ hl, ne_of_none hl W.tp, l0, l1, fun H' v hv b B' fr => k H' v hv ⟨fun c o e => b _ _ (W.th _ _ e) (ne_of_none e W.tp), fun c o e => b _ _ (W.mh _ _ e) (ne_of_none e W.mp), W.dis, W.nt, W.tp, W.mp, n + 1, B', by omega⟩⟩
theorem Wd.gb (W : Wd p T M H f) {n f' : Nat} (g : GB p T H T' H') (B : BoxAt H' p n) (l : n + f' ≤ 2 ^ 37) : Wd p T' M H' f' :=
  ⟨g.th, fun c o e => g.hh _ _ (W.mh _ _ e) (ne_of_none e W.mp), fun b e => g.new b (W.dis b e) (fun z => by
    cases q : M b with
    | none => exact e q
    | some x => rw [W.mh _ _ q] at z; cases z), W.nt, g.new p W.tp W.pne, W.mp, n, B, l⟩
end
end Ov

namespace Ov
open PySem PySem.Spec PyProof.Rows L2
/-! ### what expressions give in the world of a law; c: how much is drawn -/
def Ev (p : Addr) (M : Hp) (c : Nat) (t : TE) (σ : L2.St) (T : Hp) (R : Hp → V → Prop) : Prop :=
  ∀ T1 H f Q, Same T T1 → Wd p T1 M H (f + c) → (∀ T' H' v, Same T1 T' → Wd p T' M H' f → R T' v → Q v H') → t σ H Q
def EvA (p : Addr) (M : Hp) (c : Nat) (t : TA) (σ : L2.St) (T : Hp) (R : Hp → List V → Prop) : Prop :=
  ∀ T1 H f Q, Same T T1 → Wd p T1 M H (f + c) → (∀ T' H' v, Same T1 T' → Wd p T' M H' f → R T' v → Q v H') → t σ H Q
def EvO (p : Addr) (M : Hp) (c : Nat) (t : TO) (σ : L2.St) (T : Hp) (o : Option Int) : Prop :=
  ∀ T1 H f Q, Same T T1 → Wd p T1 M H (f + c) → (∀ T' H', Same T1 T' → Wd p T' M H' f → Q o H') → t σ H Q
def Mon {α : Type} (R : Hp → α → Prop) : Prop := ∀ T T' v, Same T T' → R T v → R T' v
abbrev IsV (v0 : V) : Hp → V → Prop := fun _ v => v = v0
abbrev IntV (lo hi : Int) : Hp → V → Prop := fun _ v => ∃ d : Int, v = .int d ∧ lo ≤ d ∧ d < hi
abbrev TupV (K : PySem.W.Frag) (xs : List V) : Hp → V → Prop := fun T v => ∃ a, v = .ref a ∧ SqT K T a xs
abbrev BytV (K : PySem.W.Frag) (cnt : Int) (m : Nat) : Hp → V → Prop := fun T v => ∃ (a : Addr) (bs : List Int), v = .ref a ∧ SqT K T a (bs.map V.int) ∧ bs.length ≤ m ∧ ∀ b ∈ bs, 0 ≤ b ∧ b < cnt
abbrev DxV (K : PySem.W.Frag) (d : PyData) : Hp → V → Prop := fun T v => Dx K T v d
abbrev LstV (P : Hp → List V → Prop) : Hp → V → Prop := fun T v => ∃ a xs, v = .ref a ∧ T a = some (.lst xs) ∧ P T xs
section
variable {K : PySem.W.Frag} {p : Addr} {T T' M H H' : Hp} {σ : L2.St} {c c1 c2 : Nat} {ta tb te : TE} {R R1 R2 : Hp → V → Prop}
theorem mon_is (v : V) : Mon (IsV v) := fun _ _ _ _ h => h
theorem mon_int (a b : Int) : Mon (IntV a b) := fun _ _ _ _ h => h
theorem mon_tup (xs : List V) : Mon (TupV K xs) := fun _ _ _ s h => by obtain ⟨a, e, h⟩ := h; exact ⟨a, e, s.tup h⟩
theorem mon_byt (cnt : Int) (m : Nat) : Mon (BytV K cnt m) := fun _ _ _ s h => by obtain ⟨a, bs, e, h, r⟩ := h; exact ⟨a, bs, e, s.tup h, r⟩
theorem mon_dx (d : PyData) : Mon (DxV K d) := fun _ _ _ s h => Dx.same s h
theorem mon_lst {P : Hp → List V → Prop} (m : Mon P) : Mon (LstV P) := fun _ _ _ s h => by obtain ⟨a, xs, e, h, r⟩ := h; exact ⟨a, xs, e, s _ _ h, m _ _ _ s r⟩
theorem Ev.imp (e : Ev p M c te σ T R1) (h : ∀ T' v, Same T T' → R1 T' v → R T' v) : Ev p M c te σ T R := fun T1 H f Q s W k => e T1 H f Q s W fun T' H' v s' W' r => k T' H' v s' W' (h T' v (s.trans s') r)
theorem Ev.mono (e : Ev p M c1 te σ T R) (h : c1 ≤ c) : Ev p M c te σ T R := fun T1 H f Q s W k => e T1 H (f + (c - c1)) Q s (W.mono (by omega)) fun T' H' v s' W' r => k T' H' v s' (W'.mono (by omega)) r
theorem ev_var {i : Nat} {v : V} (h : σ[i]? = some (some v)) (r : ∀ T', Same T T' → R T' v) : Ev p M 0 (tVar i) σ T R := fun T1 H f Q s W k => ⟨v, h, k T1 H v (Same.refl _) W (r T1 s)⟩
theorem ev_is {i : Nat} {v : V} (h : σ[i]? = some (some v)) : Ev p M 0 (tVar i) σ T (IsV v) := ev_var h fun _ _ => rfl
theorem ev_c (v : V) : Ev p M 0 (tC v) σ T (IsV v) := fun T1 H f Q s W k => k T1 H v (Same.refl _) W rfl
theorem Ev.two {r : V → V → Hp → VK → Prop} (e1 : Ev p M c1 ta σ T R1) (m1 : Mon R1) (e2 : Ev p M c2 tb σ T R2)
    (h : ∀ T1 H f v w Q, Same T T1 → Wd p T1 M H f → R1 T1 v → R2 T1 w → (∀ T' H' z, Same T1 T' → Wd p T' M H' f → R T' z → Q z H') → r v w H Q) : Ev p M (c1 + c2) (tOp r ta tb) σ T R := fun T1 H f Q s W k =>
  e1 T1 H (f + c2) _ s (W.mono (by omega)) fun T2 H2 v s2 W2 r1 => e2 T2 H2 f _ (s.trans s2) W2 fun T3 H3 w s3 W3 r2 => h T3 H3 f v w Q (s.trans (s2.trans s3)) W3 (m1 _ _ _ s3 r1) r2 fun T4 H4 z s4 W4 r4 => k T4 H4 z (s2.trans (s3.trans s4)) W4 r4
theorem ev_ints {g : Int → Int → V} {i j : Int} (e1 : Ev p M c1 ta σ T (IsV (.int i))) (e2 : Ev p M c2 tb σ T (IsV (.int j))) : Ev p M (c1 + c2) (tOp (rI0 g) ta tb) σ T (IsV (g i j)) :=
  e1.two (mon_is _) e2 fun T1 H f v w Q s W h1 h2 k => ⟨i, j, h1, h2, k T1 H _ (Same.refl _) W rfl⟩
theorem ev_intsP {g : Int → Int → V} (e1 : Ev p M c1 ta σ T R1) (m1 : Mon R1) (e2 : Ev p M c2 tb σ T R2) (h : ∀ T' v w, R1 T' v → R2 T' w → ∃ i j, v = .int i ∧ w = .int j ∧ R T' (g i j)) : Ev p M (c1 + c2) (tOp (rI0 g) ta tb) σ T R :=
  e1.two m1 e2 fun T1 H f v w Q s W h1 h2 k => by
    obtain ⟨i, j, ei, ej, r⟩ := h T1 v w h1 h2
    exact ⟨i, j, ei, ej, k T1 H _ (Same.refl _) W r⟩
theorem ev_cat {xs ys : List V} (e1 : Ev p M c1 ta σ T (TupV K xs)) (e2 : Ev p M c2 tb σ T (TupV K ys)) (hl : xs.length + ys.length ≤ sizeLine) : Ev p M (c1 + c2) (tOp (rCatA K) ta tb) σ T (TupV K (xs ++ ys)) :=
  e1.two (mon_tup _) e2 fun T1 H f v w Q s W h1 h2 k => by
    obtain ⟨a, rfl, ha⟩ := h1
    obtain ⟨b, rfl, hb⟩ := h2
    refine ⟨a, b, xs, ys, rfl, rfl, W.th.tup ha, W.th.tup hb, hl, fun e => ?_, fun _ e => ?_, fun _ _ q np => ?_⟩
    · subst e; exact k T1 H _ (Same.refl _) W ⟨b, rfl, hb⟩
    · subst e; exact k T1 H _ (Same.refl _) W ⟨a, rfl, by rw [List.append_nil]; exact ha⟩
    · exact k _ _ _ (W.putT _ np) (W.put _ np) ⟨q, rfl, SqT.of upd_same⟩
theorem ev_catB {cnt : Int} {m1 m2 : Nat} (e1 : Ev p M c1 ta σ T (BytV K cnt m1)) (e2 : Ev p M c2 tb σ T (BytV K cnt m2)) (hl : m1 + m2 ≤ 100000) : Ev p M (c1 + c2) (tOp (rCatA K) ta tb) σ T (BytV K cnt (m1 + m2)) :=
  e1.two (mon_byt _ _) e2 fun T1 H f v w Q s W h1 h2 k => by
    obtain ⟨a, xs, rfl, ha, lx, bx⟩ := h1
    obtain ⟨b, ys, rfl, hb, ly, bys⟩ := h2
    have res : ∀ {q : Addr} {T2 : Hp}, SqT K T2 q (xs.map V.int ++ ys.map V.int) → BytV K cnt (m1 + m2) T2 (.ref q) := fun {q T2} h => ⟨q, xs ++ ys, rfl, by rw [List.map_append]; exact h, by rw [List.length_append]; omega, fun z hz => (List.mem_append.mp hz).elim (bx z) (bys z)⟩
    refine ⟨a, b, _, _, rfl, rfl, W.th.tup ha, W.th.tup hb, by rw [List.length_map, List.length_map, sizeLine_eq]; omega, fun e => ?_, fun _ e => ?_, fun _ _ q np => ?_⟩
    · exact k T1 H _ (Same.refl _) W (res (by rw [e]; exact hb))
    · exact k T1 H _ (Same.refl _) W (res (by rw [e, List.append_nil]; exact ha))
    · exact k _ _ _ (W.putT _ np) (W.put _ np) (res (SqT.of upd_same))
theorem evo_none : EvO p M 0 tNoPart σ T none := fun T1 H f Q s W k => k T1 H (Same.refl _) W
theorem evo_some {i : Int} (e : Ev p M c te σ T (IsV (.int i))) : EvO p M c (tPart te) σ T (some i) := fun T1 H f Q s W k => e T1 H f _ s W fun T' H' v s' W' r => ⟨i, r, k T' H' s' W'⟩
theorem ev_sl {xs : List V} {lo hi : Option Int} {tl th : TO} {c3 : Nat} (e1 : Ev p M c1 te σ T (TupV K xs)) (e2 : EvO p M c2 tl σ T lo) (e3 : EvO p M c3 th σ T hi) : Ev p M (c1 + c2 + c3) (tSl (rSlA K) te tl th) σ T (TupV K (cutV xs lo hi)) := fun T1 H f Q s W k =>
  e1 T1 H (f + c3 + c2) _ s (W.mono (by omega)) fun T2 H2 v s2 W2 r2 => e2 T2 H2 (f + c3) _ (s.trans s2) W2 fun T3 H3 s3 W3 => e3 T3 H3 f _ (s.trans (s2.trans s3)) W3 fun T4 H4 s4 W4 => by
    obtain ⟨a, rfl, ha⟩ := r2
    have ha4 := (s3.trans s4).tup ha
    refine ⟨a, xs, rfl, W4.th.tup ha4, fun e => ?_, fun _ q np => ?_⟩
    · exact k _ _ _ (s2.trans (s3.trans s4)) W4 ⟨a, rfl, by rw [cut_all e]; exact ha4⟩
    · exact k _ _ _ ((s2.trans (s3.trans s4)).trans (W4.putT _ np)) (W4.put _ np) ⟨q, rfl, SqT.of upd_same⟩
theorem cut_intsW (ns : List Int) (lo hi : Option Int) : ∃ ms : List Int, cutV (ns.map V.int) lo hi = ms.map V.int ∧ ms.length ≤ ns.length ∧ ∀ x ∈ ms, x ∈ ns := by
  refine ⟨(ns.drop (HT.sIx (ns.map V.int).length 0 lo)).take (HT.sIx (ns.map V.int).length (ns.map V.int).length hi - HT.sIx (ns.map V.int).length 0 lo), ?_, ?_, ?_⟩
  · unfold cutV
    rw [List.map_take, List.map_drop]
  · rw [List.length_take, List.length_drop]
    omega
  · exact fun x hx => List.mem_of_mem_drop (List.mem_of_mem_take hx)
theorem ev_slB {cnt : Int} {m : Nat} {lo hi : Option Int} {tl th : TO} {c3 : Nat} (e1 : Ev p M c1 te σ T (BytV K cnt m)) (e2 : EvO p M c2 tl σ T lo) (e3 : EvO p M c3 th σ T hi) : Ev p M (c1 + c2 + c3) (tSl (rSlA K) te tl th) σ T (BytV K cnt m) := fun T1 H f Q s W k =>
  e1 T1 H (f + c3 + c2) _ s (W.mono (by omega)) fun T2 H2 v s2 W2 r2 => e2 T2 H2 (f + c3) _ (s.trans s2) W2 fun T3 H3 s3 W3 => e3 T3 H3 f _ (s.trans (s2.trans s3)) W3 fun T4 H4 s4 W4 => by
    obtain ⟨a, bs, rfl, ha, lb, bb⟩ := r2
    obtain ⟨ms, em, lm, im⟩ := cut_intsW bs lo hi
    have ha4 := (s3.trans s4).tup ha
    refine ⟨a, _, rfl, W4.th.tup ha4, fun e => ?_, fun _ q np => ?_⟩
    · exact k _ _ _ (s2.trans (s3.trans s4)) W4 ⟨a, bs, rfl, ha4, lb, bb⟩
    · exact k _ _ _ ((s2.trans (s3.trans s4)).trans (W4.putT _ np)) (W4.put _ np) ⟨q, ms, rfl, by rw [← em]; exact SqT.of upd_same, by omega, fun z hz => bb z (im z hz)⟩
theorem eva_nil : EvA p M 0 tNil σ T (fun _ vs => vs = []) := fun T1 H f Q s W k => k T1 H [] (Same.refl _) W rfl
theorem eva_cons {tr : TA} {Rs : Hp → List V → Prop} (e1 : Ev p M c1 ta σ T R1) (m1 : Mon R1) (e2 : EvA p M c2 tr σ T Rs) : EvA p M (c1 + c2) (tCons ta tr) σ T (fun T' vs => ∃ v vr, vs = v :: vr ∧ R1 T' v ∧ Rs T' vr) := fun T1 H f Q s W k =>
  e1 T1 H (f + c2) _ s (W.mono (by omega)) fun T2 H2 v s2 W2 r1 => e2 T2 H2 f _ (s.trans s2) W2 fun T3 H3 vr s3 W3 r2 => k T3 H3 _ (s2.trans s3) W3 ⟨v, vr, rfl, m1 _ _ _ s3 r1, r2⟩
/-- all of them R -/
abbrev AllV (R : Hp → V → Prop) (n : Nat) : Hp → List V → Prop := fun T vs => vs.length = n ∧ ∀ v ∈ vs, R T v
theorem mon_all (m : Mon R) (n : Nat) : Mon (AllV R n) := fun _ _ _ s h => ⟨h.1, fun v hv => m _ _ _ s (h.2 v hv)⟩
theorem eva_nil' : EvA p M 0 tNil σ T (AllV R 0) := fun T1 H f Q s W k => k T1 H [] (Same.refl _) W ⟨rfl, fun _ h => nomatch h⟩
theorem eva_all {tr : TA} {n : Nat} (m : Mon R) (e1 : Ev p M c1 ta σ T R) (e2 : EvA p M c2 tr σ T (AllV R n)) : EvA p M (c1 + c2) (tCons ta tr) σ T (AllV R (n + 1)) := fun T1 H f Q s W k =>
  e1 T1 H (f + c2) _ s (W.mono (by omega)) fun T2 H2 v s2 W2 r1 => e2 T2 H2 f _ (s.trans s2) W2 fun T3 H3 vr s3 W3 r2 => k T3 H3 _ (s2.trans s3) W3 ⟨by rw [List.length_cons, r2.1], fun u hu => by
    rcases List.mem_cons.mp hu with rfl | hu
    · exact m _ _ _ s3 r1
    · exact r2.2 u hu⟩
theorem ev_lst {t : TA} {P : Hp → List V → Prop} (m : Mon P) (e : EvA p M c t σ T P) (hl : ∀ T' vs, P T' vs → vs.length ≤ sizeLine) : Ev p M c (tLst t) σ T (LstV P) := fun T1 H f Q s W k =>
  e T1 H f _ s W fun T2 H2 vs s2 W2 r => ⟨hl _ _ r, fun q np => k _ _ _ (s2.trans (W2.putT _ np)) (W2.put _ np) ⟨q, vs, rfl, upd_same, m _ _ _ (W2.putT _ np) r⟩⟩
theorem ev_tup {t : TA} {P : Hp → List V → Prop} (m : Mon P) (e : EvA p M c t σ T P) (hl : ∀ T' vs, P T' vs → vs.length ≤ sizeLine) : Ev p M c (tTup t) σ T (fun T' v => ∃ a xs, v = .ref a ∧ T' a = some (.tup xs) ∧ P T' xs) := fun T1 H f Q s W k =>
  e T1 H f _ s W fun T2 H2 vs s2 W2 r => ⟨hl _ _ r, fun q np => k _ _ _ (s2.trans (W2.putT _ np)) (W2.put _ np) ⟨q, vs, rfl, upd_same, m _ _ _ (W2.putT _ np) r⟩⟩
theorem ev_tup1B {cnt : Int} (e : Ev p M c ta σ T (IntV 0 cnt)) : Ev p M (c + 0) (tTup (tCons ta tNil)) σ T (BytV K cnt 1) :=
  (ev_tup (P := fun T' vs => ∃ v vr, vs = v :: vr ∧ IntV 0 cnt T' v ∧ vr = []) (fun _ _ _ _ h => h) (eva_cons e (mon_int _ _) eva_nil) (fun T' vs h => by obtain ⟨v, vr, rfl, _, rfl⟩ := h; show 1 ≤ sizeLine; decide)).imp fun T' v s h => by
    obtain ⟨a, xs, rfl, ha, v, vr, rfl, ⟨d, rfl, d0, d1⟩, rfl⟩ := h
    exact ⟨a, [d], rfl, SqT.of ha, by simp, fun b hb => by rw [List.mem_singleton.mp hb]; exact ⟨d0, d1⟩⟩
theorem ev_take {m : Int} (e1 : Ev p M c1 ta σ T (IsV (.ref p))) (e2 : Ev p M c2 tb σ T (IsV (.int m))) (m0 : 0 < m) (m1 : m < 2 ^ 200) : Ev p M (c1 + c2 + 1) (tCall spTake [] E0 (tCons ta (tCons tb tNil))) σ T (IntV 0 m) := fun T1 H f Q s W k =>
  e1 T1 H (f + 1 + c2) _ s (W.mono (by omega)) fun T2 H2 v s2 W2 r1 => e2 T2 H2 (f + 1) _ (s.trans s2) W2 fun T3 H3 w s3 W3 r2 => by
    cases r1; cases r2
    show spTake [.ref p, .int m] H3 Q E0
    exact W3.take m0 m1 fun H4 d W4 d0 d1 _ => k T3 H4 _ (s2.trans s3) W4 ⟨d, rfl, d0, d1⟩
theorem ev_of {P : Hp → List V → Prop} (e1 : Ev p M c1 ta σ T (IsV (.ref p))) (e2 : Ev p M c2 tb σ T (LstV P)) (h : ∀ T' xs, Same T T' → P T' xs → 0 < xs.length ∧ xs.length ≤ 1000 ∧ ∀ v ∈ xs, R T' v) : Ev p M (c1 + c2 + 1) (tCall spOf [] E0 (tCons ta (tCons tb tNil))) σ T R := fun T1 H f Q s W k =>
  e1 T1 H (f + 1 + c2) _ s (W.mono (by omega)) fun T2 H2 v s2 W2 r1 => e2 T2 H2 (f + 1) _ (s.trans s2) W2 fun T3 H3 w s3 W3 r2 => by
    cases r1
    obtain ⟨a, xs, rfl, ha, r⟩ := r2
    obtain ⟨l0, l1, al⟩ := h T3 xs (s.trans (s2.trans s3)) r
    show spOf [.ref p, .ref a] H3 Q E0
    exact W3.of_ ha l0 l1 fun H4 d hd W4 => k T3 H4 _ (s2.trans s3) W4 (al d hd)
/-- lists joined -/
theorem ev_catL {P1 P2 P : Hp → List V → Prop} (e1 : Ev p M c1 ta σ T (LstV P1)) (m1 : Mon P1) (e2 : Ev p M c2 tb σ T (LstV P2)) (h : ∀ T' xs ys, P1 T' xs → P2 T' ys → P T' (xs ++ ys) ∧ xs.length + ys.length ≤ sizeLine) (m : Mon P) : Ev p M (c1 + c2) (tOp rCat ta tb) σ T (LstV P) :=
  e1.two (mon_lst m1) e2 fun T1 H f v w Q s W h1 h2 k => by
    obtain ⟨a, xs, rfl, ha, r1⟩ := h1
    obtain ⟨b, ys, rfl, hb, r2⟩ := h2
    obtain ⟨r, hl⟩ := h T1 xs ys r1 r2
    exact ⟨a, b, xs, ys, rfl, rfl, W.th _ _ ha, W.th _ _ hb, hl, fun q np => k _ _ _ (W.putT _ np) (W.put _ np) ⟨q, _, rfl, upd_same, m _ _ _ (W.putT _ np) r⟩⟩
theorem ev_ix {xs : List V} {j : Int} {v : V} (e1 : Ev p M c1 ta σ T (TupV K xs)) (e2 : Ev p M c2 tb σ T (IsV (.int j))) (h : atI xs j = some v) : Ev p M (c1 + c2) (tOp (rIxT K) ta tb) σ T (IsV v) :=
  e1.two (mon_tup _) e2 fun T1 H f u w Q s W h1 h2 k => by
    obtain ⟨a, rfl, ha⟩ := h1
    exact ⟨a, xs, j, v, rfl, h2, W.th.tup ha, h, k T1 H _ (Same.refl _) W rfl⟩
theorem ev_len {xs : List V} (e : Ev p M c te σ T (TupV K xs)) : Ev p M (c + 0) (tCB (fun args H Q => ∃ a ys, args = [V.ref a] ∧ (SqL K H a ys ∨ SqT K H a ys) ∧ Q (.int ys.length) H) (tCons te tNil)) σ T (IsV (.int xs.length)) := fun T1 H f Q s W k =>
  e T1 H f _ s W fun T2 H2 v s2 W2 r => by
    obtain ⟨a, rfl, ha⟩ := r
    exact ⟨a, xs, rfl, .inr (W2.th.tup ha), k _ _ _ s2 W2 rfl⟩
/-- tuple(list) of what stands -/
theorem ev_tupL {P : Hp → List V → Prop} (e : Ev p M c te σ T (LstV P)) (m : Mon P) : Ev p M (c + 0) (tCB (fun xs H Q => ∃ a ys, xs = [V.ref a] ∧ ((SqL K H a ys ∧ ∀ l, H l = none → Q (.ref l) (upd H l (.tup ys))) ∨ (SqT K H a ys ∧ Q (.ref a) H))) (tCons te tNil)) σ T (fun T' v => ∃ a xs, v = .ref a ∧ T' a = some (.tup xs) ∧ P T' xs) := fun T1 H f Q s W k =>
  e T1 H f _ s W fun T2 H2 v s2 W2 r => by
    obtain ⟨a, xs, rfl, ha, r⟩ := r
    exact ⟨a, xs, rfl, .inl ⟨SqL.of (W2.th _ _ ha), fun l nl => k _ _ _ (s2.trans (W2.putT _ nl)) (W2.put _ nl) ⟨l, xs, rfl, upd_same, m _ _ _ (W2.putT _ nl) r⟩⟩⟩
/-! ### statements -/
theorem st_set {i F : Nat} {D : Ends} {u : TS} (e : Ev p M c te σ T R) (W : Wd p T M H F) (k : ∀ T' H' v, Same T T' → Wd p T' M H' (F - c) → R T' v → u D (σ.set i (some v)) H') (hf : c ≤ F := by omega) : tSeq (tAsg te (gName i)) u D σ H :=
  e T H (F - c) _ (Same.refl _) (W.mono (by omega)) k
theorem st_par {i j F : Nat} {D : Ends} {u : TS} (e1 : Ev p M c1 ta σ T R1) (m1 : Mon R1) (e2 : Ev p M c2 tb σ T R2) (W : Wd p T M H F) (k : ∀ T' H' v w, Same T T' → Wd p T' M H' (F - (c1 + c2)) → R1 T' v → R2 T' w → u D ((σ.set i (some v)).set j (some w)) H') (hf : c1 + c2 ≤ F := by omega) : tSeq (tPar i j (tCons ta (tCons tb tNil))) u D σ H :=
  e1 T H (F - (c1 + c2) + c2) _ (Same.refl _) (W.mono (by omega)) fun T1 H1 v s1 W1 r1 => e2 T1 H1 (F - (c1 + c2)) _ s1 W1 fun T2 H2 w s2 W2 r2 => ⟨v, w, rfl, k T2 H2 v w (s1.trans s2) W2 (m1 _ _ _ s2 r1) r2⟩
theorem st_ret {F : Nat} {D : Ends} (e : Ev p M c te σ T R) (W : Wd p T M H F) (k : ∀ T' H' v, Same T T' → Wd p T' M H' (F - c) → R T' v → D.rt v H') (hf : c ≤ F := by omega) : tRet te D σ H :=
  e T H (F - c) _ (Same.refl _) (W.mono (by omega)) k
/-! ### comprehensions -/
theorem lcW_tup {a D : Addr} {xs : List V} {g : TG} {tt : TT} {te : TE} {vs : List Nat} {Qd : Hp → Prop} {F : Nat} (W : Wd p T M H F) (nD : H D = none) (ha : SqT K T a xs) (hx : xs.length ≤ 100000) (c : Nat) (P : Nat → Hp → List V → Prop) (p0 : P 0 T []) (hf : c * xs.length ≤ F)
    (hs : ∀ (i : Nat) (x : V) (T' H' : Hp) (acc : List V) (f : Nat) (N : V → Hp → Prop) (N0 : Hp → Prop), xs[i]? = some x → Same T T' → Wd p T' (upd M D (.lst acc)) H' (f + c) → P i T' acc →
      (∀ T2 H4 y, Same T' T2 → Wd p T2 (upd M D (.lst acc)) H4 f → P (i + 1) T2 (acc ++ [y]) → N y H4) → (∀ T2 H3, Same T' T2 → Wd p T2 (upd M D (.lst acc)) H3 f → P (i + 1) T2 acc → N0 H3) →
      g x (wipe σ vs) H' fun σ2 H2 => wipe σ2 vs = wipe σ vs ∧ tt σ2 H2 fun b H3 => if b = true then te σ2 H3 N else N0 H3)
    (hd : ∀ T' H' acc, Same T T' → Wd p T' (upd M D (.lst acc)) H' (F - c * xs.length) → P xs.length T' acc → acc.length ≤ xs.length → Qd H') :
    ∃ W : Nat → Nat → Hp → Prop, (∃ m, W 0 m (upd H D (.lst []))) ∧ ∀ i m H, W i m H →
      ((Itt K a).stop i H ∧ Qd H) ∨ ((Itt K a).go i H ∧ ∃ Nx : Hp → Prop, (∀ H', Nx H' → ∃ m', m' < m ∧ W (i + 1) m' H') ∧ ∀ x H', (Itt K a).yld i H x H' → g x (wipe σ vs) H' fun σ2 H2 => wipe σ2 vs = wipe σ vs ∧ tt σ2 H2 fun b H3 =>
        if b = true then te σ2 H3 fun y H4 => ∃ acc, H4 D = some (.lst acc) ∧ acc.length < sizeLine ∧ Nx (upd H4 D (.lst (acc ++ [y]))) else Nx H3) := by
  refine lc_tup (K := K) (a := a) (xs := xs) (fun i G => ∃ T' acc, Same T T' ∧ Wd p T' (upd M D (.lst acc)) G (F - c * i) ∧ P i T' acc ∧ acc.length ≤ i) ⟨T, [], Same.refl _, W.newM _ nD trivial, p0, Nat.le_refl _⟩ (fun i G _ ⟨T', acc, s, W', _⟩ => W'.th.tup (s.tup ha)) ?_ ?_
  · rintro i x G hi ⟨T', acc, s, W', pi, la⟩
    have il : i < xs.length := (List.getElem?_eq_some_iff.mp hi).1
    have e1 : c * i + c ≤ c * xs.length := by
      rw [← Nat.mul_succ]
      exact Nat.mul_le_mul_left c il
    have e2 : c * (i + 1) = c * i + c := Nat.mul_succ c i
    refine hs i x T' G acc (F - c * (i + 1)) _ _ hi s (W'.mono (by omega)) pi (fun T2 H4 y s2 W2 p2 => ⟨acc, W2.at, by rw [sizeLine_eq]; omega, T2, acc ++ [y], s.trans s2, W2.setL _ trivial, p2, by rw [List.length_append, List.length_singleton]; omega⟩) (fun T2 H3 s2 W2 p2 => ⟨T2, acc, s.trans s2, W2, p2, by omega⟩)
  · rintro G ⟨T', acc, s, W', pi, la⟩
    exact hd T' G acc s W' pi la
theorem lcW_range {D : Addr} {n : Nat} {lo : Int} {g : TG} {tt : TT} {te : TE} {vs : List Nat} {Qd : Hp → Prop} {F : Nat} (W : Wd p T M H F) (nD : H D = none) (hx : n ≤ 100000) (c : Nat) (P : Nat → Hp → List V → Prop) (p0 : P 0 T []) (hf : c * n ≤ F)
    (hs : ∀ (i : Nat) (T' H' : Hp) (acc : List V) (f : Nat) (N : V → Hp → Prop) (N0 : Hp → Prop), i < n → Same T T' → Wd p T' (upd M D (.lst acc)) H' (f + c) → P i T' acc →
      (∀ T2 H4 y, Same T' T2 → Wd p T2 (upd M D (.lst acc)) H4 f → P (i + 1) T2 (acc ++ [y]) → N y H4) → (∀ T2 H3, Same T' T2 → Wd p T2 (upd M D (.lst acc)) H3 f → P (i + 1) T2 acc → N0 H3) →
      g (.int (lo + i)) (wipe σ vs) H' fun σ2 H2 => wipe σ2 vs = wipe σ vs ∧ tt σ2 H2 fun b H3 => if b = true then te σ2 H3 N else N0 H3)
    (hd : ∀ T' H' acc, Same T T' → Wd p T' (upd M D (.lst acc)) H' (F - c * n) → P n T' acc → acc.length ≤ n → Qd H') :
    ∃ W : Nat → Nat → Hp → Prop, (∃ m, W 0 m (upd H D (.lst []))) ∧ ∀ i m H, W i m H →
      ((Itr lo n).stop i H ∧ Qd H) ∨ ((Itr lo n).go i H ∧ ∃ Nx : Hp → Prop, (∀ H', Nx H' → ∃ m', m' < m ∧ W (i + 1) m' H') ∧ ∀ x H', (Itr lo n).yld i H x H' → g x (wipe σ vs) H' fun σ2 H2 => wipe σ2 vs = wipe σ vs ∧ tt σ2 H2 fun b H3 =>
        if b = true then te σ2 H3 fun y H4 => ∃ acc, H4 D = some (.lst acc) ∧ acc.length < sizeLine ∧ Nx (upd H4 D (.lst (acc ++ [y]))) else Nx H3) := by
  refine lc_range (lo := lo) (n := n) (fun i G => ∃ T' acc, Same T T' ∧ Wd p T' (upd M D (.lst acc)) G (F - c * i) ∧ P i T' acc ∧ acc.length ≤ i) ⟨T, [], Same.refl _, W.newM _ nD trivial, p0, Nat.le_refl _⟩ ?_ ?_
  · rintro i G il ⟨T', acc, s, W', pi, la⟩
    have e1 : c * i + c ≤ c * n := by
      rw [← Nat.mul_succ]
      exact Nat.mul_le_mul_left c il
    have e2 : c * (i + 1) = c * i + c := Nat.mul_succ c i
    refine hs i T' G acc (F - c * (i + 1)) _ _ il s (W'.mono (by omega)) pi (fun T2 H4 y s2 W2 p2 => ⟨acc, W2.at, by rw [sizeLine_eq]; omega, T2, acc ++ [y], s.trans s2, W2.setL _ trivial, p2, by rw [List.length_append, List.length_singleton]; omega⟩) (fun T2 H3 s2 W2 p2 => ⟨T2, acc, s.trans s2, W2, p2, by omega⟩)
  · rintro G ⟨T', acc, s, W', pi, la⟩
    exact hd T' G acc s W' pi la
end
end Ov
namespace Ov
open PySem PySem.Spec PyProof.Rows L2
theorem la_hit {is : List I4} {b : Int} {i : Nat} (h : ∀ x ∈ is.take i, (x.op : Int) ≠ b) (hi : i < is.length) (e : ((is[i]).op : Int) = b) : laOf is b = (is[i]).ln := by
  unfold laOf
  have z : is.find? (fun x => decide ((x.op : Int) = b)) = some is[i] := by
    have sp : is = is.take i ++ is[i] :: is.drop (i + 1) := by rw [List.getElem_cons_drop, List.take_append_drop]
    generalize is[i] = y at *
    rw [sp, List.find?_append, List.find?_eq_none.mpr (fun x hx => by rw [decide_eq_true_eq]; exact h x hx), Option.none_or, List.find?_cons, decide_eq_true e]
  rw [z]
theorem la_miss {is : List I4} {b : Int} (h : ∀ x ∈ is, (x.op : Int) ≠ b) : laOf is b = 0 := by
  unfold laOf
  rw [List.find?_eq_none.mpr (fun x hx => by rw [decide_eq_true_eq]; exact h x hx)]
theorem But.tup {K : PySem.W.Frag} {H H' : Hp} {l d : Addr} {xs ys : List V} (b : But l H H') (hl : H l = some (.lst xs)) (h : SqT K H d ys) : SqT K H' d ys := by
  rcases h with (h | ⟨o, h⟩) | h
  · exact .inl (.inl (b _ _ h (fun z => by rw [z, hl] at h; cases h)))
  · exact .inl (.inr ⟨o, b _ _ h (fun z => by rw [z, hl] at h; cases h)⟩)
  · exact .inr h
section
variable {P : Program} {w : World} {K : PySem.W.Frag} {mg : Str → Option Value} {base : Heap}
/-! ### _law_length_at -/
def spLLenAt : Sp := fun vs H Q _ => ∃ (t it : Addr) (cnt lg : Nat) (is : List I4) (rs : List Addr) (b : Int), vs = [.ref t, .int b] ∧ Tab H t cnt lg is it rs ∧ Q (.int (laOf is b : Int)) H
theorem scLLenAt : FnScope ["_law_table_here", "_law_byte", "_law_opcode", "_law_name", "_law_length", "_law_is_padding"] ["_law_table_here", "_law_byte"] (defScope sLLenAt) := ⟨rfl, rfl, rfl, by decide +kernel, rfl, by decide +kernel, by decide +kernel⟩
theorem ok_llenAt {f : Addr} {fd : FuncData} {k : Nat} (F : Fun K "_law_length_at" "_law_length_at" sLLenAt f fd) : FnOk P w K mg base CX0 (k + 1) f fd ["_law_table_here", "_law_byte"] spLLenAt := by
  refine F.ok scLLenAt (fun vs H Q E h => ?_) (fun cdv A' outer s H vs Q E hr h => ?_)
  · obtain ⟨t, it, cnt, lg, is, rs, b, rfl, _⟩ := h
    rfl
  · obtain ⟨t, it, cnt, lg, is, rs, b, rfl, Tb, q⟩ := h
    refine ⟨_, pss_cons (ps_for PassesOwn.never rfl (pi_tup (pe_ix ix_tup (pv 0) pe_int (fun _ _ => rfl))) (pg_tup rfl (pgs_cons (pg_name (i := 2) scLLenAt.nd rfl (.inl rfl)) (pgs_cons (pg_name (i := 3) scLLenAt.nd rfl (.inl rfl)) (pgs_cons (pg_name (i := 4) scLLenAt.nd rfl (.inl rfl)) (pgs_cons (pg_name (i := 5) scLLenAt.nd rfl (.inl rfl)) pgs_nil)))))
        (pss_one (ps_if (pt_cmpR op_eq (pv 2) (pv 1) (nomark _)) (pss_one (ps_ret (pv 4))) pss_nil)))
      (pss_one (ps_ret pe_int)), ?_⟩
    have i1 : ∀ x y : V, atI [x, y] 1 = some y := fun x y => atI_nat (j := 1) rfl
    have hit := Tb.its
    have rl := Tb.rows.1
    refine ⟨_, rfl, t, _, _, _, rfl, rfl, SqT.of Tb.at_, i1 _ _, it, rfl, ⟨_, SqT.of hit⟩, for_tup (K := K) (a := it) (xs := rs.map V.ref) (fun i σ H' => H' = H ∧ (∀ x ∈ is.take i, (x.op : Int) ≠ b) ∧ ∃ y2 y3 y4 y5, σ = [some (.ref t), some (.int b), y2, y3, y4, y5]) ⟨rfl, (fun x hx => by simp at hx), _, _, _, _, rfl⟩ (fun i σ H' _ ⟨e, _⟩ => by rw [e]; exact SqT.of hit) ?_ ?_⟩
    · rintro i x σ H' hx ⟨rfl, no, y2, y3, y4, y5, rfl⟩
      obtain ⟨hi, r, rfl, hr2, _⟩ := rows_at Tb.rows hx
      refine ⟨r, _, rfl, SqT.of hr2, rfl, _, _, rfl, _, _, rfl, _, _, rfl, _, _, rfl, rfl, ?_⟩
      refine ⟨_, rfl, _, rfl, rfl, _, rfl, ?_⟩
      by_cases h : ((is[i]).op : Int) = b
      · rw [decide_eq_true (by rw [h])]
        refine iteT ⟨_, rfl, ?_⟩
        rw [la_hit no hi h] at q
        exact q
      · rw [decide_eq_false (fun z => h (V.int.inj z))]
        refine iteF ⟨rfl, fun x hx => ?_, _, _, _, _, rfl⟩
        rw [take_more (List.getElem?_eq_getElem hi)] at hx
        rcases List.mem_append.mp hx with hx | hx
        · exact no x hx
        · rw [List.mem_singleton.mp hx]; exact h
    · rintro σ H' ⟨rfl, no, y2, y3, y4, y5, rfl⟩
      rw [List.length_map, rl, List.take_length] at no
      rw [la_miss no] at q
      exact q
end
end Ov

namespace Ov
open PySem PySem.Spec PyProof.Rows L2
/-! ### the law's own reading -/
def preD (is : List I4) (bs : List Int) (o : Nat) : PyData := .tuple [.int (bs.getD o 0), .tuple ((opsOf bs o (laOf is (bs.getD o 0))).map PyData.int)]
def rowI (x : I4) : PyData := .tuple [.int (x.op : Int), .str (txt x.nm), .int (x.ln : Int), .bool x.pad]
def knX (is : List I4) (bs : List Int) (o : Nat) : I4 := (is.find? (fun x => decide ((x.op : Int) = bs.getD o 0))).getD ⟨0, [], 0, false⟩
def knD (is : List I4) (bs : List Int) (o : Nat) : PyData := .tuple [rowI (knX is bs o), .tuple ((opsOf bs o (laOf is (bs.getD o 0))).map PyData.int)]
theorem dx_bool {K : PySem.W.Frag} {H : Hp} {v : V} {x : Bool} (h : Dx K H v (.bool x)) : v = .bl x := by cases h; rfl
theorem dx_two {K : PySem.W.Frag} {H : Hp} {v : V} {d e : PyData} (h : Dx K H v (.tuple [d, e])) : ∃ a x y, v = .ref a ∧ SqT K H a [x, y] ∧ Dx K H x d ∧ Dx K H y e := by
  obtain ⟨a, xs, rfl, h1, a1⟩ := dx_tup h
  cases a1 with
  | cons d1 a1 =>
    cases a1 with
    | cons d2 a1 =>
      cases a1
      exact ⟨a, _, _, rfl, h1, d1, d2⟩
theorem dx_rowI {K : PySem.W.Frag} {H : Hp} {v : V} {x : I4} (h : Dx K H v (rowI x)) : ∃ a, v = .ref a ∧ SqT K H a x.vs := by
  obtain ⟨a, xs, rfl, h1, a1⟩ := dx_tup h
  cases a1 with
  | cons d1 a1 =>
    cases a1 with
    | cons d2 a1 =>
      cases a1 with
      | cons d3 a1 =>
        cases a1 with
        | cons d4 a1 =>
          cases a1
          rw [dx_int d1, dx_str d2, dx_int d3, dx_bool d4] at h1
          exact ⟨a, rfl, h1⟩
theorem dx_row {K : PySem.W.Frag} {H : Hp} {r : Addr} {x : I4} (h : SqT K H r x.vs) : Dx K H (.ref r) (rowI x) := .tup h (.cons (.int _) (.cons (.str _) (.cons (.int _) (.cons (.bl _) .nil))))
def selO (is : List I4) (rs : List Addr) (b : Int) : List (Addr × I4) := (rs.zip is).filter fun q => decide ((q.2.op : Int) = b)
theorem selO_more {is : List I4} {rs : List Addr} {b : Int} {i : Nat} {r : Addr} {x : I4} (h1 : rs[i]? = some r) (h2 : is[i]? = some x) : selO (is.take (i + 1)) (rs.take (i + 1)) b = selO (is.take i) (rs.take i) b ++ (if (x.op : Int) = b then [(r, x)] else []) := by
  unfold selO
  have tz : ∀ j, (rs.take j).zip (is.take j) = (rs.zip is).take j := fun j => by simp only [List.zip, List.take_zipWith]
  rw [tz, tz, take_more (List.getElem?_zip_eq_some (z := (r, x)) |>.mpr ⟨h1, h2⟩), List.filter_append]
  by_cases e : (x.op : Int) = b
  · rw [if_pos e, List.filter_cons_of_pos (by simpa using e)]; rfl
  · rw [if_neg e, List.filter_cons_of_neg (by simpa using e)]; rfl
theorem find_zipO (f : I4 → Bool) : ∀ (rs : List Addr) (is : List I4), rs.length = is.length → ((rs.zip is).find? fun q => f q.2).map (·.2) = is.find? f
  | [], [], _ => rfl
  | [], _ :: _, h => by cases h
  | _ :: _, [], h => by cases h
  | r :: rs, x :: is, h => by
    rw [List.zip_cons_cons, List.find?_cons, List.find?_cons]
    cases e : f x with
    | true => rfl
    | false => exact find_zipO f rs is (by simpa using h)
theorem selO_head {is : List I4} {rs : List Addr} {b : Int} {x : I4} (l : rs.length = is.length) (h : is.find? (fun x => decide ((x.op : Int) = b)) = some x) : ∃ (r : Addr) (t : List (Addr × I4)) (i : Nat), selO is rs b = (r, x) :: t ∧ rs[i]? = some r ∧ is[i]? = some x := by
  have z := find_zipO (fun x => decide ((x.op : Int) = b)) rs is l
  rw [h] at z
  obtain ⟨⟨r, y⟩, hq, rfl⟩ := Option.map_eq_some_iff.mp z
  have hh : (selO is rs b).head? = some (r, y) := by unfold selO; rw [List.head?_filter]; exact hq
  obtain ⟨t, ht⟩ : ∃ t, selO is rs b = (r, y) :: t := by
    cases e : selO is rs b with
    | nil => rw [e] at hh; cases hh
    | cons a t => rw [e] at hh; cases hh; exact ⟨t, rfl⟩
  obtain ⟨i, hi⟩ := List.mem_iff_getElem?.mp (List.mem_of_find?_eq_some hq)
  rw [List.getElem?_zip_eq_some] at hi
  exact ⟨r, t, i, ht, hi.1, hi.2⟩
def offO (n : Nat) (σ : L2.St) : Nat := match σ with
  | [_, _, _, _, some (.int o), _] => n - o.toNat
  | _ => 0
section
variable {P : Program} {w : World} {K : PySem.W.Frag} {mg : Str → Option Value} {base : Heap}
/-! ### _law_read -/
def spRead (K : PySem.W.Frag) : Sp := fun vs H Q _ => ∃ (t it c : Addr) (cnt lg : Nat) (is : List I4) (rs : List Addr) (bs : List Int) (e : Nat), vs = [.ref t, .ref c, .int (e : Int)] ∧ Tab H t cnt lg is it rs ∧ SqT K H c (bs.map V.int) ∧ bs.length ≤ 100000 ∧ e ≤ bs.length ∧
  (∀ H' begun fol, Same H H' → Ended (laOf is) bs e begun fol → fol ≠ bs.length → Q .non H') ∧
  (∀ H' T' D vs begun, Same H T' → Coll K T' H' D vs (begun.map (preD is bs)) → Ended (laOf is) bs e begun bs.length → begun.length ≤ bs.length → Q (.ref D) H')
abbrev nRead : List Str := ["_law_table_here", "_law_row", "_law_begin", "_law_found", "_law_at", "_law_size"]
theorem scRead : FnScope nRead ["_law_table_here", "_law_row", "_law_begin"] (defScope s_law_read) := ⟨rfl, rfl, rfl, by decide +kernel, rfl, by decide +kernel, by decide +kernel⟩
theorem ok_read {f fL : Addr} {fd fdL : FuncData} {k : Nat} (F : Fun K "_law_read" "_law_read" s_law_read f fd) (T : Bi mg)
    (L : Def K mg "_law_length_at" sLLenAt fL fdL ["_law_table_here", "_law_byte"]) (GL : FnOk P w K mg base CX0 k fL fdL ["_law_table_here", "_law_byte"] spLLenAt) :
    FnOk P w K mg base CX0 (k + 1) f fd ["_law_table_here", "_law_row", "_law_begin"] (spRead K) := by
  refine F.ok scRead (fun vs H Q E h => ?_) (fun cdv A' outer s H vs Q E hr h => ?_)
  · obtain ⟨t, it, c, cnt, lg, is, rs, bs, e, rfl, _⟩ := h
    rfl
  · obtain ⟨t, it, c, cnt, lg, is, rs, bs, e, rfl, Tb, hc, hb, he, qn, qs⟩ := h
    refine ⟨_, pss_cons (ps_par (i := 3) (j := 4) (by rfl) scRead.nd rfl rfl (by decide) rfl rfl (pa_cons (pe_lst pa_nil) (pa_cons (pv 2) pa_nil)) (by rfl))
      (pss_cons (ps_while PassesOwn.never (pt_cmpR op_lt (pv 4) (pe_callB call_len_seq (by rfl) T.len PySem.boot_len (pa_cons (pv 1) pa_nil)) (nomark _))
        (pss_cons (ps_set (i := 5) scRead.nd rfl (.inl rfl) (pe_call GL hr (by rfl) L.gl L.fn.kp L.bi .nil pass0 (pa_cons (pv 0) (pa_cons (pe_ix ix_tup (pv 1) (pv 4) (fun _ _ => rfl)) pa_nil))))
        (pss_cons (ps_if (PW.pt (pw_or (pt_cmpR op_eq (pv 5) pe_int (nomark _)) (pw_or1 (pt_cmpR op_gt (pe_op op_add (pv 4) (pv 5)) (pe_callB call_len_seq (by rfl) T.len PySem.boot_len (pa_cons (pv 1) pa_nil)) (nomark _))))) (pss_one (ps_ret pe_non)) pss_nil)
        (pss_cons (ps_expr (pe_bm PySem.F.plainAttrs_list PySem.F.slot_list_append PySem.F.type_list_append mt_append (pv 3) (pa_cons (pe_tup (pa_cons (pe_ix ix_tup (pv 1) (pv 4) (fun _ _ => rfl)) (pa_cons (pe_slice sl_tupA (pv 1) (po_some (pe_op op_add (pv 4) pe_int)) (po_some (pe_op op_add (pv 4) (pv 5)))) pa_nil))) pa_nil)))
        (pss_one (ps_set (i := 4) scRead.nd rfl (.inl rfl) (pe_op op_add (pv 4) (pv 5))))))))
      (pss_one (ps_ret (pv 3)))), ?_⟩
    refine ⟨Nat.zero_le _, fun D nD => ⟨_, rfl, _, _, rfl, ?_⟩⟩
    refine while_by (fun σ G => ∃ (begun : List Nat) (o : Nat) (T' : Hp) (vs : List V) (y5 : Option V), σ = [some (.ref t), some (.ref c), some (.int (e : Int)), some (.ref D), some (.int (o : Int)), y5] ∧ Same H T' ∧ Coll K T' G D vs (begun.map (preD is bs)) ∧ Going (laOf is) bs e begun o ∧ o ≤ bs.length) (fun σ _ => offO bs.length σ)
      ⟨[], e, H, [], none, rfl, Same.refl _, ⟨same_upd nD, nD, upd_same, .nil⟩, Going.start bs e, he⟩ ?_ ?_
    · rintro σ G ⟨begun, o, T', vs, y5, rfl, st, cl, g, ho⟩
      have sG := st.trans cl.th
      have c2 := sG.tup hc
      have few := g.few
      have bl : begun.length ≤ bs.length := by omega
      refine ⟨_, rfl, _, rfl, c, _, rfl, .inr c2, _, _, rfl, rfl, _, rfl, ?_⟩
      rw [List.length_map]
      by_cases h1 : (o : Int) < (bs.length : Int)
      · rw [decide_eq_true h1]
        have ho : o < bs.length := by omega
        have hb' : bs[o]? = some bs[o] := List.getElem?_eq_getElem ho
        have gd : bs.getD o 0 = bs[o] := by rw [List.getD_eq_getElem?_getD, hb']; rfl
        have iv : atI (bs.map V.int) (o : Int) = some (.int bs[o]) := atI_nat (by rw [List.getElem?_map, hb']; rfl)
        refine iteT ⟨_, rfl, _, rfl, _, rfl, c, _, _, _, rfl, rfl, c2, iv, t, it, cnt, lg, is, rs, bs[o], rfl, Tb.same sG, ?_⟩
        refine ⟨_, rfl, rfl, _, rfl, ?_⟩
        by_cases h2 : laOf is bs[o] = 0
        · rw [decide_eq_true (show V.int (laOf is bs[o] : Int) = V.int 0 by rw [h2]; rfl)]
          exact iteT (qn G begun o sG (g.stop hb' h2) (by omega))
        · rw [decide_eq_false (show ¬ V.int (laOf is bs[o] : Int) = V.int 0 from fun z => h2 (by have := V.int.inj z; omega))]
          refine iteF ⟨_, rfl, _, rfl, _, _, rfl, rfl, _, rfl, c, _, rfl, .inr c2, _, _, rfl, rfl, _, rfl, ?_⟩
          rw [List.length_map]
          have g2 := g.step hb' (show 0 < laOf is bs[o] by omega)
          by_cases h3 : (bs.length : Int) < (o : Int) + (laOf is bs[o] : Int)
          · rw [decide_eq_true h3]
            exact iteT (qn G _ _ sG (g2.over (by omega)) (by omega))
          · rw [decide_eq_false h3]
            refine iteF ⟨_, rfl, .inl ⟨rfl, _, SqL.of cl.at_⟩, _, rfl, _, rfl, c, _, _, _, rfl, rfl, c2, iv, ?_⟩
            refine ⟨_, rfl, _, rfl, _, _, rfl, rfl, _, rfl, _, rfl, _, rfl, _, _, rfl, rfl, _, rfl, cut_x cl.th (st.tup hc) fun l3 H3 T3 gr S3 => ?_⟩
            have e3 : cutV (bs.map V.int) (some ((o : Int) + 1)) (some ((o : Int) + (laOf is bs[o] : Int))) = (opsOf bs o (laOf is bs[o])).map V.int := by
              rw [show (o : Int) + 1 = ((o + 1 : Nat) : Int) by omega, show (o : Int) + (laOf is bs[o] : Int) = ((o + laOf is bs[o] : Nat) : Int) by omega, cut_mid _ _ _ (by omega)]
              unfold opsOf
              rw [← List.map_drop, ← List.map_take, show o + laOf is bs[o] - (o + 1) = laOf is bs[o] - 1 by omega]
            rw [e3] at S3
            refine ⟨by show 2 ≤ sizeLine; decide, fun r nr => ?_⟩
            have gr2 := gr.put (HO.tup [V.int bs[o], V.ref l3]) nr
            have cl2 := cl.grow gr2
            have sr := same_upd (o := HO.tup [V.int bs[o], V.ref l3]) (none_of gr.th nr)
            have D2 : Dx K (upd T3 r (HO.tup [V.int bs[o], V.ref l3])) (.ref r) (preD is bs o) := by
              unfold preD
              rw [gd]
              exact .tup (SqT.of upd_same) (.cons (.int _) (.cons (.tup (sr.tup S3) (dx_ints _)) .nil))
            refine ⟨D, _, _, rfl, rfl, cl2.at_, ?_, ?_⟩
            · rw [cl.all.len, List.length_map, sizeLine_eq]; omega
            refine ⟨_, rfl, _, rfl, _, _, rfl, rfl, ⟨begun ++ [o], o + laOf is bs[o], _, vs ++ [V.ref r], _, rfl, st.trans gr2.tt, ?_, g2, by omega⟩, ?_⟩
            · rw [List.map_append]
              exact cl2.push D2
            · show bs.length - ((o : Int) + (laOf is bs[o] : Int)).toNat < bs.length - (o : Int).toNat
              omega
      · rw [decide_eq_false h1]
        have eo : o = bs.length := by omega
        subst eo
        exact iteF ⟨_, rfl, qs G T' D vs begun st cl (g.over (Nat.le_refl _)) bl⟩
    · rintro σ H2 Q1 Q2 hQ ⟨v, h1, v2, h2, a, xs, h3, h4, i, j, h5, h6, b, h7, h8⟩
      exact ⟨v, h1, v2, h2, a, xs, h3, h4, i, j, h5, h6, b, h7, hQ _ _ h8⟩
/-! ### _law_known -/
def spKnown (K : PySem.W.Frag) : Sp := fun vs H Q _ => ∃ (t it : Addr) (cnt lg : Nat) (is : List I4) (rs : List Addr) (b : Int) (x : I4), vs = [.ref t, .int b] ∧ Tab H t cnt lg is it rs ∧ is.find? (fun x => decide ((x.op : Int) = b)) = some x ∧
  ∀ H' (r : Addr) (i : Nat), Same H H' → rs[i]? = some r → is[i]? = some x → Q (.ref r) H'
theorem scKnown : FnScope ["_law_table_here", "_law_opcode", "_law_instruction"] ["_law_table_here", "_law_opcode"] (defScope s_law_known) := ⟨rfl, rfl, rfl, by decide +kernel, rfl, by decide +kernel, by decide +kernel⟩
theorem ok_known {f : Addr} {fd : FuncData} {k : Nat} (F : Fun K "_law_known" "_law_known" s_law_known f fd) : FnOk P w K mg base CX0 (k + 1) f fd ["_law_table_here", "_law_opcode"] (spKnown K) := by
  refine F.ok scKnown (fun vs H Q E h => ?_) (fun cdv A' outer s H vs Q E hr h => ?_)
  · obtain ⟨t, it, cnt, lg, is, rs, b, x, rfl, _⟩ := h
    rfl
  · obtain ⟨t, it, cnt, lg, is, rs, b, x, rfl, Tb, hx, q⟩ := h
    refine ⟨_, pss_one (ps_ret (pe_ix ix_list (pe_lc (own := [("_law_instruction", 2)]) (g := gName 2) (tt := tTest (tOp rEq (tOp (rIxT K) (tVar 2) (tC (.int 0))) (tVar 1))) (by rfl) scKnown.nd (pi_tup (pe_ix ix_tup (pv 0) pe_int (fun _ _ => rfl)))
        (blkOk_by (own := [("_law_instruction", 2)]) (N := ["_law_table_here", "_law_opcode", "_law_instruction"]) (sc := defScope s_law_known) (by decide +kernel))
        (fun _ _ _ _ _ => pg_name (i := 2) scKnown.nd rfl (Or.inl rfl)) (fun _ _ _ _ _ => pts_one (pt_cmpR op_eq (pe_ix (r := rIxT K) ix_tup (pv 2) pe_int (fun _ _ => rfl)) (pv 1) (nomark _))) (fun _ _ _ _ _ => pv 2)) pe_int (fun _ _ => rfl))), ?_⟩
    have i1 : ∀ x y : V, atI [x, y] 1 = some y := fun x y => atI_nat (j := 1) rfl
    have rl := Tb.rows.1
    have few := Tb.ok.few
    refine ⟨_, rfl, t, _, _, _, rfl, rfl, SqT.of Tb.at_, i1 _ _, it, rfl, ⟨_, SqT.of Tb.its⟩, fun D nD => lc_tup (K := K) (a := it) (xs := rs.map V.ref) (fun i G => Mk H G D ((selO (is.take i) (rs.take i) b).map fun q => V.ref q.1)) (.start nD) (fun i G _ mk => mk.same.tup (SqT.of Tb.its)) ?_ ?_⟩
    · intro i y G hy mk
      obtain ⟨hi, r, rfl, hr2, hri⟩ := rows_at Tb.rows hy
      have at0 : atI (is[i]).vs 0 = some (.int ((is[i]).op : Int)) := atI_nat (j := 0) rfl
      refine ⟨rfl, _, rfl, r, _, _, _, rfl, rfl, SqT.of (mk.same _ _ hr2), at0, _, rfl, rfl, _, rfl, ?_⟩
      rw [selO_more hri (List.getElem?_eq_getElem hi), List.map_append]
      by_cases e : ((is[i]).op : Int) = b
      · rw [decide_eq_true (congrArg V.int e), if_pos e]
        refine iteT ⟨_, rfl, _, mk.at_, ?_, mk.put (Same.refl _)⟩
        rw [List.length_map]
        refine small1000 ?_
        unfold selO
        refine Nat.le_trans (List.length_filter_le _ _) ?_
        rw [List.length_zip, List.length_take]
        omega
      · rw [decide_eq_false (fun z => e (V.int.inj z)), if_neg e]
        refine iteF ?_
        rw [List.map_nil, List.append_nil]
        exact mk
    intro G mk
    rw [List.length_map, rl, List.take_length, ← rl, List.take_length] at mk
    obtain ⟨r, tl, i, hs, h1, h2⟩ := selO_head rl hx
    rw [hs, List.map_cons] at mk
    exact ⟨D, _, _, _, rfl, rfl, SqL.of mk.at_, atI_nat (j := 0) rfl, q G r i mk.same h1 h2⟩
/-! ### _law_steps -/
def spSteps (K : PySem.W.Frag) : Sp := fun vs H Q _ => ∃ (t it c : Addr) (cnt lg : Nat) (is : List I4) (rs : List Addr) (bs : List Int) (e : Nat), vs = [.ref t, .ref c, .int (e : Int)] ∧ Tab H t cnt lg is it rs ∧ SqT K H c (bs.map V.int) ∧ bs.length ≤ 100000 ∧ e ≤ bs.length ∧
  ∀ H' v begun fol, Same H H' → Ended (laOf is) bs e begun fol → Dx K H' v (foundD (foundOf is bs begun fol)) → Q v H'
abbrev nSteps : List Str := ["_law_table_here", "_law_row", "_law_begin", "_law_found", "_law_some", "_law_opcode", "_law_given", "_law_instruction"]
theorem scSteps : FnScope nSteps ["_law_table_here", "_law_row", "_law_begin"] (defScope s_law_steps) := ⟨rfl, rfl, rfl, by decide +kernel, rfl, by decide +kernel, by decide +kernel⟩
theorem ok_steps {f fR fK : Addr} {fd fdR fdK : FuncData} {k : Nat} (F : Fun K "_law_steps" "_law_steps" s_law_steps f fd) (T : Bi mg)
    (R : Def K mg "_law_read" s_law_read fR fdR ["_law_table_here", "_law_row", "_law_begin"]) (GR : FnOk P w K mg base CX0 k fR fdR ["_law_table_here", "_law_row", "_law_begin"] (spRead K))
    (Kn : Def K mg "_law_known" s_law_known fK fdK ["_law_table_here", "_law_opcode"]) (GK : FnOk P w K mg base CX0 k fK fdK ["_law_table_here", "_law_opcode"] (spKnown K)) :
    FnOk P w K mg base CX0 (k + 1) f fd ["_law_table_here", "_law_row", "_law_begin"] (spSteps K) := by
  refine F.ok scSteps (fun vs H Q E h => ?_) (fun cdv A' outer s H vs Q E hr h => ?_)
  · obtain ⟨t, it, c, cnt, lg, is, rs, bs, e, rfl, _⟩ := h
    rfl
  · obtain ⟨t, it, c, cnt, lg, is, rs, bs, e, rfl, Tb, hc, hb, he, q⟩ := h
    refine ⟨_, pss_cons (ps_set (i := 3) scSteps.nd rfl (.inl rfl) (pe_call GR hr (by rfl) R.gl R.fn.kp R.bi .nil pass0 (pa_cons (pv 0) (pa_cons (pv 1) (pa_cons (pv 2) pa_nil)))))
      (pss_cons (ps_if (pt_cmpR op_isN (pv 3) pe_non (nomark _)) (pss_one (ps_ret pe_non)) pss_nil)
      (pss_cons (ps_setLc (i := 4) (own := [("_law_opcode", 5), ("_law_given", 6)]) (g := gTup K 2 (gCons (gName 5) (gCons (gName 6) gNil))) (tt := tYes) (by rfl) scSteps.nd rfl rfl (sw_true rfl rfl rfl (by decide +kernel)) (pi_list (pv 3))
          (blkOk_by (own := [("_law_opcode", 5), ("_law_given", 6)]) (N := nSteps) (sc := defScope s_law_steps) (by decide +kernel))
          (fun _ _ _ _ _ => pg_tup rfl (pgs_cons (pg_name (i := 5) scSteps.nd rfl (Or.inl rfl)) (pgs_cons (pg_name (i := 6) scSteps.nd rfl (Or.inl rfl)) pgs_nil))) (fun _ _ _ _ _ => pts_nil)
          (fun _ _ _ _ _ => pe_tup (pa_cons (pe_call GK hr (by rfl) Kn.gl Kn.fn.kp Kn.bi .nil pass0 (pa_cons (pv 0) (pa_cons (pv 5) pa_nil))) (pa_cons (pv 6) pa_nil))))
      (pss_one (ps_ret (pe_callTy call_tuple_of (by rfl) T.tuple (by decide +kernel) (pa_cons
        (pe_lc (own := [("_law_instruction", 7), ("_law_given", 6)]) (g := gTup K 2 (gCons (gName 7) (gCons (gName 6) gNil))) (tt := tNot (tB (tOp (rIxT K) (tVar 7) (tC (.int 3))))) (by rfl) scSteps.nd (pi_list (pv 4))
          (blkOk_by (own := [("_law_instruction", 7), ("_law_given", 6)]) (N := nSteps) (sc := defScope s_law_steps) (by decide +kernel))
          (fun _ _ _ _ _ => pg_tup rfl (pgs_cons (pg_name (i := 7) scSteps.nd rfl (Or.inl rfl)) (pgs_cons (pg_name (i := 6) scSteps.nd rfl (Or.inl rfl)) pgs_nil))) (fun _ _ _ _ _ => pts_one (pt_not (pt_val (pe_ix (r := rIxT K) ix_tup (pv 7) pe_int (fun _ _ => rfl)))))
          (fun _ _ _ _ _ => pe_tup (pa_cons (pe_ix (r := rIxT K) ix_tup (pv 7) pe_int (fun _ _ => rfl)) (pa_cons (pv 6) pa_nil)))) pa_nil)))))), ?_⟩
    refine ⟨_, rfl, _, rfl, _, rfl, t, it, c, cnt, lg, is, rs, bs, e, rfl, Tb, hc, hb, he, fun H1 begun fol s1 en hf => ?_, fun H1 T1 D vs begun sT cl en bl => ?_⟩
    · refine ⟨_, rfl, rfl, _, rfl, iteT (q H1 _ begun fol s1 en ?_)⟩
      unfold foundOf
      rw [if_neg hf]
      exact .non
    · have ef : foundOf is bs begun bs.length = some (stepsOf is bs begun) := if_pos rfl
      have s1 := sT.trans cl.th
      have atO : ∀ o ∈ begun, ∃ x, x ∈ is ∧ is.find? (fun x => decide ((x.op : Int) = bs.getD o 0)) = some x ∧ laOf is (bs.getD o 0) = x.ln ∧ knX is bs o = x := fun o ho => by
        obtain ⟨_, b, hbo, hlb⟩ := en.lt o ho
        have gd : bs.getD o 0 = b := by rw [List.getD_eq_getElem?_getD, hbo]; rfl
        rw [← gd] at hlb
        obtain ⟨x, x1, x2, x3, _⟩ := at_of hlb
        refine ⟨x, x1, x2, x3, ?_⟩
        unfold knX
        rw [x2]
        rfl
      refine ⟨_, rfl, rfl, _, rfl, iteF ⟨_, rfl, D, rfl, ⟨_, SqL.of cl.at_⟩, fun D2 nD2 => lc_list (K := K) (a := D) (xs := vs) (fun i G => ∃ T' us, Same H1 T' ∧ Coll K T' G D2 us ((begun.take i).map (knD is bs))) ⟨H1, [], Same.refl _, ⟨same_upd nD2, nD2, upd_same, .nil⟩⟩ (fun i G _ ⟨T', us, st, c2⟩ => SqL.of (c2.th _ _ (st _ _ cl.at_))) ?_ ?_⟩⟩
      · rintro i v G hv ⟨T', us, st, c2⟩
        obtain ⟨d, hd, Dd⟩ := cl.all.at hv
        rw [List.getElem?_map] at hd
        obtain ⟨o, ho, rfl⟩ := Option.map_eq_some_iff.mp hd
        obtain ⟨x, x1, x2, x3, x4⟩ := atO o (List.mem_of_getElem? ho)
        have sT' : Same T1 T' := cl.th.trans st
        obtain ⟨a, y1, y2, rfl, ha, D1, D2'⟩ := dx_two (Dd.same sT')
        rw [dx_int D1] at ha
        have sG := s1.trans (st.trans c2.th)
        have TbT := Tb.same (s1.trans st)
        refine ⟨a, _, rfl, c2.th.tup ha, rfl, _, _, rfl, _, _, rfl, rfl, rfl, _, rfl, _, rfl, t, it, cnt, lg, is, rs, _, x, rfl, Tb.same sG, x2, fun G3 r j s3 hr1 hi1 => ?_⟩
        refine ⟨_, rfl, by show 2 ≤ sizeLine; decide, fun u nu => ?_⟩
        have g0 : Grow T' G T' G3 := ⟨s3, Same.refl _, c2.th.trans s3, fun _ e _ => e⟩
        have g := g0.put (HO.tup [V.ref r, y2]) nu
        have c3 := c2.grow g
        refine ⟨us, c3.at_, ?_, _, us ++ [V.ref u], st.trans g.tt, ?_⟩
        · rw [c2.all.len, List.length_map, List.length_take, sizeLine_eq]; omega
        · rw [take_more ho, List.map_append]
          refine c3.push ?_
          unfold knD
          rw [x4]
          exact .tup (SqT.of upd_same) (.cons (dx_row (SqT.of (g.tt _ _ (TbT.rows.2 j r x hr1 hi1)))) (.cons (D2'.same g.tt) .nil))
      · rintro G ⟨T', us, st, c2⟩
        have vl : vs.length = begun.length := by rw [cl.all.len, List.length_map]
        rw [vl, List.take_length] at c2
        have sG := s1.trans (st.trans c2.th)
        refine ⟨_, rfl, D2, rfl, ⟨_, SqL.of c2.at_⟩, fun D3 nD3 => lc_list (K := K) (a := D2) (xs := us) (fun i G2 => ∃ T2 ws, Same G T2 ∧ Coll K T2 G2 D3 ws (((begun.take i).filterMap (stepAt is bs)).map stepD)) ⟨G, [], Same.refl _, ⟨same_upd nD3, nD3, upd_same, .nil⟩⟩ (fun i G2 _ ⟨T2, ws, st2, c3⟩ => SqL.of (c3.th _ _ (st2 _ _ c2.at_))) ?_ ?_⟩
        · rintro i v G2 hv ⟨T2, ws, st2, c3⟩
          obtain ⟨d, hd, Dd⟩ := c2.all.at hv
          rw [List.getElem?_map] at hd
          obtain ⟨o, ho, rfl⟩ := Option.map_eq_some_iff.mp hd
          obtain ⟨x, x1, x2, x3, x4⟩ := atO o (List.mem_of_getElem? ho)
          have sA := stepAt_of (bs := bs) (o := o) (x := x) x2
          unfold knD at Dd
          rw [x4, x3] at Dd
          obtain ⟨a, y1, y2, rfl, ha, D1, D2'⟩ := dx_two (Dd.same (c2.th.trans st2))
          obtain ⟨r, rfl, hr2⟩ := dx_rowI D1
          have at3 : atI x.vs 3 = some (.bl x.pad) := atI_nat (j := 3) rfl
          have at1 : atI x.vs 1 = some (.str (txt x.nm)) := atI_nat (j := 1) rfl
          refine ⟨a, _, rfl, c3.th.tup ha, rfl, _, _, rfl, _, _, rfl, rfl, rfl, _, rfl, r, _, _, _, rfl, rfl, c3.th.tup hr2, at3, _, rfl, ?_⟩
          rw [take_more ho, List.filterMap_append, List.filterMap_cons, List.filterMap_nil, sA]
          have wl : ws.length ≤ 100000 := by
            rw [c3.all.len, List.length_map]
            refine Nat.le_trans (List.length_filterMap_le _ _) ?_
            rw [List.length_take]
            omega
          cases hp : x.pad with
          | true =>
            rw [if_pos rfl]
            refine iteF ⟨T2, ws, st2, ?_⟩
            rw [List.append_nil]
            exact c3
          | false =>
            rw [if_neg (by decide)]
            refine iteT ⟨_, rfl, r, _, _, _, rfl, rfl, c3.th.tup hr2, at1, _, rfl, by show 2 ≤ sizeLine; decide, fun u nu => ?_⟩
            have g := (Grow.refl c3.th).put (HO.tup [V.str (txt x.nm), y2]) nu
            have c4 := c3.grow g
            refine ⟨ws, c4.at_, by rw [sizeLine_eq]; omega, _, ws ++ [V.ref u], st2.trans g.tt, ?_⟩
            rw [List.map_append]
            refine c4.push (.tup (SqT.of upd_same) (.cons (.str _) (.cons ?_ .nil)))
            show Dx K _ y2 (.tuple (((opsOf bs o x.ln).map some).map oD))
            rw [opts_some]
            exact D2'.same g.tt
        · rintro G2 ⟨T2, ws, st2, c3⟩
          have ul : us.length = begun.length := by rw [c2.all.len, List.length_map]
          rw [ul, List.take_length] at c3
          refine ⟨D3, _, rfl, .inl ⟨SqL.of c3.at_, fun r2 nr2 => ?_⟩⟩
          have s5 := same_upd (o := HO.tup ws) nr2
          refine q _ _ begun bs.length (sG.trans (st2.trans (c3.th.trans s5))) en ?_
          rw [ef]
          exact .tup (SqT.of upd_same) (c3.all.same (c3.th.trans s5))
end
end Ov

namespace Ov
open PySem PySem.Spec PyProof.Rows L2
/-- found steps: bytes all known -/
def FoundOk (gs : List PStep) : Prop := ∀ g ∈ gs, (∃ os : List Int, g.2 = os.map some) ∧ g.2.length ≤ 1000
theorem found_ok {is : List I4} {bs : List Int} {begun : List Nat} {fol : Nat} {gs : List PStep} (hb : bs.length ≤ 1000) (hf : foundOf is bs begun fol = some gs) : FoundOk gs := fun g hg => by
  unfold foundOf at hf
  split at hf
  · cases hf
    refine ⟨steps_some hg, ?_⟩
    obtain ⟨o, _, e⟩ := List.mem_filterMap.mp hg
    unfold stepAt at e
    split at e
    · split at e
      · cases e
      · cases e
        show ((opsOf bs o _).map some).length ≤ 1000
        unfold opsOf
        rw [List.length_map, List.length_take, List.length_drop]
        omega
    · cases e
  · cases hf
theorem zip_flip {α β : Type} (f : α → β → Bool) : ∀ (a : List α) (b : List β), (a.zip b).all (fun q => f q.1 q.2) = (b.zip a).all (fun q => f q.2 q.1)
  | [], b => by cases b <;> rfl
  | x :: a, [] => rfl
  | x :: a, y :: b => by rw [List.zip_cons_cons, List.zip_cons_cons, List.all_cons, List.all_cons, zip_flip f a b]
theorem all_bad {α : Type} {l : List α} {f : α → Bool} {i : Nat} {x : α} (h : l[i]? = some x) (b : f x = false) : l.all f = false := by
  rw [List.all_eq_false]
  exact ⟨x, List.mem_of_getElem? h, by rw [b]; decide⟩
section
variable {P : Program} {w : World} {K : PySem.W.Frag} {mg : Str → Option Value} {base : Heap}
/-! ### _law_fits -/
def spFits (K : PySem.W.Frag) : Sp := fun vs H Q _ => ∃ (v u : V) (ps : List PStep) (fo : Option (List PStep)), vs = [v, u] ∧ Dx K H v (.tuple (ps.map stepD)) ∧ Dx K H u (foundD fo) ∧ (∀ gs, fo = some gs → FoundOk gs) ∧ ∀ H', Same H H' → Q (.bl (fits fo ps)) H'
abbrev nFits : List Str := ["_law_plan_here", "_law_found", "_law_name", "_law_wanted", "_law_its_name", "_law_given", "_law_some", "_law_want", "_law_byte"]
end
end Ov

namespace Ov
open PySem PySem.Spec PyProof.Rows L2
/-! ### things bent: sizes -/
structure Fine (D N : Nat) (d : PyData) : Prop where
  sh : d.showable = true
  dep : d.depth ≤ D
  nd : nodes d ≤ N
theorem Fine.mono {D N D' N' : Nat} {d : PyData} (h : Fine D N d) (a : D ≤ D') (b : N ≤ N') : Fine D' N' d := ⟨h.sh, Nat.le_trans h.dep a, Nat.le_trans h.nd b⟩
theorem Fine.shz {D N k : Nat} {d : PyData} (h : Fine D N d) (a : D ≤ k) (b : N ≤ 8000) : Shz d k := ⟨h.sh, Nat.le_trans h.dep a, Nat.le_trans h.nd b⟩
theorem Shows.fine {d : PyData} (s : Shows d) : Fine d.depth (nodes d) d := ⟨s.sh, Nat.le_refl _, Nat.le_refl _⟩
theorem fine_int {i : Int} (h : i.natAbs < 2 ^ 1000) : Fine 0 1 (.int i) := ⟨(shows_int h).sh, by simp [PyData.depth], by simp [nodes]⟩
theorem fine_bool (b : Bool) : Fine 0 1 (.bool b) := ⟨(shows_bool b).sh, by simp [PyData.depth], by simp [nodes]⟩
theorem fine_none : Fine 0 1 .none := ⟨shows_none.sh, by simp [PyData.depth], by simp [nodes]⟩
theorem fine_str {x : Str} (h : (reprText x).length ≤ 100) : Fine 0 101 (.str x) := ⟨(shows_str h).sh, by simp [PyData.depth], by simp only [nodes]; omega⟩
theorem fine_dict : Fine 1 100 (.dict []) := ⟨shows_dict.sh, by simp [PyData.depth, PyData.depthKv], dict0_nodes⟩
structure FineA (D N : Nat) (ds : List PyData) : Prop where
  sh : PyData.showableAll ds = true
  dep : PyData.depthAll ds ≤ D
  nd : nodesAll ds ≤ N
theorem FineA.nil : FineA 0 0 [] := ⟨by simp [PyData.showableAll], by simp [PyData.depthAll], by simp [nodesAll]⟩
theorem FineA.cons {D N M : Nat} {d : PyData} {ds : List PyData} (h : Fine D N d) (t : FineA D M ds) : FineA D (N + M) (d :: ds) := by
  refine ⟨?_, ?_, ?_⟩
  · simp only [PyData.showableAll]; rw [h.sh, t.sh]; rfl
  · simp only [PyData.depthAll]; exact Nat.max_le.mpr ⟨h.dep, t.dep⟩
  · simp only [nodesAll]; exact Nat.add_le_add h.nd t.nd
theorem FineA.app {D N M : Nat} {a b : List PyData} (h : FineA D N a) (t : FineA D M b) : FineA D (N + M) (a ++ b) := by
  refine ⟨by rw [showableAll_app, h.sh, t.sh]; rfl, ?_, by rw [nodesAll_app]; exact Nat.add_le_add h.nd t.nd⟩
  rw [depthAll_app]
  exact Nat.max_le.mpr ⟨h.dep, t.dep⟩
theorem FineA.mono {D N D' N' : Nat} {d : List PyData} (h : FineA D N d) (a : D ≤ D') (b : N ≤ N') : FineA D' N' d := ⟨h.sh, Nat.le_trans h.dep a, Nat.le_trans h.nd b⟩
theorem FineA.tup {D N : Nat} {ds : List PyData} (h : FineA D N ds) : Fine (D + 1) (N + 1) (.tuple ds) := ⟨by simp only [PyData.showable]; exact h.sh, by simp only [PyData.depth]; have := h.dep; omega, by simp only [nodes]; have := h.nd; omega⟩
theorem FineA.lst {D N : Nat} {ds : List PyData} (h : FineA D N ds) : Fine (D + 1) (N + 1) (.list ds) := ⟨by simp only [PyData.showable]; exact h.sh, by simp only [PyData.depth]; have := h.dep; omega, by simp only [nodes]; have := h.nd; omega⟩
theorem FineA.all {D N : Nat} {ds : List PyData} (h : ∀ d ∈ ds, Fine D N d) : FineA D (ds.length * N) ds := by
  induction ds with
  | nil => exact FineA.nil.mono (Nat.zero_le _) (Nat.zero_le _)
  | cons d ds ih =>
    have := FineA.cons (h d List.mem_cons_self) (ih fun x hx => h x (List.mem_cons_of_mem _ hx))
    exact this.mono (Nat.le_refl _) (by rw [List.length_cons, Nat.succ_mul]; omega)
theorem parts_of {ds : List PyData} (h : PyData.showableAll ds = true) {j : Nat} {e : PyData} (he : ds[j]? = some e) :
    e.showable = true ∧ PyData.showableAll (ds.take j) = true ∧ PyData.showableAll (ds.drop (j + 1)) = true ∧ e.depth ≤ PyData.depthAll ds ∧ PyData.depthAll (ds.take j) ≤ PyData.depthAll ds ∧ PyData.depthAll (ds.drop (j + 1)) ≤ PyData.depthAll ds ∧ nodesAll ds = nodesAll (ds.take j) + nodes e + nodesAll (ds.drop (j + 1)) := by
  have e1 : ds = ds.take j ++ e :: ds.drop (j + 1) := by
    obtain ⟨hj, ej⟩ := List.getElem?_eq_some_iff.mp he
    rw [← ej, List.getElem_cons_drop, List.take_append_drop]
  generalize ds.take j = A, ds.drop (j + 1) = B at *
  subst e1
  rw [showableAll_app] at h
  simp only [PyData.showableAll, Bool.and_eq_true] at h
  rw [depthAll_app, nodesAll_app]
  simp only [PyData.depthAll, nodesAll]
  exact ⟨h.2.1, h.1, h.2.2, by omega, by omega, by omega, by omega⟩
theorem nodes_pos : ∀ d : PyData, 1 ≤ nodes d
  | .none => by simp [nodes]
  | .bool _ => by simp [nodes]
  | .int _ => by simp [nodes]
  | .str _ => by simp [nodes]
  | .list _ => by simp [nodes]
  | .tuple _ => by simp [nodes]
  | .dict _ => by simp [nodes]
theorem len_nodes : ∀ ds : List PyData, ds.length ≤ nodesAll ds
  | [] => Nat.zero_le _
  | d :: ds => by
    have := nodes_pos d
    have := len_nodes ds
    simp only [nodesAll, List.length_cons]
    omega
theorem DzAll.mem {H : Hp} : ∀ {vs : List V} {ds : List PyData}, DzAll H vs ds → ∀ {v : V}, v ∈ vs → ∃ d, d ∈ ds ∧ Dz H v d
  | _, _, .nil, v, h => by cases h
  | _, _, .cons a t, v, h => by
    rcases List.mem_cons.mp h with rfl | h
    · exact ⟨_, List.mem_cons_self, a⟩
    · obtain ⟨d, hd, D⟩ := t.mem h
      exact ⟨d, List.mem_cons_of_mem _ hd, D⟩
theorem nm_short {cnt lg : Nat} {is : List I4} (ok : TabOk cnt lg is) {x : I4} (h : x ∈ is) : (reprText (txt x.nm)).length ≤ 100 := by
  have a := ok.nms x h
  have z := PySem.StrLaws.reprText_len (txt x.nm) (fun c hc => by
    have : c ∈ x.nm := by simpa [txt] using hc
    have := a.2.2 c this
    exact Nat.lt_of_le_of_lt this.2 (by decide))
  rw [txt_len] at z
  omega
theorem cutF1 (k : Nat) (xs : List V) : cutV xs (some ((k : Int) + 1)) none = xs.drop (k + 1) := by
  rw [show (k : Int) + 1 = ((k + 1 : Nat) : Int) by omega]
  exact cut_from (k + 1) xs
theorem cutM1 (k : Nat) (xs : List V) : cutV xs (some (k : Int)) (some ((k : Int) + 1)) = (xs.drop k).take 1 := by
  rw [show (k : Int) + 1 = ((k + 1 : Nat) : Int) by omega]
  unfold cutV
  rw [show HT.sIx xs.length 0 (some (k : Int)) = min k xs.length from HT.sIx_nat xs.length 0 k, show HT.sIx xs.length xs.length (some ((k + 1 : Nat) : Int)) = min (k + 1) xs.length from HT.sIx_nat xs.length xs.length (k + 1)]
  rcases Nat.le_total xs.length k with c | c
  · rw [Nat.min_eq_right c, List.drop_of_length_le c, List.drop_of_length_le (Nat.le_refl _), List.take_nil, List.take_nil]
  · rw [Nat.min_eq_left c]
    rcases Nat.lt_or_ge k xs.length with d | d
    · rw [Nat.min_eq_left (by omega), show k + 1 - k = 1 by omega]
    · rw [List.drop_of_length_le d, List.take_nil, List.take_nil]
section
variable {K : PySem.W.Frag} {T H : Hp} {Q : VK}
theorem cat_z {a b : Addr} {xs ys : List V} (st : Same T H) (ha : T a = some (.tup xs)) (hb : T b = some (.tup ys)) (hl : xs.length + ys.length ≤ sizeLine) (q : ∀ l H' T', Grow T H T' H' → T' l = some (.tup (xs ++ ys)) → Q (.ref l) H') : rCatA K (.ref a) (.ref b) H Q := by
  refine ⟨a, b, xs, ys, rfl, rfl, SqT.of (st _ _ ha), SqT.of (st _ _ hb), hl, fun e => ?_, fun _ e => ?_, fun _ _ p np => ?_⟩
  · subst e
    exact q b H T (.refl st) hb
  · subst e
    exact q a H T (.refl st) (by rw [List.append_nil]; exact ha)
  · exact q p _ _ ((Grow.refl st).put _ np) upd_same
theorem cut_z {a : Addr} {xs : List V} {lo hi : Option Int} (st : Same T H) (ha : T a = some (.tup xs)) (q : ∀ l H' T', Grow T H T' H' → T' l = some (.tup (cutV xs lo hi)) → Q (.ref l) H') : rSlA K (.ref a) lo hi H Q := by
  refine ⟨a, xs, rfl, SqT.of (st _ _ ha), fun e => ?_, fun _ p np => ?_⟩
  · exact q a H T (.refl st) (by rw [cut_all e]; exact ha)
  · exact q p _ _ ((Grow.refl st).put _ np) upd_same
end
theorem Grow.lay {T H T' H' : Hp} (g : Grow T H T' H') {a : Addr} (o : HO) (n : H' a = none) : Grow T H T' (upd H' a o) := ⟨g.hh.trans (same_upd n), g.tt, g.th.trans (same_upd n), g.new⟩
theorem Grow.set {T H T' H' : Hp} (g : Grow T H T' H') {L : Addr} (o : HO) (nH : H L = none) (nT : T' L = none) : Grow T H T' (upd H' L o) :=
  ⟨fun b x e => by rw [upd_ne (ne_of_none e nH)]; exact g.hh b x e, g.tt, fun b x e => by rw [upd_ne (ne_of_none e nT)]; exact g.th b x e, g.new⟩
theorem dz_map {α : Type} {H : Hp} {f : α → V} {g : α → PyData} : ∀ {l : List α}, (∀ x ∈ l, Dz H (f x) (g x)) → DzAll H (l.map f) (l.map g)
  | [], _ => .nil
  | x :: l, h => .cons (h x List.mem_cons_self) (dz_map fun y hy => h y (List.mem_cons_of_mem _ hy))
theorem lvl_up {P : Program} {w : World} {K : PySem.W.Frag} {mg : Str → Option Value} {base : Heap} {CX : CXT} {k k' : Nat} {f : Addr} {fd : FuncData} {ps : List Str} {sp : Sp} (F : FnOk P w K mg base CX k f fd ps sp) (h : k ≤ k') : FnOk P w K mg base CX k' f fd ps sp := ⟨F.len, fun A outer s H args us vs Q E room => F.run A outer s H args us vs Q E (room.mono h)⟩
theorem step_fine {cnt lg : Nat} {is : List I4} (ok : TabOk cnt lg is) {x : PStep} (h : StepOk cnt is x) : Fine 2 114 (stepD x) := by
  have xl := ok.len x.1 h.mem
  have lb := ok.lb
  have hl := h.len
  have o : ∀ d ∈ x.2.map oD, Fine 0 1 d := fun d hd => by
    obtain ⟨b, hb, rfl⟩ := List.mem_map.mp hd
    cases b with
    | none => exact fine_none
    | some b =>
      have := h.low b hb
      have := ok.cb
      exact fine_int (Nat.lt_of_lt_of_le (show b.natAbs < 2 ^ 9 by omega) (Nat.pow_le_pow_right (by decide) (by decide)))
  have t := (FineA.all o).tup
  rw [List.length_map] at t
  have a : Fine 1 101 (.str (txt x.1.nm)) := (fine_str (nm_short ok h.mem)).mono (by decide) (Nat.le_refl _)
  exact (FineA.cons a (FineA.cons t (FineA.nil.mono (Nat.zero_le _) (Nat.le_refl _)))).tup.mono (by omega) (by omega)
theorem steps_fine {cnt lg : Nat} {is : List I4} (ok : TabOk cnt lg is) {ds : List PyData} (h : ∀ d ∈ ds, ∃ x, StepOk cnt is x ∧ d = stepD x) : Fine 3 (ds.length * 114 + 1) (.tuple ds) ∧ Fine 3 (ds.length * 114 + 1) (.list ds) := by
  have a : FineA 2 (ds.length * 114) ds := FineA.all fun d hd => by
    obtain ⟨x, hx, rfl⟩ := h d hd
    exact step_fine ok hx
  exact ⟨a.tup, a.lst⟩
end Ov

namespace Ov
open PySem PySem.Spec PyProof.Rows L2
/-! ### plans that are given out of found steps, plans near a plan -/
theorem DxAll.take {K : PySem.W.Frag} {H : Hp} : ∀ {vs : List V} {ds : List PyData} (n : Nat), DxAll K H vs ds → DxAll K H (vs.take n) (ds.take n)
  | _, _, 0, _ => .nil
  | _, _, n + 1, .nil => .nil
  | _, _, n + 1, .cons h a => .cons h (a.take n)
theorem DzAll.rev {H : Hp} : ∀ {vs : List V} {ds : List PyData}, DzAll H vs ds → DzAll H vs.reverse ds.reverse
  | _, _, .nil => .nil
  | _, _, .cons h a => by rw [List.reverse_cons, List.reverse_cons]; exact a.rev.app (.cons h .nil)
mutual
theorem Dx.hide {K : PySem.W.Frag} {H : Hp} {p : Addr} {ys : List V} (hp : H p = some (.lst ys)) : ∀ {v : V} {d : PyData}, Dx K H v d → noList d = true → Dx K (hide p H) v d
  | _, _, .non, _ => .non
  | _, _, .bl b, _ => .bl b
  | _, _, .int i, _ => .int i
  | _, _, .str x, _ => .str x
  | _, _, .dct h, _ => .dct (hide_at h (fun z => by rw [z, hp] at h; cases h))
  | _, _, .lst h a, z => by simp [noList] at z
  | _, _, .tup h a, z => .tup (But.tup (l := p) (but_hide) hp h) (DxAll.hide hp a (by simpa only [noList] using z))
theorem DxAll.hide {K : PySem.W.Frag} {H : Hp} {p : Addr} {ys : List V} (hp : H p = some (.lst ys)) : ∀ {vs : List V} {ds : List PyData}, DxAll K H vs ds → noListAll ds = true → DxAll K (hide p H) vs ds
  | _, _, .nil, _ => .nil
  | _, _, .cons h a, z => by
    simp only [noListAll, Bool.and_eq_true] at z
    exact .cons (Dx.hide hp h z.1) (DxAll.hide hp a z.2)
end
theorem noL_opts : ∀ os : List (Option Int), noListAll (os.map oD) = true
  | [] => by simp [noListAll]
  | none :: os => by simp [noListAll, noList, oD, noL_opts os]
  | some b :: os => by simp [noListAll, noList, oD, noL_opts os]
theorem noL_step (x : PStep) : noList (stepD x) = true := by
  unfold stepD
  simp only [noList, noListAll]
  rw [noL_opts]
  rfl
theorem noL_steps : ∀ xs : List PStep, noListAll (xs.map stepD) = true
  | [] => by simp [noListAll]
  | x :: xs => by
    rw [List.map_cons]
    simp only [noListAll]
    rw [noL_step, noL_steps xs]
    rfl
/-- a plan that stands in T -/
def PlanZ (cnt : Nat) (is : List I4) (T : Hp) (m : Nat) (v : V) : Prop := ∃ ps : List PStep, Dz T v (.tuple (ps.map stepD)) ∧ ps.length ≤ m ∧ ∀ x ∈ ps, StepOk cnt is x
theorem PlanZ.same {cnt : Nat} {is : List I4} {T T' : Hp} {m : Nat} {v : V} (h : PlanZ cnt is T m v) (s : Same T T') : PlanZ cnt is T' m v := by
  obtain ⟨ps, a, b, c⟩ := h
  exact ⟨ps, a.same s, b, c⟩
theorem dz_tup {H : Hp} {v : V} {ds : List PyData} (h : Dz H v (.tuple ds)) : ∃ a xs, v = .ref a ∧ H a = some (.tup xs) ∧ DzAll H xs ds := by
  cases h with
  | tup h a => exact ⟨_, _, rfl, h, a⟩
theorem dz_str {H : Hp} {v : V} {x : Str} (h : Dz H v (.str x)) : v = .str x := by cases h; rfl
theorem dz_oD {H : Hp} {v : V} {o : Option Int} (h : Dz H v (oD o)) : v = oV o := by
  cases o with
  | none => cases h; rfl
  | some b => cases h; rfl
theorem dz_optsI {H : Hp} : ∀ {os : List (Option Int)} {vs : List V}, DzAll H vs (os.map oD) → vs = os.map oV
  | [], _, h => by cases h; rfl
  | o :: os, _, h => by
    cases h with
    | cons h a => rw [dz_oD h, dz_optsI a]; rfl
theorem dz_stepI {H : Hp} {v : V} {x : PStep} (h : Dz H v (stepD x)) : ∃ a b, v = .ref a ∧ H a = some (.tup [.str (txt x.1.nm), .ref b]) ∧ H b = some (.tup (x.2.map oV)) := by
  obtain ⟨a, xs, rfl, h1, a1⟩ := dz_tup h
  cases a1 with
  | cons d1 a1 =>
    cases a1 with
    | cons d2 a1 =>
      cases a1
      obtain ⟨b, ys, rfl, h2, a2⟩ := dz_tup d2
      rw [dz_str d1] at h1
      rw [dz_optsI a2] at h2
      exact ⟨a, b, rfl, h1, h2⟩
theorem Dz.rec_ref {H : Hp} {r : Addr} {ds : List PyData} (h : Dz H (.ref r) (.tuple ds)) : H r = some (.tup (match H r with | some (.tup xs) => xs | _ => [])) ∧ DzAll H (match H r with | some (.tup xs) => xs | _ => []) ds := by
  cases h with
  | tup h a => rw [h]; exact ⟨rfl, a⟩
theorem cut_c {K : PySem.W.Frag} {σ : L2.St} {H : Hp} {a : Addr} {lo : Option Int} {Q : VK} (h : rSlA K (.ref a) lo none H Q) : tNoPart σ H (fun u H3 => rSlA K (.ref a) lo u H3 Q) := h
/-- plans in a list in the making, beside the box -/
structure HoldP (cnt : Nat) (is : List I4) (T H : Hp) (p D : Addr) (n : Nat) (vs : List V) : Prop where
  ht : Same T H
  tp : T p = none
  tD : T D = none
  ne : D ≠ p
  at_ : H D = some (.lst vs)
  all : ∀ v ∈ vs, PlanZ cnt is T 13 v
  box : BoxAt H p n
theorem HoldP.gb {cnt : Nat} {is : List I4} {T H T' G : Hp} {p D : Addr} {n m : Nat} {vs : List V} (h : HoldP cnt is T H p D n vs) (g : GB p T H T' G) (B : BoxAt G p m) : HoldP cnt is T' G p D m vs :=
  ⟨g.th, g.new _ h.tp h.box.ne, g.new _ h.tD (by rw [h.at_]; exact fun z => nomatch z), h.ne, g.hh _ _ h.at_ h.ne, fun v hv => (h.all v hv).same g.tt, B⟩
theorem HoldP.put {cnt : Nat} {is : List I4} {T H : Hp} {p D : Addr} {n : Nat} {vs us : List V} (h : HoldP cnt is T H p D n vs) (A : ∀ v ∈ us, PlanZ cnt is T 13 v) : HoldP cnt is T (upd H D (.lst us)) p D n us :=
  ⟨fun b o e => by rw [upd_ne (ne_of_none e h.tD)]; exact h.ht _ _ e, h.tp, h.tD, h.ne, upd_same, A, h.box.upd h.ne⟩
section
variable {P : Program} {w : World} {K : PySem.W.Frag} {mg : Str → Option Value} {base : Heap}
/-! ### _law_open -/
def spOpen (K : PySem.W.Frag) : Sp := fun vs H Q _ => ∃ (p : Addr) (n cnt : Nat) (is : List I4) (T : Hp) (v : V) (gs : List PStep), vs = [.ref p, v] ∧ BoxAt H p n ∧ n ≤ 2 ^ 38 ∧ Same T H ∧ T p = none ∧ Dx K T v (.tuple (gs.map stepD)) ∧ gs.length ≤ 12 ∧ (∀ g ∈ gs, StepOk cnt is g ∧ g.2.length ≤ 12) ∧
  ∀ H' T' r (ps : List PStep), GB p T H T' H' → BoxAt H' p (n + 300) → Dz T' (.ref r) (.tuple (ps.map stepD)) → ps.length = gs.length → (∀ x ∈ ps, StepOk cnt is x) → Q (.ref r) H'
abbrev nOpen : List Str := ["_law_box_here", "_law_found", "_law_plan_here", "_law_name", "_law_given", "_law_wanted", "_law_byte"]
theorem scOpen : FnScope nOpen ["_law_box_here", "_law_found"] (defScope s_law_open) := ⟨rfl, rfl, rfl, by decide +kernel, rfl, by decide +kernel, by decide +kernel⟩
theorem ok_open {f fT : Addr} {fd fdT : FuncData} {k : Nat} (F : Fun K "_law_open" "_law_open" s_law_open f fd) (Ti : Bi mg)
    (Tk : Def K mg "_law_take" sTake fT fdT ["_law_box_here", "_law_many"]) (GT : FnOk P w K mg base CX0 k fT fdT ["_law_box_here", "_law_many"] spTake) :
    FnOk P w K mg base CX0 (k + 1) f fd ["_law_box_here", "_law_found"] (spOpen K) := by
  refine F.ok scOpen (fun vs H Q E h => ?_) (fun cdv A' outer s H vs Q E hr h => ?_)
  · obtain ⟨p, n, cnt, is, T, v, gs, rfl, _⟩ := h
    rfl
  · obtain ⟨p, n, cnt, is, T, v, gs, rfl, B, hn, st, tp, Dv, gl, gok, q⟩ := h
    obtain ⟨a, xs, rfl, ha, Da⟩ := dx_tup Dv
    have lx : xs.length = gs.length := by rw [Da.len, List.length_map]
    refine ⟨_, pss_cons (ps_set (i := 2) scOpen.nd rfl (.inl rfl) (pe_lst pa_nil))
      (pss_cons (ps_for PassesOwn.never rfl (pi_tup (pv 1)) (pg_tup rfl (pgs_cons (pg_name (i := 3) scOpen.nd rfl (.inl rfl)) (pgs_cons (pg_name (i := 4) scOpen.nd rfl (.inl rfl)) pgs_nil)))
        (pss_cons (ps_setLc (i := 5) (own := [("_law_byte", 6)]) (g := gName 6) (tt := tYes) (by rfl) scOpen.nd rfl rfl (sw_true rfl rfl rfl (by decide +kernel)) (pi_tup (pv 4))
            (blkOk_by (own := [("_law_byte", 6)]) (N := nOpen) (sc := defScope s_law_open) (by decide +kernel))
            (fun _ _ _ _ _ => pg_name (i := 6) scOpen.nd rfl (Or.inl rfl)) (fun _ _ _ _ _ => pts_nil)
            (fun _ _ _ _ _ => pe_ifExp (pt_cmpR op_eq (pe_call GT hr (by rfl) Tk.gl Tk.fn.kp Tk.bi .nil pass0 (pa_cons (pv 0) (pa_cons pe_int pa_nil))) pe_int (nomark _)) pe_non (pv 6)))
        (pss_one (ps_expr (pe_bm PySem.F.plainAttrs_list PySem.F.slot_list_append PySem.F.type_list_append mt_append (pv 2) (pa_cons (pe_tup (pa_cons (pv 3) (pa_cons (pe_callTy call_tuple_of (by rfl) Ti.tuple (by decide +kernel) (pa_cons (pv 5) pa_nil)) pa_nil))) pa_nil))))))
      (pss_one (ps_ret (pe_callTy call_tuple_of (by rfl) Ti.tuple (by decide +kernel) (pa_cons (pv 2) pa_nil))))), ?_⟩
    refine ⟨Nat.zero_le _, fun L nL => ?_⟩
    have h0 := HoldZ.start st tp B nL
    have gL : GB p T H T (upd H L (.lst [])) := (GB.refl st).lay _ nL
    refine ⟨_, rfl, a, rfl, ⟨_, gL.th.tup ha⟩, for_tup (K := K) (a := a) (xs := xs) (fun i σ G => ∃ (T2 : Hp) (vs : List V) (ps : List PStep) (y3 y4 y5 : Option V), σ = [some (.ref p), some (.ref a), some (.ref L), y3, y4, y5, none] ∧ GB p T H T2 G ∧ HoldZ T T2 G p L (n + 12 * i) vs (ps.map stepD) ∧ ps.length = i ∧ ∀ x ∈ ps, StepOk cnt is x)
      ⟨T, [], [], none, none, none, rfl, gL, h0, rfl, (fun _ h => nomatch h)⟩ (fun i σ G _ ⟨T2, vs, ps, y3, y4, y5, _, gG, _⟩ => (gG.tt.trans gG.th).tup ha) ?_ ?_⟩
    · rintro i v σ G hv ⟨T2, vs, ps, y3, y4, y5, rfl, gG, hG, pl, pok⟩
      have hi : i < gs.length := by rw [← lx]; exact (List.getElem?_eq_some_iff.mp hv).1
      obtain ⟨d, hd, Dd⟩ := Da.at hv
      rw [List.getElem?_map] at hd
      obtain ⟨g, hg, rfl⟩ := Option.map_eq_some_iff.mp hd
      obtain ⟨gk, gl12⟩ := gok g (List.mem_of_getElem? hg)
      obtain ⟨a1, b1, rfl, h1, h2⟩ := dx_step Dd
      have sT := hG.tt.trans hG.ht
      refine ⟨a1, _, rfl, sT.tup h1, rfl, _, _, rfl, _, _, rfl, rfl, ?_⟩
      refine ⟨_, rfl, b1, rfl, ⟨_, sT.tup h2⟩, fun W nW => lc_tup (K := K) (a := b1) (xs := g.2.map oV) (fun j G => ∃ os : List (Option Int), GB p T H T2 G ∧ HoldZ T T2 G p L (n + 12 * i + j) vs (ps.map stepD) ∧ T2 W = none ∧ G W = some (.lst (os.map oV)) ∧ os.length = j ∧ ∀ b, some b ∈ os → 0 ≤ b ∧ b < (cnt : Int)) ?_ (fun j G _ ⟨os, g5, h5, _⟩ => (h5.tt.trans h5.ht).tup h2) ?_ ?_⟩
      · have eW := (GB.refl (p := p) hG.ht).lay (HO.lst []) nW
        exact ⟨[], gG.trans eW, hG.gb eW (hG.box.same (same_upd nW)), hG.ht.free nW, upd_same, rfl, (fun _ h => nomatch h)⟩
      · rintro j x G5 hx ⟨os, g5, h5, tW, hW, ol, olow⟩
        rw [List.getElem?_map] at hx
        obtain ⟨o, ho, rfl⟩ := Option.map_eq_some_iff.mp hx
        have hj : j < g.2.length := (List.getElem?_eq_some_iff.mp ho).1
        have nWH : H W = none := by
          cases z : H W with
          | none => rfl
          | some o =>
            have := gG.up W (by rw [z]; exact fun y => nomatch y)
            exact absurd nW this
        have Wp : W ≠ p := fun z => by rw [z] at hW; obtain ⟨_, _, _, e, _⟩ := hG.box; rw [z, e] at nW; cases nW
        have WL : W ≠ L := fun z => by rw [z, hG.at_] at nW; cases nW
        refine ⟨rfl, _, rfl, p, (3 : Int), _, rfl, h5.box, by omega, by decide, by decide, fun G6 z b6 B6 z0 z1 f6 => ?_⟩
        have e6 := GB.box h5.ht h5.tp b6 B6
        have h6 := h5.gb e6 B6
        have g6 := g5.trans e6
        have hW6 := e6.hh _ _ hW Wp
        have fin : ∀ o' : Option Int, (∀ c, o' = some c → 0 ≤ c ∧ c < (cnt : Int)) → ∃ acc, G6 W = some (.lst acc) ∧ acc.length < sizeLine ∧ ∃ os : List (Option Int), GB p T H T2 (upd G6 W (.lst (acc ++ [oV o']))) ∧ HoldZ T T2 (upd G6 W (.lst (acc ++ [oV o']))) p L (n + 12 * i + (j + 1)) vs (ps.map stepD) ∧ T2 W = none ∧ (upd G6 W (.lst (acc ++ [oV o']))) W = some (.lst (os.map oV)) ∧ os.length = j + 1 ∧ ∀ b, some b ∈ os → 0 ≤ b ∧ b < (cnt : Int) := fun o' ob => by
          refine ⟨_, hW6, by rw [List.length_map, ol, sizeLine_eq]; omega, os ++ [o'], g6.set _ nWH tW, ?_, tW, by rw [upd_same, List.map_append]; rfl, by rw [List.length_append, ol]; rfl, fun c hc => ?_⟩
          · refine ⟨h6.tt, fun b o e => by rw [upd_ne (ne_of_none e tW)]; exact h6.ht b o e, h6.tp, h6.tD, h6.ne, by rw [upd_ne (Ne.symm WL)]; exact h6.at_, h6.all, ?_⟩
            exact (h6.box.upd Wp).mono (by omega)
          · rcases List.mem_append.mp hc with hc | hc
            · exact olow c hc
            · exact ob c (List.mem_singleton.mp hc).symm
        refine ⟨rfl, _, rfl, ?_⟩
        by_cases cz : z = 0
        · rw [decide_eq_true (congrArg V.int cz)]
          exact iteT (fin none (fun c z => nomatch z))
        · rw [decide_eq_false (fun y => cz (V.int.inj y))]
          exact iteF ⟨_, rfl, fin o (fun c z => gk.low c (z ▸ List.mem_of_getElem? ho))⟩
      · rintro G5 ⟨os, g5, h5, tW, hW, ol, olow⟩
        have hm : (g.2.map oV).length ≤ 12 := by rw [List.length_map]; exact gl12
        rw [List.length_map] at ol
        have nLH : H L = none := nL
        refine ⟨_, rfl, .inl ⟨rfl, _, SqL.of h5.at_⟩, _, rfl, _, rfl, W, _, rfl, .inl ⟨SqL.of hW, fun u nu => ?_⟩⟩
        have k1 := (Grow.refl h5.ht).put (HO.tup (os.map oV)) nu
        have D1 : Dz (upd T2 u (HO.tup (os.map oV))) (.ref u) (.tuple (os.map oD)) := .tup upd_same (dz_opts os)
        have h9 := h5.grow k1
        have g9 := g5.trans (.of k1)
        generalize upd T2 u (HO.tup (os.map oV)) = T4, upd G5 u (HO.tup (os.map oV)) = G6 at *
        refine ⟨by show 2 ≤ sizeLine; decide, fun r2 nr2 => ?_⟩
        have k2 := (Grow.refl h9.ht).put (HO.tup [V.str (txt g.1.nm), V.ref u]) nr2
        have D2 : Dz (upd T4 r2 (HO.tup [V.str (txt g.1.nm), V.ref u])) (.ref r2) (stepD (g.1, os)) := .tup upd_same (.cons (.str _) (.cons (D1.same k2.tt) .nil))
        have h10 := h9.grow k2
        have g10 := g9.trans (.of k2)
        generalize upd T4 r2 (HO.tup [V.str (txt g.1.nm), V.ref u]) = T5, upd G6 r2 (HO.tup [V.str (txt g.1.nm), V.ref u]) = G7 at *
        have vl : vs.length = i := by rw [h10.all.len, List.length_map, pl]
        refine ⟨L, _, _, rfl, rfl, h10.at_, by rw [vl, sizeLine_eq]; omega, T5, vs ++ [V.ref r2], ps ++ [(g.1, os)], _, _, _, rfl, g10.set _ nLH h10.tD, ?_, by rw [List.length_append, pl]; rfl, fun y hy => ?_⟩
        · rw [List.map_append]
          exact (h10.push (.cons D2 .nil)).mono (by omega)
        · rcases List.mem_append.mp hy with hy | hy
          · exact pok y hy
          · rw [List.mem_singleton.mp hy]
            exact ⟨gk.mem, gk.pad, by show os.length + 1 = g.1.ln; rw [ol]; exact gk.len, olow⟩
    · rintro σ G ⟨T2, vs, ps, y3, y4, y5, rfl, gG, hG, pl, pok⟩
      refine ⟨_, rfl, L, _, rfl, .inl ⟨SqL.of hG.at_, fun r nr => ?_⟩⟩
      have k1 := (Grow.refl hG.ht).put (HO.tup vs) nr
      refine q _ _ r ps (gG.trans (.of k1)) ((hG.box.same k1.hh).mono (by omega)) (.tup upd_same (hG.all.same k1.tt)) ?_ pok
      rw [pl, lx]
end
end Ov
namespace Ov
open PySem PySem.Spec PyProof.Rows L2
/-! ### what the defs of a law leave in its world -/
def none0 : Hp := fun _ => none
section
variable {p : Addr} {T M H H' : Hp} {f : Nat} {K : PySem.W.Frag}
theorem Wd.init (s : Same H H') (n : H p = none) (B : BoxAt H' p 0) : Wd p H none0 H' (2 ^ 37) :=
  ⟨s, (fun _ _ e => nomatch e), fun b e => absurd rfl e, (fun _ _ e => nomatch e), n, rfl, 0, B, by omega⟩
theorem Wd.but (W : Wd p T M H f) (b : But p H H') {n f' : Nat} (B : BoxAt H' p n) (l : n + f' ≤ 2 ^ 37) : Wd p T M H' f' :=
  ⟨fun c o e => b _ _ (W.th _ _ e) (ne_of_none e W.tp), fun c o e => b _ _ (W.mh _ _ e) (ne_of_none e W.mp), W.dis, W.nt, W.tp, W.mp, n, B, l⟩
theorem rest_but {H H' : Hp} (b : But p H H') : Same (rest p M H) (rest p M H') := fun c o e => by
  have e2 := rest_same _ _ e
  unfold rest at e ⊢
  by_cases h : c = p
  · rw [if_pos h] at e; cases e
  · rw [if_neg h] at e ⊢
    cases q : M c with
    | some x => rw [q] at e; cases e
    | none => exact b _ _ e2 h
mutual
theorem Dx.restW (W : Wd p T M H f) (nd : ∀ b, M b ≠ some (.dK [])) : ∀ {v : V} {d : PyData}, Dx K H v d → noList d = true → Dx K (rest p M H) v d
  | _, _, .non, _ => .non
  | _, _, .bl b, _ => .bl b
  | _, _, .int i, _ => .int i
  | _, _, .str x, _ => .str x
  | _, _, .dct (a := a) h, _ => .dct (by
      unfold rest
      rw [if_neg (fun z => by obtain ⟨n, ⟨_, _, _, e, _⟩, _⟩ := W.box; rw [z, e] at h; cases h)]
      cases q : M a with
      | some x => have := W.mh _ _ q; rw [h] at this; cases this; exact absurd q (nd a)
      | none => exact h)
  | _, _, .lst _ _, z => by simp [noList] at z
  | _, _, .tup h a, z => .tup (W.sqT h) (DxAll.restW W nd a (by simpa [noList] using z))
theorem DxAll.restW (W : Wd p T M H f) (nd : ∀ b, M b ≠ some (.dK [])) : ∀ {vs : List V} {ds : List PyData}, DxAll K H vs ds → noListAll ds = true → DxAll K (rest p M H) vs ds
  | _, _, .nil, _ => .nil
  | _, _, .cons h a, z => by
    have z' := Bool.and_eq_true_iff.mp (show (noList _ && noListAll _) = true by simpa only [noListAll] using z)
    exact .cons (Dx.restW W nd h z'.1) (DxAll.restW W nd a z'.2)
end
theorem nd0 : ∀ b, none0 b ≠ some (.dK []) := fun _ z => nomatch z
theorem ndL {M : Hp} (h : ∀ b, M b ≠ some (.dK [])) (L : Addr) (xs : List V) : ∀ b, upd M L (.lst xs) b ≠ some (.dK []) := fun b z => by
  by_cases e : b = L
  · rw [e, upd_same] at z; cases z
  · rw [upd_ne e] at z; exact h b z
theorem rest0 {T H : Hp} (W : Wd p T none0 H f) {a : Addr} {o : HO} (h : H a = some o) (l : ∀ xs, o ≠ .lst xs) : rest p none0 H a = some o := by
  unfold rest
  rw [if_neg (fun z => by obtain ⟨n, ⟨_, _, _, e, _⟩, _⟩ := W.box; rw [z, e] at h; cases h; exact l _ rfl)]
  exact h
theorem Tab.restW (W : Wd p T M H f) {t : Addr} {cnt lg : Nat} {is : List I4} {it : Addr} {rs : List Addr} (h : Tab H t cnt lg is it rs) : Tab (rest p M H) t cnt lg is it rs :=
  ⟨W.tup h.at_, W.tup h.its, ⟨h.rows.1, fun i r x h1 h2 => W.tup (h.rows.2 i r x h1 h2)⟩, h.ok⟩
theorem Mach.rest0 {C : Addr} (W : Wd p T none0 H f) {x : Addr} {cnt lg : Nat} {is : List I4} {it : Addr} {rs : List Addr} (h : Mach C H x cnt lg it is rs) : Mach C (rest p none0 H) x cnt lg it is rs := by
  obtain ⟨dx, d1, d2, h1, h2, h3⟩ := h.at_.ob
  exact ⟨⟨dx, d1, d2, Ov.rest0 W h1 (fun _ z => nomatch z), Ov.rest0 W h2 (fun _ z => nomatch z), Ov.rest0 W h3 (fun _ z => nomatch z)⟩, W.tup h.its, ⟨h.rows.1, fun i r x h1 h2 => W.tup (h.rows.2 i r x h1 h2)⟩, h.ok⟩
/-- a new instruction set -/
theorem Wd.mach {C : Addr} (W : Wd p T none0 H f) {x dx cnt lg : Nat} {is : List I4} {it : Addr} {rs : List Addr} {H5 : Hp} (its : T it = some (.tup (rs.map V.ref))) (rows : Rows T rs is) (ok : TabOk cnt lg is) (nx : H x = none) (ndx : H dx = none)
    (SA : SetAt C H5 x cnt it is) (kp : ∀ b o, (upd (upd H dx (.own x)) x (.ins C dx [])) b = some o → b ≠ x → H5 b = some o) : Wd p T none0 H5 f ∧ Mach C H5 x cnt lg it is rs := by
  have s4x : Same H (upd (upd H dx (.own x)) x (.ins C dx [])) := fun b o e => by
    rw [upd_ne (ne_of_none e nx), upd_ne (ne_of_none e ndx)]
    exact e
  have s45 : Same H H5 := fun b o e => kp b o (s4x b o e) (ne_of_none e nx)
  have W5 := W.pure s45
  exact ⟨W5, SA, W5.th _ _ its, rows.same W5.th, ok⟩
theorem Wd.grow (W : Wd p T M H f) {T' : Hp} (g : Grow T H T' H') : Wd p T' M H' f := by
  obtain ⟨n, B, l⟩ := W.box
  exact W.gb (.of g) (B.same g.hh) l
/-- a list display that will change -/
theorem st_lstM {σ : L2.St} {c i F : Nat} {t : TA} {D : Ends} {u : TS} {R : Hp → List V → Prop} (e : EvA p M c t σ T R) (W : Wd p T M H F)
    (k : ∀ T' H' L vs, Same T T' → M L = none → L ≠ p → Wd p T' (upd M L (.lst vs)) H' (F - c) → R T' vs → u D (σ.set i (some (.ref L))) H') (hl : ∀ T' vs, R T' vs → vs.length ≤ sizeLine) (hf : c ≤ F := by omega) : tSeq (tAsg (tLst t) (gName i)) u D σ H :=
  e T H (F - c) _ (Same.refl _) (W.mono (by omega)) fun T2 H2 vs s2 W2 r => ⟨hl _ _ r, fun q nq => k T2 _ q vs s2 (W2.free nq).2.1 (W2.free nq).2.2 (W2.newM _ nq trivial) r⟩
/-- two lists joined to one that will change -/
theorem st_catM {σ : L2.St} {c1 c2 i F : Nat} {ta tb : TE} {D : Ends} {u : TS} {P1 P2 : Hp → List V → Prop} (e1 : Ev p M c1 ta σ T (LstV P1)) (m1 : Mon P1) (e2 : Ev p M c2 tb σ T (LstV P2)) (W : Wd p T M H F)
    (k : ∀ T' H' L xs ys, Same T T' → M L = none → L ≠ p → Wd p T' (upd M L (.lst (xs ++ ys))) H' (F - (c1 + c2)) → P1 T' xs → P2 T' ys → u D (σ.set i (some (.ref L))) H') (hl : ∀ T' xs ys, P1 T' xs → P2 T' ys → xs.length + ys.length ≤ sizeLine) (hf : c1 + c2 ≤ F := by omega) : tSeq (tAsg (tOp rCat ta tb) (gName i)) u D σ H :=
  e1 T H (F - (c1 + c2) + c2) _ (Same.refl _) (W.mono (by omega)) fun T2 H2 v s2 W2 r1 => e2 T2 H2 (F - (c1 + c2)) _ s2 W2 fun T3 H3 w s3 W3 r2 => by
    obtain ⟨a, xs, rfl, ha, r1⟩ := r1
    obtain ⟨b, ys, rfl, hb, r2⟩ := r2
    have r1 := m1 _ _ _ s3 r1
    exact ⟨a, b, xs, ys, rfl, rfl, W3.th _ _ (s3 _ _ ha), W3.th _ _ hb, hl _ _ _ r1 r2, fun q nq => k T3 _ q xs ys (s2.trans s3) (W3.free nq).2.1 (W3.free nq).2.2 (W3.newM _ nq trivial) r1 r2⟩
variable {σ : L2.St} {c c1 c2 : Nat} {ta tb te : TE} {R : Hp → V → Prop}
theorem ev_tup1 {v : V} (e : Ev p M c ta σ T (IsV v)) : Ev p M (c + 0) (tTup (tCons ta tNil)) σ T (TupV K [v]) :=
  (ev_tup (P := fun T' vs => ∃ v' vr, vs = v' :: vr ∧ IsV v T' v' ∧ vr = []) (fun _ _ _ _ h => h) (eva_cons e (mon_is _) eva_nil) (fun T' vs h => by obtain ⟨v, vr, rfl, _, rfl⟩ := h; show 1 ≤ sizeLine; decide)).imp fun T' v s h => by
    obtain ⟨a, xs, rfl, ha, v, vr, rfl, rfl, rfl⟩ := h
    exact ⟨a, rfl, SqT.of ha⟩
theorem ev_tup0 : Ev p M 0 (tTup tNil) σ T (TupV K []) := fun T1 H f Q s W k => ⟨Nat.zero_le _, fun q nq => k _ _ _ (W.putT _ nq) (W.put _ nq) ⟨q, rfl, SqT.of upd_same⟩⟩
theorem ev_lst0 : Ev p M 0 (tLst tNil) σ T (fun T' v => ∃ a, v = .ref a ∧ T' a = some (.lst [])) := fun T1 H f Q s W k => ⟨Nat.zero_le _, fun q nq => k _ _ _ (W.putT _ nq) (W.put _ nq) ⟨q, rfl, upd_same⟩⟩
theorem ev_dct0 : Ev p M 0 tDNewK σ T (fun T' v => ∃ a, v = .ref a ∧ T' a = some (.dK [])) := fun T1 H f Q s W k q nq => k _ _ _ (W.putT _ nq) (W.put _ nq) ⟨q, rfl, upd_same⟩
theorem ev_listOf {xs : List V} (e : Ev p M c te σ T (TupV K xs)) : Ev p M (c + 0) (tCB (fun zs H Q => ∃ a ys, zs = [V.ref a] ∧ (SqL K H a ys ∨ SqT K H a ys) ∧ ∀ l, H l = none → Q (.ref l) (upd H l (.lst ys))) (tCons te tNil)) σ T (LstV fun _ ys => ys = xs) := fun T1 H f Q s W k =>
  e T1 H f _ s W fun T2 H2 v s2 W2 r => by
    obtain ⟨a, rfl, ha⟩ := r
    exact ⟨a, xs, rfl, .inr (W2.th.tup ha), fun l nl => k _ _ _ (s2.trans (W2.putT _ nl)) (W2.put _ nl) ⟨l, xs, rfl, upd_same, rfl⟩⟩
theorem ev_negc {i : Int} : Ev p M 0 (tUn (rU fun i => .int (-i)) (tC (.int i))) σ T (IsV (.int (-i))) := fun T1 H f Q s W k => ⟨i, rfl, k _ _ _ (Same.refl _) W rfl⟩
end
end Ov

namespace Ov
open PySem PySem.Spec PyProof.Rows L2
/-- four values by keywords, in the turned order -/
def rev4 {α : Type} : List α → List α → List α
  | [], [a, b, c, d] => [d, c, b, a]
  | _, _ => []
theorem rev4_len {α : Type} {us ws : List α} (h : (rev4 us ws).length = 4) : ∃ a b c d, us = [] ∧ ws = [a, b, c, d] := by
  match us, ws, h with
  | [], [a, b, c, d], _ => exact ⟨a, b, c, d, rfl, rfl⟩
  | [], [], h => cases h
  | [], [_], h => cases h
  | [], [_, _], h => cases h
  | [], [_, _, _], h => cases h
  | [], _ :: _ :: _ :: _ :: _ :: _, h => cases h
  | _ :: _, _, h => cases h
theorem rev4_rel {vs : List V} {us : List Value} {zs : List V} {ws : List Value} (r : Vals vs us) (rz : Vals zs ws) : Vals (rev4 vs zs) (rev4 us ws) := by
  cases r with
  | nil =>
    cases rz with
    | nil => exact .nil
    | cons r1 rz =>
      cases rz with
      | nil => exact .nil
      | cons r2 rz =>
        cases rz with
        | nil => exact .nil
        | cons r3 rz =>
          cases rz with
          | nil => exact .nil
          | cons r4 rz =>
            cases rz with
            | nil => exact .cons r4 (.cons r3 (.cons r2 (.cons r1 .nil)))
            | cons r5 rz => exact .nil
  | cons r1 r => exact .nil
end Ov

namespace Ov
open PySem PySem.Spec PyProof.Rows L2
theorem fit_all {la : Int → Nat} : ∀ (bs : List Int) (k : Nat) (s : Option Nat), cdEnd la s bs = some 0 → ∀ o ∈ stF la k s bs, k ≤ o ∧ ∀ b, bs[o - k]? = some b → o + la b ≤ k + bs.length
  | [], k, s, _, o, ho => by simp [stF] at ho
  | x :: r, k, s, hc, o, ho => by
    rw [cdEnd_cons] at hc
    have e : stF la k s (x :: r) = stF la k s [x] ++ stF la (k + 1) (cdStep la s x) r := stF_app k s [x] r
    rw [e, stF_one] at ho
    rcases List.mem_append.mp ho with ho1 | ho
    · split at ho1
      · rename_i hs
        obtain ⟨rfl, hl⟩ := hs
        have eo : o = k := List.mem_singleton.mp ho1
        subst eo
        refine ⟨Nat.le_refl _, fun b hb => ?_⟩
        rw [Nat.sub_self] at hb
        have eb : x = b := Option.some.inj hb
        subst eb
        have es : cdStep la (some 0) x = some (la x - 1) := by show (if la x = 0 then none else some (la x - 1)) = _; rw [if_neg (by omega)]
        rw [es] at hc
        rw [List.length_cons]
        by_cases z : r.length ≤ la x - 1
        · rw [cd_over z] at hc
          have := Option.some.inj hc
          omega
        · omega
      · cases ho1
    · obtain ⟨h1, h2⟩ := fit_all r (k + 1) _ hc o ho
      refine ⟨by omega, fun b hb => ?_⟩
      have z := h2 b (by rw [show o - k = (o - (k + 1)) + 1 by omega, List.getElem?_cons_succ] at hb; exact hb)
      rw [List.length_cons]
      omega
theorem _root_.Ov.Ended.fit {la : Int → Nat} {bs : List Int} {e : Nat} {begun : List Nat} (en : Ended la bs e begun bs.length) : ∀ o ∈ begun, ∀ b, bs[o]? = some b → o + la b ≤ bs.length := fun o ho b hb => by
  have hc := en.cd
  rw [if_neg (by omega), Nat.sub_self] at hc
  have hs := en.st
  rw [hs] at ho
  have z := (fit_all bs 0 _ hc o ho).2 b (by rw [Nat.sub_zero]; exact hb)
  omega
theorem decoded_ok {cnt lg : Nat} {is : List I4} (ok : TabOk cnt lg is) {bs : List Int} (bb : ∀ b ∈ bs, 0 ≤ b ∧ b < (cnt : Int)) {e fol : Nat} {begun : List Nat} (he : e ≤ bs.length) (en : Ended (laOf is) bs e begun fol) {gs : List PStep} (h : foundOf is bs begun fol = some gs) : ∀ g ∈ gs, StepOk cnt is g ∧ g.2.length ≤ 12 := by
  intro g hg
  unfold foundOf at h
  split at h
  · rename_i hf
    cases h
    obtain ⟨o, ho, hs⟩ := List.mem_filterMap.mp hg
    obtain ⟨ob, b, hb, hl⟩ := en.lt o ho
    have gd : bs.getD o 0 = b := by rw [List.getD_eq_getElem?_getD, hb]; rfl
    obtain ⟨x, x1, x2, x3, _⟩ := at_of hl
    have sA := stepAt_of (bs := bs) (o := o) (x := x) (by rw [gd]; exact x2)
    rw [sA] at hs
    cases hp : x.pad with
    | true => rw [hp, if_pos rfl] at hs; cases hs
    | false =>
      rw [hp, if_neg (by decide)] at hs
      cases hs
      have xl := ok.len x x1
      have lb := ok.lb
      have fits_ : o + x.ln ≤ bs.length := by
        subst hf
        have z := en.fit o ho b hb
        rw [x3] at z
        exact z
      have ol : (opsOf bs o x.ln).length + 1 = x.ln := by
        unfold opsOf
        rw [List.length_take, List.length_drop]
        omega
      refine ⟨⟨x1, hp, by show ((opsOf bs o x.ln).map some).length + 1 = x.ln; rw [List.length_map]; exact ol, fun c hc => ?_⟩, by show ((opsOf bs o x.ln).map some).length ≤ 12; rw [List.length_map]; omega⟩
      obtain ⟨c', hc', e'⟩ := List.mem_map.mp hc
      cases e'
      exact bb c (List.mem_of_mem_drop (List.mem_of_mem_take hc'))
  · cases h
end Ov
namespace Ov
open PySem PySem.Spec PyProof.Rows L2
/-! ### decoders and states of overlays -/
abbrev Dst := Nat × Bool × Nat
def dstD (d : Dst) : PyData := .tuple [.int (d.1 : Int), .bool d.2.1, .int (d.2.2 : Int)]
def odD : Option Dst → PyData
  | none => .none
  | some d => dstD d
abbrev Sta := Nat × List (Option Dst)
def stD (s : Sta) : PyData := .tuple [.int (s.1 : Int), .tuple (s.2.map odD)]
def taskD (x : PStep) : PyData := .tuple [.int (x.1.op : Int), .tuple (x.2.map oD)]
def padKV (is : List I4) : List (Key × V) := (is.filter fun x : I4 => x.pad).map fun x => ((Sum.inl (x.op : Int) : Key), V.int (x.ln : Int))
def padI (is : List I4) (b : Int) : Option I4 := (is.filter fun x : I4 => x.pad).find? fun x => decide ((x.op : Int) = b)
theorem padKV_more (is : List I4) (x : I4) : padKV (is ++ [x]) = padKV is ++ (if x.pad = true then [((Sum.inl (x.op : Int) : Key), V.int (x.ln : Int))] else []) := by
  unfold padKV
  rw [List.filter_append, List.map_append]
  cases h : x.pad <;> simp [List.filter_cons, h]
theorem val_pad (is : List I4) (b : Int) : valV (padKV is) (Sum.inl b : Key) = (padI is b).map fun x => V.int (x.ln : Int) := by
  unfold valV padKV padI
  induction (is.filter fun x : I4 => x.pad) with
  | nil => rfl
  | cons x l ih =>
    rw [List.map_cons, List.find?_cons, List.find?_cons]
    by_cases e : (x.op : Int) = b
    · subst e; simp
    · rw [decide_eq_false e, decide_eq_false (fun z => e (Sum.inl.inj z))]
      exact ih
theorem padI_in {is : List I4} {b : Int} {x : I4} (h : padI is b = some x) : x ∈ is ∧ x.pad = true ∧ (x.op : Int) = b := by
  have m := List.mem_filter.mp (List.mem_of_find?_eq_some h)
  have z : decide ((x.op : Int) = b) = true := List.find?_some (p := fun x : I4 => decide ((x.op : Int) = b)) h
  exact ⟨m.1, m.2, of_decide_eq_true z⟩
/-- so many bytes left of padding, of a step -/
def padDec (d l : Nat) : Dst := (d, decide (0 < l), l)
def stepDec (d l : Nat) : Dst := if 0 < l then (d, false, l) else (d + 1, false, 0)
/-- a decoder behind one more byte -/
def decB (is : List I4) (ps : List PStep) (d : Dst) (b : Int) : Option Dst :=
  if d.2.1 = true then some (padDec d.1 (d.2.2 - 1))
  else if 0 < d.2.2 then match ps[d.1]? with
    | some x => match x.2[x.2.length - d.2.2]? with
      | some o => if o = none ∨ o = some b then some (stepDec d.1 (d.2.2 - 1)) else none
      | none => none
    | none => none
  else match padI is b with
    | some x => some (padDec d.1 (x.ln - 1))
    | none => match ps[d.1]? with
      | some x => if (x.1.op : Int) = b then some (stepDec d.1 x.2.length) else none
      | none => none
/-- what a decoder can be -/
def DecOk (ps : List PStep) (d : Dst) : Prop := d.1 ≤ ps.length ∧ (d.2.1 = true → 0 < d.2.2) ∧ d.2.2 ≤ 12 ∧ (d.2.1 = false → 0 < d.2.2 → ∃ x, ps[d.1]? = some x ∧ d.2.2 ≤ x.2.length)
theorem decB_ok {cnt lg : Nat} {is : List I4} (ok : TabOk cnt lg is) {ps : List PStep} (pok : ∀ x ∈ ps, StepOk cnt is x) {d : Dst} (h : DecOk ps d) {b : Int} {d' : Dst} (e : decB is ps d b = some d') : DecOk ps d' := by
  have lb := ok.lb
  have sd : ∀ {d l : Nat} {x : PStep}, ps[d]? = some x → l ≤ x.2.length → l ≤ 12 → DecOk ps (stepDec d l) := fun {d l x} hx hl l12 => by
    have il := (List.getElem?_eq_some_iff.mp hx).1
    unfold stepDec
    by_cases z : 0 < l
    · rw [if_pos z]
      exact ⟨Nat.le_of_lt il, (fun z => nomatch z), l12, fun _ _ => ⟨x, hx, hl⟩⟩
    · rw [if_neg z]
      exact ⟨il, (fun z => nomatch z), Nat.zero_le _, fun _ z => absurd z (Nat.lt_irrefl 0)⟩
  have pd : ∀ {d l : Nat}, d ≤ ps.length → l ≤ 12 → DecOk ps (padDec d l) := fun {d l} h1 h2 =>
    ⟨h1, fun z => of_decide_eq_true z, h2, fun z z2 => by
      have : decide (0 < l) = false := z
      have := of_decide_eq_false this
      exact absurd z2 this⟩
  obtain ⟨h1, h2, h3, h4⟩ := h
  unfold decB at e
  by_cases c1 : d.2.1 = true
  · rw [if_pos c1] at e
    cases e
    exact pd h1 (by omega)
  · rw [if_neg c1] at e
    have c1' : d.2.1 = false := by cases z : d.2.1; rfl; exact absurd z c1
    by_cases c2 : 0 < d.2.2
    · rw [if_pos c2] at e
      obtain ⟨x, hx, hl⟩ := h4 c1' c2
      rw [hx] at e
      dsimp only at e
      cases ho : x.2[x.2.length - d.2.2]? with
      | none => rw [ho] at e; cases e
      | some o =>
        rw [ho] at e
        dsimp only at e
        split at e
        · cases e; exact sd hx (by omega) (by omega)
        · cases e
    · rw [if_neg c2] at e
      cases hp : padI is b with
      | some x =>
        rw [hp] at e
        cases e
        have := ok.len x (padI_in hp).1
        exact pd h1 (by omega)
      | none =>
        rw [hp] at e
        dsimp only at e
        cases hx : ps[d.1]? with
        | none => rw [hx] at e; cases e
        | some x =>
          rw [hx] at e
          dsimp only at e
          split at e
          · cases e
            have sx := pok x (List.mem_of_getElem? hx)
            have := sx.len
            have := ok.len x.1 sx.mem
            exact sd hx (Nat.le_refl _) (by omega)
          · cases e
section
variable {P : Program} {w : World} {K : PySem.W.Frag} {mg : Str → Option Value} {base : Heap}
/-! ### padding_by_opcode -/
def spPadBy (C : Addr) : Sp := fun vs H Q _ => ∃ (p it : Addr) (cnt lg : Nat) (is : List I4) (rs : List Addr), vs = [.ref p] ∧ Mach C H p cnt lg it is rs ∧ ∀ H' d, Same H H' → H d = none → H' d = some (.dK (padKV is)) → Q (.ref d) H'
abbrev nPadBy : List Str := ["instruction_set", "opcode", "name", "length", "is_padding"]
theorem scPadBy : FnScope nPadBy ["instruction_set"] (defScope s_padding_by_opcode) := ⟨rfl, rfl, rfl, by decide +kernel, rfl, by decide +kernel, by decide +kernel⟩
theorem ok_padBy {f C : Addr} {fd : FuncData} {k : Nat} (F : Fun K "padding_by_opcode" "padding_by_opcode" s_padding_by_opcode f fd) (S : SetTxt K mg C) :
    FnOk P w K mg base CX0 (k + 1) f fd ["instruction_set"] (spPadBy C) := by
  refine F.ok scPadBy (fun vs H Q E h => ?_) (fun cdv A' outer s H vs Q E hr h => ?_)
  · obtain ⟨p, it, cnt, lg, is, rs, rfl, _⟩ := h
    rfl
  · obtain ⟨p, it, cnt, lg, is, rs, rfl, M, q⟩ := h
    refine ⟨_, pss_one (ps_ret (pe_dc (own := [("opcode", 1), ("name", 2), ("length", 3), ("is_padding", 4)]) (g := (gTup K 4 (gCons (gName 1) (gCons (gName 2) (gCons (gName 3) (gCons (gName 4) gNil)))))) (by rfl) scPadBy.nd (pi_tup (pe_fld (pv 0) rfl)) (blkOk_by (own := [("opcode", 1), ("name", 2), ("length", 3), ("is_padding", 4)]) (N := nPadBy) (sc := defScope s_padding_by_opcode) (by decide +kernel)) (fun _ _ _ _ _ => (pg_tup rfl (pgs_cons (pg_name (i := 1) scPadBy.nd rfl (Or.inl rfl)) (pgs_cons (pg_name (i := 2) scPadBy.nd rfl (Or.inl rfl)) (pgs_cons (pg_name (i := 3) scPadBy.nd rfl (Or.inl rfl)) (pgs_cons (pg_name (i := 4) scPadBy.nd rfl (Or.inl rfl)) pgs_nil)))))) (fun _ _ _ _ _ => pts_one (pt_val (pv 4))) (fun _ _ _ _ _ => (pv 1)) (fun _ _ _ _ _ => (pv 3)))), ?_⟩
    obtain ⟨dx, d1, d2, hp, _⟩ := M.at_.ob
    have few := M.ok.few
    have rl := M.rows.1
    refine ⟨_, rfl, p, C, dx, _, _, rfl, hp, S.cl, S.nI, flds_its _ _ _ _, it, rfl, ⟨_, SqT.of M.its⟩, fun D nD => dc_tup (K := K) (a := it) (xs := rs.map V.ref) (fun i G => Same H G ∧ G D = some (.dK (padKV (is.take i)))) ⟨same_upd nD, upd_same⟩ (fun i G _ p => p.1.tup (SqT.of M.its)) ?_ ?_⟩
    · rintro i x G hx ⟨sG, hD⟩
      obtain ⟨hi, r, rfl, hr2, _⟩ := rows_at M.rows hx
      refine ⟨r, _, rfl, SqT.of (sG _ _ hr2), rfl, _, _, rfl, _, _, rfl, _, _, rfl, _, _, rfl, rfl, rfl, _, rfl, _, rfl, ?_⟩
      rw [take_more (List.getElem?_eq_getElem hi), padKV_more]
      cases hpad : (is[i]).pad with
      | false =>
        refine iteF ?_
        rw [if_neg Bool.false_ne_true, List.append_nil]
        exact ⟨sG, hD⟩
      | true =>
        refine iteT ⟨_, rfl, _, rfl, _, Sum.inl ((is[i]).op : Int), rfl, hD, ?_, fun b o e => ?_, ?_⟩
        · unfold padKV
          rw [List.length_map]
          have := List.length_filter_le (fun x : I4 => x.pad) (is.take i)
          rw [List.length_take] at this
          exact small1000 (by omega)
        · rw [upd_ne (ne_of_none e nD)]
          exact sG b o e
        · rw [upd_same, if_pos rfl, put_fresh]
          intro z
          unfold padKV at z
          rw [List.map_map] at z
          obtain ⟨y, hy, e⟩ := List.mem_map.mp z
          obtain ⟨j, hj, ej⟩ := List.mem_take_iff_getElem.mp (List.mem_filter.mp hy).1
          have e' : (y.op : Int) = ((is[i]).op : Int) := Sum.inl.inj e
          have h1 := List.pairwise_iff_getElem.mp M.ok.asc j i (by rw [List.length_map]; omega) (by rw [List.length_map]; exact hi) (by omega)
          rw [List.getElem_map, List.getElem_map, ej] at h1
          omega
    · rintro G ⟨sG, hD⟩
      rw [List.length_map, rl, List.take_length] at hD
      exact q G D sG nD hD
/-! ### opcode_steps -/
def spOpSteps (K : PySem.W.Frag) (C : Addr) : Sp := fun vs H Q _ => ∃ (p it : Addr) (cnt lg : Nat) (is : List I4) (rs : List Addr) (v : V) (ps : List PStep) (T0 : Hp), vs = [.ref p, v] ∧ Mach C H p cnt lg it is rs ∧ Same T0 H ∧ Dx K T0 v (planD ps) ∧ ps.length ≤ 12 ∧ (∀ x ∈ ps, StepOk cnt is x) ∧
  ∀ H' T' l us, Grow T0 H T' H' → T' l = none → H' l = some (.lst us) → DxAll K T' us (ps.map taskD) → H l = none → Q (.ref l) H'
abbrev nOpSteps : List Str := ["instruction_set", "program", "name", "operands"]
theorem scOpSteps : FnScope nOpSteps ["instruction_set", "program"] (defScope s_opcode_steps) := ⟨rfl, rfl, rfl, by decide +kernel, rfl, by decide +kernel, by decide +kernel⟩
theorem ok_opSteps {f C fIOp : Addr} {fd fdIOp : FuncData} {k : Nat} (F : Fun K "opcode_steps" "opcode_steps" s_opcode_steps f fd) (S : SetTxt K mg C) (MIOp : Meth K C "opcode" fIOp) (bIOp : Binds K fdIOp ["self", "name"] []) (GIOp : FnOk P w K mg base CX0 k fIOp fdIOp ["self", "name"] (spOpc K C)) :
    FnOk P w K mg base CX0 (k + 1) f fd ["instruction_set", "program"] (spOpSteps K C) := by
  refine F.ok scOpSteps (fun vs H Q E h => ?_) (fun cdv A' outer s H vs Q E hr h => ?_)
  · obtain ⟨p, it, cnt, lg, is, rs, v, ps, T0, rfl, _⟩ := h
    rfl
  · obtain ⟨p, it, cnt, lg, is, rs, v, ps, T0, rfl, M, s0, D, l12, pok, q⟩ := h
    refine ⟨_, pss_one (ps_ret (pe_lc (own := [("name", 2), ("operands", 3)]) (g := (gTup K 2 (gCons (gName 2) (gCons (gName 3) gNil)))) (tt := tYes) (by rfl) scOpSteps.nd (pi_tup (pv 1)) (blkOk_by (own := [("name", 2), ("operands", 3)]) (N := nOpSteps) (sc := defScope s_opcode_steps) (by decide +kernel)) (fun _ _ _ _ _ => (pg_tup rfl (pgs_cons (pg_name (i := 2) scOpSteps.nd rfl (Or.inl rfl)) (pgs_cons (pg_name (i := 3) scOpSteps.nd rfl (Or.inl rfl)) pgs_nil)))) (fun _ _ _ _ _ => pts_nil) (fun _ _ _ _ _ => (pe_tup (pa_cons (pe_meth (pv 0) S.cl MIOp GIOp hr bIOp .nil pass0 (pa_cons (pv 2) pa_nil)) (pa_cons (pv 3) pa_nil)))))), ?_⟩
    obtain ⟨a, xs, rfl, ha, DA⟩ := dx_tup D
    have xl : xs.length = ps.length := by rw [DA.len, List.length_map]
    obtain ⟨dx, d1, d2, hp, _⟩ := M.at_.ob
    refine ⟨_, rfl, a, rfl, ⟨_, s0.tup ha⟩, fun L nL => lc_tup (K := K) (a := a) (xs := xs) (fun i G => ∃ T' us, Same H G ∧ Same T0 T' ∧ Coll K T' G L us ((ps.take i).map taskD) ∧ (∀ b, T0 b = none → H b ≠ none → T' b = none)) ⟨T0, [], same_upd nL, Same.refl _, ⟨s0.trans (same_upd nL), s0.free nL, upd_same, .nil⟩, fun _ h _ => h⟩ (fun i G _ ⟨T', us, sG, st, c, _⟩ => (st.trans c.th).tup ha) ?_ ?_⟩
    · rintro i y G hy ⟨T', us, sG, st, c, nw⟩
      obtain ⟨d, hd, Dy⟩ := DA.at hy
      rw [List.getElem?_map] at hd
      obtain ⟨x, hx, rfl⟩ := Option.map_eq_some_iff.mp hd
      have il := (List.getElem?_eq_some_iff.mp hx).1
      have sx := pok x (List.mem_of_getElem? hx)
      obtain ⟨a1, b1, rfl, h1', h2'⟩ := dx_step (Dy.same st)
      have h1 := c.th.tup h1'
      have MG := M.same sG
      refine ⟨a1, _, rfl, h1, rfl, _, _, rfl, _, _, rfl, rfl, rfl, _, rfl, p, dx, _, rfl, sG _ _ hp, no_methO _ _ _ _, _, rfl, p, it, cnt, is, .str (txt x.1.nm), .str (txt x.1.nm), rfl, MG.at_, .str _, ?_⟩
      rw [op_hit M.ok.nd sx.mem]
      refine ⟨_, rfl, by show 2 ≤ sizeLine; decide, fun u nu => ?_⟩
      have g := (Grow.refl c.th).put (HO.tup [V.int (x.1.op : Int), V.ref b1]) nu
      have c2 := c.grow g
      have sG2 := sG.trans g.hh
      refine ⟨us, c2.at_, ?_, _, us ++ [V.ref u], fun b o e => by rw [upd_ne (ne_of_none e nL)]; exact sG2 b o e, st.trans g.tt, ?_, fun b h1 h2 => g.new b (nw b h1 h2) (fun z => h2 (by
        cases q : H b with
        | none => rfl
        | some o => rw [sG _ _ q] at z; cases z))⟩
      · rw [c.all.len, List.length_map, List.length_take, sizeLine_eq]; omega
      · rw [take_more hx, List.map_append]
        exact c2.push (.tup (SqT.of upd_same) (.cons (.int _) (.cons (.tup (g.tt.tup h2') (dz_opts x.2).dx) .nil)))
    · rintro G ⟨T', us, sG, st, c, nw⟩
      rw [xl, List.take_length] at c
      exact q G T' L us ⟨sG, st, c.th, nw⟩ c.td c.at_ c.all nL
end
end Ov
namespace Ov
open PySem PySem.Spec PyProof.Rows L2
section
variable {P : Program} {w : World} {K : PySem.W.Frag} {mg : Str → Option Value} {base : Heap}
/-! ### padding_decoder, step_decoder -/
theorem dx_dst {K : PySem.W.Frag} {H : Hp} {a : Addr} {d : Dst} (h : SqT K H a [.int (d.1 : Int), .bl d.2.1, .int (d.2.2 : Int)]) : Dx K H (.ref a) (dstD d) := .tup h (.cons (.int _) (.cons (.bl _) (.cons (.int _) .nil)))
theorem dst_at {K : PySem.W.Frag} {H : Hp} {v : V} {d : Dst} (h : Dx K H v (dstD d)) : ∃ a, v = .ref a ∧ SqT K H a [.int (d.1 : Int), .bl d.2.1, .int (d.2.2 : Int)] := by
  obtain ⟨a, xs, rfl, h1, a1⟩ := dx_tup h
  cases a1 with
  | cons q1 a1 =>
    cases a1 with
    | cons q2 a1 =>
      cases a1 with
      | cons q3 a1 =>
        cases a1
        rw [dx_int q1, dx_bool q2, dx_int q3] at h1
        exact ⟨a, rfl, h1⟩
def spPadDec (K : PySem.W.Frag) : Sp := fun vs H Q _ => ∃ (d l : Nat), vs = [.int (d : Int), .int (l : Int)] ∧ ∀ H' v, Same H H' → Dx K H' v (dstD (padDec d l)) → Q v H'
abbrev nPadDec : List Str := ["done", "left"]
theorem scPadDec : FnScope nPadDec ["done", "left"] (defScope s_padding_decoder) := ⟨rfl, rfl, rfl, by decide +kernel, rfl, by decide +kernel, by decide +kernel⟩
theorem ok_padDec {f : Addr} {fd : FuncData} {k : Nat} (F : Fun K "padding_decoder" "padding_decoder" s_padding_decoder f fd) :
    FnOk P w K mg base CX0 (k + 1) f fd ["done", "left"] (spPadDec K) := by
  refine F.ok scPadDec (fun vs H Q E h => ?_) (fun cdv A' outer s H vs Q E hr h => ?_)
  · obtain ⟨d, l, rfl, _⟩ := h
    rfl
  · obtain ⟨d, l, rfl, q⟩ := h
    refine ⟨_, pss_one (ps_ret (pe_tup (pa_cons (pv 0) (pa_cons (pe_cmpR op_gt (pv 1) pe_int (nomark _)) (pa_cons (pv 1) pa_nil))))), ?_⟩
    refine ⟨_, rfl, _, rfl, _, _, rfl, rfl, _, rfl, by show 3 ≤ sizeLine; decide, fun r nr => q _ _ (same_upd nr) (dx_dst ?_)⟩
    have e : decide ((0 : Int) < (l : Int)) = decide (0 < l) := decide_eq_decide.mpr (by omega)
    have z := SqT.of (K := K) (@upd_same H r (HO.tup [V.int (d : Int), V.bl (decide ((0 : Int) < (l : Int))), V.int (l : Int)]))
    unfold padDec
    rw [← e]
    exact z
def spStepDec (K : PySem.W.Frag) : Sp := fun vs H Q _ => ∃ (d l : Nat), vs = [.int (d : Int), .int (l : Int)] ∧ ∀ H' v, Same H H' → Dx K H' v (dstD (stepDec d l)) → Q v H'
abbrev nStepDec : List Str := ["done", "left"]
theorem scStepDec : FnScope nStepDec ["done", "left"] (defScope s_step_decoder) := ⟨rfl, rfl, rfl, by decide +kernel, rfl, by decide +kernel, by decide +kernel⟩
theorem ok_stepDec {f : Addr} {fd : FuncData} {k : Nat} (F : Fun K "step_decoder" "step_decoder" s_step_decoder f fd) :
    FnOk P w K mg base CX0 (k + 1) f fd ["done", "left"] (spStepDec K) := by
  refine F.ok scStepDec (fun vs H Q E h => ?_) (fun cdv A' outer s H vs Q E hr h => ?_)
  · obtain ⟨d, l, rfl, _⟩ := h
    rfl
  · obtain ⟨d, l, rfl, q⟩ := h
    refine ⟨_, pss_one (ps_ret (pe_ifExp (pt_cmpR op_gt (pv 1) pe_int (nomark _)) (pe_tup (pa_cons (pv 0) (pa_cons pe_bl (pa_cons (pv 1) pa_nil)))) (pe_tup (pa_cons (pe_op op_add (pv 0) pe_int) (pa_cons pe_bl (pa_cons pe_int pa_nil)))))), ?_⟩
    refine ⟨_, rfl, _, _, rfl, rfl, _, rfl, ?_⟩
    by_cases h : 0 < l
    · rw [decide_eq_true (show (0 : Int) < (l : Int) by omega)]
      refine iteT ⟨_, rfl, _, rfl, by show 3 ≤ sizeLine; decide, fun r nr => q _ _ (same_upd nr) ?_⟩
      unfold stepDec
      rw [if_pos h]
      exact dx_dst (SqT.of upd_same)
    · rw [decide_eq_false (show ¬ (0 : Int) < (l : Int) by omega)]
      refine iteF ⟨_, rfl, _, _, rfl, rfl, by show 3 ≤ sizeLine; decide, fun r nr => q _ _ (same_upd nr) ?_⟩
      unfold stepDec
      rw [if_neg h]
      have z := SqT.of (K := K) (@upd_same H r (HO.tup [V.int ((d : Int) + 1), V.bl false, V.int 0]))
      exact dx_dst (d := (d + 1, false, 0)) z
/-! ### decoder_behind -/
def spDecB (K : PySem.W.Frag) : Sp := fun vs H Q _ => ∃ (Pd l : Addr) (cnt lg : Nat) (is : List I4) (us : List V) (ps : List PStep) (v : V) (d : Dst) (b : Int), vs = [.ref Pd, .ref l, v, .int b] ∧ H Pd = some (.dK (padKV is)) ∧ H l = some (.lst us) ∧ DxAll K H us (ps.map taskD) ∧ Dx K H v (dstD d) ∧ DecOk ps d ∧ TabOk cnt lg is ∧ (∀ x ∈ ps, StepOk cnt is x) ∧ ps.length ≤ 12 ∧
  ∀ H' v', Same H H' → Dx K H' v' (odD (decB is ps d b)) → Q v' H'
abbrev nDecB : List Str := ["padding", "steps", "decoder", "byte", "done", "is_padding", "left", "operands", "wanted"]
theorem scDecB : FnScope nDecB ["padding", "steps", "decoder", "byte"] (defScope s_decoder_behind) := ⟨rfl, rfl, rfl, by decide +kernel, rfl, by decide +kernel, by decide +kernel⟩
theorem ok_decB {f fStepDecoder fPaddingDecoder : Addr} {fd fdStepDecoder fdPaddingDecoder : FuncData} {k : Nat} (F : Fun K "decoder_behind" "decoder_behind" s_decoder_behind f fd) (T : Bi mg) (StepDecoder : Def K mg "step_decoder" s_step_decoder fStepDecoder fdStepDecoder ["done", "left"]) (GStepDecoder : FnOk P w K mg base CX0 k fStepDecoder fdStepDecoder ["done", "left"] (spStepDec K)) (PaddingDecoder : Def K mg "padding_decoder" s_padding_decoder fPaddingDecoder fdPaddingDecoder ["done", "left"]) (GPaddingDecoder : FnOk P w K mg base CX0 k fPaddingDecoder fdPaddingDecoder ["done", "left"] (spPadDec K)) :
    FnOk P w K mg base CX0 (k + 1) f fd ["padding", "steps", "decoder", "byte"] (spDecB K) := by
  refine F.ok scDecB (fun vs H Q E h => ?_) (fun cdv A' outer s H vs Q E hr h => ?_)
  · obtain ⟨Pd, l, cnt, lg, is, us, ps, v, d, b, rfl, _⟩ := h
    rfl
  · obtain ⟨Pd, l, cnt, lg, is, us, ps, v, d, b, rfl, hP, hl, Du, Dv, dok, ok, pok, p12, q⟩ := h
    have hu := hu_of hr
    refine ⟨_, pss_cons (ps_asg (pv 2) (pg_tup rfl (pgs_cons (pg_name (i := 4) scDecB.nd rfl (.inl rfl)) (pgs_cons (pg_name (i := 5) scDecB.nd rfl (.inl rfl)) (pgs_cons (pg_name (i := 6) scDecB.nd rfl (.inl rfl)) pgs_nil)))))
      (pss_cons (ps_if (pt_val (pv 5)) (pss_one (ps_ret (pe_call GPaddingDecoder hr (by rfl) PaddingDecoder.gl PaddingDecoder.fn.kp PaddingDecoder.bi .nil pass0 (pa_cons (pv 4) (pa_cons (pe_op op_sub (pv 6) pe_int) pa_nil))))) pss_nil)
      (pss_cons (ps_if (pt_cmpR op_gt (pv 6) pe_int (nomark _)) (pss_cons (ps_set (i := 7) scDecB.nd rfl (.inl rfl) (pe_ix ix_tup (pe_ix ix_list (pv 1) (pv 4) (fun _ _ => rfl)) pe_int (fun _ _ => rfl)))
      (pss_cons (ps_set (i := 8) scDecB.nd rfl (.inl rfl) (pe_ix ix_tup (pv 7) (pe_op op_sub (pe_callB call_len_seq (by rfl) T.len PySem.boot_len (pa_cons (pv 7) pa_nil)) (pv 6)) (fun _ _ => rfl)))
      (pss_one (ps_ret (pe_ifExp (PW.pt (pw_or (pt_cmpR op_isN (pv 8) pe_non (nomark _)) (pw_or1 (pt_cmpR op_eq (pv 8) (pv 3) (nomark _))))) (pe_call GStepDecoder hr (by rfl) StepDecoder.gl StepDecoder.fn.kp StepDecoder.bi .nil pass0 (pa_cons (pv 4) (pa_cons (pe_op op_sub (pv 6) pe_int) pa_nil))) pe_non))))) pss_nil)
      (pss_cons (ps_if (pt_cmp (pc_din hu (pv 3) (pv 0))) (pss_one (ps_ret (pe_call GPaddingDecoder hr (by rfl) PaddingDecoder.gl PaddingDecoder.fn.kp PaddingDecoder.bi .nil pass0 (pa_cons (pv 4) (pa_cons (pe_op op_sub (pe_dget hu (pv 0) (pv 3) (fun _ _ => rfl)) pe_int) pa_nil))))) pss_nil)
      (pss_cons (ps_if (PW.pt (pw_and (pt_cmpR op_lt (pv 4) (pe_callB call_len_seq (by rfl) T.len PySem.boot_len (pa_cons (pv 1) pa_nil)) (nomark _)) (pw_and1 (pt_cmpR op_eq (pe_ix ix_tup (pe_ix ix_list (pv 1) (pv 4) (fun _ _ => rfl)) pe_int (fun _ _ => rfl)) (pv 3) (nomark _))))) (pss_one (ps_ret (pe_call GStepDecoder hr (by rfl) StepDecoder.gl StepDecoder.fn.kp StepDecoder.bi .nil pass0 (pa_cons (pv 4) (pa_cons (pe_callB call_len_seq (by rfl) T.len PySem.boot_len (pa_cons (pe_ix ix_tup (pe_ix ix_list (pv 1) (pv 4) (fun _ _ => rfl)) pe_int (fun _ _ => rfl)) pa_nil)) pa_nil))))) pss_nil)
      (pss_one (ps_ret pe_non)))))), ?_⟩
    obtain ⟨a, rfl, ha⟩ := dst_at Dv
    obtain ⟨dn, pd, lf⟩ := d
    obtain ⟨h1, h2, h3, h4⟩ := dok
    dsimp only at h1 h2 h3 h4
    have ul : us.length = ps.length := by rw [Du.len, List.length_map]
    refine ⟨_, rfl, a, _, rfl, ha, rfl, _, _, rfl, _, _, rfl, _, _, rfl, rfl, _, rfl, _, rfl, ?_⟩
    cases pd with
    | true =>
      have l0 : 0 < lf := h2 rfl
      have em : ((lf - 1 : Nat) : Int) = (lf : Int) - 1 := by omega
      refine iteT ⟨_, rfl, _, rfl, _, _, rfl, rfl, dn, lf - 1, (by rw [em]; rfl), fun H' v' s' D' => q H' v' s' D'⟩
    | false =>
      refine iteF ⟨_, rfl, _, _, rfl, rfl, _, rfl, ?_⟩
      by_cases l0 : 0 < lf
      · rw [decide_eq_true (show (0 : Int) < (lf : Int) by omega)]
        obtain ⟨x, hx, lx⟩ := h4 rfl l0
        have em : ((lf - 1 : Nat) : Int) = (lf : Int) - 1 := by omega
        have il := (List.getElem?_eq_some_iff.mp hx).1
        obtain ⟨u, hu'⟩ : ∃ u, us[dn]? = some u := ⟨us[dn]'(by rw [ul]; exact il), List.getElem?_eq_getElem _⟩
        obtain ⟨dd, hdd, Dd⟩ := Du.at hu'
        rw [List.getElem?_map, hx] at hdd
        cases hdd
        obtain ⟨t1, y1, y2, rfl, ht1, D1, D2⟩ := dx_two Dd
        obtain ⟨op, os, rfl, hop, Dop⟩ := dx_tup D2
        have eos := dx_opts Dop
        subst eos
        have at1 : atI [y1, V.ref op] 1 = some (.ref op) := atI_nat (j := 1) rfl
        have at2 : atI us (dn : Int) = some (.ref t1) := atI_nat hu'
        have io : x.2.length - lf < x.2.length := by omega
        obtain ⟨o, ho⟩ : ∃ o, x.2[x.2.length - lf]? = some o := ⟨x.2[x.2.length - lf], List.getElem?_eq_getElem io⟩
        have at3 : atI (x.2.map oV) (((x.2.map oV).length : Int) - (lf : Int)) = some (oV o) := by
          rw [List.length_map, show ((x.2.length : Int) - (lf : Int)) = ((x.2.length - lf : Nat) : Int) by omega]
          exact atI_nat (by rw [List.getElem?_map, ho]; rfl)
        have eq1 : decB is ps (dn, false, lf) b = if o = none ∨ o = some b then some (stepDec dn (lf - 1)) else none := by
          unfold decB
          rw [if_neg (show ¬ (false = true) by decide), if_pos l0]
          show (match ps[dn]? with | some x => (match x.2[x.2.length - lf]? with | some o => if o = none ∨ o = some b then some (stepDec dn (lf - 1)) else none | none => none) | none => none) = _
          rw [hx]
          dsimp only
          rw [ho]
        rw [eq1] at q
        refine iteT ⟨_, rfl, _, rfl, l, _, _, _, rfl, rfl, SqL.of hl, at2, t1, _, _, _, rfl, rfl, ht1, at1, ?_⟩
        refine ⟨_, rfl, _, rfl, op, _, rfl, .inr hop, _, rfl, _, _, rfl, rfl, op, _, _, _, rfl, rfl, hop, at3, ?_⟩
        have yes : (o = none ∨ o = some b) → spStepDec K [V.int (dn : Int), V.int ((lf : Int) - 1)] H Q E0 := fun c =>
          ⟨dn, lf - 1, (by rw [em]), fun H' v' s' D' => q H' v' s' (by rw [if_pos c]; exact D')⟩
        cases o with
        | none =>
          refine ⟨_, rfl, rfl, _, rfl, iteT ⟨_, rfl, _, rfl, _, _, rfl, rfl, ?_⟩⟩
          exact yes (.inl rfl)
        | some z =>
          refine ⟨_, rfl, rfl, _, rfl, iteF ⟨_, rfl, _, rfl, rfl, _, rfl, ?_⟩⟩
          by_cases e : z = b
          · subst e
            rw [decide_eq_true (show oV (some z) = V.int z from rfl)]
            refine iteT ⟨_, rfl, _, rfl, _, _, rfl, rfl, ?_⟩
            exact yes (.inr rfl)
          · rw [decide_eq_false (show ¬ oV (some z) = V.int b from fun w => e (V.int.inj w))]
            refine iteF (q H .non (Same.refl _) ?_)
            rw [if_neg (by rintro (w | w); cases w; exact e (Option.some.inj w))]
            exact .non
      · rw [decide_eq_false (show ¬ (0 : Int) < (lf : Int) by omega)]
        obtain rfl : lf = 0 := by omega
        have vp := val_pad is b
        refine iteF ⟨_, rfl, _, rfl, Pd, _, rfl, DGet.k (k := Sum.inl b) hP, _, rfl, ?_⟩
        rw [vp]
        cases hp : padI is b with
        | some x =>
          have eq2 : decB is ps (dn, false, 0) b = some (padDec dn (x.ln - 1)) := by
            unfold decB
            rw [if_neg (show ¬ (false = true) by decide), if_neg (Nat.lt_irrefl 0), hp]
          rw [eq2] at q
          rw [hp] at vp
          have xl := (ok.len x (padI_in hp).1).1
          have g : DGet H Pd (.int b) (some (V.int (x.ln : Int))) := by
            have z := DGet.k (k := Sum.inl b) hP
            rw [vp] at z
            exact z
          refine iteT ⟨_, rfl, _, rfl, _, rfl, Pd, _, rfl, g, _, _, rfl, rfl, dn, x.ln - 1, (by rw [show ((x.ln - 1 : Nat) : Int) = (x.ln : Int) - 1 by omega]; rfl), fun H' v' s' D' => q H' v' s' D'⟩
        | none =>
          have eq3 : decB is ps (dn, false, 0) b = match ps[dn]? with | some x => if (x.1.op : Int) = b then some (stepDec dn x.2.length) else none | none => none := by
            unfold decB
            rw [if_neg (show ¬ (false = true) by decide), if_neg (Nat.lt_irrefl 0), hp]
            all_goals rfl
          rw [eq3] at q
          refine iteF ⟨_, rfl, _, rfl, l, _, rfl, .inl (SqL.of hl), _, _, rfl, rfl, _, rfl, ?_⟩
          by_cases hd : dn < ps.length
          · rw [decide_eq_true (show (dn : Int) < (us.length : Int) by omega)]
            have hx : ps[dn]? = some ps[dn] := List.getElem?_eq_getElem hd
            obtain ⟨u, hu'⟩ : ∃ u, us[dn]? = some u := ⟨us[dn]'(by rw [ul]; exact hd), List.getElem?_eq_getElem _⟩
            obtain ⟨dd, hdd, Dd⟩ := Du.at hu'
            rw [List.getElem?_map, hx] at hdd
            cases hdd
            rw [hx] at q
            dsimp only at q
            generalize ps[dn] = x at *
            obtain ⟨t1, y1, y2, rfl, ht1, D1, D2⟩ := dx_two Dd
            obtain ⟨op, os, rfl, hop, Dop⟩ := dx_tup D2
            have eos := dx_opts Dop
            subst eos
            have ey := dx_int D1
            subst ey
            have at1 : atI [V.int (x.1.op : Int), V.ref op] 1 = some (.ref op) := atI_nat (j := 1) rfl
            have at0 : atI [V.int (x.1.op : Int), V.ref op] 0 = some (.int (x.1.op : Int)) := atI_nat (j := 0) rfl
            have at2 : atI us (dn : Int) = some (.ref t1) := atI_nat hu'
            refine iteT ⟨_, rfl, _, rfl, l, _, _, _, rfl, rfl, SqL.of hl, at2, t1, _, _, _, rfl, rfl, ht1, at0, _, rfl, rfl, _, rfl, ?_⟩
            by_cases e : (x.1.op : Int) = b
            · rw [decide_eq_true (congrArg V.int e)]
              rw [if_pos e] at q
              refine iteT ⟨_, rfl, _, rfl, _, rfl, l, _, _, _, rfl, rfl, SqL.of hl, at2, t1, _, _, _, rfl, rfl, ht1, at1, op, _, rfl, .inr hop, dn, x.2.length, (show [V.int (dn : Int), V.int ((x.2.map oV).length : Int)] = _ by rw [List.length_map]), fun H' v' s' D' => q H' v' s' D'⟩
            · rw [decide_eq_false (fun w => e (V.int.inj w))]
              rw [if_neg e] at q
              exact iteF (q H .non (Same.refl _) .non)
          · rw [decide_eq_false (show ¬ (dn : Int) < (us.length : Int) by omega)]
            rw [List.getElem?_eq_none (by omega)] at q
            exact iteF (q H .non (Same.refl _) .non)
end
end Ov
namespace Ov
open PySem PySem.Spec PyProof.Rows L2
/-! ### StateMachine -/
structure MacTxt (K : PySem.W.Frag) (mg : Str → Option Value) (C : Addr) : Prop where
  cl : Cls K C
  nE : NoAttr K C "entries"
  nP : NoAttr K C "padding"
  nT : NoAttr K C "tasks"
  nD : NoAttr K C "ends"
  nB : NoAttr K C "every_byte"
  mgC : mg "StateMachine" = some (.ref C)
def mf1 (E : Addr) : List (Str × V) := putF "entries" (.ref E) []
def mf2 (E Pd : Addr) : List (Str × V) := putF "padding" (.ref Pd) (mf1 E)
def mf3 (E Pd Tk : Addr) : List (Str × V) := putF "tasks" (.ref Tk) (mf2 E Pd)
def mf4 (E Pd Tk D : Addr) : List (Str × V) := putF "ends" (.ref D) (mf3 E Pd Tk)
def mf5 (E Pd Tk D B : Addr) : List (Str × V) := putF "every_byte" (.ref B) (mf4 E Pd Tk D)
section
variable (E Pd Tk D B : Addr)
theorem mf_E : (mf5 E Pd Tk D B).lookup ("entries" : Str) = some (.ref E) := by
  unfold mf5 mf4 mf3 mf2 mf1
  rw [lookup_putF, if_neg (by decide +kernel), lookup_putF, if_neg (by decide +kernel), lookup_putF, if_neg (by decide +kernel), lookup_putF, if_neg (by decide +kernel), lookup_putF, if_pos rfl]
theorem mf_P : (mf5 E Pd Tk D B).lookup ("padding" : Str) = some (.ref Pd) := by
  unfold mf5 mf4 mf3 mf2
  rw [lookup_putF, if_neg (by decide +kernel), lookup_putF, if_neg (by decide +kernel), lookup_putF, if_neg (by decide +kernel), lookup_putF, if_pos rfl]
theorem mf_T : (mf5 E Pd Tk D B).lookup ("tasks" : Str) = some (.ref Tk) := by
  unfold mf5 mf4 mf3
  rw [lookup_putF, if_neg (by decide +kernel), lookup_putF, if_neg (by decide +kernel), lookup_putF, if_pos rfl]
theorem mf_D : (mf5 E Pd Tk D B).lookup ("ends" : Str) = some (.ref D) := by
  unfold mf5 mf4
  rw [lookup_putF, if_neg (by decide +kernel), lookup_putF, if_pos rfl]
theorem mf_B : (mf5 E Pd Tk D B).lookup ("every_byte" : Str) = some (.ref B) := by
  unfold mf5
  rw [lookup_putF, if_pos rfl]
theorem mf_no {m : Str} (h : m ∉ (["entries", "padding", "tasks", "ends", "every_byte"] : List Str)) : (mf5 E Pd Tk D B).lookup m = none := by
  simp only [List.mem_cons, List.not_mem_nil, or_false, not_or] at h
  unfold mf5 mf4 mf3 mf2 mf1
  rw [lookup_putF, if_neg h.2.2.2.2, lookup_putF, if_neg h.2.2.2.1, lookup_putF, if_neg h.2.2.1, lookup_putF, if_neg h.2.1, lookup_putF, if_neg h.1]
  rfl
end
/-- what each decoder is to run: lists of (opcode, operands) -/
def TasksAt (K : PySem.W.Frag) (H : Hp) (tvs : List V) (pss : List (List PStep)) : Prop := tvs.length = pss.length ∧ ∀ (i : Nat) (v : V) (ps : List PStep), tvs[i]? = some v → pss[i]? = some ps → ∃ (l : Addr) (us : List V), v = .ref l ∧ H l = some (.lst us) ∧ DxAll K H us (ps.map taskD)
theorem TasksAt.same {K : PySem.W.Frag} {H H' : Hp} {tvs : List V} {pss : List (List PStep)} (h : TasksAt K H tvs pss) (s : Same H H') : TasksAt K H' tvs pss := ⟨h.1, fun i v ps h1 h2 => by
  obtain ⟨l, us, e, h3, h4⟩ := h.2 i v ps h1 h2
  exact ⟨l, us, e, s _ _ h3, h4.same s⟩⟩
def endD2 (ps : List PStep) : PyData := dstD (ps.length, false, 0)
structure MacAt (K : PySem.W.Frag) (Cm : Addr) (H : Hp) (m : Addr) (cnt : Nat) (is : List I4) (pss : List (List PStep)) (gs : List Nat) : Prop where
  ob : ∃ (dx E Pd Tk D B : Addr) (tvs : List V), H m = some (.ins Cm dx (mf5 E Pd Tk D B)) ∧ SqT K H E (entV gs) ∧ H Pd = some (.dK (padKV is)) ∧ H Tk = some (.lst tvs) ∧ TasksAt K H tvs pss ∧ Dx K H (.ref D) (.tuple (pss.map endD2)) ∧ H B = some (.lst ((List.range cnt).map natV))
theorem MacAt.same {K : PySem.W.Frag} {Cm : Addr} {H H' : Hp} {m : Addr} {cnt : Nat} {is : List I4} {pss : List (List PStep)} {gs : List Nat} (h : MacAt K Cm H m cnt is pss gs) (s : Same H H') : MacAt K Cm H' m cnt is pss gs := by
  obtain ⟨dx, E, Pd, Tk, D, B, tvs, h1, h2, h3, h4, h5, h6, h7⟩ := h.ob
  exact ⟨dx, E, Pd, Tk, D, B, tvs, s _ _ h1, s.tup h2, s _ _ h3, s _ _ h4, h5.same s, h6.same s, s _ _ h7⟩
/-! ### what stands beside an instance that is being filled -/
section
variable {K : PySem.W.Frag} {m : Addr} {H H' : Hp} {C dx : Addr} {fs : List (Str × V)}
theorem sqT_but (hm : H m = some (.ins C dx fs)) (b : But m H H') {a : Addr} {xs : List V} (h : SqT K H a xs) : SqT K H' a xs := by
  rcases h with (h | ⟨o, h⟩) | h
  · exact .inl (.inl (b _ _ h fun z => by rw [z, hm] at h; cases h))
  · exact .inl (.inr ⟨o, b _ _ h fun z => by rw [z, hm] at h; cases h⟩)
  · exact .inr h
mutual
theorem Dx.butI (hm : H m = some (.ins C dx fs)) (b : But m H H') : ∀ {v : V} {d : PyData}, Dx K H v d → Dx K H' v d
  | _, _, .non => .non
  | _, _, .bl b => .bl b
  | _, _, .int i => .int i
  | _, _, .str x => .str x
  | _, _, .dct h => .dct (b _ _ h fun z => by rw [z, hm] at h; cases h)
  | _, _, .lst h a => .lst (by
      rcases h with (h | ⟨o, h⟩) | h
      · exact .inl (.inl (b _ _ h fun z => by rw [z, hm] at h; cases h))
      · exact .inl (.inr ⟨o, b _ _ h fun z => by rw [z, hm] at h; cases h⟩)
      · exact .inr h) (DxAll.butI hm b a)
  | _, _, .tup h a => .tup (sqT_but hm b h) (DxAll.butI hm b a)
theorem DxAll.butI (hm : H m = some (.ins C dx fs)) (b : But m H H') : ∀ {vs : List V} {ds : List PyData}, DxAll K H vs ds → DxAll K H' vs ds
  | _, _, .nil => .nil
  | _, _, .cons h a => .cons (Dx.butI hm b h) (DxAll.butI hm b a)
end
theorem But.updI (o : HO) : But m H (upd H m o) := fun b x e n => by rw [upd_ne n]; exact e
end
section
variable {P : Program} {w : World} {K : PySem.W.Frag} {mg : Str → Option Value} {base : Heap}
abbrev sStateMachine_init : Stmt := inClass cStateMachine 0
def spInitM (K : PySem.W.Frag) (C Cm : Addr) : Sp := fun vs H Q _ => ∃ (m p l g dx it : Addr) (cnt lg : Nat) (is : List I4) (rs : List Addr) (xs : List V) (pss : List (List PStep)) (gs : List Nat), vs = [.ref m, .ref p, .ref l, .ref g] ∧ H m = some (.ins Cm dx []) ∧ Mach C H p cnt lg it is rs ∧ SqT K H l xs ∧ DxAll K H xs (pss.map planD) ∧ Plns cnt is pss ∧ SqT K H g (entV gs) ∧
  ∀ H', MacAt K Cm H' m cnt is pss gs → (∀ b o, H b = some o → b ≠ m → H' b = some o) → Q .non H'
abbrev nInitM : List Str := ["self", "instruction_set", "programs", "entries", "program"]
theorem scInitM : FnScope nInitM ["self", "instruction_set", "programs", "entries"] (defScope sStateMachine_init) := ⟨rfl, rfl, rfl, by decide +kernel, rfl, by decide +kernel, by decide +kernel⟩
theorem ok_initM {f C Cm fOpcodeSteps fPaddingByOpcode : Addr} {fd fdOpcodeSteps fdPaddingByOpcode : FuncData} {k : Nat} (F : Fun K "__init__" "StateMachine.__init__" sStateMachine_init f fd) (T : Bi mg) (S : SetTxt K mg C) (Sm : MacTxt K mg Cm) (OpcodeSteps : Def K mg "opcode_steps" s_opcode_steps fOpcodeSteps fdOpcodeSteps ["instruction_set", "program"]) (GOpcodeSteps : FnOk P w K mg base CX0 k fOpcodeSteps fdOpcodeSteps ["instruction_set", "program"] (spOpSteps K C)) (PaddingByOpcode : Def K mg "padding_by_opcode" s_padding_by_opcode fPaddingByOpcode fdPaddingByOpcode ["instruction_set"]) (GPaddingByOpcode : FnOk P w K mg base CX0 k fPaddingByOpcode fdPaddingByOpcode ["instruction_set"] (spPadBy C)) :
    FnOk P w K mg base CX0 (k + 1) f fd ["self", "instruction_set", "programs", "entries"] (spInitM K C Cm) := by
  refine F.ok scInitM (fun vs H Q E h => ?_) (fun cdv A' outer s H vs Q E hr h => ?_)
  · obtain ⟨m, p, l, g, dx, it, cnt, lg, is, rs, xs, pss, gs, rfl, _⟩ := h
    rfl
  · obtain ⟨m, p, l, g, dx, it, cnt, lg, is, rs, xs, pss, gs, rfl, hm, M, hl, Dl, ok, hg, q⟩ := h
    refine ⟨_, pss_cons (ps_fld (pv 0) (pv 3) rfl)
      (pss_cons (ps_fld (pv 0) (pe_call GPaddingByOpcode hr (by rfl) PaddingByOpcode.gl PaddingByOpcode.fn.kp PaddingByOpcode.bi .nil pass0 (pa_cons (pv 1) pa_nil)) rfl)
      (pss_cons (ps_fld (pv 0) (pe_lc (own := [("program", 4)]) (g := (gName 4)) (tt := tYes) (by rfl) scInitM.nd (pi_tup (pv 2)) (blkOk_by (own := [("program", 4)]) (N := nInitM) (sc := defScope sStateMachine_init) (by decide +kernel)) (fun _ _ _ _ _ => (pg_name (i := 4) scInitM.nd rfl (Or.inl rfl))) (fun _ _ _ _ _ => pts_nil) (fun _ _ _ _ _ => (pe_call GOpcodeSteps hr (by rfl) OpcodeSteps.gl OpcodeSteps.fn.kp OpcodeSteps.bi .nil pass0 (pa_cons (pv 1) (pa_cons (pv 4) pa_nil))))) rfl)
      (pss_cons (ps_fld (pv 0) (pe_callTy call_tuple_of (by rfl) T.tuple (by decide +kernel) (pa_cons (pe_lc (own := [("program", 4)]) (g := (gName 4)) (tt := tYes) (by rfl) scInitM.nd (pi_tup (pv 2)) (blkOk_by (own := [("program", 4)]) (N := nInitM) (sc := defScope sStateMachine_init) (by decide +kernel)) (fun _ _ _ _ _ => (pg_name (i := 4) scInitM.nd rfl (Or.inl rfl))) (fun _ _ _ _ _ => pts_nil) (fun _ _ _ _ _ => (pe_tup (pa_cons (pe_callB (r := rLen K) cr_len (by rfl) T.len PySem.boot_len (pa_cons (pv 4) pa_nil)) (pa_cons pe_bl (pa_cons pe_int pa_nil)))))) pa_nil)) rfl)
      (pss_one (ps_fld (pv 0) (pe_listRange (by rfl) T.list (by rfl) T.range (pe_fld (pv 1) rfl)) rfl))))), ?_⟩
    have xl : xs.length = pss.length := by rw [Dl.len, List.length_map]
    have few := ok.few
    obtain ⟨px, p1, p2, hp, hp1, hp2⟩ := M.at_.ob
    have pm : p ≠ m := fun z => by rw [z, hm] at hp; cases hp
    -- entries
    refine ⟨_, rfl, _, rfl, m, Cm, dx, [], rfl, hm, Sm.cl, Sm.nE, (by show 0 < 1000; decide), ?_⟩
    have b1 : But m H (upd H m (.ins Cm dx (mf1 g))) := But.updI _
    have m1 : upd H m (.ins Cm dx (mf1 g)) m = some (.ins Cm dx (mf1 g)) := upd_same
    show tSeq _ _ _ _ (upd H m (.ins Cm dx (mf1 g)))
    generalize upd H m (.ins Cm dx (mf1 g)) = H1 at *
    have machB : ∀ {G : Hp}, But m H G → Mach C G p cnt lg it is rs := fun {G} b => ⟨⟨px, p1, p2, b _ _ hp pm, b _ _ hp1 (fun z => by rw [z, hm] at hp1; cases hp1), b _ _ hp2 (fun z => by rw [z, hm] at hp2; cases hp2)⟩, b _ _ M.its (fun z => by have h := M.its; rw [z, hm] at h; cases h), ⟨M.rows.1, fun i r x h1 h2 => b _ _ (M.rows.2 i r x h1 h2) fun z => by have h := M.rows.2 i r x h1 h2; rw [z, hm] at h; cases h⟩, M.ok⟩
    -- padding
    refine ⟨_, rfl, p, it, cnt, lg, is, rs, rfl, machB b1, fun H2 Pd s2 nPd hPd => ?_⟩
    have m2 := s2 _ _ m1
    have b2 := b1.trans (But.of s2)
    have Pm : Pd ≠ m := fun z => by rw [z, m2] at hPd; cases hPd
    refine ⟨_, rfl, m, Cm, dx, _, rfl, m2, Sm.cl, Sm.nP, (by show 1 < 1000; decide), ?_⟩
    have b3 := b2.trans (But.updI (.ins Cm dx (mf2 g Pd)))
    have b23 : But m H2 (upd H2 m (.ins Cm dx (mf2 g Pd))) := But.updI _
    have m3 : upd H2 m (.ins Cm dx (mf2 g Pd)) m = some (.ins Cm dx (mf2 g Pd)) := upd_same
    show tSeq _ _ _ _ (upd H2 m (.ins Cm dx (mf2 g Pd)))
    generalize upd H2 m (.ins Cm dx (mf2 g Pd)) = H3 at *
    have hPd3 := b23 _ _ hPd Pm
    have hl3 := sqT_but hm b3 hl
    have Dl3 := Dl.butI hm b3
    -- tasks
    refine ⟨_, rfl, l, rfl, ⟨_, hl3⟩, fun L nL => lc_tup (K := K) (a := l) (xs := xs) (fun i G => ∃ T' tvs, Same H3 G ∧ Same H3 T' ∧ Same T' G ∧ T' L = none ∧ G L = some (.lst tvs) ∧ TasksAt K T' tvs (pss.take i)) ⟨H3, [], same_upd nL, Same.refl _, same_upd nL, nL, upd_same, rfl, fun i v ps h => by simp at h⟩ (fun i G _ ⟨T', tvs, sG, _⟩ => sG.tup hl3) ?_ ?_⟩
    · rintro i y G hy ⟨T', tvs, sG, st, tg, tL, hL, TA⟩
      obtain ⟨d, hd, Dy⟩ := Dl3.at hy
      rw [List.getElem?_map] at hd
      obtain ⟨ps, hps, rfl⟩ := Option.map_eq_some_iff.mp hd
      have il := (List.getElem?_eq_some_iff.mp hps).1
      obtain ⟨l12, sok⟩ := ok.ok ps (List.mem_of_getElem? hps)
      refine ⟨rfl, _, rfl, _, rfl, p, it, cnt, lg, is, rs, y, ps, T', rfl, machB (b3.trans (But.of sG)), tg, Dy.same st, l12, sok, fun H' T2 u us g2 nu hu Du nuG => ?_⟩
      have uL : u ≠ L := fun z => by rw [z, hL] at nuG; cases nuG
      have s3 : Same T2 (upd T2 u (.lst us)) := same_upd nu
      have tvl : tvs.length = i := by rw [TA.1, List.length_take]; omega
      refine ⟨tvs, g2.hh _ _ hL, by rw [sizeLine_eq]; omega, upd T2 u (.lst us), tvs ++ [.ref u], fun b o e => ?_, st.trans (g2.tt.trans s3), fun b o e => ?_, ?_, upd_same, ?_⟩
      · rw [upd_ne (ne_of_none e nL)]; exact g2.hh _ _ (sG _ _ e)
      · by_cases z : b = u
        · subst z
          rw [upd_same] at e
          cases e
          rw [upd_ne uL]
          exact hu
        · rw [upd_ne z] at e
          rw [upd_ne (fun w => by rw [w, g2.new L tL (by rw [hL]; exact fun z => nomatch z)] at e; cases e)]
          exact g2.th _ _ e
      · rw [upd_ne (Ne.symm uL)]
        exact g2.new L tL (by rw [hL]; exact fun z => nomatch z)
      · rw [take_more hps]
        refine ⟨by rw [List.length_append, List.length_append, TA.1]; rfl, fun j v ps' h1 h2 => ?_⟩
        rw [List.getElem?_append] at h1 h2
        have lt : (pss.take i).length = i := by rw [List.length_take]; omega
        rw [lt] at h2
        rw [tvl] at h1
        by_cases hj : j < i
        · rw [if_pos hj] at h1 h2
          obtain ⟨l', us', e1, e2, e3⟩ := (TA.same (g2.tt.trans s3)).2 j v ps' h1 h2
          exact ⟨l', us', e1, e2, e3⟩
        · rw [if_neg hj] at h1 h2
          have j0 : j - i = 0 := by
            cases hji : j - i with
            | zero => rfl
            | succ k => rw [hji] at h1; simp at h1
          rw [j0] at h1 h2
          cases h1
          cases h2
          exact ⟨u, us, rfl, upd_same, Du.same s3⟩
    rintro H4 ⟨T4, tvs, s34, st4, t4, tL, hTk, TA⟩
    rw [xl, List.take_length] at TA
    have TA := TA.same t4
    have m4 := s34 _ _ m3
    have b4 := b3.trans (But.of s34)
    have Tm : L ≠ m := fun z => by rw [z, m4] at hTk; cases hTk
    refine ⟨_, rfl, m, Cm, dx, _, rfl, m4, Sm.cl, Sm.nT, (by show 2 < 1000; decide), ?_⟩
    have b5 := b4.trans (But.updI (.ins Cm dx (mf3 g Pd L)))
    have b45 : But m H4 (upd H4 m (.ins Cm dx (mf3 g Pd L))) := But.updI _
    have m5 : upd H4 m (.ins Cm dx (mf3 g Pd L)) m = some (.ins Cm dx (mf3 g Pd L)) := upd_same
    show tSeq _ _ _ _ (upd H4 m (.ins Cm dx (mf3 g Pd L)))
    generalize upd H4 m (.ins Cm dx (mf3 g Pd L)) = H5 at *
    have tab : ∀ {G : Hp}, But m H4 G → TasksAt K G tvs pss := fun {G} b => ⟨TA.1, fun i v ps h1 h2 => by
      obtain ⟨l', us', e1, e2, e3⟩ := TA.2 i v ps h1 h2
      exact ⟨l', us', e1, b _ _ e2 (fun z => by rw [z, m4] at e2; cases e2), e3.butI m4 b⟩⟩
    have hl5 := sqT_but hm b5 hl
    have Dl5 := Dl.butI hm b5
    -- ends
    refine ⟨_, rfl, l, rfl, ⟨_, hl5⟩, fun L2 nL2 => lc_tup (K := K) (a := l) (xs := xs) (fun i G => ∃ T' us, Same H5 T' ∧ Coll K T' G L2 us ((pss.take i).map endD2)) ⟨H5, [], Same.refl _, ⟨same_upd nL2, nL2, upd_same, .nil⟩⟩ (fun i G _ ⟨T', us, st, c⟩ => (st.trans c.th).tup hl5) ?_ ?_⟩
    · rintro i y G hy ⟨T', us, st, c⟩
      obtain ⟨d, hd, Dy⟩ := Dl5.at hy
      rw [List.getElem?_map] at hd
      obtain ⟨ps, hps, rfl⟩ := Option.map_eq_some_iff.mp hd
      have il := (List.getElem?_eq_some_iff.mp hps).1
      obtain ⟨a, zs, rfl, ha, DA⟩ := dx_tup (Dy.same (st.trans c.th))
      have zl : zs.length = ps.length := by rw [DA.len, List.length_map]
      refine ⟨rfl, _, rfl, a, _, rfl, .inr ha, by show 3 ≤ sizeLine; decide, fun u nu => ?_⟩
      have g2 := (Grow.refl c.th).put (HO.tup [V.int (zs.length : Int), V.bl false, V.int 0]) nu
      have c2 := c.grow g2
      refine ⟨us, c2.at_, by rw [c.all.len, List.length_map, List.length_take, sizeLine_eq]; omega, _, us ++ [.ref u], st.trans g2.tt, ?_⟩
      rw [take_more hps, List.map_append]
      refine c2.push (dx_dst (d := (ps.length, false, 0)) ?_)
      have z := SqT.of (K := K) (@upd_same T' u (HO.tup [V.int (zs.length : Int), V.bl false, V.int 0]))
      rw [zl] at z ⊢
      exact z
    rintro H6 ⟨T6, us, st6, c6⟩
    rw [xl, List.take_length] at c6
    refine ⟨L2, _, rfl, .inl ⟨SqL.of c6.at_, fun D nD => ?_⟩⟩
    have s7 : Same H5 (upd H6 D (.tup us)) := (st6.trans c6.th).trans (same_upd nD)
    have hD7 : Dx K (upd H6 D (.tup us)) (.ref D) (.tuple (pss.map endD2)) := .tup (SqT.of upd_same) (c6.all.same (c6.th.trans (same_upd nD)))
    generalize upd H6 D (.tup us) = H7 at *
    have m7 := s7 _ _ m5
    have b7 := b5.trans (But.of s7)
    refine ⟨_, rfl, m, Cm, dx, _, rfl, m7, Sm.cl, Sm.nD, (by show 3 < 1000; decide), ?_⟩
    have b8 := b7.trans (But.updI (.ins Cm dx (mf4 g Pd L D)))
    have b78 : But m H7 (upd H7 m (.ins Cm dx (mf4 g Pd L D))) := But.updI _
    have m8 : upd H7 m (.ins Cm dx (mf4 g Pd L D)) m = some (.ins Cm dx (mf4 g Pd L D)) := upd_same
    show Ends.nx _ _ (upd H7 m (.ins Cm dx (mf4 g Pd L D)))
    generalize upd H7 m (.ins Cm dx (mf4 g Pd L D)) = H8 at *
    -- every byte
    have M8 := machB b8
    obtain ⟨px', q1, q2, hp8, _⟩ := M8.at_.ob
    have cb := M.ok.cb
    refine ⟨_, rfl, p, C, px', _, _, rfl, hp8, S.cl, S.nB, flds_cnt _ _ _ _, cnt, rfl, by omega, fun B nB => ?_⟩
    have s9 := same_upd (o := HO.lst ((List.range cnt).map fun i : Nat => V.int (i : Int))) nB
    have hB : upd H8 B (HO.lst ((List.range cnt).map fun i : Nat => V.int (i : Int))) B = some (.lst ((List.range cnt).map natV)) := upd_same
    generalize upd H8 B (HO.lst ((List.range cnt).map fun i : Nat => V.int (i : Int))) = H9 at *
    have m9 := s9 _ _ m8
    refine ⟨_, rfl, m, Cm, dx, _, rfl, m9, Sm.cl, Sm.nB, (by show 4 < 1000; decide), ?_⟩
    have b10 := (b8.trans (But.of s9)).trans (But.updI (.ins Cm dx (mf5 g Pd L D B)))
    have b9 : But m H9 (upd H9 m (.ins Cm dx (mf5 g Pd L D B))) := But.updI _
    have Bm : B ≠ m := fun z => by rw [z, m9] at hB; cases hB
    refine q (upd H9 m (.ins Cm dx (mf5 g Pd L D B))) ⟨dx, g, Pd, L, D, B, tvs, upd_same, sqT_but hm b10 hg, ?_, ?_, tab ?_, ?_, b9 _ _ hB Bm⟩ b10
    · exact b9 _ _ (s9 _ _ (b78 _ _ (s7 _ _ (b45 _ _ (s34 _ _ hPd3) Pm)) Pm)) Pm
    · exact b9 _ _ (s9 _ _ (b78 _ _ (s7 _ _ (b45 _ _ hTk Tm)) Tm)) Tm
    · exact ((((b45.trans (But.of s7)).trans b78).trans (But.of s9)).trans b9)
    · exact ((hD7.butI m7 b78).same s9).butI m9 b9
end
end Ov
namespace Ov
open PySem PySem.Spec PyProof.Rows L2
/-! ### the first state, the state behind a byte -/
def first0 (gs : List Nat) : Sta := (0, gs.map fun g => if g = 0 then some (0, false, 0) else none)
def movB (is : List I4) (r : Nat) (b : Int) (q : Option Dst × Nat × List PStep) : Option (Option Dst) := match q.1 with
  | some d => (decB is q.2.2 d b).map some
  | none => some (if q.2.1 = r then some (0, false, 0) else none)
def movs (is : List I4) (r : Nat) (b : Int) (zs : List (Option Dst × Nat × List PStep)) : Option (List (Option Dst)) := zs.foldlM (fun acc q => (movB is r b q).map fun x => acc ++ [x]) []
theorem movs_more {is : List I4} {r : Nat} {b : Int} (zs : List (Option Dst × Nat × List PStep)) (q : Option Dst × Nat × List PStep) : movs is r b (zs ++ [q]) = (movs is r b zs).bind fun acc => (movB is r b q).map fun x => acc ++ [x] := by
  unfold movs
  rw [List.foldlM_append]
  show (List.foldlM _ [] zs >>= fun acc => List.foldlM _ acc [q]) = _
  congr 1
  funext acc
  simp [List.foldlM]
theorem movs_none {is : List I4} {r : Nat} {b : Int} {zs : List (Option Dst × Nat × List PStep)} : ∀ (ws : List (Option Dst × Nat × List PStep)), movs is r b zs = none → movs is r b (zs ++ ws) = none
  | [], h => by rw [List.append_nil]; exact h
  | w :: ws, h => by
    rw [show zs ++ w :: ws = (zs ++ [w]) ++ ws by simp]
    exact movs_none ws (by rw [movs_more, h]; rfl)
def zips (s : Sta) (gs : List Nat) (pss : List (List PStep)) : List (Option Dst × Nat × List PStep) := s.2.zip (gs.zip pss)
def lastG (gs : List Nat) : Nat := gs.getLast?.getD 0
def behind (is : List I4) (pss : List (List PStep)) (gs : List Nat) (s : Sta) (b : Int) : Option Sta := (movs is (min (s.1 + 1) (lastG gs)) b (zips s gs pss)).map fun ds => (min (s.1 + 1) (lastG gs), ds)
def ostD : Option Sta → PyData
  | none => .none
  | some s => stD s
/-- a state that can be -/
structure StaOk (pss : List (List PStep)) (gs : List Nat) (s : Sta) : Prop where
  len : s.2.length = pss.length
  dec : ∀ (i : Nat) (d : Dst) (ps : List PStep), s.2[i]? = some (some d) → pss[i]? = some ps → DecOk ps d
  few : s.1 ≤ 1000
theorem dx_st {K : PySem.W.Frag} {H : Hp} {v : V} {s : Sta} (h : Dx K H v (stD s)) : ∃ a b xs, v = .ref a ∧ SqT K H a [.int (s.1 : Int), .ref b] ∧ SqT K H b xs ∧ DxAll K H xs (s.2.map odD) := by
  obtain ⟨a, x, y, rfl, h1, D1, D2⟩ := dx_two h
  obtain ⟨b, xs, rfl, h2, DA⟩ := dx_tup D2
  rw [dx_int D1] at h1
  exact ⟨a, b, xs, rfl, h1, h2, DA⟩
section
variable {P : Program} {w : World} {K : PySem.W.Frag} {mg : Str → Option Value} {base : Heap}
abbrev sStateMachine_first_state : Stmt := inClass cStateMachine 1
abbrev sStateMachine_state_behind : Stmt := inClass cStateMachine 3
def spFirst (K : PySem.W.Frag) (Cm : Addr) : Sp := fun vs H Q _ => ∃ (m : Addr) (cnt : Nat) (is : List I4) (pss : List (List PStep)) (gs : List Nat), vs = [.ref m] ∧ MacAt K Cm H m cnt is pss gs ∧ gs.length ≤ 13 ∧ ∀ H' v, Same H H' → Dx K H' v (stD (first0 gs)) → Q v H'
abbrev nFirstM : List Str := ["self", "entry"]
theorem scFirstM : FnScope nFirstM ["self"] (defScope sStateMachine_first_state) := ⟨rfl, rfl, rfl, by decide +kernel, rfl, by decide +kernel, by decide +kernel⟩
theorem ok_firstM {f Cm : Addr} {fd : FuncData} {k : Nat} (F : Fun K "first_state" "StateMachine.first_state" sStateMachine_first_state f fd) (T : Bi mg) (Sm : MacTxt K mg Cm) :
    FnOk P w K mg base CX0 (k + 1) f fd ["self"] (spFirst K Cm) := by
  refine F.ok scFirstM (fun vs H Q E h => ?_) (fun cdv A' outer s H vs Q E hr h => ?_)
  · obtain ⟨m, cnt, is, pss, gs, rfl, _⟩ := h
    rfl
  · obtain ⟨m, cnt, is, pss, gs, rfl, MA, few, q⟩ := h
    refine ⟨_, pss_one (ps_ret (pe_tup (pa_cons pe_int (pa_cons (pe_callTy call_tuple_of (by rfl) T.tuple (by decide +kernel) (pa_cons (pe_lc (own := [("entry", 1)]) (g := (gName 1)) (tt := tYes) (by rfl) scFirstM.nd (pi_tup (pe_fld (pv 0) rfl)) (blkOk_by (own := [("entry", 1)]) (N := nFirstM) (sc := defScope sStateMachine_first_state) (by decide +kernel)) (fun _ _ _ _ _ => (pg_name (i := 1) scFirstM.nd rfl (Or.inl rfl))) (fun _ _ _ _ _ => pts_nil) (fun _ _ _ _ _ => (pe_ifExp (pt_cmpR op_eq (pv 1) pe_int (nomark _)) (pe_tup (pa_cons pe_int (pa_cons pe_bl (pa_cons pe_int pa_nil)))) pe_non))) pa_nil)) pa_nil)))), ?_⟩
    obtain ⟨dx, E, Pd, Tk, D, B, tvs, hm, hE, _⟩ := MA.ob
    refine ⟨_, rfl, m, Cm, dx, _, _, rfl, hm, Sm.cl, Sm.nE, mf_E _ _ _ _ _, E, rfl, ⟨_, hE⟩, fun L nL => lc_tup (K := K) (a := E) (xs := entV gs) (fun i G => ∃ T' us, Same H T' ∧ Coll K T' G L us (((gs.take i).map fun g => if g = 0 then some (0, false, 0) else none).map odD)) ⟨H, [], Same.refl _, ⟨same_upd nL, nL, upd_same, .nil⟩⟩ (fun i G _ ⟨T', us, st, c⟩ => (st.trans c.th).tup hE) ?_ ?_⟩
    · rintro i y G hy ⟨T', us, st, c⟩
      rw [List.getElem?_map, List.getElem?_map] at hy
      obtain ⟨z, hz, rfl⟩ := Option.map_eq_some_iff.mp hy
      obtain ⟨g, hg, rfl⟩ := Option.map_eq_some_iff.mp hz
      have il := (List.getElem?_eq_some_iff.mp hg).1
      have sz : us.length < sizeLine := by rw [c.all.len, List.length_map, List.length_map, List.length_take, sizeLine_eq]; omega
      refine ⟨rfl, _, rfl, rfl, _, rfl, ?_⟩
      rw [take_more hg, List.map_append, List.map_append]
      by_cases g0 : g = 0
      · subst g0
        rw [decide_eq_true (show V.int ((0 : Nat) : Int) = V.int 0 from rfl)]
        refine iteT ⟨by show 3 ≤ sizeLine; decide, fun u nu => ?_⟩
        have g2 := (Grow.refl c.th).put (HO.tup [V.int 0, V.bl false, V.int 0]) nu
        have c2 := c.grow g2
        exact ⟨us, c2.at_, sz, _, us ++ [.ref u], st.trans g2.tt, c2.push (dx_dst (d := (0, false, 0)) (SqT.of upd_same))⟩
      · rw [decide_eq_false (show ¬ V.int (g : Int) = V.int 0 from fun z => g0 (by have := V.int.inj z; omega))]
        refine iteF ⟨us, c.at_, sz, T', us ++ [.non], st, ?_⟩
        have e : ([g].map fun g => if g = 0 then some ((0, false, 0) : Dst) else none).map odD = [.none] := by
          show [odD (if g = 0 then some (0, false, 0) else none)] = _
          rw [if_neg g0]
          rfl
        rw [e]
        exact c.push .non
    · rintro G ⟨T', us, st, c⟩
      rw [List.length_map, List.length_map, List.take_length] at c
      refine ⟨L, _, rfl, .inl ⟨SqL.of c.at_, fun r nr => ⟨by show 2 ≤ sizeLine; decide, fun u nu => ?_⟩⟩⟩
      have s1 := same_upd (o := HO.tup us) nr
      have s2 := same_upd (o := HO.tup [V.int 0, V.ref r]) nu
      refine q _ _ ((st.trans c.th).trans (s1.trans s2)) (.tup (SqT.of upd_same) (.cons (.int _) (.cons (.tup (SqT.of (s2 _ _ upd_same)) ?_) .nil)))
      exact c.all.same (c.th.trans (s1.trans s2))
def spBehindM (K : PySem.W.Frag) (Cm : Addr) : Sp := fun vs H Q _ => ∃ (m : Addr) (cnt lg : Nat) (is : List I4) (pss : List (List PStep)) (gs : List Nat) (v : V) (s : Sta) (b : Int), vs = [.ref m, v, .int b] ∧ MacAt K Cm H m cnt is pss gs ∧ TabOk cnt lg is ∧ Plns cnt is pss ∧ gs ≠ [] ∧ gs.length = pss.length ∧ Dx K H v (stD s) ∧ StaOk pss gs s ∧
  ∀ H' v', Same H H' → Dx K H' v' (ostD (behind is pss gs s b)) → Q v' H'
abbrev nBehindM : List Str := ["self", "state", "byte", "offset", "decoders", "reached", "moved", "decoder", "entry", "steps", "behind"]
theorem scBehindM : FnScope nBehindM ["self", "state", "byte"] (defScope sStateMachine_state_behind) := ⟨rfl, rfl, rfl, by decide +kernel, rfl, by decide +kernel, by decide +kernel⟩
theorem ok_behindM {f Cm fDecoderBehind : Addr} {fd fdDecoderBehind : FuncData} {k : Nat} (F : Fun K "state_behind" "StateMachine.state_behind" sStateMachine_state_behind f fd) (T : Bi mg) (Sm : MacTxt K mg Cm) (DecoderBehind : Def K mg "decoder_behind" s_decoder_behind fDecoderBehind fdDecoderBehind ["padding", "steps", "decoder", "byte"]) (GDecoderBehind : FnOk P w K mg base CX0 k fDecoderBehind fdDecoderBehind ["padding", "steps", "decoder", "byte"] (spDecB K)) :
    FnOk P w K mg base CX0 (k + 1) f fd ["self", "state", "byte"] (spBehindM K Cm) := by
  refine F.ok scBehindM (fun vs H Q E h => ?_) (fun cdv A' outer s H vs Q E hr h => ?_)
  · obtain ⟨m, cnt, lg, is, pss, gs, v, s, b, rfl, _⟩ := h
    rfl
  · obtain ⟨m, cnt, lg, is, pss, gs, v, s, b, rfl, MA, ok, pl, gne, lgp, Dv, sok, q⟩ := h
    refine ⟨_, pss_cons (ps_asg (pv 1) (pg_tup rfl (pgs_cons (pg_name (i := 3) scBehindM.nd rfl (.inl rfl)) (pgs_cons (pg_name (i := 4) scBehindM.nd rfl (.inl rfl)) pgs_nil))))
      (pss_cons (ps_set (i := 5) scBehindM.nd rfl (.inl rfl) (pe_callB (call_min2 rfl) (by rfl) T.min (by decide +kernel) (pa_cons (pe_op op_add (pv 3) pe_int) (pa_cons (pe_ix ix_tup (pe_fld (pv 0) rfl) (pe_un un_neg pe_int) (fun _ _ => rfl)) pa_nil))))
      (pss_cons (ps_set (i := 6) scBehindM.nd rfl (.inl rfl) (pe_lst pa_nil))
      (pss_cons (ps_for PassesOwn.never rfl (Zq.pi_zip3 (by rfl) T.zip (pa_cons (pv 4) (pa_cons (pe_fld (pv 0) rfl) (pa_cons (pe_fld (pv 0) rfl) pa_nil)))) (pg_tup rfl (pgs_cons (pg_name (i := 7) scBehindM.nd rfl (.inl rfl)) (pgs_cons (pg_name (i := 8) scBehindM.nd rfl (.inl rfl)) (pgs_cons (pg_name (i := 9) scBehindM.nd rfl (.inl rfl)) pgs_nil)))) (pss_one (ps_if (pt_cmpR op_notN (pv 7) pe_non (nomark _)) (pss_cons (ps_set (i := 10) scBehindM.nd rfl (.inl rfl) (pe_call GDecoderBehind hr (by rfl) DecoderBehind.gl DecoderBehind.fn.kp DecoderBehind.bi .nil pass0 (pa_cons (pe_fld (pv 0) rfl) (pa_cons (pv 9) (pa_cons (pv 7) (pa_cons (pv 2) pa_nil))))))
      (pss_cons (ps_if (pt_cmpR op_isN (pv 10) pe_non (nomark _)) (pss_one (ps_ret pe_non)) pss_nil)
      (pss_one (ps_expr (pe_bm PySem.F.plainAttrs_list PySem.F.slot_list_append PySem.F.type_list_append mt_append (pv 6) (pa_cons (pv 10) pa_nil)))))) (pss_one (ps_expr (pe_bm PySem.F.plainAttrs_list PySem.F.slot_list_append PySem.F.type_list_append mt_append (pv 6) (pa_cons (pe_ifExp (pt_cmpR op_eq (pv 8) (pv 5) (nomark _)) (pe_tup (pa_cons pe_int (pa_cons pe_bl (pa_cons pe_int pa_nil)))) pe_non) pa_nil)))))))
      (pss_one (ps_ret (pe_tup (pa_cons (pv 5) (pa_cons (pe_callTy call_tuple_of (by rfl) T.tuple (by decide +kernel) (pa_cons (pv 6) pa_nil)) pa_nil)))))))), ?_⟩
    obtain ⟨dx, E, Pd, Tk, D, B, tvs, hm, hE, hPd, hTk, TA, _⟩ := MA.ob
    obtain ⟨a, c, xs, rfl, ha, hc, DA⟩ := dx_st Dv
    have l3 := pl.few
    have sl := sok.len
    have sf := sok.few
    have xl : xs.length = pss.length := by rw [DA.len, List.length_map, sl]
    obtain ⟨gr, z, eg⟩ : ∃ (gr : List Nat) (z : Nat), gs = gr ++ [z] := by
      rcases List.eq_nil_or_concat gs with e0 | ⟨gr, z, e0⟩
      · exact absurd e0 gne
      · exact ⟨gr, z, by rw [e0, List.concat_eq_append]⟩
    have ez : lastG gs = z := by rw [eg]; unfold lastG; simp
    have hEz : atI (entV gs) (-1) = some (V.int (z : Int)) := by
      have e : entV gs = entV gr ++ [V.int (z : Int)] := by
        rw [eg]
        show ((gr ++ [z]).map fun n : Nat => (n : Int)).map V.int = _
        rw [List.map_append, List.map_append]
        rfl
      rw [e]
      exact atI_last _ _
    refine ⟨_, rfl, a, _, rfl, ha, rfl, _, _, rfl, _, _, rfl, rfl, ?_⟩
    refine ⟨_, rfl, _, _, rfl, rfl, _, rfl, m, Cm, dx, _, _, rfl, hm, Sm.cl, Sm.nE, mf_E _ _ _ _ _, _, rfl, E, _, _, _, rfl, rfl, hE, hEz, _, _, rfl, ?_⟩
    have er : (if (z : Int) < (s.1 : Int) + 1 then (z : Int) else (s.1 : Int) + 1) = ((min (s.1 + 1) (lastG gs) : Nat) : Int) := by
      rw [ez]
      split <;> omega
    show tSeq _ _ _ [some (V.ref m), some (V.ref a), some (V.int b), some (V.int (s.1 : Int)), some (V.ref c), some (V.int (if (z : Int) < (s.1 : Int) + 1 then (z : Int) else (s.1 : Int) + 1)), none, none, none, none, none] H
    rw [er]
    unfold behind at q
    generalize hr' : min (s.1 + 1) (lastG gs) = r at *
    have r1 : r ≤ 1001 := by omega
    refine ⟨Nat.zero_le _, fun L nL => ?_⟩
    have zl : (zips s gs pss).length = xs.length := by unfold zips; rw [List.length_zip, List.length_zip, lgp, sl, xl]; omega
    refine ⟨_, rfl, _, rfl, m, Cm, dx, _, _, rfl, (same_upd nL) _ _ hm, Sm.cl, Sm.nE, mf_E _ _ _ _ _, _, rfl, m, Cm, dx, _, _, rfl, (same_upd nL) _ _ hm, Sm.cl, Sm.nT, mf_T _ _ _ _ _, c, E, Tk, xs, entV gs, tvs, rfl, (same_upd nL).tup hc, (same_upd nL).tup hE, SqL.of ((same_upd nL) _ _ hTk),
      for_it (Zq.walk_zip3 (K := K) (a := c) (b := E) (c := Tk) (xs := xs) (ys := entV gs) (zs := tvs) (by rw [List.length_map, List.length_map, lgp, xl]) (by rw [TA.1, xl]))
        (fun i σ G => ∃ (T' : Hp) (us : List V) (ds : List (Option Dst)) (y7 y8 y9 y10 : Option V), σ = [some (V.ref m), some (V.ref a), some (V.int b), some (V.int (s.1 : Int)), some (V.ref c), some (V.int (r : Int)), some (V.ref L), y7, y8, y9, y10] ∧ Same H T' ∧ Coll K T' G L us (ds.map odD) ∧ movs is r b ((zips s gs pss).take i) = some ds ∧ ds.length ≤ i)
        ⟨H, [], [], _, _, _, _, rfl, Same.refl _, ⟨same_upd nL, nL, upd_same, .nil⟩, rfl, Nat.le_refl _⟩ (fun i σ G _ ⟨T', us, ds, _, _, _, _, _, st, cl, _⟩ => ⟨(st.trans cl.th).tup hc, (st.trans cl.th).tup hE, SqL.of ((st.trans cl.th) _ _ hTk)⟩) ?_ ?_⟩
    · rintro i u σ G G' hi ⟨T', us, ds, y7, y8, y9, y10, rfl, st, cl, mv, dl⟩ ⟨T, x1, x2, x3, rfl, nT, rfl, f1, f2, f3⟩
      obtain ⟨d1, hd1, D1⟩ := DA.at f1
      rw [List.getElem?_map] at hd1
      obtain ⟨o, ho, rfl⟩ := Option.map_eq_some_iff.mp hd1
      rw [List.getElem?_map, List.getElem?_map] at f2
      obtain ⟨z2, hz2, rfl⟩ := Option.map_eq_some_iff.mp f2
      obtain ⟨g, hg, rfl⟩ := Option.map_eq_some_iff.mp hz2
      obtain ⟨ps, hps⟩ : ∃ ps, pss[i]? = some ps := ⟨pss[i]'(by omega), List.getElem?_eq_getElem _⟩
      obtain ⟨l12, sokp⟩ := pl.ok ps (List.mem_of_getElem? hps)
      have hz : (zips s gs pss)[i]? = some (o, g, ps) := by
        unfold zips
        rw [List.getElem?_zip_eq_some, List.getElem?_zip_eq_some]
        exact ⟨ho, hg, hps⟩
      have g1 := (Grow.refl cl.th).put (HO.tup [x1, V.int (g : Int), x3]) nT
      have c1 := cl.grow g1
      have st1 := st.trans g1.tt
      have hT : SqT K (upd G T (HO.tup [x1, V.int (g : Int), x3])) T [x1, V.int (g : Int), x3] := SqT.of upd_same
      generalize upd T' T (HO.tup [x1, V.int (g : Int), x3]) = T1, upd G T (HO.tup [x1, V.int (g : Int), x3]) = G1 at *
      have sH1 := st1.trans c1.th
      have D1' := D1.same sH1
      have ul : us.length ≤ 1000 := by rw [cl.all.len, List.length_map]; omega
      have mvi : movs is r b ((zips s gs pss).take (i + 1)) = (movB is r b (o, g, ps)).map fun x => ds ++ [x] := by rw [take_more hz, movs_more, mv]; rfl
      refine ⟨T, _, rfl, hT, rfl, _, _, rfl, _, _, rfl, _, _, rfl, rfl, ?_⟩
      refine ⟨_, rfl, rfl, _, rfl, ?_⟩
      cases o with
      | none =>
        cases D1'
        refine iteF ⟨_, rfl, .inl ⟨rfl, _, SqL.of c1.at_⟩, _, rfl, _, rfl, rfl, _, rfl, ?_⟩
        by_cases eg' : g = r
        · subst eg'
          rw [decide_eq_true rfl]
          refine iteT ⟨by show 3 ≤ sizeLine; decide, fun u nu => ?_⟩
          have g2 := (Grow.refl c1.th).put (HO.tup [V.int 0, V.bl false, V.int 0]) nu
          have c2 := c1.grow g2
          refine ⟨L, _, _, rfl, rfl, c2.at_, by rw [sizeLine_eq]; omega, _, us ++ [.ref u], ds ++ [some (0, false, 0)], _, _, _, _, rfl, st1.trans g2.tt, ?_, ?_, by rw [List.length_append]; show _ + 1 ≤ _; omega⟩
          · rw [List.map_append]
            exact c2.push (dx_dst (d := (0, false, 0)) (SqT.of upd_same))
          · rw [mvi]
            unfold movB
            dsimp only
            rw [if_pos rfl]
            rfl
        · rw [decide_eq_false (show ¬ V.int (g : Int) = V.int (r : Int) from fun z => eg' (by have := V.int.inj z; omega))]
          refine iteF ⟨L, _, _, rfl, rfl, c1.at_, by rw [sizeLine_eq]; omega, T1, us ++ [.non], ds ++ [none], _, _, _, _, rfl, st1, ?_, ?_, by rw [List.length_append]; show _ + 1 ≤ _; omega⟩
          · rw [List.map_append]
            exact c1.push .non
          · rw [mvi]
            unfold movB
            dsimp only
            rw [if_neg eg']
            rfl
      | some d =>
        obtain ⟨ad, rfl, had⟩ := dst_at (show Dx K G1 x1 (dstD d) from D1')
        obtain ⟨lt, lus, rfl, hlt, Dlt⟩ := (TA.same sH1).2 i x3 ps f3 hps
        have hPd1 := sH1 _ _ hPd
        refine iteT ⟨_, rfl, m, Cm, dx, _, _, rfl, sH1 _ _ hm, Sm.cl, Sm.nP, mf_P _ _ _ _ _, _, rfl, _, rfl, _, rfl, Pd, lt, cnt, lg, is, lus, ps, .ref ad, d, b, rfl, hPd1, hlt, Dlt, D1', sok.dec i d ps ho hps, ok, sokp, l12, fun H' v' s' D' => ?_⟩
        refine ⟨_, rfl, rfl, _, rfl, ?_⟩
        have mB : movB is r b (some d, g, ps) = (decB is ps d b).map some := rfl
        rw [mB] at mvi
        cases hdb : decB is ps d b with
        | none =>
          rw [hdb] at D' mvi
          cases D'
          refine iteT (q _ .non (sH1.trans s') ?_)
          have nn := movs_none ((zips s gs pss).drop (i + 1)) mvi
          rw [List.take_append_drop] at nn
          rw [nn]
          exact .non
        | some d' =>
          rw [hdb] at D' mvi
          obtain ⟨ad', rfl, had'⟩ := dst_at (show Dx K H' v' (dstD d') from D')
          refine iteF ⟨_, rfl, .inl ⟨rfl, _, SqL.of (s' _ _ c1.at_)⟩, _, rfl, L, _, _, rfl, rfl, s' _ _ c1.at_, by rw [sizeLine_eq]; omega, ?_⟩
          have hL : H' L = some (.lst us) := s' _ _ c1.at_
          have sl2 : Same T1 (hide L H') := fun b o e => hide_at ((c1.th.trans s') b o e) (ne_of_none e c1.td)
          have ht : SqT K (hide L H') ad' [.int (d'.1 : Int), .bl d'.2.1, .int (d'.2.2 : Int)] := by
            rcases had' with (h | ⟨o, h⟩) | h
            · exact .inl (.inl (hide_at h (fun z => by rw [z, hL] at h; cases h)))
            · exact .inl (.inr ⟨o, hide_at h (fun z => by rw [z, hL] at h; cases h)⟩)
            · exact .inr h
          refine ⟨hide L H', us ++ [.ref ad'], ds ++ [some d'], _, _, _, _, rfl, st1.trans sl2, ?_, ?_, by rw [List.length_append]; show _ + 1 ≤ _; omega⟩
          · rw [List.map_append]
            exact Coll.push ⟨hide_same, hide_none, hL, c1.all.same sl2⟩ (dx_dst (d := d') ht)
          · rw [mvi]
            rfl
    · rintro σ G ⟨T', us, ds, y7, y8, y9, y10, rfl, st, cl, mv, dl⟩
      rw [← zl, List.take_length] at mv
      rw [mv] at q
      refine ⟨_, rfl, _, rfl, L, _, rfl, .inl ⟨SqL.of cl.at_, fun u nu => ⟨by show 2 ≤ sizeLine; decide, fun u2 nu2 => ?_⟩⟩⟩
      have s1 := same_upd (o := HO.tup us) nu
      have s2 := same_upd (o := HO.tup [V.int (r : Int), V.ref u]) nu2
      refine q _ _ ((st.trans cl.th).trans (s1.trans s2)) (.tup (SqT.of upd_same) (.cons (.int _) (.cons (.tup (SqT.of (s2 _ _ upd_same)) ?_) .nil)))
      exact cl.all.same (cl.th.trans (s1.trans s2))
end
end Ov
namespace Ov
open PySem PySem.Spec PyProof.Rows L2
section
variable {P : Program} {w : World} {K : PySem.W.Frag} {mg : Str → Option Value} {base : Heap}
/-! ### start_state, next_state -/
structure Asked (K : PySem.W.Frag) (C : Addr) (H : Hp) (p l g cnt lg : Nat) (it : Addr) (is : List I4) (rs : List Addr) (xs : List V) (pss : List (List PStep)) (gs : List Nat) : Prop where
  ma : Mach C H p cnt lg it is rs
  hl : SqT K H l xs
  dl : DxAll K H xs (pss.map planD)
  pl : Plns cnt is pss
  hg : SqT K H g (entV gs)
  en : Ents gs
  len : gs.length = pss.length
  dc : ∀ ps ∈ pss, dcnt is ps ≤ 1000
  few : stcN is pss gs ≤ 5000
theorem Asked.same {C : Addr} {H H' : Hp} {p l g cnt lg : Nat} {it : Addr} {is : List I4} {rs : List Addr} {xs : List V} {pss : List (List PStep)} {gs : List Nat} (h : Asked K C H p l g cnt lg it is rs xs pss gs) (s : Same H H') : Asked K C H' p l g cnt lg it is rs xs pss gs :=
  ⟨h.ma.same s, s.tup h.hl, h.dl.same s, h.pl, s.tup h.hg, h.en, h.len, h.dc, h.few⟩
def spStart (K : PySem.W.Frag) (C Cm : Addr) : Sp := fun vs H Q _ => ∃ (p l g cnt lg : Nat) (it : Addr) (is : List I4) (rs : List Addr) (xs : List V) (pss : List (List PStep)) (gs : List Nat), vs = [.ref p, .ref l, .ref g] ∧ Asked K C H p l g cnt lg it is rs xs pss gs ∧
  ∀ H' v, Same H H' → Dx K H' v (stD (first0 gs)) → Q v H'
abbrev nStartst : List Str := ["instruction_set", "programs", "entries"]
theorem scStartst : FnScope nStartst ["instruction_set", "programs", "entries"] (defScope s_start_state) := ⟨rfl, rfl, rfl, by decide +kernel, rfl, by decide +kernel, by decide +kernel⟩
theorem ok_startst {f C Cm fStatemachine fCkO fMcFs : Addr} {fd fdStatemachine fdCkO fdMcFs : FuncData} {k : Nat} (F : Fun K "start_state" "start_state" s_start_state f fd) (S : SetTxt K mg C) (Sm : MacTxt K mg Cm) (MStatemachine : L2.Mk K Cm fStatemachine) (bStatemachine : Binds K fdStatemachine ["self", "instruction_set", "programs", "entries"] []) (GStatemachine : FnOk P w K mg base CX0 k fStatemachine fdStatemachine ["self", "instruction_set", "programs", "entries"] (spInitM K C Cm)) (CkO : Def K mg "check_overlay" s_check_overlay fCkO fdCkO ["instruction_set", "programs", "entries"]) (GCkO : FnOk P w K mg base CX0 (k + 1) fCkO fdCkO ["instruction_set", "programs", "entries"] (spCkO K C)) (MMcFs : Meth K Cm "first_state" fMcFs) (bMcFs : Binds K fdMcFs ["self"] []) (GMcFs : FnOk P w K mg base CX0 (k + 1) fMcFs fdMcFs ["self"] (spFirst K Cm)) :
    FnOk P w K mg base CX0 (k + 2) f fd ["instruction_set", "programs", "entries"] (spStart K C Cm) := by
  refine F.ok scStartst (fun vs H Q E h => ?_) (fun cdv A' outer s H vs Q E hr h => ?_)
  · obtain ⟨p, l, g, cnt, lg, it, is, rs, xs, pss, gs, rfl, _⟩ := h
    rfl
  · obtain ⟨p, l, g, cnt, lg, it, is, rs, xs, pss, gs, rfl, A, q⟩ := h
    refine ⟨_, pss_cons (ps_expr (pe_call GCkO hr (by rfl) CkO.gl CkO.fn.kp CkO.bi .nil pass0 (pa_cons (pv 0) (pa_cons (pv 1) (pa_cons (pv 2) pa_nil)))))
      (pss_one (ps_ret (pe_meth0 (pe_make MStatemachine GStatemachine hr (by rfl) Sm.mgC bStatemachine .nil pass0 (pa_cons (pv 0) (pa_cons (pv 1) (pa_cons (pv 2) pa_nil)))) Sm.cl MMcFs GMcFs hr bMcFs .nil pass0))), ?_⟩
    refine ⟨_, rfl, _, rfl, _, rfl, p, it, l, g, cnt, lg, is, rs, xs, pss, gs, rfl, A.ma, A.hl, A.dl, A.pl, A.hg, A.en, A.len, A.dc, A.few, fun H1 s1 => ?_⟩
    have A1 := A.same s1
    refine ⟨_, rfl, _, rfl, _, rfl, fun m dx nm ndx hne => ?_⟩
    have s4 : Same H1 (upd (upd H1 dx (.own m)) m (.ins Cm dx [])) := fun b o e => by
      rw [upd_ne (ne_of_none e nm), upd_ne (ne_of_none e ndx)]
      exact e
    have A2 := A1.same s4
    refine ⟨m, p, l, g, dx, it, cnt, lg, is, rs, xs, pss, gs, rfl, upd_same, A2.ma, A2.hl, A2.dl, A2.pl, A2.hg, fun H3 MA kp => ⟨rfl, ?_⟩⟩
    have s3 : Same H1 H3 := fun b o e => kp b o (s4 b o e) (ne_of_none e nm)
    obtain ⟨dx', E', Pd, Tk, D, B, tvs, hm, _⟩ := MA.ob
    exact ⟨m, dx', _, rfl, hm, mf_no _ _ _ _ _ (by decide +kernel), m, cnt, is, pss, gs, rfl, MA, A.en.few, fun H4 v s5 Dv => q H4 v (s1.trans (s3.trans s5)) Dv⟩
def spNext (K : PySem.W.Frag) (C Cm : Addr) : Sp := fun vs H Q _ => ∃ (p l g cnt lg : Nat) (it : Addr) (is : List I4) (rs : List Addr) (xs : List V) (pss : List (List PStep)) (gs : List Nat) (v : V) (s : Sta) (b : Int), vs = [.ref p, .ref l, .ref g, v, .int b] ∧ Asked K C H p l g cnt lg it is rs xs pss gs ∧ Dx K H v (stD s) ∧ StaOk pss gs s ∧
  ∀ H' v', Same H H' → Dx K H' v' (ostD (behind is pss gs s b)) → Q v' H'
abbrev nNextst : List Str := ["instruction_set", "programs", "entries", "state", "byte"]
theorem scNextst : FnScope nNextst ["instruction_set", "programs", "entries", "state", "byte"] (defScope s_next_state) := ⟨rfl, rfl, rfl, by decide +kernel, rfl, by decide +kernel, by decide +kernel⟩
theorem ok_nextst {f C Cm fStatemachine fCkO fMcSb : Addr} {fd fdStatemachine fdCkO fdMcSb : FuncData} {k : Nat} (F : Fun K "next_state" "next_state" s_next_state f fd) (S : SetTxt K mg C) (Sm : MacTxt K mg Cm) (MStatemachine : L2.Mk K Cm fStatemachine) (bStatemachine : Binds K fdStatemachine ["self", "instruction_set", "programs", "entries"] []) (GStatemachine : FnOk P w K mg base CX0 k fStatemachine fdStatemachine ["self", "instruction_set", "programs", "entries"] (spInitM K C Cm)) (CkO : Def K mg "check_overlay" s_check_overlay fCkO fdCkO ["instruction_set", "programs", "entries"]) (GCkO : FnOk P w K mg base CX0 (k + 1) fCkO fdCkO ["instruction_set", "programs", "entries"] (spCkO K C)) (MMcSb : Meth K Cm "state_behind" fMcSb) (bMcSb : Binds K fdMcSb ["self", "state", "byte"] []) (GMcSb : FnOk P w K mg base CX0 (k + 1) fMcSb fdMcSb ["self", "state", "byte"] (spBehindM K Cm)) :
    FnOk P w K mg base CX0 (k + 2) f fd ["instruction_set", "programs", "entries", "state", "byte"] (spNext K C Cm) := by
  refine F.ok scNextst (fun vs H Q E h => ?_) (fun cdv A' outer s H vs Q E hr h => ?_)
  · obtain ⟨p, l, g, cnt, lg, it, is, rs, xs, pss, gs, v, s, b, rfl, _⟩ := h
    rfl
  · obtain ⟨p, l, g, cnt, lg, it, is, rs, xs, pss, gs, v, s, b, rfl, A, Dv, so, q⟩ := h
    refine ⟨_, pss_cons (ps_expr (pe_call GCkO hr (by rfl) CkO.gl CkO.fn.kp CkO.bi .nil pass0 (pa_cons (pv 0) (pa_cons (pv 1) (pa_cons (pv 2) pa_nil)))))
      (pss_one (ps_ret (pe_meth (pe_make MStatemachine GStatemachine hr (by rfl) Sm.mgC bStatemachine .nil pass0 (pa_cons (pv 0) (pa_cons (pv 1) (pa_cons (pv 2) pa_nil)))) Sm.cl MMcSb GMcSb hr bMcSb .nil pass0 (pa_cons (pv 3) (pa_cons (pv 4) pa_nil))))), ?_⟩
    refine ⟨_, rfl, _, rfl, _, rfl, p, it, l, g, cnt, lg, is, rs, xs, pss, gs, rfl, A.ma, A.hl, A.dl, A.pl, A.hg, A.en, A.len, A.dc, A.few, fun H1 s1 => ?_⟩
    have A1 := A.same s1
    refine ⟨_, rfl, _, rfl, _, rfl, fun m dx nm ndx hne => ?_⟩
    have s4 : Same H1 (upd (upd H1 dx (.own m)) m (.ins Cm dx [])) := fun b o e => by
      rw [upd_ne (ne_of_none e nm), upd_ne (ne_of_none e ndx)]
      exact e
    have A2 := A1.same s4
    refine ⟨m, p, l, g, dx, it, cnt, lg, is, rs, xs, pss, gs, rfl, upd_same, A2.ma, A2.hl, A2.dl, A2.pl, A2.hg, fun H3 MA kp => ⟨rfl, ?_⟩⟩
    have s3 : Same H1 H3 := fun b o e => kp b o (s4 b o e) (ne_of_none e nm)
    obtain ⟨dx', E', Pd, Tk, D, B, tvs, hm, _⟩ := MA.ob
    exact ⟨m, dx', _, rfl, hm, mf_no _ _ _ _ _ (by decide +kernel), _, rfl, _, rfl, m, cnt, lg, is, pss, gs, v, s, b, rfl, MA, A.ma.ok, A.pl, (fun z => by have := A.en.hd; rw [z] at this; cases this), A.len, Dv.same (s1.trans s3), so, fun H4 v s5 Dv => q H4 v (s1.trans (s3.trans s5)) Dv⟩
end
end Ov
namespace Ov
open PySem PySem.Spec PyProof.Rows L2
/-! ### a decoder over a row of bytes -/
theorem op_inj {is : List I4} (asc : (is.map I4.op).Pairwise (· < ·)) {x y : I4} (hx : x ∈ is) (hy : y ∈ is) (e : x.op = y.op) : x = y := by
  obtain ⟨i, il, rfl⟩ := List.mem_iff_getElem.mp hx
  obtain ⟨j, jl, rfl⟩ := List.mem_iff_getElem.mp hy
  have lt : ∀ i j (hi : i < is.length) (hj : j < is.length), i < j → (is[i]).op < (is[j]).op := fun i j hi hj h => by
    have := List.pairwise_iff_getElem.mp asc i j (by simpa using hi) (by simpa using hj) h
    simpa using this
  rcases Nat.lt_trichotomy i j with h | h | h
  · have := lt i j il jl h; omega
  · subst h; rfl
  · have := lt j i jl il h; omega
def fitsL (os : List (Option Int)) (bs : List Int) : Bool := (os.zip bs).all fun q => decide (q.1 = none ∨ q.1 = some q.2)
section
variable {is : List I4} {ps : List PStep}
theorem fold_pad (d : Nat) : ∀ (bs : List Int) (l : Nat), bs.length ≤ l → bs.foldlM (decB is ps) (padDec d l) = some (padDec d (l - bs.length))
  | [], l, _ => by rfl
  | b :: bs, l, h => by
    have h1 : bs.length + 1 ≤ l := h
    rw [List.foldlM_cons]
    have e : decB is ps (padDec d l) b = some (padDec d (l - 1)) := by
      unfold decB
      rw [if_pos (by show decide (0 < l) = true; exact decide_eq_true (by omega))]
      rfl
    rw [e]
    show List.foldlM _ (padDec d (l - 1)) bs = _
    rw [fold_pad d bs (l - 1) (by omega), show l - 1 - bs.length = l - (b :: bs).length by rw [List.length_cons]; omega]
theorem fold_step {d : Nat} {x : PStep} (hx : ps[d]? = some x) : ∀ (bs : List Int) (l : Nat), bs.length ≤ l → l ≤ x.2.length →
    bs.foldlM (decB is ps) (stepDec d l) = if fitsL (x.2.drop (x.2.length - l)) bs = true then some (stepDec d (l - bs.length)) else none
  | [], l, _, _ => by
    have e : fitsL (x.2.drop (x.2.length - l)) [] = true := by unfold fitsL; rw [List.zip_nil_right]; rfl
    rw [if_pos e]
    rfl
  | b :: bs, l, h, hl => by
    have h1 : bs.length + 1 ≤ l := h
    have il : x.2.length - l < x.2.length := by omega
    have ho : x.2[x.2.length - l]? = some (x.2[x.2.length - l]) := List.getElem?_eq_getElem il
    have dr : x.2.drop (x.2.length - l) = x.2[x.2.length - l] :: x.2.drop (x.2.length - (l - 1)) := by
      rw [List.drop_eq_getElem_cons il, show x.2.length - l + 1 = x.2.length - (l - 1) by omega]
    rw [List.foldlM_cons]
    have e : decB is ps (stepDec d l) b = if x.2[x.2.length - l] = none ∨ x.2[x.2.length - l] = some b then some (stepDec d (l - 1)) else none := by
      unfold stepDec
      rw [if_pos (show 0 < l by omega)]
      unfold decB
      rw [if_neg Bool.false_ne_true, if_pos (show 0 < l by omega)]
      show (match ps[d]? with
        | some x => match x.2[x.2.length - l]? with
          | some o => if o = none ∨ o = some b then some (stepDec d (l - 1)) else none
          | none => none
        | none => none) = _
      rw [hx]
      dsimp only
      rw [ho]
      rfl
    rw [e, dr]
    have fz : fitsL (x.2[x.2.length - l] :: x.2.drop (x.2.length - (l - 1))) (b :: bs) = (decide (x.2[x.2.length - l] = none ∨ x.2[x.2.length - l] = some b) && fitsL (x.2.drop (x.2.length - (l - 1))) bs) := by
      unfold fitsL
      rw [List.zip_cons_cons, List.all_cons]
    rw [fz]
    by_cases c : x.2[x.2.length - l] = none ∨ x.2[x.2.length - l] = some b
    · rw [if_pos c, decide_eq_true c, Bool.true_and]
      show List.foldlM _ (stepDec d (l - 1)) bs = _
      rw [fold_step hx bs (l - 1) (by omega) (by omega), show l - 1 - bs.length = l - (b :: bs).length by rw [List.length_cons]; omega]
    · rw [if_neg c, decide_eq_false c, Bool.false_and, if_neg (by decide)]
      rfl
variable {cnt lg : Nat}
/-- the instruction of an opcode -/
abbrev opI (is : List I4) (b : Int) : Option I4 := is.find? fun x => decide ((x.op : Int) = b)
theorem la_opI {b : Int} : laOf is b = match opI is b with
    | some x => x.ln
    | none => 0 := rfl
theorem opI_in {b : Int} {y : I4} (h : opI is b = some y) : y ∈ is ∧ (y.op : Int) = b := by
  have z : decide ((y.op : Int) = b) = true := List.find?_some (p := fun x : I4 => decide ((x.op : Int) = b)) h
  exact ⟨List.mem_of_find?_eq_some h, of_decide_eq_true z⟩
theorem opI_none {b : Int} (h : opI is b = none) : ∀ x ∈ is, (x.op : Int) ≠ b := fun x hx e => by
  have := List.find?_eq_none.mp h x hx
  exact this (decide_eq_true e)
theorem padI_some (ok : TabOk cnt lg is) {b : Int} {y : I4} (h : opI is b = some y) (p : y.pad = true) : padI is b = some y := by
  obtain ⟨h1, h2⟩ := opI_in h
  cases e : padI is b with
  | none =>
    unfold padI at e
    have := List.find?_eq_none.mp e y (List.mem_filter.mpr ⟨h1, p⟩)
    exact absurd (decide_eq_true h2) this
  | some z =>
    obtain ⟨z1, _, z3⟩ := padI_in e
    rw [op_inj ok.asc z1 h1 (by omega)]
theorem padI_none (ok : TabOk cnt lg is) {b : Int} (h : ∀ y, opI is b = some y → y.pad = false) : padI is b = none := by
  cases e : padI is b with
  | none => rfl
  | some z =>
    obtain ⟨z1, z2, z3⟩ := padI_in e
    cases o : opI is b with
    | none => exact absurd z3 (opI_none o z z1)
    | some y =>
      obtain ⟨y1, y2⟩ := opI_in o
      have := op_inj ok.asc z1 y1 (by omega)
      subst this
      rw [h z o] at z2
      cases z2
theorem decB_at (d : Nat) (b : Int) : decB is ps (d, false, 0) b = match padI is b with
    | some x => some (padDec d (x.ln - 1))
    | none => match ps[d]? with
      | some x => if (x.1.op : Int) = b then some (stepDec d x.2.length) else none
      | none => none := by
  unfold decB
  rw [if_neg Bool.false_ne_true, if_neg (Nat.lt_irrefl 0)]
  all_goals rfl
theorem decB_unknown (ok : TabOk cnt lg is) (sok : ∀ x ∈ ps, StepOk cnt is x) (d : Nat) {b : Int} (h : opI is b = none) : decB is ps (d, false, 0) b = none := by
  rw [decB_at, padI_none ok (fun y e => by rw [h] at e; cases e)]
  cases e : ps[d]? with
  | none => rfl
  | some x =>
    have := opI_none h x.1 (sok x (List.mem_of_getElem? e)).mem
    show (if (x.1.op : Int) = b then _ else none) = none
    rw [if_neg this]
/-- padding, whole or cut off -/
theorem decs_pad (ok : TabOk cnt lg is) (d : Nat) {b : Int} {y : I4} (h : opI is b = some y) (p : y.pad = true) (tl : List Int) :
    (b :: tl).foldlM (decB is ps) (d, false, 0) = if tl.length < y.ln - 1 then some (d, true, y.ln - 1 - tl.length) else (tl.drop (y.ln - 1)).foldlM (decB is ps) (d, false, 0) := by
  rw [List.foldlM_cons, decB_at, padI_some ok h p]
  show List.foldlM _ (padDec d (y.ln - 1)) tl = _
  by_cases c : tl.length < y.ln - 1
  · rw [if_pos c, fold_pad d tl _ (by omega)]
    unfold padDec
    rw [decide_eq_true (show 0 < y.ln - 1 - tl.length by omega)]
  · rw [if_neg c]
    conv => lhs; rw [← List.take_append_drop (y.ln - 1) tl]
    rw [List.foldlM_append, fold_pad d _ _ (by rw [List.length_take]; omega)]
    show List.foldlM _ (padDec d (y.ln - 1 - (tl.take (y.ln - 1)).length)) _ = _
    rw [List.length_take, show y.ln - 1 - min (y.ln - 1) tl.length = 0 by omega]
    rfl
/-- a step, whole or cut off -/
theorem decs_step (ok : TabOk cnt lg is) (sok : ∀ x ∈ ps, StepOk cnt is x) (d : Nat) {b : Int} {y : I4} (h : opI is b = some y) (p : y.pad = false) (tl : List Int) :
    (b :: tl).foldlM (decB is ps) (d, false, 0) = match ps[d]? with
      | some x => if x.1.nm = y.nm then (if fitsL x.2 (tl.take (y.ln - 1)) = true then (if tl.length < y.ln - 1 then some (d, false, y.ln - 1 - tl.length) else (tl.drop (y.ln - 1)).foldlM (decB is ps) (d + 1, false, 0)) else none) else none
      | none => none := by
  obtain ⟨y1, y2⟩ := opI_in h
  rw [List.foldlM_cons, decB_at, padI_none ok (fun z e => by rw [h] at e; cases e; exact p)]
  dsimp only
  cases e : ps[d]? with
  | none => rfl
  | some x =>
    have so := sok x (List.mem_of_getElem? e)
    have sl := so.len
    dsimp only
    by_cases c : x.1.nm = y.nm
    · have c := nm_inj ok.nd so.mem y1 c
      subst c
      rw [if_pos y2, if_pos rfl]
      show List.foldlM _ (stepDec d x.2.length) tl = _
      have e0 : x.2.drop (x.2.length - x.2.length) = x.2 := by rw [Nat.sub_self]; rfl
      have el : x.1.ln - 1 = x.2.length := by omega
      rw [el]
      by_cases c : tl.length < x.2.length
      · rw [if_pos c, fold_step e tl _ (by omega) (Nat.le_refl _), e0, List.take_of_length_le (by omega)]
        unfold stepDec
        rw [if_pos (show 0 < x.2.length - tl.length by omega)]
      · rw [if_neg c]
        conv => lhs; rw [← List.take_append_drop x.2.length tl]
        rw [List.foldlM_append, fold_step e _ _ (by rw [List.length_take]; omega) (Nat.le_refl _), e0]
        by_cases f : fitsL x.2 (tl.take x.2.length) = true
        · rw [if_pos f, if_pos f]
          show List.foldlM _ (stepDec d (x.2.length - (tl.take x.2.length).length)) _ = _
          rw [List.length_take, show x.2.length - min x.2.length tl.length = 0 by omega]
          rfl
        · rw [if_neg f, if_neg f]
          rfl
    · have nb : ¬ (x.1.op : Int) = b := fun z => c (by rw [op_inj ok.asc so.mem y1 (by omega)])
      rw [if_neg nb, if_neg c]
      rfl
end
end Ov
namespace Ov
open PySem PySem.Spec PyProof.Rows L2
def ldD : Option Dst → PyData
  | none => .str "fails"
  | some d => dstD d
section
variable {P : Program} {w : World} {K : PySem.W.Frag} {mg : Str → Option Value} {base : Heap}
def offD (n : Nat) (σ : L2.St) : Nat := match σ with
  | [_, _, _, _, _, some (.int o), _, _, _, _, _, _, _] => n - o.toNat
  | _ => 0
def decs (is : List I4) (ps : List PStep) (row : List Int) : Option Dst := row.foldlM (decB is ps) (0, false, 0)
def spLDec (K : PySem.W.Frag) : Sp := fun vs H Q _ => ∃ (t it c e : Addr) (cnt lg : Nat) (is : List I4) (rs : List Addr) (us : List V) (ps : List PStep) (bs : List Int) (b0 : Nat), vs = [.ref t, .ref e, .ref c, .int (b0 : Int)] ∧ Tab H t cnt lg is it rs ∧ SqT K H e us ∧ DxAll K H us (ps.map stepD) ∧ (∀ x ∈ ps, StepOk cnt is x) ∧ SqT K H c (bs.map V.int) ∧ bs.length ≤ 1000 ∧ b0 ≤ bs.length ∧
  ∀ H' v, Same H H' → Dx K H' v (ldD (decs is ps (bs.drop b0))) → Q v H'
abbrev nLdec : List Str := ["_law_table_here", "_law_plan_here", "_law_row", "_law_begin", "_law_done", "_law_at", "_law_size", "_law_opcode", "_law_name", "_law_is_padding", "_law_pairs", "_law_want", "_law_byte"]
theorem scLdec : FnScope nLdec ["_law_table_here", "_law_plan_here", "_law_row", "_law_begin"] (defScope s_law_decoder) := ⟨rfl, rfl, rfl, by decide +kernel, rfl, by decide +kernel, by decide +kernel⟩
theorem ok_ldec {f fLKnown fLLengthAt : Addr} {fd fdLKnown fdLLengthAt : FuncData} {k : Nat} (F : Fun K "_law_decoder" "_law_decoder" s_law_decoder f fd) (T : Bi mg) (LKnown : Def K mg "_law_known" s_law_known fLKnown fdLKnown ["_law_table_here", "_law_opcode"]) (GLKnown : FnOk P w K mg base CX0 k fLKnown fdLKnown ["_law_table_here", "_law_opcode"] (spKnown K)) (LLengthAt : Def K mg "_law_length_at" sLLenAt fLLengthAt fdLLengthAt ["_law_table_here", "_law_byte"]) (GLLengthAt : FnOk P w K mg base CX0 k fLLengthAt fdLLengthAt ["_law_table_here", "_law_byte"] (spLLenAt)) :
    FnOk P w K mg base CX0 (k + 1) f fd ["_law_table_here", "_law_plan_here", "_law_row", "_law_begin"] (spLDec K) := by
  refine F.ok scLdec (fun vs H Q E h => ?_) (fun cdv A' outer s H vs Q E hr h => ?_)
  · obtain ⟨t, it, c, e, cnt, lg, is, rs, us, ps, bs, b0, rfl, _⟩ := h
    rfl
  · obtain ⟨t, it, c, e, cnt, lg, is, rs, us, ps, bs, b0, rfl, Tb, he, De, sok, hc, few, b0l, q⟩ := h
    refine ⟨_, pss_cons (ps_par (i := 4) (j := 5) (by rfl) scLdec.nd rfl rfl (by decide) rfl rfl (pa_cons pe_int (pa_cons (pv 3) pa_nil)) (by rfl))
      (pss_cons (ps_while PassesOwn.never (pt_cmpR op_lt (pv 5) (pe_callB call_len_seq (by rfl) T.len PySem.boot_len (pa_cons (pv 2) pa_nil)) (nomark _)) (pss_cons (ps_set (i := 6) scLdec.nd rfl (.inl rfl) (pe_call GLLengthAt hr (by rfl) LLengthAt.gl LLengthAt.fn.kp LLengthAt.bi .nil pass0 (pa_cons (pv 0) (pa_cons (pe_ix ix_tup (pv 2) (pv 5) (fun _ _ => rfl)) pa_nil))))
      (pss_cons (ps_if (pt_cmpR op_eq (pv 6) pe_int (nomark _)) (pss_one (ps_ret pe_str)) pss_nil)
      (pss_cons (ps_asg (pe_call GLKnown hr (by rfl) LKnown.gl LKnown.fn.kp LKnown.bi .nil pass0 (pa_cons (pv 0) (pa_cons (pe_ix ix_tup (pv 2) (pv 5) (fun _ _ => rfl)) pa_nil))) (pg_tup rfl (pgs_cons (pg_name (i := 7) scLdec.nd rfl (.inl rfl)) (pgs_cons (pg_name (i := 8) scLdec.nd rfl (.inl rfl)) (pgs_cons (pg_name (i := 6) scLdec.nd rfl (.inl rfl)) (pgs_cons (pg_name (i := 9) scLdec.nd rfl (.inl rfl)) pgs_nil))))))
      (C8.pss_cut (ps_if (pt_not (pt_val (pv 9))) (pss_cons (ps_if (PW.pt (pw_or (pt_cmpR op_eq (pv 4) (pe_callB call_len_seq (by rfl) T.len PySem.boot_len (pa_cons (pv 1) pa_nil)) (nomark _)) (pw_or1 (pt_cmpR op_ne (pe_ix ix_tup (pe_ix ix_tup (pv 1) (pv 4) (fun _ _ => rfl)) pe_int (fun _ _ => rfl)) (pv 8) (nomark _))))) (pss_one (ps_ret pe_str)) pss_nil)
      (pss_cons (ps_set (i := 10) scLdec.nd rfl (.inl rfl) (Zq.pe_listZip (by rfl) T.list (by rfl) T.zip (pa_cons (pe_ix ix_tup (pe_ix ix_tup (pv 1) (pv 4) (fun _ _ => rfl)) pe_int (fun _ _ => rfl)) (pa_cons (pe_slice sl_tupA (pv 2) (po_some (pe_op op_add (pv 5) pe_int)) (po_some (pe_op op_add (pv 5) (pv 6)))) pa_nil))))
      (pss_one (ps_if (pt_not (pt_val (pe_callB (cr_all rfl) (by rfl) T.all (by decide +kernel) (pa_cons (pe_lc (own := [("_law_want", 11), ("_law_byte", 12)]) (g := (gTup K 2 (gCons (gName 11) (gCons (gName 12) gNil)))) (tt := tYes) (by rfl) scLdec.nd (pi_list (pv 10)) (blkOk_by (own := [("_law_want", 11), ("_law_byte", 12)]) (N := nLdec) (sc := defScope s_law_decoder) (by decide +kernel)) (fun _ _ _ _ _ => (pg_tup rfl (pgs_cons (pg_name (i := 11) scLdec.nd rfl (Or.inl rfl)) (pgs_cons (pg_name (i := 12) scLdec.nd rfl (Or.inl rfl)) pgs_nil)))) (fun _ _ _ _ _ => pts_nil) (fun _ _ _ _ _ => (pe_or (pe_cmpR op_isN (pv 11) pe_non (nomark _)) (pe_one (pe_cmpR op_eq (pv 11) (pv 12) (nomark _)))))) pa_nil)))) (pss_one (ps_ret pe_str)) pss_nil)))) pss_nil)
      (pss_cons (ps_if (pt_cmpR op_gt (pe_op op_add (pv 5) (pv 6)) (pe_callB call_len_seq (by rfl) T.len PySem.boot_len (pa_cons (pv 2) pa_nil)) (nomark _)) (pss_one (ps_ret (pe_tup (pa_cons (pv 4) (pa_cons (pv 9) (pa_cons (pe_op op_sub (pe_op op_add (pv 5) (pv 6)) (pe_callB call_len_seq (by rfl) T.len PySem.boot_len (pa_cons (pv 2) pa_nil))) pa_nil)))))) pss_nil)
      (pss_one (ps_par (i := 5) (j := 4) (by rfl) scLdec.nd rfl rfl (by decide) rfl rfl (pa_cons (pe_op op_add (pv 5) (pv 6)) (pa_cons (pe_op op_add (pv 4) (pe_callTy call_int1 (by rfl) T.int (by decide +kernel) (pa_cons (pe_not (pv 9)) pa_nil))) pa_nil)) (by rfl)))))))))
      (pss_one (ps_ret (pe_tup (pa_cons (pv 4) (pa_cons pe_bl (pa_cons pe_int pa_nil))))))), ?_⟩
    have i0 : ∀ x y : V, atI [x, y] 0 = some x := fun x y => atI_nat (j := 0) rfl
    have i1 : ∀ x y : V, atI [x, y] 1 = some y := fun x y => atI_nat (j := 1) rfl
    have xl : us.length = ps.length := by rw [De.len, List.length_map]
    refine ⟨_, rfl, _, _, rfl, ?_⟩
    refine while_by (fun σ G => ∃ (d o : Nat) (y6 y7 y8 y9 y10 : Option V), σ = [some (.ref t), some (.ref e), some (.ref c), some (.int (b0 : Int)), some (.int (d : Int)), some (.int (o : Int)), y6, y7, y8, y9, y10, none, none] ∧ Same H G ∧ o ≤ bs.length ∧ d ≤ ps.length ∧ (bs.drop o).foldlM (decB is ps) (d, false, 0) = decs is ps (bs.drop b0)) (fun σ _ => offD bs.length σ)
      ⟨0, b0, none, none, none, none, none, rfl, Same.refl _, b0l, Nat.zero_le _, rfl⟩ ?_ ?_
    · rintro σ G ⟨d, o, y6, y7, y8, y9, y10, rfl, sG, ol, dl, inv⟩
      have c2 := sG.tup hc
      refine ⟨_, rfl, _, rfl, c, _, rfl, .inr c2, _, _, rfl, rfl, _, rfl, ?_⟩
      rw [List.length_map]
      by_cases h1 : (o : Int) < (bs.length : Int)
      · rw [decide_eq_true h1]
        have ho : o < bs.length := by omega
        have hb' : bs[o]? = some bs[o] := List.getElem?_eq_getElem ho
        have iv : atI (bs.map V.int) (o : Int) = some (.int bs[o]) := atI_nat (by rw [List.getElem?_map, hb']; rfl)
        have dr : bs.drop o = bs[o] :: bs.drop (o + 1) := List.drop_eq_getElem_cons ho
        have tll : (bs.drop (o + 1)).length = bs.length - (o + 1) := List.length_drop
        rw [dr] at inv
        generalize bs[o] = b at *
        refine iteT ⟨_, rfl, _, rfl, _, rfl, c, _, _, _, rfl, rfl, c2, iv, t, it, cnt, lg, is, rs, b, rfl, Tb.same sG, ?_⟩
        refine ⟨_, rfl, rfl, _, rfl, ?_⟩
        cases hy : opI is b with
        | none =>
          have e0 : laOf is b = 0 := by rw [la_opI, hy]
          rw [e0, decide_eq_true (show V.int ((0 : Nat) : Int) = V.int 0 from rfl)]
          refine iteT (q G _ sG ?_)
          rw [← inv, List.foldlM_cons, decB_unknown Tb.ok sok d hy]
          exact .str _
        | some y =>
          obtain ⟨y1, y2⟩ := opI_in hy
          have e1 : laOf is b = y.ln := by rw [la_opI, hy]
          have ylen := Tb.ok.len y y1
          have lb := Tb.ok.lb
          rw [e1, decide_eq_false (show ¬ V.int (y.ln : Int) = V.int 0 from fun z => by have := V.int.inj z; omega)]
          refine iteF ⟨_, rfl, _, rfl, _, rfl, c, _, _, _, rfl, rfl, c2, iv, t, it, cnt, lg, is, rs, b, y, rfl, Tb.same sG, hy, fun G1 r i s1 hr hi => ?_⟩
          have sG1 := sG.trans s1
          have hr2 := sG1 _ _ (Tb.rows.2 i r y hr hi)
          refine ⟨r, _, rfl, SqT.of hr2, rfl, _, _, rfl, _, _, rfl, _, _, rfl, _, _, rfl, rfl, ?_⟩
          have c3 := sG1.tup hc
          -- the instruction fits, or not
          refine ⟨fun σ G2 => ∃ y10, σ = [some (.ref t), some (.ref e), some (.ref c), some (.int (b0 : Int)), some (.int (d : Int)), some (.int (o : Int)), some (.int (y.ln : Int)), some (.int (y.op : Int)), some (.str (txt y.nm)), some (.bl y.pad), y10, none, none] ∧ Same H G2 ∧
            (bs.length < o + y.ln → decs is ps (bs.drop b0) = some (d, y.pad, o + y.ln - bs.length)) ∧ (¬ bs.length < o + y.ln → (if y.pad = true then d else d + 1) ≤ ps.length ∧ (bs.drop (o + y.ln)).foldlM (decB is ps) ((if y.pad = true then d else d + 1), false, 0) = decs is ps (bs.drop b0)), ?_, ?_⟩
          · refine ⟨_, rfl, _, rfl, ?_⟩
            cases hp : y.pad with
            | true =>
              have f := decs_pad (ps := ps) Tb.ok d hy hp (bs.drop (o + 1))
              rw [inv, tll, List.drop_drop, show o + 1 + (y.ln - 1) = o + y.ln by omega] at f
              refine iteF ⟨_, rfl, sG1, fun z => ?_, fun z => ?_⟩
              · rw [f, if_pos (by omega), show y.ln - 1 - (bs.length - (o + 1)) = o + y.ln - bs.length by omega]
              · rw [if_neg (by omega)] at f
                exact ⟨dl, f.symm⟩
            | false =>
              have f := decs_step (ps := ps) Tb.ok sok d hy hp (bs.drop (o + 1))
              rw [inv, tll, List.drop_drop, show o + 1 + (y.ln - 1) = o + y.ln by omega] at f
              have e2 := sG1.tup he
              refine iteT ⟨_, rfl, _, rfl, e, _, rfl, .inr e2, rfl, _, rfl, ?_⟩
              by_cases hd : d = ps.length
              · rw [decide_eq_true (show V.int (d : Int) = V.int (us.length : Int) by rw [xl, hd])]
                rw [List.getElem?_eq_none (by omega)] at f
                refine iteT (iteT (q G1 _ sG1 ?_))
                rw [f]
                exact .str _
              · rw [decide_eq_false (show ¬ V.int (d : Int) = V.int (us.length : Int) from fun z => hd (by have := V.int.inj z; omega))]
                have dl2 : d < ps.length := by omega
                have hx : ps[d]? = some ps[d] := List.getElem?_eq_getElem dl2
                generalize ps[d] = x at *
                have sx := sok x (List.mem_of_getElem? hx)
                have sl := sx.len
                have hv : us[d]? = some us[d] := List.getElem?_eq_getElem (by omega)
                obtain ⟨dv, hdv, Dv⟩ := De.at hv
                rw [List.getElem?_map, hx] at hdv
                cases hdv
                obtain ⟨va, vb, ev, ha, hvb⟩ := dx_step (Dv.same sG1)
                rw [ev] at hv
                have hve : atI us (d : Int) = some (.ref va) := atI_nat hv
                rw [hx] at f
                dsimp only at f
                refine iteF ⟨_, rfl, _, rfl, e, _, _, _, rfl, rfl, e2, hve, va, _, _, _, rfl, rfl, ha, i0 _ _, _, rfl, rfl, _, rfl, ?_⟩
                by_cases hn : x.1.nm = y.nm
                · rw [if_pos hn] at f
                  rw [decide_eq_true (show V.str (txt x.1.nm) = V.str (txt y.nm) by rw [hn])]
                  refine iteF ⟨_, rfl, _, rfl, e, _, _, _, rfl, rfl, e2, hve, va, _, _, _, rfl, rfl, ha, i1 _ _, ?_⟩
                  have xy := nm_inj Tb.ok.nd sx.mem y1 hn
                  have xln : x.2.length = y.ln - 1 := by rw [← xy]; omega
                  refine ⟨_, rfl, _, rfl, _, _, rfl, rfl, _, rfl, _, rfl, _, rfl, _, _, rfl, rfl, _, rfl, cut_x (Same.refl _) c3 fun l3 H3 T3 gr S3 => ?_⟩
                  have e3 : cutV (bs.map V.int) (some ((o : Int) + 1)) (some ((o : Int) + (y.ln : Int))) = ((bs.drop (o + 1)).take (y.ln - 1)).map V.int := by
                    rw [show (o : Int) + 1 = ((o + 1 : Nat) : Int) by omega, show (o : Int) + (y.ln : Int) = ((o + y.ln : Nat) : Int) by omega, cut_mid _ _ _ (by omega), ← List.map_drop, ← List.map_take, show o + y.ln - (o + 1) = y.ln - 1 by omega]
                  rw [e3] at S3
                  generalize ops : (bs.drop (o + 1)).take (y.ln - 1) = tl at *
                  refine ⟨vb, l3, _, _, rfl, gr.hh.tup hvb, gr.th.tup S3, by rw [List.length_map, List.length_map, sizeLine_eq]; omega, fun D ws H4 nD s4 nD4 pr lw => ?_⟩
                  have s5 := same_upd (o := HO.lst ws) nD4
                  have hD : upd H4 D (HO.lst ws) D = some (.lst ws) := upd_same
                  have pr := pr.same s5
                  have sG5 : Same H (upd H4 D (HO.lst ws)) := sG1.trans (gr.hh.trans (s4.trans s5))
                  rw [List.length_map, List.length_map] at lw
                  show tSeq _ _ _ _ (upd H4 D (HO.lst ws))
                  generalize upd H4 D (HO.lst ws) = G5 at *
                  have lz : (x.2.zip tl).length = ws.length := by rw [List.length_zip, lw]
                  refine ⟨_, rfl, D, rfl, ⟨_, SqL.of hD⟩, fun L nL => lc_list (K := K) (a := D) (xs := ws) (fun j G => Mk G5 G L ((((x.2.zip tl).take j).map fun q => decide (q.1 = none ∨ q.1 = some q.2)).map V.bl)) (.start nL) (fun j G _ p => SqL.of (p.same _ _ hD)) (fun j u G hu p => ?_) (fun G p => ?_)⟩
                  · obtain ⟨T, z1, z2, rfl, hz1, hz2, hT⟩ := pr j u hu
                    rw [List.getElem?_map] at hz1 hz2
                    obtain ⟨o', ho', rfl⟩ := Option.map_eq_some_iff.mp hz1
                    obtain ⟨b', hb2, rfl⟩ := Option.map_eq_some_iff.mp hz2
                    have hz : (x.2.zip tl)[j]? = some (o', b') := by
                      rw [List.getElem?_zip_eq_some]
                      exact ⟨ho', hb2⟩
                    have jl := (List.getElem?_eq_some_iff.mp hu).1
                    have fin : ∀ bb : Bool, bb = decide (o' = none ∨ o' = some b') → ∃ acc, G L = some (.lst acc) ∧ acc.length < sizeLine ∧ Mk G5 (upd G L (.lst (acc ++ [V.bl bb]))) L ((((x.2.zip tl).take (j + 1)).map fun q => decide (q.1 = none ∨ q.1 = some q.2)).map V.bl) := fun bb e => by
                      subst e
                      refine ⟨_, p.at_, by rw [List.length_map, List.length_map, List.length_take]; exact small1000 (by omega), ?_⟩
                      rw [take_more hz, List.map_append, List.map_append]
                      exact p.put (Same.refl _)
                    refine ⟨T, _, rfl, SqT.of (p.same _ _ hT), rfl, _, _, rfl, _, _, rfl, rfl, rfl, _, rfl, rfl, _, rfl, ?_⟩
                    cases o' with
                    | none => exact iteT (fin true (by simp))
                    | some z =>
                      refine iteF ⟨_, rfl, _, rfl, rfl, ?_⟩
                      refine fin _ ?_
                      show decide (V.int z = V.int b') = decide (some z = none ∨ some z = some b')
                      by_cases h : z = b'
                      · subst h
                        rw [decide_eq_true (show V.int z = V.int z from rfl), decide_eq_true (show some z = none ∨ some z = some z from .inr rfl)]
                      · rw [decide_eq_false (fun q => h (V.int.inj q)), decide_eq_false (fun q => by rcases q with q | q <;> simp at q; exact h q)]
                  · rw [← lz, List.take_length] at p
                    have sG6 := sG5.trans p.same
                    have ef : (((x.2.zip tl).map fun q => decide (q.1 = none ∨ q.1 = some q.2))).all id = fitsL x.2 tl := by
                      unfold fitsL
                      rw [List.all_map]
                      rfl
                    refine ⟨L, _, rfl, SqL.of p.at_, _, rfl, ?_⟩
                    rw [ef]
                    cases hf : fitsL x.2 tl with
                    | false =>
                      rw [hf, if_neg (by decide)] at f
                      refine iteT (q G _ sG6 ?_)
                      rw [f]
                      exact .str _
                    | true =>
                      rw [hf, if_pos rfl] at f
                      refine iteF ⟨_, rfl, sG6, fun z => ?_, fun z => ?_⟩
                      · rw [f, if_pos (by omega), show y.ln - 1 - (bs.length - (o + 1)) = o + y.ln - bs.length by omega]
                      · rw [if_neg (by omega)] at f
                        exact ⟨dl2, f.symm⟩
                · rw [if_neg hn] at f
                  rw [decide_eq_false (show ¬ V.str (txt x.1.nm) = V.str (txt y.nm) from fun z => hn (txt_inj (V.str.inj z)))]
                  refine iteT (q G1 _ sG1 ?_)
                  rw [f]
                  exact .str _
          · rintro σ G2 ⟨y10, rfl, sG2, ov, un⟩
            have c4 := sG2.tup hc
            refine ⟨_, rfl, _, rfl, _, _, rfl, rfl, _, rfl, c, _, rfl, .inr c4, _, _, rfl, rfl, _, rfl, ?_⟩
            rw [List.length_map]
            by_cases h2 : bs.length < o + y.ln
            · rw [decide_eq_true (show (bs.length : Int) < (o : Int) + (y.ln : Int) by omega)]
              refine iteT ⟨_, rfl, _, rfl, _, rfl, _, rfl, _, _, rfl, rfl, _, rfl, c, _, rfl, .inr c4, _, _, rfl, rfl, by show 3 ≤ sizeLine; decide, fun r nr => q _ _ (sG2.trans (same_upd nr)) ?_⟩
              rw [ov h2]
              refine dx_dst (d := (d, y.pad, o + y.ln - bs.length)) (SqT.of ?_)
              rw [upd_same, List.length_map]
              show some (HO.tup [V.int (d : Int), V.bl y.pad, V.int ((o : Int) + (y.ln : Int) - (bs.length : Int))]) = some (HO.tup [V.int (d : Int), V.bl y.pad, V.int ((o + y.ln - bs.length : Nat) : Int)])
              rw [show ((o + y.ln - bs.length : Nat) : Int) = (o : Int) + (y.ln : Int) - (bs.length : Int) by omega]
            · rw [decide_eq_false (show ¬ (bs.length : Int) < (o : Int) + (y.ln : Int) by omega)]
              obtain ⟨u1, u2⟩ := un h2
              have ev : ((if y.pad = true then d else d + 1 : Nat) : Int) = (d : Int) + (if (!y.pad) = true then 1 else 0) := by cases y.pad <;> simp
              refine iteF ⟨_, rfl, _, rfl, _, _, rfl, rfl, _, rfl, _, rfl, _, rfl, .inr ⟨_, rfl, _, _, rfl, rfl, _, _, rfl, ⟨if y.pad = true then d else d + 1, o + y.ln, _, _, _, _, _, by rw [ev]; rfl, sG2, by omega, u1, u2⟩, ?_⟩⟩
              show bs.length - ((o : Int) + (y.ln : Int)).toNat < bs.length - (o : Int).toNat
              omega
      · rw [decide_eq_false h1]
        have eo : o = bs.length := by omega
        subst eo
        rw [List.drop_length] at inv
        refine iteF ⟨_, rfl, by show 3 ≤ sizeLine; decide, fun r nr => q _ _ (sG.trans (same_upd nr)) ?_⟩
        rw [← inv]
        exact dx_dst (d := (d, false, 0)) (SqT.of upd_same)
    · rintro σ H2 Q1 Q2 hQ ⟨v, h1, v2, h2, a, xs, h3, h4, i, j, h5, h6, b, h7, h8⟩
      exact ⟨v, h1, v2, h2, a, xs, h3, h4, i, j, h5, h6, b, h7, hQ _ _ h8⟩
end
end Ov
namespace Ov
open PySem PySem.Spec PyProof.Rows L2
/-! ### the states behind a row -/
theorem room5 {k : Nat} {A : Around} (r : Room k A) : A.units + 65 < cLine := by have := r.un; omega
/-- what f gives for all, or nothing -/
def gfold {α β : Type} (f : α → Option β) (l : List α) : Option (List β) := l.foldlM (fun acc q => (f q).map fun x => acc ++ [x]) []
theorem gfold_to {α β : Type} {f : α → Option β} : ∀ (l : List α) (acc : List β), (∃ ds, l.foldlM (fun acc q => (f q).map fun x => acc ++ [x]) acc = some (acc ++ ds) ∧ l.map f = ds.map some) ∨ (l.foldlM (fun acc q => (f q).map fun x => acc ++ [x]) acc = none ∧ none ∈ l.map f)
  | [], acc => .inl ⟨[], by rw [List.append_nil]; rfl, rfl⟩
  | q :: l, acc => by
    rw [List.foldlM_cons]
    cases h : f q with
    | none => exact .inr ⟨rfl, by rw [List.map_cons, h]; exact List.mem_cons_self⟩
    | some x =>
      rcases gfold_to l (acc ++ [x]) with ⟨ds, e, m⟩ | ⟨e, m⟩
      · exact .inl ⟨x :: ds, by show List.foldlM _ (acc ++ [x]) l = _; rw [e]; simp, by rw [List.map_cons, h, m]; rfl⟩
      · exact .inr ⟨e, List.mem_cons_of_mem _ m⟩
theorem gfold_at {α β : Type} {f : α → Option β} (l : List α) : (∃ ds, gfold f l = some ds ∧ l.map f = ds.map some) ∨ (gfold f l = none ∧ none ∈ l.map f) := gfold_to l []
theorem gfold_some {α β : Type} {f : α → Option β} {l : List α} {ds : List β} (h : gfold f l = some ds) : l.map f = ds.map some := by
  rcases gfold_at (f := f) l with ⟨es, e, m⟩ | ⟨e, _⟩
  · rw [h] at e; cases e; exact m
  · rw [h] at e; cases e
theorem gfold_congr {α γ β : Type} {f : α → Option β} {g : γ → Option β} {l : List α} {m : List γ} (h : l.map f = m.map g) : gfold f l = gfold g m := by
  have e : ∀ {δ : Type} (g : δ → Option β) (m : List δ), gfold g m = (m.map g).foldlM (fun acc x => x.map fun x => acc ++ [x]) [] := fun g m => by
    unfold gfold
    rw [List.foldlM_map]
  rw [e f l, e g m, h]
def rowIt (is : List I4) (row : List Int) (q : List PStep × Nat) : Option (Option Dst) := if row.length < q.2 then some none else (decs is q.1 (row.drop q.2)).map some
def rowSt (is : List I4) (pss : List (List PStep)) (gs : List Nat) (row : List Int) : Option Sta := (gfold (rowIt is row) (pss.zip gs)).map fun ds => (min row.length (lastG gs), ds)
def itD : Option (Option Dst) → PyData
  | none => .str "fails"
  | some o => odD o
theorem itD_row {is : List I4} {row : List Int} {q : List PStep × Nat} : itD (rowIt is row q) = if row.length < q.2 then .none else ldD (decs is q.1 (row.drop q.2)) := by
  unfold rowIt
  by_cases h : row.length < q.2
  · rw [if_pos h, if_pos h]; rfl
  · rw [if_neg h, if_neg h]
    cases decs is q.1 (row.drop q.2) <;> rfl
theorem it_flat (o : Option (Option Dst)) : (itD o).canLay0 = true ∧ (itD o).depth ≤ 1 ∧ (itD o).hasDict = false := by
  cases o with
  | none => exact ⟨by show PyData.strOk _ = true; decide +kernel, Nat.zero_le _, rfl⟩
  | some o =>
    cases o with
    | none => exact ⟨rfl, Nat.zero_le _, rfl⟩
    | some d => exact ⟨rfl, by show PyData.depthAll _ + 1 ≤ 1; simp [PyData.depthAll, PyData.depth], rfl⟩
theorem its_flat : ∀ os : List (Option (Option Dst)), PyData.canLayAll0 (os.map itD) = true ∧ PyData.depthAll (os.map itD) ≤ 1 ∧ PyData.hasDictAll (os.map itD) = false
  | [] => ⟨rfl, Nat.zero_le _, rfl⟩
  | o :: os => by
    obtain ⟨h1, h2, h3⟩ := it_flat o
    obtain ⟨g1, g2, g3⟩ := its_flat os
    rw [List.map_cons]
    refine ⟨by simp only [PyData.canLayAll0, h1, g1]; rfl, ?_, by simp only [PyData.hasDictAll, h3, g3]; rfl⟩
    show max _ _ ≤ 1
    exact Nat.max_le.mpr ⟨h2, g2⟩
theorem ld_hide {K : PySem.W.Frag} {H : Hp} {L : Addr} {us : List V} (hL : H L = some (.lst us)) {v : V} {o : Option Dst} (D : Dx K H v (ldD o)) : Dx K (hide L H) v (ldD o) := by
  cases o with
  | none =>
    cases D
    exact .str _
  | some d =>
    obtain ⟨a, rfl, ha⟩ := dst_at (show Dx K H v (dstD d) from D)
    refine dx_dst (d := d) ?_
    rcases ha with (h | ⟨o, h⟩) | h
    · exact .inl (.inl (hide_at h (fun z => by rw [z, hL] at h; cases h)))
    · exact .inl (.inr ⟨o, hide_at h (fun z => by rw [z, hL] at h; cases h)⟩)
    · exact .inr h
theorem eqv_fails (o : Option (Option Dst)) : PyData.eqv (itD o) (.str "fails") = decide (o = none) := by
  cases o with
  | none => rfl
  | some o => cases o <;> rfl
section
variable {P : Program} {w : World} {K : PySem.W.Frag} {mg : Str → Option Value} {base : Heap}
def spLState (K : PySem.W.Frag) : Sp := fun vs H Q _ => ∃ (t it l g c : Addr) (cnt lg : Nat) (is : List I4) (rs : List Addr) (xs : List V) (pss : List (List PStep)) (gs : List Nat) (bs : List Int), vs = [.ref t, .ref l, .ref g, .ref c] ∧ Tab H t cnt lg is it rs ∧ SqT K H l xs ∧ DxAll K H xs (pss.map planD) ∧ Plns cnt is pss ∧ SqT K H g (entV gs) ∧ gs.length = pss.length ∧ SqT K H c (bs.map V.int) ∧ bs.length ≤ 1000 ∧
  ∀ H' v, Same H H' → Dx K H' v (ostD (rowSt is pss gs bs)) → Q v H'
abbrev nLstate : List Str := ["_law_table_here", "_law_plans", "_law_gates_here", "_law_row", "_law_found", "_law_plan_here", "_law_gate"]
theorem scLstate : FnScope nLstate ["_law_table_here", "_law_plans", "_law_gates_here", "_law_row"] (defScope s_law_state) := ⟨rfl, rfl, rfl, by decide +kernel, rfl, by decide +kernel, by decide +kernel⟩
theorem ok_lstate {f fLDecoder : Addr} {fd fdLDecoder : FuncData} {k : Nat} (F : Fun K "_law_state" "_law_state" s_law_state f fd) (T : Bi mg) (LDecoder : Def K mg "_law_decoder" s_law_decoder fLDecoder fdLDecoder ["_law_table_here", "_law_plan_here", "_law_row", "_law_begin"]) (GLDecoder : FnOk P w K mg base CX0 k fLDecoder fdLDecoder ["_law_table_here", "_law_plan_here", "_law_row", "_law_begin"] (spLDec K)) :
    FnOk P w K mg base CX0 (k + 1) f fd ["_law_table_here", "_law_plans", "_law_gates_here", "_law_row"] (spLState K) := by
  refine F.ok scLstate (fun vs H Q E h => ?_) (fun cdv A' outer s H vs Q E hr h => ?_)
  · obtain ⟨t, it, l, g, c, cnt, lg, is, rs, xs, pss, gs, bs, rfl, _⟩ := h
    rfl
  · obtain ⟨t, it, l, g, c, cnt, lg, is, rs, xs, pss, gs, bs, rfl, Tb, hl, Dl, pl, hg, lgp, hc, few, q⟩ := h
    refine ⟨_, pss_cons (ps_set (i := 4) scLstate.nd rfl (.inl rfl) (pe_lst pa_nil))
      (pss_cons (ps_for PassesOwn.never rfl (RZ.pi_zipA (by rfl) T.zip (pa_cons (pv 1) (pa_cons (pv 2) pa_nil))) (pg_tup rfl (pgs_cons (pg_name (i := 5) scLstate.nd rfl (.inl rfl)) (pgs_cons (pg_name (i := 6) scLstate.nd rfl (.inl rfl)) pgs_nil))) (pss_one (ps_expr (pe_bm PySem.F.plainAttrs_list PySem.F.slot_list_append PySem.F.type_list_append mt_append (pv 4) (pa_cons (pe_ifExp (pt_cmpR op_gt (pv 6) (pe_callB call_len_seq (by rfl) T.len PySem.boot_len (pa_cons (pv 3) pa_nil)) (nomark _)) pe_non (pe_call GLDecoder hr (by rfl) LDecoder.gl LDecoder.fn.kp LDecoder.bi .nil pass0 (pa_cons (pv 0) (pa_cons (pv 5) (pa_cons (pv 3) (pa_cons (pv 6) pa_nil)))))) pa_nil)))))
      (pss_one (ps_ret (pe_ifExp (pt_cmpR (op_inD (room5 hr)) pe_str (pv 4) (by rfl)) pe_non (pe_tup (pa_cons (pe_callB (call_min2 rfl) (by rfl) T.min (by decide +kernel) (pa_cons (pe_callB call_len_seq (by rfl) T.len PySem.boot_len (pa_cons (pv 3) pa_nil)) (pa_cons (pe_ix ix_tup (pv 2) (pe_un un_neg pe_int) (fun _ _ => rfl)) pa_nil))) (pa_cons (pe_callTy call_tuple_of (by rfl) T.tuple (by decide +kernel) (pa_cons (pv 4) pa_nil)) pa_nil))))))), ?_⟩
    have xl : xs.length = pss.length := by rw [Dl.len, List.length_map]
    have l3 := pl.few
    have gne : gs ≠ [] := fun z => by
      have := pl.one
      rw [z] at lgp
      simp at lgp
      omega
    obtain ⟨gr, z, eg⟩ : ∃ (gr : List Nat) (z : Nat), gs = gr ++ [z] := by
      rcases List.eq_nil_or_concat gs with e0 | ⟨gr, z, e0⟩
      · exact absurd e0 gne
      · exact ⟨gr, z, by rw [e0, List.concat_eq_append]⟩
    have ez : lastG gs = z := by rw [eg]; unfold lastG; simp
    have hEz : atI (entV gs) (-1) = some (V.int (z : Int)) := by
      have e : entV gs = entV gr ++ [V.int (z : Int)] := by
        rw [eg]
        show ((gr ++ [z]).map fun n : Nat => (n : Int)).map V.int = _
        rw [List.map_append, List.map_append]
        rfl
      rw [e]
      exact atI_last _ _
    have zl : (pss.zip gs).length = xs.length := by rw [List.length_zip, lgp, xl]; omega
    refine ⟨Nat.zero_le _, fun L nL => ?_⟩
    refine ⟨_, rfl, _, rfl, l, g, _, _, rfl, .inr ⟨(same_upd nL).tup hl, (same_upd nL).tup hg, for_it (walk_zipT (K := K) (a := l) (b := g) (xs := xs) (ys := entV gs) rfl) (fun i σ G => ∃ (T' : Hp) (us : List V) (y5 y6 : Option V), σ = [some (.ref t), some (.ref l), some (.ref g), some (.ref c), some (.ref L), y5, y6] ∧ Same H T' ∧ Coll K T' G L us ((((pss.zip gs).take i).map (rowIt is bs)).map itD))
      ⟨H, [], _, _, rfl, Same.refl _, ⟨same_upd nL, nL, upd_same, .nil⟩⟩ (fun i σ G _ ⟨T', us, _, _, _, st, cl⟩ => ⟨(st.trans cl.th).tup hl, (st.trans cl.th).tup hg⟩) ?_ ?_⟩⟩
    · rintro i u σ G G' hi ⟨T', us, y5, y6, rfl, st, cl⟩ ⟨T, x1, x2, rfl, nT, rfl, f1, f2⟩
      have f1 : xs[i]? = some x1 := f1
      have f2 : (entV gs)[i]? = some x2 := f2
      obtain ⟨d1, hd1, D1⟩ := Dl.at f1
      rw [List.getElem?_map] at hd1
      obtain ⟨ps, hps, rfl⟩ := Option.map_eq_some_iff.mp hd1
      rw [List.getElem?_map, List.getElem?_map] at f2
      obtain ⟨z2, hz2, rfl⟩ := Option.map_eq_some_iff.mp f2
      obtain ⟨g', hg', rfl⟩ := Option.map_eq_some_iff.mp hz2
      have hz : (pss.zip gs)[i]? = some (ps, g') := by
        rw [List.getElem?_zip_eq_some]
        exact ⟨hps, hg'⟩
      have il := (List.getElem?_eq_some_iff.mp hps).1
      obtain ⟨_, sokp⟩ := pl.ok ps (List.mem_of_getElem? hps)
      have g1 := (Grow.refl cl.th).put (HO.tup [x1, V.int (g' : Int)]) nT
      have c1 := cl.grow g1
      have st1 := st.trans g1.tt
      have hT : SqT K (upd G T (HO.tup [x1, V.int (g' : Int)])) T [x1, V.int (g' : Int)] := SqT.of upd_same
      generalize upd T' T (HO.tup [x1, V.int (g' : Int)]) = T1, upd G T (HO.tup [x1, V.int (g' : Int)]) = G1 at *
      have sH1 := st1.trans c1.th
      have ul : us.length ≤ 1000 := by rw [cl.all.len, List.length_map, List.length_map, List.length_take]; omega
      have c2 := sH1.tup hc
      have er : itD (rowIt is bs (ps, g')) = if bs.length < g' then .none else ldD (decs is ps (bs.drop g')) := itD_row
      have em : ((((pss.zip gs).take (i + 1)).map (rowIt is bs)).map itD) = ((((pss.zip gs).take i).map (rowIt is bs)).map itD) ++ [if bs.length < g' then .none else ldD (decs is ps (bs.drop g'))] := by
        rw [take_more hz, List.map_append, List.map_append, ← er]
        rfl
      refine ⟨T, _, rfl, hT, rfl, _, _, rfl, _, _, rfl, rfl, ?_⟩
      refine ⟨_, rfl, .inl ⟨rfl, _, SqL.of c1.at_⟩, _, rfl, _, rfl, c, _, rfl, .inr c2, _, _, rfl, rfl, _, rfl, ?_⟩
      rw [List.length_map]
      rw [em]
      by_cases hb : bs.length < g'
      · rw [decide_eq_true (show (bs.length : Int) < (g' : Int) by omega), if_pos hb]
        refine iteT ⟨L, _, _, rfl, rfl, c1.at_, by rw [sizeLine_eq]; omega, T1, us ++ [.non], _, _, rfl, st1, c1.push .non⟩
      · rw [decide_eq_false (show ¬ (bs.length : Int) < (g' : Int) by omega), if_neg hb]
        obtain ⟨a2, xs2, rfl, ha2, A2⟩ := dx_tup (show Dx K H x1 (.tuple (ps.map stepD)) from D1)
        refine iteF ⟨_, rfl, _, rfl, _, rfl, _, rfl, t, it, c, a2, cnt, lg, is, rs, xs2, ps, bs, g', rfl, Tb.same sH1, sH1.tup ha2, A2.same sH1, sokp, c2, few, by omega, fun H' v s' D' => ?_⟩
        have hL : H' L = some (.lst us) := s' _ _ c1.at_
        have sl2 : Same T1 (hide L H') := fun b o e => hide_at ((c1.th.trans s') b o e) (ne_of_none e c1.td)
        exact ⟨L, _, _, rfl, rfl, hL, by rw [sizeLine_eq]; omega, hide L H', us ++ [v], _, _, rfl, st1.trans sl2, Coll.push ⟨hide_same, hide_none, hL, c1.all.same sl2⟩ (ld_hide hL D')⟩
    · rintro σ G ⟨T', us, y5, y6, rfl, st, cl⟩
      have e0 : min xs.length (entV gs).length = (pss.zip gs).length := by rw [List.length_map, List.length_map, List.length_zip, xl]
      rw [e0, List.take_length] at cl
      have sG := st.trans cl.th
      have c2 := sG.tup hc
      obtain ⟨k1, k2, k3⟩ := its_flat ((pss.zip gs).map (rowIt is bs))
      have DL : Dp K G (.ref L) (.list (((pss.zip gs).map (rowIt is bs)).map itD)) := (Dx.lst (SqL.of cl.at_) (cl.all.same cl.th)).dp k3
      refine ⟨_, rfl, .str "fails", _, .str _, DL, by decide +kernel, ?_, ?_⟩
      · unfold SeqAt.shaped
        rw [Bool.and_eq_true]
        refine ⟨k1, decide_eq_true ?_⟩
        show PyData.depthAll _ + 1 ≤ 64
        omega
      have ea : (((pss.zip gs).map (rowIt is bs)).map itD).any (fun z => PyData.eqv z (.str "fails")) = ((pss.zip gs).map (rowIt is bs)).any (fun o => decide (o = none)) := by
        rw [List.any_map]
        congr 1
        funext o
        exact eqv_fails o
      rw [ea]
      unfold rowSt at q
      rcases gfold_at (f := rowIt is bs) (pss.zip gs) with ⟨ds, e1, m⟩ | ⟨e1, m⟩
      · have ef : ((pss.zip gs).map (rowIt is bs)).any (fun o => decide (o = none)) = false := by
          rw [m, List.any_map]
          exact List.any_eq_false.mpr fun x _ => by simp
        rw [e1] at q
        rw [ef]
        have er : (if (z : Int) < ((bs.map V.int).length : Int) then (z : Int) else ((bs.map V.int).length : Int)) = ((min bs.length (lastG gs) : Nat) : Int) := by
          rw [ez, List.length_map]
          split <;> omega
        refine ⟨_, rfl, iteF ⟨_, rfl, c, _, rfl, .inr c2, _, rfl, _, rfl, g, _, _, _, rfl, rfl, sG.tup hg, hEz, _, _, rfl, ?_⟩⟩
        rw [er]
        refine ⟨_, rfl, L, _, rfl, .inl ⟨SqL.of cl.at_, fun u nu => ⟨by show 2 ≤ sizeLine; decide, fun u2 nu2 => ?_⟩⟩⟩
        have s1 := same_upd (o := HO.tup us) nu
        have s2 := same_upd (o := HO.tup [V.int ((min bs.length (lastG gs) : Nat) : Int), V.ref u]) nu2
        have ed : (((pss.zip gs).map (rowIt is bs)).map itD) = ds.map odD := by
          rw [m, List.map_map]
          rfl
        rw [ed] at cl
        refine q _ _ (sG.trans (s1.trans s2)) (.tup (SqT.of upd_same) (.cons (.int _) (.cons (.tup (SqT.of (s2 _ _ upd_same)) ?_) .nil)))
        exact cl.all.same (cl.th.trans (s1.trans s2))
      · have ef : ((pss.zip gs).map (rowIt is bs)).any (fun o => decide (o = none)) = true := List.any_eq_true.mpr ⟨none, m, rfl⟩
        rw [e1] at q
        rw [ef]
        exact ⟨_, rfl, iteT (q _ .non sG .non)⟩
end
end Ov
namespace Ov
open PySem PySem.Spec PyProof.Rows L2
/-! ### a state, and the state behind one more byte -/
theorem gfold_mk {α β : Type} {f : α → Option β} {l : List α} {ds : List β} (h : l.map f = ds.map some) : gfold f l = some ds := by
  rcases gfold_at (f := f) l with ⟨es, e, m⟩ | ⟨e, m⟩
  · rw [e]
    rw [h] at m
    have : ds = es := by
      have z := congrArg (List.filterMap id) m
      rw [List.filterMap_map, List.filterMap_map] at z
      simpa using z
    rw [this]
  · rw [h] at m
    obtain ⟨x, _, e2⟩ := List.mem_map.mp m
    cases e2
theorem last_le {gs : List Nat} (asc : (gs.map fun n : Nat => (n : Int)).Pairwise (· < ·)) : ∀ g ∈ gs, g ≤ lastG gs := by
  intro g hg
  rcases List.eq_nil_or_concat gs with e0 | ⟨gr, z, e0⟩
  · rw [e0] at hg; cases hg
  · rw [List.concat_eq_append] at e0
    subst e0
    have ez : lastG (gr ++ [z]) = z := by unfold lastG; simp
    rw [ez]
    rcases List.mem_append.mp hg with h | h
    · rw [List.map_append] at asc
      have := (List.pairwise_append.mp asc).2.2 (g : Int) (List.mem_map.mpr ⟨g, h, rfl⟩) (z : Int) (by simp)
      omega
    · rw [List.mem_singleton.mp h]; exact Nat.le_refl _
section
variable {is : List I4} {pss : List (List PStep)} {gs : List Nat}
theorem rowSt_at {row : List Int} {s : Sta} (h : rowSt is pss gs row = some s) : s.1 = min row.length (lastG gs) ∧ (pss.zip gs).map (rowIt is row) = s.2.map some := by
  unfold rowSt at h
  obtain ⟨ds, h1, rfl⟩ := Option.map_eq_some_iff.mp h
  exact ⟨rfl, gfold_some h1⟩
theorem rowSt_nil (lgp : gs.length = pss.length) : rowSt is pss gs [] = some (first0 gs) := by
  unfold rowSt
  rw [gfold_mk (ds := gs.map fun g => if g = 0 then some (0, false, 0) else none)]
  · show some (min 0 (lastG gs), _) = _
    rw [Nat.zero_min]
    rfl
  · rw [List.map_map]
    have e : gs = (pss.zip gs).map (·.2) := by
      rw [List.map_snd_zip]
      omega
    conv => rhs; rw [e]
    rw [List.map_map]
    refine List.map_congr_left fun q _ => ?_
    show (if 0 < q.2 then some none else (decs is q.1 ([].drop q.2)).map some) = some (if q.2 = 0 then some (0, false, 0) else none)
    rw [List.drop_nil]
    by_cases h : q.2 = 0
    · rw [if_neg (by omega), if_pos h]; rfl
    · rw [if_pos (by omega), if_neg h]
theorem decs_more {ps : List PStep} (row : List Int) (b : Int) : decs is ps (row ++ [b]) = (decs is ps row).bind fun d => decB is ps d b := by
  unfold decs
  rw [List.foldlM_append]
  show (List.foldlM _ _ row >>= fun d => List.foldlM _ d [b]) = _
  congr 1
  funext d
  rw [List.foldlM_cons]
  show (decB is ps d b >>= fun x => pure x) = _
  exact bind_pure _
theorem rowSt_more (lgp : gs.length = pss.length) (asc : (gs.map fun n : Nat => (n : Int)).Pairwise (· < ·)) {row : List Int} {s : Sta} (h : rowSt is pss gs row = some s) (b : Int) : rowSt is pss gs (row ++ [b]) = behind is pss gs s b := by
  obtain ⟨h1, h2⟩ := rowSt_at h
  have sl : s.2.length = pss.length := by
    have := congrArg List.length h2
    rw [List.length_map, List.length_map, List.length_zip] at this
    omega
  unfold rowSt behind
  have lr : (row ++ [b]).length = row.length + 1 := by rw [List.length_append]; rfl
  have er : min (row ++ [b]).length (lastG gs) = min (s.1 + 1) (lastG gs) := by rw [lr, h1]; omega
  have key : gfold (rowIt is (row ++ [b])) (pss.zip gs) = movs is (min (s.1 + 1) (lastG gs)) b (zips s gs pss) := by
    show gfold _ _ = gfold (movB is (min (s.1 + 1) (lastG gs)) b) (zips s gs pss)
    refine gfold_congr (List.ext_getElem? fun i => ?_)
    rw [List.getElem?_map, List.getElem?_map]
    by_cases il : i < pss.length
    · obtain ⟨ps, hps⟩ : ∃ ps, pss[i]? = some ps := ⟨_, List.getElem?_eq_getElem il⟩
      obtain ⟨g, hg⟩ : ∃ g, gs[i]? = some g := ⟨gs[i]'(by omega), List.getElem?_eq_getElem _⟩
      obtain ⟨o, ho⟩ : ∃ o, s.2[i]? = some o := ⟨s.2[i]'(by omega), List.getElem?_eq_getElem _⟩
      have z1 : (pss.zip gs)[i]? = some (ps, g) := by rw [List.getElem?_zip_eq_some]; exact ⟨hps, hg⟩
      have z2 : (zips s gs pss)[i]? = some (o, g, ps) := by
        unfold zips
        rw [List.getElem?_zip_eq_some, List.getElem?_zip_eq_some]
        exact ⟨ho, hg, hps⟩
      have z3 : rowIt is row (ps, g) = some o := by
        have := congrArg (fun l => l[i]?) h2
        rw [List.getElem?_map, List.getElem?_map, z1, ho] at this
        exact Option.some.inj this
      rw [z1, z2]
      show some (rowIt is (row ++ [b]) (ps, g)) = some (movB is (min (s.1 + 1) (lastG gs)) b (o, g, ps))
      congr 1
      have gz := last_le asc g (List.mem_of_getElem? hg)
      unfold rowIt at z3 ⊢
      rw [lr]
      dsimp only at z3 ⊢
      by_cases c : row.length < g
      · rw [if_pos c] at z3
        cases z3
        show _ = some (if g = min (s.1 + 1) (lastG gs) then some (0, false, 0) else none)
        by_cases c2 : row.length + 1 < g
        · rw [if_pos c2, if_neg (by rw [h1]; omega)]
        · rw [if_neg c2, if_pos (by rw [h1]; omega), List.drop_of_length_le (by rw [lr]; omega)]
          rfl
      · rw [if_neg c] at z3
        obtain ⟨d, hd, rfl⟩ := Option.map_eq_some_iff.mp z3
        show _ = (decB is ps d b).map some
        rw [if_neg (by omega), List.drop_append_of_le_length (by omega), decs_more, hd]
        rfl
    · rw [List.getElem?_eq_none (by rw [List.length_zip]; omega), List.getElem?_eq_none (by unfold zips; rw [List.length_zip, List.length_zip]; omega)]
      rfl
  rw [key, er]
variable {cnt lg : Nat}
theorem fold_ok (ok : TabOk cnt lg is) {ps : List PStep} (pok : ∀ x ∈ ps, StepOk cnt is x) (row : List Int) : ∀ (d d' : Dst), DecOk ps d → row.foldlM (decB is ps) d = some d' → DecOk ps d' := by
  induction row with
  | nil =>
    intro d d' h e
    cases e
    exact h
  | cons b row ih =>
    intro d d' h e
    rw [List.foldlM_cons] at e
    cases hb : decB is ps d b with
    | none => rw [hb] at e; cases e
    | some d2 =>
      rw [hb] at e
      exact ih d2 d' (decB_ok ok pok h hb) e
theorem rowSt_ok (ok : TabOk cnt lg is) (pl : Plns cnt is pss) (oe : Ents gs) (lgp : gs.length = pss.length) {row : List Int} {s : Sta} (h : rowSt is pss gs row = some s) : StaOk pss gs s := by
  obtain ⟨h1, h2⟩ := rowSt_at h
  have sl : s.2.length = pss.length := by
    have := congrArg List.length h2
    rw [List.length_map, List.length_map, List.length_zip] at this
    omega
  refine ⟨sl, fun i d ps hd hps => ?_, ?_⟩
  · obtain ⟨g, hg⟩ : ∃ g, gs[i]? = some g := ⟨gs[i]'(by have := (List.getElem?_eq_some_iff.mp hps).1; omega), List.getElem?_eq_getElem _⟩
    have z1 : (pss.zip gs)[i]? = some (ps, g) := by rw [List.getElem?_zip_eq_some]; exact ⟨hps, hg⟩
    have z3 : rowIt is row (ps, g) = some (some d) := by
      have := congrArg (fun l => l[i]?) h2
      rw [List.getElem?_map, List.getElem?_map, z1, hd] at this
      exact Option.some.inj this
    unfold rowIt at z3
    by_cases c : row.length < g
    · rw [if_pos c] at z3; cases z3
    · rw [if_neg c] at z3
      obtain ⟨d2, hd2, e⟩ := Option.map_eq_some_iff.mp z3
      cases e
      exact fold_ok ok (pl.ok ps (List.mem_of_getElem? hps)).2 _ _ _ ⟨Nat.zero_le _, (fun z => absurd z Bool.false_ne_true), Nat.zero_le _, fun _ z => absurd z (Nat.lt_irrefl 0)⟩ hd2
  · have gne : gs ≠ [] := fun z => by
      have := pl.one
      rw [z] at lgp
      simp at lgp
      omega
    have : lastG gs ∈ gs := by
      unfold lastG
      rw [List.getLast?_eq_some_getLast gne]
      exact List.getLast_mem gne
    have := oe.low _ this
    omega
end
end Ov
namespace Ov
open PySem PySem.Spec PyProof.Rows L2
section
variable {P : Program} {w : World} {K : PySem.W.Frag} {mg : Str → Option Value} {base : Heap}
/-! ### _law_gates -/
def spGates : Sp := fun vs H Q _ => ∃ (p : Addr) (T M : Hp) (f many most : Nat), vs = [.ref p, .int (many : Int), .int (most : Int)] ∧ Wd p T M H (f + 3) ∧ 1 ≤ many ∧ many ≤ 3 ∧ 1 ≤ most ∧ most ≤ 6 ∧
  ∀ H' T' r gs, Same T T' → Wd p T' M H' f → T' r = some (.tup (entV gs)) → Ents gs → gs.length = many → Q (.ref r) H'
abbrev nGates : List Str := ["_law_box_here", "_law_many", "_law_most", "_law_found"]
theorem scGates : FnScope nGates ["_law_box_here", "_law_many", "_law_most"] (defScope s_law_gates) := ⟨rfl, rfl, rfl, by decide +kernel, rfl, by decide +kernel, by decide +kernel⟩
theorem ok_gates {f fTk : Addr} {fd fdTk : FuncData} {k : Nat} (F : Fun K "_law_gates" "_law_gates" s_law_gates f fd) (T : Bi mg) (Tk : Def K mg "_law_take" sTake fTk fdTk ["_law_box_here", "_law_many"]) (GTk : FnOk P w K mg base CX0 k fTk fdTk ["_law_box_here", "_law_many"] (spTake)) :
    FnOk P w K mg base CX0 (k + 1) f fd ["_law_box_here", "_law_many", "_law_most"] (spGates) := by
  refine F.ok scGates (fun vs H Q E h => ?_) (fun cdv A' outer s H vs Q E hr h => ?_)
  · obtain ⟨p, T, M, f, many, most, rfl, _⟩ := h
    rfl
  · obtain ⟨p, T0, M, f, many, most, rfl, W, m1, m3, o1, o6, q⟩ := h
    refine ⟨_, pss_cons (ps_set (i := 3) scGates.nd rfl (.inl rfl) (pe_lst (pa_cons pe_int pa_nil)))
      (pss_cons (ps_while PassesOwn.never (pt_cmpR op_lt (pe_callB call_len_seq (by rfl) T.len PySem.boot_len (pa_cons (pv 3) pa_nil)) (pv 1) (nomark _)) (pss_one (ps_expr (pe_bm PySem.F.plainAttrs_list PySem.F.slot_list_append PySem.F.type_list_append mt_append (pv 3) (pa_cons (pe_op op_add (pe_op op_add (pe_ix ix_list (pv 3) (pe_un un_neg pe_int) (fun _ _ => rfl)) pe_int) (pe_call GTk hr (by rfl) Tk.gl Tk.fn.kp Tk.bi .nil pass0 (pa_cons (pv 0) (pa_cons (pv 2) pa_nil)))) pa_nil)))))
      (pss_one (ps_ret (pe_callTy call_tuple_of (by rfl) T.tuple (by decide +kernel) (pa_cons (pv 3) pa_nil))))), ?_⟩
    refine ⟨by show 1 ≤ sizeLine; decide, fun L nL => ?_⟩
    have nM := (W.free nL).2.1
    refine while_by (fun σ G => ∃ gs : List Nat, σ = [some (.ref p), some (.int (many : Int)), some (.int (most : Int)), some (.ref L)] ∧ Wd p T0 (upd M L (.lst (entV gs))) G (f + (4 - gs.length)) ∧ 1 ≤ gs.length ∧ gs.length ≤ many ∧ gs.head? = some 0 ∧ (gs.map fun n : Nat => (n : Int)).Pairwise (· < ·) ∧ ∀ g ∈ gs, g ≤ 6 * (gs.length - 1)) (fun _ G => 3 - lenAt G L)
      ⟨[0], rfl, W.newM _ nL trivial, Nat.le_refl _, m1, rfl, by simp, by simp⟩ ?_ ?_
    · rintro σ G ⟨gs, rfl, Wg, l1, lm, hd, asc, low⟩
      have hL := Wg.at
      refine ⟨_, rfl, L, _, rfl, .inl (SqL.of hL), _, rfl, _, _, rfl, rfl, _, rfl, ?_⟩
      rw [List.length_map, List.length_map]
      by_cases h1 : (gs.length : Int) < (many : Int)
      · rw [decide_eq_true h1]
        obtain ⟨gr, z, rfl⟩ : ∃ (gr : List Nat) (z : Nat), gs = gr ++ [z] := by
          rcases List.eq_nil_or_concat gs with e0 | ⟨gr, z, e0⟩
          · rw [e0] at l1; exact absurd l1 (by decide)
          · exact ⟨gr, z, by rw [e0, List.concat_eq_append]⟩
        have ee : entV (gr ++ [z]) = entV gr ++ [V.int (z : Int)] := by
          show ((gr ++ [z]).map fun n : Nat => (n : Int)).map V.int = _
          rw [List.map_append, List.map_append]
          rfl
        have ln : (gr ++ [z]).length = gr.length + 1 := by rw [List.length_append]; rfl
        have hat : atI (entV (gr ++ [z])) (-1) = some (V.int (z : Int)) := by rw [ee]; exact atI_last _ _
        obtain ⟨n0, B0, n1, up⟩ := (Wg.mono (f' := f + (4 - (gr.length + 2)) + 1) (by omega)).tk
        refine iteT ⟨_, rfl, .inl ⟨rfl, _, SqL.of hL⟩, _, rfl, _, rfl, L, _, _, _, rfl, rfl, SqL.of hL, hat, _, _, rfl, rfl, _, rfl, _, rfl, p, (most : Int), n0, rfl, B0, by omega, by omega, by omega, fun G2 d b2 B2 d0 d1 _ => ?_⟩
        have W2 := up b2 B2
        refine ⟨_, _, rfl, rfl, L, _, _, rfl, rfl, W2.at, by rw [List.length_map, List.length_map, sizeLine_eq]; omega, ?_⟩
        obtain ⟨dn, rfl⟩ : ∃ dn : Nat, d = (dn : Int) := ⟨d.toNat, by omega⟩
        have e2 : entV (gr ++ [z]) ++ [V.int ((z : Int) + 1 + (dn : Int))] = entV (gr ++ [z] ++ [z + 1 + dn]) := by
          show _ = ((gr ++ [z] ++ [z + 1 + dn]).map fun n : Nat => (n : Int)).map V.int
          rw [List.map_append, List.map_append]
          rfl
        have zl := low z (by simp)
        have up : ∀ g ∈ gr ++ [z], g ≤ z := fun g hg => by
          rcases List.mem_append.mp hg with h | h
          · rw [List.map_append] at asc
            have := (List.pairwise_append.mp asc).2.2 (g : Int) (List.mem_map.mpr ⟨g, h, rfl⟩) (z : Int) (by simp)
            omega
          · rw [List.mem_singleton.mp h]; exact Nat.le_refl _
        refine ⟨⟨gr ++ [z] ++ [z + 1 + dn], rfl, ?_, ?_, ?_, ?_, ?_, ?_⟩, ?_⟩
        · have l5 : (gr ++ [z] ++ [z + 1 + dn]).length = gr.length + 2 := by rw [List.length_append, ln]; rfl
          rw [← e2, l5]
          exact W2.setL _ trivial
        · rw [List.length_append]; omega
        · rw [List.length_append, ln]; show gr.length + 1 + 1 ≤ many; omega
        · rw [List.head?_append, hd]; rfl
        · rw [List.map_append]
          refine List.pairwise_append.mpr ⟨asc, by simp, fun a ha b hb => ?_⟩
          obtain ⟨g, hg, rfl⟩ := List.mem_map.mp ha
          have eb : b = ((z + 1 + dn : Nat) : Int) := by simpa using hb
          have := up g hg
          omega
        · intro g hg
          rw [List.length_append, ln]
          show g ≤ 6 * (gr.length + 1 + 1 - 1)
          rcases List.mem_append.mp hg with h | h
          · have := up g h; omega
          · rw [List.mem_singleton.mp h]; omega
        · rw [lenAt_of hL]
          show 3 - lenAt (upd G2 L (HO.lst (entV (gr ++ [z]) ++ [V.int ((z : Int) + 1 + (dn : Int))]))) L < _
          rw [lenAt_of upd_same, List.length_append, List.length_map, List.length_map, ln]
          show 3 - (gr.length + 1 + 1) < _
          omega
      · rw [decide_eq_false h1]
        refine iteF ⟨_, rfl, L, _, rfl, .inl ⟨SqL.of hL, fun r nr => ?_⟩⟩
        refine q _ _ r gs (Wg.putT _ nr) (((Wg.put _ nr).drop nM).mono (by omega)) upd_same ⟨hd, asc, fun g hg => ?_, by omega⟩ (by omega)
        have := low g hg
        omega
    · rintro σ H2 Q1 Q2 hQ ⟨v, h1, a, xs, h3, h4, v2, h2, i, j, h5, h6, b, h7, h8⟩
      exact ⟨v, h1, a, xs, h3, h4, v2, h2, i, j, h5, h6, b, h7, hQ _ _ h8⟩
/-! ### _law_states -/
theorem fmaxI {is : List I4} (pos : ∀ x ∈ is, 1 ≤ x.ln) {m : Int} (m1 : m ∈ (((is.filter fun x : I4 => x.pad).map fun x : I4 => (x.ln : Int)) ++ [1])) (m2 : ∀ z ∈ (((is.filter fun x : I4 => x.pad).map fun x : I4 => (x.ln : Int)) ++ [1]), z ≤ m) : m - 1 = ((lrOf is : Nat) : Int) := by
  have g1 := m2 1 (by simp)
  have l : lrOf is ≤ (m - 1).toNat := fmax_le _ 0 _ (Nat.zero_le _) fun z hz => by
    obtain ⟨y, hy, rfl⟩ := List.mem_map.mp hz
    have := m2 (y.ln : Int) (List.mem_append_left _ (List.mem_map.mpr ⟨y, hy, rfl⟩))
    omega
  have g : (m - 1).toNat ≤ lrOf is := by
    rcases List.mem_append.mp m1 with h | h
    · obtain ⟨y, hy, rfl⟩ := List.mem_map.mp h
      have := (fmax_ge ((is.filter fun x : I4 => x.pad).map fun x => x.ln - 1) 0).2 (y.ln - 1) (List.mem_map.mpr ⟨y, hy, rfl⟩)
      unfold lrOf
      omega
    · rw [List.mem_singleton.mp h]; exact Nat.zero_le _
  omega
def spStates (K : PySem.W.Frag) : Sp := fun vs H Q _ => ∃ (t it l g : Addr) (cnt lg : Nat) (is : List I4) (rs : List Addr) (xs : List V) (pss : List (List PStep)) (gs : List Nat), vs = [.ref t, .ref l, .ref g] ∧ Tab H t cnt lg is it rs ∧ SqT K H l xs ∧ DxAll K H xs (pss.map planD) ∧ SqT K H g (entV gs) ∧ gs ≠ [] ∧ (∀ ps ∈ pss, ps.length ≤ 12 ∧ dcnt is ps ≤ 1000) ∧ ∀ H', Same H H' → Q (.int (stcN is pss gs : Int)) H'
abbrev nStates : List Str := ["_law_table_here", "_law_plans", "_law_gates_here", "_law_some", "_law_found", "_law_long", "_law_plan_here", "_law_operands", "_law_opcode", "_law_name", "_law_size", "_law_is_padding", "_law_wanted"]
/-! ### _law_near -/
def spNearB (K : PySem.W.Frag) : Sp := fun vs H Q _ => ∃ (p t it c : Addr) (T M : Hp) (f cnt lg m : Nat) (is : List I4) (rs : List Addr) (bs : List Int), vs = [.ref p, .ref t, .ref c] ∧ Wd p T M H (f + 20) ∧ Tab T t cnt lg is it rs ∧ SqT K T c (bs.map V.int) ∧ bs.length ≤ m ∧ m ≤ 200 ∧ (∀ b ∈ bs, 0 ≤ b ∧ b < (cnt : Int)) ∧
  ∀ H' T' v, Same T T' → Wd p T' M H' f → BytV K (cnt : Int) (m + m + 12) T' v → Q v H'
abbrev nNear : List Str := ["_law_box_here", "_law_table_here", "_law_row", "_law_at", "_law_skipped", "_law_more", "_law_byte", "_law_some", "_law_one", "_law_spot"]
end
end Ov
namespace Ov
open PySem PySem.Spec PyProof.Rows L2
section
variable {P : Program} {w : World} {K : PySem.W.Frag} {mg : Str → Option Value} {base : Heap}
/-! ### _law_small -/
structure Small (cnt : Nat) (is : List I4) (pss : List (List PStep)) (gs : List Nat) : Prop where
  pok : ∀ ps ∈ pss, ps.length ≤ 3 ∧ ∀ x ∈ ps, StepOk cnt is x
  en : Ents gs
  len : gs.length = pss.length
  one : 1 ≤ gs.length
  two : gs.length ≤ 2
def spSmall (K : PySem.W.Frag) : Sp := fun vs H Q _ => ∃ (p : Addr) (T : Hp) (f : Nat), vs = [.ref p] ∧ Wd p T none0 H (f + 2500) ∧
  ∀ H' T' r t it l g cnt is rs us pss gs, Same T T' → Wd p T' none0 H' f → T' r = some (.tup [.ref t, .ref l, .ref g]) → Tab T' t cnt 3 is it rs → T' l = some (.tup us) → DxAll K T' us (pss.map planD) → T' g = some (.tup (entV gs)) → Small cnt is pss gs → Q (.ref r) H'
abbrev nSmall : List Str := ["_law_box_here", "_law_table_here", "_law_many", "_law_row", "_law_gates_here", "_law_plans", "_law_gate", "_law_found"]
theorem scSmall : FnScope nSmall ["_law_box_here"] (defScope sSmall) := ⟨rfl, rfl, rfl, by decide +kernel, rfl, by decide +kernel, by decide +kernel⟩
theorem ok_small {f fTk fLPn fLOp fLSp fLGates fBy fTb : Addr} {fd fdTk fdLPn fdLOp fdLSp fdLGates fdBy fdTb : FuncData} {k : Nat} (F : Fun K "_law_small" "_law_small" sSmall f fd) (T : Bi mg) (Tk : Def K mg "_law_take" sTake fTk fdTk ["_law_box_here", "_law_many"]) (GTk : FnOk P w K mg base CX0 k fTk fdTk ["_law_box_here", "_law_many"] (spTake)) (LPn : Def K mg "_law_plan" s_law_plan fLPn fdLPn ["_law_box_here", "_law_table_here", "_law_most"]) (GLPn : FnOk P w K mg base CX0 k fLPn fdLPn ["_law_box_here", "_law_table_here", "_law_most"] (spPlan)) (LOp : Def K mg "_law_open" s_law_open fLOp fdLOp ["_law_box_here", "_law_found"]) (GLOp : FnOk P w K mg base CX0 k fLOp fdLOp ["_law_box_here", "_law_found"] (spOpen K)) (LSp : Def K mg "_law_steps" s_law_steps fLSp fdLSp ["_law_table_here", "_law_row", "_law_begin"]) (GLSp : FnOk P w K mg base CX0 k fLSp fdLSp ["_law_table_here", "_law_row", "_law_begin"] (spSteps K)) (LGates : Def K mg "_law_gates" s_law_gates fLGates fdLGates ["_law_box_here", "_law_many", "_law_most"]) (GLGates : FnOk P w K mg base CX0 k fLGates fdLGates ["_law_box_here", "_law_many", "_law_most"] (spGates)) (By : Def K mg "_law_bytes" sBytes fBy fdBy ["_law_box_here", "_law_table_here", "_law_many"]) (GBy : FnOk P w K mg base CX0 k fBy fdBy ["_law_box_here", "_law_table_here", "_law_many"] (spBytes)) (Tb : Def K mg "_law_table" sTable fTb fdTb ["_law_box_here", "_law_most_bytes", "_law_longest"]) (GTb : FnOk P w K mg base CX0 k fTb fdTb ["_law_box_here", "_law_most_bytes", "_law_longest"] (spTable)) :
    FnOk P w K mg base CX0 (k + 1) f fd ["_law_box_here"] (spSmall K) := by
  refine F.ok scSmall (fun vs H Q E h => ?_) (fun cdv A' outer s H vs Q E hr h => ?_)
  · obtain ⟨p, T, f, rfl, _⟩ := h
    rfl
  · obtain ⟨p, T0, f, rfl, W0, q⟩ := h
    refine ⟨_, pss_cons (ps_set (i := 1) scSmall.nd rfl (.inl rfl) (pe_call GTb hr (by rfl) Tb.gl Tb.fn.kp Tb.bi .nil pass0 (pa_cons (pv 0) (pa_cons pe_int (pa_cons pe_int pa_nil)))))
      (pss_cons (ps_par (i := 2) (j := 3) (by rfl) scSmall.nd rfl rfl (by decide) rfl rfl (pa_cons (pe_op op_add pe_int (pe_call GTk hr (by rfl) Tk.gl Tk.fn.kp Tk.bi .nil pass0 (pa_cons (pv 0) (pa_cons pe_int pa_nil)))) (pa_cons (pe_call GBy hr (by rfl) By.gl By.fn.kp By.bi .nil pass0 (pa_cons (pv 0) (pa_cons (pv 1) (pa_cons (pe_call GTk hr (by rfl) Tk.gl Tk.fn.kp Tk.bi .nil pass0 (pa_cons (pv 0) (pa_cons pe_int pa_nil))) pa_nil)))) pa_nil)) (by rfl))
      (pss_cons (ps_set (i := 4) scSmall.nd rfl (.inl rfl) (pe_call GLGates hr (by rfl) LGates.gl LGates.fn.kp LGates.bi .nil pass0 (pa_cons (pv 0) (pa_cons (pv 2) (pa_cons pe_int pa_nil)))))
      (pss_cons (ps_set (i := 5) scSmall.nd rfl (.inl rfl) (pe_lst pa_nil))
      (pss_cons (ps_for PassesOwn.never rfl (pi_tup (pv 4)) (pg_name (i := 6) scSmall.nd rfl (.inl rfl)) (pss_cons (ps_set (i := 7) scSmall.nd rfl (.inl rfl) (pe_call GLSp hr (by rfl) LSp.gl LSp.fn.kp LSp.bi .nil pass0 (pa_cons (pv 1) (pa_cons (pv 3) (pa_cons (pe_callB (call_min2 rfl) (by rfl) T.min (by decide +kernel) (pa_cons (pv 6) (pa_cons (pe_callB call_len_seq (by rfl) T.len PySem.boot_len (pa_cons (pv 3) pa_nil)) pa_nil))) pa_nil)))))
      (pss_one (ps_if (PW.pt (pw_or (pt_cmpR op_isN (pv 7) pe_non (nomark _)) (pw_or (pt_cmpR op_gt (pe_callB call_len_seq (by rfl) T.len PySem.boot_len (pa_cons (pv 7) pa_nil)) pe_int (nomark _)) (pw_or1 (pt_cmpR op_eq (pe_call GTk hr (by rfl) Tk.gl Tk.fn.kp Tk.bi .nil pass0 (pa_cons (pv 0) (pa_cons pe_int pa_nil))) pe_int (nomark _)))))) (pss_one (ps_expr (pe_bm PySem.F.plainAttrs_list PySem.F.slot_list_append PySem.F.type_list_append mt_append (pv 5) (pa_cons (pe_call GLPn hr (by rfl) LPn.gl LPn.fn.kp LPn.bi .nil pass0 (pa_cons (pv 0) (pa_cons (pv 1) (pa_cons pe_int pa_nil)))) pa_nil)))) (pss_one (ps_expr (pe_bm PySem.F.plainAttrs_list PySem.F.slot_list_append PySem.F.type_list_append mt_append (pv 5) (pa_cons (pe_call GLOp hr (by rfl) LOp.gl LOp.fn.kp LOp.bi .nil pass0 (pa_cons (pv 0) (pa_cons (pv 7) pa_nil))) pa_nil))))))))
      (pss_one (ps_ret (pe_tup (pa_cons (pv 1) (pa_cons (pe_callTy call_tuple_of (by rfl) T.tuple (by decide +kernel) (pa_cons (pv 5) pa_nil)) (pa_cons (pv 4) pa_nil)))))))))), ?_⟩
    have i0 : ∀ x y : V, atI [x, y] 0 = some x := fun x y => atI_nat (j := 0) rfl
    have nol : ∀ fo : Option (List PStep), noList (foundD fo) = true := fun fo => by
      cases fo with
      | none => rfl
      | some gs =>
        show noList (.tuple (gs.map stepD)) = true
        simp only [noList]
        exact noL_steps _
    -- the table
    obtain ⟨n1, B1, l1⟩ := W0.box
    refine ⟨_, rfl, p, n1, 4, 3, rfl, B1, by omega, by decide, by decide, by decide, by decide, fun H2 t cnt is it rs b2 B2 nt Tb2 _ => ?_⟩
    have W2a := W0.but b2 B2 (f' := f + 1490) (by omega)
    have W2 := W2a.rest
    have s2 := W2a.restT
    have Tb := Tb2.restW W2a
    generalize rest p none0 H2 = T2 at *
    have cb := Tb.ok.cb
    clear W2a B1 B2 b2 Tb2 W0
    -- how many, the code
    obtain ⟨n4, B4, l4, up4⟩ := (W2.mono (f' := f + 1480 + 1) (by omega)).tk
    refine ⟨_, rfl, p, 2, n4, rfl, B4, by omega, by decide, by decide, fun H4 d b4 B4' d0 d1 _ => ⟨_, _, rfl, rfl, ?_⟩⟩
    have W4 := up4 b4 B4'
    clear up4 B4 B4' b4 W2
    obtain ⟨mn, emn, mn1, mn2⟩ : ∃ mn : Nat, (1 : Int) + d = (mn : Int) ∧ 1 ≤ mn ∧ mn ≤ 2 := ⟨(1 + d).toNat, by omega, by omega, by omega⟩
    obtain ⟨n5, B5, l5, up5⟩ := (W4.mono (f' := f + 1470 + 1) (by omega)).tk
    refine ⟨_, rfl, _, rfl, _, rfl, p, 6, n5, rfl, B5, by omega, by decide, by decide, fun H5 m b5 B5' m0 m1 _ => ?_⟩
    have W5 := up5 b5 B5'
    clear up5 B5 B5' b5 W4
    obtain ⟨mr, rfl⟩ : ∃ mr : Nat, m = (mr : Int) := ⟨m.toNat, by omega⟩
    obtain ⟨n6, B6, l6⟩ := W5.box
    refine ⟨p, t, n6, cnt, 3, is, it, rs, mr, rfl, B6, by omega, Tb.same W5.th, by omega, fun H6 c bs b6 B6' nc hc bb bl => ⟨_, _, rfl, ?_⟩⟩
    have W6a := W5.but b6 B6' (f' := f + 1450) (by omega)
    have W6 := W6a.rest
    have s6 := s2.trans W6a.restT
    have Tb := Tb.same W6a.restT
    have hc := W6a.tup hc
    generalize rest p none0 H6 = T6 at *
    clear W6a B6 B6' b6 W5 s2 nc
    -- the entries
    refine ⟨_, rfl, _, rfl, p, T6, none0, f + 1440, mn, 2, (show [V.ref p, V.int ((1 : Int) + d), V.int 2] = _ by rw [emn]; rfl), W6.mono (by omega), mn1, by omega, by decide, by decide, fun H7 T7 g gs s7 W7 hg oe lgs => ?_⟩
    have s67 := s6.trans s7
    have Tb := Tb.same s7
    have hc := s7 _ _ hc
    have bl9 : bs.length ≤ 5 := by omega
    clear W6 s6 s7
    -- the programs
    refine ⟨Nat.zero_le _, fun L nL => ?_⟩
    have nLM : none0 L = none := rfl
    have W10 := W7.newM (HO.lst []) nL trivial
    clear W7
    refine ⟨_, rfl, g, rfl, ⟨_, SqT.of (W10.th _ _ hg)⟩, for_tup (K := K) (a := g) (xs := entV gs) (fun j σ G => ∃ (T' : Hp) (us : List V) (pss : List (List PStep)) (y6 y7 : Option V), σ = [some (.ref p), some (.ref t), some (.int ((1 : Int) + d)), some (.ref c), some (.ref g), some (.ref L), y6, y7] ∧ Same T7 T' ∧ Wd p T' (upd none0 L (.lst us)) G (f + 400 * (gs.length - j)) ∧ DxAll K T' us (pss.map planD) ∧ pss.length = j ∧ ∀ ps ∈ pss, ps.length ≤ 3 ∧ ∀ x ∈ ps, StepOk cnt is x)
      ⟨T7, [], [], _, _, rfl, Same.refl _, W10.mono (by omega), .nil, rfl, by simp⟩ (fun j σ G _ ⟨T', us, pss, _, _, _, s', W', _⟩ => SqT.of (W'.th _ _ (s' _ _ hg))) ?_ ?_⟩
    · rintro j u σ G hu ⟨T', us, pss, y6, y7, rfl, s', W', Du, lp, pok⟩
      rw [List.getElem?_map, List.getElem?_map] at hu
      obtain ⟨z, hz, rfl⟩ := Option.map_eq_some_iff.mp hu
      obtain ⟨e, he, rfl⟩ := Option.map_eq_some_iff.mp hz
      have jl := (List.getElem?_eq_some_iff.mp he).1
      have W' := W'.mono (f' := f + 400 * (gs.length - (j + 1)) + 400) (by omega)
      have ul : us.length ≤ 3 := by rw [Du.len, List.length_map]; omega
      have emin : (if (((bs.map V.int).length : Nat) : Int) < (e : Int) then (((bs.map V.int).length : Nat) : Int) else (e : Int)) = ((min e bs.length : Nat) : Int) := by
        rw [List.length_map]
        split <;> omega
      have fin : ∀ {T1 G1 : Hp} {b1 nb : Nat}, Wd p T1 (upd none0 L (.lst us)) G1 b1 → Same T' T1 → nb + (f + 400 * (gs.length - (j + 1)) + 300) ≤ 2 ^ 37 → ∀ {G5 U5 : Hp} {r : Addr} {ps : List PStep}, GB p T1 G1 U5 G5 → BoxAt G5 p (nb + 300) → Dz U5 (.ref r) (.tuple (ps.map stepD)) → ps.length ≤ 3 → (∀ x ∈ ps, StepOk cnt is x) →
          G5 L = some (.lst us) ∧ ∃ (T' : Hp) (us' : List V) (pss : List (List PStep)), us ++ [V.ref r] = us' ∧ Same T7 T' ∧ Wd p T' (upd none0 L (.lst us')) (upd G5 L (.lst (us ++ [V.ref r]))) (f + 400 * (gs.length - (j + 1))) ∧ DxAll K T' us' (pss.map planD) ∧ pss.length = j + 1 ∧ ∀ ps ∈ pss, ps.length ≤ 3 ∧ ∀ x ∈ ps, StepOk cnt is x := fun {T1 G1 b1 nb} W1 s1 lb {G5 U5 r ps} g5 B5 D5 l5 k5 => by
        have W5 := W1.gb g5 B5 (f' := f + 400 * (gs.length - (j + 1))) (by omega)
        refine ⟨W5.at, U5, _, pss ++ [ps], rfl, s'.trans (s1.trans g5.tt), W5.setL _ trivial, by rw [List.map_append]; exact (Du.same (s1.trans g5.tt)).app (.cons D5.dx .nil), by rw [List.length_append, lp]; rfl, fun ps' h => ?_⟩
        rcases List.mem_append.mp h with h | h
        · exact pok ps' h
        · rw [List.mem_singleton.mp h]; exact ⟨l5, k5⟩
      have Tb' := Tb.same (s'.trans W'.th)
      have hc' := W'.th _ _ (s' _ _ hc)
      refine ⟨_, rfl, _, rfl, _, rfl, _, rfl, c, _, rfl, .inr (SqT.of hc'), _, _, rfl, ?_⟩
      refine ⟨t, it, c, cnt, 3, is, rs, bs, min e bs.length, (show [V.ref t, V.ref c, V.int (if (((bs.map V.int).length : Nat) : Int) < (e : Int) then (((bs.map V.int).length : Nat) : Int) else (e : Int))] = _ by rw [emin]), Tb', SqT.of hc', by omega, Nat.min_le_right _ _, fun H4 v begun fol s4 en Dv => ?_⟩
      have W4 := W'.pure s4
      have Dr := Dv.restW W4 (ndL nd0 L us) (nol _)
      have sr := W4.restT
      have W8 := W4.rest
      have dok : ∀ gs', foundOf is bs begun fol = some gs' → ∀ g ∈ gs', StepOk cnt is g ∧ g.2.length ≤ 12 := fun gs' e' => decoded_ok Tb.ok bb (Nat.min_le_right _ _) en e'
      clear W4 Dv
      generalize rest p (upd none0 L (HO.lst us)) H4 = T8 at *
      have s8 := s'.trans sr
      refine ⟨_, rfl, rfl, _, rfl, ?_⟩
      cases hfo : foundOf is bs begun fol with
      | none =>
        rw [hfo] at Dr
        cases Dr
        refine iteT (iteT ⟨_, rfl, .inl ⟨rfl, _, SqL.of W8.at⟩, _, rfl, _, rfl, ?_⟩)
        obtain ⟨nb, Bb, lb⟩ := W8.box
        refine ⟨p, t, it, nb, cnt, 3, 2, is, rs, _, rfl, Bb, by omega, W8.th, W8.tp, Tb.same s8, by decide, fun G5 U5 r ps g5 B5 D5 l5 k5 => ?_⟩
        obtain ⟨hL, T6, us', pss', eu, f2, f3, f4, f5, f6⟩ := fin W8 sr (by omega) g5 B5 D5 (by omega) k5
        exact ⟨L, _, _, rfl, rfl, hL, by rw [sizeLine_eq]; omega, T6, us', pss', _, _, rfl, f2, f3, f4, f5, f6⟩
      | some gs' =>
        rw [hfo] at Dr
        obtain ⟨va, xs, rfl, hva, A⟩ := dx_tup Dr
        have lx : xs.length = gs'.length := by rw [A.len, List.length_map]
        have fok := dok gs' hfo
        refine iteF ⟨_, rfl, va, _, rfl, .inr (W8.th.tup hva), _, _, rfl, rfl, _, rfl, ?_⟩
        by_cases h3 : (3 : Int) < (xs.length : Int)
        · rw [decide_eq_true h3]
          refine iteT (iteT ⟨_, rfl, .inl ⟨rfl, _, SqL.of W8.at⟩, _, rfl, _, rfl, ?_⟩)
          obtain ⟨nb, Bb, lb⟩ := W8.box
          refine ⟨p, t, it, nb, cnt, 3, 2, is, rs, _, rfl, Bb, by omega, W8.th, W8.tp, Tb.same s8, by decide, fun G5 U5 r ps g5 B5 D5 l5 k5 => ?_⟩
          obtain ⟨hL, T6, us', pss', eu, f2, f3, f4, f5, f6⟩ := fin W8 sr (by omega) g5 B5 D5 (by omega) k5
          exact ⟨L, _, _, rfl, rfl, hL, by rw [sizeLine_eq]; omega, T6, us', pss', _, _, rfl, f2, f3, f4, f5, f6⟩
        · rw [decide_eq_false h3]
          obtain ⟨n9, B9, l9, up9⟩ := (W8.mono (f' := f + 400 * (gs.length - (j + 1)) + 399 + 1) (by omega)).tk
          refine iteF ⟨_, rfl, p, 4, n9, rfl, B9, by omega, by decide, by decide, fun H9 z9 b9 B9' _ _ _ => ?_⟩
          have W9 := up9 b9 B9'
          refine ⟨rfl, _, rfl, ?_⟩
          by_cases z0 : z9 = 0
          · rw [decide_eq_true (congrArg V.int z0)]
            refine iteT ⟨_, rfl, .inl ⟨rfl, _, SqL.of W9.at⟩, _, rfl, _, rfl, ?_⟩
            obtain ⟨nb, Bb, lb⟩ := W9.box
            refine ⟨p, t, it, nb, cnt, 3, 2, is, rs, _, rfl, Bb, by omega, W9.th, W9.tp, Tb.same s8, by decide, fun G5 U5 r ps g5 B5 D5 l5 k5 => ?_⟩
            obtain ⟨hL, T6, us', pss', eu, f2, f3, f4, f5, f6⟩ := fin W9 sr (by omega) g5 B5 D5 (by omega) k5
            exact ⟨L, _, _, rfl, rfl, hL, by rw [sizeLine_eq]; omega, T6, us', pss', _, _, rfl, f2, f3, f4, f5, f6⟩
          · rw [decide_eq_false (fun y => z0 (V.int.inj y))]
            obtain ⟨nb, Bb, lb⟩ := W9.box
            refine iteF ⟨_, rfl, .inl ⟨rfl, _, SqL.of W9.at⟩, _, rfl, _, rfl, ?_⟩
            refine ⟨p, nb, cnt, is, T8, .ref va, gs', rfl, Bb, by omega, W9.th, W9.tp, .tup hva A, by omega, fun g hg => fok g hg, fun G5 U5 r ps g5 B5 D5 l5 k5 => ?_⟩
            obtain ⟨hL, T6, us', pss', eu, f2, f3, f4, f5, f6⟩ := fin W9 sr (by omega) g5 B5 D5 (by omega) k5
            exact ⟨L, _, _, rfl, rfl, hL, by rw [sizeLine_eq]; omega, T6, us', pss', _, _, rfl, f2, f3, f4, f5, f6⟩
    · rintro σ G ⟨T', us, pss, y6, y7, rfl, s', W', Du, lp, pok⟩
      rw [List.length_map, List.length_map] at lp
      refine ⟨_, rfl, _, rfl, L, _, rfl, .inl ⟨SqL.of W'.at, fun l nl => ?_⟩⟩
      have W12 := (W'.put (HO.tup us) nl).drop nLM
      have sl := W'.putT (HO.tup us) nl
      have hl : upd T' l (HO.tup us) l = some (.tup us) := upd_same
      have Du := Du.same sl
      have s12 := s'.trans sl
      have Tb := Tb.same s12
      have hg := s12 _ _ hg
      generalize upd T' l (HO.tup us) = T12, upd G l (HO.tup us) = H12 at *
      refine ⟨_, rfl, by show 3 ≤ sizeLine; decide, fun r nr => ?_⟩
      have sr := W12.putT (HO.tup [V.ref t, V.ref l, V.ref g]) nr
      exact q _ _ r t it l g cnt is rs us pss gs ((s67.trans s12).trans sr) ((W12.put _ nr).mono (by omega)) upd_same (Tb.same sr) (sr _ _ hl) (Du.same sr) (sr _ _ hg) ⟨pok, oe, by omega, by omega, by omega⟩
end
end Ov
namespace Ov
open PySem PySem.Spec PyProof.Rows L2
theorem sameS {a b : Str} (e : a = b) {A B : Prop} (h : B) : if (!decide (V.str a = V.str b)) = true then A else B := by
  rw [decide_eq_true (congrArg V.str e), if_neg (by decide)]
  exact h
theorem cat_one {K : PySem.W.Frag} {G : Hp} {c q : Addr} {bs : List Int} {b : Int} {Q : VK} (hc : SqT K G c (bs.map V.int)) (hq : SqT K G q [V.int b]) (few : bs.length ≤ 1000) (k : ∀ c' G', Same G G' → SqT K G' c' ((bs ++ [b]).map V.int) → Q (.ref c') G') : rCatA K (.ref c) (.ref q) G Q := by
  have em : (bs ++ [b]).map V.int = bs.map V.int ++ [V.int b] := by rw [List.map_append]; rfl
  refine ⟨c, q, _, _, rfl, rfl, hc, hq, by rw [List.length_map, sizeLine_eq]; show _ + 1 ≤ _; omega, fun e => ?_, fun _ e => ?_, fun _ _ r nr => ?_⟩
  · refine k q G (Same.refl _) ?_
    rw [em, e]
    exact hq
  · cases e
  · refine k r _ (same_upd nr) ?_
    rw [em]
    exact SqT.of upd_same
theorem noL_dsts : ∀ os : List (Option Dst), noListAll (os.map odD) = true
  | [] => rfl
  | o :: os => by
    rw [List.map_cons]
    simp only [noListAll]
    rw [noL_dsts os]
    cases o <;> rfl
theorem noL_sta (s : Sta) : noList (stD s) = true := by
  unfold stD
  simp only [noList, noListAll]
  rw [noL_dsts]
  rfl
theorem noL_osta (o : Option Sta) : noList (ostD o) = true := by
  cases o with
  | none => rfl
  | some s => exact noL_sta s
theorem nd_dsts : ∀ os : List (Option Dst), PyData.hasDictAll (os.map odD) = false
  | [] => rfl
  | o :: os => by
    rw [List.map_cons]
    simp only [PyData.hasDictAll]
    rw [nd_dsts os]
    cases o <;> rfl
theorem small_nat {n : Nat} (h : n ≤ 1000) : ((n : Nat) : Int).natAbs < 2 ^ 1000 := Nat.lt_of_lt_of_le (show (n : Int).natAbs < 2 ^ 10 by omega) (Nat.pow_le_pow_right (by decide) (by decide))
theorem shows_sta {cnt : Nat} {is : List I4} {pss : List (List PStep)} {gs : List Nat} (pl : Plns cnt is pss) {s : Sta} (so : StaOk pss gs s) : Shows (stD s) := by
  have fd : ∀ d ∈ s.2.map odD, Fine 1 4 d := fun d hd => by
    obtain ⟨o, ho, rfl⟩ := List.mem_map.mp hd
    cases o with
    | none => exact fine_none.mono (by decide) (by decide)
    | some x =>
      obtain ⟨i, hi⟩ := List.mem_iff_getElem?.mp ho
      have il := (List.getElem?_eq_some_iff.mp hi).1
      have sl := so.len
      obtain ⟨ps, hps⟩ : ∃ ps, pss[i]? = some ps := ⟨pss[i]'(by omega), List.getElem?_eq_getElem _⟩
      obtain ⟨h1, _, h3, _⟩ := so.dec i x ps hi hps
      obtain ⟨l12, _⟩ := pl.ok ps (List.mem_of_getElem? hps)
      have f1 := fine_int (small_nat (n := x.1) (by omega))
      have f3 := fine_int (small_nat (n := x.2.2) (by omega))
      exact ((FineA.cons f1 (FineA.cons (fine_bool _) (FineA.cons f3 FineA.nil))).tup).mono (by decide) (by decide)
  have fa := FineA.all fd
  rw [List.length_map] at fa
  have sl := so.len
  have l3 := pl.few
  have f : Fine 3 20 (stD s) := (FineA.cons ((fine_int (small_nat (n := s.1) so.few)).mono (by decide) (Nat.le_refl _)) (FineA.cons (fa.tup.mono (by decide) (show _ ≤ 13 by omega)) (FineA.nil.mono (Nat.zero_le 2) (Nat.le_refl 0)))).tup.mono (Nat.le_refl _) (by decide)
  refine ⟨f.sh, fun z => ?_, Nat.le_trans f.dep (by decide), Nat.le_trans f.nd (by decide)⟩
  exact noL_sta s
theorem shows_osta {cnt : Nat} {is : List I4} {pss : List (List PStep)} {gs : List Nat} (pl : Plns cnt is pss) {o : Option Sta} (so : ∀ s, o = some s → StaOk pss gs s) : Shows (ostD o) := by
  cases o with
  | none => exact shows_none
  | some s => exact shows_sta pl (so s rfl)
/-! ### few states -/
theorem dcnt_small {cnt : Nat} {is : List I4} (ok : TabOk cnt 3 is) {ps : List PStep} (l : ps.length ≤ 3) (h : ∀ x ∈ ps, StepOk cnt is x) : dcnt is ps ≤ 18 := by
  have h1 : lrOf is ≤ 2 := fmax_le _ 0 2 (by decide) fun z hz => by
    obtain ⟨y, hy, rfl⟩ := List.mem_map.mp hz
    have := ok.len y (List.mem_filter.mp hy).1
    omega
  have h2 : opsN ps ≤ 2 * ps.length := by
    clear l
    induction ps with
    | nil => exact Nat.le_refl _
    | cons x ps ih =>
      have := ih fun y hy => h y (List.mem_cons_of_mem _ hy)
      have hx := h x List.mem_cons_self
      have := ok.len x.1 hx.mem
      have := hx.len
      unfold opsN at *
      rw [List.map_cons, List.sum_cons, List.length_cons]
      omega
  have h3 : (ps.length + 1) * lrOf is ≤ 4 * 2 := Nat.mul_le_mul (by omega) h1
  unfold dcnt
  omega
theorem stc_small {cnt : Nat} {is : List I4} (ok : TabOk cnt 3 is) {pss : List (List PStep)} {gs : List Nat} (sm : Small cnt is pss gs) : stcN is pss gs ≤ 5000 := by
  have lz : gs.getLast?.getD 0 ≤ 12 := by
    cases e : gs.getLast? with
    | none => exact Nat.zero_le _
    | some z => exact sm.en.low z (List.mem_of_getLast? e)
  have dl : ∀ ps ∈ pss, dcnt is ps ≤ 18 := fun ps h => dcnt_small ok (sm.pok ps h).1 (sm.pok ps h).2
  have l2 : pss.length ≤ 2 := by have := sm.len; have := sm.two; omega
  unfold stcN
  match pss, l2, dl with
  | [], _, _ => show _ + 1 ≤ 5000; omega
  | [a], _, dl =>
    have h1 := dl a (by simp)
    show (_ + 1) * dcnt is a ≤ 5000
    exact Nat.le_trans (Nat.mul_le_mul (show _ ≤ 13 by omega) h1) (by decide)
  | [a, b], _, dl =>
    have h1 := dl a (by simp)
    have h2 := dl b (by simp)
    show (_ + 1) * dcnt is a * dcnt is b ≤ 5000
    exact Nat.le_trans (Nat.mul_le_mul (Nat.mul_le_mul (show _ ≤ 13 by omega) h1) h2) (by decide)
  | _ :: _ :: _ :: _, l2, _ => simp at l2
theorem Small.pl {cnt : Nat} {is : List I4} {pss : List (List PStep)} {gs : List Nat} (sm : Small cnt is pss gs) : Plns cnt is pss :=
  ⟨by have := sm.len; have := sm.one; omega, by have := sm.len; have := sm.two; omega, fun ps h => ⟨by have := (sm.pok ps h).1; omega, (sm.pok ps h).2⟩⟩
theorem small_asked {K : PySem.W.Frag} {C : Addr} {H : Hp} {x l g cnt : Nat} {it : Addr} {is : List I4} {rs : List Addr} {us : List V} {pss : List (List PStep)} {gs : List Nat} (sm : Small cnt is pss gs) (M : Mach C H x cnt 3 it is rs) (hl : SqT K H l us) (Dl : DxAll K H us (pss.map planD)) (hg : SqT K H g (entV gs)) : Asked K C H x l g cnt 3 it is rs us pss gs :=
  ⟨M, hl, Dl, sm.pl, hg, sm.en, sm.len, fun ps h => Nat.le_trans (dcnt_small M.ok (sm.pok ps h).1 (sm.pok ps h).2) (by decide), stc_small M.ok sm⟩
end Ov
namespace Ov
open PySem PySem.Spec PyProof.Rows L2
/-- three values by keywords, in the turned order -/
def rev3 {α : Type} : List α → List α → List α
  | [], [a, b, c] => [c, b, a]
  | _, _ => []
theorem rev3_len {α : Type} {us ws : List α} (h : (rev3 us ws).length = 3) : ∃ a b c, us = [] ∧ ws = [a, b, c] := by
  match us, ws, h with
  | [], [a, b, c], _ => exact ⟨a, b, c, rfl, rfl⟩
  | [], [], h => cases h
  | [], [_], h => cases h
  | [], [_, _], h => cases h
  | [], _ :: _ :: _ :: _ :: _, h => cases h
  | _ :: _, _, h => cases h
theorem rev3_rel {vs : List V} {us : List Value} {zs : List V} {ws : List Value} (r : Vals vs us) (rz : Vals zs ws) : Vals (rev3 vs zs) (rev3 us ws) := by
  cases r with
  | nil =>
    cases rz with
    | nil => exact .nil
    | cons r1 rz =>
      cases rz with
      | nil => exact .nil
      | cons r2 rz =>
        cases rz with
        | nil => exact .nil
        | cons r3 rz =>
          cases rz with
          | nil => exact .cons r3 (.cons r2 (.cons r1 .nil))
          | cons r4 rz => exact .nil
  | cons r1 r => exact .nil
/-- repr of a text of any length that fits -/
theorem call_repr_text {X : Cx} : CallR X (.builtin "repr") (fun xs H Q => ∃ y, xs = [.str y] ∧ (reprText y).length ≤ sizeLine ∧ Q (.str (reprText y)) H) := by
  intro pins s σ H xs us Q I r h
  obtain ⟨y, rfl, hz, q⟩ := h
  obtain ⟨u, rfl, t, rfl⟩ := vals1 r
  exact PySem.P.repr_of_str ⟨.str _, H, I.tok _, ⟨_, rfl⟩, q⟩ hz
theorem box_tup {K : PySem.W.Frag} {H H' : Hp} {l d : Addr} {n : Nat} {ys : List V} (b : But l H H') (B : BoxAt H l n) (h : SqT K H d ys) : SqT K H' d ys := by
  obtain ⟨_, _, _, hl, _⟩ := B
  rcases h with (h | ⟨o, h⟩) | h
  · exact .inl (.inl (b _ _ h (fun z => by rw [z, hl] at h; cases h)))
  · exact .inl (.inr ⟨o, b _ _ h (fun z => by rw [z, hl] at h; cases h)⟩)
  · exact .inr h
end Ov

namespace Ov
open PySem PySem.Spec PyProof.Rows L2
section
variable {P : Program} {w : World} {K : PySem.W.Frag} {mg : Str → Option Value} {base : Heap}
/-! ### _law_along_right -/
def spAlong (K : PySem.W.Frag) : Sp := fun vs H Q _ => ∃ (p : Addr) (T : Hp) (f : Nat) (t it l g : Addr) (cnt : Nat) (is : List I4) (rs : List Addr) (us : List V) (pss : List (List PStep)) (gs : List Nat), vs = [.ref p, .ref t, .ref l, .ref g] ∧ Wd p T none0 H (f + 4000) ∧ Tab T t cnt 3 is it rs ∧ T l = some (.tup us) ∧ DxAll K T us (pss.map planD) ∧ T g = some (.tup (entV gs)) ∧ Small cnt is pss gs ∧
  ∀ H' T', Same T T' → Wd p T' none0 H' f → Q (.bl true) H'
/-- the byte that goes on, and the state behind it -/
def LastIs (K : PySem.W.Frag) (is : List I4) (pss : List (List PStep)) (gs : List Nat) (row : List Int) (T : Hp) (v : V) : Prop :=
  v = .non ∨ ∃ (q : Addr) (u : V) (s : Sta) (b : Int), v = .ref q ∧ T q = some (.tup [u, .int b]) ∧ Dx K T u (stD s) ∧ rowSt is pss gs (row ++ [b]) = some s
theorem LastIs.same {K : PySem.W.Frag} {is : List I4} {pss : List (List PStep)} {gs : List Nat} {row : List Int} {T T' : Hp} {v : V} (h : LastIs K is pss gs row T v) (s : Same T T') : LastIs K is pss gs row T' v := by
  rcases h with h | ⟨q, u, st, b, h1, h2, h3, h4⟩
  · exact .inl h
  · exact .inr ⟨q, u, st, b, h1, s _ _ h2, h3.same s, h4⟩
abbrev nAlong : List Str := ["_law_box_here", "_law_table_here", "_law_plans", "_law_gates_here", "_law_machine", "_law_row", "_law_here", "_law_begun", "_law_named", "_law_turn", "_law_last", "_law_byte", "_law_kept", "_law_due", "_law_told", "_law_more"]
theorem scAlong : FnScope nAlong ["_law_box_here", "_law_table_here", "_law_plans", "_law_gates_here"] (defScope s_law_along_right) := ⟨rfl, rfl, rfl, by decide +kernel, rfl, by decide +kernel, by decide +kernel⟩
theorem ok_along {f C Cm fTk fNextState fLState fStartState fIi : Addr} {fd fdTk fdNextState fdLState fdStartState fdIi : FuncData} {k : Nat} (F : Fun K "_law_along_right" "_law_along_right" s_law_along_right f fd) (T : Bi mg) (S : SetTxt K mg C) (Sm : MacTxt K mg Cm) (Tk : Def K mg "_law_take" sTake fTk fdTk ["_law_box_here", "_law_many"]) (GTk : FnOk P w K mg base CX0 (k + 1) fTk fdTk ["_law_box_here", "_law_many"] (spTake)) (NextState : Def K mg "next_state" s_next_state fNextState fdNextState ["instruction_set", "programs", "entries", "state", "byte"]) (GNextState : FnOk P w K mg base CX0 (k + 1) fNextState fdNextState ["instruction_set", "programs", "entries", "state", "byte"] (spNext K C Cm)) (LState : Def K mg "_law_state" s_law_state fLState fdLState ["_law_table_here", "_law_plans", "_law_gates_here", "_law_row"]) (GLState : FnOk P w K mg base CX0 (k + 1) fLState fdLState ["_law_table_here", "_law_plans", "_law_gates_here", "_law_row"] (spLState K)) (StartState : Def K mg "start_state" s_start_state fStartState fdStartState ["instruction_set", "programs", "entries"]) (GStartState : FnOk P w K mg base CX0 (k + 1) fStartState fdStartState ["instruction_set", "programs", "entries"] (spStart K C Cm)) (KStartState : KBinds K fdStartState ["instruction_set", "programs", "entries"] ["entries", "programs", "instruction_set"] rev3 rev3) (MIi : L2.Mk K C fIi) (bIi : Binds K fdIi ["self", "byte_count", "instructions"] []) (GIi : FnOk P w K mg base CX0 k fIi fdIi ["self", "byte_count", "instructions"] (spInitI C)) :
    FnG P w K mg base (k + 2) f fd ["_law_box_here", "_law_table_here", "_law_plans", "_law_gates_here"] (spAlong K) := by
  refine okG F scAlong (fun vs H Q E h => ?_) (fun cdv A' outer s H vs Q E gd hr h => ?_)
  · obtain ⟨p, T, f, t, it, l, g, cnt, is, rs, us, pss, gs, rfl, _⟩ := h
    rfl
  · obtain ⟨p, T0, f, t, it, l, g, cnt, is, rs, us, pss, gs, rfl, W0, Tb, hl, Dl, hg, sm, q⟩ := h
    refine ⟨_, pss_cons (ps_par (i := 4) (j := 5) (by rfl) scAlong.nd rfl rfl (by decide) rfl rfl (pa_cons (pe_make MIi GIi hr (by rfl) S.mgC bIi .nil pass0 (pa_cons (pe_ix ix_tup (pv 1) pe_int (fun _ _ => rfl)) (pa_cons (pe_ix ix_tup (pv 1) pe_int (fun _ _ => rfl)) pa_nil))) (pa_cons (pe_tup pa_nil) pa_nil)) (by rfl))
      (pss_cons (ps_par (i := 6) (j := 7) (by rfl) scAlong.nd rfl rfl (by decide) rfl rfl (pa_cons (pe_call GStartState hr (by rfl) StartState.gl StartState.fn.kp StartState.bi .nil pass0 (pa_cons (pv 4) (pa_cons (pv 2) (pa_cons (pv 3) pa_nil)))) (pa_cons (pe_callB (call_repr_x gd hr) (by rfl) T.repr (by decide +kernel) (pa_cons (pe_call GLState hr (by rfl) LState.gl LState.fn.kp LState.bi .nil pass0 (pa_cons (pv 1) (pa_cons (pv 2) (pa_cons (pv 3) (pa_cons (pe_tup pa_nil) pa_nil))))) pa_nil)) pa_nil)) (by rfl))
      (pss_cons (ps_set (i := 8) scAlong.nd rfl (.inl rfl) (pe_callK0 GStartState hr (by rfl) StartState.gl StartState.fn.kp KStartState pass0 (pk_cons (pv 3) (pk_cons (pv 2) (pk_cons (pv 4) pk_nil)))))
      (pss_cons (ps_if (PW.pt (pw_or (pt_cmpR op_ne (pe_callB (call_repr_x gd hr) (by rfl) T.repr (by decide +kernel) (pa_cons (pv 6) pa_nil)) (pv 7) (nomark _)) (pw_or1 (pt_cmpR op_ne (pe_callB (call_repr_x gd hr) (by rfl) T.repr (by decide +kernel) (pa_cons (pv 8) pa_nil)) (pv 7) (nomark _))))) (pss_one (ps_ret pe_bl)) pss_nil)
      (pss_cons (ps_for PassesOwn.never rfl (pi_range1 (by rfl) T.range (pa_cons pe_int pa_nil)) (pg_name (i := 9) scAlong.nd rfl (.inr rfl)) (pss_cons (ps_set (i := 10) scAlong.nd rfl (.inl rfl) pe_non)
      (pss_cons (ps_for PassesOwn.never rfl (pi_list (pe_lc (own := [("_law_more", 15)]) (g := (gName 15)) (tt := tYes) (te := (tOp (rI (fun _ j => 0 < j) fun i j => .int (i % j)) (tOp (rI0 fun i j => .int (i + j)) (tVar 9) (tVar 15)) (tOp (rIxT K) (tVar 1) (tC (.int 0))))) (by rfl) scAlong.nd (pi_range1 (by rfl) T.range (pa_cons (pe_ix ix_tup (pv 1) pe_int (fun _ _ => rfl)) pa_nil)) (blkOk_by (own := [("_law_more", 15)]) (N := nAlong) (sc := defScope s_law_along_right) (by decide +kernel)) (fun _ _ _ _ _ => (pg_name (i := 15) scAlong.nd rfl (Or.inl rfl))) (fun _ _ _ _ _ => pts_nil) (fun _ _ _ _ _ => (pe_op op_mod (pe_op op_add (pv 9) (pv 15)) (pe_ix (r := rIxT K) ix_tup (pv 1) pe_int (fun _ _ => rfl)))))) (pg_name (i := 11) scAlong.nd rfl (.inl rfl)) (pss_cons (ps_par (i := 12) (j := 13) (by rfl) scAlong.nd rfl rfl (by decide) rfl rfl (pa_cons (pe_callB (call_repr_x gd hr) (by rfl) T.repr (by decide +kernel) (pa_cons (pv 6) pa_nil)) (pa_cons (pe_call GLState hr (by rfl) LState.gl LState.fn.kp LState.bi .nil pass0 (pa_cons (pv 1) (pa_cons (pv 2) (pa_cons (pv 3) (pa_cons (pe_op op_catA (pv 5) (pe_tup (pa_cons (pv 11) pa_nil))) pa_nil))))) pa_nil)) (by rfl))
      (pss_cons (ps_set (i := 14) scAlong.nd rfl (.inl rfl) (pe_call GNextState hr (by rfl) NextState.gl NextState.fn.kp NextState.bi .nil pass0 (pa_cons (pv 4) (pa_cons (pv 2) (pa_cons (pv 3) (pa_cons (pv 6) (pa_cons (pv 11) pa_nil)))))))
      (pss_cons (ps_if (PW.pt (pw_or (pt_cmpR op_ne (pe_callB (call_repr_x gd hr) (by rfl) T.repr (by decide +kernel) (pa_cons (pv 14) pa_nil)) (pe_callB (call_repr_x gd hr) (by rfl) T.repr (by decide +kernel) (pa_cons (pv 13) pa_nil)) (nomark _)) (pw_or1 (pt_cmpR op_ne (pe_callB (call_repr_x gd hr) (by rfl) T.repr (by decide +kernel) (pa_cons (pv 6) pa_nil)) (pv 12) (nomark _))))) (pss_one (ps_ret pe_bl)) pss_nil)
      (pss_one (ps_if (PW.pt (pw_and (pt_cmpR op_notN (pv 13) pe_non (nomark _)) (pw_and1 (PW.pt (pw_or (pt_cmpR op_isN (pv 10) pe_non (nomark _)) (pw_or1 (pt_cmpR op_eq (pe_call GTk hr (by rfl) Tk.gl Tk.fn.kp Tk.bi .nil pass0 (pa_cons (pv 0) (pa_cons pe_int pa_nil))) pe_int (nomark _)))))))) (pss_one (ps_set (i := 10) scAlong.nd rfl (.inl rfl) (pe_tup (pa_cons (pv 13) (pa_cons (pv 11) pa_nil))))) pss_nil))))))
      (pss_cons (ps_if (pt_cmpR op_isN (pv 10) pe_non (nomark _)) (pss_one (ps_ret pe_bl)) pss_nil)
      (pss_one (ps_par (i := 6) (j := 5) (by rfl) scAlong.nd rfl rfl (by decide) rfl rfl (pa_cons (pe_ix ix_tup (pv 10) pe_int (fun _ _ => rfl)) (pa_cons (pe_op op_catA (pv 5) (pe_tup (pa_cons (pe_ix ix_tup (pv 10) pe_int (fun _ _ => rfl)) pa_nil))) pa_nil)) (by rfl)))))))
      (pss_one (ps_ret pe_bl)))))), ?_⟩
    have i0 : ∀ x y : V, atI [x, y] 0 = some x := fun x y => atI_nat (j := 0) rfl
    have i1 : ∀ x y : V, atI [x, y] 1 = some y := fun x y => atI_nat (j := 1) rfl
    have cb := Tb.ok.cb
    have pl := sm.pl
    -- the machine, an empty row
    refine ⟨_, rfl, t, _, _, _, rfl, rfl, SqT.of (W0.th _ _ Tb.at_), i0 _ _, _, rfl, t, _, _, _, rfl, rfl, SqT.of (W0.th _ _ Tb.at_), i1 _ _, fun x dx nx ndx hne => ?_⟩
    have s4x : Same H (upd (upd H dx (.own x)) x (.ins C dx [])) := fun b o e => by
      rw [upd_ne (ne_of_none e nx), upd_ne (ne_of_none e ndx)]
      exact e
    refine ⟨x, dx, cnt, 3, it, rs, is, rfl, upd_same, s4x _ _ (W0.th _ _ Tb.its), (Tb.rows.same W0.th).same s4x, Tb.ok, fun H3 SA kp => ⟨rfl, ?_⟩⟩
    obtain ⟨W3a, M3⟩ := W0.mach Tb.its Tb.rows Tb.ok nx ndx SA kp
    have W3 := W3a.rest
    have s3 := W3a.restT
    have Mc := M3.rest0 W3a
    generalize rest p none0 H3 = T3 at *
    clear W3a M3 nx ndx hne s4x SA kp
    refine ⟨Nat.zero_le _, fun c nc => ⟨_, _, rfl, ?_⟩⟩
    have W4 := W3.put (HO.tup []) nc
    have sc := W3.putT (HO.tup []) nc
    have hc : upd T3 c (HO.tup []) c = some (.tup []) := upd_same
    have s4 := s3.trans sc
    have Mc := Mc.same sc
    have Tb := Tb.same s4
    have hl := s4 _ _ hl
    have Dl := Dl.same s4
    have hg := s4 _ _ hg
    generalize upd T3 c (HO.tup []) = T4, upd H3 c (HO.tup []) = H4 at *
    clear W3 W0 sc s3 nc
    have asked : ∀ {G : Hp}, Same T4 G → Asked K C G x l g cnt 3 it is rs us pss gs := fun {G} s => small_asked sm (Mc.same s) (SqT.of (s _ _ hl)) (Dl.same s) (SqT.of (s _ _ hg))
    -- the first state
    have e0 : rowSt is pss gs [] = some (first0 gs) := rowSt_nil sm.len
    have so0 := rowSt_ok Tb.ok pl sm.en sm.len e0
    refine ⟨_, rfl, _, rfl, _, rfl, x, l, g, cnt, 3, it, is, rs, us, pss, gs, rfl, asked W4.th, fun H5 v s5 Dv => ?_⟩
    refine ⟨_, rfl, _, rfl, _, rfl, Nat.zero_le _, fun c2 nc2 => ?_⟩
    have s5' := W4.th.trans (s5.trans (same_upd (o := HO.tup []) nc2))
    refine ⟨t, it, l, g, c2, cnt, 3, is, rs, us, pss, gs, [], rfl, Tb.same s5', SqT.of (s5' _ _ hl), Dl.same s5', pl, SqT.of (s5' _ _ hg), sm.len, SqT.of upd_same, by decide, fun H6 v6 s6 D6 => ?_⟩
    rw [e0] at D6
    refine ⟨_, _, rfl, D6, shows_sta pl so0, _, _, rfl, ?_⟩
    have s56 : Same H5 H6 := (same_upd (o := HO.tup []) nc2).trans s6
    have Dv6 := Dv.same s56
    have W6 := W4.pure (s5.trans s56)
    -- by names
    refine ⟨_, rfl, _, rfl, _, rfl, x, l, g, cnt, 3, it, is, rs, us, pss, gs, rfl, asked W6.th, fun H7 v7 s7 D7 => ?_⟩
    have Dv7 := Dv6.same s7
    refine ⟨_, rfl, _, _, rfl, Dv7, shows_sta pl so0, _, rfl, rfl, _, rfl, sameS rfl ⟨_, rfl, _, _, rfl, D7, shows_sta pl so0, _, rfl, rfl, _, rfl, sameS rfl ?_⟩⟩
    have W7 := (W6.pure s7)
    have Dv := Dv7.restW W7 nd0 (noL_sta _)
    have W8 := W7.rest
    have s8 := W7.restT
    clear W7 W6 W4 s5' s56 s5 s6 s7 nc2 D6 D7 Dv6 Dv7
    generalize rest p none0 H7 = T8 at *
    refine ⟨_, rfl, by decide, by decide, for_range (lo := 0) (n := 12) (fun j σ G => ∃ (T' : Hp) (v : V) (c : Addr) (s : Sta) (row : List Int) (y9 y10 y11 y12 y13 y14 : Option V), σ = [some (.ref p), some (.ref t), some (.ref l), some (.ref g), some (.ref x), some (.ref c), some v, some (.str (stD (first0 gs)).shown), some v7, y9, y10, y11, y12, y13, y14, none] ∧ Same T4 T' ∧ Wd p T' none0 G (f + 300 * (12 - j)) ∧ Dx K T' v (stD s) ∧ SqT K T' c (row.map V.int) ∧ rowSt is pss gs row = some s ∧ row.length = j)
      ⟨T8, v, c, first0 gs, [], _, _, _, _, _, _, rfl, s8, W8.mono (by omega), Dv, SqT.of (s8 _ _ hc), e0, rfl⟩ ?_ (fun σ G ⟨T', v, c, s, row, y9, y10, y11, y12, y13, y14, e, s', W', _⟩ => by
        subst e
        exact q _ _ (s4.trans s') (W'.mono (by omega)))⟩
    clear W8 Dv hc e0
    rintro j σ G jl ⟨T1, v, c, s, row, y9, y10, y11, y12, y13, y14, rfl, s1, W1, Dv, hc, er, rl⟩
    have W1 := W1.mono (f' := f + 300 * (12 - (j + 1)) + 300) (by omega)
    have so := rowSt_ok Tb.ok pl sm.en sm.len er
    have few : row.length ≤ 1000 := by omega
    rw [Int.zero_add]
    -- the bytes
    have tat := W1.th _ _ (s1 _ _ Tb.at_)
    refine ⟨_, rfl, t, _, _, _, rfl, rfl, SqT.of tat, i0 _ _, _, rfl, by omega, by omega, fun D nD => lcW_range (n := ((cnt : Nat) : Int).toNat) W1 nD (by omega) 0 (fun i _ acc => ∃ zs : List Int, acc = zs.map V.int ∧ zs.length = i) ⟨[], rfl, rfl⟩ (by omega) ?_ ?_⟩
    · rintro i T' H' acc f' N N0 il s' W' ⟨zs, rfl, zl⟩ kN k0
      have tat' := W'.th _ _ (s' _ _ (s1 _ _ Tb.at_))
      refine ⟨rfl, _, rfl, _, rfl, _, _, rfl, rfl, _, rfl, t, _, _, _, rfl, rfl, SqT.of tat', i0 _ _, _, _, rfl, rfl, by omega, ?_⟩
      refine kN _ _ _ (Same.refl _) W' ⟨zs ++ [((j : Int) + (0 + (i : Int))) % (cnt : Int)], by rw [List.map_append]; rfl, by rw [List.length_append, zl]; rfl⟩
    rintro T9 H9 acc s9 W9 ⟨zs, rfl, zl⟩ _
    have W9f := W9.freeze rfl
    have sF := W9.frT
    have hD : upd T9 D (HO.lst (zs.map V.int)) D = some (.lst (zs.map V.int)) := upd_same
    have s19 := s9.trans sF
    have s49 := s1.trans s19
    have Dv := Dv.same s19
    have hc := s19.tup hc
    generalize upd T9 D (HO.lst (zs.map V.int)) = T10 at *
    clear W9 sF s9 nD s19 W1 tat
    have zl2 : zs.length ≤ 256 := by omega
    refine ⟨D, rfl, ⟨_, SqL.of (W9f.th _ _ hD)⟩, for_list (K := K) (a := D) (xs := zs.map V.int) (fun i σ G => ∃ (T' : Hp) (lv : V) (y11 y12 y13 y14 : Option V), σ = [some (.ref p), some (.ref t), some (.ref l), some (.ref g), some (.ref x), some (.ref c), some v, some (.str (stD (first0 gs)).shown), some v7, some (.int (j : Int)), some lv, y11, y12, y13, y14, none] ∧ Same T10 T' ∧ Wd p T' none0 G (f + 300 * (12 - (j + 1)) + (256 - i)) ∧ LastIs K is pss gs row T' lv)
      ⟨T10, .non, _, _, _, _, rfl, Same.refl _, W9f.mono (by omega), .inl rfl⟩ (fun i σ G _ ⟨T', lv, _, _, _, _, _, s', W', _⟩ => SqL.of (W'.th _ _ (s' _ _ hD))) ?_ ?_⟩
    · rintro i u σ G hu ⟨T2, lv, y11, y12, y13, y14, rfl, s2, W2, la⟩
      rw [List.getElem?_map] at hu
      obtain ⟨b, hb, rfl⟩ := Option.map_eq_some_iff.mp hu
      have il : i < zs.length := (List.getElem?_eq_some_iff.mp hb).1
      have W2 := W2.mono (f' := f + 300 * (12 - (j + 1)) + (256 - (i + 1)) + 1) (by omega)
      have s42 := s49.trans s2
      have Dv2 := Dv.same (s2.trans W2.th)
      refine ⟨_, rfl, _, _, rfl, Dv2, shows_sta pl so, ?_⟩
      refine ⟨_, rfl, _, rfl, _, rfl, _, rfl, _, rfl, by show 1 ≤ sizeLine; decide, fun q1 nq1 => ?_⟩
      have x1 := same_upd (o := HO.tup [V.int b]) nq1
      refine cat_one (c := c) (q := q1) (bs := row) (b := b) ((s2.trans (W2.th.trans x1)).tup hc) (SqT.of upd_same) few fun c' G3 s3 hc' => ?_
      have x2 := x1.trans s3
      have y2 := s42.trans (W2.th.trans x2)
      refine ⟨t, it, l, g, c', cnt, 3, is, rs, us, pss, gs, row ++ [b], rfl, Tb.same y2, SqT.of (y2 _ _ hl), Dl.same y2, pl, SqT.of (y2 _ _ hg), sm.len, hc', by rw [List.length_append]; show _ + 1 ≤ 1000; omega, fun G4 ud s4' Dd => ⟨_, _, rfl, ?_⟩⟩
      have x3 := x2.trans s4'
      refine ⟨_, rfl, _, rfl, _, rfl, _, rfl, _, rfl, x, l, g, cnt, 3, it, is, rs, us, pss, gs, v, s, b, rfl, asked (s42.trans (W2.th.trans x3)), Dv.same (s2.trans (W2.th.trans x3)), so, fun G5 ut s5 Dt => ?_⟩
      rw [← rowSt_more sm.len sm.en.asc er b] at Dt
      have so2 : ∀ s', rowSt is pss gs (row ++ [b]) = some s' → StaOk pss gs s' := fun s' e => rowSt_ok Tb.ok pl sm.en sm.len e
      refine ⟨_, rfl, _, _, rfl, Dt, shows_osta pl so2, _, rfl, _, _, rfl, Dd.same s5, shows_osta pl so2, rfl, _, rfl, sameS rfl ⟨_, rfl, _, _, rfl, Dv.same (s2.trans (W2.th.trans (x3.trans s5))), shows_sta pl so, _, rfl, rfl, _, rfl, sameS rfl ?_⟩⟩
      have W5 := W2.pure (x3.trans s5)
      have Dd6 := (Dd.same s5).restW W5 nd0 (noL_osta _)
      have W6 := W5.rest
      have s6 := W5.restT
      clear W5 W2 Dt
      generalize rest p none0 G5 = T6 at *
      have la6 := la.same s6
      have s26 := s2.trans s6
      refine ⟨_, rfl, rfl, _, rfl, ?_⟩
      cases eo : rowSt is pss gs (row ++ [b]) with
      | none =>
        rw [eo] at Dd6
        cases Dd6
        exact iteF ⟨T6, lv, _, _, _, _, rfl, s26, W6.mono (by omega), la6⟩
      | some s' =>
        rw [eo] at Dd6
        obtain ⟨ad, a1, xs1, rfl, hd1, hd2, DA⟩ := dx_st (show Dx K T6 ud (stD s') from Dd6)
        have put : ∀ {T7 G7 : Hp} {f7 : Nat}, Same T6 T7 → Wd p T7 none0 G7 f7 → f + 300 * (12 - (j + 1)) + (256 - (i + 1)) ≤ f7 → ∀ q2, G7 q2 = none → ∃ (T' : Hp) (lv' : V) (y11 y12 y13 y14 : Option V), [some (.ref p), some (.ref t), some (.ref l), some (.ref g), some (.ref x), some (.ref c), some v, some (.str (stD (first0 gs)).shown), some v7, some (.int (j : Int)), some (.ref q2), some (.int b), some (.str (stD s).shown), some (.ref ad), some ut, none] = [some (.ref p), some (.ref t), some (.ref l), some (.ref g), some (.ref x), some (.ref c), some v, some (.str (stD (first0 gs)).shown), some v7, some (.int (j : Int)), some lv', y11, y12, y13, y14, none] ∧ Same T10 T' ∧ Wd p T' none0 (upd G7 q2 (HO.tup [V.ref ad, V.int b])) (f + 300 * (12 - (j + 1)) + (256 - (i + 1))) ∧ LastIs K is pss gs row T' lv' := fun {T7 G7 f7} s7 W7 hf q2 nq2 => by
          have z := W7.putT (HO.tup [V.ref ad, V.int b]) nq2
          exact ⟨_, .ref q2, _, _, _, _, rfl, s26.trans (s7.trans z), (W7.put _ nq2).mono hf, .inr ⟨q2, .ref ad, s', b, rfl, upd_same, Dx.same (s7.trans z) Dd6, eo⟩⟩
        refine iteT ⟨_, rfl, rfl, _, rfl, ?_⟩
        rcases la6 with rfl | ⟨q9, u9, s9, b9, rfl, h9, D9, e9⟩
        · refine iteT (iteT ⟨_, rfl, _, rfl, by show 2 ≤ sizeLine; decide, fun q2 nq2 => put (Same.refl _) W6 (by omega) q2 nq2⟩)
        · obtain ⟨n8, B8, l8, up8⟩ := W6.tk
          refine iteF ⟨_, rfl, p, 2, n8, rfl, B8, by omega, by decide, by decide, fun H8 z8 b8 B8' _ _ _ => ?_⟩
          have W8 := up8 b8 B8'
          refine ⟨rfl, _, rfl, ?_⟩
          by_cases z0 : z8 = 0
          · rw [decide_eq_true (congrArg V.int z0)]
            exact iteT ⟨_, rfl, _, rfl, by show 2 ≤ sizeLine; decide, fun q2 nq2 => put (Same.refl _) W8 (by omega) q2 nq2⟩
          · rw [decide_eq_false (fun y => z0 (V.int.inj y))]
            exact iteF ⟨T6, _, _, _, _, _, rfl, s26, W8, .inr ⟨q9, u9, s9, b9, rfl, h9, D9, e9⟩⟩
    · rintro σ G ⟨T2, lv, y11, y12, y13, y14, rfl, s2, W2, la⟩
      refine ⟨_, rfl, rfl, _, rfl, ?_⟩
      rcases la with rfl | ⟨q9, u9, s9, b9, rfl, h9, D9, e9⟩
      · exact iteT (q _ _ (s4.trans (s49.trans s2)) (W2.mono (by omega)))
      · refine iteF ⟨_, rfl, q9, _, _, _, rfl, rfl, SqT.of (W2.th _ _ h9), i0 _ _, ?_⟩
        refine ⟨_, rfl, _, rfl, q9, _, _, _, rfl, rfl, SqT.of (W2.th _ _ h9), i1 _ _, by show 1 ≤ sizeLine; decide, fun q1 nq1 => ?_⟩
        have x1 := same_upd (o := HO.tup [V.int b9]) nq1
        refine cat_one (c := c) (q := q1) (bs := row) (b := b9) ((s2.trans (W2.th.trans x1)).tup hc) (SqT.of upd_same) few fun c' G3 s3 hc' => ⟨_, _, rfl, ?_⟩
        have W3 := W2.pure (x1.trans s3)
        have D3 := (D9.same W3.restT)
        exact ⟨rest p none0 G3, u9, c', s9, row ++ [b9], _, _, _, _, _, _, rfl, s49.trans (s2.trans W3.restT), W3.rest.mono (by omega), D3, W3.sqT hc', e9, by rw [List.length_append, rl]; rfl⟩
end
end Ov
namespace Ov
open PySem PySem.Spec PyProof.Rows L2
section
variable {P : Program} {w : World} {K : PySem.W.Frag} {mg : Str → Option Value} {base : Heap}
/-! ### law -/
def spLaw (K : PySem.W.Frag) : Sp := fun vs H Q _ => ∃ (a : Addr) (ns : List Int), vs = [.ref a] ∧ SqL K H a (ns.map V.int) ∧ ns.length ≤ 63 ∧ ∀ H', Q (.bl true) H'
abbrev nLaw : List Str := ["_law_script", "_law_k", "_law_box_here", "_law_turn", "_law_table_here", "_law_plans", "_law_gates_here"]
theorem scLaw : FnScope nLaw ["_law_script"] (defScope sLaw) := ⟨rfl, rfl, rfl, by decide +kernel, rfl, by decide +kernel, by decide +kernel⟩
theorem ok_law {f fLAlongRight fLSmall fBo : Addr} {fd fdLAlongRight fdLSmall fdBo : FuncData} {k : Nat} (F : Fun K "law" "law" sLaw f fd) (T : Bi mg) (LAlongRight : Def K mg "_law_along_right" s_law_along_right fLAlongRight fdLAlongRight ["_law_box_here", "_law_table_here", "_law_plans", "_law_gates_here"]) (GLAlongRight : FnG P w K mg base k fLAlongRight fdLAlongRight ["_law_box_here", "_law_table_here", "_law_plans", "_law_gates_here"] (spAlong K)) (LSmall : Def K mg "_law_small" sSmall fLSmall fdLSmall ["_law_box_here"]) (GLSmall : FnOk P w K mg base CX0 k fLSmall fdLSmall ["_law_box_here"] (spSmall K)) (Bo : Def K mg "_law_box" sBox fBo fdBo ["_law_script", "_law_k"]) (GBo : FnOk P w K mg base CX0 k fBo fdBo ["_law_script", "_law_k"] (spBox K)) :
    FnG P w K mg base (k + 1) f fd ["_law_script"] (spLaw K) := by
  refine okG F scLaw (fun vs H Q E h => ?_) (fun cdv A' outer s H vs Q E gd hr h => ?_)
  · obtain ⟨a, ns, rfl, _⟩ := h
    rfl
  · obtain ⟨a, ns, rfl, hS, hlen, q⟩ := h
    refine ⟨_, pss_cons (ps_for PassesOwn.never rfl (pi_range1 (by rfl) T.range (pa_cons (pe_callB (call_max2 rfl) (by rfl) T.max (by decide +kernel) (pa_cons pe_int (pa_cons (pe_callB (call_min2 rfl) (by rfl) T.min (by decide +kernel) (pa_cons pe_int (pa_cons (pe_callB call_len_seq (by rfl) T.len PySem.boot_len (pa_cons (pv 0) pa_nil)) pa_nil))) pa_nil))) pa_nil)) (pg_name (i := 1) scLaw.nd rfl (.inl rfl)) (pss_cons (ps_set (i := 2) scLaw.nd rfl (.inl rfl) (pe_call GBo hr (by rfl) Bo.gl Bo.fn.kp Bo.bi .nil pass0 (pa_cons (pv 0) (pa_cons (pv 1) pa_nil))))
      (pss_one (ps_for PassesOwn.never rfl (pi_range1 (by rfl) T.range (pa_cons pe_int pa_nil)) (pg_name (i := 3) scLaw.nd rfl (.inl rfl)) (pss_cons (ps_asg (pe_call GLSmall hr (by rfl) LSmall.gl LSmall.fn.kp LSmall.bi .nil pass0 (pa_cons (pv 2) pa_nil)) (pg_tup rfl (pgs_cons (pg_name (i := 4) scLaw.nd rfl (.inl rfl)) (pgs_cons (pg_name (i := 5) scLaw.nd rfl (.inl rfl)) (pgs_cons (pg_name (i := 6) scLaw.nd rfl (.inl rfl)) pgs_nil)))))
      (pss_one (ps_if (pt_not (pt_val (pe_callG GLAlongRight gd hr (by rfl) LAlongRight.gl LAlongRight.fn.kp LAlongRight.bi (pa_cons (pv 2) (pa_cons (pv 4) (pa_cons (pv 5) (pa_cons (pv 6) pa_nil))))))) (pss_one (ps_ret pe_bl)) pss_nil)))))))
      (pss_one (ps_ret pe_bl)), ?_⟩
    have ai : ∀ (x y z : V) (j : Nat) (v : V), [x, y, z][j]? = some v → atI [x, y, z] (j : Int) = some v := fun x y z j v h => atI_nat h
    refine ⟨_, rfl, a, _, rfl, .inl hS, _, _, rfl, _, _, rfl, _, rfl, ?_, ?_, for_range (lo := 0) (fun i σ H2 => ∃ y1 y2 y3 y4 y5 y6, σ = [some (.ref a), y1, y2, y3, y4, y5, y6] ∧ Same H H2)
      ⟨_, _, _, _, _, _, rfl, Same.refl _⟩ ?_ (fun σ G _ => q G)⟩
    · split <;> split <;> omega
    · split <;> split <;> omega
    rintro i σ G0 hi ⟨y1, y2, y3, y4, y5, y6, rfl, s0⟩
    have hi4 : i < 63 := by
      revert hi
      split <;> split <;> omega
    rw [Int.zero_add]
    refine ⟨_, rfl, _, rfl, a, ns, i, rfl, s0.seq hS, by omega, fun H1 p s1 np B1 => ?_⟩
    have W1 := Wd.init s1 np B1
    refine ⟨_, rfl, by decide, by decide, for_range (lo := 0) (n := 2) (fun j σ G => ∃ (T' : Hp) (y3 y4 y5 y6 : Option V), σ = [some (.ref a), some (.int (i : Int)), some (.ref p), y3, y4, y5, y6] ∧ Same G0 T' ∧ Wd p T' none0 G (2 ^ 36 + 10000 * (2 - j)))
      ⟨G0, _, _, _, _, rfl, Same.refl _, W1.mono (by omega)⟩ ?_ (fun σ G ⟨T', y3, y4, y5, y6, e, s', W'⟩ => ⟨_, _, _, _, _, _, e, s0.trans (s'.trans W'.th)⟩)⟩
    rintro j σ G jl ⟨T', y3, y4, y5, y6, rfl, s', W'⟩
    have W' := W'.mono (f' := 2 ^ 36 + 10000 * (2 - (j + 1)) + 6500) (by omega)
    generalize 2 ^ 36 + 10000 * (2 - (j + 1)) = F' at *
    refine ⟨_, rfl, p, T', F' + 4000, rfl, W'.mono (by omega), fun H2 T2 r t it l g cnt is rs us pss gs s2 W2 hr Tb hl Dl hg sm => ?_⟩
    refine ⟨r, _, rfl, SqT.of (W2.th _ _ hr), rfl, _, _, rfl, _, _, rfl, _, _, rfl, rfl, ?_⟩
    refine ⟨_, rfl, _, rfl, _, rfl, _, rfl, p, T2, F', t, it, l, g, cnt, is, rs, us, pss, gs, rfl, W2, Tb, hl, Dl, hg, sm, fun H3 T3 s3 W3 => ⟨_, rfl, ?_⟩⟩
    exact iteF ⟨T3, _, _, _, _, rfl, s'.trans (s2.trans s3), W3⟩
end
end Ov
namespace Ov
open PySem PySem.Spec PyProof.Rows L2
theorem up {P : Program} {w : World} {K : PySem.W.Frag} {mg : Str → Option Value} {base : Heap} {CX : CXT} {k k' : Nat} {f : Addr} {fd : FuncData} {ps : List Str} {sp : Sp} (F : FnOk P w K mg base CX k f fd ps sp) (h : k ≤ k') : FnOk P w K mg base CX k' f fd ps sp := ⟨F.len, fun A outer s H args us vs Q E room => F.run A outer s H args us vs Q E (room.mono h)⟩
theorem upG {P : Program} {w : World} {K : PySem.W.Frag} {mg : Str → Option Value} {base : Heap} {k k' : Nat} {f : Addr} {fd : FuncData} {ps : List Str} {sp : Sp} (F : FnG P w K mg base k f fd ps sp) (h : k ≤ k') : FnG P w K mg base k' f fd ps sp := ⟨F.len, fun A outer s H args us vs Q E gd room => F.run A outer s H args us vs Q E gd (room.mono h)⟩
/-! ### what the top has written, and the law's own head -/
theorem all_mk {P : Program} {w : World} {K : PySem.W.Frag} {h : Heap} {mg : Str → Option Value} {fa f0 f1 f2 f3 f4 f5 f6 f7 f8 f9 f10 f11 f12 f13 f14 f15 f16 f17 f18 f19 f20 f21 f22 f23 f24 f25 f26 f27 f28 f29 f30 f31 f32 f33 f34 f35 f36 f37 f38 f39 f40 : Addr} (X : K.In h) (G : h.Ns mainGlobals mg) (hfa : mg "law" = some (.ref fa))
    {od0 an0 od1 an1 od2 an2 od3 an3 od4 an4 od5 an5 od6 an6 od7 an7 od8 an8 od9 an9 od10 an10 od11 an11 od12 an12 od13 an13 od14 an14 od15 an15 od16 an16 od17 an17 od18 an18 od19 an19 od20 an20 od21 an21 od22 an22 od23 an23 od24 an24 od25 an25 od26 an26 od27 an27 od28 an28 od29 an29 od30 an30 od31 an31 od32 an32 od33 an33 od34 an34 od35 an35 od36 an36 od37 an37 od38 an38 od39 an39 od40 an40 : Option Addr} {sl0 sl1 sl2 sl3 sl4 sl5 sl6 sl7 sl8 sl9 sl10 sl11 sl12 sl13 sl14 sl15 sl16 sl17 sl18 sl19 sl20 sl21 sl22 sl23 sl24 sl25 sl26 sl27 sl28 sl29 sl30 sl31 sl32 sl33 sl34 sl35 sl36 sl37 sl38 sl39 sl40 : Array (Option Value)} {oc0 kV0 dc0 pm0 cd0 ct0 oc1 kV1 dc1 pm1 cd1 ct1 oc2 kV2 dc2 pm2 cd2 ct2 oc3 kV3 dc3 pm3 cd3 ct3 oc4 kV4 dc4 pm4 cd4 ct4 oc5 kV5 dc5 pm5 cd5 ct5 oc6 kV6 dc6 pm6 cd6 ct6 oc7 kV7 dc7 pm7 cd7 ct7 oc8 kV8 dc8 pm8 cd8 ct8 oc9 kV9 dc9 pm9 cd9 ct9 oc10 kV10 dc10 pm10 cd10 ct10 oc11 kV11 dc11 pm11 cd11 ct11 oc12 kV12 dc12 pm12 cd12 ct12 oc13 kV13 dc13 pm13 cd13 ct13 oc14 kV14 dc14 pm14 cd14 ct14 oc15 kV15 dc15 pm15 cd15 ct15 oc16 kV16 dc16 pm16 cd16 ct16 oc17 kV17 dc17 pm17 cd17 ct17 oc18 kV18 dc18 pm18 cd18 ct18 oc19 kV19 dc19 pm19 cd19 ct19 oc20 kV20 dc20 pm20 cd20 ct20 oc21 kV21 dc21 pm21 cd21 ct21 oc22 kV22 dc22 pm22 cd22 ct22 oc23 kV23 dc23 pm23 cd23 ct23 oc24 kV24 dc24 pm24 cd24 ct24 oc25 kV25 dc25 pm25 cd25 ct25 oc26 kV26 dc26 pm26 cd26 ct26 oc27 kV27 dc27 pm27 cd27 ct27 oc28 kV28 dc28 pm28 cd28 ct28 oc29 kV29 dc29 pm29 cd29 ct29 oc30 kV30 dc30 pm30 cd30 ct30 oc31 kV31 dc31 pm31 cd31 ct31 oc32 kV32 dc32 pm32 cd32 ct32 oc33 kV33 dc33 pm33 cd33 ct33 oc34 kV34 dc34 pm34 cd34 ct34 oc35 kV35 dc35 pm35 cd35 ct35 oc36 kV36 dc36 pm36 cd36 ct36 oc37 kV37 dc37 pm37 cd37 ct37 oc38 kV38 dc38 pm38 cd38 ct38 oc39 kV39 dc39 pm39 cd39 ct39 oc40 kV40 dc40 pm40 cd40 ct40 : Value}
    {tk0 tk1 tk2 tk3 tk4 tk5 tk6 tk7 : Tok}
    (a0 : PySem.W.nsIn K mainGlobals "law" = some (some (.ref f0))) (l0 : K.lookup f0 = some ⟨oc0, od0, .func (PySem.W.fnOf "law" "law" (defArgs sLaw) (defBody sLaw) (defScope sLaw) .none kV0 dc0 pm0 an0 cd0 ct0), sl0⟩) (c0 : PySem.W.codeIn K cd0 "law" = true) (k0 : PySem.W.keepIn K (.ref f0) = true)
    (a1 : PySem.W.nsIn K mainGlobals "_law_along_right" = some (some (.ref f1))) (l1 : K.lookup f1 = some ⟨oc1, od1, .func (PySem.W.fnOf "_law_along_right" "_law_along_right" (defArgs s_law_along_right) (defBody s_law_along_right) (defScope s_law_along_right) .none kV1 dc1 pm1 an1 cd1 ct1), sl1⟩) (c1 : PySem.W.codeIn K cd1 "_law_along_right" = true) (k1 : PySem.W.keepIn K (.ref f1) = true)
    (a2 : PySem.W.nsIn K mainGlobals "_law_small" = some (some (.ref f2))) (l2 : K.lookup f2 = some ⟨oc2, od2, .func (PySem.W.fnOf "_law_small" "_law_small" (defArgs sSmall) (defBody sSmall) (defScope sSmall) .none kV2 dc2 pm2 an2 cd2 ct2), sl2⟩) (c2 : PySem.W.codeIn K cd2 "_law_small" = true) (k2 : PySem.W.keepIn K (.ref f2) = true)
    (a3 : PySem.W.nsIn K mainGlobals "_law_box" = some (some (.ref f3))) (l3 : K.lookup f3 = some ⟨oc3, od3, .func (PySem.W.fnOf "_law_box" "_law_box" (defArgs sBox) (defBody sBox) (defScope sBox) .none kV3 dc3 pm3 an3 cd3 ct3), sl3⟩) (c3 : PySem.W.codeIn K cd3 "_law_box" = true) (k3 : PySem.W.keepIn K (.ref f3) = true)
    (a4 : PySem.W.nsIn K mainGlobals "_law_take" = some (some (.ref f4))) (l4 : K.lookup f4 = some ⟨oc4, od4, .func (PySem.W.fnOf "_law_take" "_law_take" (defArgs sTake) (defBody sTake) (defScope sTake) .none kV4 dc4 pm4 an4 cd4 ct4), sl4⟩) (c4 : PySem.W.codeIn K cd4 "_law_take" = true) (k4 : PySem.W.keepIn K (.ref f4) = true)
    (a5 : PySem.W.nsIn K mainGlobals "next_state" = some (some (.ref f5))) (l5 : K.lookup f5 = some ⟨oc5, od5, .func (PySem.W.fnOf "next_state" "next_state" (defArgs s_next_state) (defBody s_next_state) (defScope s_next_state) .none kV5 dc5 pm5 an5 cd5 ct5), sl5⟩) (c5 : PySem.W.codeIn K cd5 "next_state" = true) (k5 : PySem.W.keepIn K (.ref f5) = true)
    (a6 : PySem.W.nsIn K mainGlobals "_law_state" = some (some (.ref f6))) (l6 : K.lookup f6 = some ⟨oc6, od6, .func (PySem.W.fnOf "_law_state" "_law_state" (defArgs s_law_state) (defBody s_law_state) (defScope s_law_state) .none kV6 dc6 pm6 an6 cd6 ct6), sl6⟩) (c6 : PySem.W.codeIn K cd6 "_law_state" = true) (k6 : PySem.W.keepIn K (.ref f6) = true)
    (a7 : PySem.W.nsIn K mainGlobals "start_state" = some (some (.ref f7))) (l7 : K.lookup f7 = some ⟨oc7, od7, .func (PySem.W.fnOf "start_state" "start_state" (defArgs s_start_state) (defBody s_start_state) (defScope s_start_state) .none kV7 dc7 pm7 an7 cd7 ct7), sl7⟩) (c7 : PySem.W.codeIn K cd7 "start_state" = true) (k7 : PySem.W.keepIn K (.ref f7) = true)
    (a8 : PySem.W.nsIn K mainGlobals "check_overlay" = some (some (.ref f8))) (l8 : K.lookup f8 = some ⟨oc8, od8, .func (PySem.W.fnOf "check_overlay" "check_overlay" (defArgs s_check_overlay) (defBody s_check_overlay) (defScope s_check_overlay) .none kV8 dc8 pm8 an8 cd8 ct8), sl8⟩) (c8 : PySem.W.codeIn K cd8 "check_overlay" = true) (k8 : PySem.W.keepIn K (.ref f8) = true)
    (a9 : PySem.W.nsIn K mainGlobals "opcode_steps" = some (some (.ref f9))) (l9 : K.lookup f9 = some ⟨oc9, od9, .func (PySem.W.fnOf "opcode_steps" "opcode_steps" (defArgs s_opcode_steps) (defBody s_opcode_steps) (defScope s_opcode_steps) .none kV9 dc9 pm9 an9 cd9 ct9), sl9⟩) (c9 : PySem.W.codeIn K cd9 "opcode_steps" = true) (k9 : PySem.W.keepIn K (.ref f9) = true)
    (a10 : PySem.W.nsIn K mainGlobals "padding_by_opcode" = some (some (.ref f10))) (l10 : K.lookup f10 = some ⟨oc10, od10, .func (PySem.W.fnOf "padding_by_opcode" "padding_by_opcode" (defArgs s_padding_by_opcode) (defBody s_padding_by_opcode) (defScope s_padding_by_opcode) .none kV10 dc10 pm10 an10 cd10 ct10), sl10⟩) (c10 : PySem.W.codeIn K cd10 "padding_by_opcode" = true) (k10 : PySem.W.keepIn K (.ref f10) = true)
    (a11 : PySem.W.nsIn K mainGlobals "state_count" = some (some (.ref f11))) (l11 : K.lookup f11 = some ⟨oc11, od11, .func (PySem.W.fnOf "state_count" "state_count" (defArgs s_state_count) (defBody s_state_count) (defScope s_state_count) .none kV11 dc11 pm11 an11 cd11 ct11), sl11⟩) (c11 : PySem.W.codeIn K cd11 "state_count" = true) (k11 : PySem.W.keepIn K (.ref f11) = true)
    (a12 : PySem.W.nsIn K mainGlobals "check_programs" = some (some (.ref f12))) (l12 : K.lookup f12 = some ⟨oc12, od12, .func (PySem.W.fnOf "check_programs" "check_programs" (defArgs s_check_programs) (defBody s_check_programs) (defScope s_check_programs) .none kV12 dc12 pm12 an12 cd12 ct12), sl12⟩) (c12 : PySem.W.codeIn K cd12 "check_programs" = true) (k12 : PySem.W.keepIn K (.ref f12) = true)
    (a13 : PySem.W.nsIn K mainGlobals "check_entries" = some (some (.ref f13))) (l13 : K.lookup f13 = some ⟨oc13, od13, .func (PySem.W.fnOf "check_entries" "check_entries" (defArgs s_check_entries) (defBody s_check_entries) (defScope s_check_entries) .none kV13 dc13 pm13 an13 cd13 ct13), sl13⟩) (c13 : PySem.W.codeIn K cd13 "check_entries" = true) (k13 : PySem.W.keepIn K (.ref f13) = true)
    (a14 : PySem.W.nsIn K mainGlobals "decoder_count" = some (some (.ref f14))) (l14 : K.lookup f14 = some ⟨oc14, od14, .func (PySem.W.fnOf "decoder_count" "decoder_count" (defArgs s_decoder_count) (defBody s_decoder_count) (defScope s_decoder_count) .none kV14 dc14 pm14 an14 cd14 ct14), sl14⟩) (c14 : PySem.W.codeIn K cd14 "decoder_count" = true) (k14 : PySem.W.keepIn K (.ref f14) = true)
    (a15 : PySem.W.nsIn K mainGlobals "check_program" = some (some (.ref f15))) (l15 : K.lookup f15 = some ⟨oc15, od15, .func (PySem.W.fnOf "check_program" "check_program" (defArgs s_check_program) (defBody s_check_program) (defScope s_check_program) .none kV15 dc15 pm15 an15 cd15 ct15), sl15⟩) (c15 : PySem.W.codeIn K cd15 "check_program" = true) (k15 : PySem.W.keepIn K (.ref f15) = true)
    (a16 : PySem.W.nsIn K mainGlobals "is_program" = some (some (.ref f16))) (l16 : K.lookup f16 = some ⟨oc16, od16, .func (PySem.W.fnOf "is_program" "is_program" (defArgs s_is_program) (defBody s_is_program) (defScope s_is_program) .none kV16 dc16 pm16 an16 cd16 ct16), sl16⟩) (c16 : PySem.W.codeIn K cd16 "is_program" = true) (k16 : PySem.W.keepIn K (.ref f16) = true)
    (a17 : PySem.W.nsIn K mainGlobals "step_lengths" = some (some (.ref f17))) (l17 : K.lookup f17 = some ⟨oc17, od17, .func (PySem.W.fnOf "step_lengths" "step_lengths" (defArgs s_step_lengths) (defBody s_step_lengths) (defScope s_step_lengths) .none kV17 dc17 pm17 an17 cd17 ct17), sl17⟩) (c17 : PySem.W.codeIn K cd17 "step_lengths" = true) (k17 : PySem.W.keepIn K (.ref f17) = true)
    (a18 : PySem.W.nsIn K mainGlobals "is_step" = some (some (.ref f18))) (l18 : K.lookup f18 = some ⟨oc18, od18, .func (PySem.W.fnOf "is_step" "is_step" (defArgs s_is_step) (defBody s_is_step) (defScope s_is_step) .none kV18 dc18 pm18 an18 cd18 ct18), sl18⟩) (c18 : PySem.W.codeIn K cd18 "is_step" = true) (k18 : PySem.W.keepIn K (.ref f18) = true)
    (a19 : PySem.W.nsIn K mainGlobals "is_integer_between" = some (some (.ref f19))) (l19 : K.lookup f19 = some ⟨oc19, od19, .func (PySem.W.fnOf "is_integer_between" "is_integer_between" (defArgs sBetween) (defBody sBetween) (defScope sBetween) .none kV19 dc19 pm19 an19 cd19 ct19), sl19⟩) (c19 : PySem.W.codeIn K cd19 "is_integer_between" = true) (k19 : PySem.W.keepIn K (.ref f19) = true)
    (a20 : PySem.W.nsIn K mainGlobals "is_integer" = some (some (.ref f20))) (l20 : K.lookup f20 = some ⟨oc20, od20, .func (PySem.W.fnOf "is_integer" "is_integer" (defArgs sIsInt) (defBody sIsInt) (defScope sIsInt) .none kV20 dc20 pm20 an20 cd20 ct20), sl20⟩) (c20 : PySem.W.codeIn K cd20 "is_integer" = true) (k20 : PySem.W.keepIn K (.ref f20) = true)
    (a21 : PySem.W.nsIn K mainGlobals "are_entries" = some (some (.ref f21))) (l21 : K.lookup f21 = some ⟨oc21, od21, .func (PySem.W.fnOf "are_entries" "are_entries" (defArgs s_are_entries) (defBody s_are_entries) (defScope s_are_entries) .none kV21 dc21 pm21 an21 cd21 ct21), sl21⟩) (c21 : PySem.W.codeIn K cd21 "are_entries" = true) (k21 : PySem.W.keepIn K (.ref f21) = true)
    (a22 : PySem.W.nsIn K mainGlobals "is_ascending" = some (some (.ref f22))) (l22 : K.lookup f22 = some ⟨oc22, od22, .func (PySem.W.fnOf "is_ascending" "is_ascending" (defArgs sAscending) (defBody sAscending) (defScope sAscending) .none kV22 dc22 pm22 an22 cd22 ct22), sl22⟩) (c22 : PySem.W.codeIn K cd22 "is_ascending" = true) (k22 : PySem.W.keepIn K (.ref f22) = true)
    (a23 : PySem.W.nsIn K mainGlobals "longest_rest" = some (some (.ref f23))) (l23 : K.lookup f23 = some ⟨oc23, od23, .func (PySem.W.fnOf "longest_rest" "longest_rest" (defArgs s_longest_rest) (defBody s_longest_rest) (defScope s_longest_rest) .none kV23 dc23 pm23 an23 cd23 ct23), sl23⟩) (c23 : PySem.W.codeIn K cd23 "longest_rest" = true) (k23 : PySem.W.keepIn K (.ref f23) = true)
    (a24 : PySem.W.nsIn K mainGlobals "decoder_behind" = some (some (.ref f24))) (l24 : K.lookup f24 = some ⟨oc24, od24, .func (PySem.W.fnOf "decoder_behind" "decoder_behind" (defArgs s_decoder_behind) (defBody s_decoder_behind) (defScope s_decoder_behind) .none kV24 dc24 pm24 an24 cd24 ct24), sl24⟩) (c24 : PySem.W.codeIn K cd24 "decoder_behind" = true) (k24 : PySem.W.keepIn K (.ref f24) = true)
    (a25 : PySem.W.nsIn K mainGlobals "step_decoder" = some (some (.ref f25))) (l25 : K.lookup f25 = some ⟨oc25, od25, .func (PySem.W.fnOf "step_decoder" "step_decoder" (defArgs s_step_decoder) (defBody s_step_decoder) (defScope s_step_decoder) .none kV25 dc25 pm25 an25 cd25 ct25), sl25⟩) (c25 : PySem.W.codeIn K cd25 "step_decoder" = true) (k25 : PySem.W.keepIn K (.ref f25) = true)
    (a26 : PySem.W.nsIn K mainGlobals "padding_decoder" = some (some (.ref f26))) (l26 : K.lookup f26 = some ⟨oc26, od26, .func (PySem.W.fnOf "padding_decoder" "padding_decoder" (defArgs s_padding_decoder) (defBody s_padding_decoder) (defScope s_padding_decoder) .none kV26 dc26 pm26 an26 cd26 ct26), sl26⟩) (c26 : PySem.W.codeIn K cd26 "padding_decoder" = true) (k26 : PySem.W.keepIn K (.ref f26) = true)
    (a27 : PySem.W.nsIn K mainGlobals "_law_decoder" = some (some (.ref f27))) (l27 : K.lookup f27 = some ⟨oc27, od27, .func (PySem.W.fnOf "_law_decoder" "_law_decoder" (defArgs s_law_decoder) (defBody s_law_decoder) (defScope s_law_decoder) .none kV27 dc27 pm27 an27 cd27 ct27), sl27⟩) (c27 : PySem.W.codeIn K cd27 "_law_decoder" = true) (k27 : PySem.W.keepIn K (.ref f27) = true)
    (a28 : PySem.W.nsIn K mainGlobals "_law_known" = some (some (.ref f28))) (l28 : K.lookup f28 = some ⟨oc28, od28, .func (PySem.W.fnOf "_law_known" "_law_known" (defArgs s_law_known) (defBody s_law_known) (defScope s_law_known) .none kV28 dc28 pm28 an28 cd28 ct28), sl28⟩) (c28 : PySem.W.codeIn K cd28 "_law_known" = true) (k28 : PySem.W.keepIn K (.ref f28) = true)
    (a29 : PySem.W.nsIn K mainGlobals "_law_length_at" = some (some (.ref f29))) (l29 : K.lookup f29 = some ⟨oc29, od29, .func (PySem.W.fnOf "_law_length_at" "_law_length_at" (defArgs sLLenAt) (defBody sLLenAt) (defScope sLLenAt) .none kV29 dc29 pm29 an29 cd29 ct29), sl29⟩) (c29 : PySem.W.codeIn K cd29 "_law_length_at" = true) (k29 : PySem.W.keepIn K (.ref f29) = true)
    (a30 : PySem.W.nsIn K mainGlobals "are_instructions" = some (some (.ref f30))) (l30 : K.lookup f30 = some ⟨oc30, od30, .func (PySem.W.fnOf "are_instructions" "are_instructions" (defArgs sAreInstr) (defBody sAreInstr) (defScope sAreInstr) .none kV30 dc30 pm30 an30 cd30 ct30), sl30⟩) (c30 : PySem.W.codeIn K cd30 "are_instructions" = true) (k30 : PySem.W.keepIn K (.ref f30) = true)
    (a31 : PySem.W.nsIn K mainGlobals "is_instruction" = some (some (.ref f31))) (l31 : K.lookup f31 = some ⟨oc31, od31, .func (PySem.W.fnOf "is_instruction" "is_instruction" (defArgs sIsInstr) (defBody sIsInstr) (defScope sIsInstr) .none kV31 dc31 pm31 an31 cd31 ct31), sl31⟩) (c31 : PySem.W.codeIn K cd31 "is_instruction" = true) (k31 : PySem.W.keepIn K (.ref f31) = true)
    (a32 : PySem.W.nsIn K mainGlobals "is_name" = some (some (.ref f32))) (l32 : K.lookup f32 = some ⟨oc32, od32, .func (PySem.W.fnOf "is_name" "is_name" (defArgs sIsName) (defBody sIsName) (defScope sIsName) .none kV32 dc32 pm32 an32 cd32 ct32), sl32⟩) (c32 : PySem.W.codeIn K cd32 "is_name" = true) (k32 : PySem.W.keepIn K (.ref f32) = true)
    (a33 : PySem.W.nsIn K mainGlobals "_law_plan" = some (some (.ref f33))) (l33 : K.lookup f33 = some ⟨oc33, od33, .func (PySem.W.fnOf "_law_plan" "_law_plan" (defArgs s_law_plan) (defBody s_law_plan) (defScope s_law_plan) .none kV33 dc33 pm33 an33 cd33 ct33), sl33⟩) (c33 : PySem.W.codeIn K cd33 "_law_plan" = true) (k33 : PySem.W.keepIn K (.ref f33) = true)
    (a34 : PySem.W.nsIn K mainGlobals "_law_open" = some (some (.ref f34))) (l34 : K.lookup f34 = some ⟨oc34, od34, .func (PySem.W.fnOf "_law_open" "_law_open" (defArgs s_law_open) (defBody s_law_open) (defScope s_law_open) .none kV34 dc34 pm34 an34 cd34 ct34), sl34⟩) (c34 : PySem.W.codeIn K cd34 "_law_open" = true) (k34 : PySem.W.keepIn K (.ref f34) = true)
    (a35 : PySem.W.nsIn K mainGlobals "_law_steps" = some (some (.ref f35))) (l35 : K.lookup f35 = some ⟨oc35, od35, .func (PySem.W.fnOf "_law_steps" "_law_steps" (defArgs s_law_steps) (defBody s_law_steps) (defScope s_law_steps) .none kV35 dc35 pm35 an35 cd35 ct35), sl35⟩) (c35 : PySem.W.codeIn K cd35 "_law_steps" = true) (k35 : PySem.W.keepIn K (.ref f35) = true)
    (a36 : PySem.W.nsIn K mainGlobals "_law_gates" = some (some (.ref f36))) (l36 : K.lookup f36 = some ⟨oc36, od36, .func (PySem.W.fnOf "_law_gates" "_law_gates" (defArgs s_law_gates) (defBody s_law_gates) (defScope s_law_gates) .none kV36 dc36 pm36 an36 cd36 ct36), sl36⟩) (c36 : PySem.W.codeIn K cd36 "_law_gates" = true) (k36 : PySem.W.keepIn K (.ref f36) = true)
    (a37 : PySem.W.nsIn K mainGlobals "_law_bytes" = some (some (.ref f37))) (l37 : K.lookup f37 = some ⟨oc37, od37, .func (PySem.W.fnOf "_law_bytes" "_law_bytes" (defArgs sBytes) (defBody sBytes) (defScope sBytes) .none kV37 dc37 pm37 an37 cd37 ct37), sl37⟩) (c37 : PySem.W.codeIn K cd37 "_law_bytes" = true) (k37 : PySem.W.keepIn K (.ref f37) = true)
    (a38 : PySem.W.nsIn K mainGlobals "_law_table" = some (some (.ref f38))) (l38 : K.lookup f38 = some ⟨oc38, od38, .func (PySem.W.fnOf "_law_table" "_law_table" (defArgs sTable) (defBody sTable) (defScope sTable) .none kV38 dc38 pm38 an38 cd38 ct38), sl38⟩) (c38 : PySem.W.codeIn K cd38 "_law_table" = true) (k38 : PySem.W.keepIn K (.ref f38) = true)
    (a39 : PySem.W.nsIn K mainGlobals "_law_of" = some (some (.ref f39))) (l39 : K.lookup f39 = some ⟨oc39, od39, .func (PySem.W.fnOf "_law_of" "_law_of" (defArgs sOf) (defBody sOf) (defScope sOf) .none kV39 dc39 pm39 an39 cd39 ct39), sl39⟩) (c39 : PySem.W.codeIn K cd39 "_law_of" = true) (k39 : PySem.W.keepIn K (.ref f39) = true)
    (a40 : PySem.W.nsIn K mainGlobals "_law_read" = some (some (.ref f40))) (l40 : K.lookup f40 = some ⟨oc40, od40, .func (PySem.W.fnOf "_law_read" "_law_read" (defArgs s_law_read) (defBody s_law_read) (defScope s_law_read) .none kV40 dc40 pm40 an40 cd40 ct40), sl40⟩) (c40 : PySem.W.codeIn K cd40 "_law_read" = true) (k40 : PySem.W.keepIn K (.ref f40) = true)
    {C0 m0_0 m0_1 m0_2 : Addr} {mod0_0 man0_0 mod0_1 man0_1 mod0_2 man0_2 : Option Addr} {msl0_0 msl0_1 msl0_2 : Array (Option Value)} {moc0_0 mkV0_0 mdc0_0 mpm0_0 mcd0_0 mct0_0 moc0_1 mkV0_1 mdc0_1 mpm0_1 mcd0_1 mct0_1 moc0_2 mkV0_2 mdc0_2 mpm0_2 mcd0_2 mct0_2 : Value}
    (clA0 : PySem.W.nsIn K mainGlobals "InstructionSet" = some (some (.ref C0)))
    (ma0_0 : PySem.W.findIn K (.ref C0) "__init__" = some (some (.ref m0_0))) (mi0_0 : PySem.W.isFn K (.ref m0_0) = true) (ml0_0 : K.lookup m0_0 = some ⟨moc0_0, mod0_0, .func (PySem.W.fnOf "__init__" "InstructionSet.__init__" (defArgs sInitI) (defBody sInitI) (defScope sInitI) .none mkV0_0 mdc0_0 mpm0_0 man0_0 mcd0_0 mct0_0), msl0_0⟩) (mc0_0 : PySem.W.codeIn K mcd0_0 "InstructionSet.__init__" = true) (mk0_0 : PySem.W.keepIn K (.ref m0_0) = true)
    (ma0_1 : PySem.W.findIn K (.ref C0) "opcode" = some (some (.ref m0_1))) (mi0_1 : PySem.W.isFn K (.ref m0_1) = true) (ml0_1 : K.lookup m0_1 = some ⟨moc0_1, mod0_1, .func (PySem.W.fnOf "opcode" "InstructionSet.opcode" (defArgs sOpc) (defBody sOpc) (defScope sOpc) .none mkV0_1 mdc0_1 mpm0_1 man0_1 mcd0_1 mct0_1), msl0_1⟩) (mc0_1 : PySem.W.codeIn K mcd0_1 "InstructionSet.opcode" = true) (mk0_1 : PySem.W.keepIn K (.ref m0_1) = true)
    (ma0_2 : PySem.W.findIn K (.ref C0) "padding_lengths" = some (some (.ref m0_2))) (mi0_2 : PySem.W.isFn K (.ref m0_2) = true) (ml0_2 : K.lookup m0_2 = some ⟨moc0_2, mod0_2, .func (PySem.W.fnOf "padding_lengths" "InstructionSet.padding_lengths" (defArgs sPadLens) (defBody sPadLens) (defScope sPadLens) .none mkV0_2 mdc0_2 mpm0_2 man0_2 mcd0_2 mct0_2), msl0_2⟩) (mc0_2 : PySem.W.codeIn K mcd0_2 "InstructionSet.padding_lengths" = true) (mk0_2 : PySem.W.keepIn K (.ref m0_2) = true)
    (pg0 : PySem.W.plainGet K C0 Str.empty = true) (hd0 : PySem.W.hasDictIn K C0 = true) (po0 : PySem.W.plainOver K C0 = true) (sa0 : PySem.W.findIn K (.ref C0) "__setattr__" = some (some (.builtin "object.__setattr__"))) (mks0 : PySem.W.makesIn K C0 = true) (kc0 : PySem.W.keepIn K (.ref C0) = true)
    (na0_0 : PySem.W.findIn K (.ref C0) "byte_count" = some none)
    (na0_1 : PySem.W.findIn K (.ref C0) "instructions" = some none)
    (na0_2 : PySem.W.findIn K (.ref C0) "length_of_opcode" = some none)
    (na0_3 : PySem.W.findIn K (.ref C0) "opcode_of_name" = some none)
    {C1 m1_0 m1_1 m1_2 : Addr} {mod1_0 man1_0 mod1_1 man1_1 mod1_2 man1_2 : Option Addr} {msl1_0 msl1_1 msl1_2 : Array (Option Value)} {moc1_0 mkV1_0 mdc1_0 mpm1_0 mcd1_0 mct1_0 moc1_1 mkV1_1 mdc1_1 mpm1_1 mcd1_1 mct1_1 moc1_2 mkV1_2 mdc1_2 mpm1_2 mcd1_2 mct1_2 : Value}
    (clA1 : PySem.W.nsIn K mainGlobals "StateMachine" = some (some (.ref C1)))
    (ma1_0 : PySem.W.findIn K (.ref C1) "__init__" = some (some (.ref m1_0))) (mi1_0 : PySem.W.isFn K (.ref m1_0) = true) (ml1_0 : K.lookup m1_0 = some ⟨moc1_0, mod1_0, .func (PySem.W.fnOf "__init__" "StateMachine.__init__" (defArgs sStateMachine_init) (defBody sStateMachine_init) (defScope sStateMachine_init) .none mkV1_0 mdc1_0 mpm1_0 man1_0 mcd1_0 mct1_0), msl1_0⟩) (mc1_0 : PySem.W.codeIn K mcd1_0 "StateMachine.__init__" = true) (mk1_0 : PySem.W.keepIn K (.ref m1_0) = true)
    (ma1_1 : PySem.W.findIn K (.ref C1) "state_behind" = some (some (.ref m1_1))) (mi1_1 : PySem.W.isFn K (.ref m1_1) = true) (ml1_1 : K.lookup m1_1 = some ⟨moc1_1, mod1_1, .func (PySem.W.fnOf "state_behind" "StateMachine.state_behind" (defArgs sStateMachine_state_behind) (defBody sStateMachine_state_behind) (defScope sStateMachine_state_behind) .none mkV1_1 mdc1_1 mpm1_1 man1_1 mcd1_1 mct1_1), msl1_1⟩) (mc1_1 : PySem.W.codeIn K mcd1_1 "StateMachine.state_behind" = true) (mk1_1 : PySem.W.keepIn K (.ref m1_1) = true)
    (ma1_2 : PySem.W.findIn K (.ref C1) "first_state" = some (some (.ref m1_2))) (mi1_2 : PySem.W.isFn K (.ref m1_2) = true) (ml1_2 : K.lookup m1_2 = some ⟨moc1_2, mod1_2, .func (PySem.W.fnOf "first_state" "StateMachine.first_state" (defArgs sStateMachine_first_state) (defBody sStateMachine_first_state) (defScope sStateMachine_first_state) .none mkV1_2 mdc1_2 mpm1_2 man1_2 mcd1_2 mct1_2), msl1_2⟩) (mc1_2 : PySem.W.codeIn K mcd1_2 "StateMachine.first_state" = true) (mk1_2 : PySem.W.keepIn K (.ref m1_2) = true)
    (pg1 : PySem.W.plainGet K C1 Str.empty = true) (hd1 : PySem.W.hasDictIn K C1 = true) (po1 : PySem.W.plainOver K C1 = true) (sa1 : PySem.W.findIn K (.ref C1) "__setattr__" = some (some (.builtin "object.__setattr__"))) (mks1 : PySem.W.makesIn K C1 = true) (kc1 : PySem.W.keepIn K (.ref C1) = true)
    (na1_0 : PySem.W.findIn K (.ref C1) "entries" = some none)
    (na1_1 : PySem.W.findIn K (.ref C1) "padding" = some none)
    (na1_2 : PySem.W.findIn K (.ref C1) "tasks" = some none)
    (na1_3 : PySem.W.findIn K (.ref C1) "ends" = some none)
    (na1_4 : PySem.W.findIn K (.ref C1) "every_byte" = some none)
    (cst0 : PySem.W.nsIn K mainGlobals "MOST_STATES" = some (some (.int 5000 tk0)))
    (cst1 : PySem.W.nsIn K mainGlobals "MOST_PROGRAMS" = some (some (.int 3 tk1)))
    (cst2 : PySem.W.nsIn K mainGlobals "MOST_STEPS" = some (some (.int 12 tk2)))
    (cst3 : PySem.W.nsIn K mainGlobals "GREATEST_ENTRY" = some (some (.int 12 tk3)))
    (cst4 : PySem.W.nsIn K mainGlobals "LEAST_BYTE_COUNT" = some (some (.int 2 tk4)))
    (cst5 : PySem.W.nsIn K mainGlobals "MOST_BYTE_COUNT" = some (some (.int 256 tk5)))
    (cst6 : PySem.W.nsIn K mainGlobals "MOST_LETTERS" = some (some (.int 8 tk6)))
    (cst7 : PySem.W.nsIn K mainGlobals "MOST_LENGTH" = some (some (.int 12 tk7)))
    (bz0 : PySem.W.nsIn K mainGlobals "isinstance" = some none)
    (bz1 : PySem.W.nsIn K mainGlobals "int" = some none)
    (bz2 : PySem.W.nsIn K mainGlobals "bool" = some none)
    (bz3 : PySem.W.nsIn K mainGlobals "tuple" = some none)
    (bz4 : PySem.W.nsIn K mainGlobals "list" = some none)
    (bz5 : PySem.W.nsIn K mainGlobals "all" = some none)
    (bz6 : PySem.W.nsIn K mainGlobals "any" = some none)
    (bz7 : PySem.W.nsIn K mainGlobals "zip" = some none)
    (bz8 : PySem.W.nsIn K mainGlobals "len" = some none)
    (bz9 : PySem.W.nsIn K mainGlobals "range" = some none)
    (bz10 : PySem.W.nsIn K mainGlobals "abs" = some none)
    (bz11 : PySem.W.nsIn K mainGlobals "sorted" = some none)
    (bz12 : PySem.W.nsIn K mainGlobals "min" = some none)
    (bz13 : PySem.W.nsIn K mainGlobals "repr" = some none)
    (bz14 : PySem.W.nsIn K mainGlobals "max" = some none)
    (bz15 : PySem.W.nsIn K mainGlobals "sum" = some none)
    (bz16 : PySem.W.nsIn K mainGlobals "enumerate" = some none)
    (bz17 : PySem.W.nsIn K mainGlobals "str" = some none)
    (bz18 : PySem.W.nsIn K mainGlobals "set" = some none)
    (bz19 : PySem.W.nsIn K mainGlobals "dict" = some none)
    (bz20 : PySem.W.nsIn K mainGlobals "ValueError" = some none)
    : ∃ fd : FuncData, (∀ (s : Shared) (v : Value), BindsTo s fd ⟨[v], []⟩ [("_law_script", v)]) ∧ ∀ base : Heap, K.In base → base.Ns mainGlobals mg → FnG P w K mg base 12 fa fd ["_law_script"] (spLaw K) := by
  have e := hfa.symm.trans (PySem.W.mg_of X G a0)
  cases e
  have T : Bi mg := ⟨PySem.W.mg_none_of X G bz0, PySem.W.mg_none_of X G bz1, PySem.W.mg_none_of X G bz2, PySem.W.mg_none_of X G bz3, PySem.W.mg_none_of X G bz4, PySem.W.mg_none_of X G bz5, PySem.W.mg_none_of X G bz6, PySem.W.mg_none_of X G bz7, PySem.W.mg_none_of X G bz8, PySem.W.mg_none_of X G bz9, PySem.W.mg_none_of X G bz10, PySem.W.mg_none_of X G bz11, PySem.W.mg_none_of X G bz12, PySem.W.mg_none_of X G bz13, PySem.W.mg_none_of X G bz14, PySem.W.mg_none_of X G bz15, PySem.W.mg_none_of X G bz16, PySem.W.mg_none_of X G bz17, PySem.W.mg_none_of X G bz18, PySem.W.mg_none_of X G bz19, PySem.W.mg_none_of X G bz20⟩
  have FLaw := fun_mk (st := sLaw) l0 c0 k0
  have FLAlongRight := fun_mk (st := s_law_along_right) l1 c1 k1
  have DLAlongRight : Def K mg "_law_along_right" s_law_along_right f1 _ ["_law_box_here", "_law_table_here", "_law_plans", "_law_gates_here"] := ⟨FLAlongRight, PySem.W.mg_of X G a1, FLAlongRight.binds (ps := ["_law_box_here", "_law_table_here", "_law_plans", "_law_gates_here"]) fun _ _ _ _ _ _ us hl => match us, hl with | [_, _, _, _], _ => rfl⟩
  have FLSmall := fun_mk (st := sSmall) l2 c2 k2
  have DLSmall : Def K mg "_law_small" sSmall f2 _ ["_law_box_here"] := ⟨FLSmall, PySem.W.mg_of X G a2, FLSmall.binds (ps := ["_law_box_here"]) fun _ _ _ _ _ _ us hl => match us, hl with | [_], _ => rfl⟩
  have FBo := fun_mk (st := sBox) l3 c3 k3
  have DBo : Def K mg "_law_box" sBox f3 _ ["_law_script", "_law_k"] := ⟨FBo, PySem.W.mg_of X G a3, FBo.binds (ps := ["_law_script", "_law_k"]) fun _ _ _ _ _ _ us hl => match us, hl with | [_, _], _ => rfl⟩
  have FTk := fun_mk (st := sTake) l4 c4 k4
  have DTk : Def K mg "_law_take" sTake f4 _ ["_law_box_here", "_law_many"] := ⟨FTk, PySem.W.mg_of X G a4, FTk.binds (ps := ["_law_box_here", "_law_many"]) fun _ _ _ _ _ _ us hl => match us, hl with | [_, _], _ => rfl⟩
  have FNextState := fun_mk (st := s_next_state) l5 c5 k5
  have DNextState : Def K mg "next_state" s_next_state f5 _ ["instruction_set", "programs", "entries", "state", "byte"] := ⟨FNextState, PySem.W.mg_of X G a5, FNextState.binds (ps := ["instruction_set", "programs", "entries", "state", "byte"]) fun _ _ _ _ _ _ us hl => match us, hl with | [_, _, _, _, _], _ => rfl⟩
  have FLState := fun_mk (st := s_law_state) l6 c6 k6
  have DLState : Def K mg "_law_state" s_law_state f6 _ ["_law_table_here", "_law_plans", "_law_gates_here", "_law_row"] := ⟨FLState, PySem.W.mg_of X G a6, FLState.binds (ps := ["_law_table_here", "_law_plans", "_law_gates_here", "_law_row"]) fun _ _ _ _ _ _ us hl => match us, hl with | [_, _, _, _], _ => rfl⟩
  have FStartState := fun_mk (st := s_start_state) l7 c7 k7
  have DStartState : Def K mg "start_state" s_start_state f7 _ ["instruction_set", "programs", "entries"] := ⟨FStartState, PySem.W.mg_of X G a7, FStartState.binds (ps := ["instruction_set", "programs", "entries"]) fun _ _ _ _ _ _ us hl => match us, hl with | [_, _, _], _ => rfl⟩
  have FCkO := fun_mk (st := s_check_overlay) l8 c8 k8
  have DCkO : Def K mg "check_overlay" s_check_overlay f8 _ ["instruction_set", "programs", "entries"] := ⟨FCkO, PySem.W.mg_of X G a8, FCkO.binds (ps := ["instruction_set", "programs", "entries"]) fun _ _ _ _ _ _ us hl => match us, hl with | [_, _, _], _ => rfl⟩
  have FOpcodeSteps := fun_mk (st := s_opcode_steps) l9 c9 k9
  have DOpcodeSteps : Def K mg "opcode_steps" s_opcode_steps f9 _ ["instruction_set", "program"] := ⟨FOpcodeSteps, PySem.W.mg_of X G a9, FOpcodeSteps.binds (ps := ["instruction_set", "program"]) fun _ _ _ _ _ _ us hl => match us, hl with | [_, _], _ => rfl⟩
  have FPaddingByOpcode := fun_mk (st := s_padding_by_opcode) l10 c10 k10
  have DPaddingByOpcode : Def K mg "padding_by_opcode" s_padding_by_opcode f10 _ ["instruction_set"] := ⟨FPaddingByOpcode, PySem.W.mg_of X G a10, FPaddingByOpcode.binds (ps := ["instruction_set"]) fun _ _ _ _ _ _ us hl => match us, hl with | [_], _ => rfl⟩
  have FStateCount := fun_mk (st := s_state_count) l11 c11 k11
  have DStateCount : Def K mg "state_count" s_state_count f11 _ ["instruction_set", "programs", "entries"] := ⟨FStateCount, PySem.W.mg_of X G a11, FStateCount.binds (ps := ["instruction_set", "programs", "entries"]) fun _ _ _ _ _ _ us hl => match us, hl with | [_, _, _], _ => rfl⟩
  have FCheckPrograms := fun_mk (st := s_check_programs) l12 c12 k12
  have DCheckPrograms : Def K mg "check_programs" s_check_programs f12 _ ["instruction_set", "programs"] := ⟨FCheckPrograms, PySem.W.mg_of X G a12, FCheckPrograms.binds (ps := ["instruction_set", "programs"]) fun _ _ _ _ _ _ us hl => match us, hl with | [_, _], _ => rfl⟩
  have FCheckEntries := fun_mk (st := s_check_entries) l13 c13 k13
  have DCheckEntries : Def K mg "check_entries" s_check_entries f13 _ ["programs", "entries"] := ⟨FCheckEntries, PySem.W.mg_of X G a13, FCheckEntries.binds (ps := ["programs", "entries"]) fun _ _ _ _ _ _ us hl => match us, hl with | [_, _], _ => rfl⟩
  have FDecoderCount := fun_mk (st := s_decoder_count) l14 c14 k14
  have DDecoderCount : Def K mg "decoder_count" s_decoder_count f14 _ ["instruction_set", "program"] := ⟨FDecoderCount, PySem.W.mg_of X G a14, FDecoderCount.binds (ps := ["instruction_set", "program"]) fun _ _ _ _ _ _ us hl => match us, hl with | [_, _], _ => rfl⟩
  have FCheckProgram := fun_mk (st := s_check_program) l15 c15 k15
  have DCheckProgram : Def K mg "check_program" s_check_program f15 _ ["instruction_set", "program"] := ⟨FCheckProgram, PySem.W.mg_of X G a15, FCheckProgram.binds (ps := ["instruction_set", "program"]) fun _ _ _ _ _ _ us hl => match us, hl with | [_, _], _ => rfl⟩
  have FIsProgram := fun_mk (st := s_is_program) l16 c16 k16
  have DIsProgram : Def K mg "is_program" s_is_program f16 _ ["instruction_set", "value"] := ⟨FIsProgram, PySem.W.mg_of X G a16, FIsProgram.binds (ps := ["instruction_set", "value"]) fun _ _ _ _ _ _ us hl => match us, hl with | [_, _], _ => rfl⟩
  have FStepLengths := fun_mk (st := s_step_lengths) l17 c17 k17
  have DStepLengths : Def K mg "step_lengths" s_step_lengths f17 _ ["instruction_set"] := ⟨FStepLengths, PySem.W.mg_of X G a17, FStepLengths.binds (ps := ["instruction_set"]) fun _ _ _ _ _ _ us hl => match us, hl with | [_], _ => rfl⟩
  have FIsStep := fun_mk (st := s_is_step) l18 c18 k18
  have DIsStep : Def K mg "is_step" s_is_step f18 _ ["instruction_set", "lengths", "value"] := ⟨FIsStep, PySem.W.mg_of X G a18, FIsStep.binds (ps := ["instruction_set", "lengths", "value"]) fun _ _ _ _ _ _ us hl => match us, hl with | [_, _, _], _ => rfl⟩
  have FBt := fun_mk (st := sBetween) l19 c19 k19
  have DBt : Def K mg "is_integer_between" sBetween f19 _ ["value", "least", "most"] := ⟨FBt, PySem.W.mg_of X G a19, FBt.binds (ps := ["value", "least", "most"]) fun _ _ _ _ _ _ us hl => match us, hl with | [_, _, _], _ => rfl⟩
  have FIsInteger := fun_mk (st := sIsInt) l20 c20 k20
  have DIsInteger : Def K mg "is_integer" sIsInt f20 _ ["value"] := ⟨FIsInteger, PySem.W.mg_of X G a20, FIsInteger.binds (ps := ["value"]) fun _ _ _ _ _ _ us hl => match us, hl with | [_], _ => rfl⟩
  have FAreEntries := fun_mk (st := s_are_entries) l21 c21 k21
  have DAreEntries : Def K mg "are_entries" s_are_entries f21 _ ["value"] := ⟨FAreEntries, PySem.W.mg_of X G a21, FAreEntries.binds (ps := ["value"]) fun _ _ _ _ _ _ us hl => match us, hl with | [_], _ => rfl⟩
  have FAs := fun_mk (st := sAscending) l22 c22 k22
  have DAs : Def K mg "is_ascending" sAscending f22 _ ["numbers"] := ⟨FAs, PySem.W.mg_of X G a22, FAs.binds (ps := ["numbers"]) fun _ _ _ _ _ _ us hl => match us, hl with | [_], _ => rfl⟩
  have FLongestRest := fun_mk (st := s_longest_rest) l23 c23 k23
  have DLongestRest : Def K mg "longest_rest" s_longest_rest f23 _ ["instruction_set"] := ⟨FLongestRest, PySem.W.mg_of X G a23, FLongestRest.binds (ps := ["instruction_set"]) fun _ _ _ _ _ _ us hl => match us, hl with | [_], _ => rfl⟩
  have FDecoderBehind := fun_mk (st := s_decoder_behind) l24 c24 k24
  have DDecoderBehind : Def K mg "decoder_behind" s_decoder_behind f24 _ ["padding", "steps", "decoder", "byte"] := ⟨FDecoderBehind, PySem.W.mg_of X G a24, FDecoderBehind.binds (ps := ["padding", "steps", "decoder", "byte"]) fun _ _ _ _ _ _ us hl => match us, hl with | [_, _, _, _], _ => rfl⟩
  have FStepDecoder := fun_mk (st := s_step_decoder) l25 c25 k25
  have DStepDecoder : Def K mg "step_decoder" s_step_decoder f25 _ ["done", "left"] := ⟨FStepDecoder, PySem.W.mg_of X G a25, FStepDecoder.binds (ps := ["done", "left"]) fun _ _ _ _ _ _ us hl => match us, hl with | [_, _], _ => rfl⟩
  have FPaddingDecoder := fun_mk (st := s_padding_decoder) l26 c26 k26
  have DPaddingDecoder : Def K mg "padding_decoder" s_padding_decoder f26 _ ["done", "left"] := ⟨FPaddingDecoder, PySem.W.mg_of X G a26, FPaddingDecoder.binds (ps := ["done", "left"]) fun _ _ _ _ _ _ us hl => match us, hl with | [_, _], _ => rfl⟩
  have FLDecoder := fun_mk (st := s_law_decoder) l27 c27 k27
  have DLDecoder : Def K mg "_law_decoder" s_law_decoder f27 _ ["_law_table_here", "_law_plan_here", "_law_row", "_law_begin"] := ⟨FLDecoder, PySem.W.mg_of X G a27, FLDecoder.binds (ps := ["_law_table_here", "_law_plan_here", "_law_row", "_law_begin"]) fun _ _ _ _ _ _ us hl => match us, hl with | [_, _, _, _], _ => rfl⟩
  have FLKnown := fun_mk (st := s_law_known) l28 c28 k28
  have DLKnown : Def K mg "_law_known" s_law_known f28 _ ["_law_table_here", "_law_opcode"] := ⟨FLKnown, PySem.W.mg_of X G a28, FLKnown.binds (ps := ["_law_table_here", "_law_opcode"]) fun _ _ _ _ _ _ us hl => match us, hl with | [_, _], _ => rfl⟩
  have FLLengthAt := fun_mk (st := sLLenAt) l29 c29 k29
  have DLLengthAt : Def K mg "_law_length_at" sLLenAt f29 _ ["_law_table_here", "_law_byte"] := ⟨FLLengthAt, PySem.W.mg_of X G a29, FLLengthAt.binds (ps := ["_law_table_here", "_law_byte"]) fun _ _ _ _ _ _ us hl => match us, hl with | [_, _], _ => rfl⟩
  have FAreInstructions := fun_mk (st := sAreInstr) l30 c30 k30
  have DAreInstructions : Def K mg "are_instructions" sAreInstr f30 _ ["byte_count", "value"] := ⟨FAreInstructions, PySem.W.mg_of X G a30, FAreInstructions.binds (ps := ["byte_count", "value"]) fun _ _ _ _ _ _ us hl => match us, hl with | [_, _], _ => rfl⟩
  have FIsInstruction := fun_mk (st := sIsInstr) l31 c31 k31
  have DIsInstruction : Def K mg "is_instruction" sIsInstr f31 _ ["byte_count", "value"] := ⟨FIsInstruction, PySem.W.mg_of X G a31, FIsInstruction.binds (ps := ["byte_count", "value"]) fun _ _ _ _ _ _ us hl => match us, hl with | [_, _], _ => rfl⟩
  have FIsName := fun_mk (st := sIsName) l32 c32 k32
  have DIsName : Def K mg "is_name" sIsName f32 _ ["value"] := ⟨FIsName, PySem.W.mg_of X G a32, FIsName.binds (ps := ["value"]) fun _ _ _ _ _ _ us hl => match us, hl with | [_], _ => rfl⟩
  have FLPn := fun_mk (st := s_law_plan) l33 c33 k33
  have DLPn : Def K mg "_law_plan" s_law_plan f33 _ ["_law_box_here", "_law_table_here", "_law_most"] := ⟨FLPn, PySem.W.mg_of X G a33, FLPn.binds (ps := ["_law_box_here", "_law_table_here", "_law_most"]) fun _ _ _ _ _ _ us hl => match us, hl with | [_, _, _], _ => rfl⟩
  have FLOp := fun_mk (st := s_law_open) l34 c34 k34
  have DLOp : Def K mg "_law_open" s_law_open f34 _ ["_law_box_here", "_law_found"] := ⟨FLOp, PySem.W.mg_of X G a34, FLOp.binds (ps := ["_law_box_here", "_law_found"]) fun _ _ _ _ _ _ us hl => match us, hl with | [_, _], _ => rfl⟩
  have FLSp := fun_mk (st := s_law_steps) l35 c35 k35
  have DLSp : Def K mg "_law_steps" s_law_steps f35 _ ["_law_table_here", "_law_row", "_law_begin"] := ⟨FLSp, PySem.W.mg_of X G a35, FLSp.binds (ps := ["_law_table_here", "_law_row", "_law_begin"]) fun _ _ _ _ _ _ us hl => match us, hl with | [_, _, _], _ => rfl⟩
  have FLGates := fun_mk (st := s_law_gates) l36 c36 k36
  have DLGates : Def K mg "_law_gates" s_law_gates f36 _ ["_law_box_here", "_law_many", "_law_most"] := ⟨FLGates, PySem.W.mg_of X G a36, FLGates.binds (ps := ["_law_box_here", "_law_many", "_law_most"]) fun _ _ _ _ _ _ us hl => match us, hl with | [_, _, _], _ => rfl⟩
  have FBy := fun_mk (st := sBytes) l37 c37 k37
  have DBy : Def K mg "_law_bytes" sBytes f37 _ ["_law_box_here", "_law_table_here", "_law_many"] := ⟨FBy, PySem.W.mg_of X G a37, FBy.binds (ps := ["_law_box_here", "_law_table_here", "_law_many"]) fun _ _ _ _ _ _ us hl => match us, hl with | [_, _, _], _ => rfl⟩
  have FTb := fun_mk (st := sTable) l38 c38 k38
  have DTb : Def K mg "_law_table" sTable f38 _ ["_law_box_here", "_law_most_bytes", "_law_longest"] := ⟨FTb, PySem.W.mg_of X G a38, FTb.binds (ps := ["_law_box_here", "_law_most_bytes", "_law_longest"]) fun _ _ _ _ _ _ us hl => match us, hl with | [_, _, _], _ => rfl⟩
  have FOf := fun_mk (st := sOf) l39 c39 k39
  have DOf : Def K mg "_law_of" sOf f39 _ ["_law_box_here", "_law_some"] := ⟨FOf, PySem.W.mg_of X G a39, FOf.binds (ps := ["_law_box_here", "_law_some"]) fun _ _ _ _ _ _ us hl => match us, hl with | [_, _], _ => rfl⟩
  have FLRead := fun_mk (st := s_law_read) l40 c40 k40
  have DLRead : Def K mg "_law_read" s_law_read f40 _ ["_law_table_here", "_law_row", "_law_begin"] := ⟨FLRead, PySem.W.mg_of X G a40, FLRead.binds (ps := ["_law_table_here", "_law_row", "_law_begin"]) fun _ _ _ _ _ _ us hl => match us, hl with | [_, _, _], _ => rfl⟩
  have FIi := fun_mk (st := sInitI) ml0_0 mc0_0 mk0_0
  have bIi := FIi.binds (ps := ["self", "byte_count", "instructions"]) fun _ _ _ _ _ _ us hl => match us, hl with | [_, _, _], _ => rfl
  have FOp := fun_mk (st := sOpc) ml0_1 mc0_1 mk0_1
  have bOp := FOp.binds (ps := ["self", "name"]) fun _ _ _ _ _ _ us hl => match us, hl with | [_, _], _ => rfl
  have FPl := fun_mk (st := sPadLens) ml0_2 mc0_2 mk0_2
  have bPl := FPl.binds (ps := ["self"]) fun _ _ _ _ _ _ us hl => match us, hl with | [_], _ => rfl
  have FStInit := fun_mk (st := sStateMachine_init) ml1_0 mc1_0 mk1_0
  have bStInit := FStInit.binds (ps := ["self", "instruction_set", "programs", "entries"]) fun _ _ _ _ _ _ us hl => match us, hl with | [_, _, _, _], _ => rfl
  have FStStateBehind := fun_mk (st := sStateMachine_state_behind) ml1_1 mc1_1 mk1_1
  have bStStateBehind := FStStateBehind.binds (ps := ["self", "state", "byte"]) fun _ _ _ _ _ _ us hl => match us, hl with | [_, _, _], _ => rfl
  have FStFirstState := fun_mk (st := sStateMachine_first_state) ml1_2 mc1_2 mk1_2
  have bStFirstState := FStFirstState.binds (ps := ["self"]) fun _ _ _ _ _ _ us hl => match us, hl with | [_], _ => rfl
  have CKMoststates : ∃ t, mg "MOST_STATES" = some (.int 5000 t) := ⟨_, PySem.W.mg_of X G cst0⟩
  have CKMostprograms : ∃ t, mg "MOST_PROGRAMS" = some (.int 3 t) := ⟨_, PySem.W.mg_of X G cst1⟩
  have CKMoststeps : ∃ t, mg "MOST_STEPS" = some (.int 12 t) := ⟨_, PySem.W.mg_of X G cst2⟩
  have CKGreatestentry : ∃ t, mg "GREATEST_ENTRY" = some (.int 12 t) := ⟨_, PySem.W.mg_of X G cst3⟩
  have CKLeastbytecount : ∃ t, mg "LEAST_BYTE_COUNT" = some (.int 2 t) := ⟨_, PySem.W.mg_of X G cst4⟩
  have CKMostbytecount : ∃ t, mg "MOST_BYTE_COUNT" = some (.int 256 t) := ⟨_, PySem.W.mg_of X G cst5⟩
  have CKMostletters : ∃ t, mg "MOST_LETTERS" = some (.int 8 t) := ⟨_, PySem.W.mg_of X G cst6⟩
  have CKMostlength : ∃ t, mg "MOST_LENGTH" = some (.int 12 t) := ⟨_, PySem.W.mg_of X G cst7⟩

  refine ⟨PySem.W.fnOf "law" "law" (defArgs sLaw) (defBody sLaw) (defScope sLaw) .none kV0 dc0 pm0 an0 cd0 ct0, fun s v => .of_eq rfl, fun base _ _ => ?_⟩
  have S : SetTxt K mg C0 := ⟨⟨pg0, hd0, po0, sa0⟩, na0_0, na0_1, na0_2, na0_3, PySem.W.mg_of X G clA0⟩
  have Sm : MacTxt K mg C1 := ⟨⟨pg1, hd1, po1, sa1⟩, na1_0, na1_1, na1_2, na1_3, na1_4, PySem.W.mg_of X G clA1⟩
  have Glawtake_spTake : FnOk P w K mg base CX0 1 _ _ ["_law_box_here", "_law_many"] (spTake) := ok_take FTk
  have GInstructionSetopcode_spOpcKC : FnOk P w K mg base CX0 1 _ _ ["self", "name"] (spOpc K C0) := ok_opc FOp T S
  have Gopcodesteps_spOpStepsKC : FnOk P w K mg base CX0 2 _ _ ["instruction_set", "program"] (spOpSteps K C0) := ok_opSteps FOpcodeSteps S ⟨ma0_1, mi0_1, mk0_1⟩ bOp (up GInstructionSetopcode_spOpcKC (by decide))
  have Gpaddingbyopcode_spPadByC : FnOk P w K mg base CX0 1 _ _ ["instruction_set"] (spPadBy C0) := ok_padBy FPaddingByOpcode S
  have GStateMachineinit_spInitMKCCm : FnOk P w K mg base CX0 3 _ _ ["self", "instruction_set", "programs", "entries"] (spInitM K C0 C1) := ok_initM FStInit T S Sm DOpcodeSteps (up Gopcodesteps_spOpStepsKC (by decide)) DPaddingByOpcode (up Gpaddingbyopcode_spPadByC (by decide))
  have Gsteplengths_spStepLC : FnOk P w K mg base CX0 4 _ _ ["instruction_set"] (spStepL C0) := ok_stepL FStepLengths S
  have Gisintegerbetween_spBetweenXK : FnOk P w K mg base CX0 2 _ _ ["value", "least", "most"] (spBetweenX K) := ok_betweenX FBt T DIsInteger
  have Gisstep_spStepKC : FnOk P w K mg base CX0 4 _ _ ["instruction_set", "lengths", "value"] (spStep K C0) := ok_step FIsStep T S DBt (up Gisintegerbetween_spBetweenXK (by decide))
  have Gisprogram_spProgKC : FnOk P w K mg base CX0 5 _ _ ["instruction_set", "value"] (spProg K C0) := ok_prog FIsProgram T CKMoststeps DStepLengths (up Gsteplengths_spStepLC (by decide)) DIsStep (up Gisstep_spStepKC (by decide))
  have Gcheckprogram_spCkPKC : FnOk P w K mg base CX0 6 _ _ ["instruction_set", "program"] (spCkP K C0) := ok_ckP FCheckProgram DIsProgram (up Gisprogram_spProgKC (by decide))
  have Gcheckprograms_spCkPsKC : FnOk P w K mg base CX0 7 _ _ ["instruction_set", "programs"] (spCkPs K C0) := ok_ckPs FCheckPrograms T CKMostprograms DCheckProgram (up Gcheckprogram_spCkPKC (by decide))
  have Gisintegerbetween_spBetween : FnOk P w K mg base CX0 2 _ _ ["value", "least", "most"] (spBetween) := ok_between FBt T DIsInteger
  have Gisascending_spAscendingK : FnOk P w K mg base CX0 1 _ _ ["numbers"] (spAscending K) := ok_ascending FAs T
  have Gareentries_spAreEK : FnOk P w K mg base CX0 3 _ _ ["value"] (spAreE K) := ok_areE FAreEntries T CKGreatestentry DBt (up Gisintegerbetween_spBetween (by decide)) DAs (up Gisascending_spAscendingK (by decide))
  have Gcheckentries_spCkEsK : FnOk P w K mg base CX0 4 _ _ ["programs", "entries"] (spCkEs K) := ok_ckEs FCheckEntries T DAreEntries (up Gareentries_spAreEK (by decide))
  have GInstructionSetpaddinglengths_spPadLensC : FnOk P w K mg base CX0 1 _ _ ["self"] (spPadLens C0) := ok_padLens FPl T S
  have Glongestrest_spLRestC : FnOk P w K mg base CX0 2 _ _ ["instruction_set"] (spLRest C0) := ok_lrest FLongestRest T S ⟨ma0_2, mi0_2, mk0_2⟩ bPl (up GInstructionSetpaddinglengths_spPadLensC (by decide))
  have Gdecodercount_spDcntKC : FnOk P w K mg base CX0 3 _ _ ["instruction_set", "program"] (spDcnt K C0) := ok_dcnt FDecoderCount T DLongestRest (up Glongestrest_spLRestC (by decide))
  have Gstatecount_spStcKC : FnOk P w K mg base CX0 8 _ _ ["instruction_set", "programs", "entries"] (spStc K C0) := ok_stc FStateCount T DCheckPrograms (up Gcheckprograms_spCkPsKC (by decide)) DCheckEntries (up Gcheckentries_spCkEsK (by decide)) DDecoderCount (up Gdecodercount_spDcntKC (by decide))
  have Gcheckoverlay_spCkOKC : FnOk P w K mg base CX0 9 _ _ ["instruction_set", "programs", "entries"] (spCkO K C0) := ok_ckO FCkO CKMoststates DStateCount (up Gstatecount_spStcKC (by decide))
  have Gstepdecoder_spStepDecK : FnOk P w K mg base CX0 1 _ _ ["done", "left"] (spStepDec K) := ok_stepDec FStepDecoder
  have Gpaddingdecoder_spPadDecK : FnOk P w K mg base CX0 1 _ _ ["done", "left"] (spPadDec K) := ok_padDec FPaddingDecoder
  have Gdecoderbehind_spDecBK : FnOk P w K mg base CX0 2 _ _ ["padding", "steps", "decoder", "byte"] (spDecB K) := ok_decB FDecoderBehind T DStepDecoder (up Gstepdecoder_spStepDecK (by decide)) DPaddingDecoder (up Gpaddingdecoder_spPadDecK (by decide))
  have GStateMachinestatebehind_spBehindMKCm : FnOk P w K mg base CX0 3 _ _ ["self", "state", "byte"] (spBehindM K C1) := ok_behindM FStStateBehind T Sm DDecoderBehind (up Gdecoderbehind_spDecBK (by decide))
  have Gnextstate_spNextKCCm : FnOk P w K mg base CX0 10 _ _ ["instruction_set", "programs", "entries", "state", "byte"] (spNext K C0 C1) := ok_nextst FNextState S Sm ⟨mks1, ma1_0, mi1_0, kc1⟩ bStInit (up GStateMachineinit_spInitMKCCm (by decide)) DCkO (up Gcheckoverlay_spCkOKC (by decide)) ⟨ma1_1, mi1_1, mk1_1⟩ bStStateBehind (up GStateMachinestatebehind_spBehindMKCm (by decide))
  have Glawknown_spKnownK : FnOk P w K mg base CX0 2 _ _ ["_law_table_here", "_law_opcode"] (spKnown K) := ok_known FLKnown
  have Glawlengthat_spLLenAt : FnOk P w K mg base CX0 1 _ _ ["_law_table_here", "_law_byte"] (spLLenAt) := ok_llenAt FLLengthAt
  have Glawdecoder_spLDecK : FnOk P w K mg base CX0 3 _ _ ["_law_table_here", "_law_plan_here", "_law_row", "_law_begin"] (spLDec K) := ok_ldec FLDecoder T DLKnown (up Glawknown_spKnownK (by decide)) DLLengthAt (up Glawlengthat_spLLenAt (by decide))
  have Glawstate_spLStateK : FnOk P w K mg base CX0 4 _ _ ["_law_table_here", "_law_plans", "_law_gates_here", "_law_row"] (spLState K) := ok_lstate FLState T DLDecoder (up Glawdecoder_spLDecK (by decide))
  have GStateMachinefirststate_spFirstKCm : FnOk P w K mg base CX0 1 _ _ ["self"] (spFirst K C1) := ok_firstM FStFirstState T Sm
  have Gstartstate_spStartKCCm : FnOk P w K mg base CX0 10 _ _ ["instruction_set", "programs", "entries"] (spStart K C0 C1) := ok_startst FStartState S Sm ⟨mks1, ma1_0, mi1_0, kc1⟩ bStInit (up GStateMachineinit_spInitMKCCm (by decide)) DCkO (up Gcheckoverlay_spCkOKC (by decide)) ⟨ma1_2, mi1_2, mk1_2⟩ bStFirstState (up GStateMachinefirststate_spFirstKCm (by decide))
  have Gisinstruction_spInstr : FnOk P w K mg base CX0 3 _ _ ["byte_count", "value"] (spInstr) := ok_instr FIsInstruction T DBt (up Gisintegerbetween_spBetween (by decide)) DIsName CKMostletters CKMostlength
  have Gareinstructions_spAreI : FnOk P w K mg base CX0 4 _ _ ["byte_count", "value"] (spAreI) := ok_areI FAreInstructions T DIsInstruction (up Gisinstruction_spInstr (by decide)) DAs (ok_ascL FAs T)
  have GInstructionSetinit_spInitIC : FnOk P w K mg base CX0 5 _ _ ["self", "byte_count", "instructions"] (spInitI C0) := ok_initI FIi T S DBt (up Gisintegerbetween_spBetween (by decide)) DAreInstructions (up Gareinstructions_spAreI (by decide)) CKLeastbytecount CKMostbytecount
  have KWStartState36 : KBinds K (PySem.W.fnOf "start_state" "start_state" (defArgs s_start_state) (defBody s_start_state) (defScope s_start_state) .none kV7 dc7 pm7 an7 cd7 ct7) ["instruction_set", "programs", "entries"] ["entries", "programs", "instruction_set"] rev3 rev3 := ⟨fun s us ws _ hl => by
      obtain ⟨x, y, z, rfl, rfl⟩ := rev3_len hl
      exact .of_eq rfl, rev3_rel⟩
  have Glawalongright_spAlongK : FnG P w K mg base 11 _ _ ["_law_box_here", "_law_table_here", "_law_plans", "_law_gates_here"] (spAlong K) := ok_along FLAlongRight T S Sm DTk (up Glawtake_spTake (by decide)) DNextState (up Gnextstate_spNextKCCm (by decide)) DLState (up Glawstate_spLStateK (by decide)) DStartState (up Gstartstate_spStartKCCm (by decide)) KWStartState36 ⟨mks0, ma0_0, mi0_0, kc0⟩ bIi (up GInstructionSetinit_spInitIC (by decide))
  have Glawof_spOf : FnOk P w K mg base CX0 2 _ _ ["_law_box_here", "_law_some"] (spOf) := ok_of FOf T DTk
  have Glawplan_spPlan : FnOk P w K mg base CX0 3 _ _ ["_law_box_here", "_law_table_here", "_law_most"] (spPlan) := ok_plan FLPn T DOf (up Glawof_spOf (by decide)) DTk (up Glawtake_spTake (by decide))
  have Glawopen_spOpenK : FnOk P w K mg base CX0 2 _ _ ["_law_box_here", "_law_found"] (spOpen K) := ok_open FLOp T DTk (up Glawtake_spTake (by decide))
  have Glawread_spReadK : FnOk P w K mg base CX0 2 _ _ ["_law_table_here", "_law_row", "_law_begin"] (spRead K) := ok_read FLRead T DLLengthAt (up Glawlengthat_spLLenAt (by decide))
  have Glawsteps_spStepsK : FnOk P w K mg base CX0 3 _ _ ["_law_table_here", "_law_row", "_law_begin"] (spSteps K) := ok_steps FLSp T DLRead (up Glawread_spReadK (by decide)) DLKnown (up Glawknown_spKnownK (by decide))
  have Glawgates_spGates : FnOk P w K mg base CX0 2 _ _ ["_law_box_here", "_law_many", "_law_most"] (spGates) := ok_gates FLGates T DTk (up Glawtake_spTake (by decide))
  have Glawbytes_spBytes : FnOk P w K mg base CX0 3 _ _ ["_law_box_here", "_law_table_here", "_law_many"] (spBytes) := ok_bytes FBy T DOf (up Glawof_spOf (by decide)) DTk (up Glawtake_spTake (by decide))
  have Glawtable_spTable : FnOk P w K mg base CX0 5 _ _ ["_law_box_here", "_law_most_bytes", "_law_longest"] (spTable) := ok_table FTb T DOf DTk
  have Glawsmall_spSmallK : FnOk P w K mg base CX0 6 _ _ ["_law_box_here"] (spSmall K) := ok_small FLSmall T DTk (up Glawtake_spTake (by decide)) DLPn (up Glawplan_spPlan (by decide)) DLOp (up Glawopen_spOpenK (by decide)) DLSp (up Glawsteps_spStepsK (by decide)) DLGates (up Glawgates_spGates (by decide)) DBy (up Glawbytes_spBytes (by decide)) DTb (up Glawtable_spTable (by decide))
  have Glawbox_spBoxK : FnOk P w K mg base CX0 1 _ _ ["_law_script", "_law_k"] (spBox K) := ok_box FBo T
  exact ok_law (k := 11) FLaw T DLAlongRight (upG Glawalongright_spAlongK (by decide)) DLSmall (up Glawsmall_spSmallK (by decide)) DBo (up Glawbox_spBoxK (by decide))
end Ov
open PySem PySem.W PyProof.Rows
set_option maxRecDepth 100000 in
set_option maxHeartbeats 0 in
theorem PySem.Challenge.cw_overlapcode_k50_states_along_codes_holds : PySem.Challenge.rw_overlapcode_k50_states_along_codes.Holds := by
  w_on; o_law; k_head; (case hw => w_witness2)
  k_fill
  refine Ov.walkG (l := PySem.Challenge.rw_overlapcode_k50_states_along_codes) (n := 63) (k := 12) (x := "_law_script") (sp := fun K => Ov.spLaw K) rfl (by decide) rfl ⟨rfl, by decide, by decide⟩ (fun w h Y => PySem.W.kIn_of Y) ?F (fun _ _ a ns hl hS => ⟨a, ns, rfl, hS, hl, fun _ => rfl⟩)
  case F =>
    intro w mg fa h KX G hmg
    refine' Ov.all_mk KX G hmg ?a0 ?l0 ?c0 ?k0 ?a1 ?l1 ?c1 ?k1 ?a2 ?l2 ?c2 ?k2 ?a3 ?l3 ?c3 ?k3 ?a4 ?l4 ?c4 ?k4 ?a5 ?l5 ?c5 ?k5 ?a6 ?l6 ?c6 ?k6 ?a7 ?l7 ?c7 ?k7 ?a8 ?l8 ?c8 ?k8 ?a9 ?l9 ?c9 ?k9 ?a10 ?l10 ?c10 ?k10 ?a11 ?l11 ?c11 ?k11 ?a12 ?l12 ?c12 ?k12 ?a13 ?l13 ?c13 ?k13 ?a14 ?l14 ?c14 ?k14 ?a15 ?l15 ?c15 ?k15 ?a16 ?l16 ?c16 ?k16 ?a17 ?l17 ?c17 ?k17 ?a18 ?l18 ?c18 ?k18 ?a19 ?l19 ?c19 ?k19 ?a20 ?l20 ?c20 ?k20 ?a21 ?l21 ?c21 ?k21 ?a22 ?l22 ?c22 ?k22 ?a23 ?l23 ?c23 ?k23 ?a24 ?l24 ?c24 ?k24 ?a25 ?l25 ?c25 ?k25 ?a26 ?l26 ?c26 ?k26 ?a27 ?l27 ?c27 ?k27 ?a28 ?l28 ?c28 ?k28 ?a29 ?l29 ?c29 ?k29 ?a30 ?l30 ?c30 ?k30 ?a31 ?l31 ?c31 ?k31 ?a32 ?l32 ?c32 ?k32 ?a33 ?l33 ?c33 ?k33 ?a34 ?l34 ?c34 ?k34 ?a35 ?l35 ?c35 ?k35 ?a36 ?l36 ?c36 ?k36 ?a37 ?l37 ?c37 ?k37 ?a38 ?l38 ?c38 ?k38 ?a39 ?l39 ?c39 ?k39 ?a40 ?l40 ?c40 ?k40 ?clA0 ?ma0_0 ?mi0_0 ?ml0_0 ?mc0_0 ?mk0_0 ?ma0_1 ?mi0_1 ?ml0_1 ?mc0_1 ?mk0_1 ?ma0_2 ?mi0_2 ?ml0_2 ?mc0_2 ?mk0_2 ?pg0 ?hd0 ?po0 ?sa0 ?mks0 ?kc0 ?na0_0 ?na0_1 ?na0_2 ?na0_3 ?clA1 ?ma1_0 ?mi1_0 ?ml1_0 ?mc1_0 ?mk1_0 ?ma1_1 ?mi1_1 ?ml1_1 ?mc1_1 ?mk1_1 ?ma1_2 ?mi1_2 ?ml1_2 ?mc1_2 ?mk1_2 ?pg1 ?hd1 ?po1 ?sa1 ?mks1 ?kc1 ?na1_0 ?na1_1 ?na1_2 ?na1_3 ?na1_4 ?cst0 ?cst1 ?cst2 ?cst3 ?cst4 ?cst5 ?cst6 ?cst7 ?bz0 ?bz1 ?bz2 ?bz3 ?bz4 ?bz5 ?bz6 ?bz7 ?bz8 ?bz9 ?bz10 ?bz11 ?bz12 ?bz13 ?bz14 ?bz15 ?bz16 ?bz17 ?bz18 ?bz19 ?bz20
    (case a0 => k_is)
    (case l0 => k_is)
    (case c0 => k_is)
    (case k0 => k_is)
    (case a1 => k_is)
    (case l1 => k_is)
    (case c1 => k_is)
    (case k1 => k_is)
    (case a2 => k_is)
    (case l2 => k_is)
    (case c2 => k_is)
    (case k2 => k_is)
    (case a3 => k_is)
    (case l3 => k_is)
    (case c3 => k_is)
    (case k3 => k_is)
    (case a4 => k_is)
    (case l4 => k_is)
    (case c4 => k_is)
    (case k4 => k_is)
    (case a5 => k_is)
    (case l5 => k_is)
    (case c5 => k_is)
    (case k5 => k_is)
    (case a6 => k_is)
    (case l6 => k_is)
    (case c6 => k_is)
    (case k6 => k_is)
    (case a7 => k_is)
    (case l7 => k_is)
    (case c7 => k_is)
    (case k7 => k_is)
    (case a8 => k_is)
    (case l8 => k_is)
    (case c8 => k_is)
    (case k8 => k_is)
    (case a9 => k_is)
    (case l9 => k_is)
    (case c9 => k_is)
    (case k9 => k_is)
    (case a10 => k_is)
    (case l10 => k_is)
    (case c10 => k_is)
    (case k10 => k_is)
    (case a11 => k_is)
    (case l11 => k_is)
    (case c11 => k_is)
    (case k11 => k_is)
    (case a12 => k_is)
    (case l12 => k_is)
    (case c12 => k_is)
    (case k12 => k_is)
    (case a13 => k_is)
    (case l13 => k_is)
    (case c13 => k_is)
    (case k13 => k_is)
    (case a14 => k_is)
    (case l14 => k_is)
    (case c14 => k_is)
    (case k14 => k_is)
    (case a15 => k_is)
    (case l15 => k_is)
    (case c15 => k_is)
    (case k15 => k_is)
    (case a16 => k_is)
    (case l16 => k_is)
    (case c16 => k_is)
    (case k16 => k_is)
    (case a17 => k_is)
    (case l17 => k_is)
    (case c17 => k_is)
    (case k17 => k_is)
    (case a18 => k_is)
    (case l18 => k_is)
    (case c18 => k_is)
    (case k18 => k_is)
    (case a19 => k_is)
    (case l19 => k_is)
    (case c19 => k_is)
    (case k19 => k_is)
    (case a20 => k_is)
    (case l20 => k_is)
    (case c20 => k_is)
    (case k20 => k_is)
    (case a21 => k_is)
    (case l21 => k_is)
    (case c21 => k_is)
    (case k21 => k_is)
    (case a22 => k_is)
    (case l22 => k_is)
    (case c22 => k_is)
    (case k22 => k_is)
    (case a23 => k_is)
    (case l23 => k_is)
    (case c23 => k_is)
    (case k23 => k_is)
    (case a24 => k_is)
    (case l24 => k_is)
    (case c24 => k_is)
    (case k24 => k_is)
    (case a25 => k_is)
    (case l25 => k_is)
    (case c25 => k_is)
    (case k25 => k_is)
    (case a26 => k_is)
    (case l26 => k_is)
    (case c26 => k_is)
    (case k26 => k_is)
    (case a27 => k_is)
    (case l27 => k_is)
    (case c27 => k_is)
    (case k27 => k_is)
    (case a28 => k_is)
    (case l28 => k_is)
    (case c28 => k_is)
    (case k28 => k_is)
    (case a29 => k_is)
    (case l29 => k_is)
    (case c29 => k_is)
    (case k29 => k_is)
    (case a30 => k_is)
    (case l30 => k_is)
    (case c30 => k_is)
    (case k30 => k_is)
    (case a31 => k_is)
    (case l31 => k_is)
    (case c31 => k_is)
    (case k31 => k_is)
    (case a32 => k_is)
    (case l32 => k_is)
    (case c32 => k_is)
    (case k32 => k_is)
    (case a33 => k_is)
    (case l33 => k_is)
    (case c33 => k_is)
    (case k33 => k_is)
    (case a34 => k_is)
    (case l34 => k_is)
    (case c34 => k_is)
    (case k34 => k_is)
    (case a35 => k_is)
    (case l35 => k_is)
    (case c35 => k_is)
    (case k35 => k_is)
    (case a36 => k_is)
    (case l36 => k_is)
    (case c36 => k_is)
    (case k36 => k_is)
    (case a37 => k_is)
    (case l37 => k_is)
    (case c37 => k_is)
    (case k37 => k_is)
    (case a38 => k_is)
    (case l38 => k_is)
    (case c38 => k_is)
    (case k38 => k_is)
    (case a39 => k_is)
    (case l39 => k_is)
    (case c39 => k_is)
    (case k39 => k_is)
    (case a40 => k_is)
    (case l40 => k_is)
    (case c40 => k_is)
    (case k40 => k_is)
    (case clA0 => k_is)
    (case ma0_0 => k_is)
    (case mi0_0 => k_is)
    (case ml0_0 => k_is)
    (case mc0_0 => k_is)
    (case mk0_0 => k_is)
    (case ma0_1 => k_is)
    (case mi0_1 => k_is)
    (case ml0_1 => k_is)
    (case mc0_1 => k_is)
    (case mk0_1 => k_is)
    (case ma0_2 => k_is)
    (case mi0_2 => k_is)
    (case ml0_2 => k_is)
    (case mc0_2 => k_is)
    (case mk0_2 => k_is)
    (case pg0 => k_is)
    (case hd0 => k_is)
    (case po0 => k_is)
    (case sa0 => k_is)
    (case mks0 => k_is)
    (case kc0 => k_is)
    (case na0_0 => k_is)
    (case na0_1 => k_is)
    (case na0_2 => k_is)
    (case na0_3 => k_is)
    (case clA1 => k_is)
    (case ma1_0 => k_is)
    (case mi1_0 => k_is)
    (case ml1_0 => k_is)
    (case mc1_0 => k_is)
    (case mk1_0 => k_is)
    (case ma1_1 => k_is)
    (case mi1_1 => k_is)
    (case ml1_1 => k_is)
    (case mc1_1 => k_is)
    (case mk1_1 => k_is)
    (case ma1_2 => k_is)
    (case mi1_2 => k_is)
    (case ml1_2 => k_is)
    (case mc1_2 => k_is)
    (case mk1_2 => k_is)
    (case pg1 => k_is)
    (case hd1 => k_is)
    (case po1 => k_is)
    (case sa1 => k_is)
    (case mks1 => k_is)
    (case kc1 => k_is)
    (case na1_0 => k_is)
    (case na1_1 => k_is)
    (case na1_2 => k_is)
    (case na1_3 => k_is)
    (case na1_4 => k_is)
    (case cst0 => k_is)
    (case cst1 => k_is)
    (case cst2 => k_is)
    (case cst3 => k_is)
    (case cst4 => k_is)
    (case cst5 => k_is)
    (case cst6 => k_is)
    (case cst7 => k_is)
    (case bz0 => k_is)
    (case bz1 => k_is)
    (case bz2 => k_is)
    (case bz3 => k_is)
    (case bz4 => k_is)
    (case bz5 => k_is)
    (case bz6 => k_is)
    (case bz7 => k_is)
    (case bz8 => k_is)
    (case bz9 => k_is)
    (case bz10 => k_is)
    (case bz11 => k_is)
    (case bz12 => k_is)
    (case bz13 => k_is)
    (case bz14 => k_is)
    (case bz15 => k_is)
    (case bz16 => k_is)
    (case bz17 => k_is)
    (case bz18 => k_is)
    (case bz19 => k_is)
    (case bz20 => k_is)
