import PyProof.Rows.All
import Wide.All
import OpenK.AllK
import Wide.FinOn
import HandS.ForMost
import HandS.IsInst
import HandS.Zip
import HandS.TupAny
import HandS.Wide
import HandS.More
import HandS.Walk
import HandS.RaiseMore
import HandS.Flow
import HandS.Conv
import HandS.MakeKwOnly
import HandS.DictComp
import HandS.SetBool
import HandS.Strs
import HandS.SetFor
import KE.KRevSl
import KE.GoesMore
import KE.DataMinMax
import HandS.Small
import HandS.Text
import HandS.Codes
import HandS.ExcInit
import HandS.ExcField
import HandS.ExcIs
import HandS.ExcOwn
import HandS.ExcValue
import KE.KExcIs
import HandS.TupLe
import HandS.Defaults
import HandS.Dict
import PySem.Challenge.RW_overlapcode_k14_long_fillers
set_option Elab.async false
set_option linter.all false
set_option maxRecDepth 100000
set_option maxHeartbeats 4000000
namespace Ov
open PySem PySem.Spec PyProof.Rows L2
theorem same_upd {H : Hp} {p : Addr} {o : HO} (h : H p = none) : Same H (upd H p o) := fun b x e => by
  rw [upd_ne (ne_of_none e h)]
  exact e
theorem _root_.L2.Same.tup {K : PySem.W.Frag} {H H' : Hp} {a : Addr} {xs : List V} (e : Same H H') (h : SqT K H a xs) : SqT K H' a xs := by
  rcases h with (h | ⟨o, h⟩) | h
  · exact .inl (.inl (e _ _ h))
  · exact .inl (.inr ⟨o, e _ _ h⟩)
  · exact .inr h
/-- a new list in the making at D: all that stood before stands, D is new and holds acc -/
structure Mk (H H' : Hp) (D : Addr) (acc : List V) : Prop where
  same : Same H H'
  new : H D = none
  at_ : H' D = some (.lst acc)
theorem Mk.start {H : Hp} {D : Addr} (h : H D = none) : Mk H (upd H D (.lst [])) D [] := ⟨same_upd h, h, upd_same⟩
theorem Mk.put {H H' H4 : Hp} {D : Addr} {acc acc' : List V} (m : Mk H H' D acc) (s : Same H' H4) : Mk H (upd H4 D (.lst acc')) D acc' :=
  ⟨fun b o e => by rw [upd_ne (ne_of_none e m.new)]; exact s _ _ (m.same _ _ e), m.new, upd_same⟩
/-- two tuples walked abreast -/
theorem walk_zipT {K : PySem.W.Frag} {a b : Addr} {xs ys : List V} {n : Nat} (hn : n = min xs.length ys.length) : Walk (RZ.ItzT K a b) n (fun H => SqT K H a xs ∧ SqT K H b ys) (YPair (fun i => xs[i]?) (fun i => ys[i]?)) := by
  subst hn
  refine ⟨fun i _ hi q => ?_, fun _ q => ⟨xs, ys, q.1, q.2, by omega⟩, fun i H v H' _ q y => ?_⟩
  · have h1 : i < xs.length := by omega
    have h2 : i < ys.length := by omega
    exact ⟨xs, ys, xs[i], ys[i], q.1, q.2, by simp [h1], by simp [h2]⟩
  · obtain ⟨T, x, z, h1, h2, h3, h4, h5⟩ := y
    exact ⟨T, x, z, h1, h2, h3, h4 xs q.1, h5 ys q.2⟩
theorem cut1 (xs : List V) : cutV xs (some 1) none = xs.drop 1 := by
  unfold cutV
  rw [show HT.sIx xs.length 0 (some 1) = min 1 xs.length from HT.sIx_nat xs.length 0 1, HT.sIx_none]
  cases xs with
  | nil => rfl
  | cons x r =>
    rw [show min 1 (x :: r).length = 1 by
      rw [List.length_cons]
      omega]
    show (List.take ((x :: r).length - 1) r) = r
    rw [List.length_cons, Nat.add_sub_cancel]
    exact List.take_length
theorem cut1_whole {xs : List V} (h : HT.sIx xs.length 0 (some 1) = 0 ∧ HT.sIx xs.length xs.length none = xs.length) : xs = [] := by
  have h1 := h.1
  rw [show HT.sIx xs.length 0 (some 1) = min 1 xs.length from HT.sIx_nat xs.length 0 1] at h1
  cases xs with
  | nil => rfl
  | cons x r => rw [List.length_cons] at h1; omega
/-- the built-in names that the text leaves alone -/
structure Bi (mg : Str → Option Value) : Prop where
  isi : mg "isinstance" = none
  int : mg "int" = none
  bool : mg "bool" = none
  tuple : mg "tuple" = none
  list : mg "list" = none
  all : mg "all" = none
  any : mg "any" = none
  zip : mg "zip" = none
  len : mg "len" = none
  range : mg "range" = none
  abs : mg "abs" = none
  sorted : mg "sorted" = none
  min : mg "min" = none
  repr : mg "repr" = none
  max : mg "max" = none
  sum : mg "sum" = none
  enumerate : mg "enumerate" = none
  str : mg "str" = none
  set : mg "set" = none
  dict : mg "dict" = none
  vErr : mg "ValueError" = none
/-- where a def stands, and that its name tells it -/
structure Def (K : PySem.W.Frag) (mg : Str → Option Value) (x : Str) (st : Stmt) (f : Addr) (fd : FuncData) (ps : List Str) : Prop where
  fn : Fun K x x st f fd
  gl : mg x = some (.ref f)
  bi : Binds K fd ps []
theorem ixN_at {n j : Nat} (hj : j < n) : ixN n (j : Int) = some j := by
  unfold ixN
  rw [if_pos (by omega), if_pos (by omega)]
  simp
theorem flat_rep {α : Type} (x : α) : ∀ n : Nat, (List.replicate n [x]).flatten = List.replicate n x
  | 0 => rfl
  | n + 1 => by rw [List.replicate_succ, List.flatten_cons, flat_rep x n, List.replicate_succ]; rfl
theorem take_more {α : Type} {l : List α} {i : Nat} {x : α} (h : l[i]? = some x) : l.take (i + 1) = l.take i ++ [x] := by
  rw [List.take_add_one, h]; rfl
theorem all_true (n : Nat) : (List.replicate n true).all id = true := by
  rw [List.all_eq_true]
  intro x hx
  exact (List.mem_replicate.mp hx).2
end Ov
namespace Ov
open PySem PySem.Spec PyProof.Rows L2
/-- the promise of a def, for calls under no guard -/
structure FnG (P : Program) (w : World) (K : PySem.W.Frag) (mg : Str → Option Value) (base : Heap) (k : Nat) (f : Addr) (fd : FuncData) (ps : List Str) (sp : Sp) : Prop where
  len : ∀ vs H Q E, sp vs H Q E → vs.length = ps.length
  run : ∀ (A : Around) (outer : List Env) (s : Shared) (H : Hp) (args : Args) (us : List Value) (vs : List V) (Q : VK) (E : XK),
    A.guards = some [] → Room k A → Env0 P w K mg base A outer s H → BindsTo s fd args (ps.zip us) → Vals vs us → sp vs H Q E →
    codeAny (model P w) A (.call (.ref f) args) (CR CX0 outer P w H s Q E) s
section
variable {P : Program} {w : World} {K : PySem.W.Frag} {mg : Str → Option Value} {base : Heap}
/-- a def that keeps its promise anywhere keeps it there -/
theorem FnG.of {k : Nat} {f : Addr} {fd : FuncData} {ps : List Str} {sp : Sp} (F : FnOk P w K mg base CX0 k f fd ps sp) : FnG P w K mg base k f fd ps sp :=
  ⟨F.len, fun A outer s H args us vs Q E _ => F.run A outer s H args us vs Q E⟩
end
end Ov
namespace Ov
open PySem PySem.Spec PyProof.Rows L2
mutual
def nodes : PyData → Nat
  | .str x => 1 + (reprText x).length
  | .list xs => 1 + nodesAll xs
  | .tuple xs => 1 + nodesAll xs
  | .none => 1
  | .bool _ => 1
  | .int _ => 1
  | .dict kvs => 1 + (dictText (PyData.shownKv kvs)).length
def nodesAll : List PyData → Nat
  | [] => 0
  | x :: xs => nodes x + nodesAll xs
end
/-- a plain value: None, a bool, an int that is not too great to be shown -/
inductive Sc : PyData → Prop
  | non : Sc .none
  | bl (b : Bool) : Sc (.bool b)
  | int (i : Int) (h : i.natAbs.log2 < 1920) : Sc (.int i)
theorem Sc.small {i : Int} (h : i.natAbs < 2 ^ 1000) : Sc (.int i) := by
  refine .int i ?_
  by_cases e : i.natAbs = 0
  · rw [e]; decide
  · exact Nat.lt_of_lt_of_le ((Nat.log2_lt e).mpr h) (by decide)
end Ov
namespace Ov
open PySem PySem.Spec PyProof.Rows L2
mutual
inductive Dx (K : PySem.W.Frag) (H : Hp) : V → PyData → Prop
  | non : Dx K H .non .none
  | bl (b : Bool) : Dx K H (.bl b) (.bool b)
  | int (i : Int) : Dx K H (.int i) (.int i)
  | str (x : Str) : Dx K H (.str x) (.str x)
  | dct {a : Addr} : H a = some (.dK []) → Dx K H (.ref a) (.dict [])
  | lst {a : Addr} {xs : List V} {ds : List PyData} : SqL K H a xs → DxAll K H xs ds → Dx K H (.ref a) (.list ds)
  | tup {a : Addr} {xs : List V} {ds : List PyData} : SqT K H a xs → DxAll K H xs ds → Dx K H (.ref a) (.tuple ds)
inductive DxAll (K : PySem.W.Frag) (H : Hp) : List V → List PyData → Prop
  | nil : DxAll K H [] []
  | cons {v : V} {vs : List V} {d : PyData} {ds : List PyData} : Dx K H v d → DxAll K H vs ds → DxAll K H (v :: vs) (d :: ds)
end
theorem sqL_same {K : PySem.W.Frag} {H H' : Hp} {a : Addr} {xs : List V} (e : Same H H') (h : SqL K H a xs) : SqL K H' a xs := by
  rcases h with (h | ⟨o, h⟩) | h
  · exact .inl (.inl (e _ _ h))
  · exact .inl (.inr ⟨o, e _ _ h⟩)
  · exact .inr h
mutual
theorem Dx.same {K : PySem.W.Frag} {H H' : Hp} (e : Same H H') : ∀ {v : V} {d : PyData}, Dx K H v d → Dx K H' v d
  | _, _, .non => .non
  | _, _, .bl b => .bl b
  | _, _, .int i => .int i
  | _, _, .str x => .str x
  | _, _, .dct h => .dct (e _ _ h)
  | _, _, .lst h a => .lst (sqL_same e h) (DxAll.same e a)
  | _, _, .tup h a => .tup (e.tup h) (DxAll.same e a)
theorem DxAll.same {K : PySem.W.Frag} {H H' : Hp} (e : Same H H') : ∀ {vs : List V} {ds : List PyData}, DxAll K H vs ds → DxAll K H' vs ds
  | _, _, .nil => .nil
  | _, _, .cons h a => .cons (Dx.same e h) (DxAll.same e a)
end
theorem DxAll.len {K : PySem.W.Frag} {H : Hp} : ∀ {vs : List V} {ds : List PyData}, DxAll K H vs ds → vs.length = ds.length
  | _, _, .nil => rfl
  | _, _, .cons _ a => by rw [List.length_cons, List.length_cons, a.len]
theorem dx_ints {K : PySem.W.Frag} {H : Hp} : ∀ ns : List Int, DxAll K H (ns.map V.int) (ns.map PyData.int)
  | [] => .nil
  | n :: ns => .cons (.int n) (dx_ints ns)
/-- the name of a thing's type -/
def tyN : PyData → String
  | .none => "NoneType" | .bool _ => "bool" | .int _ => "int" | .str _ => "str" | .list _ => "list" | .tuple _ => "tuple" | .dict _ => "dict"
theorem Dx.ty {K : PySem.W.Frag} {H : Hp} {v : V} {d : PyData} (h : Dx K H v d) : TyX K H v (.type (tyN d)) := by
  cases h with
  | non => exact .base .non
  | bl b => exact .base (.bl b)
  | int i => exact .base (.int i)
  | str x => exact .base (.str x)
  | dct h => exact .base (.dK h)
  | lst h _ =>
    rcases h with (h | ⟨o, h⟩) | ⟨o, its, n, h, c, _⟩
    · exact .base (.lst h)
    · exact .base (.frz h)
    · exact .kList h c
  | tup h _ =>
    rcases h with (h | ⟨o, h⟩) | ⟨o, its, n, h, c, _⟩
    · exact .base (.tup h)
    · exact .fTuple h
    · exact .kTuple h c
def isT : PyData → Bool | .tuple _ => true | _ => false
theorem kit_t : ∀ d : PyData, kitB (tyN d) "tuple" = some (isT d)
  | .none => (by decide +kernel : kitB "NoneType" "tuple" = some false)
  | .bool _ => (by decide +kernel : kitB "bool" "tuple" = some false)
  | .int _ => (by decide +kernel : kitB "int" "tuple" = some false)
  | .str _ => (by decide +kernel : kitB "str" "tuple" = some false)
  | .list _ => (by decide +kernel : kitB "list" "tuple" = some false)
  | .tuple _ => (by decide +kernel : kitB "tuple" "tuple" = some true)
  | .dict _ => (by decide +kernel : kitB "dict" "tuple" = some false)
mutual
def noList : PyData → Bool
  | .list _ => false
  | .tuple ds => noListAll ds
  | _ => true
def noListAll : List PyData → Bool
  | [] => true
  | d :: ds => noList d && noListAll ds
end
/-- what can be shown -/
structure Shows (d : PyData) : Prop where
  sh : d.showable = true
  nl : d.hasDict = true → noList d = true
  dep : d.depth ≤ 60
  nd : nodes d ≤ 8000
end Ov
namespace Ov
open PySem PySem.Spec PyProof.Rows L2
section
variable {X : Cx}
/-- in every block of a comprehension -/
abbrev Blk (X : Cx) (sc : Scope) (R : Cx → Prop) : Prop := ∀ (s : Shared) (H : Hp) (C : Addr) (cl : List (Str × Addr)) (fp : List Addr), R (X.blk s H sc (compEnvC sc cl C X.env) fp)
end
end Ov
namespace Ov
open PySem PySem.Spec PyProof.Rows L2
/-- an int that goes into the set at D -/
def PutI (w : World) (D : Addr) (y : V) (H : Hp) (N : Hp → Prop) : Prop := ∃ (c : Int) (S : Int → Bool) (n : Nat), y = .int c ∧ H D = some (SetO w D S n) ∧ n + 1 < scanBound ∧ N (upd H D (SetO w D (fun j => S j || decide (j = c)) (if S c = true then n else n + 1)))
/-- a turn: the item x, the test, the member -/
def TurnI (w : World) (D : Addr) (g : TG) (tt : TT) (te : TE) (σ0 : L2.St) (vs : List Nat) (x : V) (H : Hp) (N : Hp → Prop) : Prop := g x σ0 H fun σ2 H2 => wipe σ2 vs = σ0 ∧ tt σ2 H2 fun b H3 => if b = true then te σ2 H3 fun y H4 => PutI w D y H4 N else N H3
def tScI (w : World) (wi : TI) (g : TG) (tt : TT) (te : TE) (vs : List Nat) : TE := fun σ H Q => wi σ H fun J H1 => ∀ D, H1 D = none → ∃ W : Nat → Nat → Hp → Prop, (∃ m, W 0 m (upd H1 D (SetO w D (fun _ => false) 0))) ∧
  ∀ i m G, W i m G → (J.stop i G ∧ Q (.ref D) G) ∨ (J.go i G ∧ ∃ N : Hp → Prop, (∀ G', N G' → ∃ m', m' < m ∧ W (i + 1) m' G') ∧ ∀ x G', J.yld i G x G' → TurnI w D g tt te (wipe σ vs) vs x G' N)
section
variable {X : Cx}
theorem addI_ok {pins : List (Addr × Obj)} {σ : L2.St} {H : Hp} {s : Shared} {E : Value → Shared → Prop} {D : Addr} {S : Int → Bool} {n : Nat} {y : Int} {u : Value} {Q : Value → Shared → Prop} (I : Inv X pins σ H s) (hD : H D = some (SetO X.w D S n)) (room : n + 1 < scanBound) (ru : RelV (.int y) u)
    (h : ∀ t, Inv X pins σ (upd H D (SetO X.w D (fun j => S j || decide (j = y)) (if S y = true then n else n + 1))) t → Q .none t) : wpAny (model X.prog X.w) X.A (call (.builtin "set.add") [.ref D, u]) Q E s := by
  obtain ⟨tk, rfl⟩ := ru
  refine setR_add (setO_get I hD) room fun g sb nw => h _ ?_
  obtain ⟨o, _, _, _, ho, _⟩ := id nw
  exact I.write (e := D) (t' := s.toks + 1) (by rw [hD]; trivial) (.inl rfl) (fun b _ hb z => (sb.2 b hb).trans z) ⟨o, ho⟩ (setO_new nw)
/-- the object of a new set -/
abbrev set0 (w : World) : Obj := { cls := .type "set", dict := none, data := .set #[] 0 (.fresh 0 0 (!w.params.followText "set-order")) }
theorem pe_scI {el tg it : Expr} {ifs : List Expr} {sc : Scope} {own : List (Str × Nat)} {pos : Pos} {wi : TI} {g : TG} {tt : TT} {te : TE} (hc : X.calm = true) (nd : X.N.Nodup) (hi : PI X tg it wi) (ok : BlkOk X.N X.env.scope sc own)
    (hg : Blk X sc fun Y => PG Y tg g) (ht : Blk X sc fun Y => PTs Y ifs tt) (he : Blk X sc fun Y => PE Y el te) (fs : ∀ x, foldedSetIterable it X.env x = pure x := by intro _; rfl) :
    PE X (.SetComp el [⟨tg, it, ifs, 0⟩] sc pos) (tScI X.w wi g tt te (own.map (·.2))) := by
  constructor
  intro pins s σ H Q I h
  rw [PpSet.eval_SetComp]
  have cells : ∀ y ∈ sc.names, y.2 = .free → ∃ c, X.env.cells.lookup y.1 = some c := fun y hy e => (ok.free y hy e).elim (fun z => I.ok.has _ (Or.inl z)) (fun z => I.ok.has _ (Or.inr z))
  refine wpAny_comprehension_free (use := none) rfl fs (closure_ok cells) ok.kind (fun y hy e => by rw [ok.uniq y hy, e]) (thn (hi.run pins s σ H _ I h) fun _ _ z1 => thn z1 fun _ t2 z2 => ?_)
  obtain ⟨a, fp, tn, J, G2, rfl, I2, T, st2, f2, q⟩ := z2
  refine PpSet.newSet_ok (newEnv_comp ?_)
  obtain ⟨D, eD⟩ : ∃ D, D = t2.heap.objs.size := ⟨_, rfl⟩
  rw [← eD]
  obtain ⟨W, ⟨m0, w0⟩, turn⟩ := q D (I2.hok.fresh (Nat.le_of_eq eD.symm))
  obtain ⟨t3, e3⟩ : ∃ t3 : Shared, t3 = { t2 with heap := t2.heap.push (set0 X.w) } := ⟨_, rfl⟩
  have hp3 : t3.heap = t2.heap.push (set0 X.w) := by rw [e3]
  have I3 : Inv X pins σ (upd G2 D (SetO X.w D (fun _ => false) 0)) t3 := by
    rw [e3]
    refine I2.laid (t' := t2.toks) (fun _ _ z => Heap.get?_push_of_some _ z) (Nat.le_of_eq eD.symm) ?_
    rw [eD]
    exact setO_new (setR_fresh X.w)
  have low : ∀ b ∈ fp, b < t2.heap.objs.size := fun b hb => (T.obj _ _ st2 b hb).elim fun _ z => Heap.lt_size z.1
  have f3 : ∀ b ∈ fp, FpOk X pins (upd G2 D (SetO X.w D (fun _ => false) 0)) b ∧ b < t3.heap.objs.size := fun b hb =>
    ⟨⟨by rw [upd_ne (by rw [eD]; exact Nat.ne_of_lt (low b hb))]; exact (f2 b hb).1, (f2 b hb).2⟩, by rw [hp3, Heap.size_push]; exact Nat.lt_succ_of_lt (low b hb)⟩
  have st3 : tn 0 t3.heap := T.keep _ _ _ st2 fun _ _ _ z => by rw [hp3]; exact Heap.get?_push_of_some _ z
  have I4 := block_start I3 ok nd f3
  generalize hG3 : upd G2 D (SetO X.w D (fun _ => false) 0) = G3 at *
  obtain ⟨C, eC⟩ : ∃ C, C = t3.heap.objs.size := ⟨_, rfl⟩
  obtain ⟨ce, ece⟩ : ∃ ce, ce = compEnvC sc (cellsFrom (t3.heap.objs.size + 1) sc.names (cloFrom X.env.cells sc.names [])) t3.heap.objs.size X.env := ⟨_, rfl⟩
  have pg := hg t3 G3 t3.heap.objs.size (cellsFrom (t3.heap.objs.size + 1) sc.names (cloFrom X.env.cells sc.names [])) fp
  have pt := ht t3 G3 t3.heap.objs.size (cellsFrom (t3.heap.objs.size + 1) sc.names (cloFrom X.env.cells sc.names [])) fp
  have pe := he t3 G3 t3.heap.objs.size (cellsFrom (t3.heap.objs.size + 1) sc.names (cloFrom X.env.cells sc.names [])) fp
  rw [← ece] at pg pt pe I4
  have loc : ce.locals = C := by rw [ece, eC]; rfl
  obtain ⟨t4, e4⟩ : ∃ t4 : Shared, t4 = { t3 with heap := pushCells (t3.heap.push { cls := .type "dict", data := .dict #[] }) sc.names } := ⟨_, rfl⟩
  rw [← e4] at I4
  have st4 : tn 0 t4.heap := T.keep _ _ _ st3 fun _ _ _ z => by rw [e4]; exact pushCells_keeps _ _ _ _ (Heap.get?_push_of_some _ z)
  have nfp : ∀ b ∈ fp, G3 b = none := fun b hb => (f3 b hb).1.1
  have still : ∀ {σ' : L2.St} {G : Hp} {t : Shared}, Inv (X.blk t3 G3 sc ce fp) [] σ' G t → (∀ b ∈ fp, G b = none) → ∀ b ∈ fp, FpOk (X.blk t3 G3 sc ce fp) [] G b := fun {σ' G t} K hn b hb =>
    ⟨hn b hb, (K.ok.exf b hb).1, K.ok.exfs b hb, .inl hb, fun x c z => (K.ok.exf b hb).2 x c z, fun p hp => absurd (show p ∈ ([] : List (Addr × Obj)) ++ [] from hp) (by simp)⟩
  have loop : codeAny (model X.prog X.w) X.A (.compLoop (.SetComp el [⟨tg, it, ifs, 0⟩] sc pos) 0 (.ref a) (.ref D) ce) (compPost (model X.prog X.w) X.A X.xe none (EP X pins σ Q) (.ref D) C) t4 := by
    refine PpSet.compLoopS_any (fun n t => ∃ i G, Inv (X.blk t3 G3 sc ce fp) [] (wipe σ (own.map (·.2))) G t ∧ tn i t.heap ∧ (∀ b ∈ fp, G b = none) ∧ W i n G) ?_ m0 ⟨0, G3, I4, st4, nfp, w0⟩
    rintro n t5 ⟨i, G5, I5, st5, n5, w5⟩
    rcases turn i n G5 w5 with ⟨stop, qq⟩ | ⟨go, N, hN, step⟩
    · refine thnF (T.done (X.blk t3 G3 sc ce fp) rfl rfl rfl hc i [] t5 _ G5 (fun _ _ => False) I5 (still I5 n5) st5 stop) fun r t6 z => ?_
      obtain ⟨rfl, I6⟩ := z
      have I7 : Inv X pins σ G5 t6 := I3.call' (ch := fp) I6.os I6.base I6.hok I6.bare fun b hb => ⟨(f3 b hb).1.2.2.2.1, (f3 b hb).1.2.1, (f3 b hb).1.2.2.2.2.1, (f3 b hb).1.2.2.2.2.2⟩
      have nC : G5 C = none := by rw [← loc]; exact I6.free
      obtain ⟨m, ns, _⟩ := I6.loc
      replace ns : t6.heap.Ns C m := by rw [← loc]; exact ns
      obtain ⟨p0, p1, _, p3, p4, p5⟩ := I3.fpOk (Nat.le_of_eq eC.symm) nC
      exact ⟨m, ns, fun _ sb => ⟨.ref D, G5, I7.turned (t' := t6.toks) (fun b _ hb z => (sb.2 b hb).trans z) p0 p1 p3 p4 p5, rfl, qq⟩⟩
    · refine thnF (T.item (X.blk t3 G3 sc ce fp) rfl rfl rfl hc i [] t5 _ G5 (fun _ _ => False) I5 (still I5 n5) st5 go) fun r t6 z => ?_
      obtain ⟨u, rfl, z⟩ := z
      refine thnF z fun _ t7 ⟨x, G7, I7, r7, y7, st7, n7⟩ => ?_
      refine thnF (pg.run _ t7 _ G7 x u _ (I7.pinned (still I7 n7) (T.obj _ _ st7)) r7 (step x G7 y7)) fun _ t8 ⟨σ8, G8, I8, w8, q8⟩ => ?_
      refine thnF (pt.run _ t8 σ8 G8 _ I8 q8) fun b t9 ⟨G9, I9, q9⟩ => ?_
      have again : ∀ {t : Shared} {G : Hp}, Inv (X.blk t3 G3 sc ce fp) ([] ++ pinsAt fp t7.heap) σ8 G t → N G → ∃ m, m < n ∧ ∃ i G, Inv (X.blk t3 G3 sc ce fp) [] (wipe σ (own.map (·.2))) G t ∧ tn i t.heap ∧ (∀ b ∈ fp, G b = none) ∧ W i m G := fun {t G} K nx => by
        obtain ⟨m', lt, w'⟩ := hN G nx
        have pin : ∀ b ∈ fp, ∀ o, t7.heap.get? b = some o → t.heap.get? b = some o ∧ G b = none := fun b hb o z => by
          have y := K.pin (b, o) (List.mem_append_right _ (List.mem_append_right _ (mem_pinsAt hb z)))
          exact ⟨y.1, y.2.1⟩
        have len : (wipe σ (own.map (·.2))).length = σ8.length := by rw [← w8, wipe_length]
        exact ⟨m', lt, i + 1, G, (K.unpinned (pins := [])).weak len (fun _ _ z => by rw [← w8] at z; exact (wipe_some z).1), T.keep _ _ _ st7 fun b hb o z => (pin b hb o z).1, fun b hb => (T.obj _ _ st7 b hb).elim fun o z => (pin b hb o z.1).2, w'⟩
      cases b with
      | false => exact again I9 q9
      | true =>
        refine thnF (pe.run _ t9 σ8 G9 _ I9 q9) fun v t10 ⟨yv, G10, I10, r10, z⟩ => ?_
        obtain ⟨c, S, k, rfl, hD, room, nx⟩ := z
        exact addI_ok (X := X.blk t3 G3 sc ce fp) I10 hD room r10 fun t11 I11 => again I11 nx
  have start := PpSet.codeAny_compStart_set loop (T.self X.A 0 _ _ _ st4 loop)
  rw [ece, e4, e3] at start
  rw [eC, e3] at start
  exact start
end
end Ov
namespace Ov
open PySem PySem.Spec PyProof.Rows L2
section
variable {P : Program} {w : World} {A : Around} {E : Value → Shared → Prop} {s : Shared}
theorem set_of_ints {l : Addr} {its : Array Value} (zs : List Int) {Q : Value → Shared → Prop} (ha : A.handled = none) (hl : s.heap.IsList l its) (hz : IntsAre its.toList zs) (few : zs.length + 1 < scanBound)
    (fin : ∀ (g : Heap) (tk c : Nat), SetR w g s.heap.objs.size (fun j => decide (j ∈ zs)) c → c ≤ zs.length → (∀ b o, s.heap.get? b = some o → g.get? b = some o) → Q (.ref s.heap.objs.size) { s with heap := g, toks := tk }) :
    wpAny (model P w) A (call (.type "set") [.ref l]) Q E s := by
  have n0 : its.size = zs.length := by have z := IntsAre.length hz; rwa [Array.length_toList] at z
  obtain ⟨c0, t0, m0⟩ := PySem.F.called_set.mro
  have m1 := PySem.F.called_set.made; have m2 := PySem.F.called_set.sub
  have m3 := PySem.F.called_set.notType; have m4 := PySem.F.called_set.canCreate
  have m5 := PySem.F.typeCall_set_1 (.ref l)
  refine wpAny_call (codeAny_of_tree ?_); show wpAny _ _ (callAny (.type "set") _) _ _ _
  refine wpAny_pure (And.intro (Code.quiet_builtin _ (by decide +kernel)) (codeAny_builtin PySem.F.entry_type_call ?_)); rewrite [Around.under_plain (weight_type_call_type "set" [Value.ref l] []) rfl]
  repeat any_goals first | assumption | wp_step
  generalize hS0 : s.heap.objs.size = D at *
  have gD : (s.heap.push (set0 w)).get? D = some (set0 w) := by rw [← hS0]; exact Heap.get?_push_size _ rfl
  have tD : Shared.TypeIs { s with heap := s.heap.push (set0 w) } (.ref D) "set" := ⟨_, gD, rfl⟩
  refine codeAny_mono (code_set_led1 (.ref l) (E := E) (Q₁ := fun o s₁ => o = .ref D ∧ s₁ = { s with heap := s.heap.push (set0 w) }) ⟨by rw [hS0], rfl⟩) fun r s₁ hr => ?_
  cases r with
  | error e => exact hr
  | ok fl =>
    cases fl with
    | ret o =>
      obtain ⟨rfl, rfl⟩ := hr
      have i1 := PySem.F.called_set.init.lookup; have i2 := PySem.F.called_set.init.bind (.ref D)
      repeat any_goals first | assumption | wp_step
      refine codeAny_mono (codeAny_call_builtin (R := wants (fun r s₂ => r = .none ∧ ∃ g tk c, s₂ = { s with heap := g, toks := tk } ∧ SetR w g D (fun j => decide (j ∈ zs)) c ∧ c ≤ zs.length ∧ ∀ b o, s.heap.get? b = some o → g.get? b = some o) E) PySem.F.called_set.init.plain PySem.F.entry_set_init (check_set_init_1 tD ?_)) fun r₂ s₂ h₂ => ?_
      · obtain ⟨lo, lg, lc, ln, ld⟩ := hl
        obtain ⟨lcls, ldict, ldata, lslots⟩ := lo
        simp only at lc ld; subst lc; subst ld
        have gl : (s.heap.push (set0 w)).get? l = some { cls := .type "list", dict := ldict, data := .seq its ln, slots := lslots } := Heap.get?_push_of_some _ lg
        have il : (s.heap.push (set0 w)).IsList l its := ⟨_, gl, rfl, ln, rfl⟩
        have x1 := PySem.F.sub_list_set; have x2 := PySem.F.sub_list_frozenset
        have x3 : (Value.type "list" == Value.type "dict") = false := by decide
        unfold Builtin.«set.__init__» noKeywords Builtin.Frozenset.updateFrom; generalize pe : pyIter = it0
        wp_walk
        subst pe; refine wpAny_pyIter_list il (wpAny_bind (wpAny_runValue ?_))
        have l0 : l < D := by rw [← hS0]; exact Heap.lt_size lg
        have sz : (s.heap.push (set0 w)).objs.size = D + 1 := by rw [Heap.size_push, hS0]
        have vals : ∀ (i : Nat) (v : Value), its[i]? = some v → ∃ k t, zs[i]? = some k ∧ v = .int k t := fun i v hv => by
          have lt : i < zs.length := by rw [← n0]; exact (Array.getElem?_eq_some_iff.mp hv).1
          obtain ⟨t, e⟩ := IntsAre.int_at hz i v (by rw [Array.getElem?_toList]; exact hv)
          exact ⟨zs[i], t, List.getElem?_eq_getElem lt, by rw [e, List.getD_eq_getElem?_getD, List.getElem?_eq_getElem lt]; rfl⟩
        refine set_update_ints ((Walks.list (by simp [ha]) _ l (by rw [sz]; exact Nat.ne_of_lt (Nat.lt_succ_of_lt l0)) its).toS) D (by rw [sz]; simp; exact Nat.ne_of_gt l0) zs n0 few vals its.size 0 _ (by omega) (Nat.zero_le _) ⟨⟨_, Heap.get?_push_size _ rfl, rfl, rfl⟩, il.push _⟩ ⟨0, Nat.le_refl 0, setR_new_at (Heap.get?_push_of_some _ gD)⟩ ?_
        rintro ⟨g, g2, d2, tk2, os2⟩ c mv cl hR
        obtain rfl : g2 = s.gens := mv.gens
        obtain rfl : d2 = s.drawn := mv.drawn
        obtain rfl : os2 = s.os := mv.os
        show wpAny _ _ _ _ _ _; refine wpAny_pure ?_; show wpAny _ _ (ret Value.none) _ _ _
        refine wpAny_pure ⟨rfl, g, tk2, c, rfl, hR, by omega, fun b o e => ?_⟩
        have bl : b < D := by rw [← hS0]; exact Heap.lt_size e
        exact mv.heap b o (by rw [sz]; simp; exact ⟨Nat.ne_of_lt bl, Nat.ne_of_lt (Nat.lt_succ_of_lt bl)⟩) (Heap.get?_push_of_some _ (Heap.get?_push_of_some _ e))
      · cases r₂ with
        | error e => exact h₂
        | ok f₂ =>
          cases f₂ with
          | ret r =>
            obtain ⟨rfl, g, tk, c, rfl, z1, z2, z3⟩ := h₂
            repeat any_goals first | assumption | wp_step
            exact fin g tk c z1 z2 z3
          | _ => exact h₂.elim
    | _ => exact hr.elim
end
section
variable {X : Cx}
theorem ints_of {zs : List Int} {us : List Value} (h : Vals (zs.map V.int) us) : IntsAre us zs := by
  induction zs generalizing us with
  | nil => cases h; exact .nil
  | cons z r ih =>
    cases h with
    | cons a b =>
      obtain ⟨t, rfl⟩ := a
      exact .cons z t (ih b)
/-- a new set of the ints of a list; ds are its members -/
def rSetI (K : PySem.W.Frag) (w : World) : List V → Hp → VK → Prop := fun xs H Q => ∃ (l : Addr) (zs : List Int), xs = [V.ref l] ∧ SqL K H l (zs.map V.int) ∧ zs.length < 4000 ∧
  ∀ (a : Addr) (ds : List Int), H a = none → ds.Nodup → (∀ d ∈ ds, d ∈ zs) → Q (.ref a) (upd H a (SetO w a (fun j => decide (j ∈ zs)) ds.length))
theorem cr_setI (hc : X.calm = true) : CallR X (.type "set") (rSetI X.K X.w) := by
  intro pins s σ H xs us Q I r h
  obtain ⟨l, zs, rfl, hl, few, q⟩ := h
  rw [Vals.ref1 r]
  obtain ⟨its, rv, pl, sz⟩ := I.list hl
  have nn : H s.heap.objs.size = none := I.hok.fresh (Nat.le_refl _)
  refine set_of_ints zs (I.ok.hd hc) pl.isList (by simpa using ints_of rv) (by show zs.length + 1 < 4096; omega) fun g tk c R le k => ?_
  obtain ⟨o, es, ep, t, _, _, _, _, z1, z2, _, _, z3, _⟩ := id R
  have len : (es.toList.map keyOf).length = c := by rw [List.length_map, Array.length_toList]; exact z3
  rw [← len] at R
  exact ⟨.ref s.heap.objs.size, _, I.laid (t' := tk) k (Nat.le_refl _) (setO_new R), rfl, q _ _ nn z1 fun d hd => of_decide_eq_true ((z2 d).mpr hd)⟩
def rg3V (i c : Int) (n : Nat) : List V := (List.range n).map fun k => V.int (i + ((k : Nat) : Int) * c)
def tTupRg3 (ta : TA) : TE := fun σ H Q => ta σ H fun vs H1 => ∃ (i j c : Int) (n : Nat), vs = [.int i, .int j, .int c] ∧ RgC i j c n ∧ n ≤ 1000 ∧ ∀ q, H1 q = none → Q (.ref q) (upd H1 q (.tup (rg3V i c n)))
theorem vals_rg3 {i c : Int} {n : Nat} {acc : Array Value} (h : ItemsOf (fun k v => ∃ t, v = .int (i + k * c) t) acc n) : Vals (rg3V i c n) acc.toList := by
  have len : n = acc.toList.length := by rw [Array.length_toList, h.1]
  subst len
  exact vals_of_get acc.toList (fun m => V.int (i + ((m : Nat) : Int) * c)) fun m x hm => by
    obtain ⟨t, ex⟩ := h.2 m x (by rw [← Array.getElem?_toList]; exact hm)
    exact ⟨t, ex⟩
theorem pe_tupRg3 {a b c : Expr} {ta : TA} {p p2 pos pos2 : Pos} (hc : X.calm = true) (hg : Gl X "tuple") (hm : X.mg "tuple" = none) (hgR : Gl X "range") (hmR : X.mg "range" = none) (ha : PA X [a, b, c] ta)
    (na : starEach [.Call (.Name "range" p2) [a, b, c] [] pos2] X.env = (false, eval (.Call (.Name "range" p2) [a, b, c] [] pos2) X.env) :: starEach [] X.env := by rfl)
    (hs : starEach [a, b, c] X.env = (false, eval a X.env) :: starEach [b, c] X.env := by rfl) (hpl : (backTo pos2 (starEach [b, c] X.env)).any (·.1) = false := by rfl) :
    PE X (.Call (.Name "tuple" p) [.Call (.Name "range" p2) [a, b, c] [] pos2] [] pos) (tTupRg3 ta) := by
  refine ⟨fun pins s σ H Q I h => Call_ (ld_blt I hg hm boot_tuple (PyProof.Rows.callWith_type1 (args_cons (Call_ (ld_blt I hgR hmR boot_range (PyProof.Rows.callWith_type1 (thn (ha.run pos2 pins s σ H _ I h) fun us s1 ⟨vs, H1, I1, r1, q1⟩ => ?_) hs hpl))) na) na))⟩
  obtain ⟨lo, up, st, n, rfl, ⟨z0, z1, z2, z3⟩, hn, q⟩ := q1
  obtain _ | ⟨⟨t0, rfl⟩, _ | ⟨⟨t1, rfl⟩, _ | ⟨⟨t2, rfl⟩, _ | _⟩⟩⟩ := r1
  refine call_range_3 z0 (args_nil ?_) (.inl (PyProof.noPylong_small z1))
  have J : Inv X pins σ H1 { s1 with heap := s1.heap.push { cls := .type "range", data := .fields #[.int lo t0, .int up t1, .int st t2] } } := I1.kept (t' := s1.toks) fun _ _ z => Heap.get?_push_of_some _ z
  refine call_tuple_range (n := n) (J.ok.hd hc) (IsRange.new ..) z2 z3 (by omega) fun g tk acc kp its => ?_
  have J3 : Inv X pins σ H1 { s1 with heap := g, toks := tk } := J.kept kp
  have small : (rg3V lo st n).length ≤ sizeLine := by unfold rg3V; rw [List.length_map, List.length_range, sizeLine_eq]; omega
  have new : ObjOk X.prog X.w (upd H1 g.objs.size (.tup (rg3V lo st n))) (g.push { cls := .type "tuple", data := .seq acc }) g.objs.size (.tup (rg3V lo st n)) := ⟨small, acc.toList, vals_rg3 its, (by rw [Array.toArray_toList]; exact IsTup.new _ _)⟩
  exact ⟨.ref g.objs.size, _, J3.laid (t' := tk) (fun _ _ z => Heap.get?_push_of_some _ z) (Nat.le_refl _) new, rfl, q _ (J3.hok.fresh (Nat.le_refl _))⟩
end
end Ov
namespace Ov
open PySem PySem.Spec PyProof.Rows L2 HT
theorem places_le {s : Int} (h : 1 < s) (n : Nat) : Builtin.Slice.slicePlaces 0 (n : Int) s ≤ n := by
  unfold Builtin.Slice.slicePlaces
  rw [if_pos (by omega)]
  by_cases z : (0 : Int) < (n : Int)
  · rw [if_pos z]
    have h1 : ((n : Int) - 0 - 1) / s ≤ (n : Int) - 0 - 1 := Int.ediv_le_self _ (by omega)
    omega
  · rw [if_neg z]; omega
section
variable {prog : Program} {w : World} {A : Around} {E : Value → Shared → Prop} {s : Shared}
theorem applied_step {sl : Addr} {st : Int} {tk : Tok} {n : Nat} {Q : Int × Int × Nat → Shared → Prop} (hst : 1 < st) (hs : s.heap.IsSliceOf sl .none .none (.int st tk))
    (h : Q ((0 : Int), st, Builtin.Slice.slicePlaces 0 (n : Int) st) s) : wpAny (model prog w) A (Builtin.Slice.sliceApplied (.ref sl) (pure (n : Int))) Q E s := by
  obtain ⟨os, hos, hcs, hds⟩ := id hs
  unfold Builtin.Slice.sliceApplied Builtin.Slice.sliceFields
  refine wpAny_bind (wpAny_bind (wpAny_field hos hds (x := .none) rfl (wpAny_bind (wpAny_field hos hds (x := .none) rfl (wpAny_bind (wpAny_field hos hds (x := .int st tk) rfl (wpAny_pure ?_)))))))
  refine wpAny_bind (slicePart_ (.int st tk) ?_)
  show wpAny _ _ (if (st == 0) = true then _ else _) _ _ s
  rw [if_neg (by intro q; have := eq_of_beq q; omega)]
  refine wpAny_bind (slicePart_ .none (wpAny_bind (slicePart_ .none (wpAny_bind (wpAny_pure ?_)))))
  show wpAny _ _ (match Builtin.Slice.sliceAdjust none none st (n : Int) with | (lo, hi) => pure (lo, st, Builtin.Slice.slicePlaces lo hi st)) _ _ s
  have e : Builtin.Slice.sliceAdjust none none st (n : Int) = ((0 : Int), (n : Int)) := by
    unfold Builtin.Slice.sliceAdjust
    have h1 : ¬ st < 0 := by omega
    simp only [h1, if_false]
  rw [e]
  exact wpAny_pure h
theorem getItem_tuple_step {t sl : Addr} {items : Array Value} {st : Int} {tk : Tok} {Q : Value → Shared → Prop} (hst : 1 < st) (ht : IsTup s.heap t items) (hs : s.heap.IsSliceOf sl .none .none (.int st tk))
    (h : Q (.ref s.heap.objs.size) { s with heap := s.heap.push { cls := .type "tuple", data := .seq ((List.range (Builtin.Slice.slicePlaces 0 (items.size : Int) st)).filterMap fun (m : Nat) => items[((0 : Int) + (m : Int) * st).toNat]?).toArray } })
    (hsz : items.size ≤ sizeLine) : wpAny (model prog w) A (getItem (.ref t) (.ref sl)) Q E s := by
  have htake : sizeOk (.seq ((List.range (Builtin.Slice.slicePlaces 0 (items.size : Int) st)).filterMap fun (m : Nat) => items[((0 : Int) + (m : Int) * st).toNat]?).toArray) := by
    show ((List.range (Builtin.Slice.slicePlaces 0 (items.size : Int) st)).filterMap fun (m : Nat) => items[((0 : Int) + (m : Int) * st).toNat]?).toArray.size ≤ sizeLine
    rw [List.size_toArray]
    refine Nat.le_trans (List.length_filterMap_le _ _) ?_
    rw [List.length_range]
    exact Nat.le_trans (places_le hst _) hsz
  obtain ⟨os, hos, hcs, hds⟩ := id hs
  have hTs : s.TypeIs (.ref sl) "slice" := ⟨os, hos, hcs⟩
  unfold getItem
  try with_reducible refine wpAny_holding ?_
  first | refine wpAny_bind (wpAny_pure ?_) | skip
  refine wpAny_bind (wpAny_sequenceKey ht.typeIs (by decide) ?_)
  refine wpAny_bind (wpAny_callSpecial?_slot (name := Str.ofString "__getitem__") ht.typeIs PyProof.Rows.slot_tuple_getitem
    (wpAny_call_entry PyProof.Rows.slot_tuple_getitem ht.typeIs entry_tuple_getitem ?_ (args_tuple_getitem _ _)))
  show wpAny _ _ (Builtin.Tuple.tupleItemsOf (.ref t) >>= _) _ _ s
  refine wpAny_bind (tupleItemsOf_ ht ?_)
  refine wpAny_bind (wpAny_typeOf hTs ?_)
  rw [if_pos (by decide)]
  refine wpAny_bind (applied_step hst hs ?_)
  have hno : ¬ (((0 : Int) == 0 && st == 1 && Builtin.Slice.slicePlaces 0 (items.size : Int) st == items.size) = true) := by
    intro q
    rw [Bool.and_eq_true, Bool.and_eq_true] at q
    have q1 : st = 1 := eq_of_beq q.1.2
    omega
  show wpAny _ _ (if ((0 : Int) == 0 && st == 1 && Builtin.Slice.slicePlaces 0 (items.size : Int) st == items.size) = true then _ else _) _ _ s
  rw [if_neg hno]
  first
    | exact wpAny_bind (m := Builtin.Tuple.tupleExact _) (wpAny_newObj_type (wpAny_pure ⟨_, rfl, wpAny_pure h⟩) htake)
    | exact wpAny_bind (m := Builtin.Tuple.tupleExact _) (wpAny_newObj_type (wpAny_bind (wpAny_pure (wpAny_pure ⟨_, rfl, wpAny_pure h⟩))) htake)
    | exact wpAny_bind (wpAny_bind (m := Builtin.Tuple.tupleExact _) (wpAny_newObj_type (wpAny_pure (wpAny_pure ⟨_, rfl, wpAny_pure h⟩)) htake))
    | exact wpAny_bind (wpAny_bind (m := Builtin.Tuple.tupleExact _) (wpAny_newObj_type (wpAny_pure ⟨_, rfl, wpAny_pure h⟩) htake))
end
theorem vals_get : ∀ {xs : List V} {us : List Value}, Vals xs us → ∀ i : Nat, (xs[i]? = none ∧ us[i]? = none) ∨ ∃ x u, xs[i]? = some x ∧ us[i]? = some u ∧ RelV x u
  | _, _, .nil, i => .inl ⟨rfl, rfl⟩
  | _, _, .cons h r, 0 => .inr ⟨_, _, rfl, rfl, h⟩
  | _, _, .cons h r, i + 1 => vals_get r i
theorem vals_fm {xs : List V} {us : List Value} (r : Vals xs us) (f : Nat → Nat) : ∀ ks : List Nat, Vals (ks.filterMap fun m => xs[f m]?) (ks.filterMap fun m => us[f m]?)
  | [] => .nil
  | m :: ks => by
    rcases vals_get r (f m) with ⟨h1, h2⟩ | ⟨x, u, h1, h2, hr⟩
    · rw [List.filterMap_cons_none (f := fun m => xs[f m]?) h1, List.filterMap_cons_none (f := fun m => us[f m]?) h2]
      exact vals_fm r f ks
    · rw [List.filterMap_cons_some (f := fun m => xs[f m]?) h1, List.filterMap_cons_some (f := fun m => us[f m]?) h2]
      exact .cons hr (vals_fm r f ks)
section
variable {X : Cx} {e e2 : Expr} {te t2 : TE} {p2 pos : Pos}
theorem pe_stepT (he : PE X e te) (h2 : PE X e2 t2) : PE X (.Subscript e (.Slice none none (some e2) p2) pos) (fun σ H Q => te σ H fun x H1 => t2 σ H1 fun y H2 => ∃ (st : Int), y = .int st ∧ 1 < st ∧ ∃ a xs, x = .ref a ∧ SqT X.K H2 a xs ∧ ∀ p ys, H2 p = none → (∀ z ∈ ys, z ∈ xs) → Q (.ref p) (upd H2 p (.tup ys))) := by
  refine ⟨fun pins s σ H Q I h => ?_⟩
  refine Subscript_ (thn (he.run pins s σ H _ I h) fun v s1 ⟨x, H1, I1, r1, q1⟩ => ?_)
  refine wpAny_Slice ?_
  rw [evalPart_none]
  refine wpAny_pure (wpAny_pure ?_)
  rw [evalPart_some]
  refine thn (h2.run pins s1 σ H1 _ I1 q1) fun u s2 ⟨y, H2, I2, r2, q2⟩ => ?_
  obtain ⟨st, rfl, hst, a, xs, rfl, hx, q⟩ := q2
  obtain ⟨tk, rfl⟩ := r2
  cases r1
  have I4 : Inv X pins σ H2 { s2 with heap := s2.heap.push { cls := .type "slice", data := .fields #[.none, .none, .int st tk] } } := I2.kept (t' := s2.toks) fun b ob q => Heap.get?_push_of_some _ q
  obtain ⟨its, r, ht, hz⟩ := I4.tuple hx
  have hlen : its.toArray.size = xs.length := by rw [List.size_toArray]; exact r.length.symm
  refine tail_any (ops := [.ref a, .ref s2.heap.objs.size]) ht.typeIs PyProof.Rows.slot_tuple_getitem.lookup ?_ (by with_unfolding_all rfl)
  refine getItem_tuple_step hst ht (Heap.IsSliceOf.new ..) ?_ (by rw [hlen]; exact hz)
  have ef : (fun (m : Nat) => its.toArray[((0 : Int) + (m : Int) * st).toNat]?) = fun (m : Nat) => its[((0 : Int) + (m : Int) * st).toNat]? := by
    funext m
    exact List.getElem?_toArray
  rw [ef]
  have vr := vals_fm r (fun m => ((0 : Int) + (m : Int) * st).toNat) (List.range (Builtin.Slice.slicePlaces 0 (its.toArray.size : Int) st))
  refine ⟨.ref _, _, I4.laid (t' := s2.toks) (o := .tup ((List.range (Builtin.Slice.slicePlaces 0 (its.toArray.size : Int) st)).filterMap fun (m : Nat) => xs[((0 : Int) + (m : Int) * st).toNat]?)) (fun b ob q => Heap.get?_push_of_some _ q) (Nat.le_refl _) ?_, rfl, q _ _ (I4.hok.fresh (Nat.le_refl _)) fun z hz => ?_⟩
  · refine ⟨?_, _, vr, IsTup.new _ _⟩
    refine Nat.le_trans (List.length_filterMap_le _ _) ?_
    rw [List.length_range]
    exact Nat.le_trans (places_le hst _) (by rw [hlen]; exact hz)
  · obtain ⟨m, _, hm⟩ := List.mem_filterMap.mp hz
    exact List.mem_of_getElem? hm
end
end Ov
namespace Ov
/-- a sum of the lengths -/
inductive Sum (ls : List Nat) : Nat → Prop
  | zero : Sum ls 0
  | add {l s : Nat} : l ∈ ls → Sum ls s → Sum ls (s + l)
theorem Sum.mono {ls ks : List Nat} (h : ∀ l ∈ ls, l ∈ ks) {s : Nat} (a : Sum ls s) : Sum ks s := by
  induction a with
  | zero => exact .zero
  | add hl _ ih => exact .add (h _ hl) ih
theorem Sum.plus {ls : List Nat} {s t : Nat} (a : Sum ls s) (b : Sum ls t) : Sum ls (s + t) := by
  induction b with
  | zero => exact a
  | add hl _ ih => rw [← Nat.add_assoc]; exact .add hl ih
theorem Sum.times {ls : List Nat} {l : Nat} (h : l ∈ ls) : ∀ (j : Nat), Sum ls (j * l)
  | 0 => by rw [Nat.zero_mul]; exact .zero
  | j + 1 => by rw [Nat.succ_mul]; exact .add h (Sum.times h j)
theorem Sum.step {ls : List Nat} {w : Nat} : Sum ls w ↔ w = 0 ∨ ∃ l ∈ ls, l ≤ w ∧ Sum ls (w - l) := by
  constructor
  · intro a
    cases a with
    | zero => exact .inl rfl
    | @add l s hl hs => exact .inr ⟨l, hl, Nat.le_add_left _ _, by rw [Nat.add_sub_cancel]; exact hs⟩
  · rintro (rfl | ⟨l, hl, hw, hs⟩)
    · exact .zero
    · have := Sum.add hl hs
      rwa [Nat.sub_add_cancel hw] at this
/-- one more length: a sum of the others and so many of it -/
theorem Sum.snoc {ls : List Nat} {L s : Nat} : Sum (ls ++ [L]) s ↔ ∃ j t, Sum ls t ∧ s = t + j * L := by
  constructor
  · intro a
    induction a with
    | zero => exact ⟨0, 0, .zero, by simp⟩
    | @add l s hl _ ih =>
      obtain ⟨j, t, ht, rfl⟩ := ih
      rcases List.mem_append.mp hl with h | h
      · exact ⟨j, t + l, .add h ht, by omega⟩
      · have : l = L := by simpa using h
        subst this
        exact ⟨j + 1, t, ht, by rw [Nat.succ_mul]; omega⟩
  · rintro ⟨j, t, ht, rfl⟩
    exact (ht.mono fun l h => List.mem_append_left _ h).plus (Sum.times (List.mem_append_right _ (List.mem_singleton.mpr rfl)) j)
theorem Sum.single {m s : Nat} : Sum [m] s ↔ ∃ j, s = j * m := by
  have := @Sum.snoc [] m s
  rw [List.nil_append] at this
  rw [this]
  constructor
  · rintro ⟨j, t, ht, rfl⟩
    have : t = 0 := by
      cases ht with
      | zero => rfl
      | add h _ => cases h
    exact ⟨j, by omega⟩
  · rintro ⟨j, rfl⟩
    exact ⟨j, 0, .zero, by omega⟩
/-- a is at most b, where none is above all -/
def leO (a b : Option Nat) : Prop := ∀ y, b = some y → ∃ x, a = some x ∧ x ≤ y
theorem leO.rfl {a : Option Nat} : leO a a := fun y h => ⟨y, h, Nat.le_refl _⟩
theorem leO.trans {a b c : Option Nat} (h : leO a b) (k : leO b c) : leO a c := fun z hz => by
  obtain ⟨y, hy, hyz⟩ := k z hz
  obtain ⟨x, hx, hxy⟩ := h y hy
  exact ⟨x, hx, Nat.le_trans hxy hyz⟩
def leL (a b : List (Option Nat)) : Prop := a.length = b.length ∧ ∀ r, leO (a.getD r none) (b.getD r none)
theorem leL.rfl {a : List (Option Nat)} : leL a a := ⟨_root_.rfl, fun _ => leO.rfl⟩
theorem leL.trans {a b c : List (Option Nat)} (h : leL a b) (k : leL b c) : leL a c := ⟨h.1.trans k.1, fun r => (h.2 r).trans (k.2 r)⟩
/-- one step of the walk: what is reached at r, and the length, at the remainder that follows -/
def relax (L r f : Nat) (a : List (Option Nat)) : List (Option Nat) :=
  match a.getD r none with
  | none => a
  | some x => match a.getD f none with
    | none => a.set f (some (x + L))
    | some y => if x + L < y then a.set f (some (x + L)) else a
theorem getD_set {α : Type} (a : List α) (f r : Nat) (v d : α) : (a.set f v).getD r d = if f = r ∧ r < a.length then v else a.getD r d := by
  simp only [List.getD_eq_getElem?_getD, List.getElem?_set]
  by_cases h : f = r
  · subst h
    by_cases h2 : f < a.length
    · simp [h2]
    · simp [h2, List.getElem?_eq_none (Nat.le_of_not_lt h2)]
  · simp [h]
theorem relax_len (L r f : Nat) (a : List (Option Nat)) : (relax L r f a).length = a.length := by
  unfold relax
  split
  · rfl
  · split
    · simp
    · split <;> simp
theorem relax_le (L r f : Nat) (a : List (Option Nat)) : leL (relax L r f a) a := by
  refine ⟨relax_len .., fun q => ?_⟩
  unfold relax
  split
  · exact leO.rfl
  · rename_i x _
    split
    · rename_i hf
      rw [getD_set]
      by_cases c : f = q ∧ q < a.length
      · rw [if_pos c, ← c.1, hf]
        intro y h; cases h
      · rw [if_neg c]; exact leO.rfl
    · rename_i y hf
      split
      · rename_i hlt
        rw [getD_set]
        by_cases c : f = q ∧ q < a.length
        · rw [if_pos c, ← c.1, hf]
          intro z h
          cases h
          exact ⟨_, rfl, Nat.le_of_lt hlt⟩
        · rw [if_neg c]; exact leO.rfl
      · exact leO.rfl
theorem relax_at (L r f : Nat) (a : List (Option Nat)) (hf : f < a.length) : leO ((relax L r f a).getD f none) ((a.getD r none).map (· + L)) := by
  unfold relax
  split
  · rename_i h
    rw [h]
    intro y h; cases h
  · rename_i x h
    rw [h]
    split
    · rw [getD_set, if_pos ⟨rfl, hf⟩]
      exact leO.rfl
    · rename_i y hy
      split
      · rw [getD_set, if_pos ⟨rfl, hf⟩]
        exact leO.rfl
      · rename_i hn
        rw [hy]
        intro z hz
        have : x + L = z := Option.some.inj hz
        exact ⟨y, rfl, by omega⟩
/-- every entry is of S and has its remainder -/
def Sound (S : Nat → Prop) (m : Nat) (a : List (Option Nat)) : Prop := ∀ r x, a.getD r none = some x → S x ∧ x % m = r
theorem relax_sound {S : Nat → Prop} {m L r : Nat} {a : List (Option Nat)} (hS : ∀ x, S x → S (x + L)) (h : Sound S m a) : Sound S m (relax L r ((r + L) % m) a) := by
  have key : ∀ x, a.getD r none = some x → S (x + L) ∧ (x + L) % m = (r + L) % m := fun x hx => by
    obtain ⟨h1, h2⟩ := h r x hx
    refine ⟨hS x h1, ?_⟩
    rw [← h2, Nat.add_mod (x % m), Nat.mod_mod, ← Nat.add_mod]
  intro q z hz
  unfold relax at hz
  split at hz
  · exact h q z hz
  · rename_i x hx
    obtain ⟨k1, k2⟩ := key x hx
    split at hz
    · rw [getD_set] at hz
      by_cases c : (r + L) % m = q ∧ q < a.length
      · rw [if_pos c] at hz
        cases hz
        exact ⟨k1, k2.trans c.1⟩
      · rw [if_neg c] at hz; exact h q z hz
    · split at hz
      · rw [getD_set] at hz
        by_cases c : (r + L) % m = q ∧ q < a.length
        · rw [if_pos c] at hz
          cases hz
          exact ⟨k1, k2.trans c.1⟩
        · rw [if_neg c] at hz; exact h q z hz
      · exact h q z hz
/-- so many steps from r on: the list, and where the walk stands -/
def steps (L m : Nat) : Nat → Nat → List (Option Nat) → List (Option Nat) × Nat
  | 0, r, a => (a, r)
  | t + 1, r, a => let q := steps L m t r a; (relax L q.2 ((q.2 + L) % m) q.1, (q.2 + L) % m)
theorem steps_at (L m : Nat) (r : Nat) (a : List (Option Nat)) (hr : r < m) : ∀ t, (steps L m t r a).2 = (r + t * L) % m
  | 0 => by simp [steps, Nat.mod_eq_of_lt hr]
  | t + 1 => by
    show ((steps L m t r a).2 + L) % m = _
    rw [steps_at L m r a hr t, Nat.add_mod ((r + t * L) % m), Nat.mod_mod, ← Nat.add_mod, Nat.succ_mul, Nat.add_assoc]
theorem steps_le (L m : Nat) (r : Nat) (a : List (Option Nat)) : ∀ t, leL (steps L m t r a).1 a
  | 0 => leL.rfl
  | t + 1 => (relax_le ..).trans (steps_le L m r a t)
theorem steps_le' (L m : Nat) (r : Nat) (a : List (Option Nat)) (t : Nat) : ∀ d, leL (steps L m (t + d) r a).1 (steps L m t r a).1
  | 0 => leL.rfl
  | d + 1 => (relax_le ..).trans (steps_le' L m r a t d)
theorem steps_sound {S : Nat → Prop} {m L : Nat} {r : Nat} {a : List (Option Nat)} (hS : ∀ x, S x → S (x + L)) (h : Sound S m a) : ∀ t, Sound S m (steps L m t r a).1
  | 0 => h
  | t + 1 => relax_sound hS (steps_sound hS h t)
/-- what stands at the p-th place goes j steps on -/
theorem steps_far {L m : Nat} {r : Nat} {a : List (Option Nat)} (hm : 0 < m) (hl : a.length = m) (hr : r < m) (p : Nat) {y : Nat} (hy : a.getD ((r + p * L) % m) none = some y) :
    ∀ j, ∃ x, ((steps L m (p + j) r a).1).getD ((r + (p + j) * L) % m) none = some x ∧ x ≤ y + j * L
  | 0 => by
    obtain ⟨x, hx, hxy⟩ := (steps_le L m r a p).2 _ y hy
    exact ⟨x, hx, by omega⟩
  | j + 1 => by
    obtain ⟨x, hx, hxy⟩ := steps_far hm hl hr p hy j
    have hp := steps_at L m r a hr (p + j)
    have hlen : (steps L m (p + j) r a).1.length = m := (steps_le L m r a (p + j)).1.trans hl
    have e : (r + (p + (j + 1)) * L) % m = ((steps L m (p + j) r a).2 + L) % m := by
      rw [hp, Nat.add_mod ((r + (p + j) * L) % m), Nat.mod_mod, ← Nat.add_mod, ← Nat.add_assoc p j 1, Nat.succ_mul, Nat.add_assoc]
    rw [e]
    show ∃ x', (relax L (steps L m (p + j) r a).2 (((steps L m (p + j) r a).2 + L) % m) (steps L m (p + j) r a).1).getD _ none = some x' ∧ _
    have := relax_at L (steps L m (p + j) r a).2 (((steps L m (p + j) r a).2 + L) % m) (steps L m (p + j) r a).1 (by rw [hlen]; exact Nat.mod_lt _ hm)
    obtain ⟨x', hx', h2⟩ := this (x + L) (by rw [hp, hx]; rfl)
    exact ⟨x', hx', by rw [Nat.succ_mul]; omega⟩
theorem bezout (a b : Nat) : ∃ x y : Int, x * a + y * b = (Nat.gcd a b : Int) := by
  induction a, b using Nat.gcd.induction with
  | H0 n => exact ⟨0, 1, by simp⟩
  | H1 m n hm ih =>
    obtain ⟨x, y, h⟩ := ih
    refine ⟨y - x * ((n / m : Nat) : Int), x, ?_⟩
    rw [Nat.gcd_rec m n, ← h]
    have e : (n : Int) = (m : Int) * ((n / m : Nat) : Int) + ((n % m : Nat) : Int) := by
      have := Nat.div_add_mod n m
      exact_mod_cast this.symm
    conv => lhs; rw [e]
    rw [Int.sub_mul, Int.mul_add, Int.mul_assoc x, Int.mul_comm (m : Int) ((n / m : Nat) : Int)]
    omega
theorem bezout_mod (m L : Nat) (hm : 0 < m) : ∃ u : Nat, (u * L) % m = Nat.gcd m L % m := by
  obtain ⟨x, y, h⟩ := bezout m L
  refine ⟨(y % m).toNat, ?_⟩
  have hm' : (m : Int) ≠ 0 := by omega
  have hy : 0 ≤ y % (m : Int) := Int.emod_nonneg _ hm'
  have e : ((((y % (m : Int)).toNat * L : Nat) : Int)) % (m : Int) = ((Nat.gcd m L : Nat) : Int) % (m : Int) := by
    rw [Int.natCast_mul, Int.toNat_of_nonneg hy, ← h, Int.mul_emod, Int.emod_emod_of_dvd _ (Int.dvd_refl _), ← Int.mul_emod, Int.add_comm, Int.add_mul_emod_self_right]
  exact_mod_cast e
/-- from the class of r the walk comes by r -/
theorem comes_by (m L r : Nat) (hm : 0 < m) (hr : r < m) : ∃ p, p < m / Nat.gcd m L ∧ (r % Nat.gcd m L + p * L) % m = r := by
  obtain ⟨u, hu⟩ := bezout_mod m L hm
  have hg : 0 < Nat.gcd m L := Nat.gcd_pos_of_pos_left _ hm
  obtain ⟨c, hc⟩ := Nat.gcd_dvd_left m L
  obtain ⟨k, hk⟩ := Nat.gcd_dvd_right m L
  generalize hgg : Nat.gcd m L = g at *
  have hcd : m / g = c := by rw [hc]; exact Nat.mul_div_cancel_left _ hg
  have hcpos : 0 < c := by
    rcases Nat.eq_zero_or_pos c with h | h
    · rw [h] at hc; omega
    · exact h
  refine ⟨(u * (r / g)) % c, by rw [hcd]; exact Nat.mod_lt _ hcpos, ?_⟩
  -- ((u (r/g)) % c) L ≡ u (r/g) L
  have e1 : ((u * (r / g)) % c * L) % m = (u * (r / g) * L) % m := by
    have d := Nat.div_add_mod (u * (r / g)) c
    have : u * (r / g) * L = (u * (r / g)) % c * L + m * ((u * (r / g)) / c * k) := by
      calc u * (r / g) * L = (c * (u * (r / g) / c) + u * (r / g) % c) * L := by rw [d]
        _ = (u * (r / g)) % c * L + c * (u * (r / g) / c) * L := by rw [Nat.add_mul, Nat.add_comm]
        _ = (u * (r / g)) % c * L + m * ((u * (r / g)) / c * k) := by
          congr 1
          conv => lhs; rw [hk]
          conv => rhs; rw [hc]
          simp only [Nat.mul_comm, Nat.mul_left_comm]
    rw [this, Nat.add_mul_mod_self_left]
  have e2 : (u * (r / g) * L) % m = (g * (r / g)) % m := by
    rw [Nat.mul_right_comm, Nat.mul_mod, hu, ← Nat.mul_mod]
  rw [Nat.add_mod, e1, e2, ← Nat.add_mod, Nat.mod_add_div, Nat.mod_eq_of_lt hr]
end Ov
namespace Ov
/-- the walks from the first k places, one behind another -/
def walks (L m T : Nat) : Nat → List (Option Nat) → List (Option Nat)
  | 0, a => a
  | k + 1, a => (steps L m T k (walks L m T k a)).1
def withLen (L : Nat) (a : List (Option Nat)) : List (Option Nat) :=
  walks L a.length (2 * (a.length / Nat.gcd a.length L)) (Nat.gcd a.length L) a
theorem walks_le (L m T : Nat) (a : List (Option Nat)) : ∀ k, leL (walks L m T k a) a
  | 0 => leL.rfl
  | k + 1 => (steps_le ..).trans (walks_le L m T a k)
theorem walks_le' (L m T : Nat) (a : List (Option Nat)) (k : Nat) : ∀ d, leL (walks L m T (k + d) a) (walks L m T k a)
  | 0 => leL.rfl
  | d + 1 => (steps_le ..).trans (walks_le' L m T a k d)
theorem walks_sound {S : Nat → Prop} {m L T : Nat} {a : List (Option Nat)} (hS : ∀ x, S x → S (x + L)) (h : Sound S m a) : ∀ k, Sound S m (walks L m T k a)
  | 0 => h
  | k + 1 => steps_sound hS (walks_sound hS h k) T
theorem withLen_len (L : Nat) (a : List (Option Nat)) : (withLen L a).length = a.length := (walks_le ..).1
/-- what stands at r goes j steps on, j less than a whole round -/
theorem withLen_far {L : Nat} {a : List (Option Nat)} (hm : 0 < a.length) {r y j : Nat} (hr : r < a.length) (hy : a.getD r none = some y) (hj : j < a.length / Nat.gcd a.length L) :
    ∃ x, (withLen L a).getD ((r + j * L) % a.length) none = some x ∧ x ≤ y + j * L := by
  obtain ⟨p, hp, e⟩ := comes_by a.length L r hm hr
  have hg : 0 < Nat.gcd a.length L := Nat.gcd_pos_of_pos_left _ hm
  unfold withLen
  generalize hT : 2 * (a.length / Nat.gcd a.length L) = T
  have hk : r % Nat.gcd a.length L < Nat.gcd a.length L := Nat.mod_lt _ hg
  generalize hk0 : r % Nat.gcd a.length L = k at *
  obtain ⟨d, hd⟩ : ∃ d, Nat.gcd a.length L = (k + 1) + d := ⟨Nat.gcd a.length L - (k + 1), by omega⟩
  have hkm : k < a.length := Nat.lt_of_lt_of_le hk (Nat.le_of_dvd hm (Nat.gcd_dvd_left _ _))
  have hb : (walks L a.length T k a).length = a.length := (walks_le ..).1
  obtain ⟨y', hy', hle⟩ := (walks_le L a.length T a k).2 r y hy
  obtain ⟨x, hx, hxy⟩ := steps_far (L := L) (m := a.length) (r := k) (a := walks L a.length T k a) hm hb hkm p (y := y') (by rw [e]; exact hy') j
  have ej : (k + (p + j) * L) % a.length = (r + j * L) % a.length := by
    rw [Nat.add_mul, ← Nat.add_assoc, Nat.add_mod, e]
    conv => rhs; rw [Nat.add_mod, Nat.mod_eq_of_lt hr]
  rw [ej] at hx
  have l1 := steps_le' L a.length k (walks L a.length T k a) (p + j) (T - (p + j))
  rw [show p + j + (T - (p + j)) = T by omega] at l1
  have l2 := walks_le' L a.length T a (k + 1) d
  rw [← hd] at l2
  obtain ⟨x2, h2, h2'⟩ := (l2.trans l1).2 _ x hx
  exact ⟨x2, h2, by omega⟩
/-- a list tells the least members of S by their remainders -/
structure Rep (S : Nat → Prop) (a : List (Option Nat)) : Prop where
  pos : 0 < a.length
  sound : Sound S a.length a
  least : ∀ s, S s → ∃ x, a.getD (s % a.length) none = some x ∧ x ≤ s
theorem Rep.one {m : Nat} (hm : 0 < m) : Rep (Sum [m]) (some 0 :: List.replicate (m - 1) none) := by
  have hl : (some 0 :: List.replicate (m - 1) (none : Option Nat)).length = m := by simp; omega
  refine ⟨by simp, fun r x h => ?_, fun s hs => ?_⟩
  · rw [hl]
    cases r with
    | zero =>
      have : some 0 = some x := h
      cases this
      exact ⟨.zero, Nat.zero_mod _⟩
    | succ r =>
      exfalso
      rw [List.getD_eq_getElem?_getD, List.getElem?_cons_succ, List.getElem?_replicate] at h
      split at h <;> simp at h
  · obtain ⟨j, rfl⟩ := Sum.single.mp hs
    rw [hl, Nat.mul_mod_left]
    exact ⟨0, rfl, Nat.zero_le _⟩
theorem Rep.more {ls : List Nat} {L m : Nat} {a : List (Option Nat)} (h : Rep (Sum ls) a) (hm : a.length = m) (hin : m ∈ ls) : Rep (Sum (ls ++ [L])) (withLen L a) := by
  have hl := withLen_len L a
  have hp := h.pos
  refine ⟨by rw [hl]; exact hp, ?_, fun s hs => ?_⟩
  · rw [hl]
    refine walks_sound (fun x hx => .add (List.mem_append_right _ (List.mem_singleton.mpr rfl)) hx) (fun r x e => ?_) _
    obtain ⟨h1, h2⟩ := h.sound r x e
    exact ⟨h1.mono fun l hl => List.mem_append_left _ hl, h2⟩
  · rw [hl]
    obtain ⟨j, t, ht, rfl⟩ := Sum.snoc.mp hs
    -- less than a whole round of L's
    have hg : 0 < Nat.gcd a.length L := Nat.gcd_pos_of_pos_left _ hp
    obtain ⟨c, hc⟩ := Nat.gcd_dvd_left a.length L
    obtain ⟨k, hk⟩ := Nat.gcd_dvd_right a.length L
    have hcd : a.length / Nat.gcd a.length L = c := by
      generalize Nat.gcd a.length L = g at *
      rw [hc]
      exact Nat.mul_div_cancel_left _ hg
    have hcpos : 0 < c := by
      rcases Nat.eq_zero_or_pos c with h | h
      · rw [h] at hc; omega
      · exact h
    have ecL : c * L = k * a.length := by
      generalize Nat.gcd a.length L = g at *
      rw [hk, hc]
      simp only [Nat.mul_comm, Nat.mul_left_comm]
    have e : t + j * L = (t + (j / c * k) * a.length) + (j % c) * L := by
      have d := Nat.div_add_mod j c
      calc t + j * L = t + (c * (j / c) + j % c) * L := by rw [d]
        _ = t + (j / c * (c * L) + j % c * L) := by
          rw [Nat.add_mul]; congr 2; rw [Nat.mul_comm c, Nat.mul_assoc]
        _ = _ := by rw [ecL]; rw [Nat.mul_assoc]; omega
    have ht' : Sum ls (t + (j / c * k) * a.length) := ht.plus (by rw [hm]; exact Sum.times hin _)
    obtain ⟨y, hy, hyt⟩ := h.least _ ht'
    obtain ⟨x, hx, hxy⟩ := withLen_far (L := L) hp (Nat.mod_lt _ hp) hy (j := j % c) (by rw [hcd]; exact Nat.mod_lt _ hcpos)
    refine ⟨x, ?_, by rw [e]; omega⟩
    rw [e]
    rw [Nat.add_mod, Nat.mod_mod, ← Nat.add_mod] at hx
    exact hx
/-- the least sums of lengths -/
def leasts : List Nat → List (Option Nat)
  | [] => []
  | m :: ls => ls.foldl (fun a L => withLen L a) (some 0 :: List.replicate (m - 1) none)
theorem fold_rep : ∀ (ls pre : List Nat) (a : List (Option Nat)) (m : Nat), Rep (Sum pre) a → a.length = m → m ∈ pre → Rep (Sum (pre ++ ls)) (ls.foldl (fun a L => withLen L a) a) ∧ (ls.foldl (fun a L => withLen L a) a).length = m
  | [], pre, a, m, h, hm, _ => by simpa using ⟨h, hm⟩
  | L :: ls, pre, a, m, h, hm, hin => by
    have := fold_rep ls (pre ++ [L]) (withLen L a) m (h.more hm hin) ((withLen_len L a).trans hm) (List.mem_append_left _ hin)
    rw [List.append_assoc] at this
    exact this
theorem leasts_rep {m : Nat} (hm : 0 < m) (ls : List Nat) : Rep (Sum (m :: ls)) (leasts (m :: ls)) ∧ (leasts (m :: ls)).length = m :=
  fold_rep ls [m] _ m (Rep.one hm) (by simp; omega) (List.mem_singleton.mpr rfl)
/-- whether a total is a sum, by the least sums -/
def reached (a : List (Option Nat)) (t : Nat) : Bool :=
  if a.length = 0 then t == 0 else match a.getD (t % a.length) none with
    | none => false
    | some x => decide (x ≤ t)
theorem Rep.iff {S : Nat → Prop} {a : List (Option Nat)} (h : Rep S a) (hc : ∀ x, S x → S (x + a.length)) (t : Nat) : reached a t = true ↔ S t := by
  unfold reached
  rw [if_neg (by have := h.pos; omega)]
  have many : ∀ (k x : Nat), S x → S (x + k * a.length) := by
    intro k
    induction k with
    | zero => intro x hx; simpa using hx
    | succ k ih => intro x hx; rw [Nat.succ_mul, ← Nat.add_assoc]; exact hc _ (ih x hx)
  constructor
  · intro e
    split at e
    · cases e
    · rename_i x hx
      obtain ⟨h1, h2⟩ := h.sound _ x hx
      have hle : x ≤ t := of_decide_eq_true e
      have : t = x + (t / a.length - x / a.length) * a.length := by
        have d1 := Nat.div_add_mod t a.length
        have d2 := Nat.div_add_mod x a.length
        rw [h2] at d2
        have hd : x / a.length ≤ t / a.length := Nat.div_le_div_right hle
        rw [Nat.sub_mul, Nat.mul_comm (t / a.length), Nat.mul_comm (x / a.length)]
        have : a.length * (x / a.length) ≤ a.length * (t / a.length) := Nat.mul_le_mul_left _ hd
        omega
      rw [this]
      exact many _ _ h1
  · intro hs
    obtain ⟨x, hx, hxt⟩ := h.least t hs
    rw [hx]
    exact decide_eq_true hxt
theorem isSum_iff (ls : List Nat) (hpos : ∀ l ∈ ls, 0 < l) (t : Nat) : reached (leasts ls) t = true ↔ Sum ls t := by
  cases ls with
  | nil =>
    show (t == 0) = true ↔ _
    constructor
    · intro h
      have : t = 0 := by simpa using h
      rw [this]; exact .zero
    · intro h
      cases h with
      | zero => rfl
      | add h _ => cases h
  | cons m ls =>
    have hm : 0 < m := hpos m List.mem_cons_self
    obtain ⟨h, hl⟩ := leasts_rep hm ls
    exact h.iff (fun x hx => by rw [hl]; exact .add List.mem_cons_self hx) t
end Ov
namespace Ov
theorem countP_le {α : Type} {p q : α → Bool} : ∀ {l : List α}, (∀ x ∈ l, p x = true → q x = true) → l.countP p ≤ l.countP q
  | [], _ => Nat.le_refl _
  | x :: l, h => by
    have ih := countP_le (l := l) fun y hy => h y (List.mem_cons_of_mem _ hy)
    have hx := h x List.mem_cons_self
    rw [List.countP_cons, List.countP_cons]
    cases hp : p x
    · simp only [Bool.false_eq_true, if_false]
      omega
    · rw [hx hp]; omega
theorem countP_lt {α : Type} {p q : α → Bool} : ∀ {l : List α} (x : α), x ∈ l → p x = false → q x = true → (∀ x ∈ l, p x = true → q x = true) → l.countP p < l.countP q
  | [], _, hx, _, _, _ => by cases hx
  | y :: l, x, hx, h1, h2, h => by
    rw [List.countP_cons, List.countP_cons]
    have hy := h y List.mem_cons_self
    rcases List.mem_cons.mp hx with e | hx
    · subst e
      have ih := countP_le (l := l) fun y hy => h y (List.mem_cons_of_mem _ hy)
      rw [h1, h2]
      simp only [Bool.false_eq_true, if_false, if_true]
      omega
    · have ih := countP_lt x hx h1 h2 fun y hy => h y (List.mem_cons_of_mem _ hy)
      cases hp : p y
      · simp only [Bool.false_eq_true, if_false]
        omega
      · rw [hy hp]; omega
/-- an entry below x -/
def below (x : Nat) : Option Nat → Bool
  | some y => decide (y < x)
  | none => false
theorem mem_of_getD {a : List (Option Nat)} {r x : Nat} (h : a.getD r none = some x) : some x ∈ a := by
  rw [List.getD_eq_getElem?_getD] at h
  cases e : a[r]? with
  | none => rw [e] at h; cases h
  | some o =>
    rw [e] at h
    have : o = some x := h
    rw [← this]
    exact List.mem_of_getElem? e
theorem rank_bound {ls : List Nat} {a : List (Option Nat)} (h : Rep (Sum ls) a) {M : Nat} (hM : ∀ l ∈ ls, 0 < l ∧ l ≤ M) : ∀ (x r : Nat), a.getD r none = some x → x ≤ a.countP (below x) * M := by
  intro x
  induction x using Nat.strongRecOn with
  | ind x ih =>
    intro r hr
    rcases Nat.eq_zero_or_pos x with h0 | h0
    · omega
    obtain ⟨sx, rx⟩ := h.sound r x hr
    rcases Sum.step.mp sx with h1 | ⟨l, hl, hlx, sy⟩
    · omega
    obtain ⟨l0, lM⟩ := hM l hl
    obtain ⟨z, hz, hzy⟩ := h.least _ sy
    obtain ⟨sz, rz⟩ := h.sound _ z hz
    have ezy : z = x - l := by
      rcases Nat.lt_or_ge z (x - l) with c | c
      · exfalso
        obtain ⟨x', hx', hle⟩ := h.least (z + l) (.add hl sz)
        have em : (z + l) % a.length = r := by
          rw [Nat.add_mod, rz, ← Nat.add_mod, Nat.sub_add_cancel hlx, rx]
        rw [em, hr] at hx'
        have : x = x' := Option.some.inj hx'
        omega
      · omega
    subst ezy
    have hy := ih (x - l) (by omega) _ hz
    have hlt : a.countP (below (x - l)) < a.countP (below x) := by
      refine countP_lt (some (x - l)) (mem_of_getD hz) ?_ ?_ ?_
      · exact decide_eq_false (Nat.lt_irrefl _)
      · exact decide_eq_true (by omega)
      · intro o _ ho
        cases o with
        | none => cases ho
        | some y =>
          have := of_decide_eq_true ho
          exact decide_eq_true (by omega)
    have := Nat.mul_le_mul_right M (Nat.succ_le_of_lt hlt)
    rw [Nat.succ_mul] at this
    omega
theorem least_le {ls : List Nat} {a : List (Option Nat)} (h : Rep (Sum ls) a) {M : Nat} (hM : ∀ l ∈ ls, 0 < l ∧ l ≤ M) {x r : Nat} (hr : a.getD r none = some x) : x ≤ (a.length - 1) * M := by
  have h1 := rank_bound h hM x r hr
  have h2 : a.countP (below x) < a.length := by
    have : a.countP (below x) < a.countP (fun _ => true) := countP_lt (some x) (mem_of_getD hr) (decide_eq_false (Nat.lt_irrefl _)) rfl fun _ _ _ => rfl
    rwa [List.countP_true] at this
  exact Nat.le_trans h1 (Nat.mul_le_mul_right M (by omega))
def gcdAll (ls : List Nat) : Nat := ls.foldl Nat.gcd 0
theorem foldl_gcd_dvd : ∀ (ls : List Nat) (g : Nat), ls.foldl Nat.gcd g ∣ g ∧ ∀ l ∈ ls, ls.foldl Nat.gcd g ∣ l
  | [], g => ⟨Nat.dvd_refl _, (fun _ h => nomatch h)⟩
  | l :: ls, g => by
    obtain ⟨h1, h2⟩ := foldl_gcd_dvd ls (Nat.gcd g l)
    refine ⟨Nat.dvd_trans h1 (Nat.gcd_dvd_left g l), fun x hx => ?_⟩
    rcases List.mem_cons.mp hx with rfl | hx
    · exact Nat.dvd_trans h1 (Nat.gcd_dvd_right _ _)
    · exact h2 x hx
theorem gcdAll_dvd {ls : List Nat} {l : Nat} (h : l ∈ ls) : gcdAll ls ∣ l := (foldl_gcd_dvd ls 0).2 l h
end Ov
namespace Ov
theorem res_step {all : List Nat} {m : Nat} (hm : 0 < m) : ∀ (rest : List Nat) (g A : Nat), Sum all A → A % m = g % m → (∀ l ∈ rest, l ∈ all) → ∃ B, Sum all B ∧ B % m = (rest.foldl Nat.gcd g) % m
  | [], g, A, hA, e, _ => ⟨A, hA, e⟩
  | l :: rest, g, A, hA, e, hl => by
    obtain ⟨x, y, h⟩ := bezout g l
    have hm' : (m : Int) ≠ 0 := by omega
    have hx : 0 ≤ x % (m : Int) := Int.emod_nonneg _ hm'
    have hy : 0 ≤ y % (m : Int) := Int.emod_nonneg _ hm'
    have many : ∀ (k s : Nat), Sum all s → Sum all (k * s) := fun k s hs => by
      induction k with
      | zero => rw [Nat.zero_mul]; exact .zero
      | succ k ih => rw [Nat.succ_mul]; exact ih.plus hs
    refine res_step hm rest (Nat.gcd g l) ((x % (m : Int)).toNat * A + (y % (m : Int)).toNat * l) ((many _ _ hA).plus (Sum.times (hl l List.mem_cons_self) _)) ?_ fun z hz => hl z (List.mem_cons_of_mem _ hz)
    have e' : (A : Int) % (m : Int) = (g : Int) % (m : Int) := by exact_mod_cast e
    have key : ((((x % (m : Int)).toNat * A + (y % (m : Int)).toNat * l : Nat) : Int)) % (m : Int) = ((Nat.gcd g l : Nat) : Int) % (m : Int) := by
      rw [Int.natCast_add, Int.natCast_mul, Int.natCast_mul, Int.toNat_of_nonneg hx, Int.toNat_of_nonneg hy, ← h]
      rw [Int.add_emod, Int.mul_emod (x % m), Int.emod_emod_of_dvd _ (Int.dvd_refl _), e', ← Int.mul_emod, Int.mul_emod (y % m), Int.emod_emod_of_dvd _ (Int.dvd_refl _), ← Int.mul_emod, ← Int.add_emod]
    exact_mod_cast key
/-- so many below N, of those with remainder r, are below x -/
def cnt (m N r x : Nat) : Nat := (min N x + (m - 1 - r)) / m
end Ov
namespace Ov
theorem far_sums {m : Nat} {rest : List Nat} (hm : 0 < m) : ∃ N0, ∀ N, N0 ≤ N → gcdAll (m :: rest) ∣ N → Sum (m :: rest) N := by
  obtain ⟨B, sB, eB⟩ := res_step (all := m :: rest) (m := m) hm rest m 0 .zero (by rw [Nat.zero_mod, Nat.mod_self]) (fun l hl => List.mem_cons_of_mem _ hl)
  have eg : gcdAll (m :: rest) = rest.foldl Nat.gcd m := by
    unfold gcdAll
    rw [List.foldl_cons, Nat.gcd_zero_left]
  rw [← eg] at eB
  generalize gcdAll (m :: rest) = g at *
  have mult : ∀ k, Sum (m :: rest) (k * B) := fun k => by
    induction k with
    | zero => rw [Nat.zero_mul]; exact .zero
    | succ k ih => rw [Nat.succ_mul]; exact ih.plus sB
  refine ⟨m * B, fun N hN ⟨k, hk⟩ => ?_⟩
  have e1 : (k % m * B) % m = N % m := by
    rw [hk, Nat.mul_mod, Nat.mod_mod, eB, Nat.mul_comm g k, Nat.mul_mod k g m]
  have le : k % m * B ≤ N := Nat.le_trans (Nat.mul_le_mul_right B (Nat.le_of_lt (Nat.mod_lt k hm))) hN
  have d : m ∣ N - k % m * B := Nat.dvd_of_mod_eq_zero (Nat.sub_mod_eq_zero_of_mod_eq e1.symm)
  obtain ⟨j, hj⟩ := d
  have : N = k % m * B + j * m := by rw [Nat.mul_comm j m, ← hj]; omega
  rw [this]
  exact (mult _).plus (Sum.times List.mem_cons_self j)
theorem sum_dvd {ls : List Nat} {s : Nat} (h : Sum ls s) : gcdAll ls ∣ s := by
  induction h with
  | zero => exact Nat.dvd_zero _
  | add hl _ ih => exact Nat.dvd_add ih (gcdAll_dvd hl)
/-- two countdowns congruent modulo the divisor, which may be 0 -/
def congN (d : Nat) (a b : Int) : Bool := if d = 0 then decide (a = b) else decide ((b - a) % (d : Int) = 0)
theorem congN_iff (d : Nat) (a b : Int) : congN d a b = true ↔ (d : Int) ∣ b - a := by
  unfold congN
  by_cases h : d = 0
  · subst h
    rw [if_pos rfl, decide_eq_true_eq]
    constructor
    · rintro rfl; rw [Int.sub_self]; exact Int.dvd_zero _
    · intro z
      have : b - a = 0 := Int.zero_dvd.mp z
      omega
  · rw [if_neg h, decide_eq_true_eq]
    exact ⟨Int.dvd_of_emod_eq_zero, Int.emod_eq_zero_of_dvd⟩
theorem exists_max : ∀ cs : List Int, ∃ M : Nat, ∀ c ∈ cs, c ≤ (M : Int)
  | [] => ⟨0, fun _ h => nomatch h⟩
  | c :: cs => by
    obtain ⟨M, h⟩ := exists_max cs
    refine ⟨M + c.toNat, fun x hx => ?_⟩
    rcases List.mem_cons.mp hx with rfl | hx
    · omega
    · have := h x hx
      omega
/-- without a conflict some length is one of a filler -/
theorem far_fill {ls : List Nat} (hpos : ∀ l ∈ ls, 0 < l) {c0 : Int} {cs : List Int} (h0 : 0 ≤ c0) (hc : ∀ c ∈ cs, congN (gcdAll ls) c0 c = true) : ∃ N : Nat, c0 ≤ (N : Int) ∧ Sum ls ((N : Int) - c0).toNat ∧ ∀ c ∈ cs, c ≤ (N : Int) ∧ Sum ls ((N : Int) - c).toNat := by
  cases ls with
  | nil =>
    have z : ∀ c ∈ cs, c = c0 := fun c hm => by
      have := (congN_iff _ _ _).mp (hc c hm)
      have e : gcdAll [] = 0 := rfl
      rw [e] at this
      have : c - c0 = 0 := Int.zero_dvd.mp this
      omega
    have s0 : Sum [] ((c0.toNat : Int) - c0).toNat := by
      rw [show ((c0.toNat : Int) - c0).toNat = 0 by omega]; exact .zero
    exact ⟨c0.toNat, by omega, s0, fun c hm => by rw [z c hm]; exact ⟨by omega, s0⟩⟩
  | cons m rest =>
    have hm : 0 < m := hpos m List.mem_cons_self
    obtain ⟨N0, far⟩ := far_sums (m := m) (rest := rest) hm
    obtain ⟨M, hM⟩ := exists_max cs
    have gp : 0 < gcdAll (m :: rest) := Nat.pos_of_dvd_of_pos (gcdAll_dvd List.mem_cons_self) hm
    have le : M + N0 ≤ (M + N0) * gcdAll (m :: rest) := Nat.le_mul_of_pos_right _ gp
    refine ⟨c0.toNat + (M + N0) * gcdAll (m :: rest), by omega, far _ (by omega) ?_, fun c hm' => ⟨by have := hM c hm'; omega, far _ (by have := hM c hm'; omega) ?_⟩⟩
    · rw [show (((c0.toNat + (M + N0) * gcdAll (m :: rest) : Nat) : Int) - c0).toNat = (M + N0) * gcdAll (m :: rest) by omega]
      exact Nat.dvd_mul_left _ _
    · have d := (congN_iff _ _ _).mp (hc c hm')
      have e : ((gcdAll (m :: rest) : Nat) : Int) ∣ ((c0.toNat + (M + N0) * gcdAll (m :: rest) : Nat) : Int) - c := by
        have x : ((c0.toNat + (M + N0) * gcdAll (m :: rest) : Nat) : Int) - c = ((M + N0 : Nat) : Int) * ((gcdAll (m :: rest) : Nat) : Int) - (c - c0) := by
          rw [Int.natCast_add, Int.natCast_mul, Int.toNat_of_nonneg h0]; omega
        rw [x]
        exact Int.dvd_sub (Int.dvd_mul_left _ _) d
      have nn : 0 ≤ ((c0.toNat + (M + N0) * gcdAll (m :: rest) : Nat) : Int) - c := by have := hM c hm'; omega
      rw [← Int.natCast_dvd_natCast, Int.toNat_of_nonneg nn]
      exact e
end Ov
namespace Ov
theorem far_le {m M : Nat} {rest : List Nat} (hM : ∀ l ∈ m :: rest, 0 < l ∧ l ≤ M) {N : Nat} (hN : m * M ≤ N) (d : gcdAll (m :: rest) ∣ N) : Sum (m :: rest) N := by
  have hm : 0 < m := (hM m List.mem_cons_self).1
  obtain ⟨N0, far⟩ := far_sums (m := m) (rest := rest) hm
  obtain ⟨rep, len⟩ := leasts_rep hm rest
  have le : N0 ≤ N0 * m := Nat.le_mul_of_pos_right _ hm
  have s := far (N + N0 * m) (by omega) (Nat.dvd_add d (Nat.dvd_trans (gcdAll_dvd List.mem_cons_self) (Nat.dvd_mul_left _ _)))
  obtain ⟨x, hx, _⟩ := rep.least _ s
  have b := least_le rep hM hx
  rw [len] at hx b
  rw [Nat.add_mul_mod_self_right] at hx
  have b2 : (m - 1) * M ≤ m * M := Nat.mul_le_mul_right _ (Nat.sub_le _ _)
  rw [← isSum_iff _ (fun l hl => (hM l hl).1)]
  unfold reached
  rw [len, if_neg (by omega), hx]
  exact decide_eq_true (by omega)
theorem far_fill_le {ls : List Nat} (hM : ∀ l ∈ ls, 0 < l ∧ l ≤ 12) {c0 : Int} {cs : List Int} (h0 : 0 ≤ c0 ∧ c0 < 12) (h12 : ∀ c ∈ cs, c < 12) (hc : ∀ c ∈ cs, congN (gcdAll ls) c0 c = true) : ∃ N : Nat, N ≤ 180 ∧ c0 ≤ (N : Int) ∧ Sum ls ((N : Int) - c0).toNat ∧ ∀ c ∈ cs, c ≤ (N : Int) ∧ Sum ls ((N : Int) - c).toNat := by
  cases ls with
  | nil =>
    have z : ∀ c ∈ cs, c = c0 := fun c hm => by
      have := (congN_iff _ _ _).mp (hc c hm)
      have e : gcdAll [] = 0 := rfl
      rw [e] at this
      have : c - c0 = 0 := Int.zero_dvd.mp this
      omega
    have s0 : Sum [] ((c0.toNat : Int) - c0).toNat := by
      rw [show ((c0.toNat : Int) - c0).toNat = 0 by omega]; exact .zero
    exact ⟨c0.toNat, by omega, by omega, s0, fun c hm => by rw [z c hm]; exact ⟨by omega, s0⟩⟩
  | cons m rest =>
    have hm := hM m List.mem_cons_self
    have gp : 0 < gcdAll (m :: rest) := Nat.pos_of_dvd_of_pos (gcdAll_dvd List.mem_cons_self) hm.1
    have gl : gcdAll (m :: rest) ≤ m := Nat.le_of_dvd hm.1 (gcdAll_dvd List.mem_cons_self)
    have b : m * 12 ≤ 144 := by omega
    generalize hg : gcdAll (m :: rest) = g at *
    obtain ⟨w, ew, lo, hi⟩ : ∃ w, g ∣ w ∧ 156 ≤ w ∧ w ≤ 167 := by
      have d := Nat.div_add_mod 167 g
      have r := Nat.mod_lt 167 gp
      exact ⟨g * (167 / g), Nat.dvd_mul_right _ _, by omega, by omega⟩
    refine ⟨c0.toNat + w, by omega, by omega, far_le hM (by omega) ?_, fun c hm' => ⟨by have := h12 c hm'; omega, far_le hM (by have := h12 c hm'; omega) ?_⟩⟩
    · rw [hg, show (((c0.toNat + w : Nat) : Int) - c0).toNat = w by omega]
      exact ew
    · have d := (congN_iff _ _ _).mp (hc c hm')
      have e : (g : Int) ∣ ((c0.toNat + w : Nat) : Int) - c := by
        have x : ((c0.toNat + w : Nat) : Int) - c = (w : Int) - (c - c0) := by omega
        rw [x]
        exact Int.dvd_sub (Int.natCast_dvd_natCast.mpr ew) d
      have nn : 0 ≤ ((c0.toNat + w : Nat) : Int) - c := by have := h12 c hm'; omega
      rw [hg, ← Int.natCast_dvd_natCast, Int.toNat_of_nonneg nn]
      exact e
end Ov
namespace Ov
open PySem PySem.Spec PyProof.Rows L2
def txt (l : List Nat) : Str := ⟨l.toArray⟩
theorem txt_inj {a b : List Nat} (h : txt a = txt b) : a = b := by
  have : a.toArray = b.toArray := congrArg Str.cps h
  simpa using congrArg Array.toList this
theorem txt_len (l : List Nat) : (txt l).length = l.length := by
  show l.toArray.size = _
  simp
theorem fold_reps : ∀ (k : Nat) (l : List Nat) (acc : Array Nat), (List.replicate k l.toArray).foldl (· ++ ·) acc = acc ++ (List.replicate k l).flatten.toArray
  | 0, l, acc => by simp
  | k + 1, l, acc => by
    rw [List.replicate_succ, List.foldl_cons, fold_reps k l, List.replicate_succ, List.flatten_cons]
    simp
section
variable {X : Cx}
/-- a text times a small number -/
theorem op_mulS : OpR X (binaryOp .Mult) (fun x y H Q => ∃ (l : List Nat) (n : Int), x = .str (txt l) ∧ y = .int n ∧ 0 ≤ n ∧ n ≤ 1000 ∧ l.length ≤ 1000 ∧ Q (.str (txt (List.replicate n.toNat l).flatten)) H) := by
  intro pins s σ H x y v u Q I rx ry h
  obtain ⟨l, n, rfl, rfl, h0, h1, hl, q⟩ := h
  obtain ⟨t, rfl⟩ := rx
  obtain ⟨t', rfl⟩ := ry
  have hlen := txt_len l
  have fin : ∀ (tk tk' : Nat), EP X pins σ Q (.str (txt (List.replicate n.toNat l).flatten) tk) { s with toks := tk' } := fun tk tk' => ⟨.str _, H, I.tok _, ⟨_, rfl⟩, q⟩
  refine PySem.P.mul_str ?_ ?_ ?_ ?_
  · rw [decide_eq_false (show ¬ n < -(2 ^ 63 : Int) by omega), decide_eq_false (show ¬ n ≥ 2 ^ 63 by omega)]
    rfl
  · intro a b
    rw [hlen]
    have hn : 1 ≤ n := by omega
    have : (1000 : Int) ≤ (2 ^ 63 - 1) / n := by
      rw [Int.le_ediv_iff_mul_le (by omega)]
      omega
    omega
  · intro a b
    rw [hlen]
    refine decide_eq_false ?_
    rw [sizeLine_eq]
    have : l.length * n.toNat ≤ 1000 * 1000 := Nat.mul_le_mul hl (by omega)
    omega
  · by_cases c : n < 1
    · rw [if_pos c]
      have hn : n.toNat = 0 := by omega
      have := fin s.toks (s.toks + 1)
      rw [hn] at this
      exact ⟨Nat.zero_le _, this⟩
    · rw [if_neg c]
      by_cases d : (n == 1 || (txt l).length == 0) = true
      · rw [if_pos d]
        have e : txt (List.replicate n.toNat l).flatten = txt l := by
          rcases Bool.or_eq_true_iff.mp d with d | d
          · have : n = 1 := eq_of_beq d
            subst this
            simp
          · have hz : l.length = 0 := by rw [← hlen]; exact eq_of_beq d
            have : l = [] := List.eq_nil_of_length_eq_zero hz
            subst this
            simp
        have := fin t s.toks
        rw [e] at this
        exact this
      · rw [if_neg d]
        have e : (⟨(List.replicate n.toNat (txt l).cps).foldl (· ++ ·) #[]⟩ : Str) = txt (List.replicate n.toNat l).flatten := by
          show (⟨(List.replicate n.toNat l.toArray).foldl (· ++ ·) #[]⟩ : Str) = _
          rw [fold_reps]
          simp [txt]
        rw [e]
        refine ⟨?_, fin s.toks (s.toks + 1)⟩
        rw [txt_len, sizeLine_eq]
        have h2 : (List.replicate n.toNat l).flatten.length = n.toNat * l.length := by simp
        rw [h2]
        have : n.toNat * l.length ≤ 1000 * 1000 := Nat.mul_le_mul (by omega) hl
        omega
/-- list(range(n)) -/
theorem pe_listRange {a : Expr} {ta : TE} {p p2 q pos : Pos} (hg : Gl X "list") (hm : X.mg "list" = none) (hg2 : Gl X "range") (hm2 : X.mg "range" = none) (ha : PE X a ta) (hc : X.calm = true := by rfl)
    (na : starEach [a] X.env = (false, eval a X.env) :: starEach [] X.env := by rfl) :
    PE X (.Call (.Name "list" p) [.Call (.Name "range" p2) [a] [] q] [] pos) (fun σ H Q => ta σ H fun x H1 => ∃ n : Nat, x = .int (n : Int) ∧ n ≤ 100000 ∧ ∀ l, H1 l = none → Q (.ref l) (upd H1 l (.lst ((List.range n).map fun i : Nat => V.int (i : Int))))) := by
  constructor
  intro pins s σ H Q I h
  have bl : bootBuiltins "list" = some (.type "list") := by decide +kernel
  refine Call_ (ld_blt I hg hm bl (PyProof.Rows.callWith_type1 (PyProof.Rows.args_cons ?_ rfl) rfl rfl))
  refine Call_ (ld_blt I hg2 hm2 boot_range (PyProof.Rows.callWith_type1 (PyProof.Rows.args_cons (thn (ha.run pins s σ H _ I h) ?_) na) na rfl))
  rintro v s1 ⟨x, H1, I1, r1, n, rfl, hn, q1⟩
  obtain ⟨t, rfl⟩ := r1
  refine PyProof.Rows.args_nil (call_range_1 (PyProof.Rows.args_nil ?_))
  have hsmall : Builtin.Range.small 0 (n : Int) 1 = true := small_one (by omega) (by omega) (by omega) (by omega)
  refine call_list_range (n := n) (I1.ok.hd hc) (Heap.get?_push_size _ rfl) hsmall ?_ (by omega) ?_
  · rw [rangeSize_nat]
    simp
  · intro h' tk acc c kp hat hit
    have vals : Vals ((List.range n).map fun i : Nat => V.int (i : Int)) acc.toList := by
      obtain ⟨hz, hv⟩ := hit
      have key : ∀ (l : List Value) (k : Nat), (∀ j v, l[j]? = some v → ∃ t, v = Value.int (0 + ((k + j : Nat) : Int) * 1) t) → Vals ((List.range' k l.length).map fun i : Nat => V.int (i : Int)) l := by
        intro l
        induction l with
        | nil => intro k _; exact .nil
        | cons v l ih =>
          intro k hk
          rw [List.length_cons, List.range'_succ, List.map_cons]
          refine .cons ?_ (ih (k + 1) fun j w hj => ?_)
          · obtain ⟨t, e⟩ := hk 0 v rfl
            exact ⟨t, by rw [e, show (0 + ((k + 0 : Nat) : Int) * 1) = (k : Int) by omega]⟩
          · obtain ⟨t, e⟩ := hk (j + 1) w hj
            exact ⟨t, by rw [e, show (0 + ((k + (j + 1) : Nat) : Int) * 1) = (0 + ((k + 1 + j : Nat) : Int) * 1) by omega]⟩
      have := key acc.toList 0 (fun j v hj => by
        obtain ⟨t, e⟩ := hv j v (by simpa using hj)
        exact ⟨t, by rw [e, show (0 + ((0 + j : Nat) : Int) * 1) = (0 + ((j : Nat) : Int) * 1) by omega]⟩)
      rw [Array.length_toList, hz, ← List.range_eq_range'] at this
      exact this
    have old : ∀ b o, s1.heap.get? b = some o → h'.get? b = some o := fun b o e => kp b o (Heap.get?_push_of_some _ e)
    have ez : ∀ (o : Obj), (s1.heap.push o).objs.size = s1.heap.objs.size + 1 := fun o => Heap.size_push _ _
    rw [ez] at hat ⊢
    have fit : ((List.range n).map fun i : Nat => V.int (i : Int)).length ≤ sizeLine := by
      rw [List.length_map, List.length_range, sizeLine_eq]
      omega
    exact ⟨.ref _, upd H1 (s1.heap.objs.size + 1) (.lst _), I1.laid (t' := tk) old (Nat.le_succ _) ⟨fit, acc.toList, c, vals, hat⟩, rfl, q1 _ (I1.hok.fresh (Nat.le_succ _))⟩
end
end Ov
namespace Ov
open PySem PySem.Spec PyProof.Rows L2
/-- the empty set as it is made -/
abbrev noText (led : Bool) : Obj := { cls := .type "set", dict := none, data := .set #[] 0 (.fresh 0 0 led) }
section
variable {prog : Program} {w : World} {A : Around} {R : Result → Shared → Prop} {it : Addr} {fp wr : List Addr} {G : Array GenState → Array GenState → Prop} {n : Nat} {P : Nat → Value → Prop} {St : Nat → Shared → Prop}
theorem has_next {xs : List Str} (nd : xs.Nodup) {i : Nat} (hi : i < xs.length) : (xs.take i).any (· == xs[i]) = false := by
  rw [List.any_eq_false]
  intro y hy e
  have ey : y = xs[i] := eq_of_beq e
  obtain ⟨j, hj, ej⟩ := List.mem_take_iff_getElem.mp hy
  have hlt : j < i := by omega
  exact (List.pairwise_iff_getElem.mp nd j i (by omega) hi hlt) (ej.trans ey)
/-- texts put into it, one behind another -/
theorem texts_in (W : WalksS prog w A.in1 it fp wr G n P St) (S : Addr) (out : S ∉ fp) {xs : List Str} (len : xs.length = n) (nd : xs.Nodup) (few : n + 1 < scanBound)
    (val : ∀ (i : Nat) (hi : i < xs.length) (v : Value), P i v → ∃ t, v = .str xs[i] t) :
    ∀ (left i : Nat) (s : Shared), i + left = n → St i s → s.heap.SetOf (PySem.strKind prog w) S (fun k => (xs.take i).any (· == k)) i →
      (∀ s', Moved (S :: wr) G s s' → s'.heap.SetOf (PySem.strKind prog w) S (fun k => xs.any (· == k)) n → R (.ok (.ret .none)) s') →
      codeAny (model prog w) A (.builtin "set.update.loop" ⟨[.ref S, .ref it], []⟩) R s := by
  have outw : S ∉ wr := fun z => out (W.sub _ z)
  have wide : ∀ b ∈ wr, b ∈ S :: wr := fun b z => List.mem_cons_of_mem _ z
  have carry : ∀ {s s' : Shared} {f : Str → Bool} {c : Nat}, Moved wr G s s' → s.heap.SetOf (PySem.strKind prog w) S f c → s'.heap.SetOf (PySem.strKind prog w) S f c := by
    rintro s s' f c mv ⟨o, es, ep, t, ho, more⟩
    exact ⟨o, es, ep, t, mv.heap S _ outw ho, more⟩
  intro left
  induction left with
  | zero =>
    intro i s e st hS fin
    obtain rfl : i = n := by omega
    refine codeAny_builtin PyProof.Rows.F.entry_set_update_loop ?_
    rw [Around.under_plainId PyProof.Rows.F.plain_set_update_loop _]
    refine wpAny_bind (W.done s _ _ st fun s' mv => wpAny_pure (fin s' (mv.mono wide) ?_))
    have := carry mv hS
    rwa [← len, List.take_length, len] at this
  | succ left ih =>
    intro i s e st hS fin
    have hi : i < xs.length := by omega
    refine codeAny_builtin PyProof.Rows.F.entry_set_update_loop ?_
    rw [Around.under_plainId PyProof.Rows.F.plain_set_update_loop _]
    refine wpAny_bind (W.item i s _ _ (by omega) st ?_)
    intro v s' pv st' mv
    obtain ⟨t, rfl⟩ := val i hi v pv
    refine wpAny_bind (wpAny_holding ?_)
    unfold setAdd
    refine wpAny_holding (wpAny_bind ((PySem.strKind prog w).pyHash (k := xs[i]) (strKind_is _ _ _ _) ?_))
    have held := carry mv hS
    refine wpAny_setAddHashed_of (knd := PySem.strKind prog w) (s := { s' with toks := s'.toks + 1 }) (strKind_is _ _ _ _) rfl held (by omega) ?_
    intro h' but hS2
    rw [has_next nd hi] at hS2
    have grown : h'.SetOf (PySem.strKind prog w) S (fun k => (xs.take (i + 1)).any (· == k)) (i + 1) := by
      refine SetOf_congr hS2 (fun k => ?_) rfl
      rw [List.take_add_one, List.getElem?_eq_getElem hi, List.any_append]
      congr 1
      show decide (k = xs[i]) = ([xs[i]].any (· == k))
      by_cases z : k = xs[i]
      · subst z; simp
      · have : (xs[i] == k) = false := beq_eq_false_iff_ne.mpr fun y => z y.symm
        simp [z, this]
    refine wpAny_pure ⟨plainId_quiet PyProof.Rows.F.plain_set_update_loop _, ih (i + 1) _ (by omega) (W.frame _ s' _ _ st' (Nat.le_succ _) ?_) grown ?_⟩
    · intro b hb o eb
      rw [but.2 b fun z => out (z ▸ hb)]
      exact eb
    · intro s'' mv'' hS''
      refine fin s'' (Moved.trans W.gtrans ((mv.mono wide).then_heap (Nat.le_succ _) ?_) mv'') hS''
      intro b o hb eb
      rw [but.2 b fun z => hb (z ▸ List.mem_cons_self)]
      exact eb
end
section
variable {prog : Program} {w : World} {A : Around} {E : Value → Shared → Prop} {s : Shared}
theorem set_texts {l : Addr} {items : Array Value} {xs : List Str} {Q : Value → Shared → Prop} (hh : A.handled = none) (hl : s.heap.IsList l items) (hi : StrsAre items.toList xs) (nd : xs.Nodup) (few : xs.length + 1 < scanBound)
    (h : ∀ (h' : Heap) (tk : Nat), h'.SetOf (PySem.strKind prog w) s.heap.objs.size (fun k => xs.any (· == k)) xs.length → (∀ b o, b < s.heap.objs.size → s.heap.get? b = some o → h'.get? b = some o) → Q (.ref s.heap.objs.size) { s with heap := h', toks := tk }) :
    wpAny (model prog w) A (call (.type "set") [.ref l]) Q E s := by
  obtain ⟨c, tl, hmro⟩ := PySem.F.called_set.mro
  have q1 := PySem.F.called_set.made
  have q2 := PySem.F.called_set.sub
  have q3 := PySem.F.called_set.notType
  have q4 := PySem.F.called_set.canCreate
  have q5 := PySem.F.typeCall_set_1 (.ref l)
  refine wpAny_call (codeAny_of_tree ?_)
  show wpAny _ _ (callAny (.type "set") _) _ _ _
  refine wpAny_pure ⟨Code.quiet_builtin _ (by decide +kernel), codeAny_builtin PySem.F.entry_type_call ?_⟩
  rw [Around.under_plain (weight_type_call_type "set" [.ref l] []) rfl]
  repeat (any_goals (first | assumption | wp_step))
  refine codeAny_mono (code_set_new_1 (.ref l) (E := E) (Q₁ := fun obj s₁ => ∃ led : Bool, obj = .ref s.heap.objs.size ∧ s₁ = { s with heap := s.heap.push (noText led) }) fun led => ⟨led, rfl, rfl⟩) ?_
  intro r s₁ hr
  match r, hr with
  | .error e, hr => exact hr
  | .ok .next, hr => exact hr.elim
  | .ok .brk, hr => exact hr.elim
  | .ok .cont, hr => exact hr.elim
  | .ok (.ret obj), ⟨led, e1, e2⟩ =>
    subst e1 e2
    have at_ : (s.heap.push (noText led)).get? s.heap.objs.size = some (noText led) := Heap.get?_push_size _ rfl
    have ty : Shared.TypeIs { s with heap := s.heap.push (noText led) } (.ref s.heap.objs.size) "set" := ⟨_, at_, rfl⟩
    have q6 := PySem.F.called_set.init.lookup
    have q7 := PySem.F.called_set.init.bind (.ref s.heap.objs.size)
    repeat (any_goals (first | assumption | wp_step))
    refine codeAny_mono (codeAny_call_builtin (R := wants (fun r s₂ => r = .none ∧ ∃ h' tk, s₂ = { s with heap := h', toks := tk } ∧ h'.SetOf (PySem.strKind prog w) s.heap.objs.size (fun k => xs.any (· == k)) xs.length ∧
        (∀ b o, b < s.heap.objs.size → s.heap.get? b = some o → h'.get? b = some o)) E) PySem.F.called_set.init.plain PySem.F.entry_set_init (check_set_init_1 ty ?_)) ?_
    · obtain ⟨⟨cl, dc, dt, sl⟩, hol, hcl, nl, hdl⟩ := hl
      dsimp only at hcl hdl
      subst hcl hdl
      have below := Heap.lt_size hol
      have hol' : (s.heap.push (noText led)).get? l = some { cls := .type "list", dict := dc, data := .seq items nl, slots := sl } := Heap.get?_push_of_some _ hol
      have hl1 : (s.heap.push (noText led)).IsList l items := ⟨_, hol', rfl, nl, rfl⟩
      have q8 := PySem.F.sub_list_set
      have q9 := PySem.F.sub_list_frozenset
      have q0 : (Value.type "list" == Value.type "dict") = false := by decide
      unfold Builtin.«set.__init__» noKeywords Builtin.Frozenset.updateFrom
      generalize hPI : pyIter = PI
      wp_walk
      subst hPI
      have sz : (s.heap.push (noText led)).objs.size = s.heap.objs.size + 1 := Heap.size_push _ _
      have calm3 : A.in1.in1.in1.handled = none := by simp [hh]
      have apart : l ≠ (s.heap.push (noText led)).objs.size := by rw [sz]; exact Nat.ne_of_lt (Nat.lt_succ_of_lt below)
      have far : s.heap.objs.size ∉ [(s.heap.push (noText led)).objs.size, l] := by
        rw [sz]
        simp only [List.mem_cons, List.not_mem_nil, or_false, not_or]
        exact ⟨Nat.ne_of_lt (Nat.lt_succ_self _), Nat.ne_of_gt below⟩
      have len : xs.length = items.size := by rw [← StrsAre.len_eq hi, Array.length_toList]
      refine wpAny_pyIter_list hl1 (wpAny_bind (wpAny_runValue ?_))
      refine texts_in ((Walks.list calm3 _ l apart items).toS) s.heap.objs.size far len nd (by rw [← len]; exact few) (fun i hlt v hv => ?_) items.size 0 _ (by omega) ⟨⟨_, Heap.get?_push_size _ rfl, rfl, rfl⟩, hl1.push _⟩ ?_ ?_
      · obtain ⟨t, e⟩ := SS.strs_at hi i v (by rw [Array.getElem?_toList]; exact hv)
        refine ⟨t, ?_⟩
        rw [e, List.getD_eq_getElem?_getD, List.getElem?_eq_getElem hlt]
        rfl
      · exact SetOf_congr ((setObjOf_fresh (knd := PySem.strKind prog w) led).setOf (Heap.get?_push_of_some _ at_) (by unfold scanBound; omega)) (fun _ => rfl) rfl
      · rintro ⟨h', g', d', tk', os'⟩ mv hS'
        have eg : g' = s.gens := mv.gens
        have ed : d' = s.drawn := mv.drawn
        have eo : os' = s.os := mv.os
        subst eg ed eo
        refine wpAny_pure (wpAny_pure ⟨rfl, h', tk', rfl, by rw [len]; exact hS', ?_⟩)
        intro b o hb eb
        refine mv.heap b o ?_ (Heap.get?_push_of_some _ (Heap.get?_push_of_some _ eb))
        rw [sz]
        simp only [List.mem_cons, List.not_mem_nil, or_false, not_or]
        exact ⟨Nat.ne_of_lt hb, Nat.ne_of_lt (Nat.lt_succ_of_lt hb)⟩
    · intro r₂ s₂ hr₂
      match r₂, hr₂ with
      | .error e, hr₂ => exact hr₂
      | .ok .next, hr₂ => exact hr₂.elim
      | .ok .brk, hr₂ => exact hr₂.elim
      | .ok .cont, hr₂ => exact hr₂.elim
      | .ok (.ret r), ⟨e1, h', tk, e2, hS', kp⟩ =>
        subst e1 e2
        repeat (any_goals (first | assumption | wp_step))
        exact h _ _ hS' kp
end
section
variable {X : Cx}
/-- len(set(xs)), xs a list of unlike texts -/
theorem pe_lenSetT {a : Expr} {ta : TE} {p p2 q pos : Pos} (hc : X.calm = true) (hg : Gl X "len") (hm : X.mg "len" = none) (hg2 : Gl X "set") (hm2 : X.mg "set" = none) (ha : PE X a ta)
    (na : starEach [a] X.env = (false, eval a X.env) :: starEach [] X.env := by rfl) :
    PE X (.Call (.Name "len" p) [.Call (.Name "set" p2) [a] [] q] [] pos) (fun σ H Q => ta σ H fun x H1 => ∃ (l : Addr) (xs : List Str), x = .ref l ∧ SqL X.K H1 l (xs.map V.str) ∧ xs.Nodup ∧ xs.length ≤ 4000 ∧ Q (.int (xs.length : Int)) H1) := by
  constructor
  intro pins s σ H Q I h
  refine Call_ (ld_blt I hg hm boot_len (PyProof.Rows.callWith_builtin1 (PyProof.Rows.args_cons ?_ rfl) rfl rfl))
  refine Call_ (ld_blt I hg2 hm2 boot_set (PyProof.Rows.callWith_type1 (PyProof.Rows.args_cons (thn (ha.run pins s σ H _ I h) ?_) na) na rfl))
  rintro v s1 ⟨x, H1, I1, r1, l, xs, rfl, hq, nd, few, q1⟩
  cases r1
  refine PyProof.Rows.args_nil ?_
  obtain ⟨its, r, pl, hz⟩ := I1.list hq
  refine set_texts (I1.ok.hd hc) pl.isList (by simpa using strsAre_of r) nd (by unfold scanBound; omega) ?_
  intro h' tk hS kp
  refine PyProof.Rows.args_nil ?_
  obtain ⟨o, es, ep, t, ho, hex, hd, _, _, _, hf, hn⟩ := hS
  have I2 : Inv X pins σ H1 { s1 with heap := h', toks := tk } := I1.kept fun b o e => kp b o (Heap.lt_size e) e
  exact call_len_set ho hex hd hf (by rw [hn]; omega) ⟨.int xs.length, H1, I2.tok _, ⟨_, by rw [hn]⟩, q1⟩
end
end Ov
namespace Ov
section
variable (la : Int → Nat)
/-- what a byte makes of a countdown -/
def cdStep : Option Nat → Int → Option Nat
  | none, _ => none
  | some 0, b => if la b = 0 then none else some (la b - 1)
  | some (l + 1), _ => some l
def cdEnd (s : Option Nat) (bs : List Int) : Option Nat := bs.foldl (cdStep la) s
def stF (k : Nat) (s : Option Nat) : List Int → List Nat
  | [] => []
  | b :: bs => (if s = some 0 ∧ 0 < la b then [k] else []) ++ stF (k + 1) (cdStep la s b) bs
/-- the offset of the invalid byte -/
def spF (k : Nat) (s : Option Nat) : List Int → Option Nat
  | [] => none
  | b :: bs => if s = some 0 ∧ la b = 0 then some k else spF (k + 1) (cdStep la s b) bs
variable {la}
theorem cdEnd_cons (s : Option Nat) (b : Int) (bs : List Int) : cdEnd la s (b :: bs) = cdEnd la (cdStep la s b) bs := rfl
/-- bytes of an instruction that is being read -/
theorem cdEnd_pass (m : Nat) (pre post : List Int) : cdEnd la (some (pre.length + m)) (pre ++ post) = cdEnd la (some m) post := by
  induction pre with
  | nil => rw [List.length_nil, Nat.zero_add]; rfl
  | cons a pre ih =>
    rw [List.length_cons, show pre.length + 1 + m = pre.length + m + 1 by omega]
    show cdEnd la (some (pre.length + m)) (pre ++ post) = _
    exact ih
theorem stF_pass (k m : Nat) (pre post : List Int) : stF la k (some (pre.length + m)) (pre ++ post) = stF la (k + pre.length) (some m) post := by
  induction pre generalizing k with
  | nil => rw [List.length_nil, Nat.zero_add]; rfl
  | cons a pre ih =>
    rw [List.length_cons, show pre.length + 1 + m = pre.length + m + 1 by omega]
    show (if some (pre.length + m + 1) = some 0 ∧ 0 < la a then [k] else []) ++ stF la (k + 1) (some (pre.length + m)) (pre ++ post) = _
    rw [if_neg (by rintro ⟨e, _⟩; cases e), List.nil_append, ih, show k + 1 + pre.length = k + (pre.length + 1) by omega]
theorem cdEnd_none (bs : List Int) : cdEnd la none bs = none := by
  induction bs with
  | nil => rfl
  | cons b bs ih => exact ih
theorem stF_none (k : Nat) (bs : List Int) : stF la k none bs = [] := by
  induction bs generalizing k with
  | nil => rfl
  | cons b bs ih =>
    show (if (none : Option Nat) = some 0 ∧ 0 < la b then [k] else []) ++ stF la (k + 1) none bs = []
    rw [if_neg (by rintro ⟨e, _⟩; cases e), List.nil_append, ih]
theorem split_at {bs : List Int} {o : Nat} {b : Int} (h : bs[o]? = some b) : bs = bs.take o ++ b :: bs.drop (o + 1) ∧ (bs.take o).length = o := by
  obtain ⟨hl, e⟩ := List.getElem?_eq_some_iff.mp h
  refine ⟨?_, by rw [List.length_take]; omega⟩
  rw [← e, List.getElem_cons_drop, List.take_append_drop]
theorem cd_stop {bs : List Int} {o : Nat} {b : Int} (h : bs[o]? = some b) (hl : la b = 0) : cdEnd la (some o) bs = none := by
  obtain ⟨e, l⟩ := split_at h
  have h1 := cdEnd_pass (la := la) 0 (bs.take o) (b :: bs.drop (o + 1))
  rw [← e, l, show o + 0 = o from rfl] at h1
  rw [h1, cdEnd_cons]
  show cdEnd la (if la b = 0 then none else some (la b - 1)) _ = none
  rw [if_pos hl, cdEnd_none]
theorem st_stop {bs : List Int} {k o : Nat} {b : Int} (h : bs[o]? = some b) (hl : la b = 0) : stF la k (some o) bs = [] := by
  obtain ⟨e, l⟩ := split_at h
  have h1 := stF_pass (la := la) k 0 (bs.take o) (b :: bs.drop (o + 1))
  rw [← e, l, show o + 0 = o from rfl] at h1
  rw [h1]
  show (if some 0 = some 0 ∧ 0 < la b then [k + o] else []) ++ stF la (k + o + 1) (if la b = 0 then none else some (la b - 1)) _ = []
  rw [if_neg (by omega), if_pos hl, stF_none]
  rfl
theorem spF_pass (k m : Nat) (pre post : List Int) : spF la k (some (pre.length + m)) (pre ++ post) = spF la (k + pre.length) (some m) post := by
  induction pre generalizing k with
  | nil => rw [List.length_nil, Nat.zero_add]; rfl
  | cons a pre ih =>
    rw [List.length_cons, show pre.length + 1 + m = pre.length + m + 1 by omega]
    show (if some (pre.length + m + 1) = some 0 ∧ la a = 0 then some k else spF la (k + 1) (some (pre.length + m)) (pre ++ post)) = _
    rw [if_neg (by rintro ⟨e, _⟩; cases e), ih, show k + 1 + pre.length = k + (pre.length + 1) by omega]
theorem sp_stop {bs : List Int} {k o : Nat} {b : Int} (h : bs[o]? = some b) (hl : la b = 0) : spF la k (some o) bs = some (k + o) := by
  obtain ⟨e, l⟩ := split_at h
  have h1 := spF_pass (la := la) k 0 (bs.take o) (b :: bs.drop (o + 1))
  rw [← e, l, show o + 0 = o from rfl] at h1
  rw [h1]
  show (if some 0 = some 0 ∧ la b = 0 then some (k + o) else _) = _
  rw [if_pos ⟨rfl, hl⟩]
/-- how a walk ends -/
structure Ended (la : Int → Nat) (bs : List Int) (e : Nat) (begun : List Nat) (fol : Nat) : Prop where
  st : begun = stF la 0 (some e) bs
  cd : cdEnd la (some e) bs = if fol < bs.length then none else some (fol - bs.length)
  stop : fol < bs.length → ∃ b, bs[fol]? = some b ∧ la b = 0
  last : bs.length < fol → e ≤ bs.length → ∃ o b, begun.getLast? = some o ∧ bs[o]? = some b ∧ fol = o + la b
  lt : ∀ o ∈ begun, o < bs.length ∧ ∃ b, bs[o]? = some b ∧ 0 < la b
  sp : fol < bs.length → spF la 0 (some e) bs = some fol
/-- a walk under way -/
structure Going (la : Int → Nat) (bs : List Int) (e : Nat) (begun : List Nat) (o : Nat) : Prop where
  st : stF la 0 (some e) bs = begun ++ stF la 0 (some o) bs
  cd : cdEnd la (some e) bs = cdEnd la (some o) bs
  last : bs.length < o → e ≤ bs.length → ∃ q b, begun.getLast? = some q ∧ bs[q]? = some b ∧ o = q + la b
  lt : ∀ q ∈ begun, q < bs.length ∧ ∃ b, bs[q]? = some b ∧ 0 < la b
  few : begun.length ≤ bs.length - e ∧ (bs.length - o) + begun.length ≤ bs.length - e
  sp : spF la 0 (some e) bs = spF la 0 (some o) bs
theorem Going.start (bs : List Int) (e : Nat) : Going la bs e [] e :=
  ⟨rfl, rfl, fun h1 h2 => absurd h1 (by omega), (fun _ h => nomatch h), by simp, rfl⟩
theorem Going.stop {bs : List Int} {e o : Nat} {begun : List Nat} (g : Going la bs e begun o) {b : Int} (h : bs[o]? = some b) (hl : la b = 0) : Ended la bs e begun o := by
  have ho := (List.getElem?_eq_some_iff.mp h).1
  exact ⟨by rw [g.st, st_stop h hl, List.append_nil], by rw [g.cd, cd_stop h hl, if_pos ho], fun _ => ⟨b, h, hl⟩, g.last, g.lt, fun _ => by rw [g.sp, sp_stop h hl, Nat.zero_add]⟩
theorem Ended.same {bs : List Int} {e : Nat} {b1 b2 : List Nat} {f1 f2 : Nat} (h1 : Ended la bs e b1 f1) (h2 : Ended la bs e b2 f2) : b1 = b2 ∧ f1 = f2 := by
  refine ⟨h1.st.trans h2.st.symm, ?_⟩
  have c := h1.cd.symm.trans h2.cd
  by_cases p1 : f1 < bs.length
  · by_cases p2 : f2 < bs.length
    · exact Option.some.inj ((h1.sp p1).symm.trans (h2.sp p2))
    · rw [if_pos p1, if_neg p2] at c; cases c
  · by_cases p2 : f2 < bs.length
    · rw [if_neg p1, if_pos p2] at c; cases c
    · rw [if_neg p1, if_neg p2] at c
      have := Option.some.inj c
      omega
variable (la)
variable {la}
end
end Ov
namespace Ov
open PySem PySem.Spec PyProof.Rows L2
def top (i : Nat) : Stmt := PySem.Challenge.pw_overlapcode_k14_long_fillers.main.body.getD i (.Pass ⟨0, 0, 0, 0⟩)
abbrev sIsInt : Stmt := top 2
abbrev sBetween : Stmt := top 3
abbrev sAscending : Stmt := top 4
abbrev cInstructionSet : Stmt := top 15
abbrev sAreInstr : Stmt := top 16
abbrev sIsInstr : Stmt := top 17
abbrev sIsName : Stmt := top 18
abbrev sCommon : Stmt := top 22
abbrev sLeast : Stmt := top 23
abbrev sCheck : Stmt := top 24
abbrev sAre : Stmt := top 25
abbrev sGcd : Stmt := top 26
abbrev sWith : Stmt := top 27
abbrev sReached : Stmt := top 28
abbrev s_conflict : Stmt := top 30
abbrev s_filler_length : Stmt := top 31
abbrev s_filler_lengths : Stmt := top 32
abbrev s_filler : Stmt := top 33
abbrev s_check_countdowns : Stmt := top 34
abbrev s_are_countdowns : Stmt := top 35
abbrev s_are_congruent : Stmt := top 36
abbrev s_has_filler : Stmt := top 37
abbrev s_least_filler : Stmt := top 38
abbrev s_padding_instructions : Stmt := top 39
abbrev s_first_fitting : Stmt := top 40
abbrev sBox : Stmt := top 42
abbrev sTake : Stmt := top 43
abbrev sOf : Stmt := top 44
abbrev sTable : Stmt := top 45
abbrev sLLongest : Stmt := top 46
abbrev s_law_with_less : Stmt := top 47
abbrev s_law_some : Stmt := top 48
abbrev s_law_padding : Stmt := top 49
abbrev s_law_is_filler : Stmt := top 51
abbrev sRight : Stmt := top 52
abbrev sLaw : Stmt := top 53
end Ov
namespace Ov
open PySem PySem.Spec PyProof.Rows L2
section
variable {P : Program} {w : World} {K : PySem.W.Frag} {mg : Str → Option Value} {base : Heap}
def spIsInt : Sp := fun vs H Q _ => ∃ (v : Int), vs = [.int v] ∧ Q (.bl true) H
theorem scIsInt : FnScope ["value"] ["value"] (defScope sIsInt) := ⟨rfl, rfl, rfl, by decide +kernel, rfl, by decide +kernel, by decide +kernel⟩
theorem ok_isInt {f : Addr} {fd : FuncData} {k : Nat} (F : Fun K "is_integer" "is_integer" sIsInt f fd) (T : Bi mg) : FnOk P w K mg base CX0 (k + 1) f fd ["value"] spIsInt := by
  refine F.ok scIsInt (fun vs H Q E h => ?_) (fun cdv A outer s H vs Q E hr h => ?_)
  · obtain ⟨v, rfl, _⟩ := h
    rfl
  · obtain ⟨v, rfl, q⟩ := h
    refine ⟨_, pss_one (ps_ret (pe_and (pe_callB call_isi (by rfl) T.isi (by decide +kernel) (pa_cons (pv 0) (pa_cons (pe_bltn (v := .ty "int") (u := .type "int") (by rfl) T.int (by decide +kernel) rfl) pa_nil)))
      (pe_one (pe_not (pe_callB call_isi (by rfl) T.isi (by decide +kernel) (pa_cons (pv 0) (pa_cons (pe_bltn (v := .ty "bool") (u := .type "bool") (by rfl) T.bool (by decide +kernel) rfl) pa_nil))))))), ?_⟩
    refine ⟨_, rfl, _, _, _, _, _, rfl, .ty _, .base (.int _), kit_ty (by decide +kernel : kitB "int" "int" = some true), _, rfl, iteT ?_⟩
    exact ⟨_, rfl, _, _, _, _, _, rfl, .ty _, .base (.int _), kit_ty (by decide +kernel : kitB "int" "bool" = some false), _, rfl, q⟩
def spBetween : Sp := fun vs H Q _ => ∃ (v lo hi : Int), vs = [.int v, .int lo, .int hi] ∧ lo ≤ v ∧ v ≤ hi ∧ Q (.bl true) H
theorem scBetween : FnScope ["value", "least", "most"] ["value", "least", "most"] (defScope sBetween) := ⟨rfl, rfl, rfl, by decide +kernel, rfl, by decide +kernel, by decide +kernel⟩
theorem ok_between {f fI : Addr} {fd fdI : FuncData} {k : Nat} (F : Fun K "is_integer_between" "is_integer_between" sBetween f fd) (T : Bi mg) (I : Def K mg "is_integer" sIsInt fI fdI ["value"]) : FnOk P w K mg base CX0 (k + 2) f fd ["value", "least", "most"] spBetween := by
  have GI : FnOk P w K mg base CX0 (k + 1) fI fdI ["value"] spIsInt := ok_isInt I.fn T
  refine F.ok scBetween (fun vs H Q E h => ?_) (fun cdv A outer s H vs Q E hr h => ?_)
  · obtain ⟨v, lo, hi, rfl, _⟩ := h
    rfl
  · obtain ⟨v, lo, hi, rfl, h1, h2, q⟩ := h
    refine ⟨_, pss_one (ps_ret (pe_and (pe_call GI hr (by rfl) I.gl I.fn.kp I.bi .nil pass0 (pa_cons (pv 0) pa_nil))
        (pe_one (pe_chain op_le op_le (pv 1) (pv 0) (pv 2))))), ?_⟩
    refine ⟨_, rfl, v, rfl, _, rfl, iteT ?_⟩
    refine ⟨_, rfl, _, rfl, _, _, rfl, rfl, _, rfl, ?_⟩
    rw [decide_eq_true h1]
    refine iteT ⟨_, rfl, _, _, rfl, rfl, ?_⟩
    show Q (.bl (decide (v ≤ hi))) H
    rw [decide_eq_true h2]
    exact q
def spAscending (K : PySem.W.Frag) : Sp := fun vs H Q _ => ∃ (a : Addr) (ns : List Int), vs = [.ref a] ∧ SqT K H a (ns.map V.int) ∧ ns.length ≤ 1000 ∧ ns.Pairwise (· < ·) ∧ ∀ H', Same H H' → Q (.bl true) H'
theorem scAscending : FnScope ["numbers", "low", "high"] ["numbers"] (defScope sAscending) := ⟨rfl, rfl, rfl, by decide +kernel, rfl, by decide +kernel, by decide +kernel⟩
theorem ok_ascending {f : Addr} {fd : FuncData} {k : Nat} (F : Fun K "is_ascending" "is_ascending" sAscending f fd) (T : Bi mg) : FnOk P w K mg base CX0 (k + 1) f fd ["numbers"] (spAscending K) := by
  refine F.ok scAscending (fun vs H Q E h => ?_) (fun cdv A outer s H vs Q E hr h => ?_)
  · obtain ⟨a, ns, rfl, _⟩ := h
    rfl
  · obtain ⟨a, ns, rfl, hS, hlen, hasc, q⟩ := h
    refine ⟨_, pss_one (ps_ret (pe_callB (cr_all rfl) (by rfl) T.all (by decide +kernel) (pa_cons
      (pe_lc (own := [("low", 1), ("high", 2)]) (g := gTup K 2 (gCons (gName 1) (gCons (gName 2) gNil))) (tt := tYes) (by rfl) scAscending.nd (RZ.pi_zipA (by rfl) T.zip (pa_cons (pv 0) (pa_cons (pe_slice sl_tupA (pv 0) (po_some pe_int) po_none) pa_nil)))
        (blkOk_by (own := [("low", 1), ("high", 2)]) (N := ["numbers", "low", "high"]) (sc := defScope sAscending) (by decide +kernel))
        (fun _ _ _ _ _ => pg_tup rfl (pgs_cons (pg_name (i := 1) scAscending.nd rfl (Or.inl rfl)) (pgs_cons (pg_name (i := 2) scAscending.nd rfl (Or.inl rfl)) pgs_nil)))
        (fun _ _ _ _ _ => pts_nil) (fun _ _ _ _ _ => pe_cmpR op_lt (pv 1) (pv 2) (nomark _))) pa_nil))), ?_⟩
    -- zip(numbers, numbers[1:])
    refine ⟨_, rfl, _, rfl, 1, rfl, a, ns.map V.int, rfl, hS, fun hw => ?_, fun hw c nc => ?_⟩
    · have e0 : ns = [] := List.map_eq_nil_iff.mp (cut1_whole hw)
      subst e0
      refine ⟨a, a, [], [], rfl, .inr ⟨hS, hS, fun D nD => lc_it (walk_zipT (xs := []) (ys := []) rfl) (fun i H2 => i = 0 ∧ Mk H H2 D []) ⟨rfl, .start nD⟩ (fun i H2 _ p => ⟨p.2.same.tup hS, p.2.same.tup hS⟩) (fun i x H2 H3 hi => absurd hi (by show ¬ i < 0; omega)) (fun H2 p => ?_)⟩⟩
      exact ⟨D, [], rfl, .inl (.inl p.2.at_), q H2 p.2.same⟩
    · have s1 : Same H (upd H c (.tup (cutV (ns.map V.int) (some 1) none))) := same_upd nc
      have hc : SqT K (upd H c (.tup (cutV (ns.map V.int) (some 1) none))) c ((ns.drop 1).map V.int) := .inl (.inl (by rw [upd_same, cut1, List.map_drop]))
      refine ⟨a, c, ns.map V.int, (ns.drop 1).map V.int, rfl, .inr ⟨s1.tup hS, hc, fun D nD => lc_it (walk_zipT (xs := ns.map V.int) (ys := (ns.drop 1).map V.int) rfl)
        (fun i H2 => Mk (upd H c (.tup (cutV (ns.map V.int) (some 1) none))) H2 D ((List.replicate i true).map V.bl)) (.start nD) (fun i H2 _ p => ⟨p.same.tup (s1.tup hS), p.same.tup hc⟩) (fun i x H2 H3 hi p y => ?_) (fun H2 p => ?_)⟩⟩
      · obtain ⟨t, x1, x2, rfl, nt, rfl, f1, f2⟩ := y
        have hi' : i < min ns.length (ns.length - 1) := by simpa using hi
        have h1 : i < ns.length := by omega
        have h2 : i + 1 < ns.length := by omega
        have e1 : x1 = .int ns[i] := by
          have : (ns.map V.int)[i]? = some x1 := f1
          rw [List.getElem?_map, List.getElem?_eq_getElem h1] at this
          exact (Option.some.inj this).symm
        have e2 : x2 = .int ns[i + 1] := by
          have : ((ns.drop 1).map V.int)[i]? = some x2 := f2
          rw [List.getElem?_map, List.getElem?_drop, Nat.add_comm 1 i, List.getElem?_eq_getElem h2] at this
          exact (Option.some.inj this).symm
        have hlt : ns[i] < ns[i + 1] := List.pairwise_iff_getElem.mp hasc i (i + 1) h1 h2 (by omega)
        refine ⟨t, [x1, x2], rfl, .inl (.inl upd_same), rfl, x1, [x2], rfl, x2, [], rfl, rfl, rfl, x1, rfl, x2, rfl, _, _, e1, e2, _, (by rw [upd_ne (ne_of_none p.at_ nt)]; exact p.at_), (by rw [List.length_map, List.length_replicate]; exact small1000 (by omega)), ?_⟩
        show Mk _ (upd _ D (.lst (_ ++ [V.bl (decide (ns[i] < ns[i + 1]))]))) D _
        rw [decide_eq_true hlt, List.replicate_succ', List.map_append]
        exact p.put (same_upd nt)
      · refine ⟨D, _, rfl, .inl (.inl p.at_), ?_⟩
        rw [all_true]
        exact q H2 (s1.trans p.same)
end
end Ov
namespace Ov
open PySem PySem.Spec PyProof.Rows L2
section
variable {P : Program} {w : World} {K : PySem.W.Frag} {mg : Str → Option Value} {base : Heap}
/-- lengths that are valid -/
structure Lens (ns : List Int) : Prop where
  few : ns.length ≤ 50
  low : ∀ n ∈ ns, 1 ≤ n ∧ n ≤ 1000
  asc : ns.Pairwise (· < ·)
def spAre : Sp := fun vs H Q _ => ∃ (a : Addr) (ns : List Int), vs = [.ref a] ∧ H a = some (.tup (ns.map V.int)) ∧ Lens ns ∧ ∀ H', Same H H' → Q (.bl true) H'
theorem scAre : FnScope ["value", "item"] ["value"] (defScope sAre) := ⟨rfl, rfl, rfl, by decide +kernel, rfl, by decide +kernel, by decide +kernel⟩
theorem ok_are {f fB fA : Addr} {fd fdB fdA : FuncData} {k : Nat} (F : Fun K "are_lengths" "are_lengths" sAre f fd) (T : Bi mg)
    (B : Def K mg "is_integer_between" sBetween fB fdB ["value", "least", "most"]) (GB : FnOk P w K mg base CX0 (k + 1) fB fdB ["value", "least", "most"] spBetween) (A : Def K mg "is_ascending" sAscending fA fdA ["numbers"]) (m1 : ∃ t, mg "MOST_LENGTHS" = some (.int 50 t)) (m2 : ∃ t, mg "GREATEST_LENGTH" = some (.int 1000 t)) :
    FnOk P w K mg base CX0 (k + 2) f fd ["value"] spAre := by
  have GA : FnOk P w K mg base CX0 (k + 1) fA fdA ["numbers"] (spAscending K) := ok_ascending A.fn T
  obtain ⟨t1, m1⟩ := m1
  obtain ⟨t2, m2⟩ := m2
  refine F.ok scAre (fun vs H Q E h => ?_) (fun cdv A' outer s H vs Q E hr h => ?_)
  · obtain ⟨a, ns, rfl, _⟩ := h
    rfl
  · obtain ⟨a, ns, rfl, hS, L, q⟩ := h
    refine ⟨_, pss_cons (ps_if (PW.pt (pw_or (pt_not (pt_val (pe_callB call_isi (by rfl) T.isi (by decide +kernel) (pa_cons (pv 0) (pa_cons (pe_bltn (v := .ty "tuple") (u := .type "tuple") (by rfl) T.tuple (by decide +kernel) rfl) pa_nil)))))
        (pw_or1 (pt_cmpR op_gt (pe_callB call_len_seq (by rfl) T.len PySem.boot_len (pa_cons (pv 0) pa_nil)) (pe_glob (v := .int 50) (by rfl) m1 ⟨_, rfl⟩) (nomark _))))) (pss_one (ps_ret pe_bl)) pss_nil)
      (pss_one (ps_ret (pe_and (pe_callB (cr_all rfl) (by rfl) T.all (by decide +kernel) (pa_cons
        (pe_lc (own := [("item", 1)]) (g := gName 1) (tt := tYes) (by rfl) scAre.nd (pi_tup (pv 0))
          (blkOk_by (own := [("item", 1)]) (N := ["value", "item"]) (sc := defScope sAre) (by decide +kernel))
          (fun _ _ _ _ _ => pg_name (i := 1) scAre.nd rfl (Or.inl rfl))
          (fun _ _ _ _ _ => pts_nil) (fun _ _ _ _ _ => pe_call GB hr (by rfl) B.gl B.fn.kp B.bi .nil pass0 (pa_cons (pv 1) (pa_cons pe_int (pa_cons (pe_glob (v := .int 1000) (by rfl) m2 ⟨_, rfl⟩) pa_nil))))) pa_nil))
        (pe_one (pe_call GA hr (by rfl) A.gl A.fn.kp A.bi .nil pass0 (pa_cons (pv 0) pa_nil)))))), ?_⟩
    refine ⟨_, rfl, _, _, _, _, _, rfl, .ty _, .base (.tup hS), kit_ty (by decide +kernel : kitB "tuple" "tuple" = some true), _, rfl, ?_⟩
    refine iteF ⟨_, rfl, a, _, rfl, .inr (SqT.of hS), _, _, rfl, rfl, _, rfl, ?_⟩
    rw [List.length_map, decide_eq_false (by have := L.few; omega)]
    refine iteF ?_
    refine ⟨_, rfl, a, rfl, ⟨_, SqT.of hS⟩, fun D nD => lc_tup (K := K) (a := a) (xs := ns.map V.int) (fun i H2 => Mk H H2 D ((List.replicate i true).map V.bl)) (.start nD) (fun i H2 _ p => p.same.tup (SqT.of hS)) ?_ ?_⟩
    · intro i x H2 hx p
      have hi : i < ns.length := by
        have := (List.getElem?_eq_some_iff.mp hx).1
        rwa [List.length_map] at this
      have ex : x = .int ns[i] := by
        rw [List.getElem?_map, List.getElem?_eq_getElem hi] at hx
        exact (Option.some.inj hx).symm
      have hb := L.low _ (List.getElem_mem hi)
      refine ⟨rfl, x, rfl, ns[i], 1, 1000, ?_, hb.1, hb.2, _, p.at_, (by rw [List.length_map, List.length_replicate]; exact small1000 (by have := L.few; omega)), ?_⟩
      · rw [ex]; rfl
      · rw [List.replicate_succ', List.map_append]
        exact p.put (Same.refl _)
    · intro H2 p
      refine ⟨D, _, rfl, SqL.of p.at_, _, rfl, ?_⟩
      rw [all_true]
      refine iteT ⟨_, rfl, a, ns, rfl, p.same.tup (SqT.of hS), by have := L.few; omega, L.asc, fun H3 s3 => q H3 (p.same.trans s3)⟩
end
end Ov
namespace Ov
open PySem PySem.Spec PyProof.Rows L2
section
variable {P : Program} {w : World} {K : PySem.W.Frag} {mg : Str → Option Value} {base : Heap}
def spCheck : Sp := fun vs H Q _ => ∃ (a : Addr) (ns : List Int), vs = [.ref a] ∧ H a = some (.tup (ns.map V.int)) ∧ Lens ns ∧ ∀ H', Same H H' → Q .non H'
theorem scCheck : FnScope ["lengths"] ["lengths"] (defScope sCheck) := ⟨rfl, rfl, rfl, by decide +kernel, rfl, by decide +kernel, by decide +kernel⟩
theorem ok_check {f fA : Addr} {fd fdA : FuncData} {k : Nat} (F : Fun K "check_lengths" "check_lengths" sCheck f fd) (A : Def K mg "are_lengths" sAre fA fdA ["value"]) (GA : FnOk P w K mg base CX0 k fA fdA ["value"] spAre) :
    FnOk P w K mg base CX0 (k + 1) f fd ["lengths"] spCheck := by
  refine F.ok scCheck (fun vs H Q E h => ?_) (fun cdv A' outer s H vs Q E hr h => ?_)
  · obtain ⟨a, ns, rfl, _⟩ := h
    rfl
  · obtain ⟨a, ns, rfl, hS, L, q⟩ := h
    refine ⟨_, pss_one (ps_if (pt_not (pt_val (pe_call GA hr (by rfl) A.gl A.fn.kp A.bi .nil pass0 (pa_cons (pv 0) pa_nil)))) (pss_one ps_never) pss_nil), ?_⟩
    exact ⟨_, rfl, a, ns, rfl, hS, L, fun H' s' => ⟨_, rfl, iteF (q H' s')⟩⟩
def spGcd : Sp := fun vs H Q _ => ∃ (m n : Nat), vs = [.int m, .int n] ∧ Q (.int (Nat.gcd m n)) H
theorem scGcd : FnScope ["first", "second"] ["first", "second"] (defScope sGcd) := ⟨rfl, rfl, rfl, by decide +kernel, rfl, by decide +kernel, by decide +kernel⟩
def secondOf : L2.St → Nat := fun σ => match σ with
  | [_, some (.int n)] => n.toNat
  | _ => 0
theorem ok_gcd {f : Addr} {fd : FuncData} {k : Nat} (F : Fun K "divisor_of_two" "divisor_of_two" sGcd f fd) : FnOk P w K mg base CX0 (k + 1) f fd ["first", "second"] spGcd := by
  refine F.ok scGcd (fun vs H Q E h => ?_) (fun cdv A' outer s H vs Q E hr h => ?_)
  · obtain ⟨m, n, rfl, _⟩ := h
    rfl
  · obtain ⟨m, n, rfl, q⟩ := h
    refine ⟨_, pss_cons (ps_while PassesOwn.never (pt_cmpR op_gt (pv 1) pe_int (nomark _))
      (pss_one (ps_par (i := 0) (j := 1) (by rfl) scGcd.nd rfl rfl (by decide) rfl rfl (pa_cons (pv 1) (pa_cons (pe_op op_mod (pv 0) (pv 1)) pa_nil)) (by rfl))))
      (pss_one (ps_ret (pv 0))), ?_⟩
    refine while_by (fun σ H2 => H2 = H ∧ ∃ (x y : Nat), σ = [some (.int x), some (.int y)] ∧ Nat.gcd x y = Nat.gcd m n) (fun σ _ => secondOf σ) ⟨rfl, m, n, rfl, rfl⟩ ?_ ?_
    · rintro σ H2 ⟨rfl, x, y, rfl, e⟩
      refine ⟨_, rfl, _, _, rfl, rfl, _, rfl, ?_⟩
      by_cases hy : (y : Int) > 0
      · rw [decide_eq_true hy]
        refine iteT ⟨_, rfl, _, rfl, _, rfl, _, _, rfl, rfl, hy, _, _, rfl, ⟨rfl, y, x % y, rfl, ?_⟩, ?_⟩
        · rw [← e, Nat.gcd_comm x y, Nat.gcd_rec y x, Nat.gcd_comm]
        · show ((x : Int) % (y : Int)).toNat < (y : Int).toNat
          have : (x : Int) % (y : Int) = ((x % y : Nat) : Int) := by simp
          rw [this, Int.toNat_natCast, Int.toNat_natCast]
          exact Nat.mod_lt x (show 0 < y by omega)
      · rw [decide_eq_false hy]
        have y0 : y = 0 := by omega
        subst y0
        rw [Nat.gcd_zero_right] at e
        refine iteF ⟨_, rfl, ?_⟩
        rw [e]
        exact q
    · rintro σ H2 Q1 Q2 hQ ⟨v, h1, i, j, h2, h3, b, h4, h5⟩
      exact ⟨v, h1, i, j, h2, h3, b, h4, hQ _ _ h5⟩
end
end Ov
namespace Ov
open PySem PySem.Spec PyProof.Rows L2
/-- a least sum as a value -/
def optV : Option Nat → V
  | none => .non
  | some x => .int x
theorem relax_none {L r f : Nat} {a : List (Option Nat)} (h : a.getD r none = none) : relax L r f a = a := by
  unfold relax; rw [h]
theorem relax_new {L r f x : Nat} {a : List (Option Nat)} (h : a.getD r none = some x) (h2 : a.getD f none = none) : relax L r f a = a.set f (some (x + L)) := by
  unfold relax; simp only [h, h2]
theorem relax_lt {L r f x y : Nat} {a : List (Option Nat)} (h : a.getD r none = some x) (h2 : a.getD f none = some y) (c : x + L < y) : relax L r f a = a.set f (some (x + L)) := by
  unfold relax; simp only [h, h2]; exact if_pos c
theorem relax_ge {L r f x y : Nat} {a : List (Option Nat)} (h : a.getD r none = some x) (h2 : a.getD f none = some y) (c : ¬ x + L < y) : relax L r f a = a := by
  unfold relax; simp only [h, h2]; exact if_neg c
theorem at_opt {a : List (Option Nat)} {r : Nat} {o : Option Nat} (hr : r < a.length) (h : a.getD r none = o) : (a.map optV)[r]? = some (optV o) := by
  rw [List.getElem?_map, List.getElem?_eq_getElem hr]
  rw [List.getD_eq_getElem?_getD, List.getElem?_eq_getElem hr] at h
  show some (optV a[r]) = _
  rw [show a[r] = o from h]
theorem set_opt (a : List (Option Nat)) (f z : Nat) : (a.map optV).set f (.int ((z : Nat) : Int)) = (a.set f (some z)).map optV := by
  rw [List.map_set]; rfl
section
variable {P : Program} {w : World} {K : PySem.W.Frag} {mg : Str → Option Value} {base : Heap}
def spWith : Sp := fun vs H Q _ => ∃ (l : Addr) (a : List (Option Nat)) (L : Nat), vs = [.ref l, .int L] ∧ H l = some (.lst (a.map optV)) ∧ 0 < a.length ∧ a.length ≤ 1000 ∧ 0 < L ∧ L ≤ 1000 ∧
  ∀ H' p, Same H H' → H p = none → H' p = some (.lst ((withLen L a).map optV)) → Q (.ref p) H'
theorem scWith : FnScope ["least", "length", "lowered", "divisor", "steps", "first", "remainder", "step", "following", "reached"] ["least", "length"] (defScope sWith) := ⟨rfl, rfl, rfl, by decide +kernel, rfl, by decide +kernel, by decide +kernel⟩
theorem ok_with {f fG : Addr} {fd fdG : FuncData} {k : Nat} (F : Fun K "with_length" "with_length" sWith f fd) (T : Bi mg) (G : Def K mg "divisor_of_two" sGcd fG fdG ["first", "second"]) :
    FnOk P w K mg base CX0 (k + 2) f fd ["least", "length"] spWith := by
  have GG : FnOk P w K mg base CX0 (k + 1) fG fdG ["first", "second"] spGcd := ok_gcd G.fn
  refine F.ok scWith (fun vs H Q E h => ?_) (fun cdv A' outer s H vs Q E hr h => ?_)
  · obtain ⟨l, a, L, rfl, _⟩ := h
    rfl
  · obtain ⟨l, a, L, rfl, hl, hm, hm2, hL, hL2, q⟩ := h
    refine ⟨_, pss_cons (ps_set (i := 2) scWith.nd rfl (.inl rfl) (pe_callTy call_list_of (by rfl) T.list (by decide +kernel) (pa_cons (pv 0) pa_nil)))
      (pss_cons (ps_set (i := 3) scWith.nd rfl (.inl rfl) (pe_call GG hr (by rfl) G.gl G.fn.kp G.bi .nil pass0 (pa_cons (pe_callB call_len_seq (by rfl) T.len PySem.boot_len (pa_cons (pv 0) pa_nil)) (pa_cons (pv 1) pa_nil))))
      (pss_cons (ps_set (i := 4) scWith.nd rfl (.inl rfl) (pe_op op_mul pe_int (pe_op op_fdiv (pe_callB call_len_seq (by rfl) T.len PySem.boot_len (pa_cons (pv 0) pa_nil)) (pv 3))))
      (pss_cons (ps_for PassesOwn.never rfl (pi_range1 (by rfl) T.range (pa_cons (pv 3) pa_nil)) (pg_name (i := 5) scWith.nd rfl (.inl rfl))
        (pss_cons (ps_set (i := 6) scWith.nd rfl (.inl rfl) (pv 5))
        (pss_one (ps_for PassesOwn.never rfl (pi_range1 (by rfl) T.range (pa_cons (pv 4) pa_nil)) (pg_name (i := 7) scWith.nd rfl (.inl rfl))
          (pss_cons (ps_set (i := 8) scWith.nd rfl (.inl rfl) (pe_op op_mod (pe_op op_add (pv 6) (pv 1)) (pe_callB call_len_seq (by rfl) T.len PySem.boot_len (pa_cons (pv 0) pa_nil))))
          (pss_cons (ps_if (pt_cmpR op_notN (pe_ix ix_list (pv 2) (pv 6) (fun _ _ => rfl)) pe_non (nomark _))
              (pss_cons (ps_set (i := 9) scWith.nd rfl (.inl rfl) (pe_op op_add (pe_ix ix_list (pv 2) (pv 6) (fun _ _ => rfl)) (pv 1)))
              (pss_one (ps_if (PW.pt (pw_or (pt_cmpR op_isN (pe_ix ix_list (pv 2) (pv 8) (fun _ _ => rfl)) pe_non (nomark _)) (pw_or1 (pt_cmpR op_lt (pv 9) (pe_ix ix_list (pv 2) (pv 8) (fun _ _ => rfl)) (nomark _)))))
                (pss_one (ps_asg (pv 9) (pg_sub (pv 2) (pv 8) set_list))) pss_nil))) pss_nil)
          (pss_one (ps_set (i := 6) scWith.nd rfl (.inl rfl) (pv 8)))))))))
      (pss_one (ps_ret (pv 2)))))), ?_⟩
    -- lowered = list(least)
    refine ⟨_, rfl, l, _, rfl, .inl (SqL.of hl), fun p np => ?_⟩
    have s1 : Same H (upd H p (.lst (a.map optV))) := same_upd np
    -- divisor
    refine ⟨_, rfl, l, _, rfl, .inl (SqL.of (s1 _ _ hl)), _, rfl, a.length, L, (by rw [List.length_map]; rfl), ?_⟩
    have hg : 0 < Nat.gcd a.length L := Nat.gcd_pos_of_pos_left _ hm
    have hg2 : Nat.gcd a.length L ≤ a.length := Nat.le_of_dvd hm (Nat.gcd_dvd_left _ _)
    -- steps
    refine ⟨_, rfl, l, _, rfl, .inl (SqL.of (s1 _ _ hl)), _, rfl, _, _, rfl, rfl, ⟨by omega, by omega⟩, _, _, rfl, rfl, .inl ⟨by decide, by decide⟩, ?_⟩
    have eT : (2 : Int) * (((a.map optV).length : Int) / (Nat.gcd a.length L : Nat)) = ((2 * (a.length / Nat.gcd a.length L) : Nat) : Int) := by
      rw [List.length_map]; simp
    have hT2 : 2 * (a.length / Nat.gcd a.length L) ≤ 2000 := by
      have := Nat.div_le_self a.length (Nat.gcd a.length L)
      omega
    generalize hTe : 2 * (a.length / Nat.gcd a.length L) = T2 at *
    dsimp only
    rw [eT]
    -- for first in range(divisor)
    refine ⟨_, rfl, _, rfl, by omega, by omega, for_range (lo := 0) (fun i σ H2 => ∃ y5 y6 y7 y8 y9, σ = [some (.ref l), some (.int L), some (.ref p), some (.int (Nat.gcd a.length L : Nat)), some (.int (T2 : Nat)), y5, y6, y7, y8, y9] ∧ Same H H2 ∧ H2 p = some (.lst ((walks L a.length T2 i a).map optV)))
      ⟨none, none, none, none, none, rfl, s1, upd_same⟩ ?_ ?_⟩
    · rintro i σ H2 hi ⟨y5, y6, y7, y8, y9, rfl, s2, h2⟩
      have hi' : i < Nat.gcd a.length L := by simpa using hi
      have him : i < a.length := by omega
      -- remainder = first
      refine ⟨_, rfl, ?_⟩
      refine ⟨_, rfl, _, rfl, by omega, by omega, for_range (lo := 0) (fun t σ H3 => ∃ y7 y8 y9, σ = [some (.ref l), some (.int L), some (.ref p), some (.int (Nat.gcd a.length L : Nat)), some (.int (T2 : Nat)), some (.int (0 + (i : Int))), some (.int ((steps L a.length t i (walks L a.length T2 i a)).2 : Nat)), y7, y8, y9] ∧ Same H H3 ∧ H3 p = some (.lst ((steps L a.length t i (walks L a.length T2 i a)).1.map optV)))
        ⟨y7, y8, y9, ?_, s2, h2⟩ ?_ ?_⟩
      · show [some _, some _, some _, some _, some _, some _, some (V.int (0 + (i : Int))), _, _, _] = _
        rw [Int.zero_add]; rfl
      · rintro t σ H3 ht ⟨y7, y8, y9, rfl, s3, h3⟩
        generalize hq : steps L a.length t i (walks L a.length T2 i a) = qq at *
        have hlen : qq.1.length = a.length := by
          rw [← hq]
          exact (steps_le ..).1.trans (walks_le ..).1
        have hr : qq.2 < a.length := by
          rw [← hq, steps_at _ _ _ _ him]
          exact Nat.mod_lt _ hm
        have hl3 := s3 _ _ hl
        -- following
        refine ⟨_, rfl, _, rfl, _, _, rfl, rfl, _, rfl, l, _, rfl, .inl (SqL.of hl3), _, _, rfl, rfl, (by rw [List.length_map]; omega), ?_⟩
        have ef : ((qq.2 : Nat) : Int) + (L : Int) = ((qq.2 + L : Nat) : Int) := by simp
        have ef2 : (((qq.2 : Nat) : Int) + (L : Int)) % (((a.map optV).length : Nat) : Int) = (((qq.2 + L) % a.length : Nat) : Int) := by
          rw [List.length_map]; simp
        dsimp only
        rw [ef2]
        have hf : (qq.2 + L) % a.length < qq.1.length := by rw [hlen]; exact Nat.mod_lt _ hm
        have hst : steps L a.length (t + 1) i (walks L a.length T2 i a) = (relax L qq.2 ((qq.2 + L) % a.length) qq.1, (qq.2 + L) % a.length) := by
          show (relax L (steps L a.length t i (walks L a.length T2 i a)).2 _ _, _) = _
          rw [hq]
        generalize hfe : (qq.2 + L) % a.length = ff at *
        -- if lowered[remainder] is not None
        have hr' : qq.2 < qq.1.length := by rw [hlen]; exact hr
        cases eo : qq.1.getD qq.2 none with
        | none =>
          refine ⟨_, rfl, _, rfl, p, _, _, _, rfl, rfl, SqL.of h3, atI_nat (at_opt hr' eo), rfl, _, rfl, ?_⟩
          refine iteF ⟨_, rfl, ?_⟩
          rw [hst, relax_none eo]
          exact ⟨_, _, _, rfl, s3, h3⟩
        | some x =>
          refine ⟨_, rfl, _, rfl, p, _, _, _, rfl, rfl, SqL.of h3, atI_nat (at_opt hr' eo), rfl, _, rfl, ?_⟩
          refine iteT ⟨_, rfl, _, rfl, p, _, _, _, rfl, rfl, SqL.of h3, atI_nat (at_opt hr' eo), _, rfl, _, _, rfl, rfl, ?_⟩
          have ex : (x : Int) + (L : Int) = ((x + L : Nat) : Int) := by simp
          cases eo2 : qq.1.getD ff none with
          | none =>
            refine ⟨_, rfl, _, rfl, p, _, _, _, rfl, rfl, SqL.of h3, atI_nat (at_opt hf eo2), rfl, _, rfl, ?_⟩
            refine iteT ⟨_, rfl, _, rfl, _, rfl, p, _, _, ff, rfl, rfl, h3, (by rw [List.length_map]; exact ixN_at hf), ?_⟩
            refine ⟨_, rfl, ?_⟩
            rw [hst, relax_new eo eo2]
            refine ⟨_, _, _, rfl, fun b o e => ?_, ?_⟩
            · rw [upd_ne (ne_of_none e np)]
              exact s3 b o e
            · rw [upd_same]
              show some (HO.lst ((qq.1.map optV).set ff (V.int ((x : Int) + (L : Int))))) = _
              rw [ex, set_opt]
          | some y =>
            refine ⟨_, rfl, _, rfl, p, _, _, _, rfl, rfl, SqL.of h3, atI_nat (at_opt hf eo2), rfl, _, rfl, ?_⟩
            refine iteF ⟨_, rfl, _, rfl, _, rfl, p, _, _, _, rfl, rfl, SqL.of h3, atI_nat (at_opt hf eo2), _, _, rfl, rfl, _, rfl, ?_⟩
            by_cases c : x + L < y
            · rw [decide_eq_true (show (x : Int) + (L : Int) < (y : Int) by omega)]
              refine iteT ⟨_, rfl, _, rfl, _, rfl, p, _, _, ff, rfl, rfl, h3, (by rw [List.length_map]; exact ixN_at hf), ?_⟩
              refine ⟨_, rfl, ?_⟩
              rw [hst, relax_lt eo eo2 c]
              refine ⟨_, _, _, rfl, fun b o e => ?_, ?_⟩
              · rw [upd_ne (ne_of_none e np)]
                exact s3 b o e
              · rw [upd_same]
                show some (HO.lst ((qq.1.map optV).set ff (V.int ((x : Int) + (L : Int))))) = _
                rw [ex, set_opt]
            · rw [decide_eq_false (show ¬ (x : Int) + (L : Int) < (y : Int) by omega)]
              refine iteF ⟨_, rfl, ?_⟩
              rw [hst, relax_ge eo eo2 c]
              exact ⟨_, _, _, rfl, s3, h3⟩
      · rintro σ H3 ⟨y7, y8, y9, rfl, s3, h3⟩
        refine ⟨_, _, _, _, _, rfl, s3, ?_⟩
        exact h3
    · rintro σ H2 ⟨y5, y6, y7, y8, y9, rfl, s2, h2⟩
      refine ⟨_, rfl, q H2 p s2 np ?_⟩
      rw [h2]
      unfold withLen
      rw [hTe]
      simp
end
end Ov
namespace Ov
open PySem PySem.Spec PyProof.Rows L2
theorem fold_len (R : List Nat) : ∀ a : List (Option Nat), (R.foldl (fun a L => withLen L a) a).length = a.length := by
  induction R with
  | nil => intro a; rfl
  | cons L R ih => intro a; rw [List.foldl_cons, ih, withLen_len]
section
variable {P : Program} {w : World} {K : PySem.W.Frag} {mg : Str → Option Value} {base : Heap}
def spLeast : Sp := fun vs H Q _ => ∃ (a : Addr) (ns : List Int), vs = [.ref a] ∧ H a = some (.tup (ns.map V.int)) ∧ Lens ns ∧
  ∀ H' p, Same H H' → H p = none → H' p = some (.tup ((leasts (ns.map Int.toNat)).map optV)) → Q (.ref p) H'
theorem scLeast : FnScope ["lengths", "least", "length"] ["lengths"] (defScope sLeast) := ⟨rfl, rfl, rfl, by decide +kernel, rfl, by decide +kernel, by decide +kernel⟩
theorem ok_least {f fC fW : Addr} {fd fdC fdW : FuncData} {k : Nat} (F : Fun K "least_sums" "least_sums" sLeast f fd) (T : Bi mg)
    (C : Def K mg "check_lengths" sCheck fC fdC ["lengths"]) (GC : FnOk P w K mg base CX0 k fC fdC ["lengths"] spCheck)
    (W : Def K mg "with_length" sWith fW fdW ["least", "length"]) (GW : FnOk P w K mg base CX0 k fW fdW ["least", "length"] spWith) : FnOk P w K mg base CX0 (k + 1) f fd ["lengths"] spLeast := by
  refine F.ok scLeast (fun vs H Q E h => ?_) (fun cdv A' outer s H vs Q E hr h => ?_)
  · obtain ⟨a, ns, rfl, _⟩ := h
    rfl
  · obtain ⟨a, ns, rfl, hS, L, q⟩ := h
    refine ⟨_, pss_cons (ps_expr (pe_call GC hr (by rfl) C.gl C.fn.kp C.bi .nil pass0 (pa_cons (pv 0) pa_nil)))
      (pss_cons (ps_if (pt_cmpR op_eq (pe_callB call_len_seq (by rfl) T.len PySem.boot_len (pa_cons (pv 0) pa_nil)) pe_int (nomark _)) (pss_one (ps_ret (pe_tup pa_nil))) pss_nil)
      (pss_cons (ps_set (i := 1) scLeast.nd rfl (.inl rfl) (pe_op op_cat (pe_lst (pa_cons pe_int pa_nil)) (pe_op op_rep (pe_lst (pa_cons pe_non pa_nil)) (pe_op op_sub (pe_ix ix_tup (pv 0) pe_int (fun _ _ => rfl)) pe_int))))
      (pss_cons (ps_for PassesOwn.never rfl (pi_tup (pe_slice sl_tupA (pv 0) (po_some pe_int) po_none)) (pg_name (i := 2) scLeast.nd rfl (.inl rfl))
        (pss_one (ps_set (i := 1) scLeast.nd rfl (.inl rfl) (pe_call GW hr (by rfl) W.gl W.fn.kp W.bi .nil pass0 (pa_cons (pv 1) (pa_cons (pv 2) pa_nil))))))
      (pss_one (ps_ret (pe_callTy call_tuple_of (by rfl) T.tuple (by decide +kernel) (pa_cons (pv 1) pa_nil))))))), ?_⟩
    refine ⟨_, rfl, a, ns, rfl, hS, L, fun H1 s1 => ?_⟩
    have h1 := s1 _ _ hS
    refine ⟨_, rfl, a, _, rfl, .inr (SqT.of h1), rfl, _, rfl, ite2 (fun e => ?_) (fun e => ?_)⟩
    · have e0 : ((ns.map V.int).length : Int) = 0 := V.int.inj (of_decide_eq_true e)
      have e1 : ns = [] := by
        cases ns with
        | nil => rfl
        | cons x r => rw [List.length_map, List.length_cons] at e0; omega
      subst e1
      refine ⟨Nat.zero_le _, fun p np => q _ p (s1.trans (same_upd np)) (s1.free np) ?_⟩
      rw [upd_same]; rfl
    · obtain ⟨n0, rest, rfl⟩ : ∃ x r, ns = x :: r := by
        cases ns with
        | nil => exact absurd (decide_eq_true rfl) e
        | cons x r => exact ⟨x, r, rfl⟩
      obtain ⟨hn1, hn2⟩ := L.low n0 List.mem_cons_self
      have hrl : rest.length ≤ 50 := by have := L.few; rw [List.length_cons] at this; omega
      -- [0] + [None] * (lengths[0] - 1)
      refine ⟨by show 1 ≤ sizeLine; decide, fun p1 np1 => ⟨by show 1 ≤ sizeLine; decide, fun p2 np2 => ?_⟩⟩
      have sa : Same H1 (upd H1 p1 (.lst [.int 0])) := same_upd np1
      have sb := same_upd (o := HO.lst [V.non]) np2
      refine ⟨_, rfl, a, _, _, _, rfl, rfl, SqT.of (sb _ _ (sa _ _ h1)), atI_nat (j := 0) rfl, _, _, rfl, rfl, p2, _, _, rfl, rfl, upd_same, by omega, by omega, ?_, fun p3 np3 => ?_⟩
      · have : (n0 - 1).toNat ≤ 1000 := by omega
        show 1 * (n0 - 1).toNat ≤ sizeLine
        exact Nat.le_of_lt (small1000 (by omega))
      have sc := same_upd (o := HO.lst (List.replicate (n0 - 1).toNat [V.non]).flatten) np3
      refine ⟨p1, p3, [.int 0], _, rfl, rfl, ?_, upd_same, ?_, fun p4 np4 => ?_⟩
      · exact sc _ _ (sb _ _ upd_same)
      · rw [flat_rep, List.length_replicate]
        show 1 + (n0 - 1).toNat ≤ sizeLine
        exact Nat.le_of_lt (small1000 (by omega))
      have e4 : (([V.int 0] ++ (List.replicate (n0 - 1).toNat [V.non]).flatten)) = ((some 0 :: List.replicate (n0.toNat - 1) none : List (Option Nat)).map optV) := by
        rw [flat_rep, List.map_cons, List.map_replicate]
        show V.int 0 :: List.replicate (n0 - 1).toNat V.non = V.int ((0 : Nat) : Int) :: List.replicate (n0.toNat - 1) V.non
        rw [show (n0 - 1).toNat = n0.toNat - 1 by omega]
        rfl
      rw [e4] at *
      have sd := same_upd (o := HO.lst ((some 0 :: List.replicate (n0.toNat - 1) none : List (Option Nat)).map optV)) np4
      have s4 : Same H _ := (((s1.trans sa).trans sb).trans sc).trans sd
      have n4 : H p4 = none := (((s1.trans sa).trans sb).trans sc).free np4
      have h44 := @upd_same (upd (upd (upd H1 p1 (HO.lst [V.int 0])) p2 (HO.lst [V.non])) p3 (HO.lst (List.replicate (n0 - 1).toNat [V.non]).flatten)) p4 (HO.lst ((some 0 :: List.replicate (n0.toNat - 1) none : List (Option Nat)).map optV))
      generalize upd (upd (upd (upd H1 p1 (HO.lst [V.int 0])) p2 (HO.lst [V.non])) p3 (HO.lst (List.replicate (n0 - 1).toNat [V.non]).flatten)) p4 (HO.lst ((some 0 :: List.replicate (n0.toNat - 1) none : List (Option Nat)).map optV)) = H4 at *
      -- for length in lengths[1:]
      refine ⟨_, rfl, 1, rfl, a, _, rfl, SqT.of (s4 _ _ hS), fun hw => ?_, fun _ c nc => ?_⟩
      · have := cut1_whole hw
        simp at this
      have se := same_upd (o := HO.tup (cutV ((n0 :: rest).map V.int) (some 1) none)) nc
      have hc : SqT K (upd H4 c (HO.tup (cutV ((n0 :: rest).map V.int) (some 1) none))) c (rest.map V.int) := .inl (.inl (by rw [upd_same, cut1]; rfl))
      generalize hH5 : upd H4 c (HO.tup (cutV ((n0 :: rest).map V.int) (some 1) none)) = H5 at *
      have h54 : H5 p4 = some (.lst ((some 0 :: List.replicate (n0.toNat - 1) none : List (Option Nat)).map optV)) := se _ _ h44
      have s5 : Same H H5 := s4.trans se
      refine ⟨c, rfl, ⟨_, hc⟩, for_tup (K := K) (a := c) (xs := rest.map V.int) (fun i σ H6 => ∃ pl y, σ = [some (.ref a), some (.ref pl), y] ∧ Same H5 H6 ∧ H6 pl = some (.lst ((((rest.map Int.toNat).take i).foldl (fun a L => withLen L a) (some 0 :: List.replicate (n0.toNat - 1) none)).map optV)))
        ⟨p4, none, rfl, Same.refl _, h54⟩ (fun i σ H6 _ ⟨_, _, _, s6, _⟩ => s6.tup hc) ?_ ?_⟩
      · rintro i x σ H6 hx ⟨pl, y, rfl, s6, h6⟩
        have hi : i < rest.length := by
          have := (List.getElem?_eq_some_iff.mp hx).1
          rwa [List.length_map] at this
        have ex : x = .int rest[i] := by
          rw [List.getElem?_map, List.getElem?_eq_getElem hi] at hx
          exact (Option.some.inj hx).symm
        obtain ⟨b1, b2⟩ := L.low rest[i] (List.mem_cons_of_mem _ (List.getElem_mem hi))
        have exn : x = .int ((rest[i].toNat : Nat) : Int) := by rw [ex, Int.toNat_of_nonneg (by omega)]
        have hlen : (((rest.map Int.toNat).take i).foldl (fun a L => withLen L a) (some 0 :: List.replicate (n0.toNat - 1) none)).length = n0.toNat := by
          rw [fold_len, List.length_cons, List.length_replicate]; omega
        refine ⟨_, rfl, _, rfl, pl, _, rest[i].toNat, ?_, h6, by rw [hlen]; omega, by rw [hlen]; omega, by omega, by omega, fun H7 p7 s7 n7 h7 => ?_⟩
        · rw [exn]; rfl
        refine ⟨p7, _, rfl, s6.trans s7, ?_⟩
        have hx2 : (rest.map Int.toNat)[i]? = some rest[i].toNat := by rw [List.getElem?_map, List.getElem?_eq_getElem hi]; rfl
        rw [take_more hx2, List.foldl_append]
        exact h7
      · rintro σ H6 ⟨pl, y, rfl, s6, h6⟩
        refine ⟨_, rfl, pl, _, rfl, .inl ⟨SqL.of h6, fun p np => ?_⟩⟩
        refine q _ p ((s5.trans s6).trans (same_upd np)) ((s5.trans s6).free np) ?_
        rw [upd_same, List.take_of_length_le (by rw [List.length_map, List.length_map]; exact Nat.le_refl _)]
        rfl
end
end Ov
namespace Ov
open PySem PySem.Spec PyProof.Rows L2
section
variable {P : Program} {w : World} {K : PySem.W.Frag} {mg : Str → Option Value} {base : Heap}
def spCommon : Sp := fun vs H Q _ => ∃ (a : Addr) (ns : List Int), vs = [.ref a] ∧ H a = some (.tup (ns.map V.int)) ∧ Lens ns ∧ ∀ H', Same H H' → Q (.int (gcdAll (ns.map Int.toNat) : Nat)) H'
theorem scCommon : FnScope ["lengths", "divisor", "length"] ["lengths"] (defScope sCommon) := ⟨rfl, rfl, rfl, by decide +kernel, rfl, by decide +kernel, by decide +kernel⟩
theorem ok_common {f fC fG : Addr} {fd fdC fdG : FuncData} {k : Nat} (F : Fun K "common_divisor" "common_divisor" sCommon f fd)
    (C : Def K mg "check_lengths" sCheck fC fdC ["lengths"]) (GC : FnOk P w K mg base CX0 (k + 1) fC fdC ["lengths"] spCheck) (G : Def K mg "divisor_of_two" sGcd fG fdG ["first", "second"]) : FnOk P w K mg base CX0 (k + 2) f fd ["lengths"] spCommon := by
  have GG : FnOk P w K mg base CX0 (k + 1) fG fdG ["first", "second"] spGcd := ok_gcd G.fn
  refine F.ok scCommon (fun vs H Q E h => ?_) (fun cdv A' outer s H vs Q E hr h => ?_)
  · obtain ⟨a, ns, rfl, _⟩ := h
    rfl
  · obtain ⟨a, ns, rfl, hS, L, q⟩ := h
    refine ⟨_, pss_cons (ps_expr (pe_call GC hr (by rfl) C.gl C.fn.kp C.bi .nil pass0 (pa_cons (pv 0) pa_nil)))
      (pss_cons (ps_set (i := 1) scCommon.nd rfl (.inl rfl) pe_int)
      (pss_cons (ps_for PassesOwn.never rfl (pi_tup (pv 0)) (pg_name (i := 2) scCommon.nd rfl (.inl rfl))
        (pss_one (ps_set (i := 1) scCommon.nd rfl (.inl rfl) (pe_call GG hr (by rfl) G.gl G.fn.kp G.bi .nil pass0 (pa_cons (pv 1) (pa_cons (pv 2) pa_nil))))))
      (pss_one (ps_ret (pv 1))))), ?_⟩
    refine ⟨_, rfl, a, ns, rfl, hS, L, fun H1 s1 => ?_⟩
    have h1 := s1 _ _ hS
    refine ⟨_, rfl, a, rfl, ⟨_, SqT.of h1⟩, for_tup (K := K) (a := a) (xs := ns.map V.int) (fun i σ H6 => H6 = H1 ∧ ∃ y, σ = [some (.ref a), some (.int (gcdAll ((ns.map Int.toNat).take i) : Nat)), y])
      ⟨rfl, none, rfl⟩ (fun i σ H6 _ ⟨e, _⟩ => by rw [e]; exact SqT.of h1) ?_ ?_⟩
    · rintro i x σ H6 hx ⟨rfl, y, rfl⟩
      have hi : i < ns.length := by
        have := (List.getElem?_eq_some_iff.mp hx).1
        rwa [List.length_map] at this
      have ex : x = .int ns[i] := by
        rw [List.getElem?_map, List.getElem?_eq_getElem hi] at hx
        exact (Option.some.inj hx).symm
      have hb := L.low _ (List.getElem_mem hi)
      have exn : x = .int ((ns[i].toNat : Nat) : Int) := by rw [ex, Int.toNat_of_nonneg (by omega)]
      refine ⟨_, rfl, _, rfl, gcdAll ((ns.map Int.toNat).take i), ns[i].toNat, ?_, rfl, ?_⟩
      · rw [exn]; rfl
      · have hx2 : (ns.map Int.toNat)[i]? = some ns[i].toNat := by rw [List.getElem?_map, List.getElem?_eq_getElem hi]; rfl
        have e : gcdAll ((ns.map Int.toNat).take (i + 1)) = Nat.gcd (gcdAll ((ns.map Int.toNat).take i)) ns[i].toNat := by
          rw [take_more hx2]
          unfold gcdAll
          rw [List.foldl_append]
          rfl
        rw [e]
        exact ⟨_, rfl⟩
    · rintro σ H6 ⟨rfl, y, rfl⟩
      refine ⟨_, rfl, ?_⟩
      rw [List.length_map, List.take_of_length_le (by rw [List.length_map]; exact Nat.le_refl _)]
      exact q _ s1
end
end Ov
namespace Ov
open PySem PySem.Spec PyProof.Rows L2
section
variable {P : Program} {w : World} {K : PySem.W.Frag} {mg : Str → Option Value} {base : Heap}
theorem scReached : FnScope ["least", "total", "reached"] ["least", "total"] (defScope sReached) := ⟨rfl, rfl, rfl, by decide +kernel, rfl, by decide +kernel, by decide +kernel⟩
end
end Ov
namespace Ov
open PySem PySem.Spec PyProof.Rows L2
/-- a box of numbers: what is left of its own digits, a number, and how many were mixed -/
def BoxAt (H : Hp) (p : Addr) (n : Nat) : Prop := ∃ a b c : Int, H p = some (.lst [.int a, .int b, .int c]) ∧ 0 ≤ a ∧ a < 2 ^ 800 ∧ 0 ≤ b ∧ b < 2 ^ 62 ∧ 0 ≤ c ∧ c ≤ n
theorem BoxAt.mono {H : Hp} {p : Addr} {n m : Nat} (h : BoxAt H p n) (l : n ≤ m) : BoxAt H p m := by
  obtain ⟨a, b, c, e, h1, h2, h3, h4, h5, h6⟩ := h
  exact ⟨a, b, c, e, h1, h2, h3, h4, h5, by omega⟩
theorem BoxAt.same {H H' : Hp} {p : Addr} {n : Nat} (h : BoxAt H p n) (s : Same H H') : BoxAt H' p n := by
  obtain ⟨a, b, c, e, r⟩ := h
  exact ⟨a, b, c, s _ _ e, r⟩
/-- all that stood, but at p, stands -/
def But (p : Addr) (H H' : Hp) : Prop := ∀ b o, H b = some o → b ≠ p → H' b = some o
theorem But.refl (p : Addr) (H : Hp) : But p H H := fun _ _ e _ => e
theorem But.trans {p : Addr} {H H1 H2 : Hp} (a : But p H H1) (b : But p H1 H2) : But p H H2 := fun c o e n => b c o (a c o e n) n
theorem But.of {p : Addr} {H H1 : Hp} (a : Same H H1) : But p H H1 := fun c o e _ => a c o e
theorem But.free {p l : Addr} {H H' : Hp} (e : But p H H') (hp : H p ≠ none) (h : H' l = none) (hp' : H' p ≠ none) : H l = none := by
  cases q : H l with
  | none => rfl
  | some o =>
    by_cases hl : l = p
    · subst hl; exact absurd h hp'
    · rw [e l o q hl] at h; cases h
theorem BoxAt.ne {H : Hp} {p : Addr} {n : Nat} (h : BoxAt H p n) : H p ≠ none := by
  obtain ⟨a, b, c, e, _⟩ := h
  rw [e]; exact fun z => nomatch z
section
variable {P : Program} {w : World} {K : PySem.W.Frag} {mg : Str → Option Value} {base : Heap}
def spBox (K : PySem.W.Frag) : Sp := fun vs H Q _ => ∃ (a : Addr) (ns : List Int) (j : Nat), vs = [.ref a, .int j] ∧ SqL K H a (ns.map V.int) ∧ j ≤ 63 ∧ ∀ H' p, Same H H' → H p = none → BoxAt H' p 0 → Q (.ref p) H'
theorem scBox : FnScope ["_law_script", "_law_k", "_law_cell", "_law_own"] ["_law_script", "_law_k"] (defScope sBox) := ⟨rfl, rfl, rfl, by decide +kernel, rfl, by decide +kernel, by decide +kernel⟩
theorem big_pos : (0 : Int) < 10 ^ (60 : Int).toNat * 10 ^ (60 : Int).toNat * 10 ^ (60 : Int).toNat * 10 ^ (60 : Int).toNat := by decide +kernel
theorem big_lt : (10 : Int) ^ (60 : Int).toNat * 10 ^ (60 : Int).toNat * 10 ^ (60 : Int).toNat * 10 ^ (60 : Int).toNat ≤ 2 ^ 800 := by decide +kernel
/-- what is left of the text behind the cell -/
def tBoxRest : TS := tSeq (tAsg (tOp (rI CMul fun i j => .int (i * j)) (tOp (rI (fun _ j => 0 < j) fun i j => .int (i % j)) (tCB (fun xs H Q => ∃ i, xs = [.int i] ∧ Q (.int (if i < 0 then -i else i)) H) (tCons (tVar 2) tNil))
    (tOp (rI CMulW fun i j => .int (i * j)) (tOp (rI CMulW fun i j => .int (i * j)) (tOp (rI CMulW fun i j => .int (i * j)) (tOp (rI CPow fun i j => .int (i ^ j.toNat)) (tC (.int 10)) (tC (.int 60))) (tOp (rI CPow fun i j => .int (i ^ j.toNat)) (tC (.int 10)) (tC (.int 60)))) (tOp (rI CPow fun i j => .int (i ^ j.toNat)) (tC (.int 10)) (tC (.int 60)))) (tOp (rI CPow fun i j => .int (i ^ j.toNat)) (tC (.int 10)) (tC (.int 60)))))
    (tCB (fun xs H Q => (∃ i, xs = [.int i] ∧ Q (.int i) H) ∨ ∃ k, xs = [.bl k] ∧ Q (.int (if k then 1 else 0)) H) (tCons (tOp (rI0 fun i j => .bl (decide (j ≤ i))) (tCB (fun xs H Q => ∃ i, xs = [.int i] ∧ Q (.int (if i < 0 then -i else i)) H) (tCons (tVar 2) tNil)) (tOp (rI CPow fun i j => .int (i ^ j.toNat)) (tC (.int 10)) (tC (.int 18)))) tNil))) (gName 3))
  (tRet (tLst (tCons (tVar 3) (tCons (tOp (rI (fun _ j => 0 < j) fun i j => .int (i % j)) (tOp (rI CMul fun i j => .int (i * j)) (tOp (rI0 fun i j => .int (i + j)) (tOp (rI0 fun i j => .int (i + j)) (tOp (rI (fun _ j => 0 < j) fun i j => .int (i % j)) (tVar 2) (tC (.int 2305843009213693951))) (tOp (rI CMul fun i j => .int (i * j)) (tOp (rI CMul fun i j => .int (i * j)) (tC (.int 7919)) (tVar 1)) (tVar 1))) (tC (.int 43))) (tC (.int 48271))) (tC (.int 2305843009213693921))) (tCons (tC (.int 0)) tNil)))))
theorem own_ok {x : Int} (h0 : 0 ≤ x) (h1 : x < 2 ^ 800) (c : Bool) : 0 ≤ x * (if c = true then 1 else 0) ∧ x * (if c = true then 1 else 0) < 2 ^ 800 := by
  cases c
  · rw [if_neg (by decide), Int.mul_zero]
    exact ⟨by decide, by decide +kernel⟩
  · rw [if_pos rfl, Int.mul_one]
    exact ⟨h0, h1⟩
theorem bit_ok (c : Bool) : -(2 ^ 64) < (if c = true then (1 : Int) else 0) ∧ (if c = true then (1 : Int) else 0) < 2 ^ 64 := by
  cases c <;> exact ⟨by decide, by decide⟩
theorem box_rest {H : Hp} {D : Ends} {a : Addr} {j : Nat} {cell : Int} {y : Option V} (hj : j ≤ 63) (q : ∀ (H' : Hp) (p : Addr), Same H H' → H p = none → BoxAt H' p 0 → D.rt (V.ref p) H') : tBoxRest D [some (.ref a), some (.int j), some (.int cell), y] H := by
  have h60 : ((10 : Int) ^ (60 : Int).toNat).natAbs < 2 ^ 200 := by decide +kernel
  have h120 : ((10 : Int) ^ (60 : Int).toNat * 10 ^ (60 : Int).toNat).natAbs < 2 ^ 400 := by decide +kernel
  have h180 : ((10 : Int) ^ (60 : Int).toNat * 10 ^ (60 : Int).toNat * 10 ^ (60 : Int).toNat).natAbs < 2 ^ 600 := by decide +kernel
  have hp : CPow 10 60 := ⟨by decide, by decide, by decide⟩
  have hp2 : CPow 10 18 := ⟨by decide, by decide, by decide⟩
  refine ⟨_, rfl, _, rfl, _, _, rfl, rfl, hp, _, _, rfl, rfl, hp, _, _, rfl, rfl, wide_mul h60 h60 (by decide) (by decide) (by decide), _, _, rfl, rfl, hp, _, _, rfl, rfl, wide_mul h120 h60 (by decide) (by decide) (by decide), _, _, rfl, rfl, hp, _, _, rfl, rfl, wide_mul h180 h60 (by decide) (by decide) (by decide), _, _, rfl, rfl, big_pos, ?_⟩
  have hm0 : 0 ≤ (if cell < 0 then -cell else cell) % (10 ^ (60 : Int).toNat * 10 ^ (60 : Int).toNat * 10 ^ (60 : Int).toNat * 10 ^ (60 : Int).toNat) := Int.emod_nonneg _ (Int.ne_of_gt big_pos)
  have hm1 : (if cell < 0 then -cell else cell) % (10 ^ (60 : Int).toNat * 10 ^ (60 : Int).toNat * 10 ^ (60 : Int).toNat * 10 ^ (60 : Int).toNat) < 2 ^ 800 := Int.lt_of_lt_of_le (Int.emod_lt_of_pos _ big_pos) big_lt
  dsimp only
  generalize (if cell < 0 then -cell else cell) % (10 ^ (60 : Int).toNat * 10 ^ (60 : Int).toNat * 10 ^ (60 : Int).toNat * 10 ^ (60 : Int).toNat) = own at *
  refine ⟨_, rfl, _, rfl, _, _, rfl, rfl, hp2, _, _, rfl, rfl, .inr ⟨_, rfl, _, _, rfl, rfl, ?_, ?_⟩⟩
  · exact .inr (bit_ok _)
  dsimp only
  generalize decide ((10 : Int) ^ (18 : Int).toNat ≤ if cell < 0 then -cell else cell) = bb
  obtain ⟨ho0, ho1⟩ := own_ok hm0 hm1 bb
  generalize own * (if bb = true then 1 else 0) = o2 at *
  have hc0 : 0 ≤ cell % 2305843009213693951 := Int.emod_nonneg _ (by decide)
  have hc1 : cell % 2305843009213693951 < 2305843009213693951 := Int.emod_lt_of_pos _ (by decide)
  have hkk : (0 : Int) ≤ 7919 * (j : Int) * (j : Int) := Int.mul_nonneg (Int.mul_nonneg (by decide) (by omega)) (by omega)
  refine ⟨_, rfl, _, rfl, _, _, rfl, rfl, (show (0 : Int) < 2305843009213693951 by decide), _, rfl, _, _, rfl, rfl, .inl ⟨by decide, by decide⟩, _, rfl, _, _, rfl, rfl, .inr ⟨by omega, by omega⟩, _, _, rfl, rfl, _, _, rfl, rfl, _, _, rfl, rfl, .inr ⟨by decide, by decide⟩, _, _, rfl, rfl, (show (0 : Int) < 2305843009213693921 by decide), by show 3 ≤ sizeLine; decide, fun p np => ?_⟩
  exact q _ p (same_upd np) np ⟨_, _, _, upd_same, ho0, ho1, Int.emod_nonneg _ (by decide), Int.lt_of_lt_of_le (Int.emod_lt_of_pos _ (by decide)) (by decide), by decide, by decide⟩
theorem ok_box {f : Addr} {fd : FuncData} {k : Nat} (F : Fun K "_law_box" "_law_box" sBox f fd) (T : Bi mg) : FnOk P w K mg base CX0 (k + 1) f fd ["_law_script", "_law_k"] (spBox K) := by
  refine F.ok scBox (fun vs H Q E h => ?_) (fun cdv A' outer s H vs Q E hr h => ?_)
  · obtain ⟨a, ns, j, rfl, _⟩ := h
    rfl
  · obtain ⟨a, ns, j, rfl, hS, hj, q⟩ := h
    refine ⟨_, pss_cons (ps_set (i := 2) scBox.nd rfl (.inl rfl) (pe_ifExp (pt_cmpR op_lt (pv 1) (pe_callB call_len_seq (by rfl) T.len PySem.boot_len (pa_cons (pv 0) pa_nil)) (nomark _)) (pe_ix ix_list (pv 0) (pv 1) (fun _ _ => rfl)) pe_int))
      (pss_cons (ps_set (i := 3) scBox.nd rfl (.inl rfl) (pe_op op_mul (pe_op op_mod (pe_callB call_abs (by rfl) T.abs (by decide +kernel) (pa_cons (pv 2) pa_nil))
          (pe_op op_mulW (pe_op op_mulW (pe_op op_mulW (pe_op op_pow pe_int pe_int) (pe_op op_pow pe_int pe_int)) (pe_op op_pow pe_int pe_int)) (pe_op op_pow pe_int pe_int)))
        (pe_callTy call_int1 (by rfl) T.int (by decide +kernel) (pa_cons (pe_cmpR op_ge (pe_callB call_abs (by rfl) T.abs (by decide +kernel) (pa_cons (pv 2) pa_nil)) (pe_op op_pow pe_int pe_int) (nomark _)) pa_nil))))
      (pss_one (ps_ret (pe_lst (pa_cons (pv 3) (pa_cons (pe_op op_mod (pe_op op_mul (pe_op op_add (pe_op op_add (pe_op op_mod (pv 2) pe_int) (pe_op op_mul (pe_op op_mul pe_int (pv 1)) (pv 1))) pe_int) pe_int) pe_int) (pa_cons pe_int pa_nil))))))), ?_⟩
    refine ⟨_, rfl, _, rfl, a, _, rfl, .inl hS, _, _, rfl, rfl, _, rfl, ite2 (fun c => ?_) (fun c => ?_)⟩
    · have hj' : j < ns.length := by
        have := of_decide_eq_true c
        rw [List.length_map] at this
        omega
      refine ⟨_, rfl, _, rfl, a, _, _, _, rfl, rfl, hS, atI_nat (v := .int ns[j]) (by rw [List.getElem?_map, List.getElem?_eq_getElem hj']; rfl), ?_⟩
      exact box_rest (D := { nx := fun _ H' => Q .non H', rt := Q }) (y := none) hj q
    · exact box_rest (D := { nx := fun _ H' => Q .non H', rt := Q }) (y := none) hj q
end
end Ov
namespace Ov
open PySem PySem.Spec PyProof.Rows L2
section
variable {P : Program} {w : World} {K : PySem.W.Frag} {mg : Str → Option Value} {base : Heap}
def spTake : Sp := fun vs H Q _ => ∃ (p : Addr) (m : Int) (n : Nat), vs = [.ref p, .int m] ∧ BoxAt H p n ∧ n ≤ 2 ^ 40 ∧ 0 < m ∧ m < 2 ^ 200 ∧ ∀ H' (d : Int), But p H H' → BoxAt H' p (n + 1) → 0 ≤ d → d < m → (∀ b, H b = none → H' b = none) → Q (.int d) H'
theorem scTake : FnScope ["_law_box_here", "_law_many", "_law_digit", "_law_mixed"] ["_law_box_here", "_law_many"] (defScope sTake) := ⟨rfl, rfl, rfl, by decide +kernel, rfl, by decide +kernel, by decide +kernel⟩
theorem ok_take {f : Addr} {fd : FuncData} {k : Nat} (F : Fun K "_law_take" "_law_take" sTake f fd) : FnOk P w K mg base CX0 (k + 1) f fd ["_law_box_here", "_law_many"] spTake := by
  refine F.ok scTake (fun vs H Q E h => ?_) (fun cdv A' outer s H vs Q E hr h => ?_)
  · obtain ⟨p, m, n, rfl, _⟩ := h
    rfl
  · obtain ⟨p, m, n, rfl, ⟨a, b, c, hp, a0, a1, b0, b1, c0, c1⟩, hn, m0, m1, q⟩ := h
    refine ⟨_, pss_cons (ps_if (pt_cmpR op_gt (pe_ix ix_list (pv 0) pe_int (fun _ _ => rfl)) pe_int (nomark _))
        (pss_cons (ps_set (i := 2) scTake.nd rfl (.inl rfl) (pe_op op_mod (pe_ix ix_list (pv 0) pe_int (fun _ _ => rfl)) (pv 1)))
        (pss_cons (ps_asg (pe_op op_fdivW (pe_ix ix_list (pv 0) pe_int (fun _ _ => rfl)) (pv 1)) (pg_sub (pv 0) pe_int set_list))
        (pss_one (ps_ret (pv 2))))) pss_nil)
      (pss_cons (ps_asg (pe_op op_add (pe_ix ix_list (pv 0) pe_int (fun _ _ => rfl)) pe_int) (pg_sub (pv 0) pe_int set_list))
      (pss_cons (ps_set (i := 3) scTake.nd rfl (.inl rfl) (pe_op op_mod (pe_op op_mul (pe_op op_add (pe_op op_add (pe_ix ix_list (pv 0) pe_int (fun _ _ => rfl)) (pe_op op_mul (pe_op op_mul pe_int (pe_ix ix_list (pv 0) pe_int (fun _ _ => rfl))) (pe_ix ix_list (pv 0) pe_int (fun _ _ => rfl)))) pe_int) pe_int) pe_int))
      (pss_cons (ps_set (i := 3) scTake.nd rfl (.inl rfl) (pe_op op_mod (pe_op op_mul (pv 3) (pe_op op_add (pe_op op_mod (pv 3) pe_int) (pe_op op_mul pe_int (pe_ix ix_list (pv 0) pe_int (fun _ _ => rfl))))) pe_int))
      (pss_one (ps_ret (pe_op op_mod (pe_op op_add (pe_op op_fdiv (pv 3) pe_int) (pe_op op_fdiv (pv 3) pe_int)) (pv 1))))))), ?_⟩
    have i0 : ∀ x y z : V, atI [x, y, z] 0 = some x := fun x y z => atI_nat (j := 0) rfl
    have i1 : ∀ x y z : V, atI [x, y, z] 1 = some y := fun x y z => atI_nat (j := 1) rfl
    have i2 : ∀ x y z : V, atI [x, y, z] 2 = some z := fun x y z => atI_nat (j := 2) rfl
    refine ⟨_, rfl, p, _, _, _, rfl, rfl, SqL.of hp, i0 _ _ _, _, _, rfl, rfl, _, rfl, ?_⟩
    by_cases ha : 0 < a
    · rw [decide_eq_true ha]
      refine iteT ?_
      refine ⟨_, rfl, p, _, _, _, rfl, rfl, SqL.of hp, i0 _ _ _, _, rfl, _, _, rfl, rfl, m0, ?_⟩
      refine ⟨_, rfl, p, _, _, _, rfl, rfl, SqL.of hp, i0 _ _ _, _, rfl, _, _, rfl, rfl, wide_div (b := 200) m0 (by omega) (by decide) (by decide), _, rfl, p, _, _, 0, rfl, rfl, hp, rfl, _, rfl, ?_⟩
      refine q _ _ (fun x o e hx => by rw [upd_ne hx]; exact e) ⟨a / m, b, c, upd_same, ?_, ?_, b0, b1, c0, by omega⟩ (Int.emod_nonneg _ (by omega)) (Int.emod_lt_of_pos _ m0) (fun x e => by rw [upd_ne (fun z => by rw [z, hp] at e; cases e)]; exact e)
      · exact Int.ediv_nonneg a0 (by omega)
      · exact Int.lt_of_le_of_lt (Int.ediv_le_self _ a0) a1
    · rw [decide_eq_false ha]
      refine iteF ?_
      refine ⟨_, rfl, p, _, _, _, rfl, rfl, SqL.of hp, i2 _ _ _, _, _, rfl, rfl, _, rfl, p, _, _, 2, rfl, rfl, hp, rfl, ?_⟩
      have hp2 : (upd H p (.lst (([V.int a, V.int b, V.int c] : List V).set 2 (V.int (c + 1))))) p = some (.lst [V.int a, V.int b, V.int (c + 1)]) := upd_same
      have s2 : But p H (upd H p (.lst (([V.int a, V.int b, V.int c] : List V).set 2 (V.int (c + 1))))) := fun x o e hx => by rw [upd_ne hx]; exact e
      have f2 : ∀ x, H x = none → (upd H p (.lst (([V.int a, V.int b, V.int c] : List V).set 2 (V.int (c + 1))))) x = none := fun x e => by rw [upd_ne (fun z => by rw [z, hp] at e; cases e)]; exact e
      generalize upd H p (.lst (([V.int a, V.int b, V.int c] : List V).set 2 (V.int (c + 1)))) = H2 at *
      have hc2 : c + 1 ≤ 2 ^ 40 + 1 := by omega
      refine ⟨_, rfl, p, _, _, _, rfl, rfl, SqL.of hp2, i1 _ _ _, _, rfl, p, _, _, _, rfl, rfl, SqL.of hp2, i2 _ _ _, _, _, rfl, rfl, .inl ⟨by decide, by decide⟩, _, rfl, p, _, _, _, rfl, rfl, SqL.of hp2, i2 _ _ _, _, _, rfl, rfl, .inr ⟨by omega, by omega⟩, _, _, rfl, rfl, _, _, rfl, rfl, _, _, rfl, rfl, .inr ⟨by decide, by decide⟩, _, _, rfl, rfl, (show (0 : Int) < 2305843009213693921 by decide), ?_⟩
      dsimp only
      have x0 : 0 ≤ (b + 65537 * (c + 1) * (c + 1) + 11) * 48271 % 2305843009213693921 := Int.emod_nonneg _ (by decide)
      have x1 : (b + 65537 * (c + 1) * (c + 1) + 11) * 48271 % 2305843009213693921 < 2305843009213693921 := Int.emod_lt_of_pos _ (by decide)
      generalize (b + 65537 * (c + 1) * (c + 1) + 11) * 48271 % 2305843009213693921 = x at *
      refine ⟨_, rfl, _, rfl, _, _, rfl, rfl, (show (0 : Int) < 1000003 by decide), _, rfl, p, _, _, _, rfl, rfl, SqL.of hp2, i2 _ _ _, _, _, rfl, rfl, .inl ⟨by decide, by decide⟩, _, _, rfl, rfl, _, _, rfl, rfl, .inl ⟨by omega, by omega⟩, _, _, rfl, rfl, (show (0 : Int) < 2305843009213693907 by decide), ?_⟩
      dsimp only
      generalize x * (x % 1000003 + 99991 * (c + 1)) % 2305843009213693907 = y at *
      refine ⟨_, rfl, _, _, rfl, rfl, ⟨by decide, by decide⟩, _, rfl, _, _, rfl, rfl, ⟨by decide, by decide⟩, _, _, rfl, rfl, _, rfl, _, _, rfl, rfl, m0, ?_⟩
      exact q _ _ s2 ⟨a, b, c + 1, hp2, a0, a1, b0, b1, by omega, by omega⟩ (Int.emod_nonneg _ (by omega)) (Int.emod_lt_of_pos _ m0) f2
def spOf : Sp := fun vs H Q _ => ∃ (p l : Addr) (n : Nat) (xs : List V), vs = [.ref p, .ref l] ∧ BoxAt H p n ∧ n ≤ 2 ^ 40 ∧ H l = some (.lst xs) ∧ l ≠ p ∧ 0 < xs.length ∧ xs.length ≤ 1000 ∧ ∀ H' (v : V), v ∈ xs → But p H H' → BoxAt H' p (n + 1) → (∀ b, H b = none → H' b = none) → Q v H'
theorem scOf : FnScope ["_law_box_here", "_law_some_here"] ["_law_box_here", "_law_some_here"] (defScope sOf) := ⟨rfl, rfl, rfl, by decide +kernel, rfl, by decide +kernel, by decide +kernel⟩
theorem ok_of {f fT : Addr} {fd fdT : FuncData} {k : Nat} (F : Fun K "_law_of" "_law_of" sOf f fd) (T : Bi mg) (Tk : Def K mg "_law_take" sTake fT fdT ["_law_box_here", "_law_many"]) : FnOk P w K mg base CX0 (k + 2) f fd ["_law_box_here", "_law_some_here"] spOf := by
  have GT : FnOk P w K mg base CX0 (k + 1) fT fdT ["_law_box_here", "_law_many"] spTake := ok_take Tk.fn
  refine F.ok scOf (fun vs H Q E h => ?_) (fun cdv A' outer s H vs Q E hr h => ?_)
  · obtain ⟨p, l, n, xs, rfl, _⟩ := h
    rfl
  · obtain ⟨p, l, n, xs, rfl, B, hn, hl, hlp, h0, h1, q⟩ := h
    refine ⟨_, pss_one (ps_ret (pe_ix ix_list (pv 1) (pe_call GT hr (by rfl) Tk.gl Tk.fn.kp Tk.bi .nil pass0 (pa_cons (pv 0) (pa_cons (pe_callB call_len_seq (by rfl) T.len PySem.boot_len (pa_cons (pv 1) pa_nil)) pa_nil))) (fun _ _ => rfl))), ?_⟩
    refine ⟨_, rfl, _, rfl, _, rfl, l, _, rfl, .inl (SqL.of hl), p, _, n, rfl, B, hn, by omega, by omega, fun H' d bt B' d0 d1 fr => ?_⟩
    obtain ⟨i, rfl⟩ : ∃ i : Nat, d = i := ⟨d.toNat, by omega⟩
    have hi : i < xs.length := by omega
    exact ⟨l, xs, _, xs[i], rfl, rfl, SqL.of (bt _ _ hl hlp), atI_nat (List.getElem?_eq_getElem hi), q H' _ (List.getElem_mem hi) bt B' fr⟩
end
end Ov
namespace Ov
open PySem PySem.Spec PyProof.Rows L2
def tail (c : Nat) : Nat := if c = 122 then 121 else 122
def nameOf (c t k : Nat) : List Nat := List.replicate (1 + t) c ++ List.replicate k (tail c)
theorem tail_ne (c : Nat) : tail c ≠ c := by
  unfold tail
  split <;> omega
theorem nameOf_inj {c t k c' t' k' : Nat} (h : nameOf c t k = nameOf c' t' k') : c = c' ∧ k = k' := by
  have hc : c = c' := by
    unfold nameOf at h
    rw [Nat.add_comm 1 t, Nat.add_comm 1 t', List.replicate_succ, List.replicate_succ] at h
    exact (List.cons.inj h).1
  subst hc
  refine ⟨rfl, ?_⟩
  have cnt : ∀ t k, (nameOf c t k).count (tail c) = k := fun t k => by
    unfold nameOf
    rw [List.count_append, List.count_replicate, List.count_replicate_self, if_neg]
    · omega
    · intro z
      exact tail_ne c (Eq.symm (by simpa using z))
  rw [← cnt t k, h, cnt]
theorem nameOf_len (c t k : Nat) : (nameOf c t k).length = 1 + t + k := by
  unfold nameOf
  rw [List.length_append, List.length_replicate, List.length_replicate]
theorem nameOf_low {c t k : Nat} (h1 : 97 ≤ c) (h2 : c ≤ 122) : ∀ x ∈ nameOf c t k, 97 ≤ x ∧ x ≤ 122 := by
  intro x hx
  unfold nameOf at hx
  rcases List.mem_append.mp hx with hx | hx
  · rw [(List.mem_replicate.mp hx).2]; exact ⟨h1, h2⟩
  · rw [(List.mem_replicate.mp hx).2]
    unfold tail
    split <;> omega
/-- an instruction -/
structure I4 where
  op : Nat
  nm : List Nat
  ln : Nat
  pad : Bool
/-- what is drawn for the place at -/
structure Drawn (lg first at_ : Nat) (x : I4) : Prop where
  nm : ∃ t, t < 3 ∧ x.nm = nameOf (97 + (first + 5 * at_) % 26) t (at_ / 26)
  ln : 1 ≤ x.ln ∧ x.ln ≤ lg
  pad : at_ = 0 → x.pad = true
/-- a valid table of instructions -/
structure TabOk (cnt lg : Nat) (is : List I4) : Prop where
  cb : 2 ≤ cnt ∧ cnt ≤ 256
  lb : lg ≤ 12
  ne : is ≠ []
  few : is.length ≤ 72
  asc : (is.map I4.op).Pairwise (· < ·)
  ops : ∀ x ∈ is, x.op < cnt
  len : ∀ x ∈ is, 1 ≤ x.ln ∧ x.ln ≤ lg
  nms : ∀ x ∈ is, 1 ≤ x.nm.length ∧ x.nm.length ≤ 8 ∧ ∀ c ∈ x.nm, 97 ≤ c ∧ c ≤ 122
  nd : (is.map I4.nm).Nodup
theorem names_nodup {lg first : Nat} {is : List I4} (hd : ∀ i x, is[i]? = some x → Drawn lg first i x) : (is.map I4.nm).Nodup := by
  rw [List.nodup_iff_pairwise_ne, List.pairwise_map, List.pairwise_iff_getElem]
  intro i j hi hj hij e
  obtain ⟨t, _, e1⟩ := (hd i _ (List.getElem?_eq_getElem hi)).nm
  obtain ⟨t', _, e2⟩ := (hd j _ (List.getElem?_eq_getElem hj)).nm
  rw [e1, e2] at e
  obtain ⟨h1, h2⟩ := nameOf_inj e
  omega
/-- an instruction as it stands -/
def I4.vs (x : I4) : List V := [.int (x.op : Int), .str (txt x.nm), .int (x.ln : Int), .bl x.pad]
/-- instructions, each a tuple of its own, in a tuple (or list) -/
def Rows (H : Hp) (rs : List Addr) (is : List I4) : Prop := rs.length = is.length ∧ ∀ (i : Nat) (r : Addr) (x : I4), rs[i]? = some r → is[i]? = some x → H r = some (.tup x.vs)
theorem Rows.same {H H' : Hp} {rs : List Addr} {is : List I4} (h : Rows H rs is) (s : Same H H') : Rows H' rs is := ⟨h.1, fun i r x h1 h2 => s _ _ (h.2 i r x h1 h2)⟩
theorem Rows.but {H H' : Hp} {p : Addr} {n : Nat} {rs : List Addr} {is : List I4} (h : Rows H rs is) (b : But p H H') (B : BoxAt H p n) : Rows H' rs is := by
  refine ⟨h.1, fun i r x h1 h2 => ?_⟩
  have hr := h.2 i r x h1 h2
  refine b _ _ hr fun z => ?_
  obtain ⟨a, b, c, e, _⟩ := B
  rw [z, e] at hr
  cases hr
theorem Rows.more {H : Hp} {rs : List Addr} {is : List I4} {r : Addr} {x : I4} (h : Rows H rs is) (hr : H r = some (.tup x.vs)) : Rows H (rs ++ [r]) (is ++ [x]) := by
  refine ⟨by rw [List.length_append, List.length_append, h.1]; rfl, fun i r' x' h1 h2 => ?_⟩
  by_cases c : i < rs.length
  · rw [List.getElem?_append_left c] at h1
    rw [List.getElem?_append_left (by rw [← h.1]; exact c)] at h2
    exact h.2 i r' x' h1 h2
  · have hl := (List.getElem?_eq_some_iff.mp h1).1
    rw [List.length_append] at hl
    have e : i = rs.length := by
      have : ([r] : List Addr).length = 1 := rfl
      omega
    subst e
    rw [List.getElem?_append_right (Nat.le_refl _), Nat.sub_self] at h1
    rw [h.1, List.getElem?_append_right (Nat.le_refl _), Nat.sub_self] at h2
    have e1 : r = r' := Option.some.inj h1
    have e2 : x = x' := Option.some.inj h2
    subst e1 e2
    exact hr
/-- a table: (byte count, instructions) -/
structure Tab (H : Hp) (t : Addr) (cnt lg : Nat) (is : List I4) (it : Addr) (rs : List Addr) : Prop where
  at_ : H t = some (.tup [.int (cnt : Int), .ref it])
  its : H it = some (.tup (rs.map V.ref))
  rows : Rows H rs is
  ok : TabOk cnt lg is
theorem Tab.same {H H' : Hp} {t : Addr} {cnt lg : Nat} {is : List I4} {it : Addr} {rs : List Addr} (h : Tab H t cnt lg is it rs) (s : Same H H') : Tab H' t cnt lg is it rs := ⟨s _ _ h.at_, s _ _ h.its, h.rows.same s, h.ok⟩
theorem ne_box {H : Hp} {p a : Addr} {n : Nat} {xs : List V} (B : BoxAt H p n) (h : H a = some (.tup xs)) : a ≠ p := fun z => by
  obtain ⟨_, _, _, e, _⟩ := B
  rw [z, e] at h
  cases h
theorem Tab.but {H H' : Hp} {p : Addr} {n : Nat} {t : Addr} {cnt lg : Nat} {is : List I4} {it : Addr} {rs : List Addr} (h : Tab H t cnt lg is it rs) (b : But p H H') (B : BoxAt H p n) : Tab H' t cnt lg is it rs :=
  ⟨b _ _ h.at_ (ne_box B h.at_), b _ _ h.its (ne_box B h.its), h.rows.but b B, h.ok⟩
theorem abc_at : ∀ i : Nat, i < 26 → atI (Str.ofString "abcdefghijklmnopqrstuvwxyz").cps.toList (i : Int) = some (97 + i) := by
  intro i hi
  refine atI_nat ?_
  rcases i with _ | _ | _ | _ | _ | _ | _ | _ | _ | _ | _ | _ | _ | _ | _ | _ | _ | _ | _ | _ | _ | _ | _ | _ | _ | _ | i <;> first | (exfalso; omega) | decide +kernel
theorem txt_add (a b : List Nat) : txt a ++ txt b = txt (a ++ b) := by
  show (⟨a.toArray ++ b.toArray⟩ : Str) = ⟨(a ++ b).toArray⟩
  simp
/-- how long the list at l is -/
def lenAt (H : Hp) (l : Addr) : Nat := match H l with
  | some (.lst xs) => xs.length
  | _ => 0
theorem lenAt_of {H : Hp} {l : Addr} {xs : List V} (h : H l = some (.lst xs)) : lenAt H l = xs.length := by
  unfold lenAt
  rw [h]
end Ov
namespace Ov
open PySem PySem.Spec PyProof.Rows L2
theorem erase_map {α β : Type} (f : α → β) : ∀ (l : List α) (j : Nat), (l.map f).eraseIdx j = (l.eraseIdx j).map f
  | [], j => rfl
  | a :: l, 0 => rfl
  | a :: l, j + 1 => by
    rw [List.map_cons, List.eraseIdx_cons_succ, List.eraseIdx_cons_succ, List.map_cons, erase_map f l j]
section
variable {P : Program} {w : World} {K : PySem.W.Frag} {mg : Str → Option Value} {base : Heap}
def spTable : Sp := fun vs H Q _ => ∃ (p : Addr) (n mb lg : Nat), vs = [.ref p, .int (mb : Int), .int (lg : Int)] ∧ BoxAt H p n ∧ n ≤ 2 ^ 39 ∧ 2 ≤ mb ∧ mb ≤ 256 ∧ 1 ≤ lg ∧ lg ≤ 12 ∧
  ∀ H' t cnt is it rs, But p H H' → BoxAt H' p (n + 1000) → H t = none → Tab H' t cnt lg is it rs → cnt ≤ mb → Q (.ref t) H'
theorem scTable : FnScope ["_law_box_here", "_law_most_bytes", "_law_longest_here", "_law_count", "_law_many", "_law_opcodes", "_law_found", "_law_first", "_law_at", "_law_opcode", "_law_letter", "_law_name", "_law_length"] ["_law_box_here", "_law_most_bytes", "_law_longest_here"] (defScope sTable) := ⟨rfl, rfl, rfl, by decide +kernel, rfl, by decide +kernel, by decide +kernel⟩
theorem ok_table {f fO fT : Addr} {fd fdO fdT : FuncData} {k : Nat} (F : Fun K "_law_table" "_law_table" sTable f fd) (T : Bi mg) (O : Def K mg "_law_of" sOf fO fdO ["_law_box_here", "_law_some_here"]) (Tk : Def K mg "_law_take" sTake fT fdT ["_law_box_here", "_law_many"]) :
    FnOk P w K mg base CX0 (k + 3) f fd ["_law_box_here", "_law_most_bytes", "_law_longest_here"] spTable := by
  have GO : FnOk P w K mg base CX0 (k + 2) fO fdO ["_law_box_here", "_law_some_here"] spOf := ok_of O.fn T Tk
  have GT : FnOk P w K mg base CX0 (k + 2) fT fdT ["_law_box_here", "_law_many"] spTake := ok_take Tk.fn
  refine F.ok scTable (fun vs H Q E h => ?_) (fun cdv A' outer s H vs Q E hr h => ?_)
  · obtain ⟨p, n, mb, lg, rfl, _⟩ := h
    rfl
  · obtain ⟨p, n, mb, lg, rfl, B, hn, mb1, mb2, lg1, lg2, q⟩ := h
    refine ⟨_, pss_cons (ps_set (i := 3) scTable.nd rfl (.inl rfl) (pe_op op_add pe_int (pe_call GT hr (by rfl) Tk.gl Tk.fn.kp Tk.bi .nil pass0 (pa_cons (pv 0) (pa_cons (pe_op op_sub (pv 1) pe_int) pa_nil)))))
      (pss_cons (ps_par (i := 4) (j := 5) (by rfl) scTable.nd rfl rfl (by decide) rfl rfl (pa_cons (pe_op op_add pe_int (pe_call GT hr (by rfl) Tk.gl Tk.fn.kp Tk.bi .nil pass0 (pa_cons (pv 0) (pa_cons (pe_callB (call_min2 rfl) (by rfl) T.min (by decide +kernel) (pa_cons pe_int (pa_cons (pv 3) pa_nil))) pa_nil))))
          (pa_cons (pe_listRange (by rfl) T.list (by rfl) T.range (pv 3)) pa_nil)) (by rfl))
      (C8.pss_cut (ps_if (PW.pt (pw_and (pt_cmpR op_gt (pv 3) pe_int (nomark _)) (pw_and1 (pt_cmpR op_eq (pe_op op_mod (pv 3) pe_int) pe_int (nomark _))))) (pss_one (ps_set (i := 4) scTable.nd rfl (.inl rfl) (pe_op op_add pe_int (pe_op op_fdiv (pv 3) pe_int)))) pss_nil)
      (pss_cons (ps_while PassesOwn.never (pt_cmpR op_gt (pe_callB call_len_seq (by rfl) T.len PySem.boot_len (pa_cons (pv 5) pa_nil)) (pv 4) (nomark _))
        (pss_one (ps_expr (pe_bm PySem.F.plainAttrs_list PySem.F.slot_list_pop PySem.F.type_list_pop mt_popAt (pv 5) (pa_cons (pe_call GT hr (by rfl) Tk.gl Tk.fn.kp Tk.bi .nil pass0 (pa_cons (pv 0) (pa_cons (pe_callB call_len_seq (by rfl) T.len PySem.boot_len (pa_cons (pv 5) pa_nil)) pa_nil))) pa_nil)))))
      (pss_cons (ps_par (i := 6) (j := 7) (by rfl) scTable.nd rfl rfl (by decide) rfl rfl (pa_cons (pe_lst pa_nil) (pa_cons (pe_call GT hr (by rfl) Tk.gl Tk.fn.kp Tk.bi .nil pass0 (pa_cons (pv 0) (pa_cons pe_int pa_nil))) pa_nil)) (by rfl))
      (pss_cons (ps_for PassesOwn.never rfl (pi_enum (by rfl) T.enumerate (pa_cons (pv 5) pa_nil)) (pg_tup rfl (pgs_cons (pg_name (i := 8) scTable.nd rfl (.inl rfl)) (pgs_cons (pg_name (i := 9) scTable.nd rfl (.inl rfl)) pgs_nil)))
        (pss_cons (ps_set (i := 10) scTable.nd rfl (.inl rfl) (pe_ix ix_str pe_str (pe_op op_mod (pe_op op_add (pv 7) (pe_op op_mul pe_int (pv 8))) pe_int) (fun _ _ => rfl)))
        (pss_cons (ps_set (i := 11) scTable.nd rfl (.inl rfl) (pe_op op_add_str (pe_op op_mulS (pv 10) (pe_op op_add pe_int (pe_call GT hr (by rfl) Tk.gl Tk.fn.kp Tk.bi .nil pass0 (pa_cons (pv 0) (pa_cons pe_int pa_nil)))))
          (pe_op op_mulS (pe_ifExp (pt_cmpR op_eq (pv 10) pe_str (nomark _)) pe_str pe_str) (pe_op op_fdiv (pv 8) pe_int))))
        (pss_cons (ps_set (i := 12) scTable.nd rfl (.inl rfl) (pe_call GO hr (by rfl) O.gl O.fn.kp O.bi .nil pass0 (pa_cons (pv 0) (pa_cons (pe_lst (pa_cons pe_int (pa_cons pe_int (pa_cons pe_int (pa_cons (pe_op op_add pe_int (pe_call GT hr (by rfl) Tk.gl Tk.fn.kp Tk.bi .nil pass0 (pa_cons (pv 0) (pa_cons (pv 2) pa_nil)))) pa_nil))))) pa_nil))))
        (pss_one (ps_expr (pe_bm PySem.F.plainAttrs_list PySem.F.slot_list_append PySem.F.type_list_append mt_append (pv 6) (pa_cons (pe_tup (pa_cons (pv 9) (pa_cons (pv 11) (pa_cons (pe_callB (call_min2 rfl) (by rfl) T.min (by decide +kernel) (pa_cons (pv 12) (pa_cons (pv 2) pa_nil)))
          (pa_cons (pe_or (pe_cmpR op_eq (pv 8) pe_int (nomark _)) (pe_one (pe_cmpR op_eq (pe_call GT hr (by rfl) Tk.gl Tk.fn.kp Tk.bi .nil pass0 (pa_cons (pv 0) (pa_cons pe_int pa_nil))) pe_int (nomark _)))) pa_nil))))) pa_nil))))))))
      (pss_one (ps_ret (pe_tup (pa_cons (pv 3) (pa_cons (pe_callTy call_tuple_of (by rfl) T.tuple (by decide +kernel) (pa_cons (pv 6) pa_nil)) pa_nil)))))))))), ?_⟩
    -- the byte count
    refine ⟨_, rfl, _, rfl, _, _, rfl, rfl, p, _, n, rfl, B, by omega, by omega, by omega, fun H1 c b1 B1 c0 c1 f1 => ⟨_, _, rfl, rfl, ?_⟩⟩
    obtain ⟨cnt, ec⟩ : ∃ cnt : Nat, 2 + c = (cnt : Int) := ⟨(2 + c).toNat, by omega⟩
    have hc2 : 2 ≤ cnt ∧ cnt ≤ mb := by omega
    dsimp only
    rw [ec]
    -- how many, and all opcodes
    refine ⟨_, rfl, _, rfl, _, _, rfl, p, _, n + 1, rfl, B1, by omega, by split <;> omega, by split <;> omega, fun H2 e b2 B2 e0 e1 f2 => ?_⟩
    refine ⟨_, _, rfl, rfl, _, rfl, cnt, rfl, by omega, fun l nl => ⟨_, _, rfl, ?_⟩⟩
    obtain ⟨mn0, em⟩ : ∃ m : Nat, 1 + e = (m : Int) := ⟨(1 + e).toNat, by omega⟩
    have hm0 : 1 ≤ mn0 ∧ mn0 ≤ 71 := by
      have : e < 6 := by
        revert e1
        split <;> omega
      omega
    dsimp only
    rw [em]
    have b02 : But p H H2 := b1.trans b2
    have hlp : l ≠ p := fun z => B2.ne (z ▸ nl)
    have hHl : H l = none := b02.free B.ne nl B2.ne
    have s3 := same_upd (o := HO.lst ((List.range cnt).map fun i : Nat => V.int (i : Int))) nl
    have b03 : But p H _ := b02.trans (But.of s3)
    have B3 := B2.same s3
    have h3 := @upd_same H2 l (HO.lst ((List.range cnt).map fun i : Nat => V.int (i : Int)))
    generalize upd H2 l (HO.lst ((List.range cnt).map fun i : Nat => V.int (i : Int))) = H3 at *
    -- at times more of them
    refine ⟨fun σ H4 => H4 = H3 ∧ ∃ mn : Nat, 1 ≤ mn ∧ mn ≤ 71 ∧ σ = [some (.ref p), some (.int (mb : Int)), some (.int (lg : Int)), some (.int (cnt : Int)), some (.int (mn : Int)), some (.ref l), none, none, none, none, none, none, none], ?_, ?_⟩
    · refine ⟨_, rfl, _, _, rfl, rfl, _, rfl, ite2 (fun _ => ?_) (fun _ => ?_)⟩
      · refine ⟨_, rfl, _, _, rfl, rfl, (show (0 : Int) < 7 by decide), rfl, _, rfl, ite2 (fun _ => ?_) (fun _ => ?_)⟩
        · refine ⟨_, rfl, _, _, rfl, rfl, ⟨by decide, by decide⟩, _, _, rfl, rfl, rfl, 7 + cnt / 4, by omega, by omega, ?_⟩
          show [some (V.ref p), _, _, _, some (V.int (7 + (cnt : Int) / 4)), _, _, _, _, _, _, _, _] = _
          rw [show (7 + (cnt : Int) / 4) = ((7 + cnt / 4 : Nat) : Int) by omega]
        · exact ⟨rfl, mn0, hm0.1, hm0.2, rfl⟩
      · exact ⟨rfl, mn0, hm0.1, hm0.2, rfl⟩
    rintro σ H4 ⟨rfl, mn, mn1, mn2, rfl⟩
    -- thrown out, one by one
    refine while_by (fun σ H5 => σ = [some (.ref p), some (.int (mb : Int)), some (.int (lg : Int)), some (.int (cnt : Int)), some (.int (mn : Int)), some (.ref l), none, none, none, none, none, none, none] ∧
        But p H H5 ∧ ∃ ops : List Nat, H5 l = some (.lst (ops.map fun i : Nat => V.int (i : Int))) ∧ ops.Pairwise (· < ·) ∧ (∀ x ∈ ops, x < cnt) ∧ 1 ≤ ops.length ∧ ops.length ≤ cnt ∧ BoxAt H5 p (n + 2 + (cnt - ops.length))) (fun _ H5 => lenAt H5 l)
      ⟨rfl, b03, List.range cnt, h3, List.pairwise_lt_range, fun x hx => List.mem_range.mp hx, by rw [List.length_range]; omega, by rw [List.length_range]; exact Nat.le_refl _, B3.mono (by omega)⟩ ?_ ?_
    · rintro σ H5 ⟨rfl, b5, ops, h5, asc, lt, l1, l2, B5⟩
      refine ⟨_, rfl, l, _, rfl, .inl (SqL.of h5), _, rfl, _, _, rfl, rfl, _, rfl, ?_⟩
      rw [List.length_map]
      by_cases big : (mn : Int) < (ops.length : Int)
      · rw [decide_eq_true big]
        refine iteT ?_
        refine ⟨_, rfl, .inl ⟨rfl, _, SqL.of h5⟩, _, rfl, _, rfl, l, _, rfl, .inl (SqL.of h5), p, _, _, rfl, B5, by omega, by rw [List.length_map]; omega, by rw [List.length_map]; omega, fun H6 d b6 B6 d0 d1 f6 => ?_⟩
        rw [List.length_map] at d1
        obtain ⟨j, rfl⟩ : ∃ j : Nat, d = (j : Int) := ⟨d.toNat, by omega⟩
        have hj : j < ops.length := by omega
        have h6 := b6 _ _ h5 hlp
        refine ⟨l, _, (j : Int), j, _, rfl, rfl, h6, by omega, by omega, (ixN_seq (ixN_at (by rw [List.length_map]; exact hj))).1, (by rw [List.getElem?_map, List.getElem?_eq_getElem hj]; rfl), ?_⟩
        have eE : (ops.map fun i : Nat => V.int (i : Int)).eraseIdx j = (ops.eraseIdx j).map fun i : Nat => V.int (i : Int) := by
          exact erase_map _ _ _
        rw [eE]
        have hlen : (ops.eraseIdx j).length = ops.length - 1 := List.length_eraseIdx_of_lt hj
        refine ⟨⟨rfl, fun b o eb hb => ?_, ops.eraseIdx j, upd_same, asc.sublist (List.eraseIdx_sublist ops j), fun x hx => lt x (List.mem_of_mem_eraseIdx hx), by omega, by omega, ?_⟩, ?_⟩
        · rw [upd_ne (ne_of_none eb hHl)]
          exact b6 _ _ (b5 b o eb hb) hb
        · obtain ⟨x1, x2, x3, e1, r⟩ := B6
          have := (show BoxAt (upd H6 l (.lst ((ops.eraseIdx j).map fun i : Nat => V.int (i : Int)))) p (n + 2 + (cnt - ops.length) + 1) from ⟨x1, x2, x3, by rw [upd_ne (Ne.symm hlp)]; exact e1, r⟩)
          exact this.mono (by omega)
        · rw [lenAt_of upd_same, lenAt_of h5, List.length_map, List.length_map]
          omega
      · rw [decide_eq_false big]
        refine iteF ?_
        have few : ops.length ≤ 71 := by omega
        -- the names' first letter
        refine ⟨Nat.zero_le _, fun fo nfo => ?_⟩
        have s7 := same_upd (o := HO.lst []) nfo
        have hfp : fo ≠ p := fun z => B5.ne (z ▸ nfo)
        have hHfo : H fo = none := b5.free B.ne nfo B5.ne
        refine ⟨_, rfl, p, 26, _, rfl, B5.same s7, by omega, by decide, by decide, fun H8 fst b8 B8 f80 f81 f8 => ⟨_, _, rfl, ?_⟩⟩
        obtain ⟨fi, rfl⟩ : ∃ j : Nat, fst = (j : Int) := ⟨fst.toNat, by omega⟩
        have h8l := b8 _ _ (s7 _ _ h5) hlp
        have h8f : H8 fo = some (.lst []) := b8 _ _ upd_same hfp
        have b08 : But p H H8 := (b5.trans (But.of s7)).trans b8
        have nHfo8 : fo ≠ l := (ne_of_none h5 nfo).symm
        -- one instruction for each
        refine ⟨_, rfl, l, _, rfl, SqL.of h8l, for_it (walk_enum (K := K) (a := l) (xs := ops.map fun i : Nat => V.int (i : Int)))
          (fun i σ H9 => ∃ y8 y9 y10 y11 y12, σ = [some (.ref p), some (.int (mb : Int)), some (.int (lg : Int)), some (.int (cnt : Int)), some (.int (mn : Int)), some (.ref l), some (.ref fo), some (.int (fi : Int)), y8, y9, y10, y11, y12] ∧
            But p H H9 ∧ H9 l = some (.lst (ops.map fun i : Nat => V.int (i : Int))) ∧ BoxAt H9 p (n + 300 + 4 * i) ∧ ∃ (rs : List Addr) (is : List I4), H9 fo = some (.lst (rs.map V.ref)) ∧ is.length = i ∧ Rows H9 rs is ∧ (∀ j x, is[j]? = some x → Drawn lg fi j x ∧ ops[j]? = some x.op))
          ⟨none, none, none, none, none, rfl, b08, h8l, B8.mono (by omega), [], [], h8f, rfl, ⟨rfl, fun i r x h => by simp at h⟩, fun j x h => by simp at h⟩ (fun i σ H9 _ ⟨_, _, _, _, _, _, _, h, _⟩ => SqL.of h) ?_ ?_⟩
        · rintro i x σ H9 H10 hi ⟨y8, y9, y10, y11, y12, rfl, b9, h9l, B9, rs, is, h9f, hil, R9, D9⟩ ⟨tt, x1, x2, rfl, ntt, rfl, f1, f2⟩
          rw [List.length_map] at hi
          have e1 : x1 = .int (i : Int) := (Option.some.inj f1).symm
          have e2 : x2 = .int ((ops[i] : Nat) : Int) := by
            have : (ops.map fun i : Nat => V.int (i : Int))[i]? = some x2 := f2
            rw [List.getElem?_map, List.getElem?_eq_getElem hi] at this
            exact (Option.some.inj this).symm
          subst e1 e2
          have st := same_upd (o := HO.tup [V.int (i : Int), V.int ((ops[i] : Nat) : Int)]) ntt
          refine ⟨tt, _, rfl, SqT.of upd_same, rfl, _, _, rfl, _, _, rfl, rfl, ?_⟩
          -- the letter
          refine ⟨_, rfl, _, rfl, _, _, rfl, rfl, .inl ⟨by decide, by decide⟩, _, _, rfl, rfl, _, _, rfl, rfl, (show (0 : Int) < 26 by decide), _, _, 97 + (fi + 5 * i) % 26, rfl, rfl, by decide +kernel, ?_, ?_⟩
          · rw [show ((fi : Int) + 5 * (i : Int)) % 26 = (((fi + 5 * i) % 26 : Nat) : Int) by omega]
            exact abc_at _ (Nat.mod_lt _ (by decide))
          generalize hcc : 97 + (fi + 5 * i) % 26 = cc at *
          have cc1 : 97 ≤ cc ∧ cc ≤ 122 := by omega
          -- the name
          refine ⟨_, rfl, _, rfl, p, 3, _, rfl, B9.same st, by omega, by decide, by decide, fun H11 t3 b11 B11 t0 t1 f11 => ?_⟩
          obtain ⟨t, rfl⟩ : ∃ j : Nat, t3 = (j : Int) := ⟨t3.toNat, by omega⟩
          refine ⟨_, _, rfl, rfl, [cc], _, rfl, rfl, by omega, by omega, (show 1 ≤ 1000 by decide), ?_⟩
          have eqz : ∀ (Q : Prop) (R : Prop), (cc = 122 → Q) → (cc ≠ 122 → R) → (if decide (V.str (txt [cc]) = V.str (Str.ofString "z")) = true then Q else R) := fun Q R h1 h2 => by
            by_cases z : cc = 122
            · rw [decide_eq_true (by rw [z]; decide +kernel)]
              exact iteT (h1 z)
            · rw [decide_eq_false (fun w => z (by
                have : txt [cc] = txt [122] := (V.str.inj w).trans (by decide +kernel)
                exact (List.cons.inj (txt_inj this)).1))]
              exact iteF (h2 z)
          have rep1 : ∀ (m c : Nat), (List.replicate m [c]).flatten = List.replicate m c := fun m c => flat_rep c m
          have s911 : But p H9 H11 := (But.of st).trans b11
          have b11' : But p H H11 := b9.trans s911
          have h11l := s911 _ _ h9l hlp
          have h11f := s911 _ _ h9f hfp
          have R11 := R9.but s911 B9
          refine ⟨_, rfl, rfl, _, rfl, eqz _ _ (fun z => ?_) (fun z => ?_)⟩
          all_goals
            refine ⟨_, rfl, _, _, rfl, rfl, ⟨by decide, by decide⟩, [tail cc], _, ?_, rfl, by omega, by omega, (show 1 ≤ 1000 by decide), ?_⟩
            · unfold tail
              first
                | (rw [if_pos z]; decide +kernel)
                | (rw [if_neg z]; decide +kernel)
            rw [rep1, rep1, show (1 + (t : Int)).toNat = 1 + t by omega, show ((i : Int) / 26).toNat = i / 26 by omega]
            refine ⟨_, _, rfl, rfl, ?_, ?_⟩
            · rw [txt_len, txt_len, List.length_replicate, List.length_replicate]
              exact Nat.le_of_lt (small1000 (by omega))
            rw [txt_add]
            show tSeq _ _ _ ([some (V.ref p), some (.int (mb : Int)), some (.int (lg : Int)), some (.int (cnt : Int)), some (.int (mn : Int)), some (.ref l), some (.ref fo), some (.int (fi : Int)), some (.int (i : Int)), some (.int ((ops[i] : Nat) : Int)), some (.str (txt [cc])), some (.str (txt (nameOf cc t (i / 26)))), y12] : L2.St) H11
            -- the length
            refine ⟨_, rfl, _, rfl, _, rfl, p, (lg : Int), _, rfl, B11, by omega, by omega, by omega, fun H12 e4 b12 B12 e40 e41 f12 => ?_⟩
            refine ⟨_, _, rfl, rfl, by show 4 ≤ sizeLine; decide, fun l4 nl4 => ?_⟩
            have s12 := same_upd (o := HO.lst [V.int 1, V.int 2, V.int 3, V.int (1 + e4)]) nl4
            have hl4p : l4 ≠ p := fun z => B12.ne (z ▸ nl4)
            refine ⟨p, l4, _, _, rfl, B12.same s12, by omega, upd_same, hl4p, (show 0 < 4 by decide), (show 4 ≤ 1000 by decide), fun H13 v hv b13 B13 f13 => ?_⟩
            obtain ⟨ln, rfl, ln1, ln2⟩ : ∃ ln : Nat, v = .int (ln : Int) ∧ 1 ≤ ln ∧ ln ≤ 12 := by
              simp only [List.mem_cons, List.not_mem_nil, or_false] at hv
              rcases hv with rfl | rfl | rfl | rfl
              · exact ⟨1, rfl, by decide, by decide⟩
              · exact ⟨2, rfl, by decide, by decide⟩
              · exact ⟨3, rfl, by decide, by decide⟩
              · exact ⟨(1 + e4).toNat, by congr 1; omega, by omega, by omega⟩
            have s1113 : But p H11 H13 := (b12.trans (But.of s12)).trans b13
            have h13l := s1113 _ _ h11l hlp
            have h13f := s1113 _ _ h11f hfp
            have R13 := R11.but s1113 B11
            have b13' := b11'.trans s1113
            refine ⟨_, rfl, .inl ⟨rfl, _, SqL.of h13f⟩, _, rfl, _, rfl, _, rfl, _, rfl, _, _, rfl, _, rfl, rfl, _, rfl, ?_⟩
            have emin : (if (lg : Int) < (ln : Int) then (lg : Int) else (ln : Int)) = ((min ln lg : Nat) : Int) := by
              split <;> omega
            dsimp only
            rw [emin]
            -- the last part: it is put behind the others
            have put : ∀ (b : Bool) (H14 : Hp), (i = 0 → b = true) → But p H H14 → H14 l = some (.lst (ops.map fun i : Nat => V.int (i : Int))) → BoxAt H14 p (n + 300 + 4 * (i + 1)) → H14 fo = some (.lst (rs.map V.ref)) → Rows H14 rs is →
                ∀ r, H14 r = none → ∃ (rs' : List Addr) (is' : List I4), upd (upd H14 r (.tup [.int ((ops[i] : Nat) : Int), .str (txt (nameOf cc t (i / 26))), .int ((min ln lg : Nat) : Int), .bl b])) fo (.lst (rs.map V.ref ++ [V.ref r])) fo = some (.lst (rs'.map V.ref)) ∧ is'.length = i + 1 ∧
                  Rows (upd (upd H14 r (.tup [.int ((ops[i] : Nat) : Int), .str (txt (nameOf cc t (i / 26))), .int ((min ln lg : Nat) : Int), .bl b])) fo (.lst (rs.map V.ref ++ [V.ref r]))) rs' is' ∧ (∀ j x, is'[j]? = some x → Drawn lg fi j x ∧ ops[j]? = some x.op) := by
              intro b H14 hb b14 h14l B14 h14f R14 r nr
              have sr := same_upd (o := HO.tup [.int ((ops[i] : Nat) : Int), .str (txt (nameOf cc t (i / 26))), .int ((min ln lg : Nat) : Int), .bl b]) nr
              have hrf : r ≠ fo := fun z => by rw [z, h14f] at nr; cases nr
              have R15 := (R14.same sr).more (r := r) (x := ⟨ops[i], nameOf cc t (i / 26), min ln lg, b⟩) upd_same
              refine ⟨rs ++ [r], is ++ [⟨ops[i], nameOf cc t (i / 26), min ln lg, b⟩], by rw [upd_same, List.map_append]; rfl, by rw [List.length_append, hil]; rfl, ⟨R15.1, fun j r' x' h1 h2 => ?_⟩, fun j x hj => ?_⟩
              · have := R15.2 j r' x' h1 h2
                rw [upd_ne (fun z => by rw [z, sr _ _ h14f] at this; cases this)]
                exact this
              · by_cases c : j < is.length
                · rw [List.getElem?_append_left c] at hj
                  exact D9 j x hj
                · have hl := (List.getElem?_eq_some_iff.mp hj).1
                  rw [List.length_append] at hl
                  have e : j = i := by
                    have : ([⟨ops[i], nameOf cc t (i / 26), min ln lg, b⟩] : List I4).length = 1 := rfl
                    omega
                  subst e
                  rw [List.getElem?_append_right (by omega), hil, Nat.sub_self] at hj
                  have ex : (⟨ops[j], nameOf cc t (j / 26), min ln lg, b⟩ : I4) = x := Option.some.inj hj
                  subst ex
                  exact ⟨⟨⟨t, by omega, by rw [← hcc]⟩, ⟨by show 1 ≤ min ln lg; omega, by show min ln lg ≤ lg; omega⟩, hb⟩, List.getElem?_eq_getElem hi⟩
            have fin : ∀ (b : Bool) (H14 : Hp), (i = 0 → b = true) → But p H H14 → H14 l = some (.lst (ops.map fun i : Nat => V.int (i : Int))) → BoxAt H14 p (n + 300 + 4 * (i + 1)) → H14 fo = some (.lst (rs.map V.ref)) → Rows H14 rs is →
                ∀ r, H14 r = none → But p H (upd (upd H14 r (.tup [.int ((ops[i] : Nat) : Int), .str (txt (nameOf cc t (i / 26))), .int ((min ln lg : Nat) : Int), .bl b])) fo (.lst (rs.map V.ref ++ [V.ref r]))) ∧
                  (upd (upd H14 r (.tup [.int ((ops[i] : Nat) : Int), .str (txt (nameOf cc t (i / 26))), .int ((min ln lg : Nat) : Int), .bl b])) fo (.lst (rs.map V.ref ++ [V.ref r]))) l = some (.lst (ops.map fun i : Nat => V.int (i : Int))) ∧
                  BoxAt (upd (upd H14 r (.tup [.int ((ops[i] : Nat) : Int), .str (txt (nameOf cc t (i / 26))), .int ((min ln lg : Nat) : Int), .bl b])) fo (.lst (rs.map V.ref ++ [V.ref r]))) p (n + 300 + 4 * (i + 1)) := by
              intro b H14 hb b14 h14l B14 h14f R14 r nr
              have sr := same_upd (o := HO.tup [.int ((ops[i] : Nat) : Int), .str (txt (nameOf cc t (i / 26))), .int ((min ln lg : Nat) : Int), .bl b]) nr
              refine ⟨fun c o eb hb => ?_, ?_, ?_⟩
              · rw [upd_ne (ne_of_none eb hHfo)]
                exact sr _ _ (b14 c o eb hb)
              · rw [upd_ne (Ne.symm nHfo8)]
                exact sr _ _ h14l
              · obtain ⟨x1, x2, x3, e1, r⟩ := B14.same sr
                exact ⟨x1, x2, x3, by rw [upd_ne (Ne.symm hfp)]; exact e1, r⟩
            have rlen : (rs.map V.ref).length < sizeLine := by
              rw [List.length_map, R9.1, hil]
              exact small1000 (by omega)
            by_cases i0 : i = 0
            · rw [decide_eq_true (show V.int (i : Int) = V.int 0 by rw [i0]; rfl)]
              refine iteT ⟨by show 4 ≤ sizeLine; decide, fun r nr => ?_⟩
              have hb : i = 0 → true = true := fun _ => rfl
              have B13' : BoxAt H13 p (n + 300 + 4 * (i + 1)) := B13.mono (by omega)
              obtain ⟨a1, a2, a3⟩ := fin true H13 hb b13' h13l B13' h13f R13 r nr
              refine ⟨fo, _, _, rfl, rfl, same_upd nr _ _ h13f, rlen, ?_⟩
              exact ⟨_, _, _, _, _, rfl, a1, a2, a3, put true H13 hb b13' h13l B13' h13f R13 r nr⟩
            · rw [decide_eq_false (show ¬ V.int (i : Int) = V.int 0 from fun z => i0 (by have := V.int.inj z; omega))]
              refine iteF ⟨_, rfl, p, 2, _, rfl, B13, by omega, by decide, by decide, fun H14 e5 b14 B14 e50 e51 f14 => ⟨rfl, by show 4 ≤ sizeLine; decide, fun r nr => ?_⟩⟩
              have hb : i = 0 → decide (V.int e5 = V.int 0) = true := fun z => absurd z i0
              have h14l := b14 _ _ h13l hlp
              have h14f := b14 _ _ h13f hfp
              have R14 := R13.but b14 B13
              have b14' := b13'.trans b14
              have B14' : BoxAt H14 p (n + 300 + 4 * (i + 1)) := B14.mono (by omega)
              obtain ⟨a1, a2, a3⟩ := fin _ H14 hb b14' h14l B14' h14f R14 r nr
              refine ⟨fo, _, _, rfl, rfl, same_upd nr _ _ h14f, rlen, ?_⟩
              exact ⟨_, _, _, _, _, rfl, a1, a2, a3, put _ H14 hb b14' h14l B14' h14f R14 r nr⟩
        · rintro σ H9 ⟨y8, y9, y10, y11, y12, rfl, b9, h9l, B9, rs, is, h9f, hil, R9, D9⟩
          rw [List.length_map] at hil B9
          refine ⟨_, rfl, _, rfl, fo, _, rfl, .inl ⟨SqL.of h9f, fun it nit => ?_⟩⟩
          refine ⟨by show 2 ≤ sizeLine; decide, fun t nt => ?_⟩
          have sA := same_upd (o := HO.tup (rs.map V.ref)) nit
          have sB := same_upd (o := HO.tup [V.int (cnt : Int), V.ref it]) nt
          have sAB := sA.trans sB
          have nt9 : H9 t = none := sA.free nt
          have eops : is.map I4.op = ops := by
            refine List.ext_getElem (by rw [List.length_map, hil]) fun j h1 h2 => ?_
            rw [List.length_map] at h1
            have := (D9 j _ (List.getElem?_eq_getElem h1)).2
            rw [List.getElem?_eq_getElem h2] at this
            rw [List.getElem_map]
            exact (Option.some.inj this).symm
          refine q _ t cnt is it rs (b9.trans (But.of sAB)) ((B9.same sAB).mono (by omega)) (b9.free B.ne nt9 B9.ne) ⟨upd_same, sB _ _ upd_same, R9.same sAB, ?_⟩ hc2.2
          refine ⟨⟨by omega, by omega⟩, by omega, fun z => by rw [z] at hil; simp at hil; omega, by omega, by rw [eops]; exact asc, fun x hx => ?_, fun x hx => ?_, fun x hx => ?_, names_nodup (fun i x h => (D9 i x h).1)⟩
          · exact lt _ (by rw [← eops]; exact List.mem_map.mpr ⟨x, hx, rfl⟩)
          · obtain ⟨j, hj⟩ := List.mem_iff_getElem?.mp hx
            exact (D9 j x hj).1.ln
          · obtain ⟨j, hj⟩ := List.mem_iff_getElem?.mp hx
            have hjl := (List.getElem?_eq_some_iff.mp hj).1
            obtain ⟨t, ht, en⟩ := (D9 j x hj).1.nm
            rw [en, nameOf_len]
            exact ⟨by omega, by omega, nameOf_low (by omega) (by omega)⟩
    · rintro σ H5 Q1 Q2 hQ ⟨v, h1, pp, ys, h2, h3, v2, h4, i, j, h5, h6, b, h7, h8⟩
      exact ⟨v, h1, pp, ys, h2, h3, v2, h4, i, j, h5, h6, b, h7, hQ _ _ h8⟩
end
end Ov
namespace Ov
open PySem PySem.Spec PyProof.Rows L2
theorem nlt_sign {a b : Nat} (h : a ≤ b) : decide (([b] : List Nat) < [a]) = false := by
  refine decide_eq_false ?_
  rw [List.cons_lt_cons_iff]
  rintro (z | ⟨_, z⟩)
  · omega
  · exact absurd z (by simp)
section
variable {P : Program} {w : World} {K : PySem.W.Frag} {mg : Str → Option Value} {base : Heap}
def spAscL (K : PySem.W.Frag) : Sp := fun vs H Q _ => ∃ (a : Addr) (ns : List Int), vs = [.ref a] ∧ SqL K H a (ns.map V.int) ∧ ns.length ≤ 1000 ∧ ns.Pairwise (· < ·) ∧ ∀ H', Same H H' → Q (.bl true) H'
theorem ok_ascL {f : Addr} {fd : FuncData} {k : Nat} (F : Fun K "is_ascending" "is_ascending" sAscending f fd) (T : Bi mg) : FnOk P w K mg base CX0 (k + 1) f fd ["numbers"] (spAscL K) := by
  refine F.ok scAscending (fun vs H Q E h => ?_) (fun cdv A outer s H vs Q E hr h => ?_)
  · obtain ⟨a, ns, rfl, _⟩ := h
    rfl
  · obtain ⟨a, ns, rfl, hS, hlen, hasc, q⟩ := h
    refine ⟨_, pss_one (ps_ret (pe_callB (cr_all rfl) (by rfl) T.all (by decide +kernel) (pa_cons
      (pe_lc (own := [("low", 1), ("high", 2)]) (g := gTup K 2 (gCons (gName 1) (gCons (gName 2) gNil))) (tt := tYes) (by rfl) scAscending.nd (RZ.pi_zipA (by rfl) T.zip (pa_cons (pv 0) (pa_cons (pe_slice sl_list (pv 0) (po_some pe_int) po_none) pa_nil)))
        (blkOk_by (own := [("low", 1), ("high", 2)]) (N := ["numbers", "low", "high"]) (sc := defScope sAscending) (by decide +kernel))
        (fun _ _ _ _ _ => pg_tup rfl (pgs_cons (pg_name (i := 1) scAscending.nd rfl (Or.inl rfl)) (pgs_cons (pg_name (i := 2) scAscending.nd rfl (Or.inl rfl)) pgs_nil)))
        (fun _ _ _ _ _ => pts_nil) (fun _ _ _ _ _ => pe_cmpR op_lt (pv 1) (pv 2) (nomark _))) pa_nil))), ?_⟩
    refine ⟨_, rfl, _, rfl, 1, rfl, a, ns.map V.int, rfl, hS, fun c nc => ?_⟩
    have s1 : Same H (upd H c (.lst (cutV (ns.map V.int) (some 1) none))) := same_upd nc
    have hc : SqL K (upd H c (.lst (cutV (ns.map V.int) (some 1) none))) c ((ns.drop 1).map V.int) := .inl (.inl (by rw [upd_same, cut1, List.map_drop]))
    refine ⟨a, c, ns.map V.int, (ns.drop 1).map V.int, rfl, .inl ⟨s1.seq hS, hc, fun D nD => lc_it (walk_zip (xs := ns.map V.int) (ys := (ns.drop 1).map V.int) rfl)
      (fun i H2 => Mk (upd H c (.lst (cutV (ns.map V.int) (some 1) none))) H2 D ((List.replicate i true).map V.bl)) (.start nD) (fun i H2 _ p => ⟨p.same.seq (s1.seq hS), p.same.seq hc⟩) (fun i x H2 H3 hi p y => ?_) (fun H2 p => ?_)⟩⟩
    · obtain ⟨t, x1, x2, rfl, nt, rfl, f1, f2⟩ := y
      have hi' : i < min ns.length (ns.length - 1) := by simpa using hi
      have h1 : i < ns.length := by omega
      have h2 : i + 1 < ns.length := by omega
      have e1 : x1 = .int ns[i] := by
        have : (ns.map V.int)[i]? = some x1 := f1
        rw [List.getElem?_map, List.getElem?_eq_getElem h1] at this
        exact (Option.some.inj this).symm
      have e2 : x2 = .int ns[i + 1] := by
        have : ((ns.drop 1).map V.int)[i]? = some x2 := f2
        rw [List.getElem?_map, List.getElem?_drop, Nat.add_comm 1 i, List.getElem?_eq_getElem h2] at this
        exact (Option.some.inj this).symm
      have hlt : ns[i] < ns[i + 1] := List.pairwise_iff_getElem.mp hasc i (i + 1) h1 h2 (by omega)
      refine ⟨t, [x1, x2], rfl, .inl (.inl upd_same), rfl, x1, [x2], rfl, x2, [], rfl, rfl, rfl, x1, rfl, x2, rfl, _, _, e1, e2, _, (by rw [upd_ne (ne_of_none p.at_ nt)]; exact p.at_), (by rw [List.length_map, List.length_replicate]; exact small1000 (by omega)), ?_⟩
      show Mk _ (upd _ D (.lst (_ ++ [V.bl (decide (ns[i] < ns[i + 1]))]))) D _
      rw [decide_eq_true hlt, List.replicate_succ', List.map_append]
      exact p.put (same_upd nt)
    · refine ⟨D, _, rfl, .inl (.inl p.at_), ?_⟩
      rw [all_true]
      exact q H2 (s1.trans p.same)
def spName : Sp := fun vs H Q _ => ∃ nm : List Nat, vs = [.str (txt nm)] ∧ 1 ≤ nm.length ∧ nm.length ≤ 8 ∧ (∀ c ∈ nm, 97 ≤ c ∧ c ≤ 122) ∧ ∀ H', Same H H' → Q (.bl true) H'
theorem scName : FnScope ["value", "letter"] ["value"] (defScope sIsName) := ⟨rfl, rfl, rfl, by decide +kernel, rfl, by decide +kernel, by decide +kernel⟩
theorem ok_name {f : Addr} {fd : FuncData} {k : Nat} (F : Fun K "is_name" "is_name" sIsName f fd) (T : Bi mg) (m8 : ∃ t, mg "MOST_LETTERS" = some (.int 8 t)) : FnOk P w K mg base CX0 (k + 1) f fd ["value"] spName := by
  obtain ⟨t8, m8⟩ := m8
  refine F.ok scName (fun vs H Q E h => ?_) (fun cdv A outer s H vs Q E hr h => ?_)
  · obtain ⟨nm, rfl, _⟩ := h
    rfl
  · obtain ⟨nm, rfl, h1, h2, low, q⟩ := h
    refine ⟨_, pss_cons (ps_if (PW.pt (pw_or (pt_not (pt_val (pe_callB call_isi (by rfl) T.isi (by decide +kernel) (pa_cons (pv 0) (pa_cons (pe_bltn (v := .ty "str") (u := .type "str") (by rfl) T.str (by decide +kernel) rfl) pa_nil)))))
        (pw_or1 (pt_not (pt_chain op_le op_le pe_int (pe_callB call_len_str (by rfl) T.len PySem.boot_len (pa_cons (pv 0) pa_nil)) (pe_glob (v := .int 8) (by rfl) m8 ⟨_, rfl⟩)))))) (pss_one (ps_ret pe_bl)) pss_nil)
      (pss_one (ps_ret (pe_callB (cr_all rfl) (by rfl) T.all (by decide +kernel) (pa_cons
        (pe_lc (own := [("letter", 1)]) (g := gName 1) (tt := tYes) (by rfl) scName.nd (pi_str (pv 0)) (blkOk_by (own := [("letter", 1)]) (N := ["value", "letter"]) (sc := defScope sIsName) (by decide +kernel))
          (fun _ _ _ _ _ => pg_name (i := 1) scName.nd rfl (Or.inl rfl)) (fun _ _ _ _ _ => pts_nil) (fun _ _ _ _ _ => pe_chain op_le_str op_le_str pe_str (pv 1) pe_str)) pa_nil)))), ?_⟩
    have hsz : (txt nm).length ≤ sizeLine := by rw [txt_len]; exact Nat.le_of_lt (small1000 (by omega))
    refine ⟨_, rfl, _, _, _, _, _, rfl, .ty _, .base (.str _), kit_ty (by decide +kernel : kitB "str" "str" = some true), _, rfl, ?_⟩
    refine iteF ⟨_, rfl, _, rfl, hsz, _, _, rfl, rfl, _, rfl, ?_⟩
    rw [txt_len, decide_eq_true (show (1 : Int) ≤ (nm.length : Int) by omega)]
    refine iteT ⟨_, _, rfl, rfl, _, rfl, ?_⟩
    rw [decide_eq_true (show (nm.length : Int) ≤ 8 by omega)]
    refine iteF ?_
    refine ⟨_, rfl, txt nm, rfl, fun D nD => lc_it (walk_str (z := txt nm)) (fun i H2 => Mk H H2 D ((List.replicate i true).map V.bl)) (.start nD) (fun _ _ _ _ => trivial) ?_ ?_⟩
    · rintro i x H2 H3 hi mk ⟨rfl, c, hc, rfl⟩
      have hcm : c ∈ nm := by
        have : nm[i]? = some c := by simpa [txt] using hc
        exact List.mem_of_getElem? this
      obtain ⟨c1, c2⟩ := low c hcm
      have hi' : i < nm.length := by
        have : i < (txt nm).cps.size := hi
        simpa [txt] using this
      refine ⟨rfl, _, rfl, Str.ofString "a", _, rfl, rfl, _, rfl, ?_⟩
      have ea : (Str.ofString "a").cps.toList = [97] := by decide +kernel
      have ez : (Str.ofString "z").cps.toList = [122] := by decide +kernel
      rw [ea, show decide (((⟨#[c]⟩ : Str).cps.toList) < ([97] : List Nat)) = false from nlt_sign c1]
      refine iteT ⟨_, Str.ofString "z", rfl, rfl, ?_⟩
      rw [ez, show decide (([122] : List Nat) < ((⟨#[c]⟩ : Str).cps.toList)) = false from nlt_sign c2]
      refine ⟨_, mk.at_, (by rw [List.length_map, List.length_replicate]; exact small1000 (by omega)), ?_⟩
      rw [List.replicate_succ', List.map_append]
      exact mk.put (Same.refl _)
    · intro H2 mk
      refine ⟨D, _, rfl, SqL.of mk.at_, ?_⟩
      rw [all_true]
      exact q H2 mk.same
/-- a valid instruction for this byte count -/
structure InsOk (cnt : Nat) (x : I4) : Prop where
  op : x.op < cnt
  nm : 1 ≤ x.nm.length ∧ x.nm.length ≤ 8 ∧ ∀ c ∈ x.nm, 97 ≤ c ∧ c ≤ 122
  ln : 1 ≤ x.ln ∧ x.ln ≤ 12
theorem TabOk.ins {cnt lg : Nat} {is : List I4} (h : TabOk cnt lg is) {x : I4} (hx : x ∈ is) : InsOk cnt x := ⟨h.ops x hx, h.nms x hx, (h.len x hx).1, Nat.le_trans (h.len x hx).2 h.lb⟩
def spInstr : Sp := fun vs H Q _ => ∃ (cnt : Nat) (r : Addr) (x : I4), vs = [.int (cnt : Int), .ref r] ∧ H r = some (.tup x.vs) ∧ InsOk cnt x ∧ ∀ H', Same H H' → Q (.bl true) H'
theorem scInstr : FnScope ["byte_count", "value", "opcode", "name", "length", "is_padding"] ["byte_count", "value"] (defScope sIsInstr) := ⟨rfl, rfl, rfl, by decide +kernel, rfl, by decide +kernel, by decide +kernel⟩
theorem ok_instr {f fB fN : Addr} {fd fdB fdN : FuncData} {k : Nat} (F : Fun K "is_instruction" "is_instruction" sIsInstr f fd) (T : Bi mg)
    (B : Def K mg "is_integer_between" sBetween fB fdB ["value", "least", "most"]) (GB : FnOk P w K mg base CX0 (k + 1) fB fdB ["value", "least", "most"] spBetween) (Nm : Def K mg "is_name" sIsName fN fdN ["value"]) (m8 : ∃ t, mg "MOST_LETTERS" = some (.int 8 t)) (m12 : ∃ t, mg "MOST_LENGTH" = some (.int 12 t)) :
    FnOk P w K mg base CX0 (k + 2) f fd ["byte_count", "value"] spInstr := by
  have GN : FnOk P w K mg base CX0 (k + 1) fN fdN ["value"] spName := ok_name Nm.fn T m8
  obtain ⟨t12, m12⟩ := m12
  refine F.ok scInstr (fun vs H Q E h => ?_) (fun cdv A outer s H vs Q E hr h => ?_)
  · obtain ⟨cnt, r, x, rfl, _⟩ := h
    rfl
  · obtain ⟨cnt, r, x, rfl, hx, ok, q⟩ := h
    refine ⟨_, pss_cons (ps_if (PW.pt (pw_or (pt_not (pt_val (pe_callB call_isi (by rfl) T.isi (by decide +kernel) (pa_cons (pv 1) (pa_cons (pe_bltn (v := .ty "tuple") (u := .type "tuple") (by rfl) T.tuple (by decide +kernel) rfl) pa_nil)))))
        (pw_or1 (pt_cmpR op_ne (pe_callB call_len_seq (by rfl) T.len PySem.boot_len (pa_cons (pv 1) pa_nil)) pe_int (nomark _))))) (pss_one (ps_ret pe_bl)) pss_nil)
      (pss_cons (ps_asg (pv 1) (pg_tup rfl (pgs_cons (pg_name (i := 2) scInstr.nd rfl (.inl rfl)) (pgs_cons (pg_name (i := 3) scInstr.nd rfl (.inl rfl)) (pgs_cons (pg_name (i := 4) scInstr.nd rfl (.inl rfl)) (pgs_cons (pg_name (i := 5) scInstr.nd rfl (.inl rfl)) pgs_nil))))))
      (pss_one (ps_ret (pe_and (pe_call GB hr (by rfl) B.gl B.fn.kp B.bi .nil pass0 (pa_cons (pv 2) (pa_cons pe_int (pa_cons (pe_op op_sub (pv 0) pe_int) pa_nil))))
        (pe_and (pe_call GN hr (by rfl) Nm.gl Nm.fn.kp Nm.bi .nil pass0 (pa_cons (pv 3) pa_nil))
        (pe_and (pe_call GB hr (by rfl) B.gl B.fn.kp B.bi .nil pass0 (pa_cons (pv 4) (pa_cons pe_int (pa_cons (pe_glob (v := .int 12) (by rfl) m12 ⟨_, rfl⟩) pa_nil))))
        (pe_one (pe_callB call_isi (by rfl) T.isi (by decide +kernel) (pa_cons (pv 5) (pa_cons (pe_bltn (v := .ty "bool") (u := .type "bool") (by rfl) T.bool (by decide +kernel) rfl) pa_nil)))))))))), ?_⟩
    refine ⟨_, rfl, _, _, _, _, _, rfl, .ty _, .base (.tup hx), kit_ty (by decide +kernel : kitB "tuple" "tuple" = some true), _, rfl, ?_⟩
    refine iteF ⟨_, rfl, r, _, rfl, .inr (SqT.of hx), rfl, _, rfl, ?_⟩
    refine iteNS rfl ?_
    refine ⟨_, rfl, r, _, rfl, SqT.of hx, rfl, _, _, rfl, _, _, rfl, _, _, rfl, _, _, rfl, rfl, ?_⟩
    have o1 := ok.op
    have o2 := ok.ln
    refine ⟨_, rfl, _, rfl, _, _, rfl, rfl, _, _, _, rfl, by omega, by omega, _, rfl, iteT ?_⟩
    refine ⟨_, rfl, x.nm, rfl, ok.nm.1, ok.nm.2.1, ok.nm.2.2, fun H1 s1 => ⟨_, rfl, iteT ?_⟩⟩
    refine ⟨_, rfl, _, _, _, rfl, by omega, by omega, _, rfl, iteT ?_⟩
    exact ⟨_, rfl, _, _, _, _, _, rfl, .ty _, .base (.bl _), kit_ty (by decide +kernel : kitB "bool" "bool" = some true), q H1 s1⟩
def spAreI : Sp := fun vs H Q _ => ∃ (cnt lg : Nat) (it : Addr) (rs : List Addr) (is : List I4), vs = [.int (cnt : Int), .ref it] ∧ H it = some (.tup (rs.map V.ref)) ∧ Rows H rs is ∧ TabOk cnt lg is ∧ ∀ H', Same H H' → Q (.bl true) H'
theorem scAreI : FnScope ["byte_count", "value", "opcodes", "names", "item", "opcode", "name", "length", "is_padding"] ["byte_count", "value"] (defScope sAreInstr) := ⟨rfl, rfl, rfl, by decide +kernel, rfl, by decide +kernel, by decide +kernel⟩
theorem rows_at {H : Hp} {rs : List Addr} {is : List I4} (h : Rows H rs is) {i : Nat} {x : V} (hx : (rs.map V.ref)[i]? = some x) : ∃ (hi : i < is.length) (r : Addr), x = .ref r ∧ H r = some (.tup is[i].vs) ∧ rs[i]? = some r := by
  have hi : i < rs.length := by
    have := (List.getElem?_eq_some_iff.mp hx).1
    rwa [List.length_map] at this
  have hi2 : i < is.length := by rw [← h.1]; exact hi
  rw [List.getElem?_map, List.getElem?_eq_getElem hi] at hx
  exact ⟨hi2, rs[i], (Option.some.inj hx).symm, h.2 i _ _ (List.getElem?_eq_getElem hi) (List.getElem?_eq_getElem hi2), List.getElem?_eq_getElem hi⟩
theorem ok_areI {f fI fA : Addr} {fd fdI fdA : FuncData} {k : Nat} (F : Fun K "are_instructions" "are_instructions" sAreInstr f fd) (T : Bi mg)
    (Ii : Def K mg "is_instruction" sIsInstr fI fdI ["byte_count", "value"]) (GI : FnOk P w K mg base CX0 k fI fdI ["byte_count", "value"] spInstr) (A : Def K mg "is_ascending" sAscending fA fdA ["numbers"]) (GA : FnOk P w K mg base CX0 k fA fdA ["numbers"] (spAscL K)) :
    FnOk P w K mg base CX0 (k + 1) f fd ["byte_count", "value"] spAreI := by
  refine F.ok scAreI (fun vs H Q E h => ?_) (fun cdv A' outer s H vs Q E hr h => ?_)
  · obtain ⟨cnt, lg, it, rs, is, rfl, _⟩ := h
    rfl
  · obtain ⟨cnt, lg, it, rs, is, rfl, hit, R, ok, q⟩ := h
    refine ⟨_, pss_cons (ps_if (PW.pt (pw_or (pt_not (pt_val (pe_callB call_isi (by rfl) T.isi (by decide +kernel) (pa_cons (pv 1) (pa_cons (pe_bltn (v := .ty "tuple") (u := .type "tuple") (by rfl) T.tuple (by decide +kernel) rfl) pa_nil)))))
        (pw_or1 (pt_cmpR op_eq (pe_callB call_len_seq (by rfl) T.len PySem.boot_len (pa_cons (pv 1) pa_nil)) pe_int (nomark _))))) (pss_one (ps_ret pe_bl)) pss_nil)
      (pss_cons (ps_if (pt_not (pt_val (pe_callB (cr_all rfl) (by rfl) T.all (by decide +kernel) (pa_cons
        (pe_lc (own := [("item", 4)]) (g := gName 4) (tt := tYes) (by rfl) scAreI.nd (pi_tup (pv 1)) (blkOk_by (own := [("item", 4)]) (N := ["byte_count", "value", "opcodes", "names", "item", "opcode", "name", "length", "is_padding"]) (sc := defScope sAreInstr) (by decide +kernel))
          (fun _ _ _ _ _ => pg_name (i := 4) scAreI.nd rfl (Or.inl rfl)) (fun _ _ _ _ _ => pts_nil)
          (fun _ _ _ _ _ => pe_call GI hr (by rfl) Ii.gl Ii.fn.kp Ii.bi .nil pass0 (pa_cons (pv 0) (pa_cons (pv 4) pa_nil)))) pa_nil)))) (pss_one (ps_ret pe_bl)) pss_nil)
      (pss_cons (ps_setLc (i := 2) (own := [("opcode", 5), ("name", 6), ("length", 7), ("is_padding", 8)]) (g := gTup K 4 (gCons (gName 5) (gCons (gName 6) (gCons (gName 7) (gCons (gName 8) gNil))))) (tt := tYes) (by rfl) scAreI.nd rfl rfl (sw_true rfl rfl rfl (by decide +kernel)) (pi_tup (pv 1))
          (blkOk_by (own := [("opcode", 5), ("name", 6), ("length", 7), ("is_padding", 8)]) (N := ["byte_count", "value", "opcodes", "names", "item", "opcode", "name", "length", "is_padding"]) (sc := defScope sAreInstr) (by decide +kernel))
          (fun _ _ _ _ _ => pg_tup rfl (pgs_cons (pg_name (i := 5) scAreI.nd rfl (Or.inl rfl)) (pgs_cons (pg_name (i := 6) scAreI.nd rfl (Or.inl rfl)) (pgs_cons (pg_name (i := 7) scAreI.nd rfl (Or.inl rfl)) (pgs_cons (pg_name (i := 8) scAreI.nd rfl (Or.inl rfl)) pgs_nil)))))
          (fun _ _ _ _ _ => pts_nil) (fun _ _ _ _ _ => pv 5))
      (pss_cons (ps_setLc (i := 3) (own := [("opcode", 5), ("name", 6), ("length", 7), ("is_padding", 8)]) (g := gTup K 4 (gCons (gName 5) (gCons (gName 6) (gCons (gName 7) (gCons (gName 8) gNil))))) (tt := tYes) (by rfl) scAreI.nd rfl rfl (sw_true rfl rfl rfl (by decide +kernel)) (pi_tup (pv 1))
          (blkOk_by (own := [("opcode", 5), ("name", 6), ("length", 7), ("is_padding", 8)]) (N := ["byte_count", "value", "opcodes", "names", "item", "opcode", "name", "length", "is_padding"]) (sc := defScope sAreInstr) (by decide +kernel))
          (fun _ _ _ _ _ => pg_tup rfl (pgs_cons (pg_name (i := 5) scAreI.nd rfl (Or.inl rfl)) (pgs_cons (pg_name (i := 6) scAreI.nd rfl (Or.inl rfl)) (pgs_cons (pg_name (i := 7) scAreI.nd rfl (Or.inl rfl)) (pgs_cons (pg_name (i := 8) scAreI.nd rfl (Or.inl rfl)) pgs_nil)))))
          (fun _ _ _ _ _ => pts_nil) (fun _ _ _ _ _ => pv 6))
      (pss_one (ps_ret (pe_and (pe_call GA hr (by rfl) A.gl A.fn.kp A.bi .nil pass0 (pa_cons (pv 2) pa_nil))
        (pe_one (pe_cmpR op_eq (pe_lenSetT (by rfl) (by rfl) T.len (by rfl) T.set (pv 3)) (pe_callB call_len_seq (by rfl) T.len PySem.boot_len (pa_cons (pv 3) pa_nil)) (nomark _))))))))), ?_⟩
    have few := ok.few
    have rl := R.1
    refine ⟨_, rfl, _, _, _, _, _, rfl, .ty _, .base (.tup hit), kit_ty (by decide +kernel : kitB "tuple" "tuple" = some true), _, rfl, ?_⟩
    refine iteF ⟨_, rfl, it, _, rfl, .inr (SqT.of hit), rfl, _, rfl, ?_⟩
    rw [decide_eq_false (fun z => ok.ne (List.eq_nil_of_length_eq_zero (by have := V.int.inj z; rw [List.length_map] at this; omega)))]
    refine iteF ?_
    -- all are instructions
    refine ⟨_, rfl, it, rfl, ⟨_, SqT.of hit⟩, fun D nD => lc_tup (K := K) (a := it) (xs := rs.map V.ref) (fun i H2 => Mk H H2 D ((List.replicate i true).map V.bl)) (.start nD) (fun i H2 _ p => p.same.tup (SqT.of hit)) ?_ ?_⟩
    · intro i x H2 hx mk
      obtain ⟨hi, r, rfl, hr2, _⟩ := rows_at R hx
      refine ⟨rfl, _, rfl, _, rfl, cnt, r, is[i], rfl, mk.same _ _ hr2, ok.ins (List.getElem_mem hi), fun H3 s3 => ⟨_, s3 _ _ mk.at_, (by rw [List.length_map, List.length_replicate]; exact small1000 (by omega)), ?_⟩⟩
      rw [List.replicate_succ', List.map_append]
      exact mk.put s3
    intro H2 mk
    refine ⟨D, _, rfl, SqL.of mk.at_, _, rfl, ?_⟩
    rw [all_true]
    refine iteF ?_
    have s2 := mk.same
    have hit2 := s2 _ _ hit
    have R2 := R.same s2
    clear mk
    -- opcodes
    refine ⟨_, rfl, it, rfl, ⟨_, SqT.of hit2⟩, fun D3 nD3 => lc_tup (K := K) (a := it) (xs := rs.map V.ref) (fun i H3 => Mk H2 H3 D3 (((is.take i).map fun x => (x.op : Int)).map V.int)) (.start nD3) (fun i H3 _ p => p.same.tup (SqT.of hit2)) ?_ ?_⟩
    · intro i x H3 hx mk
      obtain ⟨hi, r, rfl, hr2, _⟩ := rows_at R2 hx
      refine ⟨r, _, rfl, SqT.of (mk.same _ _ hr2), rfl, _, _, rfl, _, _, rfl, _, _, rfl, _, _, rfl, rfl, rfl, _, rfl, _, mk.at_, (by rw [List.length_map, List.length_map, List.length_take]; exact small1000 (by omega)), ?_⟩
      rw [take_more (List.getElem?_eq_getElem hi), List.map_append, List.map_append]
      exact mk.put (Same.refl _)
    intro H3 m3
    rw [List.length_map, rl, List.take_length] at m3
    have s3 := s2.trans m3.same
    have hit3 := s3 _ _ hit
    have R3 := R.same s3
    -- names
    refine ⟨_, rfl, it, rfl, ⟨_, SqT.of hit3⟩, fun D4 nD4 => lc_tup (K := K) (a := it) (xs := rs.map V.ref) (fun i H4 => Mk H3 H4 D4 (((is.take i).map fun x => txt x.nm).map V.str)) (.start nD4) (fun i H4 _ p => p.same.tup (SqT.of hit3)) ?_ ?_⟩
    · intro i x H4 hx mk
      obtain ⟨hi, r, rfl, hr2, _⟩ := rows_at R3 hx
      refine ⟨r, _, rfl, SqT.of (mk.same _ _ hr2), rfl, _, _, rfl, _, _, rfl, _, _, rfl, _, _, rfl, rfl, rfl, _, rfl, _, mk.at_, (by rw [List.length_map, List.length_map, List.length_take]; exact small1000 (by omega)), ?_⟩
      rw [take_more (List.getElem?_eq_getElem hi), List.map_append, List.map_append]
      exact mk.put (Same.refl _)
    intro H4 m4
    rw [List.length_map, rl, List.take_length] at m4
    have h43 := m4.same _ _ m3.at_
    refine ⟨_, rfl, D3, is.map fun x => (x.op : Int), rfl, SqL.of h43, by rw [List.length_map]; omega, ?_, fun H5 s5 => ⟨_, rfl, iteT ?_⟩⟩
    · have := ok.asc
      rw [List.pairwise_map] at this ⊢
      exact this.imp fun z => by omega
    have h54 := s5 _ _ m4.at_
    refine ⟨_, rfl, D4, is.map fun x => txt x.nm, rfl, SqL.of h54, ?_, by rw [List.length_map]; omega, _, rfl, D4, _, rfl, .inl (SqL.of h54), rfl, ?_⟩
    · have := ok.nd
      rw [List.nodup_iff_pairwise_ne, List.pairwise_map] at this ⊢
      exact this.imp fun z y => z (txt_inj y)
    rw [decide_eq_true (by rw [List.length_map, List.length_map, List.length_map])]
    exact q H5 ((s3.trans m4.same).trans s5)
end
end Ov
namespace Ov
open PySem PySem.Spec PyProof.Rows L2
abbrev sInitI : Stmt := inClass cInstructionSet 0
def lenKV (is : List I4) : List (Key × V) := is.map fun x => ((Sum.inl (x.op : Int) : Key), V.int (x.ln : Int))
def nameKV (is : List I4) : List (Key × V) := is.map fun x => ((Sum.inr (txt x.nm) : Key), V.int (x.op : Int))
def flds (cnt : Nat) (it d1 d2 : Addr) : List (Str × V) := putF "opcode_of_name" (.ref d2) (putF "length_of_opcode" (.ref d1) (putF "instructions" (.ref it) (putF "byte_count" (.int (cnt : Int)) [])))
theorem n11 : ¬ (("instructions" : Str) = "opcode_of_name") := by decide +kernel
theorem n12 : ¬ (("instructions" : Str) = "length_of_opcode") := by decide +kernel
theorem flds_its (cnt : Nat) (it d1 d2 : Addr) : (flds cnt it d1 d2).lookup ("instructions" : Str) = some (.ref it) := by
  unfold flds
  rw [lookup_putF, if_neg n11, lookup_putF, if_neg n12, lookup_putF, if_pos rfl]
theorem put_fresh {kvs : List (Key × V)} {k : Key} {v : V} (h : k ∉ kvs.map (·.1)) : putK kvs k v = kvs ++ [(k, v)] := by
  unfold putK
  refine if_neg fun z => h ?_
  obtain ⟨q, hq, e⟩ := List.any_eq_true.mp z
  exact List.mem_map.mpr ⟨q, hq, of_decide_eq_true e⟩
/-- an instruction set as it stands -/
structure SetAt (C : Addr) (H : Hp) (p : Addr) (cnt : Nat) (it : Addr) (is : List I4) : Prop where
  ob : ∃ dx d1 d2, H p = some (.ins C dx (flds cnt it d1 d2)) ∧ H d1 = some (.dK (lenKV is)) ∧ H d2 = some (.dK (nameKV is))
theorem SetAt.same {C : Addr} {H H' : Hp} {p : Addr} {cnt : Nat} {it : Addr} {is : List I4} (h : SetAt C H p cnt it is) (s : Same H H') : SetAt C H' p cnt it is := by
  obtain ⟨dx, d1, d2, h1, h2, h3⟩ := h.ob
  exact ⟨dx, d1, d2, s _ _ h1, s _ _ h2, s _ _ h3⟩
/-- what the top says of the class -/
structure SetTxt (K : PySem.W.Frag) (mg : Str → Option Value) (C : Addr) : Prop where
  cl : Cls K C
  nB : NoAttr K C "byte_count"
  nI : NoAttr K C "instructions"
  nL : NoAttr K C "length_of_opcode"
  nO : NoAttr K C "opcode_of_name"
  mgC : mg "InstructionSet" = some (.ref C)
section
variable {P : Program} {w : World} {K : PySem.W.Frag} {mg : Str → Option Value} {base : Heap}
def spInitI (C : Addr) : Sp := fun vs H Q _ => ∃ (p dx : Addr) (cnt lg : Nat) (it : Addr) (rs : List Addr) (is : List I4), vs = [.ref p, .int (cnt : Int), .ref it] ∧ H p = some (.ins C dx []) ∧ H it = some (.tup (rs.map V.ref)) ∧ Rows H rs is ∧ TabOk cnt lg is ∧
  ∀ H', SetAt C H' p cnt it is → (∀ b o, H b = some o → b ≠ p → H' b = some o) → Q .non H'
theorem scInitI : FnScope ["self", "byte_count", "instructions", "opcode", "name", "length", "is_padding"] ["self", "byte_count", "instructions"] (defScope sInitI) := ⟨rfl, rfl, rfl, by decide +kernel, rfl, by decide +kernel, by decide +kernel⟩
theorem ok_initI {f fB fA C : Addr} {fd fdB fdA : FuncData} {k : Nat} (F : Fun K "__init__" "InstructionSet.__init__" sInitI f fd) (T : Bi mg) (S : SetTxt K mg C)
    (B : Def K mg "is_integer_between" sBetween fB fdB ["value", "least", "most"]) (GB : FnOk P w K mg base CX0 k fB fdB ["value", "least", "most"] spBetween)
    (A : Def K mg "are_instructions" sAreInstr fA fdA ["byte_count", "value"]) (GA : FnOk P w K mg base CX0 k fA fdA ["byte_count", "value"] spAreI)
    (m2 : ∃ t, mg "LEAST_BYTE_COUNT" = some (.int 2 t)) (m256 : ∃ t, mg "MOST_BYTE_COUNT" = some (.int 256 t)) : FnOk P w K mg base CX0 (k + 1) f fd ["self", "byte_count", "instructions"] (spInitI C) := by
  obtain ⟨t2, m2⟩ := m2
  obtain ⟨t256, m256⟩ := m256
  refine F.ok scInitI (fun vs H Q E h => ?_) (fun cdv A' outer s H vs Q E hr h => ?_)
  · obtain ⟨p, dx, cnt, lg, it, rs, is, rfl, _⟩ := h
    rfl
  · obtain ⟨p, dx, cnt, lg, it, rs, is, rfl, hp, hit, R, ok, q⟩ := h
    refine ⟨_, pss_cons (ps_if (pt_not (pt_val (pe_call GB hr (by rfl) B.gl B.fn.kp B.bi .nil pass0 (pa_cons (pv 1) (pa_cons (pe_glob (v := .int 2) (by rfl) m2 ⟨_, rfl⟩) (pa_cons (pe_glob (v := .int 256) (by rfl) m256 ⟨_, rfl⟩) pa_nil)))))) (pss_one ps_never) pss_nil)
      (pss_cons (ps_if (pt_not (pt_val (pe_call GA hr (by rfl) A.gl A.fn.kp A.bi .nil pass0 (pa_cons (pv 1) (pa_cons (pv 2) pa_nil))))) (pss_one ps_never) pss_nil)
      (pss_cons (ps_fld (pv 0) (pv 1) rfl)
      (pss_cons (ps_fld (pv 0) (pv 2) rfl)
      (pss_cons (ps_fld (pv 0) (pe_dc (own := [("opcode", 3), ("name", 4), ("length", 5), ("is_padding", 6)]) (g := gTup K 4 (gCons (gName 3) (gCons (gName 4) (gCons (gName 5) (gCons (gName 6) gNil))))) (tt := tYes) (by rfl) scInitI.nd (pi_tup (pv 2))
          (blkOk_by (own := [("opcode", 3), ("name", 4), ("length", 5), ("is_padding", 6)]) (N := ["self", "byte_count", "instructions", "opcode", "name", "length", "is_padding"]) (sc := defScope sInitI) (by decide +kernel))
          (fun _ _ _ _ _ => pg_tup rfl (pgs_cons (pg_name (i := 3) scInitI.nd rfl (Or.inl rfl)) (pgs_cons (pg_name (i := 4) scInitI.nd rfl (Or.inl rfl)) (pgs_cons (pg_name (i := 5) scInitI.nd rfl (Or.inl rfl)) (pgs_cons (pg_name (i := 6) scInitI.nd rfl (Or.inl rfl)) pgs_nil)))))
          (fun _ _ _ _ _ => pts_nil) (fun _ _ _ _ _ => pv 3) (fun _ _ _ _ _ => pv 5)) rfl)
      (pss_one (ps_fld (pv 0) (pe_dc (own := [("opcode", 3), ("name", 4), ("length", 5), ("is_padding", 6)]) (g := gTup K 4 (gCons (gName 3) (gCons (gName 4) (gCons (gName 5) (gCons (gName 6) gNil))))) (tt := tYes) (by rfl) scInitI.nd (pi_tup (pv 2))
          (blkOk_by (own := [("opcode", 3), ("name", 4), ("length", 5), ("is_padding", 6)]) (N := ["self", "byte_count", "instructions", "opcode", "name", "length", "is_padding"]) (sc := defScope sInitI) (by decide +kernel))
          (fun _ _ _ _ _ => pg_tup rfl (pgs_cons (pg_name (i := 3) scInitI.nd rfl (Or.inl rfl)) (pgs_cons (pg_name (i := 4) scInitI.nd rfl (Or.inl rfl)) (pgs_cons (pg_name (i := 5) scInitI.nd rfl (Or.inl rfl)) (pgs_cons (pg_name (i := 6) scInitI.nd rfl (Or.inl rfl)) pgs_nil)))))
          (fun _ _ _ _ _ => pts_nil) (fun _ _ _ _ _ => pv 4) (fun _ _ _ _ _ => pv 3)) rfl)))))), ?_⟩
    have cb := ok.cb
    have few := ok.few
    have rl := R.1
    refine ⟨_, rfl, _, _, _, rfl, by omega, by omega, _, rfl, iteF ?_⟩
    refine ⟨_, rfl, _, rfl, cnt, lg, it, rs, is, rfl, hit, R, ok, fun H1 s1 => ⟨_, rfl, iteF ?_⟩⟩
    have hp1 := s1 _ _ hp
    -- byte_count, instructions
    refine ⟨_, rfl, _, rfl, p, C, dx, [], rfl, hp1, S.cl, S.nB, (by show 0 < 1000; decide), ?_⟩
    refine ⟨_, rfl, _, rfl, p, C, dx, _, rfl, upd_same, S.cl, S.nI, (by show 1 < 1000; decide), ?_⟩
    generalize hH3 : upd (upd H1 p (HO.ins C dx (putF "byte_count" (V.int (cnt : Int)) []))) p (HO.ins C dx (putF "instructions" (V.ref it) (putF "byte_count" (V.int (cnt : Int)) []))) = H3
    have hp3 : H3 p = some (.ins C dx (putF "instructions" (V.ref it) (putF "byte_count" (V.int (cnt : Int)) []))) := by rw [← hH3]; exact upd_same
    have s3 : ∀ b o, H1 b = some o → b ≠ p → H3 b = some o := fun b o e n => by rw [← hH3, upd_ne n, upd_ne n]; exact e
    have itp : it ≠ p := fun z => by rw [z, hp] at hit; cases hit
    have hit3 := s3 _ _ (s1 _ _ hit) itp
    have R3 : Rows H3 rs is := ⟨R.1, fun i r x h1 h2 => s3 _ _ (s1 _ _ (R.2 i r x h1 h2)) fun z => by have := R.2 i r x h1 h2; rw [z, hp] at this; cases this⟩
    clear hH3
    -- lengths by opcodes
    have fresh1 : ∀ (i : Nat) (hi : i < is.length), (Sum.inl ((is[i]).op : Int) : Key) ∉ (lenKV (is.take i)).map (·.1) := fun i hi z => by
      unfold lenKV at z
      rw [List.map_map] at z
      obtain ⟨y, hy, e⟩ := List.mem_map.mp z
      obtain ⟨j, hj, ej⟩ := List.mem_take_iff_getElem.mp hy
      have e' : (y.op : Int) = ((is[i]).op : Int) := Sum.inl.inj e
      have h1 := List.pairwise_iff_getElem.mp ok.asc j i (by rw [List.length_map]; omega) (by rw [List.length_map]; exact hi) (by omega)
      rw [List.getElem_map, List.getElem_map, ej] at h1
      omega
    have fresh2 : ∀ (i : Nat) (hi : i < is.length), (Sum.inr (txt (is[i]).nm) : Key) ∉ (nameKV (is.take i)).map (·.1) := fun i hi z => by
      unfold nameKV at z
      rw [List.map_map] at z
      obtain ⟨y, hy, e⟩ := List.mem_map.mp z
      obtain ⟨j, hj, ej⟩ := List.mem_take_iff_getElem.mp hy
      have e' : txt y.nm = txt (is[i]).nm := Sum.inr.inj e
      have h1 := List.pairwise_iff_getElem.mp (List.nodup_iff_pairwise_ne.mp ok.nd) j i (by rw [List.length_map]; omega) (by rw [List.length_map]; exact hi) (by omega)
      rw [List.getElem_map, List.getElem_map, ej] at h1
      exact h1 (txt_inj e')
    refine ⟨_, rfl, it, rfl, ⟨_, SqT.of hit3⟩, fun D nD => dc_tup (K := K) (a := it) (xs := rs.map V.ref) (fun i H4 => Same H3 H4 ∧ H4 D = some (.dK (lenKV (is.take i)))) ⟨same_upd nD, upd_same⟩ (fun i H4 _ p => p.1.tup (SqT.of hit3)) ?_ ?_⟩
    · rintro i x H4 hx ⟨s4, hD⟩
      obtain ⟨hi, r, rfl, hr2, _⟩ := rows_at R3 hx
      refine ⟨r, _, rfl, SqT.of (s4 _ _ hr2), rfl, _, _, rfl, _, _, rfl, _, _, rfl, _, _, rfl, rfl, rfl, _, rfl, _, rfl, _, Sum.inl ((is[i]).op : Int), rfl, hD, ?_, fun b o e => ?_, ?_⟩
      · unfold lenKV
        rw [List.length_map, List.length_take]
        exact small1000 (by omega)
      · rw [upd_ne (ne_of_none e nD)]
        exact s4 b o e
      · rw [upd_same, put_fresh (fresh1 i hi), take_more (List.getElem?_eq_getElem hi)]
        unfold lenKV
        rw [List.map_append]
        rfl
    rintro H4 ⟨s4, hD⟩
    rw [List.length_map, rl, List.take_length] at hD
    have hDp : D ≠ p := (ne_of_none hp3 nD).symm
    refine ⟨_, rfl, p, C, dx, _, rfl, s4 _ _ hp3, S.cl, S.nL, (by show 2 < 1000; decide), ?_⟩
    generalize hH5 : upd H4 p (HO.ins C dx (putF "length_of_opcode" (V.ref D) (putF "instructions" (V.ref it) (putF "byte_count" (V.int (cnt : Int)) [])))) = H5
    have hp5 : H5 p = some (.ins C dx (putF "length_of_opcode" (V.ref D) (putF "instructions" (V.ref it) (putF "byte_count" (V.int (cnt : Int)) [])))) := by rw [← hH5]; exact upd_same
    have s5 : ∀ b o, H4 b = some o → b ≠ p → H5 b = some o := fun b o e n => by rw [← hH5, upd_ne n]; exact e
    have hD5 := s5 _ _ hD hDp
    have hit5 := s5 _ _ (s4 _ _ hit3) itp
    have R5 : Rows H5 rs is := ⟨R.1, fun i r x h1 h2 => s5 _ _ (s4 _ _ (R3.2 i r x h1 h2)) fun z => by have := R3.2 i r x h1 h2; rw [z, hp3] at this; cases this⟩
    clear hH5
    -- opcodes by names
    refine ⟨_, rfl, it, rfl, ⟨_, SqT.of hit5⟩, fun E2 nE => dc_tup (K := K) (a := it) (xs := rs.map V.ref) (fun i H6 => Same H5 H6 ∧ H6 E2 = some (.dK (nameKV (is.take i)))) ⟨same_upd nE, upd_same⟩ (fun i H6 _ p => p.1.tup (SqT.of hit5)) ?_ ?_⟩
    · rintro i x H6 hx ⟨s6, hE⟩
      obtain ⟨hi, r, rfl, hr2, _⟩ := rows_at R5 hx
      refine ⟨r, _, rfl, SqT.of (s6 _ _ hr2), rfl, _, _, rfl, _, _, rfl, _, _, rfl, _, _, rfl, rfl, rfl, _, rfl, _, rfl, _, Sum.inr (txt (is[i]).nm), rfl, hE, ?_, fun b o e => ?_, ?_⟩
      · unfold nameKV
        rw [List.length_map, List.length_take]
        exact small1000 (by omega)
      · rw [upd_ne (ne_of_none e nE)]
        exact s6 b o e
      · rw [upd_same, put_fresh (fresh2 i hi), take_more (List.getElem?_eq_getElem hi)]
        unfold nameKV
        rw [List.map_append]
        rfl
    rintro H6 ⟨s6, hE⟩
    rw [List.length_map, rl, List.take_length] at hE
    have hEp : E2 ≠ p := (ne_of_none hp5 nE).symm
    refine ⟨_, rfl, p, C, dx, _, rfl, s6 _ _ hp5, S.cl, S.nO, (by show 3 < 1000; decide), ?_⟩
    refine q _ ⟨dx, D, E2, upd_same, ?_, ?_⟩ fun b o e n => ?_
    · rw [upd_ne hDp]; exact s6 _ _ hD5
    · rw [upd_ne hEp]; exact hE
    · rw [upd_ne n]
      exact s6 _ _ (s5 _ _ (s4 _ _ (s3 _ _ (s1 _ _ e) n)) n)
end
end Ov
namespace Ov
open PySem PySem.Spec PyProof.Rows L2
/-- a part of the heap, and what was laid beside it -/
structure Grow (T H T' H' : Hp) : Prop where
  hh : Same H H'
  tt : Same T T'
  th : Same T' H'
  new : ∀ b, T b = none → H b ≠ none → T' b = none
theorem Grow.refl {T H : Hp} (h : Same T H) : Grow T H T H := ⟨Same.refl _, Same.refl _, h, fun _ e _ => e⟩
theorem Grow.put {T H T' H' : Hp} (g : Grow T H T' H') {p : Addr} (o : HO) (n : H' p = none) : Grow T H (upd T' p o) (upd H' p o) := by
  refine ⟨g.hh.trans (same_upd n), g.tt.trans (same_upd ?_), fun b x e => ?_, fun b e h => ?_⟩
  · cases q : T' p with
    | none => rfl
    | some x => rw [g.th _ _ q] at n; cases n
  · by_cases hb : b = p
    · subst hb
      rw [upd_same] at e ⊢
      exact e
    · rw [upd_ne hb] at e ⊢
      exact g.th _ _ e
  · by_cases hb : b = p
    · subst hb
      cases q : H b with
      | none => exact absurd q h
      | some x => rw [g.hh _ _ q] at n; cases n
    · rw [upd_ne hb]
      exact g.new b e h
theorem Grow.trans {T H T1 H1 T2 H2 : Hp} (a : Grow T H T1 H1) (b : Grow T1 H1 T2 H2) : Grow T H T2 H2 :=
  ⟨a.hh.trans b.hh, a.tt.trans b.tt, b.th, fun c e h => b.new c (a.new c e h) fun z => by
    cases q : H c with
    | none => exact h q
    | some x => rw [a.hh _ _ q] at z; cases z⟩
end Ov
namespace Ov
open PySem PySem.Spec PyProof.Rows L2
/-- what can be shown as a part -/
structure ShowsAll (ds : List PyData) (n : Nat) : Prop where
  sh : PyData.showableAll ds = true
  nl : PyData.hasDictAll ds = true → noListAll ds = true
  dep : PyData.depthAll ds ≤ 50
  nd : nodesAll ds ≤ n
theorem ShowsAll.tup {ds : List PyData} {n : Nat} (h : ShowsAll ds n) (hn : n ≤ 7999) : Shows (.tuple ds) :=
  ⟨by simp only [PyData.showable]; exact h.sh, fun z => by simp only [noList]; exact h.nl (by simpa only [PyData.hasDict] using z), by simp only [PyData.depth]; have := h.dep; omega, by simp only [nodes]; have := h.nd; omega⟩
theorem cut_to (k : Nat) (xs : List V) : cutV xs none (some (k : Int)) = xs.take k := by
  unfold cutV
  rw [show HT.sIx xs.length xs.length (some (k : Int)) = min k xs.length from HT.sIx_nat xs.length xs.length k, HT.sIx_none, List.drop_zero, Nat.sub_zero]
  rcases Nat.le_total k xs.length with c | c
  · rw [Nat.min_eq_left c]
  · rw [Nat.min_eq_right c, List.take_length, List.take_of_length_le c]
theorem cut_all {xs : List V} {lo hi : Option Int} (h : HT.sIx xs.length 0 lo = 0 ∧ HT.sIx xs.length xs.length hi = xs.length) : cutV xs lo hi = xs := by
  unfold cutV
  rw [h.1, h.2, List.drop_zero, Nat.sub_zero, List.take_length]
section
variable {K : PySem.W.Frag} {T H : Hp} {Q : VK}
theorem cut_x {a : Addr} {xs : List V} {lo hi : Option Int} (st : Same T H) (ha : SqT K T a xs) (q : ∀ l H' T', Grow T H T' H' → SqT K T' l (cutV xs lo hi) → Q (.ref l) H') : rSlA K (.ref a) lo hi H Q := by
  refine ⟨a, xs, rfl, st.tup ha, fun e => ?_, fun _ p np => ?_⟩
  · exact q a H T (.refl st) (by rw [cut_all e]; exact ha)
  · exact q p _ _ ((Grow.refl st).put _ np) (SqT.of upd_same)
end
end Ov
namespace Ov
open PySem PySem.Spec PyProof.Rows L2
theorem SetAt.but {C : Addr} {H H' : Hp} {x p : Addr} {cnt n : Nat} {it : Addr} {is : List I4} (h : SetAt C H x cnt it is) (b : But p H H') (B : BoxAt H p n) : SetAt C H' x cnt it is := by
  obtain ⟨dx, d1, d2, h1, h2, h3⟩ := h.ob
  obtain ⟨_, _, _, e, _⟩ := B
  refine ⟨dx, d1, d2, b _ _ h1 ?_, b _ _ h2 ?_, b _ _ h3 ?_⟩
  · intro z; rw [z, e] at h1; cases h1
  · intro z; rw [z, e] at h2; cases h2
  · intro z; rw [z, e] at h3; cases h3
end Ov
namespace Ov
open PySem PySem.Spec PyProof.Rows L2
abbrev sLongest : Stmt := inClass cInstructionSet 2
def lonOf (is : List I4) : Nat := (is.map I4.ln).foldl max 0
theorem fmax_ge : ∀ (l : List Nat) (a : Nat), a ≤ l.foldl max a ∧ ∀ x ∈ l, x ≤ l.foldl max a
  | [], a => ⟨Nat.le_refl _, fun _ h => nomatch h⟩
  | y :: l, a => by
    obtain ⟨h1, h2⟩ := fmax_ge l (max a y)
    refine ⟨Nat.le_trans (Nat.le_max_left _ _) h1, fun x hx => ?_⟩
    rcases List.mem_cons.mp hx with rfl | hx
    · exact Nat.le_trans (Nat.le_max_right _ _) h1
    · exact h2 x hx
theorem fmax_le : ∀ (l : List Nat) (a m : Nat), a ≤ m → (∀ x ∈ l, x ≤ m) → l.foldl max a ≤ m
  | [], a, m, h, _ => h
  | y :: l, a, m, h, hl => fmax_le l (max a y) m (Nat.max_le.mpr ⟨h, hl y List.mem_cons_self⟩) fun x hx => hl x (List.mem_cons_of_mem _ hx)
theorem lon_eq {is : List I4} {m : Int} (h1 : m ∈ is.map (fun x => (x.ln : Int))) (h2 : ∀ y ∈ is.map (fun x => (x.ln : Int)), y ≤ m) : m = (lonOf is : Int) := by
  obtain ⟨x, hx, rfl⟩ := List.mem_map.mp h1
  have g := (fmax_ge (is.map I4.ln) 0).2 x.ln (List.mem_map.mpr ⟨x, hx, rfl⟩)
  have l := fmax_le (is.map I4.ln) 0 x.ln (Nat.zero_le _) fun y hy => by
    obtain ⟨z, hz, rfl⟩ := List.mem_map.mp hy
    have := h2 (z.ln : Int) (List.mem_map.mpr ⟨z, hz, rfl⟩)
    omega
  unfold lonOf
  omega
theorem lon_le {cnt lg : Nat} {is : List I4} (ok : TabOk cnt lg is) : 1 ≤ lonOf is ∧ lonOf is ≤ 12 := by
  constructor
  · cases e : is with
    | nil => exact absurd e ok.ne
    | cons x r =>
      have h := (ok.len x (by rw [e]; exact List.mem_cons_self)).1
      have g := (fmax_ge ((x :: r).map I4.ln) 0).2 x.ln (List.mem_map.mpr ⟨x, List.mem_cons_self, rfl⟩)
      unfold lonOf
      omega
  · refine fmax_le (is.map I4.ln) 0 12 (by decide) fun y hy => ?_
    obtain ⟨z, hz, rfl⟩ := List.mem_map.mp hy
    have := (ok.len z hz).2
    have := ok.lb
    omega
/-- an instruction set with its rows -/
structure Mach (C : Addr) (H : Hp) (p : Addr) (cnt lg : Nat) (it : Addr) (is : List I4) (rs : List Addr) : Prop where
  at_ : SetAt C H p cnt it is
  its : H it = some (.tup (rs.map V.ref))
  rows : Rows H rs is
  ok : TabOk cnt lg is
theorem Mach.same {C : Addr} {H H' : Hp} {p : Addr} {cnt lg : Nat} {it : Addr} {is : List I4} {rs : List Addr} (h : Mach C H p cnt lg it is rs) (s : Same H H') : Mach C H' p cnt lg it is rs := ⟨h.at_.same s, s _ _ h.its, h.rows.same s, h.ok⟩
theorem Mach.but {C : Addr} {H H' : Hp} {x p : Addr} {cnt lg n : Nat} {it : Addr} {is : List I4} {rs : List Addr} (h : Mach C H x cnt lg it is rs) (b : But p H H') (B : BoxAt H p n) : Mach C H' x cnt lg it is rs := ⟨h.at_.but b B, b _ _ h.its (ne_box B h.its), h.rows.but b B, h.ok⟩
section
variable {P : Program} {w : World} {K : PySem.W.Frag} {mg : Str → Option Value} {base : Heap}
def spLongest (C : Addr) : Sp := fun vs H Q _ => ∃ (p it : Addr) (cnt lg : Nat) (is : List I4) (rs : List Addr), vs = [.ref p] ∧ Mach C H p cnt lg it is rs ∧ ∀ H', Same H H' → Q (.int (lonOf is : Int)) H'
theorem scLongest : FnScope ["self", "opcode", "name", "length", "is_padding"] ["self"] (defScope sLongest) := ⟨rfl, rfl, rfl, by decide +kernel, rfl, by decide +kernel, by decide +kernel⟩
theorem ok_longest {f C : Addr} {fd : FuncData} {k : Nat} (F : Fun K "longest" "InstructionSet.longest" sLongest f fd) (T : Bi mg) (S : SetTxt K mg C) : FnOk P w K mg base CX0 (k + 1) f fd ["self"] (spLongest C) := by
  refine F.ok scLongest (fun vs H Q E h => ?_) (fun cdv A' outer s H vs Q E hr h => ?_)
  · obtain ⟨p, it, cnt, lg, is, rs, rfl, _⟩ := h
    rfl
  · obtain ⟨p, it, cnt, lg, is, rs, rfl, M, q⟩ := h
    refine ⟨_, pss_one (ps_ret (pe_callB (cr_max rfl) (by rfl) T.max (by decide +kernel) (pa_cons (pe_lc (own := [("opcode", 1), ("name", 2), ("length", 3), ("is_padding", 4)]) (g := gTup K 4 (gCons (gName 1) (gCons (gName 2) (gCons (gName 3) (gCons (gName 4) gNil))))) (tt := tYes) (by rfl) scLongest.nd (pi_tup (pe_fld (pv 0) rfl))
          (blkOk_by (own := [("opcode", 1), ("name", 2), ("length", 3), ("is_padding", 4)]) (N := ["self", "opcode", "name", "length", "is_padding"]) (sc := defScope sLongest) (by decide +kernel))
          (fun _ _ _ _ _ => pg_tup rfl (pgs_cons (pg_name (i := 1) scLongest.nd rfl (Or.inl rfl)) (pgs_cons (pg_name (i := 2) scLongest.nd rfl (Or.inl rfl)) (pgs_cons (pg_name (i := 3) scLongest.nd rfl (Or.inl rfl)) (pgs_cons (pg_name (i := 4) scLongest.nd rfl (Or.inl rfl)) pgs_nil)))))
          (fun _ _ _ _ _ => pts_nil) (fun _ _ _ _ _ => pv 3)) pa_nil))), ?_⟩
    obtain ⟨dx, d1, d2, hp, h1, h2⟩ := M.at_.ob
    have hit := M.its
    have rl := M.rows.1
    have few := M.ok.few
    have ne : 0 < is.length := List.length_pos_iff.mpr M.ok.ne
    refine ⟨_, rfl, p, C, dx, _, _, rfl, hp, S.cl, S.nI, flds_its _ _ _ _, it, rfl, ⟨_, SqT.of hit⟩, fun D nD => lc_tup (K := K) (a := it) (xs := rs.map V.ref) (fun i H2 => Mk H H2 D (((is.take i).map fun x => (x.ln : Int)).map V.int)) (.start nD) (fun i H2 _ p => p.same.tup (SqT.of hit)) ?_ ?_⟩
    · intro i x H2 hx mk
      obtain ⟨hi, r, rfl, hr2, _⟩ := rows_at M.rows hx
      refine ⟨r, _, rfl, SqT.of (mk.same _ _ hr2), rfl, _, _, rfl, _, _, rfl, _, _, rfl, _, _, rfl, rfl, rfl, _, rfl, _, mk.at_, (by rw [List.length_map, List.length_map, List.length_take]; exact small1000 (by omega)), ?_⟩
      rw [take_more (List.getElem?_eq_getElem hi), List.map_append, List.map_append]
      exact mk.put (Same.refl _)
    intro H2 mk
    rw [List.length_map, rl, List.take_length] at mk
    refine ⟨D, _, rfl, SqL.of mk.at_, by rw [List.length_map]; exact ne, fun m m1 m2 => ?_⟩
    rw [lon_eq m1 m2]
    exact q H2 mk.same
end
theorem no_meth2 (cnt : Nat) (it d1 d2 : Addr) : (flds cnt it d1 d2).lookup ("longest" : Str) = none := by
  unfold flds
  rw [lookup_putF, if_neg (by decide +kernel), lookup_putF, if_neg (by decide +kernel), lookup_putF, if_neg (by decide +kernel), lookup_putF, if_neg (by decide +kernel)]
  rfl
end Ov
namespace Ov
open PySem PySem.Spec PyProof.Rows L2
abbrev sPadLens : Stmt := inClass cInstructionSet 3
theorem sc_tupI {w : World} {K : PySem.W.Frag} {a : Addr} {xs : List V} {g : TG} {tt : TT} {te : TE} {vs : List Nat} {σ : L2.St} {H1 : Hp} {D : Addr} {Qd : Hp → Prop} (Pv : Nat → Hp → Prop) (h0 : Pv 0 (upd H1 D (SetO w D (fun _ => false) 0))) (stays : ∀ i G, i ≤ xs.length → Pv i G → SqT K G a xs)
    (turn : ∀ i x G, xs[i]? = some x → Pv i G → TurnI w D g tt te (wipe σ vs) vs x G (Pv (i + 1))) (done : ∀ G, Pv xs.length G → Qd G) :
    ∃ W : Nat → Nat → Hp → Prop, (∃ m, W 0 m (upd H1 D (SetO w D (fun _ => false) 0))) ∧ ∀ i m G, W i m G → ((Itt K a).stop i G ∧ Qd G) ∨ ((Itt K a).go i G ∧ ∃ N : Hp → Prop, (∀ G', N G' → ∃ m', m' < m ∧ W (i + 1) m' G') ∧ ∀ x G', (Itt K a).yld i G x G' → TurnI w D g tt te (wipe σ vs) vs x G' N) := by
  refine ⟨fun i m G => m + i = xs.length ∧ Pv i G, ⟨xs.length, rfl, h0⟩, ?_⟩
  rintro i m G ⟨e, p⟩
  have st := stays i G (by omega) p
  rcases Nat.lt_or_ge i xs.length with lt | ge
  · refine .inr ⟨⟨xs, xs[i], st, List.getElem?_eq_getElem lt⟩, Pv (i + 1), fun G' p' => ⟨m - 1, by omega, by omega, p'⟩, ?_⟩
    rintro x G' ⟨rfl, y⟩
    exact turn i x _ (y xs st) p
  · obtain rfl : i = xs.length := by omega
    exact .inl ⟨⟨xs, st, Nat.le_refl _⟩, done G p⟩
structure PadL (is : List I4) (ns : List Int) : Prop where
  asc : ns.Pairwise (· < ·)
  mem : ∀ k : Int, k ∈ ns ↔ ∃ x ∈ is, x.pad = true ∧ (x.ln : Int) = k
theorem nodup_lenF : ∀ (L : Nat) (hs : List Nat), hs.Nodup → (∀ h ∈ hs, h < L) → hs.length ≤ L
  | 0, [], _, _ => Nat.le_refl _
  | 0, h :: _, _, b => absurd (b h List.mem_cons_self) (Nat.not_lt_zero _)
  | L + 1, hs, nd, b => by
    have ih := nodup_lenF L (hs.erase L) (nd.erase L) fun h hh => by
      have z := (nd.mem_erase_iff).mp hh
      have := b h z.2
      have := z.1
      omega
    by_cases m : L ∈ hs
    · rw [List.length_erase_of_mem m] at ih
      omega
    · rw [List.erase_of_not_mem m] at ih
      omega
theorem PadL.lens {cnt lg : Nat} {is : List I4} {ns : List Int} (ok : TabOk cnt lg is) (h : PadL is ns) (few : ns.length ≤ 50) : Lens ns :=
  ⟨few, fun n hn => by
    obtain ⟨x, hx, _, rfl⟩ := (h.mem n).mp hn
    have := ok.len x hx
    have := ok.lb
    omega, h.asc⟩
section
variable {P : Program} {w : World} {K : PySem.W.Frag} {mg : Str → Option Value} {base : Heap}
def spPadLens (C : Addr) : Sp := fun vs H Q _ => ∃ (p it : Addr) (cnt lg : Nat) (is : List I4) (rs : List Addr), vs = [.ref p] ∧ Mach C H p cnt lg it is rs ∧ ∀ H' r ns, Same H H' → H r = none → PadL is ns → ns.length ≤ 50 → H' r = some (.tup (ns.map V.int)) → Q (.ref r) H'
theorem scPadLens : FnScope ["self", "opcode", "name", "length", "is_padding"] ["self"] (defScope sPadLens) := ⟨rfl, rfl, rfl, by decide +kernel, rfl, by decide +kernel, by decide +kernel⟩
theorem ok_padLens {f C : Addr} {fd : FuncData} {k : Nat} (F : Fun K "padding_lengths" "InstructionSet.padding_lengths" sPadLens f fd) (T : Bi mg) (S : SetTxt K mg C) : FnOk P w K mg base CX0 (k + 1) f fd ["self"] (spPadLens C) := by
  refine F.ok scPadLens (fun vs H Q E h => ?_) (fun cdv A' outer s H vs Q E hr h => ?_)
  · obtain ⟨p, it, cnt, lg, is, rs, rfl, _⟩ := h
    rfl
  · obtain ⟨p, it, cnt, lg, is, rs, rfl, M, q⟩ := h
    refine ⟨_, pss_one (ps_ret (pe_callTy call_tuple_of (by rfl) T.tuple (by decide +kernel) (pa_cons (pe_callB (cr_sortedSet rfl) (by rfl) T.sorted (by decide +kernel) (pa_cons (pe_scI (own := [("opcode", 1), ("name", 2), ("length", 3), ("is_padding", 4)]) (g := gTup K 4 (gCons (gName 1) (gCons (gName 2) (gCons (gName 3) (gCons (gName 4) gNil))))) (by rfl) scPadLens.nd (pi_tup (pe_fld (pv 0) rfl))
          (blkOk_by (own := [("opcode", 1), ("name", 2), ("length", 3), ("is_padding", 4)]) (N := ["self", "opcode", "name", "length", "is_padding"]) (sc := defScope sPadLens) (by decide +kernel))
          (fun _ _ _ _ _ => pg_tup rfl (pgs_cons (pg_name (i := 1) scPadLens.nd rfl (Or.inl rfl)) (pgs_cons (pg_name (i := 2) scPadLens.nd rfl (Or.inl rfl)) (pgs_cons (pg_name (i := 3) scPadLens.nd rfl (Or.inl rfl)) (pgs_cons (pg_name (i := 4) scPadLens.nd rfl (Or.inl rfl)) pgs_nil)))))
          (fun _ _ _ _ _ => pts_one (pt_val (pv 4))) (fun _ _ _ _ _ => pv 3)) pa_nil)) pa_nil))), ?_⟩
    obtain ⟨dx, d1, d2, hp, h1, h2⟩ := M.at_.ob
    have hit := M.its
    have rl := M.rows.1
    have few := M.ok.few
    refine ⟨_, rfl, p, C, dx, _, _, rfl, hp, S.cl, S.nI, flds_its _ _ _ _, it, rfl, ⟨_, SqT.of hit⟩, fun D nD => sc_tupI (K := K) (a := it) (xs := rs.map V.ref) (fun i G => Same H G ∧ ∃ (Sx : Int → Bool) (ds : List Nat), G D = some (SetO w D Sx ds.length) ∧ ds.Nodup ∧ (∀ d ∈ ds, d < 13 ∧ Sx (d : Int) = true) ∧ ∀ k : Int, Sx k = true ↔ ∃ x ∈ is.take i, x.pad = true ∧ (x.ln : Int) = k) ?_ (fun i G _ p => p.1.tup (SqT.of hit)) ?_ ?_⟩
    · exact ⟨same_upd nD, fun _ => false, [], upd_same, List.nodup_nil, (fun _ z => nomatch z), fun k => ⟨fun z => (nomatch z), fun ⟨x, hx, _⟩ => by simp at hx⟩⟩
    · rintro i x G hx ⟨sG, Sx, ds, hD, nd, lt, mem⟩
      obtain ⟨hi, r, rfl, hr2, _⟩ := rows_at M.rows hx
      have dl : ds.length ≤ 13 := nodup_lenF 13 ds nd fun d hd => (lt d hd).1
      refine ⟨r, _, rfl, SqT.of (sG _ _ hr2), rfl, _, _, rfl, _, _, rfl, _, _, rfl, _, _, rfl, rfl, rfl, _, rfl, _, rfl, ?_⟩
      have more : ∀ y, y ∈ is.take (i + 1) ↔ y ∈ is.take i ∨ y = is[i] := fun y => by rw [take_more (List.getElem?_eq_getElem hi), List.mem_append, List.mem_singleton]
      have ln12 : (is[i]).ln < 13 := by
        have := M.ok.len _ (List.getElem_mem hi)
        have := M.ok.lb
        omega
      by_cases pd : (is[i]).pad = true
      · rw [pd]
        refine iteT ⟨_, rfl, ((is[i]).ln : Int), Sx, ds.length, rfl, hD, by show ds.length + 1 < 4096; omega, fun b o e => by rw [upd_ne (ne_of_none e nD)]; exact sG b o e, ?_⟩
        have mem2 : ∀ k : Int, (Sx k || decide (k = ((is[i]).ln : Int))) = true ↔ ∃ x ∈ is.take (i + 1), x.pad = true ∧ (x.ln : Int) = k := fun k => by
          rw [Bool.or_eq_true, mem k, decide_eq_true_eq]
          constructor
          · rintro (⟨x, h1, h2, h3⟩ | rfl)
            · exact ⟨x, (more x).mpr (.inl h1), h2, h3⟩
            · exact ⟨_, (more _).mpr (.inr rfl), pd, rfl⟩
          · rintro ⟨x, h1, h2, h3⟩
            rcases (more x).mp h1 with h | rfl
            · exact .inl ⟨x, h, h2, h3⟩
            · exact .inr h3.symm
        by_cases inS : Sx ((is[i]).ln : Int) = true
        · exact ⟨fun j => Sx j || decide (j = ((is[i]).ln : Int)), ds, by rw [upd_same, if_pos inS]; rfl, nd, fun d hd => ⟨(lt d hd).1, Bool.or_eq_true_iff.mpr (.inl (lt d hd).2)⟩, mem2⟩
        · have fresh : (is[i]).ln ∉ ds := fun z => inS (lt _ z).2
          refine ⟨fun j => Sx j || decide (j = ((is[i]).ln : Int)), ds ++ [(is[i]).ln], by rw [upd_same, if_neg inS, List.length_append]; rfl, ?_, fun d hd => ?_, mem2⟩
          · rw [List.nodup_append]
            exact ⟨nd, by simp, fun x hx y hy z => by rw [List.mem_singleton.mp hy] at z; exact fresh (z ▸ hx)⟩
          · rcases List.mem_append.mp hd with h | h
            · exact ⟨(lt d h).1, Bool.or_eq_true_iff.mpr (.inl (lt d h).2)⟩
            · rw [List.mem_singleton.mp h]
              exact ⟨ln12, Bool.or_eq_true_iff.mpr (.inr (decide_eq_true rfl))⟩
      · rw [Bool.not_eq_true] at pd
        rw [pd]
        refine iteF ⟨sG, Sx, ds, hD, nd, lt, fun k => ?_⟩
        rw [mem k]
        constructor
        · rintro ⟨x, h1, h2, h3⟩
          exact ⟨x, (more x).mpr (.inl h1), h2, h3⟩
        · rintro ⟨x, h1, h2, h3⟩
          rcases (more x).mp h1 with h | rfl
          · exact ⟨x, h, h2, h3⟩
          · rw [pd] at h2; cases h2
    · rintro G ⟨sG, Sx, ds, hD, nd, lt, mem⟩
      rw [List.length_map, rl, List.take_length] at mem
      have dl : ds.length ≤ 13 := nodup_lenF 13 ds nd fun d hd => (lt d hd).1
      refine ⟨D, Sx, ds.length, rfl, hD, by omega, fun ns lp asc mem' len np => ?_⟩
      refine ⟨lp, _, rfl, .inl ⟨SqL.of upd_same, fun r nr => ?_⟩⟩
      have s1 := same_upd (o := HO.lst (ns.map V.int)) np
      have s2 := same_upd (o := HO.tup (ns.map V.int)) nr
      have s12 := sG.trans s1
      exact q _ r ns (s12.trans s2) (s12.free nr) ⟨asc, fun k => (mem' k).trans (mem k)⟩ (by omega) upd_same
end
end Ov
namespace Ov
open PySem PySem.Spec PyProof.Rows L2
def reachI (a : List (Option Nat)) (t : Int) : Bool := if 0 ≤ t then reached a t.toNat else false
/-- countdowns that are valid -/
structure Cds (L : Nat) (cs : List Int) : Prop where
  low : ∀ c ∈ cs, 0 ≤ c ∧ c < (L : Int)
  asc : cs.Pairwise (· < ·)
  few : cs.length ≤ 1000
section
variable {P : Program} {w : World} {K : PySem.W.Frag} {mg : Str → Option Value} {base : Heap}
def spReachI : Sp := fun vs H Q _ => ∃ (p : Addr) (a : List (Option Nat)) (t : Int), vs = [.ref p, .int t] ∧ H p = some (.tup (a.map optV)) ∧ Q (.bl (reachI a t)) H
theorem ok_reachI {f : Addr} {fd : FuncData} {k : Nat} (F : Fun K "is_reached" "is_reached" sReached f fd) (T : Bi mg) : FnOk P w K mg base CX0 (k + 1) f fd ["least", "total"] spReachI := by
  refine F.ok scReached (fun vs H Q E h => ?_) (fun cdv A' outer s H vs Q E hr h => ?_)
  · obtain ⟨p, a, t, rfl, _⟩ := h
    rfl
  · obtain ⟨p, a, t, rfl, hp, q⟩ := h
    refine ⟨_, pss_cons (ps_if (pt_cmpR op_eq (pe_callB call_len_seq (by rfl) T.len PySem.boot_len (pa_cons (pv 0) pa_nil)) pe_int (nomark _)) (pss_one (ps_ret (pe_cmpR op_eq (pv 1) pe_int (nomark _)))) pss_nil)
      (pss_cons (ps_set (i := 2) scReached.nd rfl (.inl rfl) (pe_ix ix_tup (pv 0) (pe_op op_mod (pv 1) (pe_callB call_len_seq (by rfl) T.len PySem.boot_len (pa_cons (pv 0) pa_nil))) (fun _ _ => rfl)))
      (pss_one (ps_ret (pe_and (pe_cmpR op_notN (pv 2) pe_non (nomark _)) (pe_one (pe_cmpR op_le (pv 2) (pv 1) (nomark _))))))), ?_⟩
    refine ⟨_, rfl, p, _, rfl, .inr (SqT.of hp), rfl, _, rfl, ite2 (fun e => ?_) (fun e => ?_)⟩
    · have e0 : ((a.map optV).length : Int) = 0 := V.int.inj (of_decide_eq_true e)
      rw [List.length_map] at e0
      refine ⟨_, rfl, rfl, ?_⟩
      have e2 : reachI a t = decide (V.int t = V.int 0) := by
        unfold reachI reached
        by_cases h0 : t = 0
        · subst h0
          rw [if_pos (by decide), if_pos (by omega)]
          simp
        · rw [decide_eq_false (fun z => h0 (V.int.inj z))]
          by_cases h1 : 0 ≤ t
          · rw [if_pos h1, if_pos (by omega)]
            have : t.toNat ≠ 0 := by omega
            simpa using this
          · rw [if_neg h1]
      rw [e2] at q
      exact q
    · have e0 : a.length ≠ 0 := fun z => e (decide_eq_true (by rw [List.length_map, z]; rfl))
      have nn : 0 ≤ t % (a.length : Int) := Int.emod_nonneg _ (by omega)
      have ltm : t % (a.length : Int) < (a.length : Int) := Int.emod_lt_of_pos _ (by omega)
      obtain ⟨m, em⟩ : ∃ m : Nat, t % (a.length : Int) = (m : Int) := ⟨(t % (a.length : Int)).toNat, by omega⟩
      have hm : m < a.length := by omega
      have em2 : (t % (((a.map optV).length : Nat) : Int)) = (m : Int) := by rw [List.length_map]; exact em
      have same : 0 ≤ t → t.toNat % a.length = m := fun h => by
        have : ((t.toNat % a.length : Nat) : Int) = t % (a.length : Int) := by rw [Int.natCast_emod, Int.toNat_of_nonneg h]
        omega
      cases eo : a.getD m none with
      | none =>
        refine ⟨_, rfl, _, rfl, _, rfl, p, _, rfl, .inr (SqT.of hp), _, _, rfl, rfl, (by rw [List.length_map]; omega), p, _, _, _, rfl, rfl, SqT.of hp, (by rw [em2]; exact atI_nat (at_opt hm eo)), ?_⟩
        refine ⟨_, rfl, rfl, _, rfl, iteF ?_⟩
        have e2 : reachI a t = false := by
          unfold reachI reached
          by_cases h : 0 ≤ t
          · rw [if_pos h, if_neg e0, same h, eo]
          · rw [if_neg h]
        rw [e2] at q
        exact q
      | some x =>
        refine ⟨_, rfl, _, rfl, _, rfl, p, _, rfl, .inr (SqT.of hp), _, _, rfl, rfl, (by rw [List.length_map]; omega), p, _, _, _, rfl, rfl, SqT.of hp, (by rw [em2]; exact atI_nat (at_opt hm eo)), ?_⟩
        refine ⟨_, rfl, rfl, _, rfl, iteT ⟨_, rfl, _, rfl, _, _, rfl, rfl, ?_⟩⟩
        have e2 : reachI a t = decide ((x : Int) ≤ t) := by
          unfold reachI reached
          by_cases h : 0 ≤ t
          · rw [if_pos h, if_neg e0, same h, eo]
            by_cases c : x ≤ t.toNat
            · rw [decide_eq_true (show (x : Int) ≤ t by omega)]
              exact decide_eq_true c
            · rw [decide_eq_false (show ¬ (x : Int) ≤ t by omega)]
              exact decide_eq_false c
          · rw [if_neg h, decide_eq_false (by omega)]
        rw [e2] at q
        exact q
def hasF (a : List (Option Nat)) (cs : List Int) (n : Int) : Bool := cs.all fun c => reachI a (n - c)
def spHasF (K : PySem.W.Frag) : Sp := fun vs H Q _ => ∃ (l c : Addr) (a : List (Option Nat)) (cs : List Int) (n : Int), vs = [.ref l, .ref c, .int n] ∧ H l = some (.tup (a.map optV)) ∧ SqT K H c (cs.map V.int) ∧ cs.length ≤ 1000 ∧ ∀ H', Same H H' → Q (.bl (hasF a cs n)) H'
theorem scHasF : FnScope ["least", "countdowns", "length", "countdown"] ["least", "countdowns", "length"] (defScope s_has_filler) := ⟨rfl, rfl, rfl, by decide +kernel, rfl, by decide +kernel, by decide +kernel⟩
theorem ok_hasF {f fR : Addr} {fd fdR : FuncData} {k : Nat} (F : Fun K "has_filler" "has_filler" s_has_filler f fd) (T : Bi mg) (R : Def K mg "is_reached" sReached fR fdR ["least", "total"]) (GR : FnOk P w K mg base CX0 k fR fdR ["least", "total"] spReachI) :
    FnOk P w K mg base CX0 (k + 1) f fd ["least", "countdowns", "length"] (spHasF K) := by
  refine F.ok scHasF (fun vs H Q E h => ?_) (fun cdv A' outer s H vs Q E hr h => ?_)
  · obtain ⟨l, c, a, cs, n, rfl, _⟩ := h
    rfl
  · obtain ⟨l, c, a, cs, n, rfl, hl, hc, few, q⟩ := h
    refine ⟨_, pss_one (ps_ret (pe_callB (cr_all rfl) (by rfl) T.all (by decide +kernel) (pa_cons (pe_lc (own := [("countdown", 3)]) (g := gName 3) (tt := tYes) (by rfl) scHasF.nd (pi_tup (pv 1))
        (blkOk_by (own := [("countdown", 3)]) (N := ["least", "countdowns", "length", "countdown"]) (sc := defScope s_has_filler) (by decide +kernel))
        (fun _ _ _ _ _ => pg_name (i := 3) scHasF.nd rfl (Or.inl rfl)) (fun _ _ _ _ _ => pts_nil)
        (fun _ _ _ _ _ => pe_call GR hr (by rfl) R.gl R.fn.kp R.bi .nil pass0 (pa_cons (pv 0) (pa_cons (pe_op op_sub (pv 2) (pv 3)) pa_nil)))) pa_nil))), ?_⟩
    refine ⟨_, rfl, c, rfl, ⟨_, hc⟩, fun D nD => lc_tup (K := K) (a := c) (xs := cs.map V.int) (fun i H2 => Mk H H2 D (((cs.take i).map fun c => reachI a (n - c)).map V.bl)) (.start nD) (fun i H2 _ p => p.same.tup hc) ?_ ?_⟩
    · intro i x H2 hx mk
      rw [List.getElem?_map] at hx
      obtain ⟨cd, hcd, rfl⟩ := Option.map_eq_some_iff.mp hx
      have hi := (List.getElem?_eq_some_iff.mp hcd).1
      refine ⟨rfl, _, rfl, _, rfl, _, rfl, _, _, rfl, rfl, l, a, n - cd, rfl, mk.same _ _ hl, _, mk.at_, by rw [List.length_map, List.length_map, List.length_take]; exact small1000 (by omega), ?_⟩
      rw [take_more hcd, List.map_append, List.map_append]
      exact mk.put (Same.refl _)
    intro H2 mk
    refine ⟨D, _, rfl, SqL.of mk.at_, ?_⟩
    rw [List.length_map, List.take_length, List.all_map]
    exact q H2 mk.same
def spCong : Sp := fun vs H Q _ => ∃ (a b : Int) (d : Nat), vs = [.int a, .int b, .int (d : Int)] ∧ Q (.bl (congN d a b)) H
theorem scCong : FnScope ["first", "second", "divisor"] ["first", "second", "divisor"] (defScope s_are_congruent) := ⟨rfl, rfl, rfl, by decide +kernel, rfl, by decide +kernel, by decide +kernel⟩
theorem ok_cong {f : Addr} {fd : FuncData} {k : Nat} (F : Fun K "are_congruent" "are_congruent" s_are_congruent f fd) : FnOk P w K mg base CX0 (k + 1) f fd ["first", "second", "divisor"] spCong := by
  refine F.ok scCong (fun vs H Q E h => ?_) (fun cdv A' outer s H vs Q E hr h => ?_)
  · obtain ⟨a, b, d, rfl, _⟩ := h
    rfl
  · obtain ⟨a, b, d, rfl, q⟩ := h
    refine ⟨_, pss_cons (ps_if (pt_cmpR op_eq (pv 2) pe_int (nomark _)) (pss_one (ps_ret (pe_cmpR op_eq (pv 0) (pv 1) (nomark _)))) pss_nil)
      (pss_one (ps_ret (pe_cmpR op_eq (pe_op op_mod (pe_op op_sub (pv 1) (pv 0)) (pv 2)) pe_int (nomark _)))), ?_⟩
    refine ⟨_, rfl, rfl, _, rfl, ?_⟩
    unfold congN at q
    by_cases h : d = 0
    · subst h
      rw [decide_eq_true (show V.int ((0 : Nat) : Int) = V.int 0 from rfl)]
      rw [if_pos rfl] at q
      refine iteT ⟨_, rfl, _, rfl, rfl, ?_⟩
      rw [show decide (V.int a = V.int b) = decide (a = b) from decide_eq_decide.mpr ⟨fun z => V.int.inj z, fun z => by rw [z]⟩]
      exact q
    · rw [decide_eq_false (fun z => h (by have : (d : Int) = 0 := V.int.inj z; omega))]
      rw [if_neg h] at q
      refine iteF ⟨_, rfl, _, rfl, _, _, rfl, rfl, _, rfl, _, _, rfl, rfl, by omega, rfl, ?_⟩
      rw [show decide (V.int ((b - a) % (d : Int)) = V.int 0) = decide ((b - a) % (d : Int) = 0) from decide_eq_decide.mpr ⟨fun z => V.int.inj z, fun z => by rw [z]⟩]
      exact q
def spAreC (K : PySem.W.Frag) (C : Addr) : Sp := fun vs H Q _ => ∃ (p it c : Addr) (cnt lg : Nat) (is : List I4) (rs : List Addr) (cs : List Int), vs = [.ref p, .ref c] ∧ Mach C H p cnt lg it is rs ∧ SqT K H c (cs.map V.int) ∧ Cds (lonOf is) cs ∧ ∀ H', Same H H' → Q (.bl true) H'
theorem scAreC : FnScope ["instruction_set", "value", "greatest", "item"] ["instruction_set", "value"] (defScope s_are_countdowns) := ⟨rfl, rfl, rfl, by decide +kernel, rfl, by decide +kernel, by decide +kernel⟩
theorem ok_areC {f fB fA fL C : Addr} {fd fdB fdA fdL : FuncData} {k : Nat} (F : Fun K "are_countdowns" "are_countdowns" s_are_countdowns f fd) (T : Bi mg) (S : SetTxt K mg C)
    (B : Def K mg "is_integer_between" sBetween fB fdB ["value", "least", "most"]) (GB : FnOk P w K mg base CX0 k fB fdB ["value", "least", "most"] spBetween)
    (A : Def K mg "is_ascending" sAscending fA fdA ["numbers"]) (GA : FnOk P w K mg base CX0 k fA fdA ["numbers"] (spAscending K))
    (ML : Meth K C "longest" fL) (bL : Binds K fdL ["self"] []) (GL : FnOk P w K mg base CX0 k fL fdL ["self"] (spLongest C)) :
    FnOk P w K mg base CX0 (k + 1) f fd ["instruction_set", "value"] (spAreC K C) := by
  refine F.ok scAreC (fun vs H Q E h => ?_) (fun cdv A' outer s H vs Q E hr h => ?_)
  · obtain ⟨p, it, c, cnt, lg, is, rs, cs, rfl, _⟩ := h
    rfl
  · obtain ⟨p, it, c, cnt, lg, is, rs, cs, rfl, M, hc, hcs, q⟩ := h
    refine ⟨_, pss_cons (ps_if (pt_not (pt_val (pe_callB call_isi (by rfl) T.isi (by decide +kernel) (pa_cons (pv 1) (pa_cons (pe_bltn (v := .ty "tuple") (u := .type "tuple") (by rfl) T.tuple (by decide +kernel) rfl) pa_nil))))) (pss_one (ps_ret pe_bl)) pss_nil)
      (pss_cons (ps_set (i := 2) scAreC.nd rfl (.inr rfl) (pe_op op_sub (pe_meth0 (pv 0) S.cl ML GL hr bL .nil pass0) pe_int))
      (pss_one (ps_ret (pe_and (pe_callB (cr_all rfl) (by rfl) T.all (by decide +kernel) (pa_cons (pe_lc (own := [("item", 3)]) (g := gName 3) (tt := tYes) (by rfl) scAreC.nd (pi_tup (pv 1))
          (blkOk_by (own := [("item", 3)]) (N := ["instruction_set", "value", "greatest", "item"]) (sc := defScope s_are_countdowns) (by decide +kernel))
          (fun _ _ _ _ _ => pg_name (i := 3) scAreC.nd rfl (Or.inl rfl)) (fun _ _ _ _ _ => pts_nil)
          (fun _ _ _ _ _ => pe_call GB hr (by rfl) B.gl B.fn.kp B.bi .nil pass0 (pa_cons (pv 3) (pa_cons pe_int (pa_cons (pv 2) pa_nil))))) pa_nil))
        (pe_one (pe_call GA hr (by rfl) A.gl A.fn.kp A.bi .nil pass0 (pa_cons (pv 1) pa_nil))))))), ?_⟩
    have Dc : Dx K H (.ref c) (.tuple (cs.map PyData.int)) := .tup hc (dx_ints cs)
    obtain ⟨dx, d1, d2, hp, _, _⟩ := M.at_.ob
    refine ⟨_, rfl, _, _, _, _, _, rfl, .ty _, Dc.ty, kit_ty (kit_t _), _, rfl, iteF ?_⟩
    refine ⟨_, rfl, p, dx, _, rfl, hp, no_meth2 _ _ _ _, p, it, cnt, lg, is, rs, rfl, M, fun H1 s1 => ⟨_, _, rfl, rfl, ?_⟩⟩
    have hc1 := s1.tup hc
    refine ⟨_, rfl, c, rfl, ⟨_, hc1⟩, fun D nD => lc_tup (K := K) (a := c) (xs := cs.map V.int) (fun i H2 => Mk H1 H2 D ((List.replicate i true).map V.bl)) (.start nD) (fun i H2 _ p => p.same.tup hc1) ?_ ?_⟩
    · intro i x H2 hx mk
      rw [List.getElem?_map] at hx
      obtain ⟨cd, hcd, rfl⟩ := Option.map_eq_some_iff.mp hx
      have hi := (List.getElem?_eq_some_iff.mp hcd).1
      have lo := hcs.low cd (List.mem_of_getElem? hcd)
      have fw := hcs.few
      refine ⟨rfl, _, rfl, _, rfl, _, _, _, rfl, by omega, by omega, _, mk.at_, by rw [List.length_map, List.length_replicate]; exact small1000 (by omega), ?_⟩
      rw [List.replicate_succ', List.map_append]
      exact mk.put (Same.refl _)
    intro H2 mk
    refine ⟨D, _, rfl, SqL.of mk.at_, ?_⟩
    rw [all_true]
    have s2 := s1.trans mk.same
    exact ⟨_, rfl, iteT ⟨_, rfl, c, cs, rfl, s2.tup hc, hcs.few, hcs.asc, fun H3 s3 => q H3 (s2.trans s3)⟩⟩
def spChkC (K : PySem.W.Frag) (C : Addr) : Sp := fun vs H Q _ => ∃ (p it c : Addr) (cnt lg : Nat) (is : List I4) (rs : List Addr) (cs : List Int), vs = [.ref p, .ref c] ∧ Mach C H p cnt lg it is rs ∧ SqT K H c (cs.map V.int) ∧ Cds (lonOf is) cs ∧ ∀ H', Same H H' → Q .non H'
theorem scChkC : FnScope ["instruction_set", "countdowns"] ["instruction_set", "countdowns"] (defScope s_check_countdowns) := ⟨rfl, rfl, rfl, by decide +kernel, rfl, by decide +kernel, by decide +kernel⟩
theorem ok_chkC {f fA C : Addr} {fd fdA : FuncData} {k : Nat} (F : Fun K "check_countdowns" "check_countdowns" s_check_countdowns f fd)
    (A : Def K mg "are_countdowns" s_are_countdowns fA fdA ["instruction_set", "value"]) (GA : FnOk P w K mg base CX0 k fA fdA ["instruction_set", "value"] (spAreC K C)) :
    FnOk P w K mg base CX0 (k + 1) f fd ["instruction_set", "countdowns"] (spChkC K C) := by
  refine F.ok scChkC (fun vs H Q E h => ?_) (fun cdv A' outer s H vs Q E hr h => ?_)
  · obtain ⟨p, it, c, cnt, lg, is, rs, cs, rfl, _⟩ := h
    rfl
  · obtain ⟨p, it, c, cnt, lg, is, rs, cs, rfl, M, hc, hcs, q⟩ := h
    refine ⟨_, pss_one (ps_if (pt_not (pt_val (pe_call GA hr (by rfl) A.gl A.fn.kp A.bi .nil pass0 (pa_cons (pv 0) (pa_cons (pv 1) pa_nil))))) (pss_one ps_never) pss_nil), ?_⟩
    exact ⟨_, rfl, _, rfl, p, it, c, cnt, lg, is, rs, cs, rfl, M, hc, hcs, fun H1 s1 => ⟨_, rfl, iteF (q H1 s1)⟩⟩
end
end Ov
namespace Ov
open PySem PySem.Spec PyProof.Rows L2
theorem asc_ext : ∀ {l1 l2 : List Int}, l1.Pairwise (· < ·) → l2.Pairwise (· < ·) → (∀ k, k ∈ l1 ↔ k ∈ l2) → l1 = l2
  | [], [], _, _, _ => rfl
  | [], b :: _, _, _, h => absurd ((h b).mpr List.mem_cons_self) (by simp)
  | a :: _, [], _, _, h => absurd ((h a).mp List.mem_cons_self) (by simp)
  | a :: l1, b :: l2, p1, p2, h => by
    have q1 := List.pairwise_cons.mp p1
    have q2 := List.pairwise_cons.mp p2
    have e : a = b := by
      rcases List.mem_cons.mp ((h a).mp List.mem_cons_self) with z | z
      · exact z
      · rcases List.mem_cons.mp ((h b).mpr List.mem_cons_self) with w | w
        · exact w.symm
        · have := q1.1 b w
          have := q2.1 a z
          omega
    subst e
    refine congrArg _ (asc_ext q1.2 q2.2 fun k => ⟨fun hk => ?_, fun hk => ?_⟩)
    · rcases List.mem_cons.mp ((h k).mp (List.mem_cons_of_mem _ hk)) with z | z
      · have := q1.1 k hk; omega
      · exact z
    · rcases List.mem_cons.mp ((h k).mpr (List.mem_cons_of_mem _ hk)) with z | z
      · have := q2.1 k hk; omega
      · exact z
theorem PadL.uniq {is : List I4} {a b : List Int} (h1 : PadL is a) (h2 : PadL is b) : a = b := asc_ext h1.asc h2.asc fun k => (h1.mem k).trans (h2.mem k).symm
/-- all congruent to the first one -/
def NoConf (g : Nat) (cs : List Int) : Prop := ∀ s t, cs[0]? = some s → t ∈ cs.drop 1 → congN g s t = true
theorem lens_pos {ns : List Int} (h : Lens ns) : ∀ l ∈ ns.map Int.toNat, 0 < l := fun l hl => by
  obtain ⟨n, hn, rfl⟩ := List.mem_map.mp hl
  have := (h.low n hn).1
  omega
theorem hasF_iff {ns : List Int} (h : Lens ns) (cs : List Int) (n : Int) : hasF (leasts (ns.map Int.toNat)) cs n = true ↔ ∀ c ∈ cs, c ≤ n ∧ Sum (ns.map Int.toNat) (n - c).toNat := by
  unfold hasF
  rw [List.all_eq_true]
  refine ⟨fun z c hc => ?_, fun z c hc => ?_⟩
  · have w := z c hc
    unfold reachI at w
    by_cases p : 0 ≤ n - c
    · rw [if_pos p, isSum_iff _ (lens_pos h)] at w
      exact ⟨by omega, w⟩
    · rw [if_neg p] at w; cases w
  · unfold reachI
    obtain ⟨a, b⟩ := z c hc
    rw [if_pos (by omega), isSum_iff _ (lens_pos h)]
    exact b
theorem some_length {ns : List Int} {L : Nat} {cs : List Int} (h : Lens ns) (hc : Cds L cs) (nc : NoConf (gcdAll (ns.map Int.toNat)) cs) : ∃ W : Nat, hasF (leasts (ns.map Int.toNat)) cs (W : Int) = true := by
  cases cs with
  | nil => exact ⟨0, rfl⟩
  | cons c0 r =>
    obtain ⟨N, h1, h2, h3⟩ := far_fill (lens_pos h) (c0 := c0) (cs := r) (hc.low c0 List.mem_cons_self).1 (fun c hm => nc c0 c rfl hm)
    refine ⟨N, (hasF_iff h _ _).mpr fun c hm => ?_⟩
    rcases List.mem_cons.mp hm with rfl | hm
    · exact ⟨h1, h2⟩
    · exact h3 c hm
section
variable {P : Program} {w : World} {K : PySem.W.Frag} {mg : Str → Option Value} {base : Heap}
def ConfV (g : Nat) (cs : List Int) (H : Hp) (v : V) : Prop := (v = .non ∧ NoConf g cs) ∨ ∃ (r : Addr) (s t : Int) (i : Nat), v = .ref r ∧ H r = some (.tup [.int s, .int t]) ∧ cs[0]? = some s ∧ (cs.drop 1)[i]? = some t ∧ congN g s t = false ∧ ∀ u ∈ (cs.drop 1).take i, congN g s u = true
theorem ConfV.non {g : Nat} {cs : List Int} {H : Hp} {v : V} (h : ConfV g cs H v) : v = .non ↔ NoConf g cs := by
  rcases h with ⟨rfl, h⟩ | ⟨r, s, t, i, rfl, _, h0, h1, h2, _⟩
  · exact ⟨fun _ => h, fun _ => rfl⟩
  · exact ⟨(fun z => nomatch z), fun z => by rw [z s t h0 (List.mem_of_getElem? h1)] at h2; cases h2⟩
def spConf (K : PySem.W.Frag) (C : Addr) : Sp := fun vs H Q _ => ∃ (p it c : Addr) (cnt lg : Nat) (is : List I4) (rs : List Addr) (cs : List Int), vs = [.ref p, .ref c] ∧ Mach C H p cnt lg it is rs ∧ SqT K H c (cs.map V.int) ∧ Cds (lonOf is) cs ∧
  ∀ H' v ns, Same H H' → PadL is ns → Lens ns → ConfV (gcdAll (ns.map Int.toNat)) cs H' v → Q v H'
theorem scConf : FnScope ["instruction_set", "countdowns", "divisor", "other"] ["instruction_set", "countdowns"] (defScope s_conflict) := ⟨rfl, rfl, rfl, by decide +kernel, rfl, by decide +kernel, by decide +kernel⟩
theorem no_meth3 (cnt : Nat) (it d1 d2 : Addr) : (flds cnt it d1 d2).lookup ("padding_lengths" : Str) = none := by
  unfold flds
  rw [lookup_putF, if_neg (by decide +kernel), lookup_putF, if_neg (by decide +kernel), lookup_putF, if_neg (by decide +kernel), lookup_putF, if_neg (by decide +kernel)]
  rfl
theorem ok_conf {f fC fP fG fE C : Addr} {fd fdC fdP fdG fdE : FuncData} {k : Nat} (F : Fun K "conflict" "conflict" s_conflict f fd) (S : SetTxt K mg C)
    (Ch : Def K mg "check_countdowns" s_check_countdowns fC fdC ["instruction_set", "countdowns"]) (GC : FnOk P w K mg base CX0 k fC fdC ["instruction_set", "countdowns"] (spChkC K C))
    (MP : Meth K C "padding_lengths" fP) (bP : Binds K fdP ["self"] []) (GP : FnOk P w K mg base CX0 k fP fdP ["self"] (spPadLens C))
    (Co : Def K mg "common_divisor" sCommon fG fdG ["lengths"]) (GG : FnOk P w K mg base CX0 k fG fdG ["lengths"] spCommon)
    (Cg : Def K mg "are_congruent" s_are_congruent fE fdE ["first", "second", "divisor"]) (GE : FnOk P w K mg base CX0 k fE fdE ["first", "second", "divisor"] spCong) :
    FnOk P w K mg base CX0 (k + 1) f fd ["instruction_set", "countdowns"] (spConf K C) := by
  refine F.ok scConf (fun vs H Q E h => ?_) (fun cdv A' outer s H vs Q E hr h => ?_)
  · obtain ⟨p, it, c, cnt, lg, is, rs, cs, rfl, _⟩ := h
    rfl
  · obtain ⟨p, it, c, cnt, lg, is, rs, cs, rfl, M, hc, hcs, q⟩ := h
    refine ⟨_, pss_cons (ps_expr (pe_call GC hr (by rfl) Ch.gl Ch.fn.kp Ch.bi .nil pass0 (pa_cons (pv 0) (pa_cons (pv 1) pa_nil))))
      (pss_cons (ps_set (i := 2) scConf.nd rfl (.inl rfl) (pe_call GG hr (by rfl) Co.gl Co.fn.kp Co.bi .nil pass0 (pa_cons (pe_meth0 (pv 0) S.cl MP GP hr bP .nil pass0) pa_nil)))
      (pss_cons (ps_for PassesOwn.never rfl (pi_tup (pe_slice sl_tupA (pv 1) (po_some pe_int) po_none)) (pg_name (i := 3) scConf.nd rfl (.inl rfl))
        (pss_one (ps_if (pt_not (pt_val (pe_call GE hr (by rfl) Cg.gl Cg.fn.kp Cg.bi .nil pass0 (pa_cons (pe_ix ix_tup (pv 1) pe_int (fun _ _ => rfl)) (pa_cons (pv 3) (pa_cons (pv 2) pa_nil)))))) (pss_one (ps_ret (pe_tup (pa_cons (pe_ix ix_tup (pv 1) pe_int (fun _ _ => rfl)) (pa_cons (pv 3) pa_nil))))) pss_nil)))
      (pss_one (ps_ret pe_non)))), ?_⟩
    refine ⟨_, rfl, _, rfl, p, it, c, cnt, lg, is, rs, cs, rfl, M, hc, hcs, fun H1 s1 => ?_⟩
    have M1 := M.same s1
    obtain ⟨dx, d1, d2, hp, _, _⟩ := M1.at_.ob
    refine ⟨_, rfl, p, dx, _, rfl, hp, no_meth3 _ _ _ _, p, it, cnt, lg, is, rs, rfl, M1, fun H2 r2 ns s2 nr2 PL few hr2 => ?_⟩
    have Ln := PL.lens M.ok few
    refine ⟨r2, ns, rfl, hr2, Ln, fun H3 s3 => ?_⟩
    have s03 := s1.trans (s2.trans s3)
    have hc3 := s03.tup hc
    refine ⟨_, rfl, _, rfl, ?_⟩
    delta tNoPart
    refine cut_x (Same.refl H3) hc3 fun d H4 T4 g S4 => ?_
    rw [cut1, ← List.map_drop] at S4
    have hd4 := g.th.tup S4
    have hc4 := g.hh.tup hc3
    have s04 := s03.trans g.hh
    generalize hgg : gcdAll (ns.map Int.toNat) = gg at *
    refine ⟨d, rfl, ⟨_, hd4⟩, for_tup (K := K) (a := d) (xs := (cs.drop 1).map V.int) (fun i σ H5 => H5 = H4 ∧ (∀ s, cs[0]? = some s → ∀ u ∈ (cs.drop 1).take i, congN gg s u = true) ∧ ∃ y3, σ = [some (.ref p), some (.ref c), some (.int (gg : Int)), y3]) ⟨rfl, (fun _ _ u hu => by simp at hu), _, rfl⟩ (fun i σ H5 _ ⟨e, _⟩ => by rw [e]; exact hd4) ?_ ?_⟩
    · rintro i x σ H5 hx ⟨rfl, no, y3, rfl⟩
      rw [List.getElem?_map] at hx
      obtain ⟨t, ht, rfl⟩ := Option.map_eq_some_iff.mp hx
      cases cs with
      | nil => simp at ht
      | cons s0 r =>
        have iv : atI ((s0 :: r).map V.int) 0 = some (.int s0) := atI_nat (j := 0) rfl
        refine ⟨_, rfl, c, _, _, _, rfl, rfl, hc4, iv, _, rfl, _, rfl, s0, t, gg, rfl, _, rfl, ?_⟩
        cases e : congN gg s0 t with
        | true =>
          refine iteF ⟨rfl, fun s1' hs u hu => ?_, _, rfl⟩
          rw [take_more ht] at hu
          cases (Option.some.inj hs)
          rcases List.mem_append.mp hu with z | z
          · exact no s0 rfl u z
          · rw [List.mem_singleton.mp z]; exact e
        | false =>
          refine iteT ⟨_, rfl, c, _, _, _, rfl, rfl, hc4, iv, _, rfl, by show 2 ≤ sizeLine; decide, fun r9 nr9 => ?_⟩
          exact q _ _ ns (s04.trans (same_upd nr9)) PL Ln (by rw [hgg]; exact .inr ⟨r9, s0, t, i, rfl, upd_same, rfl, ht, e, no s0 rfl⟩)
    · rintro σ H5 ⟨rfl, no, y3, rfl⟩
      rw [List.length_map, List.take_length] at no
      exact q _ _ ns s04 PL Ln (by rw [hgg]; exact .inl ⟨rfl, fun s t hs ht => no s hs t ht⟩)
def spFLen (K : PySem.W.Frag) (C : Addr) : Sp := fun vs H Q _ => ∃ (p it c : Addr) (cnt lg : Nat) (is : List I4) (rs : List Addr) (cs : List Int), vs = [.ref p, .ref c] ∧ Mach C H p cnt lg it is rs ∧ SqT K H c (cs.map V.int) ∧ Cds (lonOf is) cs ∧
  ∀ H' v ns, Same H H' → PadL is ns → Lens ns → ((v = .non ∧ ¬ NoConf (gcdAll (ns.map Int.toNat)) cs) ∨ ∃ n : Nat, v = .int (n : Int) ∧ NoConf (gcdAll (ns.map Int.toNat)) cs ∧ hasF (leasts (ns.map Int.toNat)) cs (n : Int) = true ∧ ∀ m : Nat, m < n → hasF (leasts (ns.map Int.toNat)) cs (m : Int) = false) → Q v H'
theorem scFLen : FnScope ["instruction_set", "countdowns", "least", "length"] ["instruction_set", "countdowns"] (defScope s_filler_length) := ⟨rfl, rfl, rfl, by decide +kernel, rfl, by decide +kernel, by decide +kernel⟩
def lenOf (W : Nat) (σ : L2.St) : Nat := match σ with
  | [_, _, _, some (.int l)] => W - l.toNat
  | _ => 0
theorem ok_fLen {f fC fP fS fH C : Addr} {fd fdC fdP fdS fdH : FuncData} {k : Nat} (F : Fun K "filler_length" "filler_length" s_filler_length f fd) (S : SetTxt K mg C)
    (Cf : Def K mg "conflict" s_conflict fC fdC ["instruction_set", "countdowns"]) (GC : FnOk P w K mg base CX0 k fC fdC ["instruction_set", "countdowns"] (spConf K C))
    (MP : Meth K C "padding_lengths" fP) (bP : Binds K fdP ["self"] []) (GP : FnOk P w K mg base CX0 k fP fdP ["self"] (spPadLens C))
    (Ls : Def K mg "least_sums" sLeast fS fdS ["lengths"]) (GS : FnOk P w K mg base CX0 k fS fdS ["lengths"] spLeast)
    (Hf : Def K mg "has_filler" s_has_filler fH fdH ["least", "countdowns", "length"]) (GH : FnOk P w K mg base CX0 k fH fdH ["least", "countdowns", "length"] (spHasF K)) :
    FnOk P w K mg base CX0 (k + 1) f fd ["instruction_set", "countdowns"] (spFLen K C) := by
  refine F.ok scFLen (fun vs H Q E h => ?_) (fun cdv A' outer s H vs Q E hr h => ?_)
  · obtain ⟨p, it, c, cnt, lg, is, rs, cs, rfl, _⟩ := h
    rfl
  · obtain ⟨p, it, c, cnt, lg, is, rs, cs, rfl, M, hc, hcs, q⟩ := h
    refine ⟨_, pss_cons (ps_if (pt_cmpR op_notN (pe_call GC hr (by rfl) Cf.gl Cf.fn.kp Cf.bi .nil pass0 (pa_cons (pv 0) (pa_cons (pv 1) pa_nil))) pe_non (nomark _)) (pss_one (ps_ret pe_non)) pss_nil)
      (pss_cons (ps_set (i := 2) scFLen.nd rfl (.inl rfl) (pe_call GS hr (by rfl) Ls.gl Ls.fn.kp Ls.bi .nil pass0 (pa_cons (pe_meth0 (pv 0) S.cl MP GP hr bP .nil pass0) pa_nil)))
      (pss_cons (ps_set (i := 3) scFLen.nd rfl (.inl rfl) pe_int)
      (pss_cons (ps_while PassesOwn.never (pt_not (pt_val (pe_call GH hr (by rfl) Hf.gl Hf.fn.kp Hf.bi .nil pass0 (pa_cons (pv 2) (pa_cons (pv 1) (pa_cons (pv 3) pa_nil)))))) (pss_one (ps_aug (i := 3) scFLen.nd rfl (.inl rfl) pe_int ip_add)))
      (pss_one (ps_ret (pv 3)))))), ?_⟩
    refine ⟨_, rfl, _, rfl, p, it, c, cnt, lg, is, rs, cs, rfl, M, hc, hcs, fun H1 v ns s1 PL Ln cv => ?_⟩
    refine ⟨rfl, _, rfl, ?_⟩
    by_cases nc : NoConf (gcdAll (ns.map Int.toNat)) cs
    · have ev := cv.non.mpr nc
      rw [decide_eq_true ev]
      have M1 := M.same s1
      obtain ⟨dx, d1, d2, hp, _, _⟩ := M1.at_.ob
      refine iteF ⟨_, rfl, p, dx, _, rfl, hp, no_meth3 _ _ _ _, p, it, cnt, lg, is, rs, rfl, M1, fun H2 r2 ns2 s2 nr2 PL2 few hr2 => ?_⟩
      have en := PL2.uniq PL
      subst en
      refine ⟨r2, ns2, rfl, hr2, Ln, fun H3 l3 s3 nl3 hl3 => ?_⟩
      have s03 := s1.trans (s2.trans s3)
      obtain ⟨W, hW⟩ := some_length Ln hcs nc
      refine while_by (fun σ H4 => ∃ l : Nat, σ = [some (.ref p), some (.ref c), some (.ref l3), some (.int (l : Int))] ∧ Same H3 H4 ∧ l ≤ W ∧ ∀ m : Nat, m < l → hasF (leasts (ns2.map Int.toNat)) cs (m : Int) = false) (fun σ _ => lenOf W σ) ⟨0, rfl, Same.refl _, Nat.zero_le _, fun m hm => absurd hm (Nat.not_lt_zero _)⟩ ?_ ?_
      · rintro σ H4 ⟨l, rfl, s4, lW, no⟩
        refine ⟨_, rfl, _, rfl, _, rfl, l3, c, _, cs, (l : Int), rfl, s4 _ _ hl3, (s03.trans s4).tup hc, hcs.few, fun H5 s5 => ⟨_, rfl, ?_⟩⟩
        cases e : hasF (leasts (ns2.map Int.toNat)) cs (l : Int) with
        | true => exact iteF ⟨_, rfl, q H5 _ ns2 (s03.trans (s4.trans s5)) PL Ln (.inr ⟨l, rfl, nc, e, no⟩)⟩
        | false =>
          have ne : l ≠ W := fun z => by rw [z, hW] at e; cases e
          refine iteT ⟨_, rfl, _, _, rfl, rfl, ⟨l + 1, rfl, s4.trans s5, by omega, fun m hm => ?_⟩, ?_⟩
          · by_cases z : m = l
            · rw [z]; exact e
            · exact no m (by omega)
          · show W - ((l : Int) + 1).toNat < W - ((l : Int)).toNat
            omega
      · rintro σ H4 Q1 Q2 hQ ⟨v1, e1, v2, e2, v3, e3, l', c', a', cs', n', e4, e5, e6, e7, h8⟩
        refine ⟨v1, e1, v2, e2, v3, e3, l', c', a', cs', n', e4, e5, e6, e7, fun H' s' => ?_⟩
        obtain ⟨b, eb, z⟩ := h8 H' s'
        exact ⟨b, eb, hQ _ _ z⟩
    · have ev : v ≠ .non := fun z => nc (cv.non.mp z)
      rw [decide_eq_false ev]
      exact iteT (q H1 _ ns s1 PL Ln (.inl ⟨rfl, nc⟩))
end
end Ov
namespace Ov
open PySem PySem.Spec PyProof.Rows L2
def pads (is : List I4) : List (Nat × Nat) := (is.filter I4.pad).map fun x => (x.op, x.ln)
def qV (q : Nat × Nat) : List V := [.int (q.1 : Int), .int (q.2 : Int)]
def PadP (H : Hp) (ps : List Addr) (qs : List (Nat × Nat)) : Prop := ps.length = qs.length ∧ ∀ (i : Nat) (a : Addr) (q : Nat × Nat), ps[i]? = some a → qs[i]? = some q → H a = some (.tup (qV q))
theorem PadP.same {H H' : Hp} {ps : List Addr} {qs : List (Nat × Nat)} (h : PadP H ps qs) (s : Same H H') : PadP H' ps qs := ⟨h.1, fun i a q h1 h2 => s _ _ (h.2 i a q h1 h2)⟩
theorem PadP.but {H H' : Hp} {D : Addr} {xs : List V} {ps : List Addr} {qs : List (Nat × Nat)} (h : PadP H ps qs) (b : But D H H') (hD : H D = some (.lst xs)) : PadP H' ps qs :=
  ⟨h.1, fun i a q h1 h2 => b _ _ (h.2 i a q h1 h2) fun z => by have := h.2 i a q h1 h2; rw [z, hD] at this; cases this⟩
theorem PadP.nil {H : Hp} : PadP H [] [] := ⟨rfl, fun i a m h => by simp at h⟩
theorem PadP.more {H : Hp} {ps : List Addr} {qs : List (Nat × Nat)} {a : Addr} {q : Nat × Nat} (h : PadP H ps qs) (ha : H a = some (.tup (qV q))) : PadP H (ps ++ [a]) (qs ++ [q]) := by
  refine ⟨by rw [List.length_append, List.length_append, h.1]; rfl, fun i b x h1 h2 => ?_⟩
  by_cases c : i < ps.length
  · rw [List.getElem?_append_left c] at h1
    rw [List.getElem?_append_left (by rw [← h.1]; exact c)] at h2
    exact h.2 i b x h1 h2
  · have hl := (List.getElem?_eq_some_iff.mp h1).1
    rw [List.length_append, List.length_singleton] at hl
    have e : i = ps.length := by omega
    subst e
    rw [List.getElem?_append_right (Nat.le_refl _), Nat.sub_self] at h1
    rw [h.1, List.getElem?_append_right (Nat.le_refl _), Nat.sub_self] at h2
    have e1 : a = b := Option.some.inj h1
    have e2 : q = x := Option.some.inj h2
    subst e1 e2
    exact ha
section
variable {P : Program} {w : World} {K : PySem.W.Frag} {mg : Str → Option Value} {base : Heap}
def spPadI (C : Addr) : Sp := fun vs H Q _ => ∃ (p it : Addr) (cnt lg : Nat) (is : List I4) (rs : List Addr), vs = [.ref p] ∧ Mach C H p cnt lg it is rs ∧ ∀ H' r ps, Same H H' → H r = none → H' r = some (.lst (ps.map V.ref)) → PadP H' ps (pads is) → Q (.ref r) H'
theorem scPadI : FnScope ["instruction_set", "opcode", "name", "length", "is_padding"] ["instruction_set"] (defScope s_padding_instructions) := ⟨rfl, rfl, rfl, by decide +kernel, rfl, by decide +kernel, by decide +kernel⟩
theorem ok_padI {f C : Addr} {fd : FuncData} {k : Nat} (F : Fun K "padding_instructions" "padding_instructions" s_padding_instructions f fd) (S : SetTxt K mg C) : FnOk P w K mg base CX0 (k + 1) f fd ["instruction_set"] (spPadI C) := by
  refine F.ok scPadI (fun vs H Q E h => ?_) (fun cdv A' outer s H vs Q E hr h => ?_)
  · obtain ⟨p, it, cnt, lg, is, rs, rfl, _⟩ := h
    rfl
  · obtain ⟨p, it, cnt, lg, is, rs, rfl, M, q⟩ := h
    refine ⟨_, pss_one (ps_ret (pe_lc (own := [("opcode", 1), ("name", 2), ("length", 3), ("is_padding", 4)]) (g := gTup K 4 (gCons (gName 1) (gCons (gName 2) (gCons (gName 3) (gCons (gName 4) gNil))))) (by rfl) scPadI.nd (pi_tup (pe_fld (pv 0) rfl))
          (blkOk_by (own := [("opcode", 1), ("name", 2), ("length", 3), ("is_padding", 4)]) (N := ["instruction_set", "opcode", "name", "length", "is_padding"]) (sc := defScope s_padding_instructions) (by decide +kernel))
          (fun _ _ _ _ _ => pg_tup rfl (pgs_cons (pg_name (i := 1) scPadI.nd rfl (Or.inl rfl)) (pgs_cons (pg_name (i := 2) scPadI.nd rfl (Or.inl rfl)) (pgs_cons (pg_name (i := 3) scPadI.nd rfl (Or.inl rfl)) (pgs_cons (pg_name (i := 4) scPadI.nd rfl (Or.inl rfl)) pgs_nil)))))
          (fun _ _ _ _ _ => pts_one (pt_val (pv 4))) (fun _ _ _ _ _ => pe_tup (pa_cons (pv 1) (pa_cons (pv 3) pa_nil))))), ?_⟩
    obtain ⟨dx, d1, d2, hp, _, _⟩ := M.at_.ob
    have hit := M.its
    have rl := M.rows.1
    have few := M.ok.few
    refine ⟨_, rfl, p, C, dx, _, _, rfl, hp, S.cl, S.nI, flds_its _ _ _ _, it, rfl, ⟨_, SqT.of hit⟩, fun D nD => lc_tup (K := K) (a := it) (xs := rs.map V.ref) (fun i G => ∃ ps, Mk H G D (ps.map V.ref) ∧ PadP G ps (pads (is.take i))) ⟨[], .start nD, PadP.nil⟩ (fun i G _ ⟨_, mk, _⟩ => mk.same.tup (SqT.of hit)) ?_ ?_⟩
    · rintro i x G hx ⟨ps, mk, pp⟩
      obtain ⟨hi, r, rfl, hr2, _⟩ := rows_at M.rows hx
      have pl : ps.length ≤ 72 := by
        rw [pp.1]
        unfold pads
        rw [List.length_map]
        refine Nat.le_trans (List.length_filter_le _ _) ?_
        rw [List.length_take]
        omega
      refine ⟨r, _, rfl, SqT.of (mk.same _ _ hr2), rfl, _, _, rfl, _, _, rfl, _, _, rfl, _, _, rfl, rfl, rfl, _, rfl, _, rfl, ?_⟩
      have tm := take_more (List.getElem?_eq_getElem hi)
      by_cases pd : (is[i]).pad = true
      · have ep : pads (is.take (i + 1)) = pads (is.take i) ++ [((is[i]).op, (is[i]).ln)] := by
          unfold pads
          rw [tm, List.filter_append, List.map_append, List.filter_cons_of_pos pd]
          rfl
        rw [pd]
        refine iteT ⟨_, rfl, _, rfl, by show 2 ≤ sizeLine; decide, fun b nb => ?_⟩
        have sb := same_upd (o := HO.tup [V.int ((is[i]).op : Int), V.int ((is[i]).ln : Int)]) nb
        refine ⟨_, sb _ _ mk.at_, by rw [List.length_map, sizeLine_eq]; omega, ps ++ [b], by rw [List.map_append]; exact mk.put sb, ?_⟩
        rw [ep]
        exact ((pp.same sb).more upd_same).but (D := D) (fun c o e n => by rw [upd_ne n]; exact e) (sb _ _ mk.at_)
      · have ep : pads (is.take (i + 1)) = pads (is.take i) := by
          unfold pads
          rw [tm, List.filter_append, List.filter_cons_of_neg pd, List.filter_nil, List.append_nil]
        rw [Bool.not_eq_true] at pd
        rw [pd]
        exact iteF ⟨ps, mk, by rw [ep]; exact pp⟩
    · rintro G ⟨ps, mk, pp⟩
      rw [List.length_map, rl, List.take_length] at pp
      exact q _ D ps mk.same nD mk.at_ pp
def spFirst : Sp := fun vs H Q _ => ∃ (pa la : Addr) (ps : List Addr) (qs : List (Nat × Nat)) (a : List (Option Nat)) (n : Int) (j0 : Nat) (q0 : Nat × Nat), vs = [.ref pa, .ref la, .int n] ∧ H pa = some (.lst (ps.map V.ref)) ∧ PadP H ps qs ∧ H la = some (.tup (a.map optV)) ∧ qs[j0]? = some q0 ∧ reachI a (n - (q0.2 : Int)) = true ∧
  ∀ (r : Addr) (i : Nat) (q1 : Nat × Nat), qs[i]? = some q1 → reachI a (n - (q1.2 : Int)) = true → (∀ (j : Nat) (q2 : Nat × Nat), j < i → qs[j]? = some q2 → reachI a (n - (q2.2 : Int)) = false) → H r = some (.tup (qV q1)) → Q (.ref r) H
theorem scFirst : FnScope ["padding", "least", "left", "at"] ["padding", "least", "left"] (defScope s_first_fitting) := ⟨rfl, rfl, rfl, by decide +kernel, rfl, by decide +kernel, by decide +kernel⟩
theorem ok_first {f fR : Addr} {fd fdR : FuncData} {k : Nat} (F : Fun K "first_fitting" "first_fitting" s_first_fitting f fd) (R : Def K mg "is_reached" sReached fR fdR ["least", "total"]) (GR : FnOk P w K mg base CX0 k fR fdR ["least", "total"] spReachI) :
    FnOk P w K mg base CX0 (k + 1) f fd ["padding", "least", "left"] spFirst := by
  refine F.ok scFirst (fun vs H Q E h => ?_) (fun cdv A' outer s H vs Q E hr h => ?_)
  · obtain ⟨pa, la, ps, qs, a, n, j0, q0, rfl, _⟩ := h
    rfl
  · obtain ⟨pa, la, ps, qs, a, n, j0, q0, rfl, hpa, pp, hla, hj, hr0, q⟩ := h
    refine ⟨_, pss_cons (ps_set (i := 3) scFirst.nd rfl (.inl rfl) pe_int)
      (pss_cons (ps_while PassesOwn.never (pt_not (pt_val (pe_call GR hr (by rfl) R.gl R.fn.kp R.bi .nil pass0 (pa_cons (pv 1) (pa_cons (pe_op op_sub (pv 2) (pe_ix ix_tup (pe_ix ix_list (pv 0) (pv 3) (fun _ _ => rfl)) pe_int (fun _ _ => rfl))) pa_nil))))) (pss_one (ps_aug (i := 3) scFirst.nd rfl (.inl rfl) pe_int ip_add)))
      (pss_one (ps_ret (pe_ix ix_list (pv 0) (pv 3) (fun _ _ => rfl))))), ?_⟩
    have i1 : ∀ x y : V, atI [x, y] 1 = some y := fun x y => atI_nat (j := 1) rfl
    have at_ : ∀ (l : Nat) (ql : Nat × Nat), qs[l]? = some ql → ∃ b, atI (ps.map V.ref) (l : Int) = some (.ref b) ∧ H b = some (.tup (qV ql)) := fun l ql h => by
      have hl : l < ps.length := by rw [pp.1]; exact (List.getElem?_eq_some_iff.mp h).1
      exact ⟨ps[l], atI_nat (by rw [List.getElem?_map, List.getElem?_eq_getElem hl]; rfl), pp.2 l _ ql (List.getElem?_eq_getElem hl) h⟩
    have jl := (List.getElem?_eq_some_iff.mp hj).1
    refine while_by (fun σ H4 => H4 = H ∧ ∃ l : Nat, σ = [some (.ref pa), some (.ref la), some (.int n), some (.int (l : Int))] ∧ l ≤ j0 ∧ ∀ (j : Nat) (q2 : Nat × Nat), j < l → qs[j]? = some q2 → reachI a (n - (q2.2 : Int)) = false) (fun σ _ => lenOf j0 σ) ⟨rfl, 0, rfl, Nat.zero_le _, fun j _ hm => absurd hm (Nat.not_lt_zero _)⟩ ?_ ?_
    · rintro σ H4 ⟨rfl, l, rfl, lW, no⟩
      have hql : qs[l]? = some (qs[l]'(by omega)) := List.getElem?_eq_getElem _
      obtain ⟨b, ab, hb⟩ := at_ l _ hql
      refine ⟨_, rfl, _, rfl, _, rfl, _, rfl, pa, _, _, _, rfl, rfl, SqL.of hpa, ab, b, _, _, _, rfl, rfl, SqT.of hb, i1 _ _, _, _, rfl, rfl, la, a, _, rfl, hla, _, rfl, ?_⟩
      cases e : reachI a (n - ((qs[l]'(by omega)).2 : Int)) with
      | true => exact iteF ⟨_, rfl, _, rfl, pa, _, _, _, rfl, rfl, SqL.of hpa, ab, q b l _ hql e no hb⟩
      | false =>
        have ne : l ≠ j0 := fun z => by
          subst z
          rw [hql] at hj
          rw [Option.some.inj hj, hr0] at e
          cases e
        refine iteT ⟨_, rfl, _, _, rfl, rfl, ⟨rfl, l + 1, rfl, by omega, fun j q2 hm h2 => ?_⟩, ?_⟩
        · by_cases z : j = l
          · subst z
            rw [hql] at h2
            rw [← Option.some.inj h2]
            exact e
          · exact no j q2 (by omega) h2
        · show j0 - ((l : Int) + 1).toNat < j0 - ((l : Int)).toNat
          omega
    · rintro σ H4 Q1 Q2 hQ ⟨v1, e1, v2, e2, v3, e3, v4, e4, b1, b2, b3, b4, b5, b6, b7, b8, c1, c2, c3, c4, c5, c6, c7, c8, d1, d2, d3, d4, f1, f2, f3, f4, f5, bb, eb, z⟩
      exact ⟨v1, e1, v2, e2, v3, e3, v4, e4, b1, b2, b3, b4, b5, b6, b7, b8, c1, c2, c3, c4, c5, c6, c7, c8, d1, d2, d3, d4, f1, f2, f3, f4, f5, bb, eb, hQ _ _ z⟩
end
end Ov
namespace Ov
open PySem PySem.Spec PyProof.Rows L2
def bStep (fit : Nat → Option (Nat × Nat)) (o : Nat) (s : List Int × (Nat → Bool)) : List Int × (Nat → Bool) :=
  if s.2 o = true then match fit o with
    | some q => (s.1 ++ [(q.1 : Int)], fun k => s.2 k || decide (k = o + q.2))
    | none => (s.1 ++ [0], s.2)
  else (s.1 ++ [0], s.2)
def bld (fit : Nat → Option (Nat × Nat)) (B0 : Nat → Bool) : Nat → List Int × (Nat → Bool)
  | 0 => ([], B0)
  | o + 1 => bStep fit o (bld fit B0 o)
theorem bStep_len (fit : Nat → Option (Nat × Nat)) (o : Nat) (s : List Int × (Nat → Bool)) : (bStep fit o s).1.length = s.1.length + 1 := by
  unfold bStep
  split
  · cases fit o with
    | none => simp
    | some q => simp
  · simp
theorem bld_len (fit : Nat → Option (Nat × Nat)) (B0 : Nat → Bool) : ∀ o, (bld fit B0 o).1.length = o
  | 0 => rfl
  | o + 1 => by show (bStep fit o (bld fit B0 o)).1.length = o + 1; rw [bStep_len, bld_len fit B0 o]
def fitF (a : List (Option Nat)) (qs : List (Nat × Nat)) (n : Nat) (o : Nat) : Option (Nat × Nat) := qs.find? fun q => reachI a ((n : Int) - (o : Int) - (q.2 : Int))
theorem fit_some {ns : List Int} {is : List I4} (PL : PadL is ns) (Ln : Lens ns) {n o : Nat} (h : reachI (leasts (ns.map Int.toNat)) ((n : Int) - (o : Int)) = true) (lt : o < n) : ∃ q ∈ pads is, reachI (leasts (ns.map Int.toNat)) ((n : Int) - (o : Int) - (q.2 : Int)) = true := by
  unfold reachI at h
  rw [if_pos (by omega), isSum_iff _ (lens_pos Ln)] at h
  rcases Sum.step.mp h with z | ⟨l, hl, le, hs⟩
  · omega
  · obtain ⟨m, hm, rfl⟩ := List.mem_map.mp hl
    have lo := Ln.low m hm
    obtain ⟨x, hx, pd, ex⟩ := (PL.mem m).mp hm
    refine ⟨(x.op, x.ln), List.mem_map.mpr ⟨x, List.mem_filter.mpr ⟨hx, pd⟩, rfl⟩, ?_⟩
    unfold reachI
    show (if 0 ≤ (n : Int) - (o : Int) - (x.ln : Int) then _ else false) = true
    rw [if_pos (by omega), isSum_iff _ (lens_pos Ln)]
    rw [show ((n : Int) - (o : Int) - (x.ln : Int)).toNat = ((n : Int) - (o : Int)).toNat - m.toNat by omega]
    exact hs
theorem reach_le {a : List (Option Nat)} {t : Int} (h : reachI a t = true) : 0 ≤ t := by
  unfold reachI at h
  by_cases z : 0 ≤ t
  · exact z
  · rw [if_neg z] at h; cases h
theorem set_range {n j : Nat} {f : Nat → Bool} (hj : j < n) : (((List.range n).map fun k => V.bl (f k)).set j (V.bl true)) = (List.range n).map fun k => V.bl (f k || decide (k = j)) := by
  refine List.ext_getElem? fun k => ?_
  rw [List.getElem?_set, List.length_map, List.length_range, List.getElem?_map, List.getElem?_map]
  by_cases e : j = k
  · subst e
    rw [if_pos rfl, if_pos hj, List.getElem?_range hj]
    simp
  · rw [if_neg e]
    by_cases hk : k < n
    · rw [List.getElem?_range hk]
      have : decide (k = j) = false := decide_eq_false (fun z => e z.symm)
      simp [this]
    · rw [List.getElem?_eq_none (by rw [List.length_range]; omega)]
      rfl
theorem ixN_nat {n j : Nat} (h : j < n) : ixN n (j : Int) = some j := ixN_at h
section
variable {P : Program} {w : World} {K : PySem.W.Frag} {mg : Str → Option Value} {base : Heap}
def spLeastF (K : PySem.W.Frag) : Sp := fun vs H Q _ => ∃ (pa la c : Addr) (ps : List Addr) (is : List I4) (ns cs : List Int) (n : Nat), vs = [.ref pa, .ref la, .ref c, .int (n : Int)] ∧ H pa = some (.lst (ps.map V.ref)) ∧ PadP H ps (pads is) ∧ H la = some (.tup ((leasts (ns.map Int.toNat)).map optV)) ∧ SqT K H c (cs.map V.int) ∧ PadL is ns ∧ Lens ns ∧ (∀ x ∈ cs, 0 ≤ x) ∧ n ≤ 100000 ∧ hasF (leasts (ns.map Int.toNat)) cs (n : Int) = true ∧
  ∀ H' r, Same H H' → H r = none → H' r = some (.tup ((bld (fitF (leasts (ns.map Int.toNat)) (pads is) n) (fun (k : Nat) => decide ((k : Int) ∈ cs)) n).1.map V.int)) → Q (.ref r) H'
theorem scLeastF : FnScope ["padding", "least", "countdowns", "length", "code", "begins", "countdown", "offset", "opcode", "size"] ["padding", "least", "countdowns", "length"] (defScope s_least_filler) := ⟨rfl, rfl, rfl, by decide +kernel, rfl, by decide +kernel, by decide +kernel⟩
theorem ok_leastF {f fF : Addr} {fd fdF : FuncData} {k : Nat} (F : Fun K "least_filler" "least_filler" s_least_filler f fd) (T : Bi mg) (Ff : Def K mg "first_fitting" s_first_fitting fF fdF ["padding", "least", "left"]) (GF : FnOk P w K mg base CX0 k fF fdF ["padding", "least", "left"] spFirst) :
    FnOk P w K mg base CX0 (k + 1) f fd ["padding", "least", "countdowns", "length"] (spLeastF K) := by
  refine F.ok scLeastF (fun vs H Q E h => ?_) (fun cdv A' outer s H vs Q E hr h => ?_)
  · obtain ⟨pa, la, c, ps, is, ns, cs, n, rfl, _⟩ := h
    rfl
  · obtain ⟨pa, la, c, ps, is, ns, cs, n, rfl, hpa, pp, hla, hc, PL, Ln, c0, hn, hf, q⟩ := h
    refine ⟨_, pss_cons (ps_set (i := 4) scLeastF.nd rfl (.inl rfl) (pe_op op_rep (pe_lst (pa_cons pe_int pa_nil)) (pv 3)))
      (pss_cons (ps_set (i := 5) scLeastF.nd rfl (.inl rfl) (pe_op op_rep (pe_lst (pa_cons pe_bl pa_nil)) (pe_op op_add (pv 3) pe_int)))
      (pss_cons (ps_for PassesOwn.never rfl (pi_tup (pv 2)) (pg_name (i := 6) scLeastF.nd rfl (.inl rfl)) (pss_one (ps_asg pe_bl (pg_sub (pv 5) (pv 6) set_list))))
      (pss_cons (ps_for PassesOwn.never rfl (pi_range1 (by rfl) T.range (pa_cons (pv 3) pa_nil)) (pg_name (i := 7) scLeastF.nd rfl (.inl rfl))
        (pss_one (ps_if (pt_val (pe_ix ix_list (pv 5) (pv 7) (fun _ _ => rfl)))
          (pss_cons (ps_asg (pe_call GF hr (by rfl) Ff.gl Ff.fn.kp Ff.bi .nil pass0 (pa_cons (pv 0) (pa_cons (pv 1) (pa_cons (pe_op op_sub (pv 3) (pv 7)) pa_nil)))) (pg_tup rfl (pgs_cons (pg_name (i := 8) scLeastF.nd rfl (.inl rfl)) (pgs_cons (pg_name (i := 9) scLeastF.nd rfl (.inl rfl)) pgs_nil))))
          (pss_cons (ps_asg (pv 8) (pg_sub (pv 4) (pv 7) set_list))
          (pss_one (ps_asg pe_bl (pg_sub (pv 5) (pe_op op_add (pv 7) (pv 9)) set_list))))) pss_nil)))
      (pss_one (ps_ret (pe_callTy call_tuple_of (by rfl) T.tuple (by decide +kernel) (pa_cons (pv 4) pa_nil))))))), ?_⟩
    have cle : ∀ x ∈ cs, x ≤ (n : Int) := fun x hx => ((hasF_iff Ln cs n).mp hf x hx).1
    -- the code, all 0
    refine ⟨by show 1 ≤ sizeLine; decide, fun l1 n1 => ⟨_, rfl, l1, (n : Int), [V.int 0], rfl, rfl, upd_same, by omega, by omega, by rw [sizeLine_eq]; show 1 * (n : Int).toNat ≤ _; omega, fun cl ncl => ?_⟩⟩
    rw [flat_rep, Int.toNat_natCast]
    have s1 := (same_upd (o := HO.lst [V.int 0]) n1).trans (same_upd (o := HO.lst (List.replicate n (V.int 0))) ncl)
    have hcl : upd (upd H l1 (HO.lst [V.int 0])) cl (HO.lst (List.replicate n (V.int 0))) cl = some (.lst (List.replicate n (V.int 0))) := upd_same
    have ncl0 : H cl = none := (same_upd (o := HO.lst [V.int 0]) n1).free ncl
    generalize upd (upd H l1 (HO.lst [V.int 0])) cl (HO.lst (List.replicate n (V.int 0))) = H1 at *
    refine ⟨by show 1 ≤ sizeLine; decide, fun l2 n2 => ⟨_, rfl, _, _, rfl, rfl, l2, (n : Int) + 1, [V.bl false], rfl, rfl, upd_same, by omega, by omega, by rw [sizeLine_eq]; show 1 * ((n : Int) + 1).toNat ≤ _; omega, fun bl nbl => ?_⟩⟩
    rw [flat_rep, show ((n : Int) + 1).toNat = n + 1 by omega]
    have s2a := same_upd (o := HO.lst [V.bl false]) n2
    have s2b := same_upd (o := HO.lst (List.replicate (n + 1) (V.bl false))) nbl
    have s2 := s2a.trans s2b
    have hbl : upd (upd H1 l2 (HO.lst [V.bl false])) bl (HO.lst (List.replicate (n + 1) (V.bl false))) bl = some (.lst ((List.range (n + 1)).map fun k => V.bl ((fun _ => false) k))) := by
      rw [upd_same]
      congr 2
      refine List.ext_getElem? fun k => ?_
      rw [List.getElem?_map]
      by_cases hk : k < n + 1
      · rw [List.getElem?_range hk, List.getElem?_replicate, if_pos hk]; rfl
      · rw [List.getElem?_eq_none (by rw [List.length_replicate]; omega), List.getElem?_eq_none (by rw [List.length_range]; omega)]; rfl
    have nbl1 : H1 bl = none := s2a.free nbl
    have nbl0 : H bl = none := s1.free nbl1
    have cb : cl ≠ bl := fun z => by rw [z, nbl1] at hcl; cases hcl
    replace hcl := s2 _ _ hcl
    have s02 := s1.trans s2
    generalize upd (upd H1 l2 (HO.lst [V.bl false])) bl (HO.lst (List.replicate (n + 1) (V.bl false))) = H2 at *
    -- where decoders begin
    refine ⟨_, rfl, c, rfl, ⟨_, s02.tup hc⟩, for_tup (K := K) (a := c) (xs := cs.map V.int) (fun i σ G => Same H G ∧ G cl = some (.lst (List.replicate n (V.int 0))) ∧ G bl = some (.lst ((List.range (n + 1)).map fun (k : Nat) => V.bl (decide ((k : Int) ∈ cs.take i)))) ∧ ∃ y6, σ = [some (.ref pa), some (.ref la), some (.ref c), some (.int (n : Int)), some (.ref cl), some (.ref bl), y6, none, none, none])
      ⟨s02, hcl, by rw [hbl]; simp, _, rfl⟩ (fun i σ G _ ⟨sG, _⟩ => sG.tup hc) ?_ ?_⟩
    · rintro i x σ G hx ⟨sG, gcl, gbl, y6, rfl⟩
      rw [List.getElem?_map] at hx
      obtain ⟨cd, hcd, rfl⟩ := Option.map_eq_some_iff.mp hx
      have m := List.mem_of_getElem? hcd
      have lo := c0 cd m
      have hi := cle cd m
      obtain ⟨j, rfl⟩ : ∃ j : Nat, cd = (j : Int) := ⟨cd.toNat, by omega⟩
      refine ⟨_, rfl, _, rfl, bl, _, (j : Int), j, rfl, rfl, gbl, ixN_nat (by rw [List.length_map, List.length_range]; omega), fun b o e => by rw [upd_ne (ne_of_none e nbl0)]; exact sG b o e, by rw [upd_ne cb]; exact gcl, ?_, _, rfl⟩
      rw [upd_same, set_range (by omega)]
      congr 3
      funext k
      rw [take_more hcd]
      congr 1
      by_cases e1 : (k : Int) ∈ cs.take i
      · simp [e1]
      · by_cases e2 : k = j
        · subst e2; simp
        · have : ¬ (k : Int) = (j : Int) := by omega
          simp [e1, e2, this]
    rintro σ H3 ⟨s03, h3cl, h3bl, y6, rfl⟩
    rw [List.length_map, List.take_length] at h3bl
    -- byte by byte
    generalize hfit : fitF (leasts (ns.map Int.toNat)) (pads is) n = fit at *
    refine ⟨_, rfl, _, rfl, by omega, by omega, for_range (lo := 0) (fun o σ G => Same H G ∧ G cl = some (.lst ((bld fit (fun (k : Nat) => decide ((k : Int) ∈ cs)) o).1.map V.int ++ List.replicate (n - o) (V.int 0))) ∧ G bl = some (.lst ((List.range (n + 1)).map fun k => V.bl ((bld fit (fun (k : Nat) => decide ((k : Int) ∈ cs)) o).2 k))) ∧ (∀ k, (bld fit (fun (k : Nat) => decide ((k : Int) ∈ cs)) o).2 k = true → k ≤ n ∧ reachI (leasts (ns.map Int.toNat)) ((n : Int) - (k : Int)) = true) ∧ ∃ y6 y7 y8 y9, σ = [some (.ref pa), some (.ref la), some (.ref c), some (.int (n : Int)), some (.ref cl), some (.ref bl), y6, y7, y8, y9])
      ⟨s03, by rw [h3cl]; rfl, h3bl, fun k hk => ?_, _, _, _, _, rfl⟩ ?_ ?_⟩
    · have m : (k : Int) ∈ cs := of_decide_eq_true hk
      have z := (hasF_iff Ln cs n).mp hf _ m
      refine ⟨by omega, ?_⟩
      unfold reachI
      rw [if_pos (by omega), isSum_iff _ (lens_pos Ln)]
      exact z.2
    · rintro o σ G ho ⟨sG, gcl, gbl, inv, y6, y7, y8, y9, rfl⟩
      rw [Int.toNat_natCast] at ho
      have e0 : (0 : Int) + (o : Int) = (o : Int) := by omega
      rw [e0]
      have bo : atI ((List.range (n + 1)).map fun k => V.bl ((bld fit (fun (k : Nat) => decide ((k : Int) ∈ cs)) o).2 k)) (o : Int) = some (V.bl ((bld fit (fun (k : Nat) => decide ((k : Int) ∈ cs)) o).2 o)) := atI_nat (by rw [List.getElem?_map, List.getElem?_range (by omega)]; rfl)
      refine ⟨_, rfl, _, rfl, bl, _, _, _, rfl, rfl, SqL.of gbl, bo, _, rfl, ?_⟩
      have len := bld_len fit (fun (k : Nat) => decide ((k : Int) ∈ cs)) o
      show if (bld fit (fun (k : Nat) => decide ((k : Int) ∈ cs)) o).2 o = true then _ else _
      have estep : bld fit (fun (k : Nat) => decide ((k : Int) ∈ cs)) (o + 1) = bStep fit o (bld fit (fun (k : Nat) => decide ((k : Int) ∈ cs)) o) := rfl
      rw [estep]
      generalize bld fit (fun (k : Nat) => decide ((k : Int) ∈ cs)) o = st at *
      have zero : st.1.map V.int ++ List.replicate (n - o) (V.int 0) = (st.1 ++ [0]).map V.int ++ List.replicate (n - (o + 1)) (V.int 0) := by
        rw [List.map_append, List.append_assoc, show n - o = n - (o + 1) + 1 by omega, List.replicate_succ]
        rfl
      cases eb : st.2 o with
      | false =>
        have es : bStep fit o st = (st.1 ++ [0], st.2) := by unfold bStep; rw [eb, if_neg (by decide)]
        rw [es]
        exact iteF ⟨sG, by rw [gcl, zero], gbl, inv, _, _, _, _, rfl⟩
      | true =>
        have rc := (inv o eb).2
        obtain ⟨q0, hq0, hr0⟩ := fit_some PL Ln rc ho
        obtain ⟨j0, hj0⟩ := List.mem_iff_getElem?.mp hq0
        refine iteT ⟨_, rfl, _, rfl, _, rfl, _, rfl, _, _, rfl, rfl, pa, la, ps, pads is, _, (n : Int) - (o : Int), j0, q0, rfl, sG _ _ hpa, pp.same sG, sG _ _ hla, hj0, hr0, fun r i q1 hq1 hr1 first hr => ?_⟩
        have hfo : fit o = some q1 := by
          rw [← hfit]
          unfold fitF
          rw [List.find?_eq_some_iff_getElem]
          obtain ⟨hl, eq⟩ := List.getElem?_eq_some_iff.mp hq1
          refine ⟨hr1, i, hl, eq, fun j hj => ?_⟩
          rw [first j _ hj (List.getElem?_eq_getElem (by omega))]
          rfl
        have es : bStep fit o st = (st.1 ++ [(q1.1 : Int)], fun k => st.2 k || decide (k = o + q1.2)) := by unfold bStep; rw [eb, if_pos rfl, hfo]
        rw [es]
        have le := reach_le hr1
        refine ⟨r, _, rfl, SqT.of hr, rfl, _, _, rfl, _, _, rfl, rfl, ?_⟩
        refine ⟨_, rfl, _, rfl, _, rfl, cl, _, (o : Int), o, rfl, rfl, gcl, ixN_nat (by rw [List.length_append, List.length_map, len, List.length_replicate]; omega), ?_⟩
        refine ⟨_, rfl, _, rfl, _, rfl, _, _, rfl, rfl, bl, _, (o : Int) + (q1.2 : Int), o + q1.2, rfl, rfl, by rw [upd_ne (Ne.symm cb)]; exact gbl, by rw [show (o : Int) + (q1.2 : Int) = ((o + q1.2 : Nat) : Int) by omega]; exact ixN_nat (by rw [List.length_map, List.length_range]; omega), fun b x e => ?_, ?_, ?_, fun k hk => ?_, _, _, _, _, rfl⟩
        · rw [upd_ne (ne_of_none e nbl0), upd_ne (ne_of_none e ncl0)]
          exact sG b x e
        · rw [upd_ne cb, upd_same, zero, List.map_append, List.append_assoc, List.set_append_right _ _ (by rw [List.length_map, len]; exact Nat.le_refl _), List.length_map, len, Nat.sub_self, List.map_append, List.append_assoc]
          rfl
        · rw [upd_same, set_range (by omega)]
        · rcases Bool.or_eq_true_iff.mp hk with z | z
          · exact inv k z
          · have : k = o + q1.2 := of_decide_eq_true z
            subst this
            refine ⟨by omega, ?_⟩
            rw [show (n : Int) - ((o + q1.2 : Nat) : Int) = (n : Int) - (o : Int) - (q1.2 : Int) by omega]
            exact hr1
    · rintro σ G ⟨sG, gcl, gbl, inv, y6, y7, y8, y9, rfl⟩
      rw [Int.toNat_natCast, Nat.sub_self, List.replicate_zero, List.append_nil] at gcl
      refine ⟨_, rfl, cl, _, rfl, .inl ⟨SqL.of gcl, fun r nr => ?_⟩⟩
      have sr := same_upd (o := HO.tup ((bld fit (fun (k : Nat) => decide ((k : Int) ∈ cs)) n).1.map V.int)) nr
      exact q _ r (sG.trans sr) (sG.free nr) upd_same
end
end Ov
namespace Ov
open PySem PySem.Spec PyProof.Rows L2
def nV (n : Nat) : V := .int (n : Int)
theorem padL_le {cnt lg : Nat} {is : List I4} {ns : List Int} (ok : TabOk cnt lg is) (PL : PadL is ns) : ∀ l ∈ ns.map Int.toNat, 0 < l ∧ l ≤ 12 := fun l hl => by
  obtain ⟨n, hn, rfl⟩ := List.mem_map.mp hl
  obtain ⟨x, hx, _, rfl⟩ := (PL.mem n).mp hn
  have := ok.len x hx
  have := ok.lb
  omega
theorem short_le {cnt lg : Nat} {is : List I4} {ns cs : List Int} {n : Nat} (ok : TabOk cnt lg is) (PL : PadL is ns) (Ln : Lens ns) (hc : Cds (lonOf is) cs) (nc : NoConf (gcdAll (ns.map Int.toNat)) cs) (mn : ∀ m : Nat, m < n → hasF (leasts (ns.map Int.toNat)) cs (m : Int) = false) : n ≤ 180 := by
  have lo := (lon_le ok).2
  have key : ∃ N : Nat, N ≤ 180 ∧ hasF (leasts (ns.map Int.toNat)) cs (N : Int) = true := by
    cases cs with
    | nil => exact ⟨0, by omega, rfl⟩
    | cons c0 r =>
      have h0 := hc.low c0 List.mem_cons_self
      obtain ⟨N, hN, h1, h2, h3⟩ := far_fill_le (padL_le ok PL) (c0 := c0) (cs := r) ⟨h0.1, by omega⟩ (fun c hm => by have := hc.low c (List.mem_cons_of_mem _ hm); omega) (fun c hm => nc c0 c rfl hm)
      refine ⟨N, hN, (hasF_iff Ln _ _).mpr fun c hm => ?_⟩
      rcases List.mem_cons.mp hm with rfl | hm
      · exact ⟨h1, h2⟩
      · exact h3 c hm
  obtain ⟨N, hN, hf⟩ := key
  by_cases z : n ≤ N
  · omega
  · rw [mn N (by omega)] at hf; cases hf
end Ov
namespace Ov
open PySem PySem.Spec PyProof.Rows L2
section
variable {P : Program} {w : World} {K : PySem.W.Frag} {mg : Str → Option Value} {base : Heap}
def spFLens (K : PySem.W.Frag) (C : Addr) : Sp := fun vs H Q _ => ∃ (p it c : Addr) (cnt lg : Nat) (is : List I4) (rs : List Addr) (cs : List Int) (mo : Nat), vs = [.ref p, .ref c, .int (mo : Int)] ∧ mo ≤ 100000 ∧ Mach C H p cnt lg it is rs ∧ SqT K H c (cs.map V.int) ∧ Cds (lonOf is) cs ∧
  ∀ H' r ns, Same H H' → H r = none → PadL is ns → Lens ns → H' r = some (.tup (((List.range (mo + 1)).filter fun n => hasF (leasts (ns.map Int.toNat)) cs ((n : Nat) : Int)).map nV)) → Q (.ref r) H'
theorem scFLens : FnScope ["instruction_set", "countdowns", "most", "least", "length"] ["instruction_set", "countdowns", "most"] (defScope s_filler_lengths) := ⟨rfl, rfl, rfl, by decide +kernel, rfl, by decide +kernel, by decide +kernel⟩
theorem ok_fLens {f fC fP fS fH C : Addr} {fd fdC fdP fdS fdH : FuncData} {k : Nat} (F : Fun K "filler_lengths" "filler_lengths" s_filler_lengths f fd) (T : Bi mg) (S : SetTxt K mg C)
    (Ch : Def K mg "check_countdowns" s_check_countdowns fC fdC ["instruction_set", "countdowns"]) (GC : FnOk P w K mg base CX0 k fC fdC ["instruction_set", "countdowns"] (spChkC K C))
    (MP : Meth K C "padding_lengths" fP) (bP : Binds K fdP ["self"] []) (GP : FnOk P w K mg base CX0 k fP fdP ["self"] (spPadLens C))
    (Ls : Def K mg "least_sums" sLeast fS fdS ["lengths"]) (GS : FnOk P w K mg base CX0 k fS fdS ["lengths"] spLeast)
    (Hf : Def K mg "has_filler" s_has_filler fH fdH ["least", "countdowns", "length"]) (GH : FnOk P w K mg base CX0 k fH fdH ["least", "countdowns", "length"] (spHasF K)) :
    FnOk P w K mg base CX0 (k + 1) f fd ["instruction_set", "countdowns", "most"] (spFLens K C) := by
  refine F.ok scFLens (fun vs H Q E h => ?_) (fun cdv A' outer s H vs Q E hr h => ?_)
  · obtain ⟨p, it, c, cnt, lg, is, rs, cs, mo, rfl, _⟩ := h
    rfl
  · obtain ⟨p, it, c, cnt, lg, is, rs, cs, mo, rfl, hmo, M, hc, hcs, q⟩ := h
    refine ⟨_, pss_cons (ps_expr (pe_call GC hr (by rfl) Ch.gl Ch.fn.kp Ch.bi .nil pass0 (pa_cons (pv 0) (pa_cons (pv 1) pa_nil))))
      (pss_cons (ps_set (i := 3) scFLens.nd rfl (.inr rfl) (pe_call GS hr (by rfl) Ls.gl Ls.fn.kp Ls.bi .nil pass0 (pa_cons (pe_meth0 (pv 0) S.cl MP GP hr bP .nil pass0) pa_nil)))
      (pss_one (ps_ret (pe_callTy call_tuple_of (by rfl) T.tuple (by decide +kernel) (pa_cons (pe_lc (own := [("length", 4)]) (g := gName 4) (by rfl) scFLens.nd (pi_range1 (by rfl) T.range (pa_cons (pe_op op_add (pv 2) pe_int) pa_nil))
        (blkOk_by (own := [("length", 4)]) (N := ["instruction_set", "countdowns", "most", "least", "length"]) (sc := defScope s_filler_lengths) (by decide +kernel))
        (fun _ _ _ _ _ => pg_name (i := 4) scFLens.nd rfl (Or.inl rfl)) (fun _ _ _ _ _ => pts_one (pt_val (pe_call GH hr (by rfl) Hf.gl Hf.fn.kp Hf.bi .nil pass0 (pa_cons (pv 3) (pa_cons (pv 1) (pa_cons (pv 4) pa_nil))))))
        (fun _ _ _ _ _ => pv 4)) pa_nil))))), ?_⟩
    refine ⟨_, rfl, _, rfl, p, it, c, cnt, lg, is, rs, cs, rfl, M, hc, hcs, fun H1 s1 => ?_⟩
    have M1 := M.same s1
    obtain ⟨dx, d1, d2, hp, _, _⟩ := M1.at_.ob
    refine ⟨_, rfl, p, dx, _, rfl, hp, no_meth3 _ _ _ _, p, it, cnt, lg, is, rs, rfl, M1, fun H2 r2 ns s2 nr2 PL few hr2 => ?_⟩
    have Ln := PL.lens M.ok few
    refine ⟨r2, ns, rfl, hr2, Ln, fun H3 l3 s3 nl3 hl3 => ?_⟩
    have s03 := s1.trans (s2.trans s3)
    refine ⟨_, rfl, _, _, rfl, rfl, _, rfl, by omega, by omega, fun D nD => lc_range (lo := 0) (fun i G => Mk H3 G D (((List.range i).filter fun n => hasF (leasts (ns.map Int.toNat)) cs ((n : Nat) : Int)).map nV)) (.start nD) ?_ ?_⟩
    · intro i G hi mk
      rw [show (0 : Int) + (i : Int) = (i : Int) by omega]
      refine ⟨rfl, _, rfl, _, rfl, _, rfl, l3, c, _, cs, (i : Int), rfl, mk.same _ _ hl3, (s03.trans mk.same).tup hc, hcs.few, fun H5 s5 => ⟨_, rfl, ?_⟩⟩
      rw [List.range_succ, List.filter_append]
      cases e : hasF (leasts (ns.map Int.toNat)) cs (i : Int) with
      | true =>
        have el : (((List.range i).filter fun n => hasF (leasts (ns.map Int.toNat)) cs ((n : Nat) : Int)).map nV).length ≤ i := by
          rw [List.length_map]
          exact Nat.le_trans (List.length_filter_le _ _) (by rw [List.length_range]; exact Nat.le_refl _)
        refine iteT ⟨_, rfl, _, s5 _ _ mk.at_, by rw [sizeLine_eq]; omega, ?_⟩
        rw [List.filter_cons_of_pos (p := fun n : Nat => hasF (leasts (ns.map Int.toNat)) cs (n : Int)) e, List.map_append]
        exact mk.put s5
      | false =>
        refine iteF ?_
        rw [List.filter_cons_of_neg (p := fun n : Nat => hasF (leasts (ns.map Int.toNat)) cs (n : Int)) (by rw [e]; decide), List.filter_nil, List.append_nil]
        exact ⟨mk.same.trans s5, nD, s5 _ _ mk.at_⟩
    · intro G mk
      rw [show ((mo : Int) + 1).toNat = mo + 1 by omega] at mk
      refine ⟨D, _, rfl, .inl ⟨SqL.of mk.at_, fun r nr => ?_⟩⟩
      have sr := same_upd (o := HO.tup (((List.range (mo + 1)).filter fun n => hasF (leasts (ns.map Int.toNat)) cs ((n : Nat) : Int)).map nV)) nr
      exact q _ r ns (s03.trans (mk.same.trans sr)) (s03.free (mk.same.free nr)) PL Ln upd_same
end
end Ov
namespace Ov
open PySem PySem.Spec PyProof.Rows L2
section
variable {P : Program} {w : World} {K : PySem.W.Frag} {mg : Str → Option Value} {base : Heap}
def FilV (is : List I4) (ns cs : List Int) (x : V) (H' : Hp) (v : V) : Prop :=
  (v = .non ∧ ((x = .non ∧ ¬ NoConf (gcdAll (ns.map Int.toNat)) cs) ∨ ∃ n : Nat, x = .int (n : Int) ∧ hasF (leasts (ns.map Int.toNat)) cs (n : Int) = false)) ∨
  ∃ (r : Addr) (n : Nat), v = .ref r ∧ hasF (leasts (ns.map Int.toNat)) cs (n : Int) = true ∧ H' r = some (.tup ((bld (fitF (leasts (ns.map Int.toNat)) (pads is) n) (fun k : Nat => decide ((k : Int) ∈ cs)) n).1.map V.int)) ∧ n ≤ 100000 ∧
    (x = .int (n : Int) ∨ (x = .non ∧ NoConf (gcdAll (ns.map Int.toNat)) cs ∧ ∀ m : Nat, m < n → hasF (leasts (ns.map Int.toNat)) cs (m : Int) = false))
def spFiller (K : PySem.W.Frag) (C : Addr) : Sp := fun vs H Q _ => ∃ (p it c : Addr) (cnt lg : Nat) (is : List I4) (rs : List Addr) (cs : List Int) (x : V), vs = [.ref p, .ref c, x] ∧ (x = .non ∨ ∃ n : Nat, x = .int (n : Int) ∧ n ≤ 100000) ∧ Mach C H p cnt lg it is rs ∧ SqT K H c (cs.map V.int) ∧ Cds (lonOf is) cs ∧
  ∀ H' v ns, Same H H' → PadL is ns → Lens ns → FilV is ns cs x H' v → Q v H'
theorem scFiller : FnScope ["instruction_set", "countdowns", "length", "size", "least"] ["instruction_set", "countdowns", "length"] (defScope s_filler) := ⟨rfl, rfl, rfl, by decide +kernel, rfl, by decide +kernel, by decide +kernel⟩
theorem ok_filler {f fC fL fP fS fH fI fF C : Addr} {fd fdC fdL fdP fdS fdH fdI fdF : FuncData} {k : Nat} (F : FunD K "filler" "filler" (defArgs s_filler) (defBody s_filler) (defScope s_filler) [.non] [] f fd) (S : SetTxt K mg C)
    (Ch : Def K mg "check_countdowns" s_check_countdowns fC fdC ["instruction_set", "countdowns"]) (GC : FnOk P w K mg base CX0 k fC fdC ["instruction_set", "countdowns"] (spChkC K C))
    (Fl : Def K mg "filler_length" s_filler_length fL fdL ["instruction_set", "countdowns"]) (GL : FnOk P w K mg base CX0 k fL fdL ["instruction_set", "countdowns"] (spFLen K C))
    (MP : Meth K C "padding_lengths" fP) (bP : Binds K fdP ["self"] []) (GP : FnOk P w K mg base CX0 k fP fdP ["self"] (spPadLens C))
    (Ls : Def K mg "least_sums" sLeast fS fdS ["lengths"]) (GS : FnOk P w K mg base CX0 k fS fdS ["lengths"] spLeast)
    (Hf : Def K mg "has_filler" s_has_filler fH fdH ["least", "countdowns", "length"]) (GH : FnOk P w K mg base CX0 k fH fdH ["least", "countdowns", "length"] (spHasF K))
    (Pi : Def K mg "padding_instructions" s_padding_instructions fI fdI ["instruction_set"]) (GI : FnOk P w K mg base CX0 k fI fdI ["instruction_set"] (spPadI C))
    (Lf : Def K mg "least_filler" s_least_filler fF fdF ["padding", "least", "countdowns", "length"]) (GF : FnOk P w K mg base CX0 k fF fdF ["padding", "least", "countdowns", "length"] (spLeastF K)) :
    FnOk P w K mg base CX0 (k + 1) f fd ["instruction_set", "countdowns", "length"] (spFiller K C) := by
  refine F.ok scFiller (fun vs H Q E h => ?_) (fun cdv A' outer s H vs Q E hr h => ?_)
  · obtain ⟨p, it, c, cnt, lg, is, rs, cs, x, rfl, _⟩ := h
    rfl
  · obtain ⟨p, it, c, cnt, lg, is, rs, cs, x, rfl, hx, M, hc, hcs, q⟩ := h
    refine ⟨_, pss_cons (ps_expr (pe_call GC hr (by rfl) Ch.gl Ch.fn.kp Ch.bi .nil pass0 (pa_cons (pv 0) (pa_cons (pv 1) pa_nil))))
      (pss_cons (ps_set (i := 3) scFiller.nd rfl (.inl rfl) (pe_ifExp (pt_cmpR op_isN (pv 2) pe_non (nomark _)) (pe_call GL hr (by rfl) Fl.gl Fl.fn.kp Fl.bi .nil pass0 (pa_cons (pv 0) (pa_cons (pv 1) pa_nil))) (pv 2)))
      (pss_cons (ps_set (i := 4) scFiller.nd rfl (.inl rfl) (pe_call GS hr (by rfl) Ls.gl Ls.fn.kp Ls.bi .nil pass0 (pa_cons (pe_meth0 (pv 0) S.cl MP GP hr bP .nil pass0) pa_nil)))
      (pss_cons (ps_if (PW.pt (pw_or (pt_cmpR op_isN (pv 3) pe_non (nomark _)) (pw_or1 (pt_not (pt_val (pe_call GH hr (by rfl) Hf.gl Hf.fn.kp Hf.bi .nil pass0 (pa_cons (pv 4) (pa_cons (pv 1) (pa_cons (pv 3) pa_nil))))))))) (pss_one (ps_ret pe_non)) pss_nil)
      (pss_one (ps_ret (pe_call GF hr (by rfl) Lf.gl Lf.fn.kp Lf.bi .nil pass0 (pa_cons (pe_call GI hr (by rfl) Pi.gl Pi.fn.kp Pi.bi .nil pass0 (pa_cons (pv 0) pa_nil)) (pa_cons (pv 4) (pa_cons (pv 1) (pa_cons (pv 3) pa_nil)))))))))), ?_⟩
    refine ⟨_, rfl, _, rfl, p, it, c, cnt, lg, is, rs, cs, rfl, M, hc, hcs, fun H1 s1 => ?_⟩
    have M1 := M.same s1
    have hc1 := s1.tup hc
    refine ⟨_, rfl, rfl, _, rfl, ?_⟩
    rcases hx with rfl | ⟨n, rfl, hn⟩
    · refine iteT ⟨_, rfl, _, rfl, p, it, c, cnt, lg, is, rs, cs, rfl, M1, hc1, hcs, fun H2 v ns0 s2 PL0 Ln0 hv => ?_⟩
      have s02 := s1.trans s2
      rcases hv with ⟨rfl, nc⟩ | ⟨n, rfl, nc, hf, mn⟩
      · have M2 := M.same s02
        obtain ⟨dx, d1, d2, hp, _, _⟩ := M2.at_.ob
        refine ⟨_, rfl, p, dx, _, rfl, hp, no_meth3 _ _ _ _, p, it, cnt, lg, is, rs, rfl, M2, fun H3 r3 ns s3 nr3 PL few hr3 => ?_⟩
        have Ln := PL.lens M.ok few
        refine ⟨r3, ns, rfl, hr3, Ln, fun H4 l4 s4 nl4 hl4 => ?_⟩
        have s04 := s02.trans (s3.trans s4)
        refine ⟨_, rfl, rfl, _, rfl, iteT (iteT (q H4 _ ns s04 PL Ln (.inl ⟨rfl, .inl ⟨rfl, ?_⟩⟩)))⟩
        rw [PL.uniq PL0]
        exact nc
      · have hn : n ≤ 100000 := Nat.le_trans (short_le M.ok PL0 Ln0 hcs nc mn) (by decide)
        have src : ∀ ns, PadL is ns → (V.non = .int (n : Int) ∨ (V.non = .non ∧ NoConf (gcdAll (ns.map Int.toNat)) cs ∧ hasF (leasts (ns.map Int.toNat)) cs (n : Int) = true ∧ ∀ m : Nat, m < n → hasF (leasts (ns.map Int.toNat)) cs (m : Int) = false)) := fun ns PL => by
          rw [PL.uniq PL0]
          exact .inr ⟨rfl, nc, hf, mn⟩
        have M2 := M.same s02
        obtain ⟨dx, d1, d2, hp, _, _⟩ := M2.at_.ob
        refine ⟨_, rfl, p, dx, _, rfl, hp, no_meth3 _ _ _ _, p, it, cnt, lg, is, rs, rfl, M2, fun H3 r3 ns s3 nr3 PL few hr3 => ?_⟩
        have Ln := PL.lens M.ok few
        refine ⟨r3, ns, rfl, hr3, Ln, fun H4 l4 s4 nl4 hl4 => ?_⟩
        have s04 := s02.trans (s3.trans s4)
        refine ⟨_, rfl, rfl, _, rfl, ?_⟩
        rw [decide_eq_false (fun z => nomatch z)]
        refine iteF ⟨_, rfl, _, rfl, _, rfl, l4, c, _, cs, (n : Int), rfl, hl4, s04.tup hc, hcs.few, fun H5 s5 => ⟨_, rfl, ?_⟩⟩
        have s05 := s04.trans s5
        have src' := src ns PL
        cases e : hasF (leasts (ns.map Int.toNat)) cs (n : Int) with
        | false =>
          refine iteT (q H5 _ ns s05 PL Ln (.inl ⟨rfl, ?_⟩))
          rcases src' with z | ⟨_, _, z, _⟩
          · exact .inr ⟨n, z, e⟩
          · rw [z] at e; cases e
        | true =>
          refine iteF ⟨_, rfl, p, it, cnt, lg, is, rs, rfl, M.same s05, fun H6 r6 ps s6 nr6 h6 pp => ?_⟩
          refine ⟨_, rfl, _, rfl, _, rfl, r6, l4, c, ps, is, ns, cs, n, rfl, h6, pp, (s5.trans s6) _ _ hl4, (s05.trans s6).tup hc, PL, Ln, fun y hy => (hcs.low y hy).1, hn, e, fun H7 r7 s7 nr7 h7 => ?_⟩
          refine q H7 _ ns (s05.trans (s6.trans s7)) PL Ln (.inr ⟨r7, n, rfl, e, h7, hn, ?_⟩)
          rcases src' with z | ⟨z1, z2, _, z3⟩
          · exact .inl z
          · exact .inr ⟨z1, z2, z3⟩
    · refine iteF ⟨_, rfl, ?_⟩
      have s02 := s1
      have src : ∀ ns, PadL is ns → (V.int (n : Int) = .int (n : Int) ∨ (V.int (n : Int) = .non ∧ NoConf (gcdAll (ns.map Int.toNat)) cs ∧ hasF (leasts (ns.map Int.toNat)) cs (n : Int) = true ∧ ∀ m : Nat, m < n → hasF (leasts (ns.map Int.toNat)) cs (m : Int) = false)) := fun _ _ => .inl rfl
      have M2 := M.same s02
      obtain ⟨dx, d1, d2, hp, _, _⟩ := M2.at_.ob
      refine ⟨_, rfl, p, dx, _, rfl, hp, no_meth3 _ _ _ _, p, it, cnt, lg, is, rs, rfl, M2, fun H3 r3 ns s3 nr3 PL few hr3 => ?_⟩
      have Ln := PL.lens M.ok few
      refine ⟨r3, ns, rfl, hr3, Ln, fun H4 l4 s4 nl4 hl4 => ?_⟩
      have s04 := s02.trans (s3.trans s4)
      refine ⟨_, rfl, rfl, _, rfl, ?_⟩
      rw [decide_eq_false (fun z => nomatch z)]
      refine iteF ⟨_, rfl, _, rfl, _, rfl, l4, c, _, cs, (n : Int), rfl, hl4, s04.tup hc, hcs.few, fun H5 s5 => ⟨_, rfl, ?_⟩⟩
      have s05 := s04.trans s5
      have src' := src ns PL
      cases e : hasF (leasts (ns.map Int.toNat)) cs (n : Int) with
      | false =>
        refine iteT (q H5 _ ns s05 PL Ln (.inl ⟨rfl, ?_⟩))
        rcases src' with z | ⟨_, _, z, _⟩
        · exact .inr ⟨n, z, e⟩
        · rw [z] at e; cases e
      | true =>
        refine iteF ⟨_, rfl, p, it, cnt, lg, is, rs, rfl, M.same s05, fun H6 r6 ps s6 nr6 h6 pp => ?_⟩
        refine ⟨_, rfl, _, rfl, _, rfl, r6, l4, c, ps, is, ns, cs, n, rfl, h6, pp, (s5.trans s6) _ _ hl4, (s05.trans s6).tup hc, PL, Ln, fun y hy => (hcs.low y hy).1, hn, e, fun H7 r7 s7 nr7 h7 => ?_⟩
        refine q H7 _ ns (s05.trans (s6.trans s7)) PL Ln (.inr ⟨r7, n, rfl, e, h7, hn, ?_⟩)
        rcases src' with z | ⟨z1, z2, _, z3⟩
        · exact .inl z
        · exact .inr ⟨z1, z2, z3⟩
end
end Ov
namespace Ov
open PySem PySem.Spec PyProof.Rows L2
def padKV (is : List I4) : List (Key × V) := (pads is).map fun q => (Sum.inl (q.1 : Int), V.int (q.2 : Int))
end Ov
namespace Ov
open PySem PySem.Spec PyProof.Rows L2
def padZ (is : List I4) : List Int := (is.filter I4.pad).map fun x => (x.ln : Int)
theorem padZ_mem (is : List I4) (k : Int) : k ∈ padZ is ↔ ∃ x ∈ is, x.pad = true ∧ (x.ln : Int) = k := by
  unfold padZ
  rw [List.mem_map]
  constructor
  · rintro ⟨x, hx, e⟩
    have := List.mem_filter.mp hx
    exact ⟨x, this.1, this.2, e⟩
  · rintro ⟨x, h1, h2, e⟩
    exact ⟨x, List.mem_filter.mpr ⟨h1, h2⟩, e⟩
theorem nodup_int : ∀ (L : Nat) (ds : List Int), ds.Nodup → (∀ d ∈ ds, 0 ≤ d ∧ d < (L : Int)) → ds.length ≤ L := fun L ds nd b => by
  have h := nodup_lenF L (ds.map Int.toNat) (by
    rw [List.nodup_iff_pairwise_ne, List.pairwise_map]
    exact List.Pairwise.imp_of_mem (fun {x y} hx hy ne z => ne (by have := b x hx; have := b y hy; omega)) nd) (fun h hh => by
    obtain ⟨d, hd, rfl⟩ := List.mem_map.mp hh
    have := b d hd
    omega)
  rwa [List.length_map] at h
section
variable {P : Program} {w : World} {K : PySem.W.Frag} {mg : Str → Option Value} {base : Heap}
def spLPad : Sp := fun vs H Q _ => ∃ (t it : Addr) (cnt lg : Nat) (is : List I4) (rs : List Addr), vs = [.ref t] ∧ Tab H t cnt lg is it rs ∧ ∀ H' r ns, Same H H' → H r = none → PadL is ns → ns.length ≤ 50 → H' r = some (.lst (ns.map V.int)) → Q (.ref r) H'
theorem scLPad : FnScope ["_law_table_here", "_law_opcode", "_law_name", "_law_length", "_law_is_padding"] ["_law_table_here"] (defScope s_law_padding) := ⟨rfl, rfl, rfl, by decide +kernel, rfl, by decide +kernel, by decide +kernel⟩
theorem ok_lpad {f : Addr} {fd : FuncData} {k : Nat} (F : Fun K "_law_padding" "_law_padding" s_law_padding f fd) (T : Bi mg) : FnOk P w K mg base CX0 (k + 1) f fd ["_law_table_here"] spLPad := by
  refine F.ok scLPad (fun vs H Q E h => ?_) (fun cdv A' outer s H vs Q E hr h => ?_)
  · obtain ⟨t, it, cnt, lg, is, rs, rfl, _⟩ := h
    rfl
  · obtain ⟨t, it, cnt, lg, is, rs, rfl, Tb, q⟩ := h
    refine ⟨_, pss_one (ps_ret (pe_callB (cr_sortedSet rfl) (by rfl) T.sorted (by decide +kernel) (pa_cons (pe_callTy (cr_setI rfl) (by rfl) T.set (by decide +kernel) (pa_cons (pe_lc (own := [("_law_opcode", 1), ("_law_name", 2), ("_law_length", 3), ("_law_is_padding", 4)]) (g := gTup K 4 (gCons (gName 1) (gCons (gName 2) (gCons (gName 3) (gCons (gName 4) gNil))))) (by rfl) scLPad.nd (pi_tup (pe_ix ix_tup (pv 0) pe_int (fun _ _ => rfl)))
          (blkOk_by (own := [("_law_opcode", 1), ("_law_name", 2), ("_law_length", 3), ("_law_is_padding", 4)]) (N := ["_law_table_here", "_law_opcode", "_law_name", "_law_length", "_law_is_padding"]) (sc := defScope s_law_padding) (by decide +kernel))
          (fun _ _ _ _ _ => pg_tup rfl (pgs_cons (pg_name (i := 1) scLPad.nd rfl (Or.inl rfl)) (pgs_cons (pg_name (i := 2) scLPad.nd rfl (Or.inl rfl)) (pgs_cons (pg_name (i := 3) scLPad.nd rfl (Or.inl rfl)) (pgs_cons (pg_name (i := 4) scLPad.nd rfl (Or.inl rfl)) pgs_nil)))))
          (fun _ _ _ _ _ => pts_one (pt_val (pv 4))) (fun _ _ _ _ _ => pv 3)) pa_nil)) pa_nil))), ?_⟩
    have i1 : ∀ x y : V, atI [x, y] 1 = some y := fun x y => atI_nat (j := 1) rfl
    have hit := Tb.its
    have rl := Tb.rows.1
    have few := Tb.ok.few
    refine ⟨_, rfl, t, _, _, _, rfl, rfl, SqT.of Tb.at_, i1 _ _, it, rfl, ⟨_, SqT.of hit⟩, fun D nD => lc_tup (K := K) (a := it) (xs := rs.map V.ref) (fun i G => Mk H G D ((padZ (is.take i)).map V.int)) (.start nD) (fun i G _ mk => mk.same.tup (SqT.of hit)) ?_ ?_⟩
    · intro i x G hx mk
      obtain ⟨hi, r, rfl, hr2, _⟩ := rows_at Tb.rows hx
      have pl : (padZ (is.take i)).length ≤ 72 := by
        unfold padZ
        rw [List.length_map]
        refine Nat.le_trans (List.length_filter_le _ _) ?_
        rw [List.length_take]
        omega
      refine ⟨r, _, rfl, SqT.of (mk.same _ _ hr2), rfl, _, _, rfl, _, _, rfl, _, _, rfl, _, _, rfl, rfl, rfl, _, rfl, _, rfl, ?_⟩
      have tm := take_more (List.getElem?_eq_getElem hi)
      by_cases pd : (is[i]).pad = true
      · have ep : padZ (is.take (i + 1)) = padZ (is.take i) ++ [((is[i]).ln : Int)] := by
          unfold padZ
          rw [tm, List.filter_append, List.map_append, List.filter_cons_of_pos pd]
          rfl
        rw [pd]
        refine iteT ⟨_, rfl, _, mk.at_, by rw [List.length_map, sizeLine_eq]; omega, ?_⟩
        rw [ep, List.map_append]
        exact mk.put (Same.refl _)
      · have ep : padZ (is.take (i + 1)) = padZ (is.take i) := by
          unfold padZ
          rw [tm, List.filter_append, List.filter_cons_of_neg pd, List.filter_nil, List.append_nil]
        rw [Bool.not_eq_true] at pd
        rw [pd]
        exact iteF (by rw [ep]; exact mk)
    · intro G mk
      rw [List.length_map, rl, List.take_length] at mk
      have zl : (padZ is).length ≤ 72 := by
        unfold padZ
        rw [List.length_map]
        exact Nat.le_trans (List.length_filter_le _ _) few
      refine ⟨D, padZ is, rfl, SqL.of mk.at_, by omega, fun a ds na nd sub => ?_⟩
      have dl : ds.length ≤ 13 := nodup_int 13 ds nd fun d hd => by
        obtain ⟨x, hx, _, e⟩ := (padZ_mem is d).mp (sub d hd)
        have := Tb.ok.len x hx
        have := Tb.ok.lb
        omega
      refine ⟨a, _, ds.length, rfl, upd_same, by omega, fun ns p asc mem len np => ?_⟩
      have sa := same_upd (o := SetO w a (fun j => decide (j ∈ padZ is)) ds.length) na
      have sp := same_upd (o := HO.lst (ns.map V.int)) np
      refine q _ p ns (mk.same.trans (sa.trans sp)) (mk.same.free (sa.free np)) ⟨asc, fun k => ?_⟩ (by omega) upd_same
      rw [mem k, decide_eq_true_eq]
      exact padZ_mem is k
end
end Ov
namespace Ov
open PySem PySem.Spec PyProof.Rows L2
/-- is w a sum of these lengths -/
def rr (ns : List Int) (w : Nat) : Bool := reached (leasts (ns.map Int.toNat)) w
end Ov
namespace Ov
open PySem PySem.Spec PyProof.Rows L2
section
variable {P : Program} {w : World} {K : PySem.W.Frag} {mg : Str → Option Value} {base : Heap}
def spLLongest : Sp := fun vs H Q _ => ∃ (t it : Addr) (cnt lg : Nat) (is : List I4) (rs : List Addr), vs = [.ref t] ∧ Tab H t cnt lg is it rs ∧ ∀ H', Same H H' → Q (.int (lonOf is : Int)) H'
theorem scLLongest : FnScope ["_law_table_here", "_law_opcode", "_law_name", "_law_length", "_law_is_padding"] ["_law_table_here"] (defScope sLLongest) := ⟨rfl, rfl, rfl, by decide +kernel, rfl, by decide +kernel, by decide +kernel⟩
theorem ok_llongest {f : Addr} {fd : FuncData} {k : Nat} (F : Fun K "_law_longest" "_law_longest" sLLongest f fd) (T : Bi mg) : FnOk P w K mg base CX0 (k + 1) f fd ["_law_table_here"] spLLongest := by
  refine F.ok scLLongest (fun vs H Q E h => ?_) (fun cdv A' outer s H vs Q E hr h => ?_)
  · obtain ⟨t, it, cnt, lg, is, rs, rfl, _⟩ := h
    rfl
  · obtain ⟨t, it, cnt, lg, is, rs, rfl, M, q⟩ := h
    refine ⟨_, pss_one (ps_ret (pe_callB (cr_max rfl) (by rfl) T.max (by decide +kernel) (pa_cons (pe_lc (own := [("_law_opcode", 1), ("_law_name", 2), ("_law_length", 3), ("_law_is_padding", 4)]) (g := gTup K 4 (gCons (gName 1) (gCons (gName 2) (gCons (gName 3) (gCons (gName 4) gNil))))) (tt := tYes) (by rfl) scLLongest.nd (pi_tup (pe_ix ix_tup (pv 0) pe_int (fun _ _ => rfl)))
          (blkOk_by (own := [("_law_opcode", 1), ("_law_name", 2), ("_law_length", 3), ("_law_is_padding", 4)]) (N := ["_law_table_here", "_law_opcode", "_law_name", "_law_length", "_law_is_padding"]) (sc := defScope sLLongest) (by decide +kernel))
          (fun _ _ _ _ _ => pg_tup rfl (pgs_cons (pg_name (i := 1) scLLongest.nd rfl (Or.inl rfl)) (pgs_cons (pg_name (i := 2) scLLongest.nd rfl (Or.inl rfl)) (pgs_cons (pg_name (i := 3) scLLongest.nd rfl (Or.inl rfl)) (pgs_cons (pg_name (i := 4) scLLongest.nd rfl (Or.inl rfl)) pgs_nil)))))
          (fun _ _ _ _ _ => pts_nil) (fun _ _ _ _ _ => pv 3)) pa_nil))), ?_⟩
    have hit := M.its
    have rl := M.rows.1
    have few := M.ok.few
    have ne : 0 < is.length := List.length_pos_iff.mpr M.ok.ne
    have i1 : ∀ x y : V, atI [x, y] 1 = some y := fun x y => atI_nat (j := 1) rfl
    refine ⟨_, rfl, t, _, _, _, rfl, rfl, SqT.of M.at_, i1 _ _, it, rfl, ⟨_, SqT.of hit⟩, fun D nD => lc_tup (K := K) (a := it) (xs := rs.map V.ref) (fun i H2 => Mk H H2 D (((is.take i).map fun x => (x.ln : Int)).map V.int)) (.start nD) (fun i H2 _ p => p.same.tup (SqT.of hit)) ?_ ?_⟩
    · intro i x H2 hx mk
      obtain ⟨hi, r, rfl, hr2, _⟩ := rows_at M.rows hx
      refine ⟨r, _, rfl, SqT.of (mk.same _ _ hr2), rfl, _, _, rfl, _, _, rfl, _, _, rfl, _, _, rfl, rfl, rfl, _, rfl, _, mk.at_, (by rw [List.length_map, List.length_map, List.length_take]; exact small1000 (by omega)), ?_⟩
      rw [take_more (List.getElem?_eq_getElem hi), List.map_append, List.map_append]
      exact mk.put (Same.refl _)
    intro H2 mk
    rw [List.length_map, rl, List.take_length] at mk
    refine ⟨D, _, rfl, SqL.of mk.at_, by rw [List.length_map]; exact ne, fun m m1 m2 => ?_⟩
    rw [lon_eq m1 m2]
    exact q H2 mk.same
end
end Ov
namespace Ov
open PySem PySem.Spec PyProof.Rows L2
theorem TabOk.mapped {cnt : Nat} {is : List I4} (ok : TabOk cnt 12 is) (g : I4 → I4) (h1 : ∀ x, (g x).op = x.op) (h2 : ∀ x, (g x).nm = x.nm) (h3 : ∀ x ∈ is, 1 ≤ (g x).ln ∧ (g x).ln ≤ 12) : TabOk cnt 12 (is.map g) := by
  have e1 : (is.map g).map I4.op = is.map I4.op := by rw [List.map_map]; exact List.map_congr_left fun x _ => h1 x
  have e2 : (is.map g).map I4.nm = is.map I4.nm := by rw [List.map_map]; exact List.map_congr_left fun x _ => h2 x
  refine ⟨ok.cb, ok.lb, ?_, ?_, ?_, ?_, ?_, ?_, ?_⟩
  · intro z; exact ok.ne (List.map_eq_nil_iff.mp z)
  · rw [List.length_map]; exact ok.few
  · rw [e1]; exact ok.asc
  · intro x hx
    obtain ⟨y, hy, rfl⟩ := List.mem_map.mp hx
    rw [h1]; exact ok.ops y hy
  · intro x hx
    obtain ⟨y, hy, rfl⟩ := List.mem_map.mp hx
    exact h3 y hy
  · intro x hx
    obtain ⟨y, hy, rfl⟩ := List.mem_map.mp hx
    rw [h2]; exact ok.nms y hy
  · rw [e2]; exact ok.nd
def noPad (x : I4) : I4 := ⟨x.op, x.nm, x.ln, false⟩
def sized (n : Nat) (x : I4) : I4 := if x.pad = true then ⟨x.op, x.nm, n, true⟩ else x
theorem Rows.butL {H H' : Hp} {D : Addr} {xs : List V} {rs : List Addr} {is : List I4} (h : Rows H rs is) (b : But D H H') (hD : H D = some (.lst xs)) : Rows H' rs is :=
  ⟨h.1, fun i r x h1 h2 => b _ _ (h.2 i r x h1 h2) fun z => by have := h.2 i r x h1 h2; rw [z, hD] at this; cases this⟩
section
variable {P : Program} {w : World} {K : PySem.W.Frag} {mg : Str → Option Value} {base : Heap}
def spLess : Sp := fun vs H Q _ => ∃ (p t it : Addr) (n cnt : Nat) (is : List I4) (rs : List Addr), vs = [.ref p, .ref t] ∧ BoxAt H p n ∧ n ≤ 2 ^ 39 ∧ Tab H t cnt 12 is it rs ∧
  ∀ H' t' it' is' rs', But p H H' → BoxAt H' p (n + 2) → Tab H' t' cnt 12 is' it' rs' → Q (.ref t') H'
theorem scLess : FnScope ["_law_box_here", "_law_table_here", "_law_way", "_law_size", "_law_one"] ["_law_box_here", "_law_table_here"] (defScope s_law_with_less) := ⟨rfl, rfl, rfl, by decide +kernel, rfl, by decide +kernel, by decide +kernel⟩
theorem ok_less {f fO fT : Addr} {fd fdO fdT : FuncData} {k : Nat} (F : Fun K "_law_with_less" "_law_with_less" s_law_with_less f fd) (T : Bi mg)
    (O : Def K mg "_law_of" sOf fO fdO ["_law_box_here", "_law_some_here"]) (GO : FnOk P w K mg base CX0 k fO fdO ["_law_box_here", "_law_some_here"] spOf)
    (Tk : Def K mg "_law_take" sTake fT fdT ["_law_box_here", "_law_many"]) (GT : FnOk P w K mg base CX0 k fT fdT ["_law_box_here", "_law_many"] spTake) :
    FnOk P w K mg base CX0 (k + 1) f fd ["_law_box_here", "_law_table_here"] spLess := by
  refine F.ok scLess (fun vs H Q E h => ?_) (fun cdv A' outer s H vs Q E hr h => ?_)
  · obtain ⟨p, t, it, n, cnt, is, rs, rfl, _⟩ := h
    rfl
  · obtain ⟨p, t, it, n, cnt, is, rs, rfl, B, hn, Tb, q⟩ := h
    refine ⟨_, pss_cons (ps_set (i := 2) scLess.nd rfl (.inl rfl) (pe_call GT hr (by rfl) Tk.gl Tk.fn.kp Tk.bi .nil pass0 (pa_cons (pv 0) (pa_cons pe_int pa_nil))))
      (pss_cons (ps_if (pt_cmpR op_eq (pv 2) pe_int (nomark _)) (pss_one (ps_ret (pe_tup (pa_cons (pe_ix ix_tup (pv 1) pe_int (fun _ _ => rfl)) (pa_cons (pe_callTy call_tuple_of (by rfl) T.tuple (by decide +kernel) (pa_cons
          (pe_lc (own := [("_law_one", 4)]) (g := gName 4) (tt := tYes) (by rfl) scLess.nd (pi_tup (pe_ix ix_tup (pv 1) pe_int (fun _ _ => rfl)))
            (blkOk_by (own := [("_law_one", 4)]) (N := ["_law_box_here", "_law_table_here", "_law_way", "_law_size", "_law_one"]) (sc := defScope s_law_with_less) (by decide +kernel))
            (fun _ _ _ _ _ => pg_name (i := 4) scLess.nd rfl (Or.inl rfl)) (fun _ _ _ _ _ => pts_nil)
            (fun _ _ _ _ _ => pe_op (r := rCatA K) op_catA (pe_slice (r := rSlA K) sl_tupA (pv 4) po_none (po_some pe_int)) (pe_tup (pa_cons pe_bl pa_nil)))) pa_nil)) pa_nil))))) pss_nil)
      (pss_cons (ps_if (pt_cmpR op_eq (pv 2) pe_int (nomark _)) (pss_cons (ps_set (i := 3) scLess.nd rfl (.inr rfl) (pe_call GO hr (by rfl) O.gl O.fn.kp O.bi .nil pass0 (pa_cons (pv 0) (pa_cons (pe_lst (pa_cons pe_int (pa_cons pe_int (pa_cons pe_int pa_nil)))) pa_nil))))
        (pss_one (ps_ret (pe_tup (pa_cons (pe_ix ix_tup (pv 1) pe_int (fun _ _ => rfl)) (pa_cons (pe_callTy call_tuple_of (by rfl) T.tuple (by decide +kernel) (pa_cons
          (pe_lc (own := [("_law_one", 4)]) (g := gName 4) (tt := tYes) (by rfl) scLess.nd (pi_tup (pe_ix ix_tup (pv 1) pe_int (fun _ _ => rfl)))
            (blkOk_by (own := [("_law_one", 4)]) (N := ["_law_box_here", "_law_table_here", "_law_way", "_law_size", "_law_one"]) (sc := defScope s_law_with_less) (by decide +kernel))
            (fun _ _ _ _ _ => pg_name (i := 4) scLess.nd rfl (Or.inl rfl)) (fun _ _ _ _ _ => pts_nil)
            (fun _ _ _ _ _ => pe_ifExp (pt_val (pe_ix (r := rIxT K) ix_tup (pv 4) pe_int (fun _ _ => rfl))) (pe_op (r := rCatA K) op_catA (pe_slice (r := rSlA K) sl_tupA (pv 4) po_none (po_some pe_int)) (pe_tup (pa_cons (pv 3) (pa_cons pe_bl pa_nil)))) (pv 4))) pa_nil)) pa_nil)))))) pss_nil)
      (pss_one (ps_ret (pv 1))))), ?_⟩
    have i0 : ∀ x y : V, atI [x, y] 0 = some x := fun x y => atI_nat (j := 0) rfl
    have i1 : ∀ x y : V, atI [x, y] 1 = some y := fun x y => atI_nat (j := 1) rfl
    have i3 : ∀ x y z u : V, atI [x, y, z, u] 3 = some u := fun x y z u => atI_nat (j := 3) rfl
    refine ⟨_, rfl, p, 5, n, rfl, B, by omega, by decide, by decide, fun H1 way b1 B1 w0 w1 f1 => ?_⟩
    have T1 := Tb.but b1 B
    have hit := T1.its
    have few := T1.ok.few
    -- the end of both ways
    have fin : ∀ (g : I4 → I4) (H2 G : Hp) (D it' t' : Addr) (rs' : List Addr), (∀ x, (g x).op = x.op) → (∀ x, (g x).nm = x.nm) → (∀ x ∈ is, 1 ≤ (g x).ln ∧ (g x).ln ≤ 12) → But p H H2 → BoxAt H2 p (n + 2) → Mk H2 G D (rs'.map V.ref) → Rows G rs' (is.map g) → G it' = none →
        upd G it' (.tup (rs'.map V.ref)) t' = none → Q (.ref t') (upd (upd G it' (.tup (rs'.map V.ref))) t' (.tup [.int (cnt : Int), .ref it'])) := fun g H2 G D it' t' rs' h1 h2 h3 b2 B2 mk rw' ni nt => by
      have si := same_upd (o := HO.tup (rs'.map V.ref)) ni
      have st := same_upd (o := HO.tup [.int (cnt : Int), .ref it']) nt
      have s := mk.same.trans (si.trans st)
      exact q _ t' it' (is.map g) rs' (b2.trans (But.of s)) (B2.same s) ⟨upd_same, st _ _ upd_same, rw'.same (si.trans st), T1.ok.mapped g h1 h2 h3⟩
    refine ⟨_, rfl, rfl, _, rfl, ?_⟩
    by_cases c0 : way = 0
    · subst c0
      refine iteT ⟨_, rfl, t, _, _, _, rfl, rfl, SqT.of T1.at_, i0 _ _, ?_⟩
      refine ⟨_, rfl, t, _, _, _, rfl, rfl, SqT.of T1.at_, i1 _ _, it, rfl, ⟨_, SqT.of hit⟩, fun D nD => lc_tup (K := K) (a := it) (xs := rs.map V.ref) (fun i G => ∃ rs' : List Addr, Mk H1 G D (rs'.map V.ref) ∧ Rows G rs' ((is.take i).map noPad)) ⟨[], .start nD, ⟨rfl, fun i r x h => by simp at h⟩⟩ (fun i G _ ⟨_, mk, _⟩ => mk.same.tup (SqT.of hit)) ?_ ?_⟩
      · rintro i x G hx ⟨rs', mk, rw'⟩
        obtain ⟨hi, r, rfl, hr2, _⟩ := rows_at T1.rows hx
        have rl := rw'.1
        have hr3 := mk.same _ _ hr2
        have hlen : rs'.length ≤ 72 := by
          rw [rl, List.length_map, List.length_take]; omega
        refine ⟨rfl, _, rfl, 3, rfl, cut_x (Same.refl G) (SqT.of hr3) fun l G1 U1 g S1 => ?_⟩
        rw [show (3 : Int) = ((3 : Nat) : Int) from rfl, cut_to] at S1
        refine ⟨by show 1 ≤ sizeLine; decide, fun b nb => ?_⟩
        have sb := same_upd (o := HO.tup [V.bl false]) nb
        refine ⟨l, b, _, [V.bl false], rfl, rfl, sb.tup (g.th.tup S1), SqT.of upd_same, by show _ ≤ sizeLine; rw [sizeLine_eq]; show 3 + 1 ≤ _; omega, (fun e => absurd e (by show [_, _, _] ≠ []; simp)), (fun _ e => absurd e (by simp)), fun _ _ r2 nr2 => ?_⟩
        have s2 := same_upd (o := HO.tup (List.take 3 (is[i]).vs ++ [V.bl false])) nr2
        have sG := g.hh.trans (sb.trans s2)
        refine ⟨_, sG _ _ mk.at_, by rw [List.length_map, sizeLine_eq]; omega, rs' ++ [r2], by rw [List.map_append]; exact mk.put sG, ?_⟩
        rw [take_more (List.getElem?_eq_getElem hi), List.map_append]
        exact ((rw'.same sG).more (x := noPad is[i]) upd_same).butL (D := D) (fun c o e n => by rw [upd_ne n]; exact e) (sG _ _ mk.at_)
      · rintro G ⟨rs', mk, rw'⟩
        rw [List.length_map, T1.rows.1, List.take_length] at rw'
        refine ⟨D, _, rfl, .inl ⟨SqL.of mk.at_, fun it' ni => ?_⟩⟩
        refine ⟨by show 2 ≤ sizeLine; decide, fun t' nt => ?_⟩
        exact fin noPad H1 G D it' t' rs' (fun _ => rfl) (fun _ => rfl) (fun x hx => T1.ok.len x hx) b1 (B1.mono (by omega)) mk rw' ni nt
    · rw [decide_eq_false (fun z => c0 (V.int.inj z))]
      refine iteF ⟨_, rfl, rfl, _, rfl, ?_⟩
      by_cases c1 : way = 1
      · subst c1
        refine iteT ⟨_, rfl, by show 3 ≤ sizeLine; decide, fun l nl => ?_⟩
        have sl := same_upd (o := HO.lst [V.int 2, V.int 3, V.int 4]) nl
        refine ⟨p, l, n + 1, _, rfl, B1.same sl, by omega, upd_same, (fun z => B1.ne (z ▸ nl)), by show 0 < 3; decide, by show 3 ≤ 1000; decide, fun H2 v mv b2 B2 f2 => ?_⟩
        obtain ⟨sz, rfl, z1, z2⟩ : ∃ sz : Nat, v = .int (sz : Int) ∧ 1 ≤ sz ∧ sz ≤ 12 := by
          rcases List.mem_cons.mp mv with rfl | mv
          · exact ⟨2, rfl, by decide, by decide⟩
          rcases List.mem_cons.mp mv with rfl | mv
          · exact ⟨3, rfl, by decide, by decide⟩
          · exact ⟨4, List.mem_singleton.mp mv, by decide, by decide⟩
        have b12 := b1.trans ((But.of sl).trans b2)
        have T2 := (T1.same sl).but b2 (B1.same sl)
        have hit2 := T2.its
        refine ⟨_, rfl, t, _, _, _, rfl, rfl, SqT.of T2.at_, i0 _ _, ?_⟩
        refine ⟨_, rfl, t, _, _, _, rfl, rfl, SqT.of T2.at_, i1 _ _, it, rfl, ⟨_, SqT.of hit2⟩, fun D nD => lc_tup (K := K) (a := it) (xs := rs.map V.ref) (fun i G => ∃ rs' : List Addr, Mk H2 G D (rs'.map V.ref) ∧ Rows G rs' ((is.take i).map (sized sz))) ⟨[], .start nD, ⟨rfl, fun i r x h => by simp at h⟩⟩ (fun i G _ ⟨_, mk, _⟩ => mk.same.tup (SqT.of hit2)) ?_ ?_⟩
        · rintro i x G hx ⟨rs', mk, rw'⟩
          obtain ⟨hi, r, rfl, hr2, _⟩ := rows_at T2.rows hx
          have rl := rw'.1
          have hr3 := mk.same _ _ hr2
          have hlen : rs'.length ≤ 72 := by
            rw [rl, List.length_map, List.length_take]; omega
          have tm := take_more (List.getElem?_eq_getElem hi)
          refine ⟨rfl, _, rfl, r, _, _, _, rfl, rfl, SqT.of hr3, i3 _ _ _ _, _, rfl, ?_⟩
          by_cases pd : (is[i]).pad = true
          · rw [pd]
            have es : sized sz is[i] = ⟨(is[i]).op, (is[i]).nm, sz, true⟩ := by unfold sized; rw [if_pos pd]
            refine iteT ⟨_, rfl, 2, rfl, cut_x (Same.refl G) (SqT.of hr3) fun l G1 U1 g S1 => ?_⟩
            rw [show (2 : Int) = ((2 : Nat) : Int) from rfl, cut_to] at S1
            refine ⟨_, rfl, by show 2 ≤ sizeLine; decide, fun b nb => ?_⟩
            have sb := same_upd (o := HO.tup [V.int (sz : Int), V.bl true]) nb
            refine ⟨l, b, _, [V.int (sz : Int), V.bl true], rfl, rfl, sb.tup (g.th.tup S1), SqT.of upd_same, by show _ ≤ sizeLine; rw [sizeLine_eq]; show 2 + 2 ≤ _; omega, (fun e => absurd e (by show [_, _] ≠ []; simp)), (fun _ e => absurd e (by simp)), fun _ _ r2 nr2 => ?_⟩
            have s2 := same_upd (o := HO.tup (List.take 2 (is[i]).vs ++ [V.int (sz : Int), V.bl true])) nr2
            have sG := g.hh.trans (sb.trans s2)
            refine ⟨_, sG _ _ mk.at_, by rw [List.length_map, sizeLine_eq]; omega, rs' ++ [r2], by rw [List.map_append]; exact mk.put sG, ?_⟩
            rw [tm, List.map_append]
            refine ((rw'.same sG).more (x := sized sz is[i]) ?_).butL (D := D) (fun c o e n => by rw [upd_ne n]; exact e) (sG _ _ mk.at_)
            rw [es]
            exact upd_same
          · have es : sized sz is[i] = is[i] := by unfold sized; rw [if_neg pd]
            rw [Bool.not_eq_true] at pd
            rw [pd]
            refine iteF ⟨_, rfl, _, mk.at_, by rw [List.length_map, sizeLine_eq]; omega, rs' ++ [r], by rw [List.map_append]; exact mk.put (Same.refl _), ?_⟩
            rw [tm, List.map_append]
            refine (rw'.more (x := sized sz is[i]) ?_).butL (D := D) (fun c o e n => by rw [upd_ne n]; exact e) mk.at_
            rw [es]
            exact hr3
        · rintro G ⟨rs', mk, rw'⟩
          rw [List.length_map, T2.rows.1, List.take_length] at rw'
          refine ⟨D, _, rfl, .inl ⟨SqL.of mk.at_, fun it' ni => ?_⟩⟩
          refine ⟨by show 2 ≤ sizeLine; decide, fun t' nt => ?_⟩
          refine fin (sized sz) H2 G D it' t' rs' (fun x => ?_) (fun x => ?_) (fun x hx => ?_) b12 (B2.mono (by omega)) mk rw' ni nt
          · unfold sized; split <;> rfl
          · unfold sized; split <;> rfl
          · unfold sized
            split
            · exact ⟨z1, z2⟩
            · exact T1.ok.len x hx
      · rw [decide_eq_false (fun z => c1 (V.int.inj z))]
        refine iteF ⟨_, rfl, q H1 t it is rs b1 (B1.mono (by omega)) T1⟩
end
end Ov
namespace Ov
open PySem PySem.Spec PyProof.Rows L2
theorem rg_asc (i c : Int) (n : Nat) (hc : 0 < c) : (((List.range n).map fun k => i + ((k : Nat) : Int) * c)).Pairwise (· < ·) := by
  rw [List.pairwise_map]
  refine List.Pairwise.imp (fun {a b} h => ?_) List.pairwise_lt_range
  have : (a : Int) * c < (b : Int) * c := Int.mul_lt_mul_of_pos_right (by omega) hc
  omega
theorem rg3_eq (i c : Int) (n : Nat) : rg3V i c n = ((List.range n).map fun k => i + ((k : Nat) : Int) * c).map V.int := by
  unfold rg3V
  rw [List.map_map]
  rfl
theorem rgV_eq (b : Nat) : rgV 0 (b : Int) = ((List.range b).map fun k => ((k : Nat) : Int)).map V.int := by
  unfold rgV
  rw [List.map_map, show ((b : Int) - 0).toNat = b by omega]
  refine List.map_congr_left fun k _ => ?_
  show V.int (0 + (k : Int)) = V.int (k : Int)
  rw [Int.zero_add]
theorem rg_small : ∀ i : Fin 12, ∀ j : Fin 13, ∀ c : Fin 5, c.val ≠ 0 → Builtin.Range.small (i.val : Int) (j.val : Int) (c.val : Int) = true ∧ 0 ≤ Builtin.Range.rangeSize (i.val : Int) (j.val : Int) (c.val : Int) ∧ Builtin.Range.rangeSize (i.val : Int) (j.val : Int) (c.val : Int) ≤ 12 ∧
    ∀ k : Fin 12, (k.val : Int) < Builtin.Range.rangeSize (i.val : Int) (j.val : Int) (c.val : Int) → (i.val : Int) + (k.val : Int) * (c.val : Int) < (j.val : Int) := by decide +kernel
theorem cds_all (L : Nat) (h : L ≤ 12) : Cds L ((List.range L).map fun k => ((k : Nat) : Int)) := by
  refine ⟨fun c hc => ?_, ?_, by rw [List.length_map, List.length_range]; omega⟩
  · obtain ⟨k, hk, rfl⟩ := List.mem_map.mp hc
    have := List.mem_range.mp hk
    omega
  · rw [List.pairwise_map]
    exact List.Pairwise.imp (fun {a b} h => by omega) List.pairwise_lt_range
section
variable {P : Program} {w : World} {K : PySem.W.Frag} {mg : Str → Option Value} {base : Heap}
def spSome : Sp := fun vs H Q _ => ∃ (p : Addr) (n L : Nat), vs = [.ref p, .int (L : Int)] ∧ BoxAt H p n ∧ n ≤ 2 ^ 39 ∧ 1 ≤ L ∧ L ≤ 12 ∧
  ∀ H' r cs, But p H H' → BoxAt H' p (n + 20) → H' r = some (.tup (cs.map V.int)) → Cds L cs → cs.length ≤ 12 → Q (.ref r) H'
theorem scSome : FnScope ["_law_box_here", "_law_longest_here", "_law_way", "_law_first", "_law_one"] ["_law_box_here", "_law_longest_here"] (defScope s_law_some) := ⟨rfl, rfl, rfl, by decide +kernel, rfl, by decide +kernel, by decide +kernel⟩
theorem ok_some {f fO fT : Addr} {fd fdO fdT : FuncData} {k : Nat} (F : Fun K "_law_some" "_law_some" s_law_some f fd) (T : Bi mg)
    (O : Def K mg "_law_of" sOf fO fdO ["_law_box_here", "_law_some_here"]) (GO : FnOk P w K mg base CX0 k fO fdO ["_law_box_here", "_law_some_here"] spOf)
    (Tk : Def K mg "_law_take" sTake fT fdT ["_law_box_here", "_law_many"]) (GT : FnOk P w K mg base CX0 k fT fdT ["_law_box_here", "_law_many"] spTake) :
    FnOk P w K mg base CX0 (k + 1) f fd ["_law_box_here", "_law_longest_here"] spSome := by
  refine F.ok scSome (fun vs H Q E h => ?_) (fun cdv A' outer s H vs Q E hr h => ?_)
  · obtain ⟨p, n, L, rfl, _⟩ := h
    rfl
  · obtain ⟨p, n, L, rfl, B, hn, L1, L2, q⟩ := h
    refine ⟨_, pss_cons (ps_set (i := 2) scSome.nd rfl (.inl rfl) (pe_call GT hr (by rfl) Tk.gl Tk.fn.kp Tk.bi .nil pass0 (pa_cons (pv 0) (pa_cons pe_int pa_nil))))
      (pss_cons (ps_if (pt_cmpR op_eq (pv 2) pe_int (nomark _)) (pss_one (ps_ret (pe_tupRg (by rfl) (by rfl) T.tuple (prg_1 (by rfl) T.range (pv 1))))) pss_nil)
      (pss_cons (ps_if (pt_cmpR op_eq (pv 2) pe_int (nomark _)) (pss_cons (ps_set (i := 3) scSome.nd rfl (.inl rfl) (pe_call GT hr (by rfl) Tk.gl Tk.fn.kp Tk.bi .nil pass0 (pa_cons (pv 0) (pa_cons (pv 1) pa_nil))))
        (pss_one (ps_ret (pe_tupRg3 (by rfl) (by rfl) T.tuple (by rfl) T.range (pa_cons (pv 3) (pa_cons (pv 1) (pa_cons (pe_call GO hr (by rfl) O.gl O.fn.kp O.bi .nil pass0 (pa_cons (pv 0) (pa_cons (pe_lst (pa_cons pe_int (pa_cons pe_int (pa_cons pe_int (pa_cons pe_int pa_nil))))) pa_nil))) pa_nil))))))) pss_nil)
      (pss_one (ps_ret (pe_callTy call_tuple_of (by rfl) T.tuple (by decide +kernel) (pa_cons
          (pe_lc (own := [("_law_one", 4)]) (g := gName 4) (by rfl) scSome.nd (pi_range1 (by rfl) T.range (pa_cons (pv 1) pa_nil))
            (blkOk_by (own := [("_law_one", 4)]) (N := ["_law_box_here", "_law_longest_here", "_law_way", "_law_first", "_law_one"]) (sc := defScope s_law_some) (by decide +kernel))
            (fun _ _ _ _ _ => pg_name (i := 4) scSome.nd rfl (Or.inl rfl)) (fun _ _ _ _ _ => pts_one (pt_cmpR op_eq (pe_call GT hr (by rfl) Tk.gl Tk.fn.kp Tk.bi .nil pass0 (pa_cons (pv 0) (pa_cons pe_int pa_nil))) pe_int (nomark _)))
            (fun _ _ _ _ _ => pv 4)) pa_nil)))))), ?_⟩
    refine ⟨_, rfl, p, 4, n, rfl, B, by omega, by decide, by decide, fun H1 way b1 B1 w0 w1 f1 => ?_⟩
    refine ⟨_, rfl, rfl, _, rfl, ?_⟩
    by_cases c0 : way = 0
    · subst c0
      refine iteT ⟨_, rfl, _, rfl, RgOk.of_le (by omega) (by omega) (by omega) (by omega), fun r nr => ?_⟩
      rw [rgV_eq]
      have sr := same_upd (o := HO.tup (((List.range L).map fun k => ((k : Nat) : Int)).map V.int)) nr
      exact q _ r _ (b1.trans (But.of sr)) ((B1.same sr).mono (by omega)) upd_same (cds_all L L2) (by rw [List.length_map, List.length_range]; omega)
    · rw [decide_eq_false (fun z => c0 (V.int.inj z))]
      refine iteF ⟨_, rfl, rfl, _, rfl, ?_⟩
      by_cases c1 : way = 1
      · subst c1
        refine iteT ⟨_, rfl, _, rfl, p, (L : Int), n + 1, rfl, B1, by omega, by omega, by omega, fun H2 fi b2 B2 z0 z1 f2 => ?_⟩
        obtain ⟨i, rfl⟩ : ∃ i : Nat, fi = (i : Int) := ⟨fi.toNat, by omega⟩
        refine ⟨_, rfl, _, rfl, _, rfl, by show 4 ≤ sizeLine; decide, fun l nl => ?_⟩
        have sl := same_upd (o := HO.lst [V.int 1, V.int 2, V.int 3, V.int 4]) nl
        refine ⟨p, l, n + 1 + 1, _, rfl, B2.same sl, by omega, upd_same, (fun z => B2.ne (z ▸ nl)), by show 0 < 4; decide, by show 4 ≤ 1000; decide, fun H3 v mv b3 B3 f3 => ?_⟩
        obtain ⟨c, rfl, z2, z3⟩ : ∃ c : Nat, v = .int (c : Int) ∧ 0 < c ∧ c < 5 := by
          rcases List.mem_cons.mp mv with rfl | mv
          · exact ⟨1, rfl, by decide, by decide⟩
          rcases List.mem_cons.mp mv with rfl | mv
          · exact ⟨2, rfl, by decide, by decide⟩
          rcases List.mem_cons.mp mv with rfl | mv
          · exact ⟨3, rfl, by decide, by decide⟩
          · exact ⟨4, List.mem_singleton.mp mv, by decide, by decide⟩
        have sm := rg_small ⟨i, by omega⟩ ⟨L, by omega⟩ ⟨c, z3⟩ (by show c ≠ 0; omega)
        dsimp only at sm
        obtain ⟨m1, m2, m3, m4⟩ := sm
        obtain ⟨m, hm⟩ : ∃ m : Nat, Builtin.Range.rangeSize (i : Int) (L : Int) (c : Int) = (m : Int) := ⟨_, (Int.toNat_of_nonneg m2).symm⟩
        rw [hm] at m3 m4
        refine ⟨(i : Int), (L : Int), (c : Int), m, rfl, ⟨by omega, by omega, m1, hm⟩, by omega, fun r nr => ?_⟩
        rw [rg3_eq]
        have sr := same_upd (o := HO.tup (((List.range m).map fun k => (i : Int) + ((k : Nat) : Int) * (c : Int)).map V.int)) nr
        refine q _ r _ (b1.trans (b2.trans ((But.of sl).trans (b3.trans (But.of sr))))) ((B3.same sr).mono (by omega)) upd_same ⟨fun x hx => ?_, rg_asc _ _ _ (by omega), by rw [List.length_map, List.length_range]; omega⟩ (by rw [List.length_map, List.length_range]; omega)
        obtain ⟨k, hk, rfl⟩ := List.mem_map.mp hx
        have kl := List.mem_range.mp hk
        have := m4 ⟨k, by omega⟩ (by show (k : Int) < (m : Int); omega)
        have nn : 0 ≤ (k : Int) * (c : Int) := Int.mul_nonneg (by omega) (by omega)
        exact ⟨by omega, this⟩
      · rw [decide_eq_false (fun z => c1 (V.int.inj z))]
        refine iteF ⟨_, rfl, _, rfl, by omega, by omega, fun D nD => lc_range (lo := 0) (fun i G => ∃ cs : List Int, But p H1 G ∧ BoxAt G p (n + 1 + i) ∧ G D = some (.lst (cs.map V.int)) ∧ cs.length ≤ i ∧ cs.Pairwise (· < ·) ∧ ∀ x ∈ cs, 0 ≤ x ∧ x < (i : Int))
          ⟨[], But.of (same_upd nD), B1.same (same_upd nD), upd_same, by simp, List.Pairwise.nil, by simp⟩ ?_ ?_⟩
        · rintro i G hi ⟨cs, bG, BG, hD, cl, asc, low⟩
          rw [Int.toNat_natCast] at hi
          rw [show (0 : Int) + (i : Int) = (i : Int) by omega]
          have Dp : D ≠ p := fun z => B1.ne (z ▸ nD)
          refine ⟨rfl, _, rfl, p, 3, n + 1 + i, rfl, BG, by omega, by decide, by decide, fun G2 d b2 B2 d0 d1 f2 => ?_⟩
          have hD2 := b2 _ _ hD Dp
          refine ⟨rfl, _, rfl, ?_⟩
          by_cases dz : d = 0
          · subst dz
            refine iteT ⟨_, rfl, _, hD2, by rw [List.length_map, sizeLine_eq]; omega, cs ++ [(i : Int)], fun b o e ne => ?_, ?_, ?_, ?_, ?_, ?_⟩
            · rw [upd_ne (ne_of_none e nD)]
              exact b2 _ _ (bG b o e ne) ne
            · obtain ⟨x1, x2, x3, x4, x5⟩ := B2
              exact ⟨x1, x2, x3, by rw [upd_ne (Ne.symm Dp)]; exact x4, by have := x5; omega⟩
            · rw [upd_same, List.map_append]; rfl
            · rw [List.length_append]; show _ + 1 ≤ _; omega
            · rw [List.pairwise_append]
              exact ⟨asc, List.pairwise_singleton _ _, fun x hx y hy => by rw [List.mem_singleton.mp hy]; exact (low x hx).2⟩
            · intro x hx
              rcases List.mem_append.mp hx with z | z
              · have := low x z; omega
              · rw [List.mem_singleton.mp z]; omega
          · rw [decide_eq_false (fun z => dz (V.int.inj z))]
            exact iteF ⟨cs, bG.trans b2, B2.mono (by omega), hD2, by omega, asc, fun x hx => by have := low x hx; omega⟩
        · rintro G ⟨cs, bG, BG, hD, cl, asc, low⟩
          rw [Int.toNat_natCast] at BG cl low
          refine ⟨D, _, rfl, .inl ⟨SqL.of hD, fun r nr => ?_⟩⟩
          have sr := same_upd (o := HO.tup (cs.map V.int)) nr
          exact q _ r cs (b1.trans (bG.trans (But.of sr))) ((BG.same sr).mono (by omega)) upd_same ⟨low, asc, by omega⟩ (by omega)
end
end Ov
namespace Ov
open PySem PySem.Spec PyProof.Rows L2
/-- B holds where an instruction begins: at each of them padding, and at the end -/
structure Padded (is : List I4) (cs bs : List Int) (B : Nat → Bool) : Prop where
  at0 : ∀ x ∈ cs, 0 ≤ x ∧ x ≤ (bs.length : Int) ∧ B x.toNat = true
  go : ∀ o, o < bs.length → B o = true → ∃ q ∈ pads is, bs[o]? = some (q.1 : Int) ∧ o + q.2 ≤ bs.length ∧ B (o + q.2) = true ∧ 0 < q.2
end Ov
namespace Ov
open PySem PySem.Spec PyProof.Rows L2
section
variable {fit : Nat → Option (Nat × Nat)} {B0 : Nat → Bool}
theorem bld_cases (o : Nat) : ((bld fit B0 o).2 o = true ∧ ∃ q, fit o = some q ∧ bld fit B0 (o + 1) = ((bld fit B0 o).1 ++ [(q.1 : Int)], fun k => (bld fit B0 o).2 k || decide (k = o + q.2))) ∨ (((bld fit B0 o).2 o = true → fit o = none) ∧ bld fit B0 (o + 1) = ((bld fit B0 o).1 ++ [0], (bld fit B0 o).2)) := by
  have e : bld fit B0 (o + 1) = bStep fit o (bld fit B0 o) := rfl
  unfold bStep at e
  cases hb : (bld fit B0 o).2 o with
  | false =>
    rw [hb, if_neg (by decide)] at e
    exact .inr ⟨fun z => Bool.noConfusion z, e⟩
  | true =>
    rw [hb, if_pos rfl] at e
    cases hf : fit o with
    | none => rw [hf] at e; exact .inr ⟨fun _ => rfl, e⟩
    | some q => rw [hf] at e; exact .inl ⟨rfl, q, rfl, e⟩
theorem bld_up {o k : Nat} (h : (bld fit B0 o).2 k = true) : (bld fit B0 (o + 1)).2 k = true := by
  rcases bld_cases (fit := fit) (B0 := B0) o with ⟨_, q, _, e⟩ | ⟨_, e⟩
  · rw [e]; show ((bld fit B0 o).2 k || _) = true; rw [h]; rfl
  · rw [e]; exact h
theorem bld_mono {o k : Nat} : ∀ m, o ≤ m → (bld fit B0 o).2 k = true → (bld fit B0 m).2 k = true
  | 0, h, z => by rw [show o = 0 by omega] at z; exact z
  | m + 1, h, z => by
    by_cases e : o = m + 1
    · rw [← e]; exact z
    · exact bld_up (bld_mono m (by omega) z)
theorem bld_old (pos : ∀ o q, fit o = some q → 0 < q.2) {o k : Nat} (hk : k ≤ o) : ∀ m, o ≤ m → (bld fit B0 m).2 k = (bld fit B0 o).2 k
  | 0, h => by rw [show o = 0 by omega]
  | m + 1, h => by
    by_cases e : o = m + 1
    · rw [← e]
    · have ih := bld_old pos hk m (by omega)
      rcases bld_cases (fit := fit) (B0 := B0) m with ⟨_, q, hq, e2⟩ | ⟨no, e2⟩
      · have := pos m q hq
        rw [e2]
        show ((bld fit B0 m).2 k || _) = _
        rw [ih, decide_eq_false (by omega), Bool.or_false]
      · rw [e2]; exact ih
theorem bld_pre {o : Nat} : ∀ m, o < m → (bld fit B0 m).1[o]? = (bld fit B0 (o + 1)).1[o]?
  | 0, h => absurd h (Nat.not_lt_zero _)
  | m + 1, h => by
    by_cases e : o = m
    · rw [e]
    · have ih := bld_pre (o := o) m (by omega)
      have len := bld_len fit B0 m
      rcases bld_cases (fit := fit) (B0 := B0) m with ⟨_, q, hq, e2⟩ | ⟨no, e2⟩
      · rw [e2]; show ((bld fit B0 m).1 ++ _)[o]? = _; rw [List.getElem?_append_left (by omega), ih]
      · rw [e2]; show ((bld fit B0 m).1 ++ _)[o]? = _; rw [List.getElem?_append_left (by omega), ih]
end
theorem fit_in {a : List (Option Nat)} {is : List I4} {n o : Nat} {q : Nat × Nat} (h : fitF a (pads is) n o = some q) : q ∈ pads is ∧ reachI a ((n : Int) - (o : Int) - (q.2 : Int)) = true := by
  unfold fitF at h
  have z := List.find?_some h
  exact ⟨List.mem_of_find?_eq_some h, z⟩
theorem pads_in {is : List I4} {q : Nat × Nat} (h : q ∈ pads is) : ∃ x ∈ is, x.pad = true ∧ q = (x.op, x.ln) := by
  unfold pads at h
  obtain ⟨x, hx, rfl⟩ := List.mem_map.mp h
  have := List.mem_filter.mp hx
  exact ⟨x, this.1, this.2, rfl⟩
theorem bld_padded {cnt lg : Nat} {is : List I4} {ns cs : List Int} {n : Nat} (ok : TabOk cnt lg is) (PL : PadL is ns) (Ln : Lens ns) (c0 : ∀ x ∈ cs, 0 ≤ x) (hf : hasF (leasts (ns.map Int.toNat)) cs (n : Int) = true) :
    Padded is cs (bld (fitF (leasts (ns.map Int.toNat)) (pads is) n) (fun k : Nat => decide ((k : Int) ∈ cs)) n).1 (bld (fitF (leasts (ns.map Int.toNat)) (pads is) n) (fun k : Nat => decide ((k : Int) ∈ cs)) n).2 := by
  generalize hfit : fitF (leasts (ns.map Int.toNat)) (pads is) n = fit
  generalize hB0 : (fun k : Nat => decide ((k : Int) ∈ cs)) = B0
  have hin : ∀ o q, fit o = some q → q ∈ pads is ∧ reachI (leasts (ns.map Int.toNat)) ((n : Int) - (o : Int) - (q.2 : Int)) = true := fun o q h => by
    rw [← hfit] at h; exact fit_in h
  have pos : ∀ o q, fit o = some q → 0 < q.2 := fun o q h => by
    obtain ⟨x, hx, _, rfl⟩ := pads_in (hin o q h).1
    exact (ok.len x hx).1
  have inv : ∀ o, ∀ k, (bld fit B0 o).2 k = true → k ≤ n ∧ reachI (leasts (ns.map Int.toNat)) ((n : Int) - (k : Int)) = true := by
    intro o
    induction o with
    | zero =>
      intro k hk
      have m : (k : Int) ∈ cs := by rw [← hB0] at hk; exact of_decide_eq_true hk
      have r : reachI (leasts (ns.map Int.toNat)) ((n : Int) - (k : Int)) = true := by
        unfold hasF at hf
        exact List.all_eq_true.mp hf _ m
      exact ⟨by have := reach_le r; omega, r⟩
    | succ o ih =>
      intro k hk
      rcases bld_cases (fit := fit) (B0 := B0) o with ⟨_, q, hq, e2⟩ | ⟨no, e2⟩
      · rw [e2] at hk
        rcases Bool.or_eq_true_iff.mp hk with z | z
        · exact ih k z
        · have ek := of_decide_eq_true z
          have xr := (hin o q hq).2
          have r2 := reach_le xr
          refine ⟨by omega, ?_⟩
          rw [ek, show (n : Int) - ((o + q.2 : Nat) : Int) = (n : Int) - (o : Int) - (q.2 : Int) by omega]
          exact xr
      · rw [e2] at hk; exact ih k hk
  have len := bld_len fit B0 n
  refine ⟨fun x hx => ?_, fun o ho hB => ?_⟩
  · have z := (hasF_iff Ln cs n).mp hf x hx
    have x0 := c0 x hx
    refine ⟨x0, by rw [len]; exact z.1, bld_mono (o := 0) n (Nat.zero_le _) ?_⟩
    show B0 x.toNat = true
    rw [← hB0]
    exact decide_eq_true (by rw [show ((x.toNat : Nat) : Int) = x by omega]; exact hx)
  · rw [len] at ho ⊢
    have hBo : (bld fit B0 o).2 o = true := by rw [← bld_old pos (Nat.le_refl o) n (Nat.le_of_lt ho)]; exact hB
    obtain ⟨on, ro⟩ := inv o o hBo
    obtain ⟨qq, hq, hr3⟩ := fit_some PL Ln ro ho
    rcases bld_cases (fit := fit) (B0 := B0) o with ⟨_, q, hq, e2⟩ | ⟨no, e2⟩
    · obtain ⟨h1, h2⟩ := hin o q hq
      have r2 := reach_le h2
      refine ⟨q, h1, ?_, by omega, bld_mono (o := o + 1) n ho ?_, pos o q hq⟩
      · rw [bld_pre n ho, e2]
        show ((bld fit B0 o).1 ++ [(q.1 : Int)])[o]? = _
        rw [List.getElem?_append_right (by rw [bld_len]; exact Nat.le_refl _), bld_len, Nat.sub_self]
        rfl
      · rw [e2]
        show (_ || decide (o + q.2 = o + q.2)) = true
        rw [decide_eq_true rfl, Bool.or_true]
    · exfalso
      have : ∃ q, fit o = some q := by
        rw [← hfit]
        exact Option.isSome_iff_exists.mp (List.find?_isSome.mpr ⟨qq, hq, hr3⟩)
      obtain ⟨q, hq2⟩ := this
      rw [no hBo] at hq2
      cases hq2
end Ov
namespace Ov
open PySem PySem.Spec PyProof.Rows L2
theorem valM_not : ∀ (more kvs : List (Key × V)) (k : Key), k ∉ more.map (·.1) → valV (mergeK kvs more) k = valV kvs k
  | [], kvs, k, _ => rfl
  | kv :: more, kvs, k, h => by
    show valV (mergeK (putK kvs kv.1 kv.2) more) k = _
    rw [valM_not more _ k (fun z => h (by rw [List.map_cons]; exact List.mem_cons_of_mem _ z)), valV_put, if_neg (fun z => h (by rw [List.map_cons, z]; exact List.mem_cons_self))]
theorem valM_mem : ∀ (more kvs : List (Key × V)) (k : Key) (v : V), (more.map (·.1)).Nodup → (k, v) ∈ more → valV (mergeK kvs more) k = some v
  | [], _, _, _, _, h => nomatch h
  | kv :: more, kvs, k, v, nd, h => by
    show valV (mergeK (putK kvs kv.1 kv.2) more) k = _
    rw [List.map_cons, List.nodup_cons] at nd
    rcases List.mem_cons.mp h with rfl | h
    · rw [valM_not more _ _ nd.1, valV_put, if_pos rfl]
    · exact valM_mem more _ k v nd.2 h
theorem padKV_nd {cnt lg : Nat} {is : List I4} (ok : TabOk cnt lg is) : ((padKV is).map (·.1)).Nodup := by
  unfold padKV pads
  rw [List.map_map, List.map_map]
  have a := ok.asc
  rw [List.pairwise_map] at a
  have b : (is.filter I4.pad).Pairwise fun x y => x.op < y.op := a.sublist List.filter_sublist
  rw [List.nodup_iff_pairwise_ne, List.pairwise_map]
  exact b.imp fun {x y} h z => by
    have e : (x.op : Int) = (y.op : Int) := Sum.inl.inj z
    omega
theorem padKV_val {cnt lg : Nat} {is : List I4} (ok : TabOk cnt lg is) {q : Nat × Nat} (h : q ∈ pads is) : valV (mergeK [] (padKV is)) (Sum.inl (q.1 : Int)) = some (V.int (q.2 : Int)) :=
  valM_mem _ _ _ _ (padKV_nd ok) (List.mem_map.mpr ⟨q, h, rfl⟩)
theorem pair_ofL {K : PySem.W.Frag} : ∀ {H : Hp} {ps : List Addr} {qs : List (Nat × Nat)}, PadP H ps qs → Paired (fun p kv => SqT K H p [kV kv.1, kv.2]) ps (qs.map fun q => ((Sum.inl (q.1 : Int) : Key), V.int (q.2 : Int)))
  | H, [], [], _ => .nil
  | H, [], q :: qs, h => absurd h.1 (by simp)
  | H, p :: ps, [], h => absurd h.1 (by simp)
  | H, p :: ps, q :: qs, h => .cons (SqT.of (h.2 0 p q rfl rfl)) (pair_ofL ⟨by have := h.1; simpa using this, fun i a x h1 h2 => h.2 (i + 1) a x h1 h2⟩)
def leftOf (n : Nat) (σ : L2.St) : Nat := match σ with
  | [_, _, _, _, some (.int l), _, _, _, _] => n - l.toNat
  | _ => 0
section
variable {P : Program} {w : World} {K : PySem.W.Frag} {mg : Str → Option Value} {base : Heap}
def spLIsF (K : PySem.W.Frag) : Sp := fun vs H Q _ => ∃ (t it c d : Addr) (cnt lg : Nat) (is : List I4) (rs : List Addr) (cs bs : List Int) (B : Nat → Bool), vs = [.ref t, .ref c, .ref d] ∧ Tab H t cnt lg is it rs ∧ SqT K H c (cs.map V.int) ∧ SqT K H d (bs.map V.int) ∧ bs.length ≤ 100000 ∧ Padded is cs bs B ∧ ∀ H', Same H H' → Q (.bl true) H'
theorem scLIsF : FnScope ["_law_table_here", "_law_some_here", "_law_code", "_law_padded", "_law_at", "_law_opcode", "_law_name", "_law_length", "_law_is_padding"] ["_law_table_here", "_law_some_here", "_law_code"] (defScope s_law_is_filler) := ⟨rfl, rfl, rfl, by decide +kernel, rfl, by decide +kernel, by decide +kernel⟩
theorem ok_lisF {f : Addr} {fd : FuncData} {k : Nat} (F : Fun K "_law_is_filler" "_law_is_filler" s_law_is_filler f fd) (T : Bi mg) : FnOk P w K mg base CX0 (k + 1) f fd ["_law_table_here", "_law_some_here", "_law_code"] (spLIsF K) := by
  refine F.ok scLIsF (fun vs H Q E h => ?_) (fun cdv A' outer s H vs Q E hr h => ?_)
  · obtain ⟨t, it, c, d, cnt, lg, is, rs, cs, bs, B, rfl, _⟩ := h
    rfl
  · obtain ⟨t, it, c, d, cnt, lg, is, rs, cs, bs, B, rfl, Tb, hc, hd, hb, Pd, q⟩ := h
    refine ⟨_, pss_cons (ps_set (i := 3) scLIsF.nd rfl (.inl rfl) (pe_callTy (call_dictP rfl) (by rfl) T.dict (by decide +kernel) (pa_cons (pe_lc (own := [("_law_opcode", 5), ("_law_name", 6), ("_law_length", 7), ("_law_is_padding", 8)]) (g := gTup K 4 (gCons (gName 5) (gCons (gName 6) (gCons (gName 7) (gCons (gName 8) gNil))))) (by rfl) scLIsF.nd (pi_tup (pe_ix ix_tup (pv 0) pe_int (fun _ _ => rfl)))
          (blkOk_by (own := [("_law_opcode", 5), ("_law_name", 6), ("_law_length", 7), ("_law_is_padding", 8)]) (N := ["_law_table_here", "_law_some_here", "_law_code", "_law_padded", "_law_at", "_law_opcode", "_law_name", "_law_length", "_law_is_padding"]) (sc := defScope s_law_is_filler) (by decide +kernel))
          (fun _ _ _ _ _ => pg_tup rfl (pgs_cons (pg_name (i := 5) scLIsF.nd rfl (Or.inl rfl)) (pgs_cons (pg_name (i := 6) scLIsF.nd rfl (Or.inl rfl)) (pgs_cons (pg_name (i := 7) scLIsF.nd rfl (Or.inl rfl)) (pgs_cons (pg_name (i := 8) scLIsF.nd rfl (Or.inl rfl)) pgs_nil)))))
          (fun _ _ _ _ _ => pts_one (pt_val (pv 8))) (fun _ _ _ _ _ => pe_tup (pa_cons (pv 5) (pa_cons (pv 7) pa_nil)))) pa_nil)))
      (pss_cons (ps_for PassesOwn.never rfl (pi_tup (pv 1)) (pg_name (i := 4) scLIsF.nd rfl (.inl rfl))
        (pss_cons (ps_while PassesOwn.never (pt_cmpR op_lt (pv 4) (pe_callB call_len_seq (by rfl) T.len PySem.boot_len (pa_cons (pv 2) pa_nil)) (nomark _))
          (pss_cons (ps_if (pt_cmp (pc_dnotin (hu_of hr) (pe_ix ix_tup (pv 2) (pv 4) (fun _ _ => rfl)) (pv 3))) (pss_one (ps_ret pe_bl)) pss_nil)
          (pss_one (ps_set (i := 4) scLIsF.nd rfl (.inl rfl) (pe_op op_add (pv 4) (pe_dget (hu_of hr) (pv 3) (pe_ix ix_tup (pv 2) (pv 4) (fun _ _ => rfl)) (fun _ _ => rfl)))))))
        (pss_one (ps_if (pt_cmpR op_ne (pv 4) (pe_callB call_len_seq (by rfl) T.len PySem.boot_len (pa_cons (pv 2) pa_nil)) (nomark _)) (pss_one (ps_ret pe_bl)) pss_nil))))
      (pss_one (ps_ret pe_bl))), ?_⟩
    have i1 : ∀ x y : V, atI [x, y] 1 = some y := fun x y => atI_nat (j := 1) rfl
    have hit := Tb.its
    have rl := Tb.rows.1
    have few := Tb.ok.few
    refine ⟨_, rfl, t, _, _, _, rfl, rfl, SqT.of Tb.at_, i1 _ _, it, rfl, ⟨_, SqT.of hit⟩, fun D nD => lc_tup (K := K) (a := it) (xs := rs.map V.ref) (fun i G => ∃ ps, Mk H G D (ps.map V.ref) ∧ PadP G ps (pads (is.take i))) ⟨[], .start nD, PadP.nil⟩ (fun i G _ ⟨_, mk, _⟩ => mk.same.tup (SqT.of hit)) ?_ ?_⟩
    · rintro i x G hx ⟨ps, mk, pp⟩
      obtain ⟨hi, r, rfl, hr2, _⟩ := rows_at Tb.rows hx
      have pl : ps.length ≤ 72 := by
        rw [pp.1]
        unfold pads
        rw [List.length_map]
        refine Nat.le_trans (List.length_filter_le _ _) ?_
        rw [List.length_take]
        omega
      refine ⟨r, _, rfl, SqT.of (mk.same _ _ hr2), rfl, _, _, rfl, _, _, rfl, _, _, rfl, _, _, rfl, rfl, rfl, _, rfl, _, rfl, ?_⟩
      have tm := take_more (List.getElem?_eq_getElem hi)
      by_cases pd : (is[i]).pad = true
      · have ep : pads (is.take (i + 1)) = pads (is.take i) ++ [((is[i]).op, (is[i]).ln)] := by
          unfold pads
          rw [tm, List.filter_append, List.map_append, List.filter_cons_of_pos pd]
          rfl
        rw [pd]
        refine iteT ⟨_, rfl, _, rfl, by show 2 ≤ sizeLine; decide, fun b nb => ?_⟩
        have sb := same_upd (o := HO.tup [V.int ((is[i]).op : Int), V.int ((is[i]).ln : Int)]) nb
        refine ⟨_, sb _ _ mk.at_, by rw [List.length_map, sizeLine_eq]; omega, ps ++ [b], by rw [List.map_append]; exact mk.put sb, ?_⟩
        rw [ep]
        exact ((pp.same sb).more upd_same).but (D := D) (fun c o e n => by rw [upd_ne n]; exact e) (sb _ _ mk.at_)
      · have ep : pads (is.take (i + 1)) = pads (is.take i) := by
          unfold pads
          rw [tm, List.filter_append, List.filter_cons_of_neg pd, List.filter_nil, List.append_nil]
        rw [Bool.not_eq_true] at pd
        rw [pd]
        exact iteF ⟨ps, mk, by rw [ep]; exact pp⟩
    rintro G ⟨ps, mk, pp⟩
    rw [List.length_map, rl, List.take_length] at pp
    refine ⟨D, ps, padKV is, rfl, SqL.of mk.at_, pair_ofL pp, fun dd nd => ?_⟩
    have sd := mk.same.trans (same_upd (o := HO.dK (mergeK [] (padKV is))) nd)
    have hdd : upd G dd (HO.dK (mergeK [] (padKV is))) dd = some (.dK (mergeK [] (padKV is))) := upd_same
    generalize upd G dd (HO.dK (mergeK [] (padKV is))) = H1 at *
    refine ⟨_, rfl, c, rfl, ⟨_, sd.tup hc⟩, for_tup (K := K) (a := c) (xs := cs.map V.int) (fun i σ G => G = H1 ∧ ∃ y4, σ = [some (.ref t), some (.ref c), some (.ref d), some (.ref dd), y4, none, none, none, none]) ⟨rfl, _, rfl⟩ (fun i σ G _ ⟨e, _⟩ => by rw [e]; exact sd.tup hc) ?_ ?_⟩
    · rintro i x σ G2 hx ⟨rfl, y4, rfl⟩
      rw [List.getElem?_map] at hx
      obtain ⟨cd, hcd, rfl⟩ := Option.map_eq_some_iff.mp hx
      obtain ⟨lo, hi, hB⟩ := Pd.at0 cd (List.mem_of_getElem? hcd)
      refine while_by (fun σ H4 => H4 = G2 ∧ ∃ o : Nat, σ = [some (.ref t), some (.ref c), some (.ref d), some (.ref dd), some (.int (o : Int)), none, none, none, none] ∧ o ≤ bs.length ∧ B o = true) (fun σ _ => leftOf bs.length σ) ⟨rfl, cd.toNat, by rw [show ((cd.toNat : Nat) : Int) = cd by omega]; rfl, by omega, hB⟩ ?_ ?_
      · rintro σ H4 ⟨rfl, o, rfl, ho, hBo⟩
        refine ⟨_, rfl, _, rfl, d, _, rfl, .inr (sd.tup hd), _, _, rfl, rfl, _, rfl, ?_⟩
        rw [List.length_map]
        by_cases lt : o < bs.length
        · rw [decide_eq_true (show (o : Int) < (bs.length : Int) by omega)]
          obtain ⟨qq, hq, eb, le, hB2, pos⟩ := Pd.go o lt hBo
          have at1 : atI (bs.map V.int) (o : Int) = some (V.int (qq.1 : Int)) := atI_nat (by rw [List.getElem?_map, eb]; rfl)
          refine iteT ⟨_, rfl, _, rfl, d, _, _, _, rfl, rfl, sd.tup hd, at1, _, rfl, dd, _, rfl, DGet.k (k := Sum.inl (qq.1 : Int)) hdd, _, rfl, ?_⟩
          rw [padKV_val Tb.ok hq]
          refine iteF ⟨_, rfl, _, rfl, _, rfl, _, rfl, d, _, _, _, rfl, rfl, sd.tup hd, at1, dd, V.int (qq.2 : Int), rfl, ?_, _, _, rfl, rfl, ⟨rfl, o + qq.2, ?_, le, hB2⟩, ?_⟩
          · have z := DGet.k (k := Sum.inl (qq.1 : Int)) hdd
            rw [padKV_val Tb.ok hq] at z
            exact z
          · rw [Int.natCast_add]; rfl
          · show bs.length - ((o : Int) + (qq.2 : Int)).toNat < bs.length - ((o : Int)).toNat
            omega
        · rw [decide_eq_false (show ¬ (o : Int) < (bs.length : Int) by omega)]
          have e : o = bs.length := by omega
          subst e
          refine iteF ⟨_, rfl, _, rfl, d, _, rfl, .inr (sd.tup hd), rfl, _, rfl, ?_⟩
          rw [List.length_map]
          exact iteNS rfl ⟨rfl, _, rfl⟩
      · rintro σ H4 Q1 Q2 hQ ⟨v1, e1, v2, e2, a1, a2, e3, e4, a3, a4, e5, e6, b, eb, z⟩
        exact ⟨v1, e1, v2, e2, a1, a2, e3, e4, a3, a4, e5, e6, b, eb, hQ _ _ z⟩
    · rintro σ G2 ⟨rfl, y4, rfl⟩
      exact q _ sd
end
end Ov
namespace Ov
open PySem PySem.Spec PyProof.Rows L2
theorem hasF_noConf {ns cs : List Int} {n : Int} (L : Lens ns) (h : hasF (leasts (ns.map Int.toNat)) cs n = true) : NoConf (gcdAll (ns.map Int.toNat)) cs := by
  have z := (hasF_iff L cs n).mp h
  have f : ∀ c ∈ cs, ((gcdAll (ns.map Int.toNat) : Nat) : Int) ∣ n - c := fun c hc => by
    have y := z c hc
    have d := Int.natCast_dvd_natCast.mpr (sum_dvd y.2)
    rwa [Int.toNat_of_nonneg (by omega)] at d
  intro s t hs ht
  rw [congN_iff, show t - s = (n - s) - (n - t) by omega]
  exact Int.dvd_sub (f s (List.mem_of_getElem? hs)) (f t (List.mem_of_mem_drop ht))
end Ov
namespace Ov
open PySem PySem.Spec PyProof.Rows L2
theorem sum_nil {s : Nat} (h : Sum [] s) : s = 0 := by
  have d := sum_dvd h
  have e : gcdAll [] = 0 := rfl
  rw [e] at d
  exact Nat.zero_dvd.mp d
theorem sum_far {ns : List Int} (L : Lens ns) (M : ∀ z ∈ ns, z ≤ 12) (ne : ns ≠ []) {N : Nat} (h : 144 ≤ N) (d : gcdAll (ns.map Int.toNat) ∣ N) : Sum (ns.map Int.toNat) N := by
  cases ns with
  | nil => exact absurd rfl ne
  | cons m r =>
    rw [List.map_cons] at d ⊢
    have h1 := M m List.mem_cons_self
    refine far_le (M := 12) (fun l hl => ?_) (Nat.le_trans (Nat.mul_le_mul_right 12 (show m.toNat ≤ 12 by omega)) h) d
    rw [← List.map_cons] at hl
    obtain ⟨z, hz, rfl⟩ := List.mem_map.mp hl
    have := (L.low z hz).1
    have := M z hz
    omega
section
variable {ns cs : List Int} (L : Lens ns) (M : ∀ z ∈ ns, z ≤ 12) (low : ∀ c ∈ cs, 0 ≤ c ∧ c < 12) (ne : cs ≠ []) {f m : Nat}
  (hf : hasF (leasts (ns.map Int.toNat)) cs (f : Int) = true) (hm : hasF (leasts (ns.map Int.toNat)) cs (m : Int) = true) (far : f + 300 ≤ m)
include L low ne hf hm far in
theorem far_ne : ns ≠ [] := by
  intro z
  obtain ⟨c, hc⟩ := List.exists_mem_of_ne_nil cs ne
  have h1 := ((hasF_iff L cs m).mp hm c hc).2
  rw [z] at h1
  have h2 := sum_nil h1
  have := low c hc
  omega
include L M low ne hf hm far in
theorem hasF_tail {n : Nat} (n1 : m < n + 12) (n2 : n ≤ m) : hasF (leasts (ns.map Int.toNat)) cs (n : Int) = true ↔ gcdAll (ns.map Int.toNat) ∣ m - n := by
  have hM := (hasF_iff L cs m).mp hm
  constructor
  · intro hn
    obtain ⟨c, hc⟩ := List.exists_mem_of_ne_nil cs ne
    have hN := (hasF_iff L cs n).mp hn
    have d1 := sum_dvd (hM c hc).2
    have d2 := sum_dvd (hN c hc).2
    have := low c hc
    have e : m - n = ((m : Int) - c).toNat - ((n : Int) - c).toNat := by omega
    rw [e]
    exact Nat.dvd_sub d1 d2
  · intro d
    refine (hasF_iff L cs n).mpr fun c hc => ?_
    have hl := low c hc
    refine ⟨by omega, sum_far L M (far_ne L low ne hf hm far) (by omega) ?_⟩
    have d1 := sum_dvd (hM c hc).2
    have e : ((n : Int) - c).toNat = ((m : Int) - c).toNat - (m - n) := by omega
    rw [e]
    exact Nat.dvd_sub d1 d
end
/-- the numbers from 1 to 12 that divide -/
def dvs (g : Nat) : List Nat := (List.range 12).filter fun k => decide ((k + 1) ∣ g)
theorem dvs_last {g : Nat} (h0 : 0 < g) (h : g ≤ 12) : (dvs g).getLast? = some (g - 1) := by
  have key : ∀ x ∈ List.range 13, 0 < x → (dvs x).getLast? = some (x - 1) := by decide +kernel
  exact key g (List.mem_range.mpr (by omega)) h0
theorem dvs_some (g : Nat) : ∃ k, (dvs g).getLast? = some k ∧ k < 12 := by
  have m : 0 ∈ dvs g := List.mem_filter.mpr ⟨List.mem_range.mpr (by decide), decide_eq_true (Nat.one_dvd g)⟩
  cases h : (dvs g).getLast? with
  | none => rw [List.getLast?_eq_none_iff] at h; rw [h] at m; cases m
  | some k => exact ⟨k, rfl, List.mem_range.mp (List.mem_filter.mp (List.mem_of_getLast? h)).1⟩
theorem dvd_fold {d : Nat} : ∀ (ls : List Nat) (g : Nat), d ∣ ls.foldl Nat.gcd g ↔ d ∣ g ∧ ∀ l ∈ ls, d ∣ l
  | [], g => ⟨fun h => ⟨h, fun l hl => absurd hl List.not_mem_nil⟩, fun h => h.1⟩
  | l :: ls, g => by
    rw [List.foldl_cons, dvd_fold ls, Nat.dvd_gcd_iff]
    constructor
    · rintro ⟨⟨h0, h1⟩, h2⟩
      refine ⟨h0, fun x hx => ?_⟩
      rcases List.mem_cons.mp hx with rfl | hx
      · exact h1
      · exact h2 x hx
    · rintro ⟨h0, h⟩
      exact ⟨⟨h0, h l List.mem_cons_self⟩, fun x hx => h x (List.mem_cons_of_mem _ hx)⟩
theorem dvd_all_iff {d : Nat} (ls : List Nat) : d ∣ gcdAll ls ↔ ∀ l ∈ ls, d ∣ l := by
  unfold gcdAll
  rw [dvd_fold]
  exact ⟨fun h => h.2, fun h => ⟨Nat.dvd_zero d, h⟩⟩
theorem gcd_le12 {ns : List Int} (L : Lens ns) (M : ∀ z ∈ ns, z ≤ 12) (ne : ns ≠ []) : 0 < gcdAll (ns.map Int.toNat) ∧ gcdAll (ns.map Int.toNat) ≤ 12 := by
  obtain ⟨z, hz⟩ := List.exists_mem_of_ne_nil ns ne
  have d := (dvd_all_iff (d := gcdAll (ns.map Int.toNat)) (ns.map Int.toNat)).mp (Nat.dvd_refl _) z.toNat (List.mem_map.mpr ⟨z, hz, rfl⟩)
  have h1 := (L.low z hz).1
  have h2 := M z hz
  have h3 := Nat.le_of_dvd (by omega) d
  refine ⟨?_, by omega⟩
  rcases Nat.eq_zero_or_pos (gcdAll (ns.map Int.toNat)) with e | e
  · rw [e] at d
    have := Nat.zero_dvd.mp d
    omega
  · exact e
/-- what is behind length - 12, of all lengths up to a length -/
theorem filter_tail (p : Nat → Bool) {m : Nat} (h : 11 ≤ m) : ((List.range (m + 1)).filter p).filter (fun n => decide (m < n + 12)) = ((List.range 12).filter fun j => p (m - 11 + j)).map fun j => m - 11 + j := by
  have e : List.range (m + 1) = List.range (m - 11) ++ (List.range 12).map fun j => m - 11 + j := by
    rw [show m + 1 = (m - 11) + 12 by omega, List.range_add]
  rw [e, List.filter_append, List.filter_append]
  have z1 : ((List.range (m - 11)).filter p).filter (fun n => decide (m < n + 12)) = [] := by
    rw [List.filter_eq_nil_iff]
    intro n hn
    have := List.mem_range.mp (List.mem_filter.mp hn).1
    rw [decide_eq_false (by omega)]
    exact Bool.false_ne_true
  rw [z1, List.nil_append, List.filter_filter, List.filter_map]
  congr 1
  refine List.filter_congr fun j hj => ?_
  show (decide (m < m - 11 + j + 12) && p (m - 11 + j)) = p (m - 11 + j)
  rw [decide_eq_true (by omega), Bool.true_and]
end Ov
namespace Ov
open PySem PySem.Spec PyProof.Rows L2
theorem ifP {c : Prop} [Decidable c] {A B : Prop} (h : c) (a : A) : if c then A else B := by rw [if_pos h]; exact a
theorem ifN {c : Prop} [Decidable c] {A B : Prop} (h : ¬ c) (a : B) : if c then A else B := by rw [if_neg h]; exact a
theorem last_keep {p : Nat → Bool} {m : Nat} (h : p m = true) : ((List.range (m + 1)).filter p).drop (((List.range (m + 1)).filter p).length - 1) = [m] := by
  rw [List.range_succ, List.filter_append, List.filter_cons, if_pos h, List.filter_nil, List.length_append]
  show List.drop (_ + 1 - 1) _ = _
  rw [Nat.add_sub_cancel]
  exact List.drop_left
theorem last_lost {p : Nat → Bool} {m : Nat} (h : p m = false) : ((List.range (m + 1)).filter p).drop (((List.range (m + 1)).filter p).length - 1) ≠ [m] := by
  intro e
  have mem : m ∈ ((List.range (m + 1)).filter p) := List.mem_of_mem_drop (by rw [e]; exact List.mem_singleton.mpr rfl)
  rw [(List.mem_filter.mp mem).2] at h
  cases h
theorem eqv_one : ∀ (ns : List Nat) (m : Nat), PyData.eqv (.tuple (ns.map fun n : Nat => PyData.int (n : Int))) (.tuple [.int (m : Int)]) = decide (ns = [m])
  | [], m => by simp [PyData.eqv, PyData.eqvAll]
  | [a], m => by
    simp only [List.map_cons, List.map_nil, PyData.eqv, PyData.eqvAll, Bool.and_true]
    by_cases h : a = m
    · subst h; simp
    · have h2 : ¬ ((a : Int) = (m : Int)) := by omega
      simp [h]
      exact h2
  | a :: b :: r, m => by simp [PyData.eqv, PyData.eqvAll]
theorem sh_intsN (ns : List Nat) : SeqAt.shaped (.tuple (ns.map fun n : Nat => PyData.int (n : Int))) = true := by
  have h1 : ∀ ns : List Nat, PyData.canLayAll0 (ns.map fun n : Nat => PyData.int (n : Int)) = true := fun ns => by
    induction ns with
    | nil => rfl
    | cons a r ih => simp [PyData.canLay0, PyData.canLayAll0, ih]
  have h2 : ∀ ns : List Nat, PyData.depthAll (ns.map fun n : Nat => PyData.int (n : Int)) = 0 := fun ns => by
    induction ns with
    | nil => rfl
    | cons a r ih => simp [PyData.depth, PyData.depthAll, ih]
  refine Bool.and_eq_true_iff.mpr ⟨by simp only [PyData.canLay0]; exact h1 ns, decide_eq_true ?_⟩
  simp only [PyData.depth]
  rw [h2]
  decide
theorem dp_intsN {K : PySem.W.Frag} {H : Hp} : ∀ ns : List Nat, DpAll K H (ns.map nV) (ns.map fun n : Nat => PyData.int (n : Int))
  | [] => .nil
  | _ :: ns => .cons (.int _) (dp_intsN ns)
theorem pull14 {cs : List Int} : ∀ {ys : List V}, (∀ z ∈ ys, z ∈ cs.map V.int) → ∃ ds : List Int, ys = ds.map V.int ∧ ∀ d ∈ ds, d ∈ cs
  | [], _ => ⟨[], rfl, fun d hd => absurd hd List.not_mem_nil⟩
  | y :: ys, h => by
    obtain ⟨c, hc, rfl⟩ := List.mem_map.mp (h y List.mem_cons_self)
    obtain ⟨ds, rfl, hd⟩ := pull14 (ys := ys) fun z hz => h z (List.mem_cons_of_mem _ hz)
    refine ⟨c :: ds, rfl, fun d hm => ?_⟩
    rcases List.mem_cons.mp hm with rfl | hm
    · exact hc
    · exact hd d hm
theorem dp_ints14 {K : PySem.W.Frag} {H : Hp} : ∀ ns : List Int, DpAll K H (ns.map V.int) (ns.map PyData.int)
  | [] => .nil
  | _ :: ns => .cons (.int _) (dp_ints14 ns)
theorem sh_list14 (ns : List Int) : SeqAt.shaped (.list (ns.map PyData.int)) = true := by
  have h1 : ∀ ns : List Int, PyData.canLayAll0 (ns.map PyData.int) = true := fun ns => by
    induction ns with
    | nil => rfl
    | cons a r ih => simp [PyData.canLay0, PyData.canLayAll0, ih]
  have h2 : ∀ ns : List Int, PyData.depthAll (ns.map PyData.int) = 0 := fun ns => by
    induction ns with
    | nil => rfl
    | cons a r ih => simp [PyData.depth, PyData.depthAll, ih]
  refine Bool.and_eq_true_iff.mpr ⟨by simp only [PyData.canLay0]; exact h1 ns, decide_eq_true ?_⟩
  simp only [PyData.depth]
  rw [h2]
  decide
/-- the last one of a tuple -/
theorem slice_last14 {K : PySem.W.Frag} {G : Hp} {r : Addr} {xs : List V} {Q : VK} (h : SqT K G r xs) (k : ∀ z G', Same G G' → SqT K G' z (xs.drop (xs.length - 1)) → Q (.ref z) G') : L2.rSlA K (.ref r) (some (-1)) none G Q := by
  have e1 : HT.sIx xs.length 0 (some (-1)) = xs.length - 1 := by
    show (if (-1 : Int) < 0 then ((-1 : Int) + (xs.length : Int)).toNat else min (-1 : Int).toNat xs.length) = _
    rw [if_pos (by decide)]
    omega
  have e2 : HT.sIx xs.length xs.length none = xs.length := rfl
  refine ⟨r, xs, rfl, h, fun w => ?_, fun w q nq => ?_⟩
  · rw [e1] at w
    refine k r G (Same.refl _) ?_
    rw [w.1]
    exact h
  · refine k q _ (same_upd nq) ?_
    have e : L2.cutV xs (some (-1)) none = xs.drop (xs.length - 1) := by
      unfold L2.cutV
      rw [e1, e2, List.take_of_length_le]
      rw [List.length_drop]
      exact Nat.le_refl _
    rw [e]
    exact SqT.of upd_same
section
variable {P : Program} {w : World} {K : PySem.W.Frag} {mg : Str → Option Value} {base : Heap}
def spRight (K : PySem.W.Frag) : Sp := fun vs H Q _ => ∃ (p t it c : Addr) (cnt m : Nat) (is : List I4) (rs : List Addr) (cs : List Int), vs = [.ref p, .ref t, .ref c, .int (m : Int)] ∧ Tab H t cnt 12 is it rs ∧ H c = some (.tup (cs.map V.int)) ∧ Cds (lonOf is) cs ∧ cs ≠ [] ∧ m ≤ 100000 ∧
  ∀ H', Same H H' → Q (.bl true) H'
abbrev nRight : List Str := ["_law_box_here", "_law_table_here", "_law_some_here", "_law_length", "_law_home", "_law_code", "_law_every", "_law_few", "_law_first", "_law_padded", "_law_divisor", "_law_last", "_law_expected", "_law_one", "_law_size"]
theorem scRight : FnScope nRight ["_law_box_here", "_law_table_here", "_law_some_here", "_law_length"] (defScope sRight) := ⟨rfl, rfl, rfl, by decide +kernel, rfl, by decide +kernel, by decide +kernel⟩
theorem ok_right {f C fFillerLength fLPadding fLIsFiller fFiller fFillerLengths fIi : Addr} {fd fdFillerLength fdLPadding fdLIsFiller fdFiller fdFillerLengths fdIi : FuncData} {k : Nat} (F : Fun K "_law_right" "_law_right" sRight f fd) (T : Bi mg) (S : SetTxt K mg C) (FillerLength : Def K mg "filler_length" s_filler_length fFillerLength fdFillerLength ["instruction_set", "countdowns"]) (GFillerLength : FnOk P w K mg base CX0 (k + 1) fFillerLength fdFillerLength ["instruction_set", "countdowns"] (spFLen K C)) (LPadding : Def K mg "_law_padding" s_law_padding fLPadding fdLPadding ["_law_table_here"]) (GLPadding : FnOk P w K mg base CX0 (k + 1) fLPadding fdLPadding ["_law_table_here"] (spLPad)) (LIsFiller : Def K mg "_law_is_filler" s_law_is_filler fLIsFiller fdLIsFiller ["_law_table_here", "_law_some_here", "_law_code"]) (GLIsFiller : FnOk P w K mg base CX0 (k + 1) fLIsFiller fdLIsFiller ["_law_table_here", "_law_some_here", "_law_code"] (spLIsF K)) (gFiller : mg "filler" = some (.ref fFiller)) (kFiller : PySem.W.keepIn K (.ref fFiller) = true) (bFiller : Binds K fdFiller ["instruction_set", "countdowns", "length"] []) (GFiller : FnOk P w K mg base CX0 (k + 1) fFiller fdFiller ["instruction_set", "countdowns", "length"] (spFiller K C)) (FillerLengths : Def K mg "filler_lengths" s_filler_lengths fFillerLengths fdFillerLengths ["instruction_set", "countdowns", "most"]) (GFillerLengths : FnOk P w K mg base CX0 (k + 1) fFillerLengths fdFillerLengths ["instruction_set", "countdowns", "most"] (spFLens K C)) (MIi : L2.Mk K C fIi) (bIi : Binds K fdIi ["self", "byte_count", "instructions"] []) (GIi : FnOk P w K mg base CX0 k fIi fdIi ["self", "byte_count", "instructions"] (spInitI C)) :
    FnOk P w K mg base CX0 (k + 2) f fd ["_law_box_here", "_law_table_here", "_law_some_here", "_law_length"] (spRight K) := by
  refine F.ok scRight (fun vs H Q E h => ?_) (fun cdv A' outer s H vs Q E hr h => ?_)
  · obtain ⟨p, t, it, c, cnt, m, is, rs, cs, rfl, _⟩ := h
    rfl
  · obtain ⟨p, t, it, c, cnt, m, is, rs, cs, rfl, T0, hc, Cd, cne, ml, q⟩ := h
    refine ⟨_, pss_cons (ps_set (i := 4) scRight.nd rfl (.inl rfl) (pe_make MIi GIi hr (by rfl) S.mgC bIi .nil pass0 (pa_cons (pe_ix ix_tup (pv 1) pe_int (fun _ _ => rfl)) (pa_cons (pe_ix ix_tup (pv 1) pe_int (fun _ _ => rfl)) pa_nil))))
      (pss_cons (ps_par (i := 5) (j := 6) (by rfl) scRight.nd rfl rfl (by decide) rfl rfl (pa_cons (pe_call GFiller hr (by rfl) gFiller kFiller bFiller .nil pass0 (pa_cons (pv 4) (pa_cons (pv 2) (pa_cons (pv 3) pa_nil)))) (pa_cons (pe_call GFillerLengths hr (by rfl) FillerLengths.gl FillerLengths.fn.kp FillerLengths.bi .nil pass0 (pa_cons (pv 4) (pa_cons (pv 2) (pa_cons (pv 3) pa_nil)))) pa_nil)) (by rfl))
      (C8.pss_cut (ps_if (pt_cmpR op_ne (pe_cmpR op_notN (pv 5) pe_non (nomark _)) (pe_cmpR (op_eqD hr.units) (pe_slice sl_tupA (pv 6) (po_some (pe_un un_neg pe_int)) po_none) (pe_tup (pa_cons (pv 3) pa_nil)) (nomark _)) (nomark _)) (pss_one (ps_ret pe_bl)) pss_nil)
      (C8.pss_cut (ps_if (pt_cmpR op_isN (pv 5) pe_non (nomark _)) (pss_one (ps_ret pe_bl)) pss_nil)
      (C8.pss_cut (ps_set (i := 7) scRight.nd rfl (.inl rfl) (pe_ifExp (pt_cmpR op_lt (pv 3) pe_int (nomark _)) (pv 2) (pe_stepT (pv 2) pe_int)))
      (C8.pss_cut (ps_if (PW.pt (pw_or (pt_not (pt_val (pe_callB call_isi (by rfl) T.isi (by decide +kernel) (pa_cons (pv 5) (pa_cons (pe_bltn (v := .ty "tuple") (u := .type "tuple") (by rfl) T.tuple (by decide +kernel) rfl) pa_nil))))) (pw_or (pt_cmpR op_ne (pe_callB call_len_seq (by rfl) T.len PySem.boot_len (pa_cons (pv 5) pa_nil)) (pv 3) (nomark _)) (pw_or1 (pt_not (pt_val (pe_call GLIsFiller hr (by rfl) LIsFiller.gl LIsFiller.fn.kp LIsFiller.bi .nil pass0 (pa_cons (pv 1) (pa_cons (pv 7) (pa_cons (pv 5) pa_nil)))))))))) (pss_one (ps_ret pe_bl)) pss_nil)
      (pss_cons (ps_asg (pe_tup (pa_cons (pe_call GFillerLength hr (by rfl) FillerLength.gl FillerLength.fn.kp FillerLength.bi .nil pass0 (pa_cons (pv 4) (pa_cons (pv 2) pa_nil))) (pa_cons (pe_call GLPadding hr (by rfl) LPadding.gl LPadding.fn.kp LPadding.bi .nil pass0 (pa_cons (pv 1) pa_nil)) pa_nil))) (pg_tup rfl (pgs_cons (pg_name (i := 8) scRight.nd rfl (.inl rfl)) (pgs_cons (pg_name (i := 9) scRight.nd rfl (.inr rfl)) pgs_nil))))
      (pss_cons (ps_set (i := 10) scRight.nd rfl (.inr rfl) (pe_ix ix_list (pe_lc (own := [("_law_one", 13)]) (g := (gName 13)) (tt := (tB (tCB (rAll K) (tCons (tLc (iList K (tVar 9)) (gName 14) tYes (tOp rEq (tOp (rI (fun _ j => 0 < j) fun i j => .int (i % j)) (tVar 14) (tVar 13)) (tC (.int 0))) [14]) tNil)))) (by rfl) scRight.nd (pi_range2 (by rfl) T.range (pa_cons pe_int (pa_cons pe_int pa_nil))) (blkOk_by (own := [("_law_one", 13)]) (N := nRight) (sc := defScope sRight) (by decide +kernel)) (fun _ _ _ _ _ => (pg_name (i := 13) scRight.nd rfl (Or.inr rfl))) (fun _ _ _ _ _ => pts_one (pt_val (pe_callB (cr_all rfl) (by rfl) T.all (by decide +kernel) (pa_cons (pe_lc (own := [("_law_size", 14)]) (g := (gName 14)) (tt := tYes) (by rfl) scRight.nd (pi_list (pv 9)) (blkOk_by (own := [("_law_size", 14)]) (N := nRight) (sc := { kind := .function, names := [(".0", .local), ("_law_one", .cell), ("all", .globalImplicit), ("_law_padded", .cell)], isGenerator := false, isCoroutine := false }) (by decide +kernel)) (fun _ _ _ _ _ => (pg_name (i := 14) scRight.nd rfl (Or.inl rfl))) (fun _ _ _ _ _ => pts_nil) (fun _ _ _ _ _ => (pe_cmpR op_eq (pe_op op_mod (pv 14) (pv 13)) pe_int (nomark _)))) pa_nil)))) (fun _ _ _ _ _ => (pv 13))) (pe_un un_neg pe_int) (fun _ _ => rfl)))
      (pss_cons (ps_setLc (i := 11) (own := [("_law_one", 13)]) (g := (gName 13)) (by rfl) scRight.nd rfl rfl (sw_true rfl rfl rfl (by decide +kernel)) (pi_tup (pv 6)) (blkOk_by (own := [("_law_one", 13)]) (N := nRight) (sc := defScope sRight) (by decide +kernel)) (fun _ _ _ _ _ => (pg_name (i := 13) scRight.nd rfl (Or.inl rfl))) (fun _ _ _ _ _ => pts_one (pt_cmpR op_gt (pv 13) (pe_op op_sub (pv 3) pe_int) (nomark _))) (fun _ _ _ _ _ => (pv 13)))
      (pss_cons (ps_setLc (i := 12) (own := [("_law_one", 13)]) (g := (gName 13)) (by rfl) scRight.nd rfl rfl (sw_true rfl rfl rfl (by decide +kernel)) (pi_range2 (by rfl) T.range (pa_cons (pe_op op_sub (pv 3) pe_int) (pa_cons (pe_op op_add (pv 3) pe_int) pa_nil))) (blkOk_by (own := [("_law_one", 13)]) (N := nRight) (sc := defScope sRight) (by decide +kernel)) (fun _ _ _ _ _ => (pg_name (i := 13) scRight.nd rfl (Or.inl rfl))) (fun _ _ _ _ _ => pts_one (pt_cmpR op_eq (pe_op op_mod (pe_op op_sub (pv 3) (pv 13)) (pv 10)) pe_int (nomark _))) (fun _ _ _ _ _ => (pv 13)))
      (pss_cons (ps_if (PW.pt (pw_or (pt_cmpR op_isN (pv 8) pe_non (nomark _)) (pw_or1 (pt_cmpR op_gt (pv 8) (pv 3) (nomark _))))) (pss_one (ps_ret pe_bl)) pss_nil)
      (pss_one (ps_ret (pe_or (pe_cmpR op_lt (pv 3) (pe_op op_add (pv 8) pe_int) (nomark _)) (pe_one (pe_cmpR (op_eqD hr.units) (pv 11) (pv 12) (nomark _)))))))))))))))), ?_⟩
    have i0 : ∀ x y : V, atI [x, y] 0 = some x := fun x y => atI_nat (j := 0) rfl
    have i1 : ∀ x y : V, atI [x, y] 1 = some y := fun x y => atI_nat (j := 1) rfl
    refine ⟨_, rfl, t, _, _, _, rfl, rfl, SqT.of T0.at_, i0 _ _, _, rfl, t, _, _, _, rfl, rfl, SqT.of T0.at_, i1 _ _, fun x dx nx ndx hne => ?_⟩
    have s0x : Same H (upd (upd H dx (.own x)) x (.ins C dx [])) := fun b o e => by
      rw [upd_ne (ne_of_none e nx), upd_ne (ne_of_none e ndx)]
      exact e
    refine ⟨x, dx, cnt, 12, it, rs, is, rfl, upd_same, s0x _ _ T0.its, T0.rows.same s0x, T0.ok, fun H1 SA kp => ⟨rfl, ?_⟩⟩
    have s01 : Same H H1 := fun b o e => kp b o (s0x b o e) (ne_of_none e nx)
    have T1 := T0.same s01
    have Mc : Mach C H1 x cnt 12 it is rs := ⟨SA, T1.its, T1.rows, T1.ok⟩
    have hc1 := s01 _ _ hc
    refine ⟨_, rfl, _, rfl, _, rfl, x, it, c, cnt, 12, is, rs, cs, .int (m : Int), rfl, .inr ⟨m, rfl, ml⟩, Mc, SqT.of hc1, Cd, fun H2 v ns s2 PL Ln FV => ?_⟩
    refine ⟨_, rfl, _, rfl, _, rfl, x, it, c, cnt, 12, is, rs, cs, m, rfl, ml, Mc.same s2, SqT.of (s2 _ _ hc1), Cd, fun H3 r ns' s3 nr PL' Ln' hr => ⟨_, _, rfl, ?_⟩⟩
    have en := PL.uniq PL'
    subst en
    have s13 := s2.trans s3
    have s03 := s01.trans s13
    obtain ⟨p0, ep⟩ : ∃ p0 : Nat → Bool, (fun n : Nat => hasF (leasts (ns.map Int.toNat)) cs (n : Int)) = p0 := ⟨_, rfl⟩
    have vp : (decide (v = .non)) = !p0 m := by
      rw [← ep]
      rcases FV with ⟨rfl, h⟩ | ⟨rr, n, rfl, h1, _, _, h2⟩
      · rcases h with ⟨h, _⟩ | ⟨n, h, h1⟩
        · cases h
        · have e : m = n := by injection h with h; omega
          subst e
          show decide (V.non = V.non) = !hasF _ _ _
          rw [h1]
          rfl
      · rcases h2 with h | ⟨h, _⟩
        · have e : m = n := by injection h with h; omega
          subst e
          show decide (V.ref rr = V.non) = !hasF _ _ _
          rw [h1]
          rfl
        · cases h
    rw [ep] at hr
    refine ⟨fun σ G => σ = [some (.ref p), some (.ref t), some (.ref c), some (.int (m : Int)), some (.ref x), some v, some (.ref r), none, none, none, none, none, none, none, none] ∧ Same H3 G, ?_, ?_⟩
    · refine ⟨_, rfl, rfl, _, rfl, _, rfl, _, rfl, ?_⟩
      dsimp only [L2.tNoPart]
      refine slice_last14 (K := (cxOf CX0 P w K mg base nRight "_law_right" (defScope sRight) f cdv A' outer s H E).nox.K) (SqT.of hr) fun z G1 s1 hz => ?_
      refine ⟨_, rfl, (show 1 ≤ sizeLine by decide), fun o no => ?_⟩
      have so := same_upd (o := HO.tup [V.int (m : Int)]) no
      rw [List.length_map, ← List.map_drop] at hz
      have dz : L2.Dp K (upd G1 o (HO.tup [V.int (m : Int)])) (.ref z) (.tuple ((((List.range (m + 1)).filter p0).drop (((List.range (m + 1)).filter p0).length - 1)).map fun n : Nat => PyData.int (n : Int))) := .tup (so.tup hz) (dp_intsN _)
      refine ⟨_, _, dz, .tup (SqT.of upd_same) (.cons (.int _) .nil), sh_intsN _, sh_intsN [m], rfl, _, rfl, ?_⟩
      rw [eqv_one, vp]
      have sU := s1.trans so
      cases hp : p0 m with
      | true => exact ifN (by rw [decide_eq_true (last_keep hp)]; decide) ⟨rfl, sU⟩
      | false => exact ifN (by rw [decide_eq_false (last_lost hp)]; decide) ⟨rfl, sU⟩
    rintro σ G ⟨rfl, s3G⟩
    refine ⟨fun σ G => p0 m = true ∧ σ = [some (.ref p), some (.ref t), some (.ref c), some (.int (m : Int)), some (.ref x), some v, some (.ref r), none, none, none, none, none, none, none, none] ∧ Same H3 G, ?_, ?_⟩
    · refine ⟨_, rfl, rfl, _, rfl, ?_⟩
      rw [vp]
      cases hp : p0 m with
      | false => exact ifP rfl (q _ (s03.trans s3G))
      | true => exact ifN (by decide) ⟨rfl, rfl, s3G⟩
    rintro σ G ⟨pm, rfl, s3G⟩
    obtain ⟨rr, ev, hrr, lbs, pd⟩ : ∃ (rr : Addr), v = .ref rr ∧ H2 rr = some (.tup ((bld (fitF (leasts (ns.map Int.toNat)) (pads is) m) (fun k : Nat => decide ((k : Int) ∈ cs)) m).1.map V.int)) ∧ True ∧ True := by
      rcases FV with ⟨rfl, _⟩ | ⟨rr, n, rfl, h1, h3, _, h2⟩
      · rw [pm] at vp; cases vp
      · rcases h2 with h | ⟨h, _⟩
        · have e : m = n := by injection h with h; omega
          subst e
          exact ⟨rr, rfl, h3, trivial, trivial⟩
        · cases h
    subst ev
    have hcG := s3G _ _ (s13 _ _ hc1)
    refine ⟨fun σ G' => ∃ (fa : Addr) (ds : List Int), σ = [some (.ref p), some (.ref t), some (.ref c), some (.int (m : Int)), some (.ref x), some (.ref rr), some (.ref r), some (.ref fa), none, none, none, none, none, none, none] ∧ Same H3 G' ∧ SqT K G' fa (ds.map V.int) ∧ ∀ d ∈ ds, d ∈ cs, ?_, ?_⟩
    · refine ⟨_, rfl, _, _, rfl, rfl, _, rfl, ?_⟩
      by_cases l9 : (m : Int) < 9000
      · exact ifP (decide_eq_true l9) ⟨_, rfl, c, cs, rfl, s3G, SqT.of hcG, fun d hd => hd⟩
      · refine ifN (by rw [decide_eq_false l9]; exact Bool.false_ne_true) ⟨_, rfl, 11, rfl, by decide, c, _, rfl, SqT.of hcG, fun q0 ys nq0 hys => ?_⟩
        obtain ⟨ds, rfl, hd⟩ := pull14 hys
        exact ⟨q0, ds, rfl, s3G.trans (same_upd nq0), SqT.of upd_same, hd⟩
    rintro σ G' ⟨fa, ds, rfl, s3', hfa, hd⟩
    have hbs := s3' _ _ (s3 _ _ hrr)
    have pm' : hasF (leasts (ns.map Int.toNat)) cs (m : Int) = true := by rw [← ep] at pm; exact pm
    have Pd := bld_padded (n := m) T0.ok PL Ln (fun x hx => (Cd.low x hx).1) pm'
    have Pd2 : Padded is ds _ _ := ⟨fun x hx => Pd.at0 x (hd x hx), Pd.go⟩
    have bl := bld_len (fitF (leasts (ns.map Int.toNat)) (pads is) m) (fun k : Nat => decide ((k : Int) ∈ cs)) m
    generalize (bld (fitF (leasts (ns.map Int.toNat)) (pads is) m) (fun k : Nat => decide ((k : Int) ∈ cs)) m).1 = bs at *
    have Tg := T1.same (s13.trans s3')
    refine ⟨fun σ G => σ = [some (.ref p), some (.ref t), some (.ref c), some (.int (m : Int)), some (.ref x), some (.ref rr), some (.ref r), some (.ref fa), none, none, none, none, none, none, none] ∧ Same H3 G, ?_, ?_⟩
    · refine ⟨_, rfl, _, _, _, _, _, rfl, .ty _, .base (.tup hbs), kit_ty (by decide +kernel : kitB "tuple" "tuple" = some true), _, rfl, ifN (by decide) ?_⟩
      refine ⟨_, rfl, rr, _, rfl, .inr (SqT.of hbs), _, rfl, rfl, _, rfl, ifN (by rw [List.length_map, bl]; simp) ?_⟩
      exact ⟨_, rfl, _, rfl, _, rfl, t, it, fa, rr, cnt, 12, is, rs, ds, bs, _, rfl, Tg, hfa, SqT.of hbs, by omega, Pd2, fun G5 s45 => ⟨_, rfl, ifN (by decide) ⟨rfl, s3'.trans s45⟩⟩⟩
    rintro σ G5 ⟨rfl, s35⟩
    have s15 := s13.trans s35
    have T5 := T1.same s15
    refine ⟨_, rfl, _, rfl, x, it, c, cnt, 12, is, rs, cs, rfl, Mc.same s15, SqT.of (s15 _ _ hc1), Cd, fun G6 u n6 s56 PL6 Ln6 FL => ?_⟩
    have en6 := PL.uniq PL6
    subst en6
    refine ⟨_, rfl, t, it, cnt, 12, is, rs, rfl, T5.same s56, fun G7 lp n7 s67 nlp PL7 few7 hlp => ?_⟩
    have en7 := PL.uniq PL7
    subst en7
    -- the shortest
    obtain ⟨f, rfl, hf, hmin⟩ : ∃ f : Nat, u = .int (f : Int) ∧ hasF (leasts (ns.map Int.toNat)) cs (f : Int) = true ∧ ∀ k : Nat, k < f → hasF (leasts (ns.map Int.toNat)) cs (k : Int) = false := by
      rcases FL with ⟨_, nc⟩ | ⟨f, h, _, h1, h2⟩
      · exact absurd (hasF_noConf Ln pm') nc
      · exact ⟨f, h, h1, h2⟩
    have fm : f ≤ m := by
      rcases Nat.lt_or_ge m f with z | z
      · rw [hmin m z] at pm'; cases pm'
      · exact z
    have s17 := s15.trans (s56.trans s67)
    refine ⟨(show 2 ≤ sizeLine by decide), fun tp ntp => ?_⟩
    have st := same_upd (o := HO.tup [V.int (f : Int), V.ref lp]) ntp
    have htp : upd G7 tp (HO.tup [V.int (f : Int), V.ref lp]) tp = some (.tup [V.int (f : Int), V.ref lp]) := upd_same
    have hlp8 := st _ _ hlp
    have s38 := s35.trans (s56.trans (s67.trans st))
    generalize upd G7 tp (HO.tup [V.int (f : Int), V.ref lp]) = G8 at *
    refine ⟨tp, _, rfl, SqT.of htp, rfl, _, _, rfl, _, _, rfl, rfl, ?_⟩
    have hr8 := s38 _ _ hr
    have s08 := s03.trans s38
    clear st htp ntp s17 hlp s67 s56 T5 s15 s35 FL Mc hc1 hcG hbs Pd Pd2 Tg
    -- the divisor
    obtain ⟨g, eg⟩ : ∃ g : Nat, gcdAll (ns.map Int.toNat) = g := ⟨_, rfl⟩
    have dv : ∀ d : Nat, d ∣ g ↔ ∀ z ∈ ns, (z % (d : Int) = 0) := fun d => by
      rw [← eg, dvd_all_iff]
      constructor
      · intro h z hz
        have h1 := h z.toNat (List.mem_map.mpr ⟨z, hz, rfl⟩)
        have h2 := (Ln.low z hz).1
        have h3 := Int.natCast_dvd_natCast.mpr h1
        rw [Int.toNat_of_nonneg (by omega)] at h3
        exact Int.emod_eq_zero_of_dvd h3
      · intro h l hl
        obtain ⟨z, hz, rfl⟩ := List.mem_map.mp hl
        have h2 := (Ln.low z hz).1
        have h3 := Int.dvd_of_emod_eq_zero (h z hz)
        exact Int.natCast_dvd_natCast.mp (by rw [Int.toNat_of_nonneg (by omega)]; exact h3)
    refine ⟨1, 13, rfl, ⟨by decide, by decide, by decide, by decide⟩, fun D nD => lc_range (lo := 1) (n := 12) (fun i G => Mk G8 G D (((List.range i).filter fun k : Nat => decide ((k + 1) ∣ g)).map fun k : Nat => V.int (1 + (k : Int)))) (.start nD) ?_ ?_⟩
    · intro i G hi mk
      refine ⟨rfl, _, rfl, lp, rfl, ⟨_, SqL.of (mk.same _ _ hlp8)⟩, fun D2 nD2 => lc_list (K := K) (a := lp) (xs := ns.map V.int) (fun j G3 => Mk G G3 D2 (((ns.take j).map fun z => decide (V.int (z % (1 + (i : Int))) = V.int 0)).map V.bl)) (.start nD2) (fun j G3 _ mm => SqL.of (mm.same _ _ (mk.same _ _ hlp8))) ?_ ?_⟩
      · intro j y G3 hy m3
        rw [List.getElem?_map] at hy
        obtain ⟨z, hz, rfl⟩ := Option.map_eq_some_iff.mp hy
        refine ⟨rfl, _, rfl, _, rfl, _, _, rfl, rfl, by omega, rfl, _, m3.at_, ?_, ?_⟩
        · rw [List.length_map, List.length_map, List.length_take, sizeLine_eq]
          have := Ln.few
          omega
        · rw [take_more hz, List.map_append, List.map_append]
          exact m3.put (Same.refl _)
      · intro G3 m3
        rw [List.length_map, List.take_length] at m3
        refine ⟨D2, _, rfl, SqL.of m3.at_, _, rfl, ?_⟩
        have ed : (ns.map fun z => decide (V.int (z % (1 + (i : Int))) = V.int 0)).all id = decide ((i + 1) ∣ g) := by
          rw [Bool.eq_iff_iff, decide_eq_true_iff, dv, List.all_eq_true]
          constructor
          · intro h z hz
            have h1 := h _ (List.mem_map.mpr ⟨z, hz, rfl⟩)
            have h2 := of_decide_eq_true (show decide (V.int (z % (1 + (i : Int))) = V.int 0) = true from h1)
            injection h2 with h2
            rw [show (((i + 1 : Nat)) : Int) = 1 + (i : Int) by omega]
            exact h2
          · intro h x hx
            obtain ⟨z, hz, rfl⟩ := List.mem_map.mp hx
            have h1 := h z hz
            rw [show (((i + 1 : Nat)) : Int) = 1 + (i : Int) by omega] at h1
            show decide (V.int (z % (1 + (i : Int))) = V.int 0) = true
            rw [h1]
            exact decide_eq_true rfl
        rw [ed]
        cases hh : decide ((i + 1) ∣ g) with
        | true =>
          refine iteT ⟨_, rfl, _, m3.same _ _ mk.at_, ?_, ?_⟩
          · rw [List.length_map, sizeLine_eq]
            have h1 := List.length_filter_le (fun k : Nat => decide ((k + 1) ∣ g)) (List.range i)
            rw [List.length_range] at h1
            omega
          · rw [List.range_succ, List.filter_append, List.map_append, List.filter_cons, hh]
            exact mk.put m3.same
        | false =>
          refine iteF ?_
          rw [List.range_succ, List.filter_append, List.map_append, List.filter_cons, hh]
          exact ⟨mk.same.trans m3.same, mk.new, by rw [m3.same _ _ mk.at_]; simp⟩
    intro G mk
    obtain ⟨kd, hkd, kd12⟩ := dvs_some g
    have hD : G D = some (.lst ((dvs g).map fun k : Nat => V.int (1 + (k : Int)))) := mk.at_
    have atl : atI ((dvs g).map fun k : Nat => V.int (1 + (k : Int))) (-1) = some (V.int (1 + (kd : Int))) := by
      obtain ⟨l, el⟩ := List.getLast?_eq_some_iff.mp hkd
      rw [el, List.map_append]
      exact atI_last _ _
    have sG := mk.same
    refine ⟨_, rfl, D, _, _, _, rfl, rfl, SqL.of hD, atl, ?_⟩
    have hrG := sG _ _ hr8
    have s0G := s08.trans sG
    clear mk hD atl hr8 s08 sG
    obtain ⟨L, eL⟩ : ∃ L : List Nat, (List.range (m + 1)).filter p0 = L := ⟨_, rfl⟩
    rw [eL] at hrG
    have Ll : L.length ≤ m + 1 := by
      rw [← eL]
      exact Nat.le_trans (List.length_filter_le _ _) (by rw [List.length_range]; exact Nat.le_refl _)
    -- the last ones
    refine ⟨_, rfl, r, rfl, ⟨_, SqT.of hrG⟩, fun Dl nDl => lc_tup (K := K) (a := r) (xs := L.map nV) (fun i G1 => Mk G G1 Dl (((L.take i).filter fun n => decide (m < n + 12)).map nV)) (.start nDl) (fun i G1 _ mm => mm.same.tup (SqT.of hrG)) ?_ ?_⟩
    · intro i y G1 hy mm
      rw [List.getElem?_map] at hy
      obtain ⟨n, hn, rfl⟩ := Option.map_eq_some_iff.mp hy
      refine ⟨rfl, _, rfl, _, rfl, _, _, rfl, rfl, _, _, rfl, rfl, _, rfl, ?_⟩
      rw [take_more hn, List.filter_append, List.map_append, List.filter_cons, List.filter_nil]
      by_cases h : m < n + 12
      · rw [if_pos (decide_eq_true h), decide_eq_true (show (m : Int) - 12 < (n : Int) by omega)]
        refine iteT ⟨_, rfl, _, mm.at_, ?_, mm.put (Same.refl _)⟩
        rw [List.length_map, sizeLine_eq]
        have h1 := List.length_filter_le (fun n => decide (m < n + 12)) (L.take i)
        rw [List.length_take] at h1
        omega
      · rw [if_neg (by rw [decide_eq_false h]; exact Bool.false_ne_true), decide_eq_false (show ¬ (m : Int) - 12 < (n : Int) by omega)]
        refine iteF ⟨mm.same, mm.new, ?_⟩
        rw [mm.at_, List.map_nil, List.append_nil]
    intro G1 m1
    rw [List.length_map, List.take_length] at m1
    have hDl := m1.at_
    have s01G := s0G.trans m1.same
    clear m1 hrG s0G
    -- the expected ones
    have hn12 : ((m : Int) + 1 - ((m : Int) - 11)).toNat = 12 := by omega
    refine ⟨_, rfl, _, _, rfl, rfl, _, rfl, _, _, rfl, rfl, (m : Int) - 11, (m : Int) + 1, rfl, ⟨by omega, by omega, by omega, by omega⟩, fun De nDe => lc_range (lo := (m : Int) - 11) (n := ((m : Int) + 1 - ((m : Int) - 11)).toNat) (fun i G2 => Mk G1 G2 De (((List.range i).filter fun k : Nat => decide (((m : Int) - ((m : Int) - 11 + (k : Int))) % (1 + (kd : Int)) = 0)).map fun k : Nat => V.int ((m : Int) - 11 + (k : Int)))) (.start nDe) ?_ ?_⟩
    · intro i G2 hi mm
      refine ⟨rfl, _, rfl, _, rfl, _, _, rfl, rfl, _, rfl, _, _, rfl, rfl, by omega, rfl, _, rfl, ?_⟩
      rw [List.range_succ, List.filter_append, List.map_append, List.filter_cons, List.filter_nil]
      by_cases h : ((m : Int) - ((m : Int) - 11 + (i : Int))) % (1 + (kd : Int)) = 0
      · rw [if_pos (decide_eq_true h)]
        refine ifP (decide_eq_true (show V.int (((m : Int) - ((m : Int) - 11 + (i : Int))) % (1 + (kd : Int))) = V.int 0 by rw [h])) ⟨_, rfl, _, mm.at_, ?_, mm.put (Same.refl _)⟩
        rw [List.length_map, sizeLine_eq]
        have h1 := List.length_filter_le (fun k : Nat => decide (((m : Int) - ((m : Int) - 11 + (k : Int))) % (1 + (kd : Int)) = 0)) (List.range i)
        rw [List.length_range] at h1
        omega
      · rw [if_neg (by rw [decide_eq_false h]; exact Bool.false_ne_true)]
        refine ifN (fun z => h (by have z := of_decide_eq_true z; injection z)) ⟨mm.same, mm.new, ?_⟩
        rw [mm.at_, List.map_nil, List.append_nil]
    intro G2 m2
    rw [hn12] at m2
    have hDe := m2.at_
    have hDl2 := m2.same _ _ hDl
    have s02 := s01G.trans m2.same
    clear m2
    refine ⟨_, rfl, rfl, _, rfl, ifN (by simp) ⟨_, rfl, _, rfl, _, _, rfl, rfl, _, rfl, ifN (by rw [decide_eq_false (by omega)]; exact Bool.false_ne_true) ?_⟩⟩
    refine ⟨_, rfl, _, rfl, _, _, rfl, rfl, _, _, rfl, rfl, _, rfl, ?_⟩
    by_cases far : (m : Int) < (f : Int) + 300
    · exact ifP (decide_eq_true far) (q _ s02)
    have far' : f + 300 ≤ m := by omega
    refine ifN (by rw [decide_eq_false far]; exact Bool.false_ne_true) ?_
    -- both lists
    have low12 : ∀ c ∈ cs, 0 ≤ c ∧ c < 12 := fun c hc => by
      have h1 := Cd.low c hc
      have h2 := (lon_le T0.ok).2
      omega
    have M12 : ∀ z ∈ ns, z ≤ 12 := fun z hz => by
      obtain ⟨y, hy, _, e⟩ := (PL.mem z).mp hz
      have := (T0.ok.len y hy).2
      omega
    have nne := far_ne Ln low12 cne hf pm' far'
    obtain ⟨g0, g12⟩ := gcd_le12 Ln M12 nne
    rw [eg] at g0 g12
    have ek : 1 + (kd : Int) = (g : Int) := by
      have h1 := dvs_last g0 g12
      rw [hkd] at h1
      have h2 := Option.some.inj h1
      omega
    obtain ⟨I, eI⟩ : ∃ I : List Int, I = ((List.range 12).filter fun k : Nat => decide (((m : Int) - ((m : Int) - 11 + (k : Int))) % (1 + (kd : Int)) = 0)).map fun k : Nat => ((m : Int) - 11 + (k : Int)) := ⟨_, rfl⟩
    have h1 : G2 De = some (.lst (I.map V.int)) := by
      rw [hDe, eI, List.map_map]
      rfl
    have h2 : G2 Dl = some (.lst (I.map V.int)) := by
      rw [hDl2, ← eL, filter_tail p0 (by omega), eI, List.map_map, List.map_map]
      have ef : (List.range 12).filter (fun j => p0 (m - 11 + j)) = (List.range 12).filter fun k : Nat => decide (((m : Int) - ((m : Int) - 11 + (k : Int))) % (1 + (kd : Int)) = 0) := by
        refine List.filter_congr fun j hj => ?_
        have j12 := List.mem_range.mp hj
        rw [← ep, ek]
        have h3 := hasF_tail Ln M12 low12 cne hf pm' far' (n := m - 11 + j) (by omega) (by omega)
        rw [eg] at h3
        rw [Bool.eq_iff_iff, decide_eq_true_iff]
        refine h3.trans ?_
        have e4 : (m : Int) - ((m : Int) - 11 + (j : Int)) = ((m - (m - 11 + j) : Nat) : Int) := by omega
        rw [e4]
        constructor
        · intro d
          exact Int.emod_eq_zero_of_dvd (Int.natCast_dvd_natCast.mpr d)
        · intro d
          exact Int.natCast_dvd_natCast.mp (Int.dvd_of_emod_eq_zero d)
      rw [ef]
      congr 2
      refine List.map_congr_left fun j hj => ?_
      have j12 := List.mem_range.mp (List.mem_filter.mp hj).1
      show V.int (((m - 11 + j : Nat)) : Int) = V.int ((m : Int) - 11 + (j : Int))
      congr 1
      omega
    refine ⟨_, rfl, _, rfl, .list (I.map PyData.int), .list (I.map PyData.int), .lst (SqL.of h2) (dp_ints14 I), .lst (SqL.of h1) (dp_ints14 I), sh_list14 I, sh_list14 I, ?_⟩
    rw [SeqAt.eqv_refl _ (SeqAt.canLay_of_shaped (sh_list14 I))]
    exact q _ s02
end
end Ov
namespace Ov
open PySem PySem.Spec PyProof.Rows L2
section
variable {P : Program} {w : World} {K : PySem.W.Frag} {mg : Str → Option Value} {base : Heap}
def spLaw (K : PySem.W.Frag) : Sp := fun vs H Q _ => ∃ (a : Addr) (ns : List Int), vs = [.ref a] ∧ SqL K H a (ns.map V.int) ∧ ns.length ≤ 63 ∧ ∀ H', Q (.bl true) H'
abbrev nLaw : List Str := ["_law_script", "_law_k", "_law_box_here", "_law_table_here", "_law_some_here", "_law_lengths", "_law_length"]
theorem scLaw : FnScope nLaw ["_law_script"] (defScope sLaw) := ⟨rfl, rfl, rfl, by decide +kernel, rfl, by decide +kernel, by decide +kernel⟩
theorem ok_law {f fLRight fTk fLSome fLLongest fLWithLess fTb fBo : Addr} {fd fdLRight fdTk fdLSome fdLLongest fdLWithLess fdTb fdBo : FuncData} {k : Nat} (F : Fun K "law" "law" sLaw f fd) (T : Bi mg) (LRight : Def K mg "_law_right" sRight fLRight fdLRight ["_law_box_here", "_law_table_here", "_law_some_here", "_law_length"]) (GLRight : FnOk P w K mg base CX0 k fLRight fdLRight ["_law_box_here", "_law_table_here", "_law_some_here", "_law_length"] (spRight K)) (Tk : Def K mg "_law_take" sTake fTk fdTk ["_law_box_here", "_law_many"]) (GTk : FnOk P w K mg base CX0 k fTk fdTk ["_law_box_here", "_law_many"] (spTake)) (LSome : Def K mg "_law_some" s_law_some fLSome fdLSome ["_law_box_here", "_law_longest_here"]) (GLSome : FnOk P w K mg base CX0 k fLSome fdLSome ["_law_box_here", "_law_longest_here"] (spSome)) (LLongest : Def K mg "_law_longest" sLLongest fLLongest fdLLongest ["_law_table_here"]) (GLLongest : FnOk P w K mg base CX0 k fLLongest fdLLongest ["_law_table_here"] (spLLongest)) (LWithLess : Def K mg "_law_with_less" s_law_with_less fLWithLess fdLWithLess ["_law_box_here", "_law_table_here"]) (GLWithLess : FnOk P w K mg base CX0 k fLWithLess fdLWithLess ["_law_box_here", "_law_table_here"] (spLess)) (Tb : Def K mg "_law_table" sTable fTb fdTb ["_law_box_here", "_law_most_bytes", "_law_longest_here"]) (GTb : FnOk P w K mg base CX0 k fTb fdTb ["_law_box_here", "_law_most_bytes", "_law_longest_here"] (spTable)) (Bo : Def K mg "_law_box" sBox fBo fdBo ["_law_script", "_law_k"]) (GBo : FnOk P w K mg base CX0 k fBo fdBo ["_law_script", "_law_k"] (spBox K)) :
    FnOk P w K mg base CX0 (k + 1) f fd ["_law_script"] (spLaw K) := by
  refine F.ok scLaw (fun vs H Q E h => ?_) (fun cdv A' outer s H vs Q E hr h => ?_)
  · obtain ⟨a, ns, rfl, _⟩ := h
    rfl
  · obtain ⟨a, ns, rfl, hS, hlen, q⟩ := h
    refine ⟨_, pss_cons (ps_for PassesOwn.never rfl (pi_range1 (by rfl) T.range (pa_cons (pe_op op_add pe_int (pe_callB (call_min2 rfl) (by rfl) T.min (by decide +kernel) (pa_cons pe_int (pa_cons (pe_callB call_len_seq (by rfl) T.len PySem.boot_len (pa_cons (pv 0) pa_nil)) pa_nil)))) pa_nil)) (pg_name (i := 1) scLaw.nd rfl (.inl rfl)) (pss_cons (ps_set (i := 2) scLaw.nd rfl (.inr rfl) (pe_call GBo hr (by rfl) Bo.gl Bo.fn.kp Bo.bi .nil pass0 (pa_cons (pv 0) (pa_cons (pv 1) pa_nil))))
      (pss_cons (ps_set (i := 3) scLaw.nd rfl (.inr rfl) (pe_call GLWithLess hr (by rfl) LWithLess.gl LWithLess.fn.kp LWithLess.bi .nil pass0 (pa_cons (pv 2) (pa_cons (pe_call GTb hr (by rfl) Tb.gl Tb.fn.kp Tb.bi .nil pass0 (pa_cons (pv 2) (pa_cons pe_int (pa_cons pe_int pa_nil)))) pa_nil))))
      (pss_cons (ps_set (i := 4) scLaw.nd rfl (.inr rfl) (pe_call GLSome hr (by rfl) LSome.gl LSome.fn.kp LSome.bi .nil pass0 (pa_cons (pv 2) (pa_cons (pe_call GLLongest hr (by rfl) LLongest.gl LLongest.fn.kp LLongest.bi .nil pass0 (pa_cons (pv 3) pa_nil)) pa_nil))))
      (C8.pss_cut (ps_if (pt_cmpR op_lt (pe_callB call_len_seq (by rfl) T.len PySem.boot_len (pa_cons (pv 4) pa_nil)) pe_int (nomark _)) (pss_one (ps_set (i := 4) scLaw.nd rfl (.inr rfl) (pe_tupRg (by rfl) (by rfl) T.tuple (prg_1 (by rfl) T.range (pe_call GLLongest hr (by rfl) LLongest.gl LLongest.fn.kp LLongest.bi .nil pass0 (pa_cons (pv 3) pa_nil)))))) pss_nil)
      (pss_cons (ps_set (i := 5) scLaw.nd rfl (.inl rfl) (pe_lst (pa_cons (pe_call GTk hr (by rfl) Tk.gl Tk.fn.kp Tk.bi .nil pass0 (pa_cons (pv 2) (pa_cons pe_int pa_nil))) (pa_cons (pe_op op_add pe_int (pe_call GTk hr (by rfl) Tk.gl Tk.fn.kp Tk.bi .nil pass0 (pa_cons (pv 2) (pa_cons pe_int pa_nil)))) (pa_cons (pe_call GTk hr (by rfl) Tk.gl Tk.fn.kp Tk.bi .nil pass0 (pa_cons (pv 2) (pa_cons pe_int pa_nil))) pa_nil)))))
      (C8.pss_cut (ps_if (pt_cmpR op_eq (pe_call GTk hr (by rfl) Tk.gl Tk.fn.kp Tk.bi .nil pass0 (pa_cons (pv 2) (pa_cons pe_int pa_nil))) pe_int (nomark _)) (pss_one (ps_expr (pe_bm PySem.F.plainAttrs_list PySem.F.slot_list_append PySem.F.type_list_append mt_append (pv 5) (pa_cons (pe_op op_sub pe_int (pe_call GTk hr (by rfl) Tk.gl Tk.fn.kp Tk.bi .nil pass0 (pa_cons (pv 2) (pa_cons pe_int pa_nil)))) pa_nil)))) pss_nil)
      (pss_one (ps_if (pt_not (pt_val (pe_callB (cr_all rfl) (by rfl) T.all (by decide +kernel) (pa_cons (pe_lc (own := [("_law_length", 6)]) (g := (gName 6)) (tt := tYes) (by rfl) scLaw.nd (pi_list (pv 5)) (blkOk_by (own := [("_law_length", 6)]) (N := nLaw) (sc := defScope sLaw) (by decide +kernel)) (fun _ _ _ _ _ => (pg_name (i := 6) scLaw.nd rfl (Or.inl rfl))) (fun _ _ _ _ _ => pts_nil) (fun _ _ _ _ _ => (pe_call GLRight hr (by rfl) LRight.gl LRight.fn.kp LRight.bi .nil pass0 (pa_cons (pv 2) (pa_cons (pv 3) (pa_cons (pv 4) (pa_cons (pv 6) pa_nil))))))) pa_nil)))) (pss_one (ps_ret pe_bl)) pss_nil)))))))))
      (pss_one (ps_ret pe_bl)), ?_⟩
    refine ⟨_, rfl, a, _, rfl, .inl hS, _, _, rfl, _, _, rfl, rfl, _, rfl, ?_, ?_, for_range (lo := 0) (fun i σ H2 => ∃ y1 y2 y3 y4 y5 y6, σ = [some (.ref a), y1, y2, y3, y4, y5, y6] ∧ Same H H2)
      ⟨_, _, _, _, _, _, rfl, Same.refl _⟩ ?_ (fun σ H2 _ => q H2)⟩
    · split <;> omega
    · split <;> omega
    rintro i σ H2 hi ⟨y1, y2, y3, y4, y5, y6, rfl, s2⟩
    have hi4 : i < 4 := by
      revert hi
      split <;> omega
    refine ⟨_, rfl, _, rfl, a, ns, i, (by rw [Int.zero_add]; rfl), s2.seq hS, by omega, fun H3 p s3 np B3 => ?_⟩
    refine ⟨_, rfl, _, rfl, p, 0, 256, 12, rfl, B3, by omega, by decide, by decide, by decide, by decide, fun H4 t0 cnt is0 it0 rs0 b4 B4 nt T4 hc256 => ?_⟩
    refine ⟨p, t0, it0, _, cnt, is0, rs0, rfl, B4, by omega, T4, fun H5 t it is rs b5 B5 T5 => ?_⟩
    have ll := lon_le T5.ok
    refine ⟨_, rfl, _, rfl, t, it, cnt, 12, is, rs, rfl, T5, fun H6 s6 => ?_⟩
    refine ⟨p, _, lonOf is, rfl, B5.same s6, by omega, ll.1, ll.2, fun H7 c1 cs1 b7 B7 h1 C1 l1 => ?_⟩
    have b57 : But p H5 H7 := (But.of s6).trans b7
    have T7 := T5.but b57 B5
    refine ⟨fun σ G => ∃ (c : Addr) (cs : List Int), σ = [some (.ref a), some (.int (0 + (i : Int))), some (.ref p), some (.ref t), some (.ref c), y5, y6] ∧ Same H7 G ∧ G c = some (.tup (cs.map V.int)) ∧ Cds (lonOf is) cs ∧ cs ≠ [], ?_, ?_⟩
    · refine ⟨_, rfl, c1, _, rfl, .inr (SqT.of h1), _, _, rfl, rfl, _, rfl, ?_⟩
      rw [List.length_map]
      by_cases l2 : (cs1.length : Int) < 2
      · refine ifP (decide_eq_true l2) ⟨_, rfl, t, it, cnt, 12, is, rs, rfl, T7, fun H8 s8 => ⟨_, rfl, RgOk.of_le (by omega) (by omega) (by omega) (by omega), fun c4 nc4 => ?_⟩⟩
        rw [rgV_eq]
        refine ⟨c4, _, rfl, s8.trans (same_upd nc4), upd_same, cds_all _ ll.2, fun z => ?_⟩
        have h := congrArg List.length z
        rw [List.length_map, List.length_range] at h
        have : lonOf is = 0 := h
        omega
      · refine ifN (by rw [decide_eq_false l2]; exact Bool.false_ne_true) ⟨c1, cs1, rfl, Same.refl _, h1, C1, fun z => l2 (by rw [z]; decide)⟩
    rintro σ G ⟨c, cs, rfl, s7, hc, Cd, cne⟩
    have TG := T7.same s7
    have BG := B7.same s7
    -- the lengths
    refine ⟨_, rfl, p, 3000, _, rfl, BG, by omega, by decide, by decide, fun G1 d1 g1 BG1 d10 d11 _ => ?_⟩
    refine ⟨_, rfl, p, 12, _, rfl, BG1, by omega, by decide, by decide, fun G2 d2 g2 BG2 d20 d21 _ => ⟨_, _, rfl, rfl, ?_⟩⟩
    refine ⟨_, rfl, p, 60, _, rfl, BG2, by omega, by decide, by decide, fun G3 d3 g3 BG3 d30 d31 _ => ⟨(show 3 ≤ sizeLine by decide), fun Lg nLg => ?_⟩⟩
    obtain ⟨m1, rfl⟩ : ∃ m : Nat, d1 = (m : Int) := ⟨d1.toNat, by omega⟩
    obtain ⟨m2, e2⟩ : ∃ m : Nat, 400 + d2 = (m : Int) := ⟨(400 + d2).toNat, by omega⟩
    obtain ⟨m3, rfl⟩ : ∃ m : Nat, d3 = (m : Int) := ⟨d3.toNat, by omega⟩
    have sL := same_upd (o := HO.lst [V.int (m1 : Int), V.int (400 + d2), V.int (m3 : Int)]) nLg
    have hL : upd G3 Lg (HO.lst [V.int (m1 : Int), V.int (400 + d2), V.int (m3 : Int)]) Lg = some (.lst ([m1, m2, m3].map nV)) := by
      rw [upd_same]
      show some (HO.lst [_, V.int (400 + d2), _]) = some (HO.lst [_, V.int (m2 : Int), _])
      rw [e2]
      try rfl
    have gL : But p G (upd G3 Lg (HO.lst [V.int (m1 : Int), V.int (400 + d2), V.int (m3 : Int)])) := g1.trans (g2.trans (g3.trans (But.of sL)))
    have BL := BG3.same sL
    have LpL : Lg ≠ p := fun z => BG3.ne (z ▸ nLg)
    have gfree : G Lg = none := by
      have h := (g1.trans (g2.trans g3)).free BG.ne nLg BG3.ne
      exact h
    generalize upd G3 Lg (HO.lst [V.int (m1 : Int), V.int (400 + d2), V.int (m3 : Int)]) = G4 at *
    clear g1 g2 g3 BG1 BG2 BG3 sL nLg
    refine ⟨fun σ G' => ∃ (ms : List Nat), σ = [some (.ref a), some (.int (0 + (i : Int))), some (.ref p), some (.ref t), some (.ref c), some (.ref Lg), y6] ∧ But p G G' ∧ BoxAt G' p 1030 ∧ G' Lg = some (.lst (ms.map nV)) ∧ ms.length ≤ 4 ∧ ∀ z ∈ ms, z ≤ 100000, ?_, ?_⟩
    · refine ⟨_, rfl, p, 4, _, rfl, BL, by omega, by decide, by decide, fun G5 d b5 B5' d0 d1' _ => ?_⟩
      have hL5 := b5 _ _ hL LpL
      have all3 : ∀ z ∈ [m1, m2, m3], z ≤ 100000 := fun z hz => by
        have hz : z = m1 ∨ z = m2 ∨ z = m3 := by simpa using hz
        omega
      refine ⟨rfl, _, rfl, ?_⟩
      by_cases d4 : V.int d = V.int 0
      · refine ifP (decide_eq_true d4) ⟨_, rfl, .inl ⟨rfl, _, SqL.of hL5⟩, _, rfl, p, 12, _, rfl, B5', by omega, by decide, by decide, fun G6 e b6 B6 e0 e1 _ => ⟨_, _, rfl, rfl, Lg, _, _, rfl, rfl, b6 _ _ hL5 LpL, (show 3 < sizeLine by decide), ?_⟩⟩
        obtain ⟨m4, e4⟩ : ∃ m : Nat, 100000 - e = (m : Int) := ⟨(100000 - e).toNat, by omega⟩
        refine ⟨[m1, m2, m3, m4], rfl, ?_, ?_, ?_, (show 4 ≤ 4 by decide), fun z hz => ?_⟩
        · intro b o eb hb
          rw [upd_ne (ne_of_none eb gfree)]
          exact b6 _ _ (b5 _ _ (gL _ _ eb hb) hb) hb
        · obtain ⟨x1, x2, x3, x4, r⟩ := B6.mono (show _ ≤ 1030 by omega)
          exact ⟨x1, x2, x3, by rw [upd_ne (Ne.symm LpL)]; exact x4, r⟩
        · rw [upd_same]
          show some (HO.lst [_, _, _, V.int (100000 - e)]) = some (HO.lst [_, _, _, V.int (m4 : Int)])
          rw [e4]
          try rfl
        · have hz : z = m1 ∨ z = m2 ∨ z = m3 ∨ z = m4 := by simpa using hz
          omega
      · exact ifN (by rw [decide_eq_false d4]; exact Bool.false_ne_true) ⟨[m1, m2, m3], rfl, gL.trans b5, B5'.mono (by omega), hL5, (show 3 ≤ 4 by decide), all3⟩
    rintro σ G' ⟨ms, rfl, gG, BG', hLg, ml4, mle⟩
    have hc' := gG _ _ hc (ne_box BG hc)
    have T' := TG.but gG BG
    refine ⟨_, rfl, Lg, rfl, ⟨_, SqL.of hLg⟩, fun D nD => lc_list (K := K) (a := Lg) (xs := ms.map nV) (fun j G3 => Mk G' G3 D ((List.replicate j true).map V.bl)) (.start nD) (fun j G3 _ mm => SqL.of (mm.same _ _ hLg)) ?_ ?_⟩
    · intro j y G3 hy mm
      rw [List.getElem?_map] at hy
      obtain ⟨z, hz, rfl⟩ := Option.map_eq_some_iff.mp hy
      have jl := (List.getElem?_eq_some_iff.mp hz).1
      refine ⟨rfl, _, rfl, _, rfl, _, rfl, _, rfl, p, t, it, c, cnt, z, is, rs, cs, rfl, T'.same mm.same, mm.same _ _ hc', Cd, cne, mle z (List.mem_of_getElem? hz), fun H8 s8 => ⟨_, s8 _ _ mm.at_, ?_, ?_⟩⟩
      · rw [List.length_map, List.length_replicate, sizeLine_eq]
        omega
      · rw [List.replicate_succ', List.map_append]
        exact mm.put s8
    · intro G3 mm
      rw [List.length_map] at mm
      refine ⟨D, _, rfl, SqL.of mm.at_, _, rfl, ?_⟩
      have e : (List.replicate ms.length true).all id = true := by simp
      rw [e]
      refine ifN (by decide) ⟨_, _, _, _, _, _, rfl, ?_⟩
      intro b o eb
      have e3 := s2 b o eb
      have bp : b ≠ p := ne_of_none e3 np
      exact mm.same _ _ (gG _ _ (s7 _ _ (b7 _ _ (s6 _ _ (b5 _ _ (b4 _ _ (s3 _ _ e3) bp) bp)) bp)) bp)
end
end Ov
namespace Ov
open PySem PySem.Spec PyProof.Rows L2
theorem up {P : Program} {w : World} {K : PySem.W.Frag} {mg : Str → Option Value} {base : Heap} {CX : CXT} {k k' : Nat} {f : Addr} {fd : FuncData} {ps : List Str} {sp : Sp} (F : FnOk P w K mg base CX k f fd ps sp) (h : k ≤ k') : FnOk P w K mg base CX k' f fd ps sp := ⟨F.len, fun A outer s H args us vs Q E room => F.run A outer s H args us vs Q E (room.mono h)⟩
theorem all_mk {P : Program} {w : World} {K : PySem.W.Frag} {h : Heap} {mg : Str → Option Value} {fa f0 f1 f2 f3 f4 f5 f6 f7 f8 f9 f10 f11 f12 f13 f14 f15 f16 f17 f18 f19 f20 f21 f22 f23 f24 f25 f26 f27 f28 f29 f30 f31 f32 f33 f34 : Addr} (X : K.In h) (G : h.Ns mainGlobals mg) (hfa : mg "law" = some (.ref fa))
    {od0 an0 od1 an1 od2 an2 od3 an3 od4 an4 od5 an5 od6 an6 od7 an7 od8 an8 od9 an9 od10 an10 od11 an11 od12 an12 od13 an13 od14 an14 od15 an15 od16 an16 od17 an17 od18 an18 od19 an19 od20 an20 od21 an21 od22 an22 od23 an23 od24 an24 od25 an25 od26 an26 od27 an27 od28 an28 od29 an29 od30 an30 od31 an31 od32 an32 od33 an33 od34 an34 : Option Addr} {sl0 sl1 sl2 sl3 sl4 sl5 sl6 sl7 sl8 sl9 sl10 sl11 sl12 sl13 sl14 sl15 sl16 sl17 sl18 sl19 sl20 sl21 sl22 sl23 sl24 sl25 sl26 sl27 sl28 sl29 sl30 sl31 sl32 sl33 sl34 : Array (Option Value)} {oc0 kV0 dc0 pm0 cd0 ct0 oc1 kV1 dc1 pm1 cd1 ct1 oc2 kV2 dc2 pm2 cd2 ct2 oc3 kV3 dc3 pm3 cd3 ct3 oc4 kV4 dc4 pm4 cd4 ct4 oc5 kV5 dc5 pm5 cd5 ct5 oc6 kV6 dc6 pm6 cd6 ct6 oc7 kV7 dc7 pm7 cd7 ct7 oc8 kV8 dc8 pm8 cd8 ct8 oc9 kV9 dc9 pm9 cd9 ct9 oc10 kV10 dc10 pm10 cd10 ct10 oc11 kV11 dc11 pm11 cd11 ct11 oc12 kV12 dc12 pm12 cd12 ct12 oc13 kV13 dc13 pm13 cd13 ct13 oc14 kV14 dc14 pm14 cd14 ct14 oc15 kV15 dc15 pm15 cd15 ct15 oc16 kV16 dc16 pm16 cd16 ct16 oc17 kV17 dc17 pm17 cd17 ct17 oc18 kV18 dc18 pm18 cd18 ct18 oc19 kV19 dc19 pm19 cd19 ct19 oc20 kV20 dc20 pm20 cd20 ct20 oc21 kV21 dc21 pm21 cd21 ct21 oc22 kV22 dc22 pm22 cd22 ct22 oc23 kV23 dc23 pm23 cd23 ct23 oc24 kV24 dc24 pm24 cd24 ct24 oc25 kV25 dc25 pm25 cd25 ct25 oc26 kV26 dc26 pm26 cd26 ct26 oc27 kV27 dc27 pm27 cd27 ct27 oc28 kV28 dc28 pm28 cd28 ct28 oc29 kV29 dc29 pm29 cd29 ct29 oc30 kV30 dc30 pm30 cd30 ct30 oc31 kV31 dc31 pm31 cd31 ct31 oc32 kV32 dc32 pm32 cd32 ct32 oc33 kV33 dc33 pm33 cd33 ct33 oc34 kV34 dc34 pm34 cd34 ct34 : Value}
    {tk0 tk1 tk2 tk3 tk4 tk5 : Tok}
    (a0 : PySem.W.nsIn K mainGlobals "is_integer" = some (some (.ref f0))) (l0 : K.lookup f0 = some ⟨oc0, od0, .func (PySem.W.fnOf "is_integer" "is_integer" (defArgs sIsInt) (defBody sIsInt) (defScope sIsInt) .none kV0 dc0 pm0 an0 cd0 ct0), sl0⟩) (c0 : PySem.W.codeIn K cd0 "is_integer" = true) (k0 : PySem.W.keepIn K (.ref f0) = true)
    (a1 : PySem.W.nsIn K mainGlobals "is_integer_between" = some (some (.ref f1))) (l1 : K.lookup f1 = some ⟨oc1, od1, .func (PySem.W.fnOf "is_integer_between" "is_integer_between" (defArgs sBetween) (defBody sBetween) (defScope sBetween) .none kV1 dc1 pm1 an1 cd1 ct1), sl1⟩) (c1 : PySem.W.codeIn K cd1 "is_integer_between" = true) (k1 : PySem.W.keepIn K (.ref f1) = true)
    (a2 : PySem.W.nsIn K mainGlobals "is_ascending" = some (some (.ref f2))) (l2 : K.lookup f2 = some ⟨oc2, od2, .func (PySem.W.fnOf "is_ascending" "is_ascending" (defArgs sAscending) (defBody sAscending) (defScope sAscending) .none kV2 dc2 pm2 an2 cd2 ct2), sl2⟩) (c2 : PySem.W.codeIn K cd2 "is_ascending" = true) (k2 : PySem.W.keepIn K (.ref f2) = true)
    (a3 : PySem.W.nsIn K mainGlobals "is_name" = some (some (.ref f3))) (l3 : K.lookup f3 = some ⟨oc3, od3, .func (PySem.W.fnOf "is_name" "is_name" (defArgs sIsName) (defBody sIsName) (defScope sIsName) .none kV3 dc3 pm3 an3 cd3 ct3), sl3⟩) (c3 : PySem.W.codeIn K cd3 "is_name" = true) (k3 : PySem.W.keepIn K (.ref f3) = true)
    (a4 : PySem.W.nsIn K mainGlobals "is_instruction" = some (some (.ref f4))) (l4 : K.lookup f4 = some ⟨oc4, od4, .func (PySem.W.fnOf "is_instruction" "is_instruction" (defArgs sIsInstr) (defBody sIsInstr) (defScope sIsInstr) .none kV4 dc4 pm4 an4 cd4 ct4), sl4⟩) (c4 : PySem.W.codeIn K cd4 "is_instruction" = true) (k4 : PySem.W.keepIn K (.ref f4) = true)
    (a5 : PySem.W.nsIn K mainGlobals "are_instructions" = some (some (.ref f5))) (l5 : K.lookup f5 = some ⟨oc5, od5, .func (PySem.W.fnOf "are_instructions" "are_instructions" (defArgs sAreInstr) (defBody sAreInstr) (defScope sAreInstr) .none kV5 dc5 pm5 an5 cd5 ct5), sl5⟩) (c5 : PySem.W.codeIn K cd5 "are_instructions" = true) (k5 : PySem.W.keepIn K (.ref f5) = true)
    (a6 : PySem.W.nsIn K mainGlobals "common_divisor" = some (some (.ref f6))) (l6 : K.lookup f6 = some ⟨oc6, od6, .func (PySem.W.fnOf "common_divisor" "common_divisor" (defArgs sCommon) (defBody sCommon) (defScope sCommon) .none kV6 dc6 pm6 an6 cd6 ct6), sl6⟩) (c6 : PySem.W.codeIn K cd6 "common_divisor" = true) (k6 : PySem.W.keepIn K (.ref f6) = true)
    (a7 : PySem.W.nsIn K mainGlobals "least_sums" = some (some (.ref f7))) (l7 : K.lookup f7 = some ⟨oc7, od7, .func (PySem.W.fnOf "least_sums" "least_sums" (defArgs sLeast) (defBody sLeast) (defScope sLeast) .none kV7 dc7 pm7 an7 cd7 ct7), sl7⟩) (c7 : PySem.W.codeIn K cd7 "least_sums" = true) (k7 : PySem.W.keepIn K (.ref f7) = true)
    (a8 : PySem.W.nsIn K mainGlobals "check_lengths" = some (some (.ref f8))) (l8 : K.lookup f8 = some ⟨oc8, od8, .func (PySem.W.fnOf "check_lengths" "check_lengths" (defArgs sCheck) (defBody sCheck) (defScope sCheck) .none kV8 dc8 pm8 an8 cd8 ct8), sl8⟩) (c8 : PySem.W.codeIn K cd8 "check_lengths" = true) (k8 : PySem.W.keepIn K (.ref f8) = true)
    (a9 : PySem.W.nsIn K mainGlobals "are_lengths" = some (some (.ref f9))) (l9 : K.lookup f9 = some ⟨oc9, od9, .func (PySem.W.fnOf "are_lengths" "are_lengths" (defArgs sAre) (defBody sAre) (defScope sAre) .none kV9 dc9 pm9 an9 cd9 ct9), sl9⟩) (c9 : PySem.W.codeIn K cd9 "are_lengths" = true) (k9 : PySem.W.keepIn K (.ref f9) = true)
    (a10 : PySem.W.nsIn K mainGlobals "divisor_of_two" = some (some (.ref f10))) (l10 : K.lookup f10 = some ⟨oc10, od10, .func (PySem.W.fnOf "divisor_of_two" "divisor_of_two" (defArgs sGcd) (defBody sGcd) (defScope sGcd) .none kV10 dc10 pm10 an10 cd10 ct10), sl10⟩) (c10 : PySem.W.codeIn K cd10 "divisor_of_two" = true) (k10 : PySem.W.keepIn K (.ref f10) = true)
    (a11 : PySem.W.nsIn K mainGlobals "with_length" = some (some (.ref f11))) (l11 : K.lookup f11 = some ⟨oc11, od11, .func (PySem.W.fnOf "with_length" "with_length" (defArgs sWith) (defBody sWith) (defScope sWith) .none kV11 dc11 pm11 an11 cd11 ct11), sl11⟩) (c11 : PySem.W.codeIn K cd11 "with_length" = true) (k11 : PySem.W.keepIn K (.ref f11) = true)
    (a12 : PySem.W.nsIn K mainGlobals "is_reached" = some (some (.ref f12))) (l12 : K.lookup f12 = some ⟨oc12, od12, .func (PySem.W.fnOf "is_reached" "is_reached" (defArgs sReached) (defBody sReached) (defScope sReached) .none kV12 dc12 pm12 an12 cd12 ct12), sl12⟩) (c12 : PySem.W.codeIn K cd12 "is_reached" = true) (k12 : PySem.W.keepIn K (.ref f12) = true)
    (a13 : PySem.W.nsIn K mainGlobals "conflict" = some (some (.ref f13))) (l13 : K.lookup f13 = some ⟨oc13, od13, .func (PySem.W.fnOf "conflict" "conflict" (defArgs s_conflict) (defBody s_conflict) (defScope s_conflict) .none kV13 dc13 pm13 an13 cd13 ct13), sl13⟩) (c13 : PySem.W.codeIn K cd13 "conflict" = true) (k13 : PySem.W.keepIn K (.ref f13) = true)
    (a14 : PySem.W.nsIn K mainGlobals "filler_length" = some (some (.ref f14))) (l14 : K.lookup f14 = some ⟨oc14, od14, .func (PySem.W.fnOf "filler_length" "filler_length" (defArgs s_filler_length) (defBody s_filler_length) (defScope s_filler_length) .none kV14 dc14 pm14 an14 cd14 ct14), sl14⟩) (c14 : PySem.W.codeIn K cd14 "filler_length" = true) (k14 : PySem.W.keepIn K (.ref f14) = true)
    (a15 : PySem.W.nsIn K mainGlobals "filler_lengths" = some (some (.ref f15))) (l15 : K.lookup f15 = some ⟨oc15, od15, .func (PySem.W.fnOf "filler_lengths" "filler_lengths" (defArgs s_filler_lengths) (defBody s_filler_lengths) (defScope s_filler_lengths) .none kV15 dc15 pm15 an15 cd15 ct15), sl15⟩) (c15 : PySem.W.codeIn K cd15 "filler_lengths" = true) (k15 : PySem.W.keepIn K (.ref f15) = true)
    {dT16 : Addr} {xoc16 : Value} {xod16 : Option Addr} {xn16 : Nat} {xsl16 : Array (Option Value)}
    (a16 : PySem.W.nsIn K mainGlobals "filler" = some (some (.ref f16))) (l16 : K.lookup f16 = some ⟨oc16, od16, .func (PySem.W.fnOf "filler" "filler" (defArgs s_filler) (defBody s_filler) (defScope s_filler) (.ref dT16) kV16 dc16 pm16 an16 cd16 ct16), sl16⟩) (c16 : PySem.W.codeIn K cd16 "filler" = true) (k16 : PySem.W.keepIn K (.ref f16) = true)
    (ld16 : K.lookup dT16 = some ⟨xoc16, xod16, .seq #[.none] xn16, xsl16⟩)
    (a17 : PySem.W.nsIn K mainGlobals "check_countdowns" = some (some (.ref f17))) (l17 : K.lookup f17 = some ⟨oc17, od17, .func (PySem.W.fnOf "check_countdowns" "check_countdowns" (defArgs s_check_countdowns) (defBody s_check_countdowns) (defScope s_check_countdowns) .none kV17 dc17 pm17 an17 cd17 ct17), sl17⟩) (c17 : PySem.W.codeIn K cd17 "check_countdowns" = true) (k17 : PySem.W.keepIn K (.ref f17) = true)
    (a18 : PySem.W.nsIn K mainGlobals "are_countdowns" = some (some (.ref f18))) (l18 : K.lookup f18 = some ⟨oc18, od18, .func (PySem.W.fnOf "are_countdowns" "are_countdowns" (defArgs s_are_countdowns) (defBody s_are_countdowns) (defScope s_are_countdowns) .none kV18 dc18 pm18 an18 cd18 ct18), sl18⟩) (c18 : PySem.W.codeIn K cd18 "are_countdowns" = true) (k18 : PySem.W.keepIn K (.ref f18) = true)
    (a19 : PySem.W.nsIn K mainGlobals "are_congruent" = some (some (.ref f19))) (l19 : K.lookup f19 = some ⟨oc19, od19, .func (PySem.W.fnOf "are_congruent" "are_congruent" (defArgs s_are_congruent) (defBody s_are_congruent) (defScope s_are_congruent) .none kV19 dc19 pm19 an19 cd19 ct19), sl19⟩) (c19 : PySem.W.codeIn K cd19 "are_congruent" = true) (k19 : PySem.W.keepIn K (.ref f19) = true)
    (a20 : PySem.W.nsIn K mainGlobals "has_filler" = some (some (.ref f20))) (l20 : K.lookup f20 = some ⟨oc20, od20, .func (PySem.W.fnOf "has_filler" "has_filler" (defArgs s_has_filler) (defBody s_has_filler) (defScope s_has_filler) .none kV20 dc20 pm20 an20 cd20 ct20), sl20⟩) (c20 : PySem.W.codeIn K cd20 "has_filler" = true) (k20 : PySem.W.keepIn K (.ref f20) = true)
    (a21 : PySem.W.nsIn K mainGlobals "least_filler" = some (some (.ref f21))) (l21 : K.lookup f21 = some ⟨oc21, od21, .func (PySem.W.fnOf "least_filler" "least_filler" (defArgs s_least_filler) (defBody s_least_filler) (defScope s_least_filler) .none kV21 dc21 pm21 an21 cd21 ct21), sl21⟩) (c21 : PySem.W.codeIn K cd21 "least_filler" = true) (k21 : PySem.W.keepIn K (.ref f21) = true)
    (a22 : PySem.W.nsIn K mainGlobals "padding_instructions" = some (some (.ref f22))) (l22 : K.lookup f22 = some ⟨oc22, od22, .func (PySem.W.fnOf "padding_instructions" "padding_instructions" (defArgs s_padding_instructions) (defBody s_padding_instructions) (defScope s_padding_instructions) .none kV22 dc22 pm22 an22 cd22 ct22), sl22⟩) (c22 : PySem.W.codeIn K cd22 "padding_instructions" = true) (k22 : PySem.W.keepIn K (.ref f22) = true)
    (a23 : PySem.W.nsIn K mainGlobals "first_fitting" = some (some (.ref f23))) (l23 : K.lookup f23 = some ⟨oc23, od23, .func (PySem.W.fnOf "first_fitting" "first_fitting" (defArgs s_first_fitting) (defBody s_first_fitting) (defScope s_first_fitting) .none kV23 dc23 pm23 an23 cd23 ct23), sl23⟩) (c23 : PySem.W.codeIn K cd23 "first_fitting" = true) (k23 : PySem.W.keepIn K (.ref f23) = true)
    (a24 : PySem.W.nsIn K mainGlobals "_law_box" = some (some (.ref f24))) (l24 : K.lookup f24 = some ⟨oc24, od24, .func (PySem.W.fnOf "_law_box" "_law_box" (defArgs sBox) (defBody sBox) (defScope sBox) .none kV24 dc24 pm24 an24 cd24 ct24), sl24⟩) (c24 : PySem.W.codeIn K cd24 "_law_box" = true) (k24 : PySem.W.keepIn K (.ref f24) = true)
    (a25 : PySem.W.nsIn K mainGlobals "_law_take" = some (some (.ref f25))) (l25 : K.lookup f25 = some ⟨oc25, od25, .func (PySem.W.fnOf "_law_take" "_law_take" (defArgs sTake) (defBody sTake) (defScope sTake) .none kV25 dc25 pm25 an25 cd25 ct25), sl25⟩) (c25 : PySem.W.codeIn K cd25 "_law_take" = true) (k25 : PySem.W.keepIn K (.ref f25) = true)
    (a26 : PySem.W.nsIn K mainGlobals "_law_of" = some (some (.ref f26))) (l26 : K.lookup f26 = some ⟨oc26, od26, .func (PySem.W.fnOf "_law_of" "_law_of" (defArgs sOf) (defBody sOf) (defScope sOf) .none kV26 dc26 pm26 an26 cd26 ct26), sl26⟩) (c26 : PySem.W.codeIn K cd26 "_law_of" = true) (k26 : PySem.W.keepIn K (.ref f26) = true)
    (a27 : PySem.W.nsIn K mainGlobals "_law_table" = some (some (.ref f27))) (l27 : K.lookup f27 = some ⟨oc27, od27, .func (PySem.W.fnOf "_law_table" "_law_table" (defArgs sTable) (defBody sTable) (defScope sTable) .none kV27 dc27 pm27 an27 cd27 ct27), sl27⟩) (c27 : PySem.W.codeIn K cd27 "_law_table" = true) (k27 : PySem.W.keepIn K (.ref f27) = true)
    (a28 : PySem.W.nsIn K mainGlobals "_law_longest" = some (some (.ref f28))) (l28 : K.lookup f28 = some ⟨oc28, od28, .func (PySem.W.fnOf "_law_longest" "_law_longest" (defArgs sLLongest) (defBody sLLongest) (defScope sLLongest) .none kV28 dc28 pm28 an28 cd28 ct28), sl28⟩) (c28 : PySem.W.codeIn K cd28 "_law_longest" = true) (k28 : PySem.W.keepIn K (.ref f28) = true)
    (a29 : PySem.W.nsIn K mainGlobals "_law_with_less" = some (some (.ref f29))) (l29 : K.lookup f29 = some ⟨oc29, od29, .func (PySem.W.fnOf "_law_with_less" "_law_with_less" (defArgs s_law_with_less) (defBody s_law_with_less) (defScope s_law_with_less) .none kV29 dc29 pm29 an29 cd29 ct29), sl29⟩) (c29 : PySem.W.codeIn K cd29 "_law_with_less" = true) (k29 : PySem.W.keepIn K (.ref f29) = true)
    (a30 : PySem.W.nsIn K mainGlobals "_law_some" = some (some (.ref f30))) (l30 : K.lookup f30 = some ⟨oc30, od30, .func (PySem.W.fnOf "_law_some" "_law_some" (defArgs s_law_some) (defBody s_law_some) (defScope s_law_some) .none kV30 dc30 pm30 an30 cd30 ct30), sl30⟩) (c30 : PySem.W.codeIn K cd30 "_law_some" = true) (k30 : PySem.W.keepIn K (.ref f30) = true)
    (a31 : PySem.W.nsIn K mainGlobals "_law_padding" = some (some (.ref f31))) (l31 : K.lookup f31 = some ⟨oc31, od31, .func (PySem.W.fnOf "_law_padding" "_law_padding" (defArgs s_law_padding) (defBody s_law_padding) (defScope s_law_padding) .none kV31 dc31 pm31 an31 cd31 ct31), sl31⟩) (c31 : PySem.W.codeIn K cd31 "_law_padding" = true) (k31 : PySem.W.keepIn K (.ref f31) = true)
    (a32 : PySem.W.nsIn K mainGlobals "_law_is_filler" = some (some (.ref f32))) (l32 : K.lookup f32 = some ⟨oc32, od32, .func (PySem.W.fnOf "_law_is_filler" "_law_is_filler" (defArgs s_law_is_filler) (defBody s_law_is_filler) (defScope s_law_is_filler) .none kV32 dc32 pm32 an32 cd32 ct32), sl32⟩) (c32 : PySem.W.codeIn K cd32 "_law_is_filler" = true) (k32 : PySem.W.keepIn K (.ref f32) = true)
    (a33 : PySem.W.nsIn K mainGlobals "_law_right" = some (some (.ref f33))) (l33 : K.lookup f33 = some ⟨oc33, od33, .func (PySem.W.fnOf "_law_right" "_law_right" (defArgs sRight) (defBody sRight) (defScope sRight) .none kV33 dc33 pm33 an33 cd33 ct33), sl33⟩) (c33 : PySem.W.codeIn K cd33 "_law_right" = true) (k33 : PySem.W.keepIn K (.ref f33) = true)
    (a34 : PySem.W.nsIn K mainGlobals "law" = some (some (.ref f34))) (l34 : K.lookup f34 = some ⟨oc34, od34, .func (PySem.W.fnOf "law" "law" (defArgs sLaw) (defBody sLaw) (defScope sLaw) .none kV34 dc34 pm34 an34 cd34 ct34), sl34⟩) (c34 : PySem.W.codeIn K cd34 "law" = true) (k34 : PySem.W.keepIn K (.ref f34) = true)
    {C0 m0_0 m0_1 m0_2 : Addr} {mod0_0 man0_0 mod0_1 man0_1 mod0_2 man0_2 : Option Addr} {msl0_0 msl0_1 msl0_2 : Array (Option Value)} {moc0_0 mkV0_0 mdc0_0 mpm0_0 mcd0_0 mct0_0 moc0_1 mkV0_1 mdc0_1 mpm0_1 mcd0_1 mct0_1 moc0_2 mkV0_2 mdc0_2 mpm0_2 mcd0_2 mct0_2 : Value}
    (clA0 : PySem.W.nsIn K mainGlobals "InstructionSet" = some (some (.ref C0)))
    (ma0_0 : PySem.W.findIn K (.ref C0) "__init__" = some (some (.ref m0_0))) (mi0_0 : PySem.W.isFn K (.ref m0_0) = true) (ml0_0 : K.lookup m0_0 = some ⟨moc0_0, mod0_0, .func (PySem.W.fnOf "__init__" "InstructionSet.__init__" (defArgs sInitI) (defBody sInitI) (defScope sInitI) .none mkV0_0 mdc0_0 mpm0_0 man0_0 mcd0_0 mct0_0), msl0_0⟩) (mc0_0 : PySem.W.codeIn K mcd0_0 "InstructionSet.__init__" = true) (mk0_0 : PySem.W.keepIn K (.ref m0_0) = true)
    (ma0_1 : PySem.W.findIn K (.ref C0) "longest" = some (some (.ref m0_1))) (mi0_1 : PySem.W.isFn K (.ref m0_1) = true) (ml0_1 : K.lookup m0_1 = some ⟨moc0_1, mod0_1, .func (PySem.W.fnOf "longest" "InstructionSet.longest" (defArgs sLongest) (defBody sLongest) (defScope sLongest) .none mkV0_1 mdc0_1 mpm0_1 man0_1 mcd0_1 mct0_1), msl0_1⟩) (mc0_1 : PySem.W.codeIn K mcd0_1 "InstructionSet.longest" = true) (mk0_1 : PySem.W.keepIn K (.ref m0_1) = true)
    (ma0_2 : PySem.W.findIn K (.ref C0) "padding_lengths" = some (some (.ref m0_2))) (mi0_2 : PySem.W.isFn K (.ref m0_2) = true) (ml0_2 : K.lookup m0_2 = some ⟨moc0_2, mod0_2, .func (PySem.W.fnOf "padding_lengths" "InstructionSet.padding_lengths" (defArgs sPadLens) (defBody sPadLens) (defScope sPadLens) .none mkV0_2 mdc0_2 mpm0_2 man0_2 mcd0_2 mct0_2), msl0_2⟩) (mc0_2 : PySem.W.codeIn K mcd0_2 "InstructionSet.padding_lengths" = true) (mk0_2 : PySem.W.keepIn K (.ref m0_2) = true)
    (pg0 : PySem.W.plainGet K C0 Str.empty = true) (hd0 : PySem.W.hasDictIn K C0 = true) (po0 : PySem.W.plainOver K C0 = true) (sa0 : PySem.W.findIn K (.ref C0) "__setattr__" = some (some (.builtin "object.__setattr__"))) (mks0 : PySem.W.makesIn K C0 = true) (kc0 : PySem.W.keepIn K (.ref C0) = true)
    (na0_0 : PySem.W.findIn K (.ref C0) "byte_count" = some none)
    (na0_1 : PySem.W.findIn K (.ref C0) "instructions" = some none)
    (na0_2 : PySem.W.findIn K (.ref C0) "length_of_opcode" = some none)
    (na0_3 : PySem.W.findIn K (.ref C0) "opcode_of_name" = some none)
    (cst0 : PySem.W.nsIn K mainGlobals "LEAST_BYTE_COUNT" = some (some (.int 2 tk0)))
    (cst1 : PySem.W.nsIn K mainGlobals "MOST_BYTE_COUNT" = some (some (.int 256 tk1)))
    (cst2 : PySem.W.nsIn K mainGlobals "MOST_LETTERS" = some (some (.int 8 tk2)))
    (cst3 : PySem.W.nsIn K mainGlobals "MOST_LENGTH" = some (some (.int 12 tk3)))
    (cst4 : PySem.W.nsIn K mainGlobals "MOST_LENGTHS" = some (some (.int 50 tk4)))
    (cst5 : PySem.W.nsIn K mainGlobals "GREATEST_LENGTH" = some (some (.int 1000 tk5)))
    (bz0 : PySem.W.nsIn K mainGlobals "isinstance" = some none)
    (bz1 : PySem.W.nsIn K mainGlobals "int" = some none)
    (bz2 : PySem.W.nsIn K mainGlobals "bool" = some none)
    (bz3 : PySem.W.nsIn K mainGlobals "tuple" = some none)
    (bz4 : PySem.W.nsIn K mainGlobals "list" = some none)
    (bz5 : PySem.W.nsIn K mainGlobals "all" = some none)
    (bz6 : PySem.W.nsIn K mainGlobals "any" = some none)
    (bz7 : PySem.W.nsIn K mainGlobals "zip" = some none)
    (bz8 : PySem.W.nsIn K mainGlobals "len" = some none)
    (bz9 : PySem.W.nsIn K mainGlobals "range" = some none)
    (bz10 : PySem.W.nsIn K mainGlobals "abs" = some none)
    (bz11 : PySem.W.nsIn K mainGlobals "sorted" = some none)
    (bz12 : PySem.W.nsIn K mainGlobals "min" = some none)
    (bz13 : PySem.W.nsIn K mainGlobals "repr" = some none)
    (bz14 : PySem.W.nsIn K mainGlobals "max" = some none)
    (bz15 : PySem.W.nsIn K mainGlobals "sum" = some none)
    (bz16 : PySem.W.nsIn K mainGlobals "enumerate" = some none)
    (bz17 : PySem.W.nsIn K mainGlobals "str" = some none)
    (bz18 : PySem.W.nsIn K mainGlobals "set" = some none)
    (bz19 : PySem.W.nsIn K mainGlobals "dict" = some none)
    (bz20 : PySem.W.nsIn K mainGlobals "ValueError" = some none)
    : ∃ fd : FuncData, (∀ (s : Shared) (v : Value), BindsTo s fd ⟨[v], []⟩ [("_law_script", v)]) ∧ ∀ base : Heap, K.In base → base.Ns mainGlobals mg → FnOk P w K mg base CX0 11 fa fd ["_law_script"] (spLaw K) := by
  have e := hfa.symm.trans (PySem.W.mg_of X G a34)
  cases e
  have T : Bi mg := ⟨PySem.W.mg_none_of X G bz0, PySem.W.mg_none_of X G bz1, PySem.W.mg_none_of X G bz2, PySem.W.mg_none_of X G bz3, PySem.W.mg_none_of X G bz4, PySem.W.mg_none_of X G bz5, PySem.W.mg_none_of X G bz6, PySem.W.mg_none_of X G bz7, PySem.W.mg_none_of X G bz8, PySem.W.mg_none_of X G bz9, PySem.W.mg_none_of X G bz10, PySem.W.mg_none_of X G bz11, PySem.W.mg_none_of X G bz12, PySem.W.mg_none_of X G bz13, PySem.W.mg_none_of X G bz14, PySem.W.mg_none_of X G bz15, PySem.W.mg_none_of X G bz16, PySem.W.mg_none_of X G bz17, PySem.W.mg_none_of X G bz18, PySem.W.mg_none_of X G bz19, PySem.W.mg_none_of X G bz20⟩
  have FIz := fun_mk (st := sIsInt) l0 c0 k0
  have DIz : Def K mg "is_integer" sIsInt f0 _ ["value"] := ⟨FIz, PySem.W.mg_of X G a0, FIz.binds (ps := ["value"]) fun _ _ _ _ _ _ us hl => match us, hl with | [_], _ => rfl⟩
  have FBt := fun_mk (st := sBetween) l1 c1 k1
  have DBt : Def K mg "is_integer_between" sBetween f1 _ ["value", "least", "most"] := ⟨FBt, PySem.W.mg_of X G a1, FBt.binds (ps := ["value", "least", "most"]) fun _ _ _ _ _ _ us hl => match us, hl with | [_, _, _], _ => rfl⟩
  have FAs := fun_mk (st := sAscending) l2 c2 k2
  have DAs : Def K mg "is_ascending" sAscending f2 _ ["numbers"] := ⟨FAs, PySem.W.mg_of X G a2, FAs.binds (ps := ["numbers"]) fun _ _ _ _ _ _ us hl => match us, hl with | [_], _ => rfl⟩
  have FNm := fun_mk (st := sIsName) l3 c3 k3
  have DNm : Def K mg "is_name" sIsName f3 _ ["value"] := ⟨FNm, PySem.W.mg_of X G a3, FNm.binds (ps := ["value"]) fun _ _ _ _ _ _ us hl => match us, hl with | [_], _ => rfl⟩
  have FIn := fun_mk (st := sIsInstr) l4 c4 k4
  have DIn : Def K mg "is_instruction" sIsInstr f4 _ ["byte_count", "value"] := ⟨FIn, PySem.W.mg_of X G a4, FIn.binds (ps := ["byte_count", "value"]) fun _ _ _ _ _ _ us hl => match us, hl with | [_, _], _ => rfl⟩
  have FAI := fun_mk (st := sAreInstr) l5 c5 k5
  have DAI : Def K mg "are_instructions" sAreInstr f5 _ ["byte_count", "value"] := ⟨FAI, PySem.W.mg_of X G a5, FAI.binds (ps := ["byte_count", "value"]) fun _ _ _ _ _ _ us hl => match us, hl with | [_, _], _ => rfl⟩
  have FCo := fun_mk (st := sCommon) l6 c6 k6
  have DCo : Def K mg "common_divisor" sCommon f6 _ ["lengths"] := ⟨FCo, PySem.W.mg_of X G a6, FCo.binds (ps := ["lengths"]) fun _ _ _ _ _ _ us hl => match us, hl with | [_], _ => rfl⟩
  have FLe := fun_mk (st := sLeast) l7 c7 k7
  have DLe : Def K mg "least_sums" sLeast f7 _ ["lengths"] := ⟨FLe, PySem.W.mg_of X G a7, FLe.binds (ps := ["lengths"]) fun _ _ _ _ _ _ us hl => match us, hl with | [_], _ => rfl⟩
  have FCh := fun_mk (st := sCheck) l8 c8 k8
  have DCh : Def K mg "check_lengths" sCheck f8 _ ["lengths"] := ⟨FCh, PySem.W.mg_of X G a8, FCh.binds (ps := ["lengths"]) fun _ _ _ _ _ _ us hl => match us, hl with | [_], _ => rfl⟩
  have FAr := fun_mk (st := sAre) l9 c9 k9
  have DAr : Def K mg "are_lengths" sAre f9 _ ["value"] := ⟨FAr, PySem.W.mg_of X G a9, FAr.binds (ps := ["value"]) fun _ _ _ _ _ _ us hl => match us, hl with | [_], _ => rfl⟩
  have FGc := fun_mk (st := sGcd) l10 c10 k10
  have DGc : Def K mg "divisor_of_two" sGcd f10 _ ["first", "second"] := ⟨FGc, PySem.W.mg_of X G a10, FGc.binds (ps := ["first", "second"]) fun _ _ _ _ _ _ us hl => match us, hl with | [_, _], _ => rfl⟩
  have FWi := fun_mk (st := sWith) l11 c11 k11
  have DWi : Def K mg "with_length" sWith f11 _ ["least", "length"] := ⟨FWi, PySem.W.mg_of X G a11, FWi.binds (ps := ["least", "length"]) fun _ _ _ _ _ _ us hl => match us, hl with | [_, _], _ => rfl⟩
  have FRe := fun_mk (st := sReached) l12 c12 k12
  have DRe : Def K mg "is_reached" sReached f12 _ ["least", "total"] := ⟨FRe, PySem.W.mg_of X G a12, FRe.binds (ps := ["least", "total"]) fun _ _ _ _ _ _ us hl => match us, hl with | [_, _], _ => rfl⟩
  have FCfF := fun_mk (st := s_conflict) l13 c13 k13
  have DCfF : Def K mg "conflict" s_conflict f13 _ ["instruction_set", "countdowns"] := ⟨FCfF, PySem.W.mg_of X G a13, FCfF.binds (ps := ["instruction_set", "countdowns"]) fun _ _ _ _ _ _ us hl => match us, hl with | [_, _], _ => rfl⟩
  have FFlF := fun_mk (st := s_filler_length) l14 c14 k14
  have DFlF : Def K mg "filler_length" s_filler_length f14 _ ["instruction_set", "countdowns"] := ⟨FFlF, PySem.W.mg_of X G a14, FFlF.binds (ps := ["instruction_set", "countdowns"]) fun _ _ _ _ _ _ us hl => match us, hl with | [_, _], _ => rfl⟩
  have FFlsF := fun_mk (st := s_filler_lengths) l15 c15 k15
  have DFlsF : Def K mg "filler_lengths" s_filler_lengths f15 _ ["instruction_set", "countdowns", "most"] := ⟨FFlsF, PySem.W.mg_of X G a15, FFlsF.binds (ps := ["instruction_set", "countdowns", "most"]) fun _ _ _ _ _ _ us hl => match us, hl with | [_, _, _], _ => rfl⟩
  have FFiF : FunD K "filler" "filler" (defArgs s_filler) (defBody s_filler) (defScope s_filler) [.non] [] f16 _ := ⟨⟨_, _, .ref dT16, _, _, _, _, _, _, _, rfl, l16, c16, .inr ⟨by simp, dT16, _, [.none], _, rfl, ld16, rfl, .cons rfl (.nil)⟩, .inl rfl⟩, k16⟩
  obtain ⟨dsFiF_0, vFiF_0, bFiF_0⟩ := FFiF.binds1 (ps := ["instruction_set", "countdowns", "length"]) 2 0 (by simp) rfl (fun T kV doc pm an cdv ct us its h1 h2 => match us, its, h1, h2 with | [_, _], [_], _, _ => ⟨_, rfl, rfl⟩)
  obtain ⟨dsFiF_1, vFiF_1, bFiF_1⟩ := FFiF.binds1 (ps := ["instruction_set", "countdowns", "length"]) 3 1 (by simp) rfl (fun T kV doc pm an cdv ct us its h1 h2 => match us, its, h1, h2 with | [_, _, _], [_], _, _ => ⟨_, rfl, rfl⟩)
  cases vFiF_1
  have gFiF := PySem.W.mg_of X G a16
  have FCkF := fun_mk (st := s_check_countdowns) l17 c17 k17
  have DCkF : Def K mg "check_countdowns" s_check_countdowns f17 _ ["instruction_set", "countdowns"] := ⟨FCkF, PySem.W.mg_of X G a17, FCkF.binds (ps := ["instruction_set", "countdowns"]) fun _ _ _ _ _ _ us hl => match us, hl with | [_, _], _ => rfl⟩
  have FArF := fun_mk (st := s_are_countdowns) l18 c18 k18
  have DArF : Def K mg "are_countdowns" s_are_countdowns f18 _ ["instruction_set", "value"] := ⟨FArF, PySem.W.mg_of X G a18, FArF.binds (ps := ["instruction_set", "value"]) fun _ _ _ _ _ _ us hl => match us, hl with | [_, _], _ => rfl⟩
  have FCgF := fun_mk (st := s_are_congruent) l19 c19 k19
  have DCgF : Def K mg "are_congruent" s_are_congruent f19 _ ["first", "second", "divisor"] := ⟨FCgF, PySem.W.mg_of X G a19, FCgF.binds (ps := ["first", "second", "divisor"]) fun _ _ _ _ _ _ us hl => match us, hl with | [_, _, _], _ => rfl⟩
  have FHsF := fun_mk (st := s_has_filler) l20 c20 k20
  have DHsF : Def K mg "has_filler" s_has_filler f20 _ ["least", "countdowns", "length"] := ⟨FHsF, PySem.W.mg_of X G a20, FHsF.binds (ps := ["least", "countdowns", "length"]) fun _ _ _ _ _ _ us hl => match us, hl with | [_, _, _], _ => rfl⟩
  have FLfF := fun_mk (st := s_least_filler) l21 c21 k21
  have DLfF : Def K mg "least_filler" s_least_filler f21 _ ["padding", "least", "countdowns", "length"] := ⟨FLfF, PySem.W.mg_of X G a21, FLfF.binds (ps := ["padding", "least", "countdowns", "length"]) fun _ _ _ _ _ _ us hl => match us, hl with | [_, _, _, _], _ => rfl⟩
  have FPiF := fun_mk (st := s_padding_instructions) l22 c22 k22
  have DPiF : Def K mg "padding_instructions" s_padding_instructions f22 _ ["instruction_set"] := ⟨FPiF, PySem.W.mg_of X G a22, FPiF.binds (ps := ["instruction_set"]) fun _ _ _ _ _ _ us hl => match us, hl with | [_], _ => rfl⟩
  have FFfF := fun_mk (st := s_first_fitting) l23 c23 k23
  have DFfF : Def K mg "first_fitting" s_first_fitting f23 _ ["padding", "least", "left"] := ⟨FFfF, PySem.W.mg_of X G a23, FFfF.binds (ps := ["padding", "least", "left"]) fun _ _ _ _ _ _ us hl => match us, hl with | [_, _, _], _ => rfl⟩
  have FBo := fun_mk (st := sBox) l24 c24 k24
  have DBo : Def K mg "_law_box" sBox f24 _ ["_law_script", "_law_k"] := ⟨FBo, PySem.W.mg_of X G a24, FBo.binds (ps := ["_law_script", "_law_k"]) fun _ _ _ _ _ _ us hl => match us, hl with | [_, _], _ => rfl⟩
  have FTa := fun_mk (st := sTake) l25 c25 k25
  have DTa : Def K mg "_law_take" sTake f25 _ ["_law_box_here", "_law_many"] := ⟨FTa, PySem.W.mg_of X G a25, FTa.binds (ps := ["_law_box_here", "_law_many"]) fun _ _ _ _ _ _ us hl => match us, hl with | [_, _], _ => rfl⟩
  have FOfC := fun_mk (st := sOf) l26 c26 k26
  have DOfC : Def K mg "_law_of" sOf f26 _ ["_law_box_here", "_law_some_here"] := ⟨FOfC, PySem.W.mg_of X G a26, FOfC.binds (ps := ["_law_box_here", "_law_some_here"]) fun _ _ _ _ _ _ us hl => match us, hl with | [_, _], _ => rfl⟩
  have FTb2 := fun_mk (st := sTable) l27 c27 k27
  have DTb2 : Def K mg "_law_table" sTable f27 _ ["_law_box_here", "_law_most_bytes", "_law_longest_here"] := ⟨FTb2, PySem.W.mg_of X G a27, FTb2.binds (ps := ["_law_box_here", "_law_most_bytes", "_law_longest_here"]) fun _ _ _ _ _ _ us hl => match us, hl with | [_, _, _], _ => rfl⟩
  have FLLg := fun_mk (st := sLLongest) l28 c28 k28
  have DLLg : Def K mg "_law_longest" sLLongest f28 _ ["_law_table_here"] := ⟨FLLg, PySem.W.mg_of X G a28, FLLg.binds (ps := ["_law_table_here"]) fun _ _ _ _ _ _ us hl => match us, hl with | [_], _ => rfl⟩
  have FLWl := fun_mk (st := s_law_with_less) l29 c29 k29
  have DLWl : Def K mg "_law_with_less" s_law_with_less f29 _ ["_law_box_here", "_law_table_here"] := ⟨FLWl, PySem.W.mg_of X G a29, FLWl.binds (ps := ["_law_box_here", "_law_table_here"]) fun _ _ _ _ _ _ us hl => match us, hl with | [_, _], _ => rfl⟩
  have FLSo := fun_mk (st := s_law_some) l30 c30 k30
  have DLSo : Def K mg "_law_some" s_law_some f30 _ ["_law_box_here", "_law_longest_here"] := ⟨FLSo, PySem.W.mg_of X G a30, FLSo.binds (ps := ["_law_box_here", "_law_longest_here"]) fun _ _ _ _ _ _ us hl => match us, hl with | [_, _], _ => rfl⟩
  have FLPa := fun_mk (st := s_law_padding) l31 c31 k31
  have DLPa : Def K mg "_law_padding" s_law_padding f31 _ ["_law_table_here"] := ⟨FLPa, PySem.W.mg_of X G a31, FLPa.binds (ps := ["_law_table_here"]) fun _ _ _ _ _ _ us hl => match us, hl with | [_], _ => rfl⟩
  have FLIf := fun_mk (st := s_law_is_filler) l32 c32 k32
  have DLIf : Def K mg "_law_is_filler" s_law_is_filler f32 _ ["_law_table_here", "_law_some_here", "_law_code"] := ⟨FLIf, PySem.W.mg_of X G a32, FLIf.binds (ps := ["_law_table_here", "_law_some_here", "_law_code"]) fun _ _ _ _ _ _ us hl => match us, hl with | [_, _, _], _ => rfl⟩
  have FRi14 := fun_mk (st := sRight) l33 c33 k33
  have DRi14 : Def K mg "_law_right" sRight f33 _ ["_law_box_here", "_law_table_here", "_law_some_here", "_law_length"] := ⟨FRi14, PySem.W.mg_of X G a33, FRi14.binds (ps := ["_law_box_here", "_law_table_here", "_law_some_here", "_law_length"]) fun _ _ _ _ _ _ us hl => match us, hl with | [_, _, _, _], _ => rfl⟩
  have FLa := fun_mk (st := sLaw) l34 c34 k34
  have FIi := fun_mk (st := sInitI) ml0_0 mc0_0 mk0_0
  have bIi := FIi.binds (ps := ["self", "byte_count", "instructions"]) fun _ _ _ _ _ _ us hl => match us, hl with | [_, _, _], _ => rfl
  have FLo := fun_mk (st := sLongest) ml0_1 mc0_1 mk0_1
  have bLo := FLo.binds (ps := ["self"]) fun _ _ _ _ _ _ us hl => match us, hl with | [_], _ => rfl
  have FPL := fun_mk (st := sPadLens) ml0_2 mc0_2 mk0_2
  have bPL := FPL.binds (ps := ["self"]) fun _ _ _ _ _ _ us hl => match us, hl with | [_], _ => rfl
  have CLb : ∃ t, mg "LEAST_BYTE_COUNT" = some (.int 2 t) := ⟨_, PySem.W.mg_of X G cst0⟩
  have CMb : ∃ t, mg "MOST_BYTE_COUNT" = some (.int 256 t) := ⟨_, PySem.W.mg_of X G cst1⟩
  have CMt : ∃ t, mg "MOST_LETTERS" = some (.int 8 t) := ⟨_, PySem.W.mg_of X G cst2⟩
  have CMn : ∃ t, mg "MOST_LENGTH" = some (.int 12 t) := ⟨_, PySem.W.mg_of X G cst3⟩
  have CMl : ∃ t, mg "MOST_LENGTHS" = some (.int 50 t) := ⟨_, PySem.W.mg_of X G cst4⟩
  have CGl : ∃ t, mg "GREATEST_LENGTH" = some (.int 1000 t) := ⟨_, PySem.W.mg_of X G cst5⟩

  refine ⟨PySem.W.fnOf "law" "law" (defArgs sLaw) (defBody sLaw) (defScope sLaw) .none kV34 dc34 pm34 an34 cd34 ct34, fun s v => .of_eq rfl, fun base _ _ => ?_⟩
  have S : SetTxt K mg C0 := ⟨⟨pg0, hd0, po0, sa0⟩, na0_0, na0_1, na0_2, na0_3, PySem.W.mg_of X G clA0⟩
  have GBt : FnOk P w K mg base CX0 2 _ _ ["value", "least", "most"] spBetween := ok_between FBt T DIz
  have GIn : FnOk P w K mg base CX0 3 _ _ ["byte_count", "value"] spInstr := ok_instr FIn T DBt GBt DNm CMt CMn
  have GAI : FnOk P w K mg base CX0 4 _ _ ["byte_count", "value"] spAreI := ok_areI FAI T DIn GIn DAs (ok_ascL FAs T)
  have GIi : FnOk P w K mg base CX0 5 _ _ ["self", "byte_count", "instructions"] (spInitI C0) := ok_initI FIi T S DBt (up GBt (by decide)) DAI GAI CLb CMb
  have GAr : FnOk P w K mg base CX0 3 _ _ ["value"] spAre := ok_are FAr T DBt GBt DAs CMl CGl
  have GCh : FnOk P w K mg base CX0 4 _ _ ["lengths"] spCheck := ok_check FCh DAr GAr
  have GWi : FnOk P w K mg base CX0 4 _ _ ["least", "length"] spWith := ok_with FWi T DGc
  have GLe : FnOk P w K mg base CX0 5 _ _ ["lengths"] spLeast := ok_least FLe T DCh GCh DWi GWi
  have GCo : FnOk P w K mg base CX0 5 _ _ ["lengths"] spCommon := ok_common FCo DCh GCh DGc
  have GLo : FnOk P w K mg base CX0 2 _ _ ["self"] (spLongest C0) := ok_longest FLo T S
  have GPL : FnOk P w K mg base CX0 2 _ _ ["self"] (spPadLens C0) := ok_padLens FPL T S
  have GAc : FnOk P w K mg base CX0 3 _ _ ["instruction_set", "value"] (spAreC K C0) := ok_areC FArF T S DBt GBt DAs (ok_ascending FAs T) ⟨ma0_1, mi0_1, mk0_1⟩ bLo GLo
  have GCk : FnOk P w K mg base CX0 4 _ _ ["instruction_set", "countdowns"] (spChkC K C0) := ok_chkC FCkF DArF GAc
  have GCf : FnOk P w K mg base CX0 6 _ _ ["instruction_set", "countdowns"] (spConf K C0) := ok_conf FCfF S DCkF (up GCk (by decide)) ⟨ma0_2, mi0_2, mk0_2⟩ bPL (up GPL (by decide)) DCo GCo DCgF (ok_cong FCgF)
  have GHs : FnOk P w K mg base CX0 2 _ _ ["least", "countdowns", "length"] (spHasF K) := ok_hasF FHsF T DRe (ok_reachI FRe T)
  have GFl : FnOk P w K mg base CX0 7 _ _ ["instruction_set", "countdowns"] (spFLen K C0) := ok_fLen FFlF S DCfF GCf ⟨ma0_2, mi0_2, mk0_2⟩ bPL (up GPL (by decide)) DLe (up GLe (by decide)) DHsF (up GHs (by decide))
  have GPi : FnOk P w K mg base CX0 2 _ _ ["instruction_set"] (spPadI C0) := ok_padI FPiF S
  have GFf : FnOk P w K mg base CX0 2 _ _ ["padding", "least", "left"] spFirst := ok_first FFfF DRe (ok_reachI FRe T)
  have GLf : FnOk P w K mg base CX0 3 _ _ ["padding", "least", "countdowns", "length"] (spLeastF K) := ok_leastF FLfF T DFfF GFf
  have GFi : FnOk P w K mg base CX0 8 _ _ ["instruction_set", "countdowns", "length"] (spFiller K C0) := ok_filler FFiF S DCkF (up GCk (by decide)) DFlF GFl ⟨ma0_2, mi0_2, mk0_2⟩ bPL (up GPL (by decide)) DLe (up GLe (by decide)) DHsF (up GHs (by decide)) DPiF (up GPi (by decide)) DLfF (up GLf (by decide))
  have GFs : FnOk P w K mg base CX0 7 _ _ ["instruction_set", "countdowns", "most"] (spFLens K C0) := ok_fLens FFlsF T S DCkF (up GCk (by decide)) ⟨ma0_2, mi0_2, mk0_2⟩ bPL (up GPL (by decide)) DLe (up GLe (by decide)) DHsF (up GHs (by decide))
  have GOf : FnOk P w K mg base CX0 2 _ _ ["_law_box_here", "_law_some_here"] spOf := ok_of FOfC T DTa
  have GTb : FnOk P w K mg base CX0 5 _ _ ["_law_box_here", "_law_most_bytes", "_law_longest_here"] spTable := ok_table FTb2 T DOfC DTa
  have GWl : FnOk P w K mg base CX0 3 _ _ ["_law_box_here", "_law_table_here"] spLess := ok_less FLWl T DOfC GOf DTa (ok_take FTa)
  have GSo : FnOk P w K mg base CX0 3 _ _ ["_law_box_here", "_law_longest_here"] spSome := ok_some FLSo T DOfC GOf DTa (ok_take FTa)
  have GPa : FnOk P w K mg base CX0 1 _ _ ["_law_table_here"] spLPad := ok_lpad FLPa T
  have GIf : FnOk P w K mg base CX0 1 _ _ ["_law_table_here", "_law_some_here", "_law_code"] (spLIsF K) := ok_lisF FLIf T
  have GRi : FnOk P w K mg base CX0 10 _ _ ["_law_box_here", "_law_table_here", "_law_some_here", "_law_length"] (spRight K) := ok_right (k := 8) FRi14 T S DFlF (up GFl (by decide)) DLPa (up GPa (by decide)) DLIf (up GIf (by decide)) gFiF FFiF.kp bFiF_1 (up GFi (by decide)) DFlsF (up GFs (by decide)) ⟨mks0, ma0_0, mi0_0, kc0⟩ bIi (up GIi (by decide))
  exact ok_law (k := 10) FLa T DRi14 GRi DTa (ok_take FTa) DLSo (up GSo (by decide)) DLLg (ok_llongest FLLg T) DLWl (up GWl (by decide)) DTb2 (up GTb (by decide)) DBo (ok_box FBo T)
end Ov
open PySem PySem.W PyProof.Rows
set_option maxRecDepth 100000 in
set_option maxHeartbeats 0 in
theorem PySem.Challenge.cw_overlapcode_k14_long_fillers_holds : PySem.Challenge.rw_overlapcode_k14_long_fillers.Holds := by
  w_on; o_law; k_head; (case hw => w_witness2)
  k_fill
  refine L2.walk_of (l := PySem.Challenge.rw_overlapcode_k14_long_fillers) (n := 63) (k := 11) (x := "_law_script") (CX := fun _ => L2.CX0) (sp := fun w => Ov.spLaw _) rfl (by decide) rfl ⟨rfl, by decide, by decide⟩ (fun w h Y => PySem.W.kIn_of Y) ?F (fun _ _ a ns hl _ hS => ⟨a, ns, rfl, hS, hl, fun _ => rfl⟩) (fun _ _ _ _ _ h => h)
  case F =>
    intro w mg fa h KX G hmg
    refine' Ov.all_mk KX G hmg ?a0 ?l0 ?c0 ?k0 ?a1 ?l1 ?c1 ?k1 ?a2 ?l2 ?c2 ?k2 ?a3 ?l3 ?c3 ?k3 ?a4 ?l4 ?c4 ?k4 ?a5 ?l5 ?c5 ?k5 ?a6 ?l6 ?c6 ?k6 ?a7 ?l7 ?c7 ?k7 ?a8 ?l8 ?c8 ?k8 ?a9 ?l9 ?c9 ?k9 ?a10 ?l10 ?c10 ?k10 ?a11 ?l11 ?c11 ?k11 ?a12 ?l12 ?c12 ?k12 ?a13 ?l13 ?c13 ?k13 ?a14 ?l14 ?c14 ?k14 ?a15 ?l15 ?c15 ?k15 ?a16 ?l16 ?c16 ?k16 ?ld16 ?a17 ?l17 ?c17 ?k17 ?a18 ?l18 ?c18 ?k18 ?a19 ?l19 ?c19 ?k19 ?a20 ?l20 ?c20 ?k20 ?a21 ?l21 ?c21 ?k21 ?a22 ?l22 ?c22 ?k22 ?a23 ?l23 ?c23 ?k23 ?a24 ?l24 ?c24 ?k24 ?a25 ?l25 ?c25 ?k25 ?a26 ?l26 ?c26 ?k26 ?a27 ?l27 ?c27 ?k27 ?a28 ?l28 ?c28 ?k28 ?a29 ?l29 ?c29 ?k29 ?a30 ?l30 ?c30 ?k30 ?a31 ?l31 ?c31 ?k31 ?a32 ?l32 ?c32 ?k32 ?a33 ?l33 ?c33 ?k33 ?a34 ?l34 ?c34 ?k34 ?clA0 ?ma0_0 ?mi0_0 ?ml0_0 ?mc0_0 ?mk0_0 ?ma0_1 ?mi0_1 ?ml0_1 ?mc0_1 ?mk0_1 ?ma0_2 ?mi0_2 ?ml0_2 ?mc0_2 ?mk0_2 ?pg0 ?hd0 ?po0 ?sa0 ?mks0 ?kc0 ?na0_0 ?na0_1 ?na0_2 ?na0_3 ?cst0 ?cst1 ?cst2 ?cst3 ?cst4 ?cst5 ?bz0 ?bz1 ?bz2 ?bz3 ?bz4 ?bz5 ?bz6 ?bz7 ?bz8 ?bz9 ?bz10 ?bz11 ?bz12 ?bz13 ?bz14 ?bz15 ?bz16 ?bz17 ?bz18 ?bz19 ?bz20
    (case a0 => k_is)
    (case l0 => k_is)
    (case c0 => k_is)
    (case k0 => k_is)
    (case a1 => k_is)
    (case l1 => k_is)
    (case c1 => k_is)
    (case k1 => k_is)
    (case a2 => k_is)
    (case l2 => k_is)
    (case c2 => k_is)
    (case k2 => k_is)
    (case a3 => k_is)
    (case l3 => k_is)
    (case c3 => k_is)
    (case k3 => k_is)
    (case a4 => k_is)
    (case l4 => k_is)
    (case c4 => k_is)
    (case k4 => k_is)
    (case a5 => k_is)
    (case l5 => k_is)
    (case c5 => k_is)
    (case k5 => k_is)
    (case a6 => k_is)
    (case l6 => k_is)
    (case c6 => k_is)
    (case k6 => k_is)
    (case a7 => k_is)
    (case l7 => k_is)
    (case c7 => k_is)
    (case k7 => k_is)
    (case a8 => k_is)
    (case l8 => k_is)
    (case c8 => k_is)
    (case k8 => k_is)
    (case a9 => k_is)
    (case l9 => k_is)
    (case c9 => k_is)
    (case k9 => k_is)
    (case a10 => k_is)
    (case l10 => k_is)
    (case c10 => k_is)
    (case k10 => k_is)
    (case a11 => k_is)
    (case l11 => k_is)
    (case c11 => k_is)
    (case k11 => k_is)
    (case a12 => k_is)
    (case l12 => k_is)
    (case c12 => k_is)
    (case k12 => k_is)
    (case a13 => k_is)
    (case l13 => k_is)
    (case c13 => k_is)
    (case k13 => k_is)
    (case a14 => k_is)
    (case l14 => k_is)
    (case c14 => k_is)
    (case k14 => k_is)
    (case a15 => k_is)
    (case l15 => k_is)
    (case c15 => k_is)
    (case k15 => k_is)
    (case a16 => k_is)
    (case l16 => k_is)
    (case c16 => k_is)
    (case k16 => k_is)
    (case ld16 => k_is)
    (case a17 => k_is)
    (case l17 => k_is)
    (case c17 => k_is)
    (case k17 => k_is)
    (case a18 => k_is)
    (case l18 => k_is)
    (case c18 => k_is)
    (case k18 => k_is)
    (case a19 => k_is)
    (case l19 => k_is)
    (case c19 => k_is)
    (case k19 => k_is)
    (case a20 => k_is)
    (case l20 => k_is)
    (case c20 => k_is)
    (case k20 => k_is)
    (case a21 => k_is)
    (case l21 => k_is)
    (case c21 => k_is)
    (case k21 => k_is)
    (case a22 => k_is)
    (case l22 => k_is)
    (case c22 => k_is)
    (case k22 => k_is)
    (case a23 => k_is)
    (case l23 => k_is)
    (case c23 => k_is)
    (case k23 => k_is)
    (case a24 => k_is)
    (case l24 => k_is)
    (case c24 => k_is)
    (case k24 => k_is)
    (case a25 => k_is)
    (case l25 => k_is)
    (case c25 => k_is)
    (case k25 => k_is)
    (case a26 => k_is)
    (case l26 => k_is)
    (case c26 => k_is)
    (case k26 => k_is)
    (case a27 => k_is)
    (case l27 => k_is)
    (case c27 => k_is)
    (case k27 => k_is)
    (case a28 => k_is)
    (case l28 => k_is)
    (case c28 => k_is)
    (case k28 => k_is)
    (case a29 => k_is)
    (case l29 => k_is)
    (case c29 => k_is)
    (case k29 => k_is)
    (case a30 => k_is)
    (case l30 => k_is)
    (case c30 => k_is)
    (case k30 => k_is)
    (case a31 => k_is)
    (case l31 => k_is)
    (case c31 => k_is)
    (case k31 => k_is)
    (case a32 => k_is)
    (case l32 => k_is)
    (case c32 => k_is)
    (case k32 => k_is)
    (case a33 => k_is)
    (case l33 => k_is)
    (case c33 => k_is)
    (case k33 => k_is)
    (case a34 => k_is)
    (case l34 => k_is)
    (case c34 => k_is)
    (case k34 => k_is)
    (case clA0 => k_is)
    (case ma0_0 => k_is)
    (case mi0_0 => k_is)
    (case ml0_0 => k_is)
    (case mc0_0 => k_is)
    (case mk0_0 => k_is)
    (case ma0_1 => k_is)
    (case mi0_1 => k_is)
    (case ml0_1 => k_is)
    (case mc0_1 => k_is)
    (case mk0_1 => k_is)
    (case ma0_2 => k_is)
    (case mi0_2 => k_is)
    (case ml0_2 => k_is)
    (case mc0_2 => k_is)
    (case mk0_2 => k_is)
    (case pg0 => k_is)
    (case hd0 => k_is)
    (case po0 => k_is)
    (case sa0 => k_is)
    (case mks0 => k_is)
    (case kc0 => k_is)
    (case na0_0 => k_is)
    (case na0_1 => k_is)
    (case na0_2 => k_is)
    (case na0_3 => k_is)
    (case cst0 => k_is)
    (case cst1 => k_is)
    (case cst2 => k_is)
    (case cst3 => k_is)
    (case cst4 => k_is)
    (case cst5 => k_is)
    (case bz0 => k_is)
    (case bz1 => k_is)
    (case bz2 => k_is)
    (case bz3 => k_is)
    (case bz4 => k_is)
    (case bz5 => k_is)
    (case bz6 => k_is)
    (case bz7 => k_is)
    (case bz8 => k_is)
    (case bz9 => k_is)
    (case bz10 => k_is)
    (case bz11 => k_is)
    (case bz12 => k_is)
    (case bz13 => k_is)
    (case bz14 => k_is)
    (case bz15 => k_is)
    (case bz16 => k_is)
    (case bz17 => k_is)
    (case bz18 => k_is)
    (case bz19 => k_is)
    (case bz20 => k_is)
