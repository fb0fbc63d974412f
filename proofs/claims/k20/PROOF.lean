import PyProof.Rows.All
import Wide.All
import OpenK.AllK
import Wide.FinOn
import HandS.ForMost
import HandS.IsInst
import HandS.Zip
import HandS.TupAny
import HandS.Wide
import HandS.More
import HandS.Walk
import HandS.RaiseMore
import HandS.Flow
import HandS.Conv
import HandS.MakeKwOnly
import HandS.Text
import HandS.Strs
import HandS.Codes
import HandS.ExcInit
import HandS.ExcField
import HandS.ExcIs
import HandS.ExcOwn
import HandS.ExcValue
import KE.KExcIs
import HandS.DictComp
import HandS.TryOnly
import HandS.TupLe
import PySem.Challenge.RW_overlapcode_k20_errors
set_option Elab.async false
set_option linter.all false
set_option maxRecDepth 100000
set_option maxHeartbeats 4000000
namespace Ov
open PySem PySem.Spec PyProof.Rows L2
/-! ### heaps -/
theorem same_upd {H : Hp} {p : Addr} {o : HO} (h : H p = none) : Same H (upd H p o) := fun b x e => by
  rw [upd_ne (ne_of_none e h)]
  exact e
theorem _root_.L2.Same.tup {K : PySem.W.Frag} {H H' : Hp} {a : Addr} {xs : List V} (e : Same H H') (h : SqT K H a xs) : SqT K H' a xs := by
  rcases h with (h | ⟨o, h⟩) | h
  · exact .inl (.inl (e _ _ h))
  · exact .inl (.inr ⟨o, e _ _ h⟩)
  · exact .inr h
/-- a new list in the making at D: all that stood before stands, D is new and holds acc -/
structure Mk (H H' : Hp) (D : Addr) (acc : List V) : Prop where
  same : Same H H'
  new : H D = none
  at_ : H' D = some (.lst acc)
theorem Mk.start {H : Hp} {D : Addr} (h : H D = none) : Mk H (upd H D (.lst [])) D [] := ⟨same_upd h, h, upd_same⟩
theorem Mk.put {H H' H4 : Hp} {D : Addr} {acc acc' : List V} (m : Mk H H' D acc) (s : Same H' H4) : Mk H (upd H4 D (.lst acc')) D acc' :=
  ⟨fun b o e => by rw [upd_ne (ne_of_none e m.new)]; exact s _ _ (m.same _ _ e), m.new, upd_same⟩
/-- two tuples walked abreast -/
theorem walk_zipT {K : PySem.W.Frag} {a b : Addr} {xs ys : List V} {n : Nat} (hn : n = min xs.length ys.length) : Walk (RZ.ItzT K a b) n (fun H => SqT K H a xs ∧ SqT K H b ys) (YPair (fun i => xs[i]?) (fun i => ys[i]?)) := by
  subst hn
  refine ⟨fun i _ hi q => ?_, fun _ q => ⟨xs, ys, q.1, q.2, by omega⟩, fun i H v H' _ q y => ?_⟩
  · have h1 : i < xs.length := by omega
    have h2 : i < ys.length := by omega
    exact ⟨xs, ys, xs[i], ys[i], q.1, q.2, by simp [h1], by simp [h2]⟩
  · obtain ⟨T, x, z, h1, h2, h3, h4, h5⟩ := y
    exact ⟨T, x, z, h1, h2, h3, h4 xs q.1, h5 ys q.2⟩
theorem cut1 (xs : List V) : cutV xs (some 1) none = xs.drop 1 := by
  unfold cutV
  rw [show HT.sIx xs.length 0 (some 1) = min 1 xs.length from HT.sIx_nat xs.length 0 1, HT.sIx_none]
  cases xs with
  | nil => rfl
  | cons x r =>
    rw [show min 1 (x :: r).length = 1 by
      rw [List.length_cons]
      omega]
    show (List.take ((x :: r).length - 1) r) = r
    rw [List.length_cons, Nat.add_sub_cancel]
    exact List.take_length
theorem cut1_whole {xs : List V} (h : HT.sIx xs.length 0 (some 1) = 0 ∧ HT.sIx xs.length xs.length none = xs.length) : xs = [] := by
  have h1 := h.1
  rw [show HT.sIx xs.length 0 (some 1) = min 1 xs.length from HT.sIx_nat xs.length 0 1] at h1
  cases xs with
  | nil => rfl
  | cons x r => rw [List.length_cons] at h1; omega
/-! ### targets: two names -/
theorem pg_two {X : Cx} {x y : Str} {p1 p2 pos : Pos} {kk i j : Nat} (hc : X.calm = true) (hN : X.N.Nodup) (hi : X.N[i]? = some x) (hx : Loc X.env.scope x) (hfx : X.fn x = true ∨ X.env.scope.names.lookup x = some .local) (hj : X.N[j]? = some y) (hy : Loc X.env.scope y) (hfy : X.fn y = true ∨ X.env.scope.names.lookup y = some .local) :
    PG X (.Tuple [.Name x p1, .Name y p2] kk pos) (gTup X.K 2 (gCons (gName i) (gCons (gName j) gNil))) :=
  pg_tup hc (pgs_cons (pg_name hN hi hx hfx) (pgs_cons (pg_name hN hj hy hfy) pgs_nil))
/-! ### repr of a bool, a call by keywords alone -/
section
variable {X : Cx}
def boolText (b : Bool) : Str := if b then "True" else "False"
theorem call_repr_bool : CallR X (.builtin "repr") (fun xs H Q => ∃ b, xs = [.bl b] ∧ Q (.str (boolText b)) H) := by
  intro pins s σ H xs us Q I r h
  obtain ⟨b, rfl, q⟩ := h
  obtain ⟨u, rfl, rx⟩ := vals1 r
  cases (show u = Value.bool b from rx)
  exact PySem.P.repr_of_bool ⟨.str _, H, I.tok _, ⟨_, rfl⟩, q⟩
theorem boolText_inj {a b : Bool} : boolText a = boolText b ↔ a = b := by
  cases a <;> cases b <;> decide
variable {k : Nat} {f : Addr} {fd : FuncData} {ps ks : List Str} {sp : Sp} {CX : CXT} {E : XK} {x : Str} {p pos : Pos} {kws : List PySem.Keyword} {tk : TA} {g : List Value → List Value → List Value} {gV : List V → List V → List V}
theorem pe_callK0 (F : FnOk X.prog X.w X.K X.mg X.base CX k f fd ps sp) (hr : Room k X.A) (hg : Gl X x) (hm : X.mg x = some (.ref f)) (hk : PySem.W.keepIn X.K (.ref f) = true) (hb : KBinds X.K fd ps ks g gV) (hx : Passes CX X E)
    (hkw : PK X kws tk) (hall : (backToKw pos (keywordEach kws X.env)).all (·.1.isSome) = true := by rfl) (hks : (backToKw pos (keywordEach kws X.env)).filterMap (·.1) = ks := by rfl)
    (hdb : (x == ("__debug__" : Str)) = false := by decide)
    (hpl : ((backTo pos (starEach [] X.env)).any (·.1) || (backToKw pos (keywordEach kws X.env)).any (·.1.isNone)) = false := by rfl) :
    PE X (.Call (.Name x p) [] kws pos) (tCallK sp gV E tNil tk) := by
  refine ⟨fun pins s σ H Q I h => ?_⟩
  refine wpAny_Call_Name_kw (ld_glob I hg hm ?_ hdb)
  refine PySem.W.callWith_KW0 (h₀ := X.base) I.ok.mod.kin hk hall ?_ hpl
  refine thn (hkw.run pos pins s σ H _ I h) fun ws s2 ⟨zs, H2, I2, rz, q2⟩ => ⟨I2.kIn, ?_⟩
  rw [hks]
  exact run_fnk F hr hb hx I2 .nil rz q2
end
/-- two values by keywords, in the other order -/
def swap2 {α : Type} : List α → List α → List α
  | [], [a, b] => [b, a]
  | _, _ => []
theorem swap2_len {α : Type} {us ws : List α} (h : (swap2 us ws).length = 2) : ∃ a b, us = [] ∧ ws = [a, b] := by
  match us, ws, h with
  | [], [a, b], _ => exact ⟨a, b, rfl, rfl⟩
  | [], [], h => cases h
  | [], [_], h => cases h
  | [], _ :: _ :: _ :: _, h => cases h
  | _ :: _, _, h => cases h
theorem swap2_rel {vs : List V} {us : List Value} {zs : List V} {ws : List Value} (r : Vals vs us) (rz : Vals zs ws) : Vals (swap2 vs zs) (swap2 us ws) := by
  cases r with
  | nil =>
    cases rz with
    | nil => exact .nil
    | cons r1 rz =>
      cases rz with
      | nil => exact .nil
      | cons r2 rz =>
        cases rz with
        | nil => exact .cons r2 (.cons r1 .nil)
        | cons r3 rz => exact .nil
  | cons r1 r => exact .nil
/-- the built-in names that the text leaves alone -/
structure Bi (mg : Str → Option Value) : Prop where
  isi : mg "isinstance" = none
  int : mg "int" = none
  bool : mg "bool" = none
  tuple : mg "tuple" = none
  list : mg "list" = none
  all : mg "all" = none
  any : mg "any" = none
  zip : mg "zip" = none
  len : mg "len" = none
  range : mg "range" = none
  abs : mg "abs" = none
  sorted : mg "sorted" = none
  min : mg "min" = none
  repr : mg "repr" = none
  max : mg "max" = none
  sum : mg "sum" = none
  enumerate : mg "enumerate" = none
  str : mg "str" = none
  set : mg "set" = none
  dict : mg "dict" = none
  vErr : mg "ValueError" = none
/-! ### small things -/
/-- where a def stands, and that its name tells it -/
structure Def (K : PySem.W.Frag) (mg : Str → Option Value) (x : Str) (st : Stmt) (f : Addr) (fd : FuncData) (ps : List Str) : Prop where
  fn : Fun K x x st f fd
  gl : mg x = some (.ref f)
  bi : Binds K fd ps []
theorem ixN_at {n j : Nat} (hj : j < n) : ixN n (j : Int) = some j := by
  unfold ixN
  rw [if_pos (by omega), if_pos (by omega)]
  simp
theorem flat_rep {α : Type} (x : α) : ∀ n : Nat, (List.replicate n [x]).flatten = List.replicate n x
  | 0 => rfl
  | n + 1 => by rw [List.replicate_succ, List.flatten_cons, flat_rep x n, List.replicate_succ]; rfl
theorem take_more {α : Type} {l : List α} {i : Nat} {x : α} (h : l[i]? = some x) : l.take (i + 1) = l.take i ++ [x] := by
  rw [List.take_add_one, h]; rfl
theorem all_true (n : Nat) : (List.replicate n true).all id = true := by
  rw [List.all_eq_true]
  intro x hx
  exact (List.mem_replicate.mp hx).2
end Ov
namespace Ov
open PySem PySem.Spec PyProof.Rows L2
/-! ### defs that are called where no repr is under way: what they show of lists and tuples is then known -/
/-- the promise of a def, for calls under no guard -/
structure FnG (P : Program) (w : World) (K : PySem.W.Frag) (mg : Str → Option Value) (base : Heap) (k : Nat) (f : Addr) (fd : FuncData) (ps : List Str) (sp : Sp) : Prop where
  len : ∀ vs H Q E, sp vs H Q E → vs.length = ps.length
  run : ∀ (A : Around) (outer : List Env) (s : Shared) (H : Hp) (args : Args) (us : List Value) (vs : List V) (Q : VK) (E : XK),
    A.guards = some [] → Room k A → Env0 P w K mg base A outer s H → BindsTo s fd args (ps.zip us) → Vals vs us → sp vs H Q E →
    codeAny (model P w) A (.call (.ref f) args) (CR CX0 outer P w H s Q E) s
section
variable {P : Program} {w : World} {K : PySem.W.Frag} {mg : Str → Option Value} {base : Heap}
theorem okG {x qual : Str} {st : Stmt} {f : Addr} {fd : FuncData} {N ps : List Str} {k : Nat} {sp : Sp} (F : Fun K x qual st f fd) (S : FnScope N ps (defScope st)) (len : ∀ vs H Q E, sp vs H Q E → vs.length = ps.length)
    (body : ∀ (cdv : Value) (A : Around) (outer : List Env) (s : Shared) (H : Hp) (vs : List V) (Q : VK) (E : XK), A.guards = some [] → Room k (A.deeper (envOfC qual (defScope st) s.heap.objs.size f cdv)) → sp vs H Q E →
      ∃ t, PSs (cxOf CX0 P w K mg base N qual (defScope st) f cdv A outer s H E).nox (defBody st) t ∧ t { nx := fun _ H' => Q .non H', rt := Q } (start N vs) H) :
    FnG P w K mg base (k + 1) f fd ps sp := by
  obtain ⟨oc, od, kV, doc, pm, an, cdv, ct, osl, rfl, lk, hcd⟩ := F.ex
  constructor
  · exact len
  intro A outer s H args us vs Q E gd room env bnd rel pr
  obtain ⟨t, walk, reads⟩ := body cdv A outer s H vs Q E gd (room.deeper _) pr
  have down : ∀ b o, base.get? b = some o → s.heap.get? b = some o := fun b o e => (env.bs b o e).1
  have kin := env.mod.kin.keeps down
  have kinds : ∀ y ∈ ps.zip us, (defScope st).names.lookup y.1 = some .local ∨ ((defScope st).names.lookup y.1 = some .cell ∧ ((cellsFrom (s.heap.objs.size + 1) (defScope st).names []).lookup y.1).isSome = true) := by
    rintro ⟨y, v⟩ hy
    have hm := (List.of_mem_zip hy).1
    exact (S.par y hm).imp id fun q => ⟨q, PySem.W.cellsFrom_some _ _ _ (.inl q)⟩
  refine codeAny_call_function room.depth (kin _ _ lk) rfl S.co S.gen rfl (PySem.W.codeRec_of kin hcd) (bnd _ _ _ _ (wpAny_newFunctionEnv_cells S.kind kinds ?_))
  rintro env' rfl s1 ic
  refine ⟨(env.mod.nolimit.keeps down).keeps ic.toInCall.keep, codeAny_func (wpAny_mono (walk.nox.run [] s1 (start N vs) H _ (inv_start S room.hd env (len _ _ _ _ pr) rel ic) reads) ?_ fun _ _ h => h)⟩
  intro fl s' h
  cases fl with
  | brk => obtain ⟨_, _, _, q⟩ := h; exact q.elim
  | cont => obtain ⟨_, _, _, q⟩ := h; exact q.elim
  | next => obtain ⟨_, H', J, q⟩ := h; exact ⟨.non, H', J.os, J.bare, J.base, J.hok, rfl, q⟩
  | ret u => obtain ⟨v, _, H', J, rv, q⟩ := h; exact ⟨v, H', J.os, J.bare, J.base, J.hok, rv, q⟩
/-- a def that keeps its promise anywhere keeps it there -/
theorem FnG.of {k : Nat} {f : Addr} {fd : FuncData} {ps : List Str} {sp : Sp} (F : FnOk P w K mg base CX0 k f fd ps sp) : FnG P w K mg base k f fd ps sp :=
  ⟨F.len, fun A outer s H args us vs Q E _ => F.run A outer s H args us vs Q E⟩
end
section
variable {X : Cx} {k : Nat} {f : Addr} {fd : FuncData} {ps : List Str} {sp : Sp} {x : Str} {p pos : Pos} {e : Expr} {es : List Expr} {t : TA} {ds : List Value} {dvs : List V}
/-- such a def called by its name -/
theorem pe_callG (F : FnG X.prog X.w X.K X.mg X.base k f fd ps sp) (gd : X.A.guards = some []) (room : Room k X.A) (hg : Gl X x) (hm : X.mg x = some (.ref f)) (hk : PySem.W.keepIn X.K (.ref f) = true) (bi : Binds X.K fd ps [])
    (ha : PA X (e :: es) t) (hdb : (x == ("__debug__" : Str)) = false := by decide) (he : starEach (e :: es) X.env = (false, eval e X.env) :: starEach es X.env := by rfl) (hpl : (backTo pos (starEach es X.env)).any (·.1) = false := by rfl) :
    PE X (.Call (.Name x p) (e :: es) [] pos) (tCall sp [] E0 t) := by
  constructor
  intro pins s σ H Q I h
  refine wpAny_Call_Name_kw (ld_glob I hg hm (PySem.W.callWith_K (h₀ := X.base) I.ok.mod.kin hk (thn (ha.run pos pins s σ H _ I h) ?_) he hpl) hdb)
  rintro us s1 ⟨vs, H1, I1, r, q⟩
  have pr : sp vs H1 Q E0 := by
    have z : sp (vs ++ []) H1 Q E0 := q
    rwa [List.append_nil] at z
  have hl : us.length = ps.length := by rw [← r.length]; exact F.len _ _ _ _ pr
  have bt := bi s1 us I1.kIn (by simpa using hl)
  rw [List.append_nil] at bt
  refine ⟨I1.kIn, wpAny_call (codeAny_mono (F.run X.A X.stack s1 H1 ⟨us, []⟩ us vs Q E0 gd room I1.env0 bt r pr) ?_)⟩
  intro rs s' hq
  match rs, hq with
  | .error e, hq => exact (show False from hq).elim
  | .ok (.ret u), hq => exact I1.after hq
  | .ok .next, hq => exact (show False from hq).elim
  | .ok .brk, hq => exact (show False from hq).elim
  | .ok .cont, hq => exact (show False from hq).elim
/-- what is shown of lists and tuples of any depth -/
theorem call_repr_data (gd : X.A.guards = some []) (room : Room k X.A) : CallR X (.builtin "repr") (fun xs H Q => ∃ a d, xs = [.ref a] ∧ Dp X.K H (.ref a) d ∧ d.showable = true ∧ d.hasDict = false ∧ d.depth ≤ 60 ∧ d.shown.length ≤ sizeLine ∧ Q (.str d.shown) H) := by
  intro pins s σ H xs us Q I r h
  obtain ⟨a, d, rfl, hd, sh, nod, dep, sz, q⟩ := h
  obtain ⟨u, rfl, rx⟩ := vals1 r
  cases (show u = Value.ref a from rx)
  obtain ⟨as, rd⟩ := Dp.reads I d _ _ hd rx
  have un := room.un
  refine repr_of_reads' (h₀ := s.heap) rd sh (fun z => by rw [nod] at z; cases z) gd (by omega) (fun _ _ e => e) ?_ sz
  intro h' u tk kp
  exact ⟨.str d.shown, H, I.kept (t' := tk) kp, ⟨u, rfl⟩, q⟩
end
end Ov
namespace Ov
open PySem PySem.Spec PyProof.Rows L2
/-- the law's call, from its promise under no guard -/
theorem callG {P : Program} {w : World} {K : PySem.W.Frag} {mg mb : Str → Option Value} {k : Nat} {fa a : Addr} {fd : FuncData} {x : Str} {sp : Sp} {s : Shared} {vs : List Value} {ns : List Int}
    (KX : K.In s.heap) (hns : s.heap.Ns mainGlobals mg) (hb : s.heap.Ns builtinsNs mb) (hbb : ∀ x : Str, x ≠ "__name__" → mb x = bootBuiltins x) (hlim : s.heap.NoLimit) (hg : s.gens = #[])
    (ha : s.heap.get? a = some { cls := .type "list", data := .seq vs.toArray }) (hi : IntsAre vs ns) (hl : ns.length ≤ sizeLine) (room : Room k callerA)
    (F : ∀ base : Heap, K.In base → base.Ns mainGlobals mg → FnG P w K mg base k fa fd [x] sp) (bind : ∀ (s : Shared) (u : Value), BindsTo s fd ⟨[u], []⟩ [(x, u)])
    (pr : ∀ H : Hp, SqL K H a (ns.map V.int) → sp [.ref a] H (fun v _ => v = .bl true) fun _ _ _ => False) :
    codeAny (model P w) callerA (.call (.ref fa) ⟨[.ref a], []⟩) (fun r s' => r = .ok (.ret (.bool true)) ∧ OldK s.heap s'.heap ∧ s'.os = s.os ∧ AllBare s'.gens) s := by
  have rv : Vals (ns.map V.int) vs := vals_ints hi
  -- what is tracked: the script, unless it is the module's own
  obtain ⟨H, seq, hok, only, sep, froz⟩ : ∃ H : Hp, SqL K H a (ns.map V.int) ∧ HOk P w H s.heap ∧ (∀ b, H b ≠ none → b = a) ∧ (H a ≠ none → K.lookup a = none) ∧ (∀ b u, H b = some u → ∃ o xs, u = .frz o (.lst xs)) := by
    cases hk : K.lookup a with
    | some o =>
      have e : o = { cls := .type "list", data := .seq vs.toArray } := Option.some.inj ((KX a o hk).symm.trans ha)
      subst e
      exact ⟨fun _ => none, .inr ⟨_, vs.toArray, _, hk, rfl, rfl, rfl, by rw [List.size_toArray, hi.length]; exact hl, by simpa using rv⟩, (fun _ _ z => nomatch z), (fun _ z => absurd rfl z), (fun z => absurd rfl z), (fun _ _ z => nomatch z)⟩
    | none =>
      refine ⟨fun b => if b = a then some (.frz { cls := .type "list", data := .seq vs.toArray } (.lst (ns.map V.int))) else none, .inl (.inr ⟨_, if_pos rfl⟩), ?_, ?_, fun _ => rfl, ?_⟩
      · intro b u z
        by_cases e : b = a
        · subst e
          have z' : HO.frz { cls := .type "list", data := .seq vs.toArray } (.lst (ns.map V.int)) = u := Option.some.inj ((if_pos rfl).symm.trans z)
          subst z'
          exact ⟨ha, by rw [List.length_map]; exact hl, vs, _, rv, ha⟩
        · exact absurd ((if_neg e).symm.trans z) (fun y => nomatch y)
      · intro b z
        by_cases e : b = a
        · exact e
        · exact absurd (if_neg e) z
      · intro b u z
        by_cases e : b = a
        · exact ⟨_, _, (Option.some.inj ((if_pos e).symm.trans z)).symm⟩
        · exact absurd ((if_neg e).symm.trans z) (fun y => nomatch y)
  -- the base: all the rest
  have rest : ∀ {b : Addr} {o : Obj}, s.heap.get? b = some o → H b = none → (hidT s.heap H).get? b = some o := fun e n => hidT_get e n
  have gone : ∀ {b : Addr}, b ≠ a → H b = none := fun {b} n => by
    cases z : H b with
    | none => rfl
    | some u => exact absurd (only b (by rw [z]; exact fun y => nomatch y)) n
  have spaces : ∀ {b : Addr} {m : Str → Option Value}, s.heap.Ns b m → (hidT s.heap H).Ns b m := by
    rintro b m ⟨o, es, ep, e, d, r⟩
    refine ⟨o, es, ep, rest e (gone ?_), d, r⟩
    rintro rfl
    have eo : o = { cls := .type "list", data := .seq vs.toArray } := Option.some.inj (e.symm.trans ha)
    rw [eo] at d
    cases (show Data.seq vs.toArray _ = Data.dict es ep from d)
  have kin : K.In (hidT s.heap H) := fun b o e => rest (KX b o e) (by
    cases z : H b with
    | none => rfl
    | some u =>
      have eb := only b (by rw [z]; exact fun y => nomatch y)
      subst eb
      rw [sep (by rw [z]; exact fun y => nomatch y)] at e
      cases e)
  obtain ⟨mc, lim1, lim2⟩ := hlim
  have env : Env0 P w K mg (hidT s.heap H) callerA [] s H :=
    ⟨rfl, ⟨kin, spaces hns, ⟨mb, spaces hb, hbb⟩, ⟨mc, spaces lim1, lim2⟩⟩, fun b o e => of_hidT e, Nat.le_of_eq (hidT_size _ _), trivial, fun b hb => absurd (show b ∈ ([] : List Addr) from hb) (by simp), hok, .of_eq hg⟩
  refine codeAny_mono ((F _ kin (spaces hns)).run callerA [] s H ⟨[.ref a], []⟩ [.ref a] [.ref a] _ _ rfl room env (bind s (.ref a)) (.cons rfl .nil) (pr H seq)) ?_
  intro r s' h
  match r, h with
  | .error e, h => exact (show False from h).elim
  | .ok .next, h => exact (show False from h).elim
  | .ok .brk, h => exact (show False from h).elim
  | .ok .cont, h => exact (show False from h).elim
  | .ok (.ret u), ⟨v, H', os, bare, un, hok', rel, q⟩ =>
    have ev : v = .bl true := q
    subst ev
    obtain rfl : u = Value.bool true := rel
    refine ⟨rfl, OldK.of_keep fun b o e => ?_, os, bare⟩
    cases z : H b with
    | none => exact un.keep b o e z (fun y => absurd (show b ∈ ([] : List Addr) from y) (by simp)) (by simp)
    | some u =>
      obtain ⟨ob, xs, rfl⟩ := froz b u z
      have h1 := (hok b _ z).1
      have h2 := (hok' b _ (un.frzs b ob _ z)).1
      have eo : o = ob := Option.some.inj (e.symm.trans h1)
      rw [eo]
      exact h2
theorem walkG {l : PySem.W.OpenLaw} {n k : Nat} {q : Program} {loose : List Str} {XP : (Str → Option Value) → Heap → Prop} {YP : World → Heap → Prop} {d : DefRec} {K : Params → PySem.W.Frag} {sp : PySem.W.Frag → Sp} {x : Str}
    (hn : l.most = some n) (hn2 : n ≤ sizeLine) (hdf : d.params.defaults = []) (room : Room k callerA) (hY : ∀ (w : World) (h : Heap), YP w h → (K w.params).In h)
    (F : ∀ (w : World) (mg : Str → Option Value) (fa : Addr) (h : Heap), (K w.params).In h → h.Ns mainGlobals mg → mg d.name = some (.ref fa) →
      ∃ fd : FuncData, (∀ (s : Shared) (u : Value), BindsTo s fd ⟨[u], []⟩ [(x, u)]) ∧ ∀ base : Heap, (K w.params).In base → base.Ns mainGlobals mg → FnG l.prog w (K w.params) mg base k fa fd [x] (sp (K w.params)))
    (pr : ∀ (K : PySem.W.Frag) (H : Hp) (a : Addr) (ns : List Int), ns.length ≤ n → SqL K H a (ns.map V.int) → sp K [.ref a] H (fun v _ => v = .bl true) fun _ _ _ => False) :
    PySem.W.WalkO q loose XP YP l.row.toRowW d [] (fun f vs => PySem.call f vs) := by
  refine Att.attach_call hn hdf ?_
  intro w s₀ s₁ mg mb fa o pm cd doc a vs ns G Y ho hd hcd hmg hobj hints hlen hg
  have kin := hY w _ Y
  obtain ⟨fd, bind, okF⟩ := F w mg fa _ kin G.T.g hmg
  exact callG kin G.T.g G.T.b G.T.builtins G.T.nolimit hg hobj hints (Nat.le_trans hlen hn2) room okF bind fun H seq => pr (K w.params) H a ns hlen seq
end Ov
namespace Ov
open PySem PySem.Spec PyProof.Rows L2
/-! ### how long a shown value may be -/
mutual
def nodes : PyData → Nat
  | .str x => 1 + (reprText x).length
  | .list xs => 1 + nodesAll xs
  | .tuple xs => 1 + nodesAll xs
  | .none => 1
  | .bool _ => 1
  | .int _ => 1
  | .dict kvs => 1 + (dictText (PyData.shownKv kvs)).length
def nodesAll : List PyData → Nat
  | [] => 0
  | x :: xs => nodes x + nodesAll xs
end
theorem strLen0 : (Str.ofString "None").length = 4 := by decide +kernel
theorem listText_le (ts : List Str) : (listText ts).length ≤ piled ts + 2 := by
  rw [listText_eq_join, strLen_append, strLen_append]
  have a : (Str.ofString "[").length = 1 := by decide +kernel
  have b : (Str.ofString "]").length = 1 := by decide +kernel
  cases ts with
  | nil =>
    have : (Str.join (Str.ofString ", ") []).length = 0 := by decide +kernel
    rw [a, b, this]; omega
  | cons t ts =>
    have := join_length_add (t :: ts) (List.cons_ne_nil _ _)
    rw [a, b]; omega
theorem tupleText_le (ts : List Str) : (tupleText ts).length ≤ piled ts + 3 := by
  unfold tupleText
  rw [strLen_append, strLen_append]
  have a : (Str.ofString "(").length = 1 := by decide +kernel
  have b : (Str.ofString (if (ts.length == 1) = true then ",)" else ")" : String)).length ≤ 2 := by
    by_cases h : (ts.length == 1) = true
    · rw [if_pos h]; decide +kernel
    · rw [if_neg h]; decide +kernel
  cases ts with
  | nil =>
    have : (Str.join (Str.ofString ", ") []).length = 0 := by decide +kernel
    rw [a, this]
    exact Nat.le_trans (Nat.add_le_add_left b _) (by omega)
  | cons t ts =>
    have := join_length_add (t :: ts) (List.cons_ne_nil _ _)
    rw [a]
    omega
mutual
theorem shown_le : ∀ d : PyData, d.showable = true → d.shown.length + 10 ≤ 2000 * nodes d
  | .none, _ => by
    simp only [PyData.shown, nodes]
    rw [strLen0]; decide
  | .bool b, _ => by
    simp only [PyData.shown, nodes]
    cases b <;> decide +kernel
  | .int i, h => by
    simp only [PyData.shown, nodes]
    have := int_text_len_1921 (i := i) (by simpa [PyData.showable] using h)
    omega
  | .str x, _ => by
    simp only [PyData.shown, nodes]
    omega
  | .list xs, h => by
    simp only [PyData.shown, nodes]
    have := shownAll_le xs (by simpa [PyData.showable] using h)
    have := listText_le (PyData.shownAll xs)
    omega
  | .tuple xs, h => by
    simp only [PyData.shown, nodes]
    have := shownAll_le xs (by simpa [PyData.showable] using h)
    have := tupleText_le (PyData.shownAll xs)
    omega
  | .dict kvs, _ => by
    simp only [PyData.shown, nodes]
    omega
theorem shownAll_le : ∀ xs : List PyData, PyData.showableAll xs = true → piled (PyData.shownAll xs) ≤ 2000 * nodesAll xs
  | [], _ => by
    simp only [PyData.shownAll, nodesAll]
    decide +kernel
  | x :: xs, h => by
    have h' : x.showable = true ∧ PyData.showableAll xs = true := by simpa [PyData.showableAll] using h
    have h1 := shown_le x h'.1
    have h2 := shownAll_le xs h'.2
    simp only [PyData.shownAll, nodesAll]
    rw [piled_cons]
    omega
end
theorem fits_shown {d : PyData} (h : d.showable = true) (n : nodes d ≤ 8000) : d.shown.length ≤ sizeLine := by
  have := shown_le d h
  rw [sizeLine_eq]
  omega
/-! ### ints and least sums as data -/
theorem dp_ints {K : PySem.W.Frag} {H : Hp} : ∀ ns : List Int, DpAll K H (ns.map V.int) (ns.map PyData.int)
  | [] => .nil
  | n :: ns => .cons (.int n) (dp_ints ns)
/-- a plain value: None, a bool, an int that is not too great to be shown -/
inductive Sc : PyData → Prop
  | non : Sc .none
  | bl (b : Bool) : Sc (.bool b)
  | int (i : Int) (h : i.natAbs.log2 < 1920) : Sc (.int i)
theorem Sc.small {i : Int} (h : i.natAbs < 2 ^ 1000) : Sc (.int i) := by
  refine .int i ?_
  by_cases e : i.natAbs = 0
  · rw [e]; decide
  · exact Nat.lt_of_lt_of_le ((Nat.log2_lt e).mpr h) (by decide)
structure Flat (ds : List PyData) : Prop where
  lay : PyData.canLayAll0 ds = true
  dep : PyData.depthAll ds = 0
  sh : PyData.showableAll ds = true
  nod : PyData.hasDictAll ds = false
  nds : nodesAll ds = ds.length
theorem flat_of : ∀ {ds : List PyData}, (∀ d ∈ ds, Sc d) → Flat ds
  | [], _ => ⟨by simp [PyData.canLayAll0], by simp [PyData.depthAll], by simp [PyData.showableAll], by simp [PyData.hasDictAll], by simp [nodesAll]⟩
  | d :: ds, h => by
    obtain ⟨h1, h2, h3, h4, h5⟩ := flat_of (ds := ds) fun x hx => h x (List.mem_cons_of_mem _ hx)
    have hd := h d List.mem_cons_self
    refine ⟨?_, ?_, ?_, ?_, ?_⟩
    · cases hd <;> simp [PyData.canLayAll0, PyData.canLay0, h1]
    · cases hd <;> simp [PyData.depthAll, PyData.depth, h2]
    · cases hd <;> simp_all [PyData.showableAll, PyData.showable]
    · cases hd <;> simp [PyData.hasDictAll, PyData.hasDict, h4]
    · cases hd <;> simp [nodesAll, nodes, h5] <;> omega
theorem shaped_tup {ds : List PyData} (f : Flat ds) : SeqAt.shaped (.tuple ds) = true := by
  unfold SeqAt.shaped
  simp [PyData.canLay0, PyData.depth, f.lay, f.dep]
theorem shaped_lst {ds : List PyData} (f : Flat ds) : SeqAt.shaped (.list ds) = true := by
  unfold SeqAt.shaped
  simp [PyData.canLay0, PyData.depth, f.lay, f.dep]
theorem flat_ints {ns : List Int} (h : ∀ n ∈ ns, n.natAbs < 2 ^ 1000) : Flat (ns.map PyData.int) := flat_of fun d hd => by
  obtain ⟨n, hn, rfl⟩ := List.mem_map.mp hd
  exact .small (h n hn)
theorem eqv_nil : ∀ ds : List PyData, PyData.eqv (.tuple ds) (.tuple []) = ds.isEmpty
  | [] => by simp [PyData.eqv, PyData.eqvAll]
  | d :: ds => by simp [PyData.eqv, PyData.eqvAll]
end Ov
namespace Ov
open PySem PySem.Spec PyProof.Rows L2
/-! ### texts by their codes; a text so many times; list(range(n)) -/
def txt (l : List Nat) : Str := ⟨l.toArray⟩
theorem txt_inj {a b : List Nat} (h : txt a = txt b) : a = b := by
  have : a.toArray = b.toArray := congrArg Str.cps h
  simpa using congrArg Array.toList this
theorem txt_len (l : List Nat) : (txt l).length = l.length := by
  show l.toArray.size = _
  simp
theorem fold_reps : ∀ (k : Nat) (l : List Nat) (acc : Array Nat), (List.replicate k l.toArray).foldl (· ++ ·) acc = acc ++ (List.replicate k l).flatten.toArray
  | 0, l, acc => by simp
  | k + 1, l, acc => by
    rw [List.replicate_succ, List.foldl_cons, fold_reps k l, List.replicate_succ, List.flatten_cons]
    simp
section
variable {X : Cx}
/-- a text times a small number -/
theorem op_mulS : OpR X (binaryOp .Mult) (fun x y H Q => ∃ (l : List Nat) (n : Int), x = .str (txt l) ∧ y = .int n ∧ 0 ≤ n ∧ n ≤ 1000 ∧ l.length ≤ 1000 ∧ Q (.str (txt (List.replicate n.toNat l).flatten)) H) := by
  intro pins s σ H x y v u Q I rx ry h
  obtain ⟨l, n, rfl, rfl, h0, h1, hl, q⟩ := h
  obtain ⟨t, rfl⟩ := rx
  obtain ⟨t', rfl⟩ := ry
  have hlen := txt_len l
  have fin : ∀ (tk tk' : Nat), EP X pins σ Q (.str (txt (List.replicate n.toNat l).flatten) tk) { s with toks := tk' } := fun tk tk' => ⟨.str _, H, I.tok _, ⟨_, rfl⟩, q⟩
  refine PySem.P.mul_str ?_ ?_ ?_ ?_
  · rw [decide_eq_false (show ¬ n < -(2 ^ 63 : Int) by omega), decide_eq_false (show ¬ n ≥ 2 ^ 63 by omega)]
    rfl
  · intro a b
    rw [hlen]
    have hn : 1 ≤ n := by omega
    have : (1000 : Int) ≤ (2 ^ 63 - 1) / n := by
      rw [Int.le_ediv_iff_mul_le (by omega)]
      omega
    omega
  · intro a b
    rw [hlen]
    refine decide_eq_false ?_
    rw [sizeLine_eq]
    have : l.length * n.toNat ≤ 1000 * 1000 := Nat.mul_le_mul hl (by omega)
    omega
  · by_cases c : n < 1
    · rw [if_pos c]
      have hn : n.toNat = 0 := by omega
      have := fin s.toks (s.toks + 1)
      rw [hn] at this
      exact ⟨Nat.zero_le _, this⟩
    · rw [if_neg c]
      by_cases d : (n == 1 || (txt l).length == 0) = true
      · rw [if_pos d]
        have e : txt (List.replicate n.toNat l).flatten = txt l := by
          rcases Bool.or_eq_true_iff.mp d with d | d
          · have : n = 1 := eq_of_beq d
            subst this
            simp
          · have hz : l.length = 0 := by rw [← hlen]; exact eq_of_beq d
            have : l = [] := List.eq_nil_of_length_eq_zero hz
            subst this
            simp
        have := fin t s.toks
        rw [e] at this
        exact this
      · rw [if_neg d]
        have e : (⟨(List.replicate n.toNat (txt l).cps).foldl (· ++ ·) #[]⟩ : Str) = txt (List.replicate n.toNat l).flatten := by
          show (⟨(List.replicate n.toNat l.toArray).foldl (· ++ ·) #[]⟩ : Str) = _
          rw [fold_reps]
          simp [txt]
        rw [e]
        refine ⟨?_, fin s.toks (s.toks + 1)⟩
        rw [txt_len, sizeLine_eq]
        have h2 : (List.replicate n.toNat l).flatten.length = n.toNat * l.length := by simp
        rw [h2]
        have : n.toNat * l.length ≤ 1000 * 1000 := Nat.mul_le_mul (by omega) hl
        omega
/-- list(range(n)) -/
theorem pe_listRange {a : Expr} {ta : TE} {p p2 q pos : Pos} (hg : Gl X "list") (hm : X.mg "list" = none) (hg2 : Gl X "range") (hm2 : X.mg "range" = none) (ha : PE X a ta) (hc : X.calm = true := by rfl)
    (na : starEach [a] X.env = (false, eval a X.env) :: starEach [] X.env := by rfl) :
    PE X (.Call (.Name "list" p) [.Call (.Name "range" p2) [a] [] q] [] pos) (fun σ H Q => ta σ H fun x H1 => ∃ n : Nat, x = .int (n : Int) ∧ n ≤ 100000 ∧ ∀ l, H1 l = none → Q (.ref l) (upd H1 l (.lst ((List.range n).map fun i : Nat => V.int (i : Int))))) := by
  constructor
  intro pins s σ H Q I h
  have bl : bootBuiltins "list" = some (.type "list") := by decide +kernel
  refine Call_ (ld_blt I hg hm bl (PyProof.Rows.callWith_type1 (PyProof.Rows.args_cons ?_ rfl) rfl rfl))
  refine Call_ (ld_blt I hg2 hm2 boot_range (PyProof.Rows.callWith_type1 (PyProof.Rows.args_cons (thn (ha.run pins s σ H _ I h) ?_) na) na rfl))
  rintro v s1 ⟨x, H1, I1, r1, n, rfl, hn, q1⟩
  obtain ⟨t, rfl⟩ := r1
  refine PyProof.Rows.args_nil (call_range_1 (PyProof.Rows.args_nil ?_))
  have hsmall : Builtin.Range.small 0 (n : Int) 1 = true := small_one (by omega) (by omega) (by omega) (by omega)
  refine call_list_range (n := n) (I1.ok.hd hc) (Heap.get?_push_size _ rfl) hsmall ?_ (by omega) ?_
  · rw [rangeSize_nat]
    simp
  · intro h' tk acc c kp hat hit
    have vals : Vals ((List.range n).map fun i : Nat => V.int (i : Int)) acc.toList := by
      obtain ⟨hz, hv⟩ := hit
      have key : ∀ (l : List Value) (k : Nat), (∀ j v, l[j]? = some v → ∃ t, v = Value.int (0 + ((k + j : Nat) : Int) * 1) t) → Vals ((List.range' k l.length).map fun i : Nat => V.int (i : Int)) l := by
        intro l
        induction l with
        | nil => intro k _; exact .nil
        | cons v l ih =>
          intro k hk
          rw [List.length_cons, List.range'_succ, List.map_cons]
          refine .cons ?_ (ih (k + 1) fun j w hj => ?_)
          · obtain ⟨t, e⟩ := hk 0 v rfl
            exact ⟨t, by rw [e, show (0 + ((k + 0 : Nat) : Int) * 1) = (k : Int) by omega]⟩
          · obtain ⟨t, e⟩ := hk (j + 1) w hj
            exact ⟨t, by rw [e, show (0 + ((k + (j + 1) : Nat) : Int) * 1) = (0 + ((k + 1 + j : Nat) : Int) * 1) by omega]⟩
      have := key acc.toList 0 (fun j v hj => by
        obtain ⟨t, e⟩ := hv j v (by simpa using hj)
        exact ⟨t, by rw [e, show (0 + ((0 + j : Nat) : Int) * 1) = (0 + ((j : Nat) : Int) * 1) by omega]⟩)
      rw [Array.length_toList, hz, ← List.range_eq_range'] at this
      exact this
    have old : ∀ b o, s1.heap.get? b = some o → h'.get? b = some o := fun b o e => kp b o (Heap.get?_push_of_some _ e)
    have ez : ∀ (o : Obj), (s1.heap.push o).objs.size = s1.heap.objs.size + 1 := fun o => Heap.size_push _ _
    rw [ez] at hat ⊢
    have fit : ((List.range n).map fun i : Nat => V.int (i : Int)).length ≤ sizeLine := by
      rw [List.length_map, List.length_range, sizeLine_eq]
      omega
    exact ⟨.ref _, upd H1 (s1.heap.objs.size + 1) (.lst _), I1.laid (t' := tk) old (Nat.le_succ _) ⟨fit, acc.toList, c, vals, hat⟩, rfl, q1 _ (I1.hok.fresh (Nat.le_succ _))⟩
end
end Ov
namespace Ov
open PySem PySem.Spec PyProof.Rows L2
/-! ### a set of texts, made of a list of unlike ones: how many it holds -/
/-- the empty set as it is made -/
abbrev noText (led : Bool) : Obj := { cls := .type "set", dict := none, data := .set #[] 0 (.fresh 0 0 led) }
section
variable {prog : Program} {w : World} {A : Around} {R : Result → Shared → Prop} {it : Addr} {fp wr : List Addr} {G : Array GenState → Array GenState → Prop} {n : Nat} {P : Nat → Value → Prop} {St : Nat → Shared → Prop}
theorem has_next {xs : List Str} (nd : xs.Nodup) {i : Nat} (hi : i < xs.length) : (xs.take i).any (· == xs[i]) = false := by
  rw [List.any_eq_false]
  intro y hy e
  have ey : y = xs[i] := eq_of_beq e
  obtain ⟨j, hj, ej⟩ := List.mem_take_iff_getElem.mp hy
  have hlt : j < i := by omega
  exact (List.pairwise_iff_getElem.mp nd j i (by omega) hi hlt) (ej.trans ey)
/-- texts put into it, one behind another -/
theorem texts_in (W : WalksS prog w A.in1 it fp wr G n P St) (S : Addr) (out : S ∉ fp) {xs : List Str} (len : xs.length = n) (nd : xs.Nodup) (few : n + 1 < scanBound)
    (val : ∀ (i : Nat) (hi : i < xs.length) (v : Value), P i v → ∃ t, v = .str xs[i] t) :
    ∀ (left i : Nat) (s : Shared), i + left = n → St i s → s.heap.SetOf (PySem.strKind prog w) S (fun k => (xs.take i).any (· == k)) i →
      (∀ s', Moved (S :: wr) G s s' → s'.heap.SetOf (PySem.strKind prog w) S (fun k => xs.any (· == k)) n → R (.ok (.ret .none)) s') →
      codeAny (model prog w) A (.builtin "set.update.loop" ⟨[.ref S, .ref it], []⟩) R s := by
  have outw : S ∉ wr := fun z => out (W.sub _ z)
  have wide : ∀ b ∈ wr, b ∈ S :: wr := fun b z => List.mem_cons_of_mem _ z
  have carry : ∀ {s s' : Shared} {f : Str → Bool} {c : Nat}, Moved wr G s s' → s.heap.SetOf (PySem.strKind prog w) S f c → s'.heap.SetOf (PySem.strKind prog w) S f c := by
    rintro s s' f c mv ⟨o, es, ep, t, ho, more⟩
    exact ⟨o, es, ep, t, mv.heap S _ outw ho, more⟩
  intro left
  induction left with
  | zero =>
    intro i s e st hS fin
    obtain rfl : i = n := by omega
    refine codeAny_builtin PyProof.Rows.F.entry_set_update_loop ?_
    rw [Around.under_plainId PyProof.Rows.F.plain_set_update_loop _]
    refine wpAny_bind (W.done s _ _ st fun s' mv => wpAny_pure (fin s' (mv.mono wide) ?_))
    have := carry mv hS
    rwa [← len, List.take_length, len] at this
  | succ left ih =>
    intro i s e st hS fin
    have hi : i < xs.length := by omega
    refine codeAny_builtin PyProof.Rows.F.entry_set_update_loop ?_
    rw [Around.under_plainId PyProof.Rows.F.plain_set_update_loop _]
    refine wpAny_bind (W.item i s _ _ (by omega) st ?_)
    intro v s' pv st' mv
    obtain ⟨t, rfl⟩ := val i hi v pv
    refine wpAny_bind (wpAny_holding ?_)
    unfold setAdd
    refine wpAny_holding (wpAny_bind ((PySem.strKind prog w).pyHash (k := xs[i]) (strKind_is _ _ _ _) ?_))
    have held := carry mv hS
    refine wpAny_setAddHashed_of (knd := PySem.strKind prog w) (s := { s' with toks := s'.toks + 1 }) (strKind_is _ _ _ _) rfl held (by omega) ?_
    intro h' but hS2
    rw [has_next nd hi] at hS2
    have grown : h'.SetOf (PySem.strKind prog w) S (fun k => (xs.take (i + 1)).any (· == k)) (i + 1) := by
      refine SetOf_congr hS2 (fun k => ?_) rfl
      rw [List.take_add_one, List.getElem?_eq_getElem hi, List.any_append]
      congr 1
      show decide (k = xs[i]) = ([xs[i]].any (· == k))
      by_cases z : k = xs[i]
      · subst z; simp
      · have : (xs[i] == k) = false := beq_eq_false_iff_ne.mpr fun y => z y.symm
        simp [z, this]
    refine wpAny_pure ⟨plainId_quiet PyProof.Rows.F.plain_set_update_loop _, ih (i + 1) _ (by omega) (W.frame _ s' _ _ st' (Nat.le_succ _) ?_) grown ?_⟩
    · intro b hb o eb
      rw [but.2 b fun z => out (z ▸ hb)]
      exact eb
    · intro s'' mv'' hS''
      refine fin s'' (Moved.trans W.gtrans ((mv.mono wide).then_heap (Nat.le_succ _) ?_) mv'') hS''
      intro b o hb eb
      rw [but.2 b fun z => hb (z ▸ List.mem_cons_self)]
      exact eb
end
section
variable {prog : Program} {w : World} {A : Around} {E : Value → Shared → Prop} {s : Shared}
theorem set_texts {l : Addr} {items : Array Value} {xs : List Str} {Q : Value → Shared → Prop} (hh : A.handled = none) (hl : s.heap.IsList l items) (hi : StrsAre items.toList xs) (nd : xs.Nodup) (few : xs.length + 1 < scanBound)
    (h : ∀ (h' : Heap) (tk : Nat), h'.SetOf (PySem.strKind prog w) s.heap.objs.size (fun k => xs.any (· == k)) xs.length → (∀ b o, b < s.heap.objs.size → s.heap.get? b = some o → h'.get? b = some o) → Q (.ref s.heap.objs.size) { s with heap := h', toks := tk }) :
    wpAny (model prog w) A (call (.type "set") [.ref l]) Q E s := by
  obtain ⟨c, tl, hmro⟩ := PySem.F.called_set.mro
  have q1 := PySem.F.called_set.made
  have q2 := PySem.F.called_set.sub
  have q3 := PySem.F.called_set.notType
  have q4 := PySem.F.called_set.canCreate
  have q5 := PySem.F.typeCall_set_1 (.ref l)
  refine wpAny_call (codeAny_of_tree ?_)
  show wpAny _ _ (callAny (.type "set") _) _ _ _
  refine wpAny_pure ⟨Code.quiet_builtin _ (by decide +kernel), codeAny_builtin PySem.F.entry_type_call ?_⟩
  rw [Around.under_plain (weight_type_call_type "set" [.ref l] []) rfl]
  repeat (any_goals (first | assumption | wp_step))
  refine codeAny_mono (code_set_new_1 (.ref l) (E := E) (Q₁ := fun obj s₁ => ∃ led : Bool, obj = .ref s.heap.objs.size ∧ s₁ = { s with heap := s.heap.push (noText led) }) fun led => ⟨led, rfl, rfl⟩) ?_
  intro r s₁ hr
  match r, hr with
  | .error e, hr => exact hr
  | .ok .next, hr => exact hr.elim
  | .ok .brk, hr => exact hr.elim
  | .ok .cont, hr => exact hr.elim
  | .ok (.ret obj), ⟨led, e1, e2⟩ =>
    subst e1 e2
    have at_ : (s.heap.push (noText led)).get? s.heap.objs.size = some (noText led) := Heap.get?_push_size _ rfl
    have ty : Shared.TypeIs { s with heap := s.heap.push (noText led) } (.ref s.heap.objs.size) "set" := ⟨_, at_, rfl⟩
    have q6 := PySem.F.called_set.init.lookup
    have q7 := PySem.F.called_set.init.bind (.ref s.heap.objs.size)
    repeat (any_goals (first | assumption | wp_step))
    refine codeAny_mono (codeAny_call_builtin (R := wants (fun r s₂ => r = .none ∧ ∃ h' tk, s₂ = { s with heap := h', toks := tk } ∧ h'.SetOf (PySem.strKind prog w) s.heap.objs.size (fun k => xs.any (· == k)) xs.length ∧
        (∀ b o, b < s.heap.objs.size → s.heap.get? b = some o → h'.get? b = some o)) E) PySem.F.called_set.init.plain PySem.F.entry_set_init (check_set_init_1 ty ?_)) ?_
    · obtain ⟨⟨cl, dc, dt, sl⟩, hol, hcl, nl, hdl⟩ := hl
      dsimp only at hcl hdl
      subst hcl hdl
      have below := Heap.lt_size hol
      have hol' : (s.heap.push (noText led)).get? l = some { cls := .type "list", dict := dc, data := .seq items nl, slots := sl } := Heap.get?_push_of_some _ hol
      have hl1 : (s.heap.push (noText led)).IsList l items := ⟨_, hol', rfl, nl, rfl⟩
      have q8 := PySem.F.sub_list_set
      have q9 := PySem.F.sub_list_frozenset
      have q0 : (Value.type "list" == Value.type "dict") = false := by decide
      unfold Builtin.«set.__init__» noKeywords Builtin.Frozenset.updateFrom
      generalize hPI : pyIter = PI
      wp_walk
      subst hPI
      have sz : (s.heap.push (noText led)).objs.size = s.heap.objs.size + 1 := Heap.size_push _ _
      have calm3 : A.in1.in1.in1.handled = none := by simp [hh]
      have apart : l ≠ (s.heap.push (noText led)).objs.size := by rw [sz]; exact Nat.ne_of_lt (Nat.lt_succ_of_lt below)
      have far : s.heap.objs.size ∉ [(s.heap.push (noText led)).objs.size, l] := by
        rw [sz]
        simp only [List.mem_cons, List.not_mem_nil, or_false, not_or]
        exact ⟨Nat.ne_of_lt (Nat.lt_succ_self _), Nat.ne_of_gt below⟩
      have len : xs.length = items.size := by rw [← StrsAre.len_eq hi, Array.length_toList]
      refine wpAny_pyIter_list hl1 (wpAny_bind (wpAny_runValue ?_))
      refine texts_in ((Walks.list calm3 _ l apart items).toS) s.heap.objs.size far len nd (by rw [← len]; exact few) (fun i hlt v hv => ?_) items.size 0 _ (by omega) ⟨⟨_, Heap.get?_push_size _ rfl, rfl, rfl⟩, hl1.push _⟩ ?_ ?_
      · obtain ⟨t, e⟩ := SS.strs_at hi i v (by rw [Array.getElem?_toList]; exact hv)
        refine ⟨t, ?_⟩
        rw [e, List.getD_eq_getElem?_getD, List.getElem?_eq_getElem hlt]
        rfl
      · exact SetOf_congr ((setObjOf_fresh (knd := PySem.strKind prog w) led).setOf (Heap.get?_push_of_some _ at_) (by unfold scanBound; omega)) (fun _ => rfl) rfl
      · rintro ⟨h', g', d', tk', os'⟩ mv hS'
        have eg : g' = s.gens := mv.gens
        have ed : d' = s.drawn := mv.drawn
        have eo : os' = s.os := mv.os
        subst eg ed eo
        refine wpAny_pure (wpAny_pure ⟨rfl, h', tk', rfl, by rw [len]; exact hS', ?_⟩)
        intro b o hb eb
        refine mv.heap b o ?_ (Heap.get?_push_of_some _ (Heap.get?_push_of_some _ eb))
        rw [sz]
        simp only [List.mem_cons, List.not_mem_nil, or_false, not_or]
        exact ⟨Nat.ne_of_lt hb, Nat.ne_of_lt (Nat.lt_succ_of_lt hb)⟩
    · intro r₂ s₂ hr₂
      match r₂, hr₂ with
      | .error e, hr₂ => exact hr₂
      | .ok .next, hr₂ => exact hr₂.elim
      | .ok .brk, hr₂ => exact hr₂.elim
      | .ok .cont, hr₂ => exact hr₂.elim
      | .ok (.ret r), ⟨e1, h', tk, e2, hS', kp⟩ =>
        subst e1 e2
        repeat (any_goals (first | assumption | wp_step))
        exact h _ _ hS' kp
end
section
variable {X : Cx}
/-- len(set(xs)), xs a list of unlike texts -/
theorem pe_lenSetT {a : Expr} {ta : TE} {p p2 q pos : Pos} (hc : X.calm = true) (hg : Gl X "len") (hm : X.mg "len" = none) (hg2 : Gl X "set") (hm2 : X.mg "set" = none) (ha : PE X a ta)
    (na : starEach [a] X.env = (false, eval a X.env) :: starEach [] X.env := by rfl) :
    PE X (.Call (.Name "len" p) [.Call (.Name "set" p2) [a] [] q] [] pos) (fun σ H Q => ta σ H fun x H1 => ∃ (l : Addr) (xs : List Str), x = .ref l ∧ SqL X.K H1 l (xs.map V.str) ∧ xs.Nodup ∧ xs.length ≤ 4000 ∧ Q (.int (xs.length : Int)) H1) := by
  constructor
  intro pins s σ H Q I h
  refine Call_ (ld_blt I hg hm boot_len (PyProof.Rows.callWith_builtin1 (PyProof.Rows.args_cons ?_ rfl) rfl rfl))
  refine Call_ (ld_blt I hg2 hm2 boot_set (PyProof.Rows.callWith_type1 (PyProof.Rows.args_cons (thn (ha.run pins s σ H _ I h) ?_) na) na rfl))
  rintro v s1 ⟨x, H1, I1, r1, l, xs, rfl, hq, nd, few, q1⟩
  cases r1
  refine PyProof.Rows.args_nil ?_
  obtain ⟨its, r, pl, hz⟩ := I1.list hq
  refine set_texts (I1.ok.hd hc) pl.isList (by simpa using strsAre_of r) nd (by unfold scanBound; omega) ?_
  intro h' tk hS kp
  refine PyProof.Rows.args_nil ?_
  obtain ⟨o, es, ep, t, ho, hex, hd, _, _, _, hf, hn⟩ := hS
  have I2 : Inv X pins σ H1 { s1 with heap := h', toks := tk } := I1.kept fun b o e => kp b o (Heap.lt_size e) e
  exact call_len_set ho hex hd hf (by rw [hn]; omega) ⟨.int xs.length, H1, I2.tok _, ⟨_, by rw [hn]⟩, q1⟩
end
end Ov
namespace Ov
open PySem PySem.Spec PyProof.Rows L2
/-! ### things of any kind: None, bools, ints, texts, lists, tuples and empty dicts, of any depth -/
mutual
inductive Dx (K : PySem.W.Frag) (H : Hp) : V → PyData → Prop
  | non : Dx K H .non .none
  | bl (b : Bool) : Dx K H (.bl b) (.bool b)
  | int (i : Int) : Dx K H (.int i) (.int i)
  | str (x : Str) : Dx K H (.str x) (.str x)
  | dct {a : Addr} : H a = some (.dK []) → Dx K H (.ref a) (.dict [])
  | lst {a : Addr} {xs : List V} {ds : List PyData} : SqL K H a xs → DxAll K H xs ds → Dx K H (.ref a) (.list ds)
  | tup {a : Addr} {xs : List V} {ds : List PyData} : SqT K H a xs → DxAll K H xs ds → Dx K H (.ref a) (.tuple ds)
inductive DxAll (K : PySem.W.Frag) (H : Hp) : List V → List PyData → Prop
  | nil : DxAll K H [] []
  | cons {v : V} {vs : List V} {d : PyData} {ds : List PyData} : Dx K H v d → DxAll K H vs ds → DxAll K H (v :: vs) (d :: ds)
end
theorem sqL_same {K : PySem.W.Frag} {H H' : Hp} {a : Addr} {xs : List V} (e : Same H H') (h : SqL K H a xs) : SqL K H' a xs := by
  rcases h with (h | ⟨o, h⟩) | h
  · exact .inl (.inl (e _ _ h))
  · exact .inl (.inr ⟨o, e _ _ h⟩)
  · exact .inr h
mutual
theorem Dx.same {K : PySem.W.Frag} {H H' : Hp} (e : Same H H') : ∀ {v : V} {d : PyData}, Dx K H v d → Dx K H' v d
  | _, _, .non => .non
  | _, _, .bl b => .bl b
  | _, _, .int i => .int i
  | _, _, .str x => .str x
  | _, _, .dct h => .dct (e _ _ h)
  | _, _, .lst h a => .lst (sqL_same e h) (DxAll.same e a)
  | _, _, .tup h a => .tup (e.tup h) (DxAll.same e a)
theorem DxAll.same {K : PySem.W.Frag} {H H' : Hp} (e : Same H H') : ∀ {vs : List V} {ds : List PyData}, DxAll K H vs ds → DxAll K H' vs ds
  | _, _, .nil => .nil
  | _, _, .cons h a => .cons (Dx.same e h) (DxAll.same e a)
end
theorem DxAll.at {K : PySem.W.Frag} {H : Hp} : ∀ {vs : List V} {ds : List PyData}, DxAll K H vs ds → ∀ {i : Nat} {v : V}, vs[i]? = some v → ∃ d, ds[i]? = some d ∧ Dx K H v d
  | _, _, .nil, i, v, e => by simp at e
  | _, _, .cons h a, 0, v, e => by cases e; exact ⟨_, rfl, h⟩
  | _, _, .cons h a, i + 1, v, e => a.at (i := i) e
theorem DxAll.len {K : PySem.W.Frag} {H : Hp} : ∀ {vs : List V} {ds : List PyData}, DxAll K H vs ds → vs.length = ds.length
  | _, _, .nil => rfl
  | _, _, .cons _ a => by rw [List.length_cons, List.length_cons, a.len]
theorem DxAll.app {K : PySem.W.Frag} {H : Hp} : ∀ {vs us : List V} {ds es : List PyData}, DxAll K H vs ds → DxAll K H us es → DxAll K H (vs ++ us) (ds ++ es)
  | _, _, _, _, .nil, b => b
  | _, _, _, _, .cons h a, b => .cons h (a.app b)
theorem dx_ints {K : PySem.W.Frag} {H : Hp} : ∀ ns : List Int, DxAll K H (ns.map V.int) (ns.map PyData.int)
  | [] => .nil
  | n :: ns => .cons (.int n) (dx_ints ns)
/-- the name of a thing's type -/
def tyN : PyData → String
  | .none => "NoneType" | .bool _ => "bool" | .int _ => "int" | .str _ => "str" | .list _ => "list" | .tuple _ => "tuple" | .dict _ => "dict"
theorem Dx.ty {K : PySem.W.Frag} {H : Hp} {v : V} {d : PyData} (h : Dx K H v d) : TyX K H v (.type (tyN d)) := by
  cases h with
  | non => exact .base .non
  | bl b => exact .base (.bl b)
  | int i => exact .base (.int i)
  | str x => exact .base (.str x)
  | dct h => exact .base (.dK h)
  | lst h _ =>
    rcases h with (h | ⟨o, h⟩) | ⟨o, its, n, h, c, _⟩
    · exact .base (.lst h)
    · exact .base (.frz h)
    · exact .kList h c
  | tup h _ =>
    rcases h with (h | ⟨o, h⟩) | ⟨o, its, n, h, c, _⟩
    · exact .base (.tup h)
    · exact .fTuple h
    · exact .kTuple h c
def isT : PyData → Bool | .tuple _ => true | _ => false
def isI : PyData → Bool | .int _ => true | .bool _ => true | _ => false
def isB : PyData → Bool | .bool _ => true | _ => false
def isL : PyData → Bool | .list _ => true | _ => false
def isS : PyData → Bool | .str _ => true | _ => false
theorem kit_t : ∀ d : PyData, kitB (tyN d) "tuple" = some (isT d)
  | .none => (by decide +kernel : kitB "NoneType" "tuple" = some false)
  | .bool _ => (by decide +kernel : kitB "bool" "tuple" = some false)
  | .int _ => (by decide +kernel : kitB "int" "tuple" = some false)
  | .str _ => (by decide +kernel : kitB "str" "tuple" = some false)
  | .list _ => (by decide +kernel : kitB "list" "tuple" = some false)
  | .tuple _ => (by decide +kernel : kitB "tuple" "tuple" = some true)
  | .dict _ => (by decide +kernel : kitB "dict" "tuple" = some false)
theorem kit_i : ∀ d : PyData, kitB (tyN d) "int" = some (isI d)
  | .none => (by decide +kernel : kitB "NoneType" "int" = some false)
  | .bool _ => (by decide +kernel : kitB "bool" "int" = some true)
  | .int _ => (by decide +kernel : kitB "int" "int" = some true)
  | .str _ => (by decide +kernel : kitB "str" "int" = some false)
  | .list _ => (by decide +kernel : kitB "list" "int" = some false)
  | .tuple _ => (by decide +kernel : kitB "tuple" "int" = some false)
  | .dict _ => (by decide +kernel : kitB "dict" "int" = some false)
theorem kit_b : ∀ d : PyData, kitB (tyN d) "bool" = some (isB d)
  | .none => (by decide +kernel : kitB "NoneType" "bool" = some false)
  | .bool _ => (by decide +kernel : kitB "bool" "bool" = some true)
  | .int _ => (by decide +kernel : kitB "int" "bool" = some false)
  | .str _ => (by decide +kernel : kitB "str" "bool" = some false)
  | .list _ => (by decide +kernel : kitB "list" "bool" = some false)
  | .tuple _ => (by decide +kernel : kitB "tuple" "bool" = some false)
  | .dict _ => (by decide +kernel : kitB "dict" "bool" = some false)
theorem kit_l : ∀ d : PyData, kitB (tyN d) "list" = some (isL d)
  | .none => (by decide +kernel : kitB "NoneType" "list" = some false)
  | .bool _ => (by decide +kernel : kitB "bool" "list" = some false)
  | .int _ => (by decide +kernel : kitB "int" "list" = some false)
  | .str _ => (by decide +kernel : kitB "str" "list" = some false)
  | .list _ => (by decide +kernel : kitB "list" "list" = some true)
  | .tuple _ => (by decide +kernel : kitB "tuple" "list" = some false)
  | .dict _ => (by decide +kernel : kitB "dict" "list" = some false)
theorem kit_s : ∀ d : PyData, kitB (tyN d) "str" = some (isS d)
  | .none => (by decide +kernel : kitB "NoneType" "str" = some false)
  | .bool _ => (by decide +kernel : kitB "bool" "str" = some false)
  | .int _ => (by decide +kernel : kitB "int" "str" = some false)
  | .str _ => (by decide +kernel : kitB "str" "str" = some true)
  | .list _ => (by decide +kernel : kitB "list" "str" = some false)
  | .tuple _ => (by decide +kernel : kitB "tuple" "str" = some false)
  | .dict _ => (by decide +kernel : kitB "dict" "str" = some false)
/-! ### what is shown of them -/
mutual
def noList : PyData → Bool
  | .list _ => false
  | .tuple ds => noListAll ds
  | _ => true
def noListAll : List PyData → Bool
  | [] => true
  | d :: ds => noList d && noListAll ds
end
section
variable {X : Cx} {pins : List (Addr × Obj)} {σ : L2.St} {H : Hp} {s : Shared}
mutual
theorem Dx.reads (I : Inv X pins σ H s) : ∀ (d : PyData) (v : V) (u : Value), Dx X.K H v d → RelV v u → ∃ as, Reads s.heap u d as ∧ (noList d = true → sysModules ∉ as)
  | .none, _, _, h, r => by
    cases h
    cases r
    exact ⟨_, Reads.none, fun _ z => nomatch z⟩
  | .bool b, _, _, h, r => by
    cases h
    cases r
    exact ⟨_, Reads.bool b, fun _ z => nomatch z⟩
  | .int i, _, _, h, r => by
    cases h
    obtain ⟨t, rfl⟩ := r
    exact ⟨_, Reads.int i t, fun _ z => nomatch z⟩
  | .str x, _, _, h, r => by
    cases h
    obtain ⟨t, rfl⟩ := r
    exact ⟨_, Reads.str x t, fun _ z => nomatch z⟩
  | .list ds, _, _, h, r => by
    cases h with
    | lst hs ha =>
      cases r
      obtain ⟨its, rv, ⟨o, n, ho, hc, _, hd⟩, _⟩ := I.list hs
      obtain ⟨as, hr, _⟩ := Dx.readsAll I ds _ its ha rv
      exact ⟨_, Reads.list ho hc hd hr, fun z => by simp [noList] at z⟩
  | .tuple ds, _, _, h, r => by
    cases h with
    | tup hs ha =>
      cases r
      obtain ⟨its, rv, ⟨o, ho, hc, n, hd⟩, _⟩ := I.tuple hs
      obtain ⟨as, hr, f⟩ := Dx.readsAll I ds _ its ha rv
      exact ⟨_, Reads.tuple ho hc hd hr, fun z => f (by simpa [noList] using z)⟩
  | .dict kvs, _, _, h, r => by
    cases h with
    | dct hs =>
      cases r
      obtain ⟨_, ns, vs, kv, o, es, ep, ho, hc, hd, hv⟩ := dk_of I.hok hs
      cases kv
      have e0 : es.toList = [] := by
        have z := hv.2.1
        revert z
        generalize es.toList = l
        intro z
        cases z
        rfl
      refine ⟨_, Reads.dict ho hc.1 hd (by rw [e0]; exact .nil) (by rw [e0]; exact .nil), fun _ z => ?_⟩
      rcases List.mem_cons.mp z with z | z
      · rw [← z] at ns
        cases ns
      · cases z
theorem Dx.readsAll (I : Inv X pins σ H s) : ∀ (ds : List PyData) (vs : List V) (us : List Value), DxAll X.K H vs ds → Vals vs us → ∃ as, ReadsAll s.heap us ds as ∧ (noListAll ds = true → sysModules ∉ as)
  | [], _, _, h, r => by
    cases h
    cases r
    exact ⟨_, ReadsAll.nil, fun _ z => nomatch z⟩
  | d :: ds, _, _, h, r => by
    cases h with
    | cons h1 h2 =>
      cases r with
      | cons r1 r2 =>
        obtain ⟨as, q1, f1⟩ := Dx.reads I d _ _ h1 r1
        obtain ⟨bs, q2, f2⟩ := Dx.readsAll I ds _ _ h2 r2
        refine ⟨_, ReadsAll.cons q1 q2, fun z m => ?_⟩
        have z' : noList d = true ∧ noListAll ds = true := by simpa [noListAll] using z
        exact (List.mem_append.mp m).elim (f1 z'.1) (f2 z'.2)
end
end
/-- what can be shown -/
structure Shows (d : PyData) : Prop where
  sh : d.showable = true
  nl : d.hasDict = true → noList d = true
  dep : d.depth ≤ 60
  nd : nodes d ≤ 8000
section
variable {X : Cx} {k : Nat}
theorem call_repr_x (gd : X.A.guards = some []) (room : Room k X.A) : CallR X (.builtin "repr") (fun xs H Q => ∃ v d, xs = [v] ∧ Dx X.K H v d ∧ Shows d ∧ Q (.str d.shown) H) := by
  intro pins s σ H xs us Q I r h
  obtain ⟨v, d, rfl, hd, S, q⟩ := h
  obtain ⟨u, rfl, rx⟩ := vals1 r
  have un := room.un
  have sz := fits_shown S.sh S.nd
  have ref : ∀ a : Addr, u = .ref a → wpAny (model X.prog X.w) X.A (call (.builtin "repr") [u]) (fun u' s' => ∃ v' H', Inv X pins σ H' s' ∧ RelV v' u' ∧ Q v' H') X.xe s := by
    intro a ha
    subst ha
    obtain ⟨as, rd, f⟩ := Dx.reads I d _ _ hd rx
    have dep := S.dep
    refine repr_of_reads' (h₀ := s.heap) rd S.sh (fun z => f (S.nl z)) gd (by omega) (fun _ _ e => e) ?_ sz
    intro h' u tk kp
    exact ⟨.str d.shown, H, I.kept (t' := tk) kp, ⟨u, rfl⟩, q⟩
  cases hd with
  | non =>
    cases (show u = Value.none from rx)
    exact PySem.P.repr_of_none ⟨.str _, H, I.tok _, ⟨_, rfl⟩, q⟩
  | bl b =>
    cases (show u = Value.bool b from rx)
    exact PySem.P.repr_of_bool ⟨.str _, H, I.tok _, ⟨_, rfl⟩, q⟩
  | int i =>
    obtain ⟨t, rfl⟩ := (show ∃ t, u = Value.int i t from rx)
    exact PySem.P.repr_of_int (by simpa [PyData.showable] using S.sh) ⟨.str _, H, I.tok _, ⟨_, rfl⟩, q⟩
  | str x =>
    obtain ⟨t, rfl⟩ := (show ∃ t, u = Value.str x t from rx)
    exact PySem.P.repr_of_str ⟨.str _, H, I.tok _, ⟨_, rfl⟩, q⟩ sz
  | dct h => exact ref _ rx
  | lst h a => exact ref _ rx
  | tup h a => exact ref _ rx
end
end Ov
namespace Ov
open PySem PySem.Spec PyProof.Rows L2
/-! ### exceptions of the program's classes as values: made, read, asked for their class -/
/-- C(e, ..) as a value, C's own __init__ keeping sp -/
def tMkV (C : Addr) (sp : Sp) (ta : TA) : TE := fun σ H Q => ta σ H fun vs H1 => vs.length ≤ 1000 ∧ ∀ a, H1 a = none → sp (.ref a :: vs) (upd H1 a (exo a C none)) (fun v H2 => v = .non ∧ Q (.ref a) H2) (fun _ _ _ => False)
section
variable {X : Cx} {o e : Expr} {es : List Expr} {to te : TE} {ta : TA} {f : Str} {p p' p1 p2 pos : Pos}
theorem pe_oexV {CX : CXT} {x : Str} {C fI : Addr} {k : Nat} {fd : FuncData} {ps : List Str} {sp : Sp} (T : OexC X.K C) (iC : PySem.W.findIn X.K (.ref C) "__init__" = some (some (.ref fI))) (tI : PySem.W.typeIn X.K (.ref fI) = some (.type "function"))
    (F1 : FnOk X.prog X.w X.K X.mg X.base CX k fI fd ps sp) (hr : Room (k + 1) X.A) (hb : Binds X.K fd ps []) (hx : Passes CX X (fun _ _ _ => False)) (hg : Gl X x) (hm : X.mg x = some (.ref C)) (ha : PA X (e :: es) ta)
    (hdb : (x == ("__debug__" : Str)) = false := by decide) (he : starEach (e :: es) X.env = (false, eval e X.env) :: starEach es X.env := by rfl) (hpl : (backTo pos (starEach es X.env)).any (·.1) = false := by rfl) :
    PE X (.Call (.Name x p) (e :: es) [] pos) (tMkV C sp ta) := by
  refine ⟨fun pins s σ H Q I h => ?_⟩
  obtain ⟨nm, q, N, bs, bm, sn, sub, ab, col, dd, k0, k1, k2, k3, k5, hC, hbm⟩ := T.cls
  refine wpAny_Call_Name_kw (ld_glob I hg hm ?_ hdb)
  refine PySem.W.callWith_K (h₀ := X.base) I.ok.mod.kin T.kC (thn (ha.run pos pins s σ H _ I h) fun us s1 ⟨vs, H1, I1, r1, hz, q1⟩ => ⟨I1.kIn, ?_⟩) he hpl
  show wpAny _ _ (call (.ref C) us) _ _ _
  obtain ⟨hp, g, dr, tk, os⟩ := s1
  have hsz : hp.objs.size ≤ hp.objs.size + 1 := Nat.le_succ _
  have hn : H1 (hp.objs.size + 1) = none := I1.hok.fresh hsz
  have hq := q1 (hp.objs.size + 1) hn
  have kk : ∀ b o, hp.get? b = some o → ((hp.push (PySem.W.kdv_tup us)).push (PySem.HandSPX.excO C hp.objs.size)).get? b = some o := fun b o e => Heap.get?_push_of_some _ (Heap.get?_push_of_some _ e)
  have hget : ((hp.push (PySem.W.kdv_tup us)).push (PySem.HandSPX.excO C hp.objs.size)).get? (hp.objs.size + 1) = some (PySem.HandSPX.excO C hp.objs.size) := by heap_get
  have I2 : Inv X pins σ (upd H1 (hp.objs.size + 1) (exo (hp.objs.size + 1) C none)) ⟨(hp.push (PySem.W.kdv_tup us)).push (PySem.HandSPX.excO C hp.objs.size), g, dr, tk, os⟩ :=
    I1.laid (t' := tk) (a := hp.objs.size + 1) (o := exo (hp.objs.size + 1) C none) (h' := (hp.push (PySem.W.kdv_tup us)).push (PySem.HandSPX.excO C hp.objs.size)) kk hsz (exo_ok hget)
  have r2 : Vals (V.ref (hp.objs.size + 1) :: vs) (Value.ref (hp.objs.size + 1) :: us) := .cons rfl r1
  have hl : (Value.ref (hp.objs.size + 1) :: us).length = ps.length := by
    have e := r2.length
    rw [F1.len _ _ _ _ hq] at e
    exact e.symm
  have hus : us.length ≤ sizeLine := by
    rw [← Paired.length r1, sizeLine_eq]
    omega
  have bt := hb _ (Value.ref (hp.objs.size + 1) :: us) I2.kIn (by simpa using hl)
  rw [List.append_nil] at bt
  refine wpAny_call (PySem.HandSPX.call_own F.excBase_ValueError (fun Y => PySem.HandSPX.refsVE_contains Y bm hbm) (I1.kIn _ _ hC) (PySem.W.looks_findIn I1.kIn iC) (fun self => PySem.W.bind_fn I1.kIn self tI) hus
    (codeAny_mono (F1.run _ X.stack _ _ ⟨Value.ref (hp.objs.size + 1) :: us, []⟩ (Value.ref (hp.objs.size + 1) :: us) _ _ (fun _ _ _ => False) (hr.make C us []) (I2.env0.make C us []) bt r2 hq) fun r s' hq' => ?_))
  cases r with
  | error er => exact hx pins σ _ _ er s' I2 hq'
  | ok fl =>
    cases fl with
    | ret u =>
      obtain ⟨v, H', I3, rv, ev, q3⟩ := I2.after hq'
      subst ev
      exact ⟨rv, ⟨V.ref (hp.objs.size + 1), H', I3, rfl, q3⟩⟩
    | next => exact False.elim hq'
    | brk => exact False.elim hq'
    | cont => exact False.elim hq'
/-- C() as a value, no own __init__ -/
theorem pe_exc0V {C : Addr} {bmB : List Value} {B newId initId : String} {x : Str} (F : ExcBaseFacts B newId initId bmB) (q : PySem.W.excIn X.K C bmB newId = true) (gC : X.mg x = some (.ref C)) (kC : PySem.W.keepIn X.K (.ref C) = true) (hg : Gl X x)
    (hdb : (x == ("__debug__" : Str)) = false := by decide) :
    PE X (.Call (.Name x p) [] [] pos) (fun σ H Q => ∀ a, H a = none → Q (.ref a) (upd H a (exo a C none))) := by
  refine ⟨fun pins s σ H Q I h => ?_⟩
  refine wpAny_Call_Name_kw (ld_glob I hg gC ?_ hdb)
  refine PySem.W.callWith_K0 I.kIn kC ?_
  obtain ⟨bm, N, nm, qn, bs, hdct, sn, sub, ab, col, dd, k0, k1, k2, k3, k5, mN, hC, hN, hni, T⟩ := exc_obj I.kIn q
  refine wpAny_call_exc_subT F T hC hN hni (fun h' a hm => ?_) (by show 0 ≤ sizeLine; exact Nat.zero_le _)
  have hn : H a = none := I.hok.gone hm.new
  obtain ⟨t, ht, _, _⟩ := hm.there
  exact ⟨.ref a, upd H a (exo a C none), I.laidN hm.keeps hm.new hn (exo_ok ht), rfl, h a hn⟩
/-- e.f, e an exception that stands in H -/
def tExf (K : PySem.W.Frag) (n : Str) (te : TE) : TE := fun σ H Q => te σ H fun x H1 => ∃ (a C dx : Addr) (fs : List (Str × V)) (v : V), x = .ref a ∧ XfC K C ∧ PySem.W.findIn K (.ref C) n = some none ∧ H1 a = some (exo a C (some dx)) ∧ H1 dx = some (exd dx fs) ∧ fs.lookup n = some v ∧ Q v H1
theorem pe_exf {n : Str} (he : PE X e te) (hb : attributeBase e n X.env (eval e X.env) = eval e X.env := by rfl) : PE X (.Attribute e n pos) (tExf X.K n te) := by
  refine ⟨fun pins s σ H Q I h => ?_⟩
  refine attr_of hb (thn (he.run pins s σ H _ I h) fun u s1 hh => ?_)
  obtain ⟨x, H1, I1, rx, a, C, dx, fs, v, ex, T, hno, ea, ed, l, q⟩ := hh
  subst ex
  obtain rfl : u = Value.ref a := rx
  obtain ⟨t1, ha⟩ := exo_at I1.hok ea
  obtain ⟨mA, hns, hr⟩ := exd_at I1.hok ed
  obtain ⟨od, ho, hl⟩ := lookIn_ns hns
  obtain ⟨u, hu, ru⟩ := RelO.some_of (v := v) (o := mA n) (by rw [← l]; exact hr n)
  have J : PySem.W.InstAt s1.heap a _ C (some od) := ⟨ha, rfl, rfl, ho⟩
  exact HandSPX.exc_get I1.kIn J T.ga T.gg T.exC (PySem.W.findObj_own T.hdC hno rfl (by rw [hl, hu])) (handed_of ru) ⟨v, H1, I1.tok _, ru, q⟩
/-- isinstance(e, c), e an exception that stands in H -/
def rIsX (K : PySem.W.Frag) : List V → Hp → VK → Prop := fun xs H Q => ∃ (a C : Addr) (d : Option Addr) (c : V) (cv : Value) (b : Bool), xs = [.ref a, c] ∧ ExcC K C ∧ H a = some (exo a C d) ∧ (∀ dx, d = some dx → ∃ fs, H dx = some (exd dx fs)) ∧ (∀ u, RelV c u → u = cv) ∧ PySem.W.kitOne K (.ref C) cv = some b ∧ Q (.bl b) H
theorem call_isX : CallR X (.builtin "isinstance") (rIsX X.K) := by
  intro pins s σ H xs us Q I r h
  obtain ⟨a, C, d, c, cv, b, rfl, E, ea, hd, hcv, e, q⟩ := h
  obtain ⟨u1, u2, rfl, r1, r2⟩ := vals2 r
  cases (show u1 = Value.ref a from r1)
  have ec := hcv _ r2
  subst ec
  obtain ⟨t1, ha⟩ := exo_at I.hok ea
  have hc : (PySem.W.clsIn X.K C).isSome = true := by
    obtain ⟨cd, z, _⟩ := PySem.W.any_some E.hd
    rw [z]
    rfl
  cases d with
  | none =>
    have J : PySem.W.InstAt s.heap a _ C none := ⟨ha, rfl, rfl, trivial⟩
    exact PySem.W.kia_one (PySem.W.kitx_exc hc E.hg E.hk E.hs E.ha E.hn E.ht E.hm) I.kIn J e (fun z => nomatch z) fun tk => ⟨.bl b, H, I.tok tk, rfl, q⟩
  | some dx =>
    obtain ⟨fs, ed⟩ := hd dx rfl
    obtain ⟨mA, hns, hr⟩ := exd_at I.hok ed
    obtain ⟨od, ho, hl⟩ := lookIn_ns hns
    have J : PySem.W.InstAt s.heap a _ C (some od) := ⟨ha, rfl, rfl, ho⟩
    exact PySem.W.kia_one (PySem.W.kitx_exc hc E.hg E.hk E.hs E.ha E.hn E.ht E.hm) I.kIn J e (fun z => nomatch z) fun tk => ⟨.bl b, H, I.tok tk, rfl, q⟩
end
end Ov
namespace Ov
open PySem PySem.Spec PyProof.Rows L2
def top (i : Nat) : Stmt := PySem.Challenge.pw_overlapcode_k20_errors.main.body.getD i (.Pass ⟨0, 0, 0, 0⟩)
abbrev cOverlapError : Stmt := top 1
abbrev cInvalidInstructionSet : Stmt := top 2
abbrev cInvalidEntry : Stmt := top 3
abbrev cInvalidOffset : Stmt := top 4
abbrev cInvalidLengths : Stmt := top 5
abbrev cInvalidCountdowns : Stmt := top 6
abbrev cInvalidProgram : Stmt := top 7
abbrev cInvalidEntries : Stmt := top 8
abbrev cTooManyStates : Stmt := top 9
abbrev cInvalidNumber : Stmt := top 10
abbrev cInvalidCode : Stmt := top 11
abbrev cInvalidTimes : Stmt := top 12
abbrev cNothingToUndo : Stmt := top 13
abbrev cParseError : Stmt := top 14
abbrev cCommandError : Stmt := top 15
abbrev cTooLong : Stmt := top 16
abbrev sBox : Stmt := top 18
abbrev sTake : Stmt := top 19
abbrev sKinds : Stmt := top 20
abbrev sMade : Stmt := top 21
abbrev sLaw : Stmt := top 22
end Ov
namespace Ov
open PySem PySem.Spec PyProof.Rows L2
/-- a box of numbers: what is left of its own digits, a number, and how many were mixed -/
def BoxAt (H : Hp) (p : Addr) (n : Nat) : Prop := ∃ a b c : Int, H p = some (.lst [.int a, .int b, .int c]) ∧ 0 ≤ a ∧ a < 2 ^ 800 ∧ 0 ≤ b ∧ b < 2 ^ 62 ∧ 0 ≤ c ∧ c ≤ n
theorem BoxAt.mono {H : Hp} {p : Addr} {n m : Nat} (h : BoxAt H p n) (l : n ≤ m) : BoxAt H p m := by
  obtain ⟨a, b, c, e, h1, h2, h3, h4, h5, h6⟩ := h
  exact ⟨a, b, c, e, h1, h2, h3, h4, h5, by omega⟩
theorem BoxAt.same {H H' : Hp} {p : Addr} {n : Nat} (h : BoxAt H p n) (s : Same H H') : BoxAt H' p n := by
  obtain ⟨a, b, c, e, r⟩ := h
  exact ⟨a, b, c, s _ _ e, r⟩
/-- all that stood, but at p, stands -/
def But (p : Addr) (H H' : Hp) : Prop := ∀ b o, H b = some o → b ≠ p → H' b = some o
theorem But.refl (p : Addr) (H : Hp) : But p H H := fun _ _ e _ => e
theorem But.trans {p : Addr} {H H1 H2 : Hp} (a : But p H H1) (b : But p H1 H2) : But p H H2 := fun c o e n => b c o (a c o e n) n
theorem But.of {p : Addr} {H H1 : Hp} (a : Same H H1) : But p H H1 := fun c o e _ => a c o e
theorem But.free {p l : Addr} {H H' : Hp} (e : But p H H') (hp : H p ≠ none) (h : H' l = none) (hp' : H' p ≠ none) : H l = none := by
  cases q : H l with
  | none => rfl
  | some o =>
    by_cases hl : l = p
    · subst hl; exact absurd h hp'
    · rw [e l o q hl] at h; cases h
theorem BoxAt.ne {H : Hp} {p : Addr} {n : Nat} (h : BoxAt H p n) : H p ≠ none := by
  obtain ⟨a, b, c, e, _⟩ := h
  rw [e]; exact fun z => nomatch z
section
variable {P : Program} {w : World} {K : PySem.W.Frag} {mg : Str → Option Value} {base : Heap}
/-! ### _law_box -/
def spBox (K : PySem.W.Frag) : Sp := fun vs H Q _ => ∃ (a : Addr) (ns : List Int) (j : Nat), vs = [.ref a, .int j] ∧ SqL K H a (ns.map V.int) ∧ j ≤ 63 ∧ ∀ H' p, Same H H' → H p = none → BoxAt H' p 0 → Q (.ref p) H'
theorem scBox : FnScope ["_law_script", "_law_k", "_law_cell", "_law_own"] ["_law_script", "_law_k"] (defScope sBox) := ⟨rfl, rfl, rfl, by decide +kernel, rfl, by decide +kernel, by decide +kernel⟩
theorem big_pos : (0 : Int) < 10 ^ (60 : Int).toNat * 10 ^ (60 : Int).toNat * 10 ^ (60 : Int).toNat * 10 ^ (60 : Int).toNat := by decide +kernel
theorem big_lt : (10 : Int) ^ (60 : Int).toNat * 10 ^ (60 : Int).toNat * 10 ^ (60 : Int).toNat * 10 ^ (60 : Int).toNat ≤ 2 ^ 800 := by decide +kernel
/-- what is left of the text behind the cell -/
def tBoxRest : TS := tSeq (tAsg (tOp (rI CMul fun i j => .int (i * j)) (tOp (rI (fun _ j => 0 < j) fun i j => .int (i % j)) (tCB (fun xs H Q => ∃ i, xs = [.int i] ∧ Q (.int (if i < 0 then -i else i)) H) (tCons (tVar 2) tNil))
    (tOp (rI CMulW fun i j => .int (i * j)) (tOp (rI CMulW fun i j => .int (i * j)) (tOp (rI CMulW fun i j => .int (i * j)) (tOp (rI CPow fun i j => .int (i ^ j.toNat)) (tC (.int 10)) (tC (.int 60))) (tOp (rI CPow fun i j => .int (i ^ j.toNat)) (tC (.int 10)) (tC (.int 60)))) (tOp (rI CPow fun i j => .int (i ^ j.toNat)) (tC (.int 10)) (tC (.int 60)))) (tOp (rI CPow fun i j => .int (i ^ j.toNat)) (tC (.int 10)) (tC (.int 60)))))
    (tCB (fun xs H Q => (∃ i, xs = [.int i] ∧ Q (.int i) H) ∨ ∃ k, xs = [.bl k] ∧ Q (.int (if k then 1 else 0)) H) (tCons (tOp (rI0 fun i j => .bl (decide (j ≤ i))) (tCB (fun xs H Q => ∃ i, xs = [.int i] ∧ Q (.int (if i < 0 then -i else i)) H) (tCons (tVar 2) tNil)) (tOp (rI CPow fun i j => .int (i ^ j.toNat)) (tC (.int 10)) (tC (.int 18)))) tNil))) (gName 3))
  (tRet (tLst (tCons (tVar 3) (tCons (tOp (rI (fun _ j => 0 < j) fun i j => .int (i % j)) (tOp (rI CMul fun i j => .int (i * j)) (tOp (rI0 fun i j => .int (i + j)) (tOp (rI0 fun i j => .int (i + j)) (tOp (rI (fun _ j => 0 < j) fun i j => .int (i % j)) (tVar 2) (tC (.int 2305843009213693951))) (tOp (rI CMul fun i j => .int (i * j)) (tOp (rI CMul fun i j => .int (i * j)) (tC (.int 7919)) (tVar 1)) (tVar 1))) (tC (.int 43))) (tC (.int 48271))) (tC (.int 2305843009213693921))) (tCons (tC (.int 0)) tNil)))))
theorem own_ok {x : Int} (h0 : 0 ≤ x) (h1 : x < 2 ^ 800) (c : Bool) : 0 ≤ x * (if c = true then 1 else 0) ∧ x * (if c = true then 1 else 0) < 2 ^ 800 := by
  cases c
  · rw [if_neg (by decide), Int.mul_zero]
    exact ⟨by decide, by decide +kernel⟩
  · rw [if_pos rfl, Int.mul_one]
    exact ⟨h0, h1⟩
theorem bit_ok (c : Bool) : -(2 ^ 64) < (if c = true then (1 : Int) else 0) ∧ (if c = true then (1 : Int) else 0) < 2 ^ 64 := by
  cases c <;> exact ⟨by decide, by decide⟩
theorem box_rest {H : Hp} {D : Ends} {a : Addr} {j : Nat} {cell : Int} {y : Option V} (hj : j ≤ 63) (q : ∀ (H' : Hp) (p : Addr), Same H H' → H p = none → BoxAt H' p 0 → D.rt (V.ref p) H') : tBoxRest D [some (.ref a), some (.int j), some (.int cell), y] H := by
  have h60 : ((10 : Int) ^ (60 : Int).toNat).natAbs < 2 ^ 200 := by decide +kernel
  have h120 : ((10 : Int) ^ (60 : Int).toNat * 10 ^ (60 : Int).toNat).natAbs < 2 ^ 400 := by decide +kernel
  have h180 : ((10 : Int) ^ (60 : Int).toNat * 10 ^ (60 : Int).toNat * 10 ^ (60 : Int).toNat).natAbs < 2 ^ 600 := by decide +kernel
  have hp : CPow 10 60 := ⟨by decide, by decide, by decide⟩
  have hp2 : CPow 10 18 := ⟨by decide, by decide, by decide⟩
  refine ⟨_, rfl, _, rfl, _, _, rfl, rfl, hp, _, _, rfl, rfl, hp, _, _, rfl, rfl, wide_mul h60 h60 (by decide) (by decide) (by decide), _, _, rfl, rfl, hp, _, _, rfl, rfl, wide_mul h120 h60 (by decide) (by decide) (by decide), _, _, rfl, rfl, hp, _, _, rfl, rfl, wide_mul h180 h60 (by decide) (by decide) (by decide), _, _, rfl, rfl, big_pos, ?_⟩
  have hm0 : 0 ≤ (if cell < 0 then -cell else cell) % (10 ^ (60 : Int).toNat * 10 ^ (60 : Int).toNat * 10 ^ (60 : Int).toNat * 10 ^ (60 : Int).toNat) := Int.emod_nonneg _ (Int.ne_of_gt big_pos)
  have hm1 : (if cell < 0 then -cell else cell) % (10 ^ (60 : Int).toNat * 10 ^ (60 : Int).toNat * 10 ^ (60 : Int).toNat * 10 ^ (60 : Int).toNat) < 2 ^ 800 := Int.lt_of_lt_of_le (Int.emod_lt_of_pos _ big_pos) big_lt
  dsimp only
  generalize (if cell < 0 then -cell else cell) % (10 ^ (60 : Int).toNat * 10 ^ (60 : Int).toNat * 10 ^ (60 : Int).toNat * 10 ^ (60 : Int).toNat) = own at *
  refine ⟨_, rfl, _, rfl, _, _, rfl, rfl, hp2, _, _, rfl, rfl, .inr ⟨_, rfl, _, _, rfl, rfl, ?_, ?_⟩⟩
  · exact .inr (bit_ok _)
  dsimp only
  generalize decide ((10 : Int) ^ (18 : Int).toNat ≤ if cell < 0 then -cell else cell) = bb
  obtain ⟨ho0, ho1⟩ := own_ok hm0 hm1 bb
  generalize own * (if bb = true then 1 else 0) = o2 at *
  have hc0 : 0 ≤ cell % 2305843009213693951 := Int.emod_nonneg _ (by decide)
  have hc1 : cell % 2305843009213693951 < 2305843009213693951 := Int.emod_lt_of_pos _ (by decide)
  have hkk : (0 : Int) ≤ 7919 * (j : Int) * (j : Int) := Int.mul_nonneg (Int.mul_nonneg (by decide) (by omega)) (by omega)
  refine ⟨_, rfl, _, rfl, _, _, rfl, rfl, (show (0 : Int) < 2305843009213693951 by decide), _, rfl, _, _, rfl, rfl, .inl ⟨by decide, by decide⟩, _, rfl, _, _, rfl, rfl, .inr ⟨by omega, by omega⟩, _, _, rfl, rfl, _, _, rfl, rfl, _, _, rfl, rfl, .inr ⟨by decide, by decide⟩, _, _, rfl, rfl, (show (0 : Int) < 2305843009213693921 by decide), by show 3 ≤ sizeLine; decide, fun p np => ?_⟩
  exact q _ p (same_upd np) np ⟨_, _, _, upd_same, ho0, ho1, Int.emod_nonneg _ (by decide), Int.lt_of_lt_of_le (Int.emod_lt_of_pos _ (by decide)) (by decide), by decide, by decide⟩
theorem ok_box {f : Addr} {fd : FuncData} {k : Nat} (F : Fun K "_law_box" "_law_box" sBox f fd) (T : Bi mg) : FnOk P w K mg base CX0 (k + 1) f fd ["_law_script", "_law_k"] (spBox K) := by
  refine F.ok scBox (fun vs H Q E h => ?_) (fun cdv A' outer s H vs Q E hr h => ?_)
  · obtain ⟨a, ns, j, rfl, _⟩ := h
    rfl
  · obtain ⟨a, ns, j, rfl, hS, hj, q⟩ := h
    refine ⟨_, pss_cons (ps_set (i := 2) scBox.nd rfl (.inl rfl) (pe_ifExp (pt_cmpR op_lt (pv 1) (pe_callB call_len_seq (by rfl) T.len PySem.boot_len (pa_cons (pv 0) pa_nil)) (nomark _)) (pe_ix ix_list (pv 0) (pv 1) (fun _ _ => rfl)) pe_int))
      (pss_cons (ps_set (i := 3) scBox.nd rfl (.inl rfl) (pe_op op_mul (pe_op op_mod (pe_callB call_abs (by rfl) T.abs (by decide +kernel) (pa_cons (pv 2) pa_nil))
          (pe_op op_mulW (pe_op op_mulW (pe_op op_mulW (pe_op op_pow pe_int pe_int) (pe_op op_pow pe_int pe_int)) (pe_op op_pow pe_int pe_int)) (pe_op op_pow pe_int pe_int)))
        (pe_callTy call_int1 (by rfl) T.int (by decide +kernel) (pa_cons (pe_cmpR op_ge (pe_callB call_abs (by rfl) T.abs (by decide +kernel) (pa_cons (pv 2) pa_nil)) (pe_op op_pow pe_int pe_int) (nomark _)) pa_nil))))
      (pss_one (ps_ret (pe_lst (pa_cons (pv 3) (pa_cons (pe_op op_mod (pe_op op_mul (pe_op op_add (pe_op op_add (pe_op op_mod (pv 2) pe_int) (pe_op op_mul (pe_op op_mul pe_int (pv 1)) (pv 1))) pe_int) pe_int) pe_int) (pa_cons pe_int pa_nil))))))), ?_⟩
    refine ⟨_, rfl, _, rfl, a, _, rfl, .inl hS, _, _, rfl, rfl, _, rfl, ite2 (fun c => ?_) (fun c => ?_)⟩
    · have hj' : j < ns.length := by
        have := of_decide_eq_true c
        rw [List.length_map] at this
        omega
      refine ⟨_, rfl, _, rfl, a, _, _, _, rfl, rfl, hS, atI_nat (v := .int ns[j]) (by rw [List.getElem?_map, List.getElem?_eq_getElem hj']; rfl), ?_⟩
      exact box_rest (D := { nx := fun _ H' => Q .non H', rt := Q }) (y := none) hj q
    · exact box_rest (D := { nx := fun _ H' => Q .non H', rt := Q }) (y := none) hj q
end
end Ov
namespace Ov
open PySem PySem.Spec PyProof.Rows L2
section
variable {P : Program} {w : World} {K : PySem.W.Frag} {mg : Str → Option Value} {base : Heap}
/-! ### _law_take -/
def spTake : Sp := fun vs H Q _ => ∃ (p : Addr) (m : Int) (n : Nat), vs = [.ref p, .int m] ∧ BoxAt H p n ∧ n ≤ 2 ^ 40 ∧ 0 < m ∧ m < 2 ^ 200 ∧ ∀ H' (d : Int), But p H H' → BoxAt H' p (n + 1) → 0 ≤ d → d < m → (∀ b, H b = none → H' b = none) → Q (.int d) H'
theorem scTake : FnScope ["_law_box_here", "_law_many", "_law_digit", "_law_mixed"] ["_law_box_here", "_law_many"] (defScope sTake) := ⟨rfl, rfl, rfl, by decide +kernel, rfl, by decide +kernel, by decide +kernel⟩
theorem ok_take {f : Addr} {fd : FuncData} {k : Nat} (F : Fun K "_law_take" "_law_take" sTake f fd) : FnOk P w K mg base CX0 (k + 1) f fd ["_law_box_here", "_law_many"] spTake := by
  refine F.ok scTake (fun vs H Q E h => ?_) (fun cdv A' outer s H vs Q E hr h => ?_)
  · obtain ⟨p, m, n, rfl, _⟩ := h
    rfl
  · obtain ⟨p, m, n, rfl, ⟨a, b, c, hp, a0, a1, b0, b1, c0, c1⟩, hn, m0, m1, q⟩ := h
    refine ⟨_, pss_cons (ps_if (pt_cmpR op_gt (pe_ix ix_list (pv 0) pe_int (fun _ _ => rfl)) pe_int (nomark _))
        (pss_cons (ps_set (i := 2) scTake.nd rfl (.inl rfl) (pe_op op_mod (pe_ix ix_list (pv 0) pe_int (fun _ _ => rfl)) (pv 1)))
        (pss_cons (ps_asg (pe_op op_fdivW (pe_ix ix_list (pv 0) pe_int (fun _ _ => rfl)) (pv 1)) (pg_sub (pv 0) pe_int set_list))
        (pss_one (ps_ret (pv 2))))) pss_nil)
      (pss_cons (ps_asg (pe_op op_add (pe_ix ix_list (pv 0) pe_int (fun _ _ => rfl)) pe_int) (pg_sub (pv 0) pe_int set_list))
      (pss_cons (ps_set (i := 3) scTake.nd rfl (.inl rfl) (pe_op op_mod (pe_op op_mul (pe_op op_add (pe_op op_add (pe_ix ix_list (pv 0) pe_int (fun _ _ => rfl)) (pe_op op_mul (pe_op op_mul pe_int (pe_ix ix_list (pv 0) pe_int (fun _ _ => rfl))) (pe_ix ix_list (pv 0) pe_int (fun _ _ => rfl)))) pe_int) pe_int) pe_int))
      (pss_cons (ps_set (i := 3) scTake.nd rfl (.inl rfl) (pe_op op_mod (pe_op op_mul (pv 3) (pe_op op_add (pe_op op_mod (pv 3) pe_int) (pe_op op_mul pe_int (pe_ix ix_list (pv 0) pe_int (fun _ _ => rfl))))) pe_int))
      (pss_one (ps_ret (pe_op op_mod (pe_op op_add (pe_op op_fdiv (pv 3) pe_int) (pe_op op_fdiv (pv 3) pe_int)) (pv 1))))))), ?_⟩
    have i0 : ∀ x y z : V, atI [x, y, z] 0 = some x := fun x y z => atI_nat (j := 0) rfl
    have i1 : ∀ x y z : V, atI [x, y, z] 1 = some y := fun x y z => atI_nat (j := 1) rfl
    have i2 : ∀ x y z : V, atI [x, y, z] 2 = some z := fun x y z => atI_nat (j := 2) rfl
    refine ⟨_, rfl, p, _, _, _, rfl, rfl, SqL.of hp, i0 _ _ _, _, _, rfl, rfl, _, rfl, ?_⟩
    by_cases ha : 0 < a
    · rw [decide_eq_true ha]
      refine iteT ?_
      refine ⟨_, rfl, p, _, _, _, rfl, rfl, SqL.of hp, i0 _ _ _, _, rfl, _, _, rfl, rfl, m0, ?_⟩
      refine ⟨_, rfl, p, _, _, _, rfl, rfl, SqL.of hp, i0 _ _ _, _, rfl, _, _, rfl, rfl, wide_div (b := 200) m0 (by omega) (by decide) (by decide), _, rfl, p, _, _, 0, rfl, rfl, hp, rfl, _, rfl, ?_⟩
      refine q _ _ (fun x o e hx => by rw [upd_ne hx]; exact e) ⟨a / m, b, c, upd_same, ?_, ?_, b0, b1, c0, by omega⟩ (Int.emod_nonneg _ (by omega)) (Int.emod_lt_of_pos _ m0) (fun x e => by rw [upd_ne (fun z => by rw [z, hp] at e; cases e)]; exact e)
      · exact Int.ediv_nonneg a0 (by omega)
      · exact Int.lt_of_le_of_lt (Int.ediv_le_self _ a0) a1
    · rw [decide_eq_false ha]
      refine iteF ?_
      refine ⟨_, rfl, p, _, _, _, rfl, rfl, SqL.of hp, i2 _ _ _, _, _, rfl, rfl, _, rfl, p, _, _, 2, rfl, rfl, hp, rfl, ?_⟩
      have hp2 : (upd H p (.lst (([V.int a, V.int b, V.int c] : List V).set 2 (V.int (c + 1))))) p = some (.lst [V.int a, V.int b, V.int (c + 1)]) := upd_same
      have s2 : But p H (upd H p (.lst (([V.int a, V.int b, V.int c] : List V).set 2 (V.int (c + 1))))) := fun x o e hx => by rw [upd_ne hx]; exact e
      have f2 : ∀ x, H x = none → (upd H p (.lst (([V.int a, V.int b, V.int c] : List V).set 2 (V.int (c + 1))))) x = none := fun x e => by rw [upd_ne (fun z => by rw [z, hp] at e; cases e)]; exact e
      generalize upd H p (.lst (([V.int a, V.int b, V.int c] : List V).set 2 (V.int (c + 1)))) = H2 at *
      have hc2 : c + 1 ≤ 2 ^ 40 + 1 := by omega
      refine ⟨_, rfl, p, _, _, _, rfl, rfl, SqL.of hp2, i1 _ _ _, _, rfl, p, _, _, _, rfl, rfl, SqL.of hp2, i2 _ _ _, _, _, rfl, rfl, .inl ⟨by decide, by decide⟩, _, rfl, p, _, _, _, rfl, rfl, SqL.of hp2, i2 _ _ _, _, _, rfl, rfl, .inr ⟨by omega, by omega⟩, _, _, rfl, rfl, _, _, rfl, rfl, _, _, rfl, rfl, .inr ⟨by decide, by decide⟩, _, _, rfl, rfl, (show (0 : Int) < 2305843009213693921 by decide), ?_⟩
      dsimp only
      have x0 : 0 ≤ (b + 65537 * (c + 1) * (c + 1) + 11) * 48271 % 2305843009213693921 := Int.emod_nonneg _ (by decide)
      have x1 : (b + 65537 * (c + 1) * (c + 1) + 11) * 48271 % 2305843009213693921 < 2305843009213693921 := Int.emod_lt_of_pos _ (by decide)
      generalize (b + 65537 * (c + 1) * (c + 1) + 11) * 48271 % 2305843009213693921 = x at *
      refine ⟨_, rfl, _, rfl, _, _, rfl, rfl, (show (0 : Int) < 1000003 by decide), _, rfl, p, _, _, _, rfl, rfl, SqL.of hp2, i2 _ _ _, _, _, rfl, rfl, .inl ⟨by decide, by decide⟩, _, _, rfl, rfl, _, _, rfl, rfl, .inl ⟨by omega, by omega⟩, _, _, rfl, rfl, (show (0 : Int) < 2305843009213693907 by decide), ?_⟩
      dsimp only
      generalize x * (x % 1000003 + 99991 * (c + 1)) % 2305843009213693907 = y at *
      refine ⟨_, rfl, _, _, rfl, rfl, ⟨by decide, by decide⟩, _, rfl, _, _, rfl, rfl, ⟨by decide, by decide⟩, _, _, rfl, rfl, _, rfl, _, _, rfl, rfl, m0, ?_⟩
      exact q _ _ s2 ⟨a, b, c + 1, hp2, a0, a1, b0, b1, by omega, by omega⟩ (Int.emod_nonneg _ (by omega)) (Int.emod_lt_of_pos _ m0) f2
end
end Ov
namespace Ov
open PySem PySem.Spec PyProof.Rows L2
/-! ### the errors' own __init__: one attribute -/
def spExcI (C : Addr) (n : Str) : Sp := fun vs H Q _ => ∃ (a : Addr) (v : V), vs = [.ref a, v] ∧ H a = some (exo a C none) ∧ ∀ dx, H dx = none → dx ≠ a → Q .non (upd (upd H dx (exd dx [(n, v)])) a (exo a C (some dx)))
section
variable {P : Program} {w : World} {K : PySem.W.Frag} {mg : Str → Option Value} {base : Heap}
abbrev sICommandError : Stmt := inClass cCommandError 0
theorem scICommandError : FnScope ["self", "line"] ["self", "line"] (defScope sICommandError) := ⟨rfl, rfl, rfl, by decide +kernel, rfl, by decide +kernel, by decide +kernel⟩
theorem okICommandError {f C : Addr} {fd : FuncData} {k : Nat} (F : Fun K "__init__" "CommandError.__init__" sICommandError f fd) (T : OexC K C) (hn : PySem.W.findIn K (.ref C) "line" = some none) : FnOk P w K mg base CX0 (k + 1) f fd ["self", "line"] (spExcI C "line") := by
  refine F.ok scICommandError (fun vs H Q E h => ?_) (fun cdv A' outer s H vs Q E hr h => ?_)
  · obtain ⟨a, v, rfl, _⟩ := h
    rfl
  · obtain ⟨a, v, rfl, ha, q⟩ := h
    refine ⟨_, pss_one (ps_ost (pv 0) (pv 1)), ?_⟩
    exact ⟨_, rfl, _, rfl, a, C, rfl, T, hn, .inl ⟨ha, fun dx n ne => q dx n ne⟩⟩
abbrev sIInvalidCode : Stmt := inClass cInvalidCode 0
theorem scIInvalidCode : FnScope ["self", "value"] ["self", "value"] (defScope sIInvalidCode) := ⟨rfl, rfl, rfl, by decide +kernel, rfl, by decide +kernel, by decide +kernel⟩
theorem okIInvalidCode {f C : Addr} {fd : FuncData} {k : Nat} (F : Fun K "__init__" "InvalidCode.__init__" sIInvalidCode f fd) (T : OexC K C) (hn : PySem.W.findIn K (.ref C) "value" = some none) : FnOk P w K mg base CX0 (k + 1) f fd ["self", "value"] (spExcI C "value") := by
  refine F.ok scIInvalidCode (fun vs H Q E h => ?_) (fun cdv A' outer s H vs Q E hr h => ?_)
  · obtain ⟨a, v, rfl, _⟩ := h
    rfl
  · obtain ⟨a, v, rfl, ha, q⟩ := h
    refine ⟨_, pss_one (ps_ost (pv 0) (pv 1)), ?_⟩
    exact ⟨_, rfl, _, rfl, a, C, rfl, T, hn, .inl ⟨ha, fun dx n ne => q dx n ne⟩⟩
abbrev sIInvalidCountdowns : Stmt := inClass cInvalidCountdowns 0
theorem scIInvalidCountdowns : FnScope ["self", "value"] ["self", "value"] (defScope sIInvalidCountdowns) := ⟨rfl, rfl, rfl, by decide +kernel, rfl, by decide +kernel, by decide +kernel⟩
theorem okIInvalidCountdowns {f C : Addr} {fd : FuncData} {k : Nat} (F : Fun K "__init__" "InvalidCountdowns.__init__" sIInvalidCountdowns f fd) (T : OexC K C) (hn : PySem.W.findIn K (.ref C) "value" = some none) : FnOk P w K mg base CX0 (k + 1) f fd ["self", "value"] (spExcI C "value") := by
  refine F.ok scIInvalidCountdowns (fun vs H Q E h => ?_) (fun cdv A' outer s H vs Q E hr h => ?_)
  · obtain ⟨a, v, rfl, _⟩ := h
    rfl
  · obtain ⟨a, v, rfl, ha, q⟩ := h
    refine ⟨_, pss_one (ps_ost (pv 0) (pv 1)), ?_⟩
    exact ⟨_, rfl, _, rfl, a, C, rfl, T, hn, .inl ⟨ha, fun dx n ne => q dx n ne⟩⟩
abbrev sIInvalidEntries : Stmt := inClass cInvalidEntries 0
theorem scIInvalidEntries : FnScope ["self", "value"] ["self", "value"] (defScope sIInvalidEntries) := ⟨rfl, rfl, rfl, by decide +kernel, rfl, by decide +kernel, by decide +kernel⟩
theorem okIInvalidEntries {f C : Addr} {fd : FuncData} {k : Nat} (F : Fun K "__init__" "InvalidEntries.__init__" sIInvalidEntries f fd) (T : OexC K C) (hn : PySem.W.findIn K (.ref C) "value" = some none) : FnOk P w K mg base CX0 (k + 1) f fd ["self", "value"] (spExcI C "value") := by
  refine F.ok scIInvalidEntries (fun vs H Q E h => ?_) (fun cdv A' outer s H vs Q E hr h => ?_)
  · obtain ⟨a, v, rfl, _⟩ := h
    rfl
  · obtain ⟨a, v, rfl, ha, q⟩ := h
    refine ⟨_, pss_one (ps_ost (pv 0) (pv 1)), ?_⟩
    exact ⟨_, rfl, _, rfl, a, C, rfl, T, hn, .inl ⟨ha, fun dx n ne => q dx n ne⟩⟩
abbrev sIInvalidEntry : Stmt := inClass cInvalidEntry 0
theorem scIInvalidEntry : FnScope ["self", "value"] ["self", "value"] (defScope sIInvalidEntry) := ⟨rfl, rfl, rfl, by decide +kernel, rfl, by decide +kernel, by decide +kernel⟩
theorem okIInvalidEntry {f C : Addr} {fd : FuncData} {k : Nat} (F : Fun K "__init__" "InvalidEntry.__init__" sIInvalidEntry f fd) (T : OexC K C) (hn : PySem.W.findIn K (.ref C) "value" = some none) : FnOk P w K mg base CX0 (k + 1) f fd ["self", "value"] (spExcI C "value") := by
  refine F.ok scIInvalidEntry (fun vs H Q E h => ?_) (fun cdv A' outer s H vs Q E hr h => ?_)
  · obtain ⟨a, v, rfl, _⟩ := h
    rfl
  · obtain ⟨a, v, rfl, ha, q⟩ := h
    refine ⟨_, pss_one (ps_ost (pv 0) (pv 1)), ?_⟩
    exact ⟨_, rfl, _, rfl, a, C, rfl, T, hn, .inl ⟨ha, fun dx n ne => q dx n ne⟩⟩
abbrev sIInvalidInstructionSet : Stmt := inClass cInvalidInstructionSet 0
theorem scIInvalidInstructionSet : FnScope ["self", "field"] ["self", "field"] (defScope sIInvalidInstructionSet) := ⟨rfl, rfl, rfl, by decide +kernel, rfl, by decide +kernel, by decide +kernel⟩
theorem okIInvalidInstructionSet {f C : Addr} {fd : FuncData} {k : Nat} (F : Fun K "__init__" "InvalidInstructionSet.__init__" sIInvalidInstructionSet f fd) (T : OexC K C) (hn : PySem.W.findIn K (.ref C) "field" = some none) : FnOk P w K mg base CX0 (k + 1) f fd ["self", "field"] (spExcI C "field") := by
  refine F.ok scIInvalidInstructionSet (fun vs H Q E h => ?_) (fun cdv A' outer s H vs Q E hr h => ?_)
  · obtain ⟨a, v, rfl, _⟩ := h
    rfl
  · obtain ⟨a, v, rfl, ha, q⟩ := h
    refine ⟨_, pss_one (ps_ost (pv 0) (pv 1)), ?_⟩
    exact ⟨_, rfl, _, rfl, a, C, rfl, T, hn, .inl ⟨ha, fun dx n ne => q dx n ne⟩⟩
abbrev sIInvalidLengths : Stmt := inClass cInvalidLengths 0
theorem scIInvalidLengths : FnScope ["self", "value"] ["self", "value"] (defScope sIInvalidLengths) := ⟨rfl, rfl, rfl, by decide +kernel, rfl, by decide +kernel, by decide +kernel⟩
theorem okIInvalidLengths {f C : Addr} {fd : FuncData} {k : Nat} (F : Fun K "__init__" "InvalidLengths.__init__" sIInvalidLengths f fd) (T : OexC K C) (hn : PySem.W.findIn K (.ref C) "value" = some none) : FnOk P w K mg base CX0 (k + 1) f fd ["self", "value"] (spExcI C "value") := by
  refine F.ok scIInvalidLengths (fun vs H Q E h => ?_) (fun cdv A' outer s H vs Q E hr h => ?_)
  · obtain ⟨a, v, rfl, _⟩ := h
    rfl
  · obtain ⟨a, v, rfl, ha, q⟩ := h
    refine ⟨_, pss_one (ps_ost (pv 0) (pv 1)), ?_⟩
    exact ⟨_, rfl, _, rfl, a, C, rfl, T, hn, .inl ⟨ha, fun dx n ne => q dx n ne⟩⟩
abbrev sIInvalidNumber : Stmt := inClass cInvalidNumber 0
theorem scIInvalidNumber : FnScope ["self", "value"] ["self", "value"] (defScope sIInvalidNumber) := ⟨rfl, rfl, rfl, by decide +kernel, rfl, by decide +kernel, by decide +kernel⟩
theorem okIInvalidNumber {f C : Addr} {fd : FuncData} {k : Nat} (F : Fun K "__init__" "InvalidNumber.__init__" sIInvalidNumber f fd) (T : OexC K C) (hn : PySem.W.findIn K (.ref C) "value" = some none) : FnOk P w K mg base CX0 (k + 1) f fd ["self", "value"] (spExcI C "value") := by
  refine F.ok scIInvalidNumber (fun vs H Q E h => ?_) (fun cdv A' outer s H vs Q E hr h => ?_)
  · obtain ⟨a, v, rfl, _⟩ := h
    rfl
  · obtain ⟨a, v, rfl, ha, q⟩ := h
    refine ⟨_, pss_one (ps_ost (pv 0) (pv 1)), ?_⟩
    exact ⟨_, rfl, _, rfl, a, C, rfl, T, hn, .inl ⟨ha, fun dx n ne => q dx n ne⟩⟩
abbrev sIInvalidOffset : Stmt := inClass cInvalidOffset 0
theorem scIInvalidOffset : FnScope ["self", "value"] ["self", "value"] (defScope sIInvalidOffset) := ⟨rfl, rfl, rfl, by decide +kernel, rfl, by decide +kernel, by decide +kernel⟩
theorem okIInvalidOffset {f C : Addr} {fd : FuncData} {k : Nat} (F : Fun K "__init__" "InvalidOffset.__init__" sIInvalidOffset f fd) (T : OexC K C) (hn : PySem.W.findIn K (.ref C) "value" = some none) : FnOk P w K mg base CX0 (k + 1) f fd ["self", "value"] (spExcI C "value") := by
  refine F.ok scIInvalidOffset (fun vs H Q E h => ?_) (fun cdv A' outer s H vs Q E hr h => ?_)
  · obtain ⟨a, v, rfl, _⟩ := h
    rfl
  · obtain ⟨a, v, rfl, ha, q⟩ := h
    refine ⟨_, pss_one (ps_ost (pv 0) (pv 1)), ?_⟩
    exact ⟨_, rfl, _, rfl, a, C, rfl, T, hn, .inl ⟨ha, fun dx n ne => q dx n ne⟩⟩
abbrev sIInvalidProgram : Stmt := inClass cInvalidProgram 0
theorem scIInvalidProgram : FnScope ["self", "value"] ["self", "value"] (defScope sIInvalidProgram) := ⟨rfl, rfl, rfl, by decide +kernel, rfl, by decide +kernel, by decide +kernel⟩
theorem okIInvalidProgram {f C : Addr} {fd : FuncData} {k : Nat} (F : Fun K "__init__" "InvalidProgram.__init__" sIInvalidProgram f fd) (T : OexC K C) (hn : PySem.W.findIn K (.ref C) "value" = some none) : FnOk P w K mg base CX0 (k + 1) f fd ["self", "value"] (spExcI C "value") := by
  refine F.ok scIInvalidProgram (fun vs H Q E h => ?_) (fun cdv A' outer s H vs Q E hr h => ?_)
  · obtain ⟨a, v, rfl, _⟩ := h
    rfl
  · obtain ⟨a, v, rfl, ha, q⟩ := h
    refine ⟨_, pss_one (ps_ost (pv 0) (pv 1)), ?_⟩
    exact ⟨_, rfl, _, rfl, a, C, rfl, T, hn, .inl ⟨ha, fun dx n ne => q dx n ne⟩⟩
abbrev sIInvalidTimes : Stmt := inClass cInvalidTimes 0
theorem scIInvalidTimes : FnScope ["self", "value"] ["self", "value"] (defScope sIInvalidTimes) := ⟨rfl, rfl, rfl, by decide +kernel, rfl, by decide +kernel, by decide +kernel⟩
theorem okIInvalidTimes {f C : Addr} {fd : FuncData} {k : Nat} (F : Fun K "__init__" "InvalidTimes.__init__" sIInvalidTimes f fd) (T : OexC K C) (hn : PySem.W.findIn K (.ref C) "value" = some none) : FnOk P w K mg base CX0 (k + 1) f fd ["self", "value"] (spExcI C "value") := by
  refine F.ok scIInvalidTimes (fun vs H Q E h => ?_) (fun cdv A' outer s H vs Q E hr h => ?_)
  · obtain ⟨a, v, rfl, _⟩ := h
    rfl
  · obtain ⟨a, v, rfl, ha, q⟩ := h
    refine ⟨_, pss_one (ps_ost (pv 0) (pv 1)), ?_⟩
    exact ⟨_, rfl, _, rfl, a, C, rfl, T, hn, .inl ⟨ha, fun dx n ne => q dx n ne⟩⟩
abbrev sIParseError : Stmt := inClass cParseError 0
theorem scIParseError : FnScope ["self", "line"] ["self", "line"] (defScope sIParseError) := ⟨rfl, rfl, rfl, by decide +kernel, rfl, by decide +kernel, by decide +kernel⟩
theorem okIParseError {f C : Addr} {fd : FuncData} {k : Nat} (F : Fun K "__init__" "ParseError.__init__" sIParseError f fd) (T : OexC K C) (hn : PySem.W.findIn K (.ref C) "line" = some none) : FnOk P w K mg base CX0 (k + 1) f fd ["self", "line"] (spExcI C "line") := by
  refine F.ok scIParseError (fun vs H Q E h => ?_) (fun cdv A' outer s H vs Q E hr h => ?_)
  · obtain ⟨a, v, rfl, _⟩ := h
    rfl
  · obtain ⟨a, v, rfl, ha, q⟩ := h
    refine ⟨_, pss_one (ps_ost (pv 0) (pv 1)), ?_⟩
    exact ⟨_, rfl, _, rfl, a, C, rfl, T, hn, .inl ⟨ha, fun dx n ne => q dx n ne⟩⟩
abbrev sITooLong : Stmt := inClass cTooLong 0
theorem scITooLong : FnScope ["self", "size"] ["self", "size"] (defScope sITooLong) := ⟨rfl, rfl, rfl, by decide +kernel, rfl, by decide +kernel, by decide +kernel⟩
theorem okITooLong {f C : Addr} {fd : FuncData} {k : Nat} (F : Fun K "__init__" "TooLong.__init__" sITooLong f fd) (T : OexC K C) (hn : PySem.W.findIn K (.ref C) "size" = some none) : FnOk P w K mg base CX0 (k + 1) f fd ["self", "size"] (spExcI C "size") := by
  refine F.ok scITooLong (fun vs H Q E h => ?_) (fun cdv A' outer s H vs Q E hr h => ?_)
  · obtain ⟨a, v, rfl, _⟩ := h
    rfl
  · obtain ⟨a, v, rfl, ha, q⟩ := h
    refine ⟨_, pss_one (ps_ost (pv 0) (pv 1)), ?_⟩
    exact ⟨_, rfl, _, rfl, a, C, rfl, T, hn, .inl ⟨ha, fun dx n ne => q dx n ne⟩⟩
abbrev sITooManyStates : Stmt := inClass cTooManyStates 0
theorem scITooManyStates : FnScope ["self", "count"] ["self", "count"] (defScope sITooManyStates) := ⟨rfl, rfl, rfl, by decide +kernel, rfl, by decide +kernel, by decide +kernel⟩
theorem okITooManyStates {f C : Addr} {fd : FuncData} {k : Nat} (F : Fun K "__init__" "TooManyStates.__init__" sITooManyStates f fd) (T : OexC K C) (hn : PySem.W.findIn K (.ref C) "count" = some none) : FnOk P w K mg base CX0 (k + 1) f fd ["self", "count"] (spExcI C "count") := by
  refine F.ok scITooManyStates (fun vs H Q E h => ?_) (fun cdv A' outer s H vs Q E hr h => ?_)
  · obtain ⟨a, v, rfl, _⟩ := h
    rfl
  · obtain ⟨a, v, rfl, ha, q⟩ := h
    refine ⟨_, pss_one (ps_ost (pv 0) (pv 1)), ?_⟩
    exact ⟨_, rfl, _, rfl, a, C, rfl, T, hn, .inl ⟨ha, fun dx n ne => q dx n ne⟩⟩
end
end Ov
namespace Ov
open PySem PySem.Spec PyProof.Rows L2
/-! ### the errors and their kinds -/
/-- what the top says of the errors: C j the class of the j-th kind (by name), C 15 the class of all -/
structure Errs (K : PySem.W.Frag) (mg : Str → Option Value) (C : Nat → Addr) : Prop where
  g0 : mg "CommandError" = some (.ref (C 0))
  g1 : mg "InvalidCode" = some (.ref (C 1))
  g2 : mg "InvalidCountdowns" = some (.ref (C 2))
  g3 : mg "InvalidEntries" = some (.ref (C 3))
  g4 : mg "InvalidEntry" = some (.ref (C 4))
  g5 : mg "InvalidInstructionSet" = some (.ref (C 5))
  g6 : mg "InvalidLengths" = some (.ref (C 6))
  g7 : mg "InvalidNumber" = some (.ref (C 7))
  g8 : mg "InvalidOffset" = some (.ref (C 8))
  g9 : mg "InvalidProgram" = some (.ref (C 9))
  g10 : mg "InvalidTimes" = some (.ref (C 10))
  g11 : mg "NothingToUndo" = some (.ref (C 11))
  g12 : mg "ParseError" = some (.ref (C 12))
  g13 : mg "TooLong" = some (.ref (C 13))
  g14 : mg "TooManyStates" = some (.ref (C 14))
  g15 : mg "OverlapError" = some (.ref (C 15))
  ex : ∀ i, i < 16 → ExcC K (C i)
  kit : ∀ i, i < 16 → ∀ j, j < 15 → PySem.W.kitOne K (.ref (C i)) (.ref (C j)) = some (decide (i = j))
  kitO : ∀ i, i < 15 → PySem.W.kitOne K (.ref (C i)) (.ref (C 15)) = some true
  kitV : ∀ i, i < 15 → PySem.W.kitOne K (.ref (C i)) (.type "ValueError") = some true
/-- an error of the i-th kind stands at a -/
def ErrAt (C : Nat → Addr) (H : Hp) (i : Nat) (a : Addr) : Prop := i < 16 ∧ ∃ d, H a = some (exo a (C i) d) ∧ ∀ dx, d = some dx → ∃ fs, H dx = some (exd dx fs)
theorem ErrAt.same {C : Nat → Addr} {H H' : Hp} {i : Nat} {a : Addr} (h : ErrAt C H i a) (s : Same H H') : ErrAt C H' i a := by
  obtain ⟨hi, d, h1, h2⟩ := h
  exact ⟨hi, d, s _ _ h1, fun dx e => by obtain ⟨fs, z⟩ := h2 dx e; exact ⟨fs, s _ _ z⟩⟩
def ErrD (C : Nat → Addr) (H : Hp) (i : Nat) (a : Addr) (d : Option Addr) : Prop := H a = some (exo a (C i) d) ∧ ∀ dx, d = some dx → ∃ fs, H dx = some (exd dx fs)
theorem ErrD.same {C : Nat → Addr} {H H' : Hp} {i : Nat} {a : Addr} {d : Option Addr} (h : ErrD C H i a d) (s : Same H H') : ErrD C H' i a d := ⟨s _ _ h.1, fun dx e => by obtain ⟨fs, z⟩ := h.2 dx e; exact ⟨fs, s _ _ z⟩⟩
def kindsV (i : Nat) : List V := (List.range 15).map fun j => .bl (decide (i = j))
section
variable {P : Program} {w : World} {K : PySem.W.Frag} {mg : Str → Option Value} {base : Heap} {C : Nat → Addr}
theorem isx {H : Hp} {Q : VK} {i j : Nat} {a : Addr} (S : Errs K mg C) (h : ErrAt C H i a) (hj : j < 15) (q : Q (.bl (decide (i = j))) H) : rIsX K [.ref a, .ref (C j)] H Q := by
  obtain ⟨hi, d, h1, h2⟩ := h
  exact ⟨a, C i, d, .ref (C j), .ref (C j), decide (i = j), rfl, S.ex i hi, h1, h2, fun u r => r, S.kit i hi j hj, q⟩
def spKinds (C : Nat → Addr) : Sp := fun vs H Q _ => ∃ (a : Addr) (i : Nat), vs = [.ref a] ∧ ErrAt C H i a ∧ ∀ H' l, Same H H' → H l = none → H' l = some (.lst (kindsV i)) → Q (.ref l) H'
theorem scKinds : FnScope ["_law_error", "_law_some"] ["_law_error"] (defScope sKinds) := ⟨rfl, rfl, rfl, by decide +kernel, rfl, by decide +kernel, by decide +kernel⟩
theorem ok_kinds {f : Addr} {fd : FuncData} {k : Nat} (F : Fun K "_law_kinds" "_law_kinds" sKinds f fd) (T : Bi mg) (S : Errs K mg C) : FnOk P w K mg base CX0 (k + 1) f fd ["_law_error"] (spKinds C) := by
  refine F.ok scKinds (fun vs H Q E h => ?_) (fun cdv A' outer s H vs Q E hr h => ?_)
  · obtain ⟨a, i, rfl, _⟩ := h
    rfl
  · obtain ⟨a, i, rfl, ha, q⟩ := h
    refine ⟨_, pss_cons (ps_set (i := 1) scKinds.nd rfl (.inl rfl) (pe_lst (pa_cons (pe_callB call_isX (by rfl) T.isi (by decide +kernel) (pa_cons (pv 0) (pa_cons (pe_glob (v := .ref (C 0)) (by rfl) S.g0 rfl) pa_nil))) (pa_cons (pe_callB call_isX (by rfl) T.isi (by decide +kernel) (pa_cons (pv 0) (pa_cons (pe_glob (v := .ref (C 1)) (by rfl) S.g1 rfl) pa_nil))) (pa_cons (pe_callB call_isX (by rfl) T.isi (by decide +kernel) (pa_cons (pv 0) (pa_cons (pe_glob (v := .ref (C 2)) (by rfl) S.g2 rfl) pa_nil))) pa_nil)))))
      (pss_cons (ps_set (i := 1) scKinds.nd rfl (.inl rfl) (pe_op op_cat (pv 1) (pe_lst (pa_cons (pe_callB call_isX (by rfl) T.isi (by decide +kernel) (pa_cons (pv 0) (pa_cons (pe_glob (v := .ref (C 3)) (by rfl) S.g3 rfl) pa_nil))) (pa_cons (pe_callB call_isX (by rfl) T.isi (by decide +kernel) (pa_cons (pv 0) (pa_cons (pe_glob (v := .ref (C 4)) (by rfl) S.g4 rfl) pa_nil))) pa_nil)))))
      (pss_cons (ps_set (i := 1) scKinds.nd rfl (.inl rfl) (pe_op op_cat (pv 1) (pe_lst (pa_cons (pe_callB call_isX (by rfl) T.isi (by decide +kernel) (pa_cons (pv 0) (pa_cons (pe_glob (v := .ref (C 5)) (by rfl) S.g5 rfl) pa_nil))) (pa_cons (pe_callB call_isX (by rfl) T.isi (by decide +kernel) (pa_cons (pv 0) (pa_cons (pe_glob (v := .ref (C 6)) (by rfl) S.g6 rfl) pa_nil))) pa_nil)))))
      (pss_cons (ps_set (i := 1) scKinds.nd rfl (.inl rfl) (pe_op op_cat (pv 1) (pe_lst (pa_cons (pe_callB call_isX (by rfl) T.isi (by decide +kernel) (pa_cons (pv 0) (pa_cons (pe_glob (v := .ref (C 7)) (by rfl) S.g7 rfl) pa_nil))) (pa_cons (pe_callB call_isX (by rfl) T.isi (by decide +kernel) (pa_cons (pv 0) (pa_cons (pe_glob (v := .ref (C 8)) (by rfl) S.g8 rfl) pa_nil))) pa_nil)))))
      (pss_cons (ps_set (i := 1) scKinds.nd rfl (.inl rfl) (pe_op op_cat (pv 1) (pe_lst (pa_cons (pe_callB call_isX (by rfl) T.isi (by decide +kernel) (pa_cons (pv 0) (pa_cons (pe_glob (v := .ref (C 9)) (by rfl) S.g9 rfl) pa_nil))) pa_nil))))
      (pss_cons (ps_set (i := 1) scKinds.nd rfl (.inl rfl) (pe_op op_cat (pv 1) (pe_lst (pa_cons (pe_callB call_isX (by rfl) T.isi (by decide +kernel) (pa_cons (pv 0) (pa_cons (pe_glob (v := .ref (C 10)) (by rfl) S.g10 rfl) pa_nil))) (pa_cons (pe_callB call_isX (by rfl) T.isi (by decide +kernel) (pa_cons (pv 0) (pa_cons (pe_glob (v := .ref (C 11)) (by rfl) S.g11 rfl) pa_nil))) (pa_cons (pe_callB call_isX (by rfl) T.isi (by decide +kernel) (pa_cons (pv 0) (pa_cons (pe_glob (v := .ref (C 12)) (by rfl) S.g12 rfl) pa_nil))) pa_nil))))))
      (pss_one (ps_ret (pe_op op_cat (pv 1) (pe_lst (pa_cons (pe_callB call_isX (by rfl) T.isi (by decide +kernel) (pa_cons (pv 0) (pa_cons (pe_glob (v := .ref (C 13)) (by rfl) S.g13 rfl) pa_nil))) (pa_cons (pe_callB call_isX (by rfl) T.isi (by decide +kernel) (pa_cons (pv 0) (pa_cons (pe_glob (v := .ref (C 14)) (by rfl) S.g14 rfl) pa_nil))) pa_nil))))))))))), ?_⟩
    obtain ⟨hi, d, E0⟩ := ha
    change ErrD C H i a d at E0
    refine ⟨_, rfl, a, C i, d, .ref (C 0), .ref (C 0), _, rfl, S.ex i hi, E0.1, E0.2, (fun _ r => r), S.kit i hi 0 (by decide), _, rfl, a, C i, d, .ref (C 1), .ref (C 1), _, rfl, S.ex i hi, E0.1, E0.2, (fun _ r => r), S.kit i hi 1 (by decide), _, rfl, a, C i, d, .ref (C 2), .ref (C 2), _, rfl, S.ex i hi, E0.1, E0.2, (fun _ r => r), S.kit i hi 2 (by decide), by show 3 ≤ sizeLine; decide, fun l1 n1 => ?_⟩
    have s1 := same_upd (o := HO.lst [.bl (decide (i = 0)), .bl (decide (i = 1)), .bl (decide (i = 2))]) n1
    have h1 := @upd_same H l1 (HO.lst [.bl (decide (i = 0)), .bl (decide (i = 1)), .bl (decide (i = 2))])
    have E1 := E0.same s1
    generalize upd H l1 (HO.lst [.bl (decide (i = 0)), .bl (decide (i = 1)), .bl (decide (i = 2))]) = H1 at *
    refine ⟨_, rfl, _, rfl, a, C i, d, .ref (C 3), .ref (C 3), _, rfl, S.ex i hi, E1.1, E1.2, (fun _ r => r), S.kit i hi 3 (by decide), _, rfl, a, C i, d, .ref (C 4), .ref (C 4), _, rfl, S.ex i hi, E1.1, E1.2, (fun _ r => r), S.kit i hi 4 (by decide), by show 2 ≤ sizeLine; decide, fun m1 nm1 => ?_⟩
    have t1 := same_upd (o := HO.lst [.bl (decide (i = 3)), .bl (decide (i = 4))]) nm1
    have k1 := @upd_same H1 m1 (HO.lst [.bl (decide (i = 3)), .bl (decide (i = 4))])
    generalize upd H1 m1 (HO.lst [.bl (decide (i = 3)), .bl (decide (i = 4))]) = G1 at *
    refine ⟨l1, m1, _, _, rfl, rfl, t1 _ _ h1, k1, by show 5 ≤ sizeLine; decide, fun l2 n2 => ?_⟩
    have s2 := (s1.trans t1).trans (same_upd (o := HO.lst ([.bl (decide (i = 0)), .bl (decide (i = 1)), .bl (decide (i = 2))] ++ [.bl (decide (i = 3)), .bl (decide (i = 4))])) n2)
    have h2 : upd G1 l2 (HO.lst ([.bl (decide (i = 0)), .bl (decide (i = 1)), .bl (decide (i = 2))] ++ [.bl (decide (i = 3)), .bl (decide (i = 4))])) l2 = some (.lst [.bl (decide (i = 0)), .bl (decide (i = 1)), .bl (decide (i = 2)), .bl (decide (i = 3)), .bl (decide (i = 4))]) := upd_same
    have E2 := E0.same s2
    generalize upd G1 l2 (HO.lst ([.bl (decide (i = 0)), .bl (decide (i = 1)), .bl (decide (i = 2))] ++ [.bl (decide (i = 3)), .bl (decide (i = 4))])) = H2 at *
    refine ⟨_, rfl, _, rfl, a, C i, d, .ref (C 5), .ref (C 5), _, rfl, S.ex i hi, E2.1, E2.2, (fun _ r => r), S.kit i hi 5 (by decide), _, rfl, a, C i, d, .ref (C 6), .ref (C 6), _, rfl, S.ex i hi, E2.1, E2.2, (fun _ r => r), S.kit i hi 6 (by decide), by show 2 ≤ sizeLine; decide, fun m2 nm2 => ?_⟩
    have t2 := same_upd (o := HO.lst [.bl (decide (i = 5)), .bl (decide (i = 6))]) nm2
    have k2 := @upd_same H2 m2 (HO.lst [.bl (decide (i = 5)), .bl (decide (i = 6))])
    generalize upd H2 m2 (HO.lst [.bl (decide (i = 5)), .bl (decide (i = 6))]) = G2 at *
    refine ⟨l2, m2, _, _, rfl, rfl, t2 _ _ h2, k2, by show 7 ≤ sizeLine; decide, fun l3 n3 => ?_⟩
    have s3 := (s2.trans t2).trans (same_upd (o := HO.lst ([.bl (decide (i = 0)), .bl (decide (i = 1)), .bl (decide (i = 2)), .bl (decide (i = 3)), .bl (decide (i = 4))] ++ [.bl (decide (i = 5)), .bl (decide (i = 6))])) n3)
    have h3 : upd G2 l3 (HO.lst ([.bl (decide (i = 0)), .bl (decide (i = 1)), .bl (decide (i = 2)), .bl (decide (i = 3)), .bl (decide (i = 4))] ++ [.bl (decide (i = 5)), .bl (decide (i = 6))])) l3 = some (.lst [.bl (decide (i = 0)), .bl (decide (i = 1)), .bl (decide (i = 2)), .bl (decide (i = 3)), .bl (decide (i = 4)), .bl (decide (i = 5)), .bl (decide (i = 6))]) := upd_same
    have E3 := E0.same s3
    generalize upd G2 l3 (HO.lst ([.bl (decide (i = 0)), .bl (decide (i = 1)), .bl (decide (i = 2)), .bl (decide (i = 3)), .bl (decide (i = 4))] ++ [.bl (decide (i = 5)), .bl (decide (i = 6))])) = H3 at *
    refine ⟨_, rfl, _, rfl, a, C i, d, .ref (C 7), .ref (C 7), _, rfl, S.ex i hi, E3.1, E3.2, (fun _ r => r), S.kit i hi 7 (by decide), _, rfl, a, C i, d, .ref (C 8), .ref (C 8), _, rfl, S.ex i hi, E3.1, E3.2, (fun _ r => r), S.kit i hi 8 (by decide), by show 2 ≤ sizeLine; decide, fun m3 nm3 => ?_⟩
    have t3 := same_upd (o := HO.lst [.bl (decide (i = 7)), .bl (decide (i = 8))]) nm3
    have k3 := @upd_same H3 m3 (HO.lst [.bl (decide (i = 7)), .bl (decide (i = 8))])
    generalize upd H3 m3 (HO.lst [.bl (decide (i = 7)), .bl (decide (i = 8))]) = G3 at *
    refine ⟨l3, m3, _, _, rfl, rfl, t3 _ _ h3, k3, by show 9 ≤ sizeLine; decide, fun l4 n4 => ?_⟩
    have s4 := (s3.trans t3).trans (same_upd (o := HO.lst ([.bl (decide (i = 0)), .bl (decide (i = 1)), .bl (decide (i = 2)), .bl (decide (i = 3)), .bl (decide (i = 4)), .bl (decide (i = 5)), .bl (decide (i = 6))] ++ [.bl (decide (i = 7)), .bl (decide (i = 8))])) n4)
    have h4 : upd G3 l4 (HO.lst ([.bl (decide (i = 0)), .bl (decide (i = 1)), .bl (decide (i = 2)), .bl (decide (i = 3)), .bl (decide (i = 4)), .bl (decide (i = 5)), .bl (decide (i = 6))] ++ [.bl (decide (i = 7)), .bl (decide (i = 8))])) l4 = some (.lst [.bl (decide (i = 0)), .bl (decide (i = 1)), .bl (decide (i = 2)), .bl (decide (i = 3)), .bl (decide (i = 4)), .bl (decide (i = 5)), .bl (decide (i = 6)), .bl (decide (i = 7)), .bl (decide (i = 8))]) := upd_same
    have E4 := E0.same s4
    generalize upd G3 l4 (HO.lst ([.bl (decide (i = 0)), .bl (decide (i = 1)), .bl (decide (i = 2)), .bl (decide (i = 3)), .bl (decide (i = 4)), .bl (decide (i = 5)), .bl (decide (i = 6))] ++ [.bl (decide (i = 7)), .bl (decide (i = 8))])) = H4 at *
    refine ⟨_, rfl, _, rfl, a, C i, d, .ref (C 9), .ref (C 9), _, rfl, S.ex i hi, E4.1, E4.2, (fun _ r => r), S.kit i hi 9 (by decide), by show 1 ≤ sizeLine; decide, fun m4 nm4 => ?_⟩
    have t4 := same_upd (o := HO.lst [.bl (decide (i = 9))]) nm4
    have k4 := @upd_same H4 m4 (HO.lst [.bl (decide (i = 9))])
    generalize upd H4 m4 (HO.lst [.bl (decide (i = 9))]) = G4 at *
    refine ⟨l4, m4, _, _, rfl, rfl, t4 _ _ h4, k4, by show 10 ≤ sizeLine; decide, fun l5 n5 => ?_⟩
    have s5 := (s4.trans t4).trans (same_upd (o := HO.lst ([.bl (decide (i = 0)), .bl (decide (i = 1)), .bl (decide (i = 2)), .bl (decide (i = 3)), .bl (decide (i = 4)), .bl (decide (i = 5)), .bl (decide (i = 6)), .bl (decide (i = 7)), .bl (decide (i = 8))] ++ [.bl (decide (i = 9))])) n5)
    have h5 : upd G4 l5 (HO.lst ([.bl (decide (i = 0)), .bl (decide (i = 1)), .bl (decide (i = 2)), .bl (decide (i = 3)), .bl (decide (i = 4)), .bl (decide (i = 5)), .bl (decide (i = 6)), .bl (decide (i = 7)), .bl (decide (i = 8))] ++ [.bl (decide (i = 9))])) l5 = some (.lst [.bl (decide (i = 0)), .bl (decide (i = 1)), .bl (decide (i = 2)), .bl (decide (i = 3)), .bl (decide (i = 4)), .bl (decide (i = 5)), .bl (decide (i = 6)), .bl (decide (i = 7)), .bl (decide (i = 8)), .bl (decide (i = 9))]) := upd_same
    have E5 := E0.same s5
    generalize upd G4 l5 (HO.lst ([.bl (decide (i = 0)), .bl (decide (i = 1)), .bl (decide (i = 2)), .bl (decide (i = 3)), .bl (decide (i = 4)), .bl (decide (i = 5)), .bl (decide (i = 6)), .bl (decide (i = 7)), .bl (decide (i = 8))] ++ [.bl (decide (i = 9))])) = H5 at *
    refine ⟨_, rfl, _, rfl, a, C i, d, .ref (C 10), .ref (C 10), _, rfl, S.ex i hi, E5.1, E5.2, (fun _ r => r), S.kit i hi 10 (by decide), _, rfl, a, C i, d, .ref (C 11), .ref (C 11), _, rfl, S.ex i hi, E5.1, E5.2, (fun _ r => r), S.kit i hi 11 (by decide), _, rfl, a, C i, d, .ref (C 12), .ref (C 12), _, rfl, S.ex i hi, E5.1, E5.2, (fun _ r => r), S.kit i hi 12 (by decide), by show 3 ≤ sizeLine; decide, fun m5 nm5 => ?_⟩
    have t5 := same_upd (o := HO.lst [.bl (decide (i = 10)), .bl (decide (i = 11)), .bl (decide (i = 12))]) nm5
    have k5 := @upd_same H5 m5 (HO.lst [.bl (decide (i = 10)), .bl (decide (i = 11)), .bl (decide (i = 12))])
    generalize upd H5 m5 (HO.lst [.bl (decide (i = 10)), .bl (decide (i = 11)), .bl (decide (i = 12))]) = G5 at *
    refine ⟨l5, m5, _, _, rfl, rfl, t5 _ _ h5, k5, by show 13 ≤ sizeLine; decide, fun l6 n6 => ?_⟩
    have s6 := (s5.trans t5).trans (same_upd (o := HO.lst ([.bl (decide (i = 0)), .bl (decide (i = 1)), .bl (decide (i = 2)), .bl (decide (i = 3)), .bl (decide (i = 4)), .bl (decide (i = 5)), .bl (decide (i = 6)), .bl (decide (i = 7)), .bl (decide (i = 8)), .bl (decide (i = 9))] ++ [.bl (decide (i = 10)), .bl (decide (i = 11)), .bl (decide (i = 12))])) n6)
    have h6 : upd G5 l6 (HO.lst ([.bl (decide (i = 0)), .bl (decide (i = 1)), .bl (decide (i = 2)), .bl (decide (i = 3)), .bl (decide (i = 4)), .bl (decide (i = 5)), .bl (decide (i = 6)), .bl (decide (i = 7)), .bl (decide (i = 8)), .bl (decide (i = 9))] ++ [.bl (decide (i = 10)), .bl (decide (i = 11)), .bl (decide (i = 12))])) l6 = some (.lst [.bl (decide (i = 0)), .bl (decide (i = 1)), .bl (decide (i = 2)), .bl (decide (i = 3)), .bl (decide (i = 4)), .bl (decide (i = 5)), .bl (decide (i = 6)), .bl (decide (i = 7)), .bl (decide (i = 8)), .bl (decide (i = 9)), .bl (decide (i = 10)), .bl (decide (i = 11)), .bl (decide (i = 12))]) := upd_same
    have E6 := E0.same s6
    generalize upd G5 l6 (HO.lst ([.bl (decide (i = 0)), .bl (decide (i = 1)), .bl (decide (i = 2)), .bl (decide (i = 3)), .bl (decide (i = 4)), .bl (decide (i = 5)), .bl (decide (i = 6)), .bl (decide (i = 7)), .bl (decide (i = 8)), .bl (decide (i = 9))] ++ [.bl (decide (i = 10)), .bl (decide (i = 11)), .bl (decide (i = 12))])) = H6 at *
    refine ⟨_, rfl, _, rfl, a, C i, d, .ref (C 13), .ref (C 13), _, rfl, S.ex i hi, E6.1, E6.2, (fun _ r => r), S.kit i hi 13 (by decide), _, rfl, a, C i, d, .ref (C 14), .ref (C 14), _, rfl, S.ex i hi, E6.1, E6.2, (fun _ r => r), S.kit i hi 14 (by decide), by show 2 ≤ sizeLine; decide, fun m6 nm6 => ?_⟩
    have t6 := same_upd (o := HO.lst [.bl (decide (i = 13)), .bl (decide (i = 14))]) nm6
    have k6 := @upd_same H6 m6 (HO.lst [.bl (decide (i = 13)), .bl (decide (i = 14))])
    generalize upd H6 m6 (HO.lst [.bl (decide (i = 13)), .bl (decide (i = 14))]) = G6 at *
    refine ⟨l6, m6, _, _, rfl, rfl, t6 _ _ h6, k6, by show 15 ≤ sizeLine; decide, fun l7 n7 => ?_⟩
    exact q _ l7 ((s6.trans t6).trans (same_upd n7)) ((s6.trans t6).free n7) upd_same
end
end Ov
namespace Ov
open PySem PySem.Spec PyProof.Rows L2
/-- a part of the heap, and what was laid beside it -/
structure Grow (T H T' H' : Hp) : Prop where
  hh : Same H H'
  tt : Same T T'
  th : Same T' H'
  new : ∀ b, T b = none → H b ≠ none → T' b = none
theorem Grow.refl {T H : Hp} (h : Same T H) : Grow T H T H := ⟨Same.refl _, Same.refl _, h, fun _ e _ => e⟩
theorem Grow.put {T H T' H' : Hp} (g : Grow T H T' H') {p : Addr} (o : HO) (n : H' p = none) : Grow T H (upd T' p o) (upd H' p o) := by
  refine ⟨g.hh.trans (same_upd n), g.tt.trans (same_upd ?_), fun b x e => ?_, fun b e h => ?_⟩
  · cases q : T' p with
    | none => rfl
    | some x => rw [g.th _ _ q] at n; cases n
  · by_cases hb : b = p
    · subst hb
      rw [upd_same] at e ⊢
      exact e
    · rw [upd_ne hb] at e ⊢
      exact g.th _ _ e
  · by_cases hb : b = p
    · subst hb
      cases q : H b with
      | none => exact absurd q h
      | some x => rw [g.hh _ _ q] at n; cases n
    · rw [upd_ne hb]
      exact g.new b e h
theorem Grow.trans {T H T1 H1 T2 H2 : Hp} (a : Grow T H T1 H1) (b : Grow T1 H1 T2 H2) : Grow T H T2 H2 :=
  ⟨a.hh.trans b.hh, a.tt.trans b.tt, b.th, fun c e h => b.new c (a.new c e h) fun z => by
    cases q : H c with
    | none => exact h q
    | some x => rw [a.hh _ _ q] at z; cases z⟩
theorem none_of {T H : Hp} {l : Addr} (s : Same T H) (n : H l = none) : T l = none := by
  cases z : T l with
  | none => rfl
  | some x => rw [s _ _ z] at n; cases n
end Ov
namespace Ov
open PySem PySem.Spec PyProof.Rows L2
/-! ### _law_made: one error of each kind -/
structure Er (P : Program) (w : World) (K : PySem.W.Frag) (mg : Str → Option Value) (base : Heap) (k : Nat) (C : Addr) (n : Str) : Prop where
  ox : OexC K C
  ex : ∃ fI fd, PySem.W.findIn K (.ref C) "__init__" = some (some (.ref fI)) ∧ PySem.W.typeIn K (.ref fI) = some (.type "function") ∧ FnOk P w K mg base CX0 k fI fd ["self", n] (spExcI C n) ∧ Binds K fd ["self", n] []
  xf : XfC K C
  no : PySem.W.findIn K (.ref C) n = some none
theorem pe_er {X : Cx} {x n : Str} {C : Addr} {k : Nat} {e : Expr} {p pos : Pos} {ta : TA} (E : Er X.prog X.w X.K X.mg X.base k C n) (hr : Room (k + 1) X.A) (hx : Passes CX0 X (fun _ _ _ => False)) (hg : Gl X x) (hm : X.mg x = some (.ref C)) (ha : PA X [e] ta)
    (hdb : (x == ("__debug__" : Str)) = false := by decide) (he : starEach [e] X.env = (false, eval e X.env) :: starEach [] X.env := by rfl) (hpl : (backTo pos (starEach [] X.env)).any (·.1) = false := by rfl) :
    PE X (.Call (.Name x p) [e] [] pos) (tMkV C (spExcI C n) ta) := by
  obtain ⟨fI, fd, iC, tI, F1, hb⟩ := E.ex
  exact pe_oexV E.ox iC tI F1 hr hb hx hg hm ha hdb he hpl
/-- an error with its one attribute -/
structure One (C : Nat → Addr) (T : Hp) (j : Nat) (n : Str) (v : V) (a : Addr) : Prop where
  lt : j < 16
  ex : ∃ dx, T a = some (exo a (C j) (some dx)) ∧ T dx = some (exd dx [(n, v)])
theorem One.same {C : Nat → Addr} {T T' : Hp} {j : Nat} {n : Str} {v : V} {a : Addr} (h : One C T j n v a) (s : Same T T') : One C T' j n v a := by
  obtain ⟨dx, h1, h2⟩ := h.ex
  exact ⟨h.lt, dx, s _ _ h1, s _ _ h2⟩
theorem One.err {C : Nat → Addr} {T : Hp} {j : Nat} {n : Str} {v : V} {a : Addr} (h : One C T j n v a) : ErrAt C T j a := by
  obtain ⟨dx, h1, h2⟩ := h.ex
  exact ⟨h.lt, some dx, h1, fun d e => by cases e; exact ⟨_, h2⟩⟩
theorem mk_x {C : Nat → Addr} {T H : Hp} {j : Nat} {n : Str} {v : V} {a dx : Addr} (lt : j < 16) (st : Same T H) (na : H a = none) (ndx : (upd H a (exo a (C j) none)) dx = none) (nea : dx ≠ a) :
    ∃ T2, Grow T H T2 (upd (upd (upd H a (exo a (C j) none)) dx (exd dx [(n, v)])) a (exo a (C j) (some dx))) ∧ One C T2 j n v a := by
  have ndH : H dx = none := by rw [upd_ne nea] at ndx; exact ndx
  have g1 := (Grow.refl st).put (exd dx [(n, v)]) ndH
  have na2 : (upd H dx (exd dx [(n, v)])) a = none := by rw [upd_ne (Ne.symm nea)]; exact na
  have g2 := g1.put (exo a (C j) (some dx)) na2
  have e : upd (upd (upd H a (exo a (C j) none)) dx (exd dx [(n, v)])) a (exo a (C j) (some dx)) = upd (upd H dx (exd dx [(n, v)])) a (exo a (C j) (some dx)) := by
    funext b
    by_cases hb : b = a
    · subst hb; rw [upd_same, upd_same]
    · rw [upd_ne hb, upd_ne hb]
      by_cases hd : b = dx
      · subst hd; rw [upd_same, upd_same]
      · rw [upd_ne hd, upd_ne hd, upd_ne hb]
  rw [e]
  exact ⟨_, g2, lt, dx, upd_same, by rw [upd_ne nea]; exact upd_same⟩
/-- the list of pairs so far -/
structure Made (C : Nat → Addr) (T H : Hp) (v : V) (so : Addr) (ps : List Addr) : Prop where
  ht : Same T H
  tso : T so = none
  at_ : H so = some (.lst (ps.map V.ref))
  pr : ∀ (j : Nat) (r : Addr), ps[j]? = some r → ∃ a, T r = some (.lst [.ref a, v]) ∧ ErrAt C T j a
theorem Made.grow {C : Nat → Addr} {T H T' H' : Hp} {v : V} {so : Addr} {ps : List Addr} (h : Made C T H v so ps) (g : Grow T H T' H') : Made C T' H' v so ps :=
  ⟨g.th, g.new _ h.tso (by rw [h.at_]; exact fun z => nomatch z), g.hh _ _ h.at_, fun j r e => by obtain ⟨a, h1, h2⟩ := h.pr j r e; exact ⟨a, g.tt _ _ h1, h2.same g.tt⟩⟩
theorem Made.push {C : Nat → Addr} {T H : Hp} {v : V} {so : Addr} {ps : List Addr} (h : Made C T H v so ps) {r a : Addr} (hr : T r = some (.lst [.ref a, v])) (ea : ErrAt C T ps.length a) : Made C T (upd H so (.lst (ps.map V.ref ++ [.ref r]))) v so (ps ++ [r]) := by
  refine ⟨fun b o e => ?_, h.tso, by rw [upd_same, List.map_append]; rfl, fun j r' e => ?_⟩
  · rw [upd_ne (ne_of_none e h.tso)]
    exact h.ht _ _ e
  · by_cases hj : j < ps.length
    · rw [List.getElem?_append_left hj] at e
      exact h.pr j r' e
    · have hl := (List.getElem?_eq_some_iff.mp e).1
      rw [List.length_append] at hl
      have ej : j = ps.length := by have : ([r] : List Addr).length = 1 := rfl; omega
      subst ej
      rw [List.getElem?_append_right (Nat.le_refl _), Nat.sub_self] at e
      cases (Option.some.inj e)
      exact ⟨a, hr, ea⟩
theorem Made.pushL {C : Nat → Addr} {T H : Hp} {v : V} {so : Addr} {ps : List Addr} (h : Made C T H v so ps) {rs : List Addr} (hr : ∀ (i : Nat) (r : Addr), rs[i]? = some r → ∃ a, T r = some (.lst [.ref a, v]) ∧ ErrAt C T (ps.length + i) a) : Made C T (upd H so (.lst (ps.map V.ref ++ rs.map V.ref))) v so (ps ++ rs) := by
  refine ⟨fun b o e => ?_, h.tso, by rw [upd_same, List.map_append], fun j r' e => ?_⟩
  · rw [upd_ne (ne_of_none e h.tso)]
    exact h.ht _ _ e
  · by_cases hj : j < ps.length
    · rw [List.getElem?_append_left hj] at e
      exact h.pr j r' e
    · obtain ⟨t, rfl⟩ : ∃ t, j = ps.length + t := ⟨j - ps.length, by omega⟩
      rw [List.getElem?_append_right (by omega), Nat.add_sub_cancel_left] at e
      exact hr t r' e
end Ov
namespace Ov
open PySem PySem.Spec PyProof.Rows L2
theorem look1 (n : Str) (v : V) : ([(n, v)] : List (Str × V)).lookup n = some v := by simp [List.lookup]
section
variable {P : Program} {w : World} {K : PySem.W.Frag} {mg : Str → Option Value} {base : Heap} {C : Nat → Addr}
def spMade (C : Nat → Addr) : Sp := fun vs H Q _ => ∃ v, vs = [v] ∧ ∀ H' l (ps : List Addr), Same H H' → H' l = some (.lst (ps.map V.ref)) → ps.length = 15 → (∀ (j : Nat) (r : Addr), ps[j]? = some r → ∃ a, H' r = some (.lst [.ref a, v]) ∧ ErrAt C H' j a) → Q (.ref l) H'
theorem scMade : FnScope ["_law_value", "_law_error", "_law_some", "_law_last"] ["_law_value"] (defScope sMade) := ⟨rfl, rfl, rfl, by decide +kernel, rfl, by decide +kernel, by decide +kernel⟩
theorem ok_made {f : Addr} {fd : FuncData} {k : Nat} (F : Fun K "_law_made" "_law_made" sMade f fd) (T : Bi mg) (S : Errs K mg C) (E0 : Er P w K mg base k (C 0) "line") (E1 : Er P w K mg base k (C 1) "value") (E2 : Er P w K mg base k (C 2) "value") (E3 : Er P w K mg base k (C 3) "value") (E4 : Er P w K mg base k (C 4) "value") (E5 : Er P w K mg base k (C 5) "field") (E6 : Er P w K mg base k (C 6) "value") (E7 : Er P w K mg base k (C 7) "value") (E8 : Er P w K mg base k (C 8) "value") (E9 : Er P w K mg base k (C 9) "value") (E10 : Er P w K mg base k (C 10) "value") (E12 : Er P w K mg base k (C 12) "line") (E13 : Er P w K mg base k (C 13) "size") (E14 : Er P w K mg base k (C 14) "count")
    (x11 : PySem.W.excIn K (C 11) [.type "ValueError", .type "Exception", .type "BaseException", .type "object"] "ValueError.__new__" = true) (k11 : PySem.W.keepIn K (.ref (C 11)) = true) : FnOk P w K mg base CX0 (k + 2) f fd ["_law_value"] (spMade C) := by
  refine F.ok scMade (fun vs H Q E h => ?_) (fun cdv A' outer s H vs Q E hr h => ?_)
  · obtain ⟨v, rfl, _⟩ := h
    rfl
  · obtain ⟨v, rfl, q⟩ := h
    refine ⟨_, (pss_cons (ps_set (i := 1) scMade.nd rfl (.inl rfl) (pe_er E0 hr pass0 (by rfl) S.g0 (pa_cons (pv 0) pa_nil)))
      (pss_cons (ps_set (i := 2) scMade.nd rfl (.inl rfl) (pe_lst (pa_cons (pe_lst (pa_cons (pv 1) (pa_cons (pe_exf (pv 1)) pa_nil))) pa_nil)))
      (pss_cons (ps_for PassesOwn.never rfl (pi_tup (pe_tup (pa_cons (pe_er E1 hr pass0 (by rfl) S.g1 (pa_cons (pv 0) pa_nil)) (pa_cons (pe_er E2 hr pass0 (by rfl) S.g2 (pa_cons (pv 0) pa_nil)) (pa_cons (pe_er E3 hr pass0 (by rfl) S.g3 (pa_cons (pv 0) pa_nil)) (pa_cons (pe_er E4 hr pass0 (by rfl) S.g4 (pa_cons (pv 0) pa_nil)) pa_nil)))))) (pg_name (i := 1) scMade.nd rfl (.inl rfl)) (pss_one (ps_expr (pe_bm PySem.F.plainAttrs_list PySem.F.slot_list_append PySem.F.type_list_append mt_append (pv 2) (pa_cons (pe_lst (pa_cons (pv 1) (pa_cons (pe_exf (pv 1)) pa_nil))) pa_nil)))))
      (pss_cons (ps_set (i := 1) scMade.nd rfl (.inl rfl) (pe_er E5 hr pass0 (by rfl) S.g5 (pa_cons (pv 0) pa_nil)))
      (pss_cons (ps_expr (pe_bm PySem.F.plainAttrs_list PySem.F.slot_list_append PySem.F.type_list_append mt_append (pv 2) (pa_cons (pe_lst (pa_cons (pv 1) (pa_cons (pe_exf (pv 1)) pa_nil))) pa_nil)))
      (pss_cons (ps_for PassesOwn.never rfl (pi_tup (pe_tup (pa_cons (pe_er E6 hr pass0 (by rfl) S.g6 (pa_cons (pv 0) pa_nil)) (pa_cons (pe_er E7 hr pass0 (by rfl) S.g7 (pa_cons (pv 0) pa_nil)) (pa_cons (pe_er E8 hr pass0 (by rfl) S.g8 (pa_cons (pv 0) pa_nil)) (pa_cons (pe_er E9 hr pass0 (by rfl) S.g9 (pa_cons (pv 0) pa_nil)) pa_nil)))))) (pg_name (i := 1) scMade.nd rfl (.inl rfl)) (pss_one (ps_expr (pe_bm PySem.F.plainAttrs_list PySem.F.slot_list_append PySem.F.type_list_append mt_append (pv 2) (pa_cons (pe_lst (pa_cons (pv 1) (pa_cons (pe_exf (pv 1)) pa_nil))) pa_nil)))))
      (pss_cons (ps_par (i := 1) (j := 3) (by rfl) scMade.nd rfl rfl (by decide) rfl rfl (pa_cons (pe_er E10 hr pass0 (by rfl) S.g10 (pa_cons (pv 0) pa_nil)) (pa_cons (pe_er E12 hr pass0 (by rfl) S.g12 (pa_cons (pv 0) pa_nil)) pa_nil)) (by rfl))
      (pss_cons (ps_expr (pe_bm PySem.F.plainAttrs_list PySem.F.slot_list_extend PySem.F.type_list_extend mt_extend (pv 2) (pa_cons (pe_lst (pa_cons (pe_lst (pa_cons (pv 1) (pa_cons (pe_exf (pv 1)) pa_nil))) (pa_cons (pe_lst (pa_cons (pe_exc0V PySem.F.excBase_ValueError x11 S.g11 k11 (by rfl)) (pa_cons (pv 0) pa_nil))) (pa_cons (pe_lst (pa_cons (pv 3) (pa_cons (pe_exf (pv 3)) pa_nil))) pa_nil)))) pa_nil)))
      (pss_cons (ps_par (i := 1) (j := 3) (by rfl) scMade.nd rfl rfl (by decide) rfl rfl (pa_cons (pe_er E13 hr pass0 (by rfl) S.g13 (pa_cons (pv 0) pa_nil)) (pa_cons (pe_er E14 hr pass0 (by rfl) S.g14 (pa_cons (pv 0) pa_nil)) pa_nil)) (by rfl))
      (pss_one (ps_ret (pe_op op_cat (pv 2) (pe_lst (pa_cons (pe_lst (pa_cons (pv 1) (pa_cons (pe_exf (pv 1)) pa_nil))) (pa_cons (pe_lst (pa_cons (pv 3) (pa_cons (pe_exf (pv 3)) pa_nil))) pa_nil))))))))))))))), ?_⟩
    have st0 : Same H H := Same.refl _
    refine ⟨_, rfl, by show 1 ≤ 1000; decide, fun a0 na0 => ⟨a0, v, rfl, upd_same, fun d0 nd0 ne0 => ⟨rfl, ?_⟩⟩⟩
    obtain ⟨T0, g0, o0⟩ := mk_x (n := "line") (v := v) (j := 0) (C := C) (by decide) st0 na0 nd0 ne0
    generalize upd (upd (upd H a0 (exo a0 (C 0) none)) d0 (exd d0 [("line", v)])) a0 (exo a0 (C 0) (some d0)) = H0 at *
    obtain ⟨e0, hx0, hd0⟩ := o0.ex
    refine ⟨_, rfl, _, rfl, a0, C 0, e0, _, v, rfl, E0.xf, E0.no, g0.th _ _ hx0, g0.th _ _ hd0, look1 _ _, by show 2 ≤ sizeLine; decide, fun r0 nr0 => ⟨by show 1 ≤ sizeLine; decide, fun so nso => ?_⟩⟩
    have gr0 := g0.put (HO.lst [.ref a0, v]) nr0
    have M0 : Made C (upd T0 r0 (HO.lst [.ref a0, v])) (upd (upd H0 r0 (HO.lst [.ref a0, v])) so (.lst [.ref r0])) v so [r0] := ⟨gr0.th.trans (same_upd nso), none_of gr0.th nso, upd_same, fun j r e => by
      cases j with
      | zero => cases (Option.some.inj e); exact ⟨a0, upd_same, o0.err.same (same_upd (none_of g0.th nr0))⟩
      | succ j => simp at e⟩
    have hT0 := gr0.tt
    generalize upd T0 r0 (HO.lst [.ref a0, v]) = U0, upd (upd H0 r0 (HO.lst [.ref a0, v])) so (.lst [.ref r0]) = G0 at *
    clear g0 gr0 o0 hx0 hd0 nr0 nso na0 nd0 ne0 st0
    refine ⟨_, rfl, by show 1 ≤ 1000; decide, fun a1 na1 => ⟨a1, v, rfl, upd_same, fun d1 nd1 ne1 => ⟨rfl, ?_⟩⟩⟩
    obtain ⟨T1, g1, o1⟩ := mk_x (n := "value") (v := v) (j := 1) (C := C) (by decide) M0.ht na1 nd1 ne1
    generalize upd (upd (upd G0 a1 (exo a1 (C 1) none)) d1 (exd d1 [("value", v)])) a1 (exo a1 (C 1) (some d1)) = H1 at *
    have N1 := M0.grow g1
    refine ⟨_, rfl, by show 1 ≤ 1000; decide, fun a2 na2 => ⟨a2, v, rfl, upd_same, fun d2 nd2 ne2 => ⟨rfl, ?_⟩⟩⟩
    obtain ⟨T2, g2, o2⟩ := mk_x (n := "value") (v := v) (j := 2) (C := C) (by decide) N1.ht na2 nd2 ne2
    generalize upd (upd (upd H1 a2 (exo a2 (C 2) none)) d2 (exd d2 [("value", v)])) a2 (exo a2 (C 2) (some d2)) = H2 at *
    have N2 := N1.grow g2
    refine ⟨_, rfl, by show 1 ≤ 1000; decide, fun a3 na3 => ⟨a3, v, rfl, upd_same, fun d3 nd3 ne3 => ⟨rfl, ?_⟩⟩⟩
    obtain ⟨T3, g3, o3⟩ := mk_x (n := "value") (v := v) (j := 3) (C := C) (by decide) N2.ht na3 nd3 ne3
    generalize upd (upd (upd H2 a3 (exo a3 (C 3) none)) d3 (exd d3 [("value", v)])) a3 (exo a3 (C 3) (some d3)) = H3 at *
    have N3 := N2.grow g3
    refine ⟨_, rfl, by show 1 ≤ 1000; decide, fun a4 na4 => ⟨a4, v, rfl, upd_same, fun d4 nd4 ne4 => ⟨rfl, ?_⟩⟩⟩
    obtain ⟨T4, g4, o4⟩ := mk_x (n := "value") (v := v) (j := 4) (C := C) (by decide) N3.ht na4 nd4 ne4
    generalize upd (upd (upd H3 a4 (exo a4 (C 4) none)) d4 (exd d4 [("value", v)])) a4 (exo a4 (C 4) (some d4)) = H4 at *
    have N4 := N3.grow g4
    refine ⟨by show 4 ≤ sizeLine; decide, fun tp1 ntp1 => ?_⟩
    have gt1 := (Grow.refl N4.ht).put (HO.tup [.ref a1, .ref a2, .ref a3, .ref a4]) ntp1
    have Nt1 := N4.grow gt1
    have tpT1 : (upd T4 tp1 (HO.tup [.ref a1, .ref a2, .ref a3, .ref a4])) tp1 = some (.tup [.ref a1, .ref a2, .ref a3, .ref a4]) := upd_same
    have errs1 : ∀ (i : Nat) (x : V), ([.ref a1, .ref a2, .ref a3, .ref a4] : List V)[i]? = some x → i < 4 ∧ ∃ a, x = .ref a ∧ One C (upd T4 tp1 (HO.tup [.ref a1, .ref a2, .ref a3, .ref a4])) (1 + i) "value" v a := by
      intro i x e
      match i, e with
      | 0, e => exact ⟨by decide, a1, (Option.some.inj e).symm, o1.same (g2.tt.trans (g3.tt.trans (g4.tt.trans gt1.tt)))⟩
      | 1, e => exact ⟨by decide, a2, (Option.some.inj e).symm, o2.same (g3.tt.trans (g4.tt.trans gt1.tt))⟩
      | 2, e => exact ⟨by decide, a3, (Option.some.inj e).symm, o3.same (g4.tt.trans gt1.tt)⟩
      | 3, e => exact ⟨by decide, a4, (Option.some.inj e).symm, o4.same gt1.tt⟩
      | n + 4, e => simp at e
    have xfs1 : ∀ i, i < 4 → XfC K (C (1 + i)) ∧ PySem.W.findIn K (.ref (C (1 + i))) "value" = some none := fun i hi => match i, hi with
      | 0, _ => ⟨E1.xf, E1.no⟩
      | 1, _ => ⟨E2.xf, E2.no⟩
      | 2, _ => ⟨E3.xf, E3.no⟩
      | 3, _ => ⟨E4.xf, E4.no⟩
    have hTt1 := hT0.trans (g1.tt.trans (g2.tt.trans (g3.tt.trans (g4.tt.trans gt1.tt))))
    generalize upd T4 tp1 (HO.tup [.ref a1, .ref a2, .ref a3, .ref a4]) = Tt1, upd H4 tp1 (HO.tup [.ref a1, .ref a2, .ref a3, .ref a4]) = Ht1 at *
    refine ⟨tp1, rfl, ⟨_, SqT.of (Nt1.ht _ _ tpT1)⟩, for_tup (K := K) (a := tp1) (xs := [.ref a1, .ref a2, .ref a3, .ref a4]) (fun i σ H' => ∃ T' ps y1, σ = [some v, y1, some (.ref so), none] ∧ Same Tt1 T' ∧ Made C T' H' v so ps ∧ ps.length = 1 + i) ⟨Tt1, _, _, rfl, Same.refl _, Nt1, rfl⟩ (fun i σ H' _ ⟨_, _, _, _, s, M, _⟩ => SqT.of (M.ht _ _ (s _ _ tpT1))) ?_ ?_⟩
    · rintro i x σ H' hx ⟨T', ps, y1, rfl, sT, M, hl⟩
      obtain ⟨hi, a, rfl, O⟩ := errs1 i x hx
      obtain ⟨e, he1, he2⟩ := (O.same sT).ex
      refine ⟨_, rfl, .inl ⟨rfl, _, SqL.of M.at_⟩, _, rfl, _, rfl, a, C (1 + i), e, _, v, rfl, (xfs1 i hi).1, (xfs1 i hi).2, M.ht _ _ he1, M.ht _ _ he2, look1 _ _, by show 2 ≤ sizeLine; decide, fun r nr => ?_⟩
      have gr := (Grow.refl M.ht).put (HO.lst [.ref a, v]) nr
      have M2 := M.grow gr
      refine ⟨so, _, _, rfl, rfl, M2.at_, by rw [List.length_map, hl, sizeLine_eq]; omega, ?_⟩
      exact ⟨_, ps ++ [r], _, rfl, sT.trans gr.tt, M2.push upd_same (by rw [hl]; exact (O.same sT).err.same gr.tt), by rw [List.length_append, hl]; rfl⟩
    rintro σ K1 ⟨S1, ps1, z1, rfl, sS1, M1, hl1⟩
    have hT1 := hTt1.trans sS1
    clear errs1 Nt1 hTt1 sS1 tpT1
    refine ⟨_, rfl, by show 1 ≤ 1000; decide, fun a5 na5 => ⟨a5, v, rfl, upd_same, fun d5 nd5 ne5 => ⟨rfl, ?_⟩⟩⟩
    obtain ⟨T5, g5, o5⟩ := mk_x (n := "field") (v := v) (j := 5) (C := C) (by decide) M1.ht na5 nd5 ne5
    generalize upd (upd (upd K1 a5 (exo a5 (C 5) none)) d5 (exd d5 [("field", v)])) a5 (exo a5 (C 5) (some d5)) = H5 at *
    have N5 := M1.grow g5
    obtain ⟨e5, hx5, hd5⟩ := o5.ex
    refine ⟨_, rfl, .inl ⟨rfl, _, SqL.of N5.at_⟩, _, rfl, _, rfl, a5, C 5, e5, _, v, rfl, E5.xf, E5.no, N5.ht _ _ hx5, N5.ht _ _ hd5, look1 _ _, by show 2 ≤ sizeLine; decide, fun r5 nr5 => ?_⟩
    have gr5 := (Grow.refl N5.ht).put (HO.lst [.ref a5, v]) nr5
    have P5 := N5.grow gr5
    have hl1' : ps1.length = 5 := hl1
    refine ⟨so, _, _, rfl, rfl, P5.at_, by rw [List.length_map, hl1', sizeLine_eq]; omega, ?_⟩
    have M5 := P5.push upd_same (by rw [hl1']; exact o5.err.same gr5.tt)
    have hT5 := hT1.trans (g5.tt.trans gr5.tt)
    have hl5 : (ps1 ++ [r5]).length = 6 := by rw [List.length_append, hl1']; rfl
    generalize upd T5 r5 (HO.lst [.ref a5, v]) = T55 at *
    generalize upd (upd H5 r5 (HO.lst [.ref a5, v])) so (.lst (ps1.map V.ref ++ [.ref r5])) = G5 at *
    generalize ps1 ++ [r5] = ps5 at *
    refine ⟨_, rfl, by show 1 ≤ 1000; decide, fun a6 na6 => ⟨a6, v, rfl, upd_same, fun d6 nd6 ne6 => ⟨rfl, ?_⟩⟩⟩
    obtain ⟨T6, g6, o6⟩ := mk_x (n := "value") (v := v) (j := 6) (C := C) (by decide) M5.ht na6 nd6 ne6
    generalize upd (upd (upd G5 a6 (exo a6 (C 6) none)) d6 (exd d6 [("value", v)])) a6 (exo a6 (C 6) (some d6)) = H6 at *
    have N6 := M5.grow g6
    refine ⟨_, rfl, by show 1 ≤ 1000; decide, fun a7 na7 => ⟨a7, v, rfl, upd_same, fun d7 nd7 ne7 => ⟨rfl, ?_⟩⟩⟩
    obtain ⟨T7, g7, o7⟩ := mk_x (n := "value") (v := v) (j := 7) (C := C) (by decide) N6.ht na7 nd7 ne7
    generalize upd (upd (upd H6 a7 (exo a7 (C 7) none)) d7 (exd d7 [("value", v)])) a7 (exo a7 (C 7) (some d7)) = H7 at *
    have N7 := N6.grow g7
    refine ⟨_, rfl, by show 1 ≤ 1000; decide, fun a8 na8 => ⟨a8, v, rfl, upd_same, fun d8 nd8 ne8 => ⟨rfl, ?_⟩⟩⟩
    obtain ⟨T8, g8, o8⟩ := mk_x (n := "value") (v := v) (j := 8) (C := C) (by decide) N7.ht na8 nd8 ne8
    generalize upd (upd (upd H7 a8 (exo a8 (C 8) none)) d8 (exd d8 [("value", v)])) a8 (exo a8 (C 8) (some d8)) = H8 at *
    have N8 := N7.grow g8
    refine ⟨_, rfl, by show 1 ≤ 1000; decide, fun a9 na9 => ⟨a9, v, rfl, upd_same, fun d9 nd9 ne9 => ⟨rfl, ?_⟩⟩⟩
    obtain ⟨T9, g9, o9⟩ := mk_x (n := "value") (v := v) (j := 9) (C := C) (by decide) N8.ht na9 nd9 ne9
    generalize upd (upd (upd H8 a9 (exo a9 (C 9) none)) d9 (exd d9 [("value", v)])) a9 (exo a9 (C 9) (some d9)) = H9 at *
    have N9 := N8.grow g9
    refine ⟨by show 4 ≤ sizeLine; decide, fun tp2 ntp2 => ?_⟩
    have gt2 := (Grow.refl N9.ht).put (HO.tup [.ref a6, .ref a7, .ref a8, .ref a9]) ntp2
    have Nt2 := N9.grow gt2
    have tpT2 : (upd T9 tp2 (HO.tup [.ref a6, .ref a7, .ref a8, .ref a9])) tp2 = some (.tup [.ref a6, .ref a7, .ref a8, .ref a9]) := upd_same
    have errs2 : ∀ (i : Nat) (x : V), ([.ref a6, .ref a7, .ref a8, .ref a9] : List V)[i]? = some x → i < 4 ∧ ∃ a, x = .ref a ∧ One C (upd T9 tp2 (HO.tup [.ref a6, .ref a7, .ref a8, .ref a9])) (6 + i) "value" v a := by
      intro i x e
      match i, e with
      | 0, e => exact ⟨by decide, a6, (Option.some.inj e).symm, o6.same (g7.tt.trans (g8.tt.trans (g9.tt.trans gt2.tt)))⟩
      | 1, e => exact ⟨by decide, a7, (Option.some.inj e).symm, o7.same (g8.tt.trans (g9.tt.trans gt2.tt))⟩
      | 2, e => exact ⟨by decide, a8, (Option.some.inj e).symm, o8.same (g9.tt.trans gt2.tt)⟩
      | 3, e => exact ⟨by decide, a9, (Option.some.inj e).symm, o9.same gt2.tt⟩
      | n + 4, e => simp at e
    have xfs2 : ∀ i, i < 4 → XfC K (C (6 + i)) ∧ PySem.W.findIn K (.ref (C (6 + i))) "value" = some none := fun i hi => match i, hi with
      | 0, _ => ⟨E6.xf, E6.no⟩
      | 1, _ => ⟨E7.xf, E7.no⟩
      | 2, _ => ⟨E8.xf, E8.no⟩
      | 3, _ => ⟨E9.xf, E9.no⟩
    have hTt2 := hT5.trans (g6.tt.trans (g7.tt.trans (g8.tt.trans (g9.tt.trans gt2.tt))))
    generalize upd T9 tp2 (HO.tup [.ref a6, .ref a7, .ref a8, .ref a9]) = Tt2, upd H9 tp2 (HO.tup [.ref a6, .ref a7, .ref a8, .ref a9]) = Ht2 at *
    refine ⟨tp2, rfl, ⟨_, SqT.of (Nt2.ht _ _ tpT2)⟩, for_tup (K := K) (a := tp2) (xs := [.ref a6, .ref a7, .ref a8, .ref a9]) (fun i σ H' => ∃ T' ps y1, σ = [some v, y1, some (.ref so), none] ∧ Same Tt2 T' ∧ Made C T' H' v so ps ∧ ps.length = 6 + i) ⟨Tt2, _, _, rfl, Same.refl _, Nt2, hl5⟩ (fun i σ H' _ ⟨_, _, _, _, s, M, _⟩ => SqT.of (M.ht _ _ (s _ _ tpT2))) ?_ ?_⟩
    · rintro i x σ H' hx ⟨T', ps, y1, rfl, sT, M, hl⟩
      obtain ⟨hi, a, rfl, O⟩ := errs2 i x hx
      obtain ⟨e, he1, he2⟩ := (O.same sT).ex
      refine ⟨_, rfl, .inl ⟨rfl, _, SqL.of M.at_⟩, _, rfl, _, rfl, a, C (6 + i), e, _, v, rfl, (xfs2 i hi).1, (xfs2 i hi).2, M.ht _ _ he1, M.ht _ _ he2, look1 _ _, by show 2 ≤ sizeLine; decide, fun r nr => ?_⟩
      have gr := (Grow.refl M.ht).put (HO.lst [.ref a, v]) nr
      have M2 := M.grow gr
      refine ⟨so, _, _, rfl, rfl, M2.at_, by rw [List.length_map, hl, sizeLine_eq]; omega, ?_⟩
      exact ⟨_, ps ++ [r], _, rfl, sT.trans gr.tt, M2.push upd_same (by rw [hl]; exact (O.same sT).err.same gr.tt), by rw [List.length_append, hl]; rfl⟩
    rintro σ K2 ⟨S2, ps2, z2, rfl, sS2, M2, hl2⟩
    have hT2 := hTt2.trans sS2
    clear errs2 Nt2 hTt2 sS2 tpT2
    have hl2' : ps2.length = 10 := hl2
    refine ⟨_, rfl, by show 1 ≤ 1000; decide, fun a10 na10 => ⟨a10, v, rfl, upd_same, fun d10 nd10 ne10 => ⟨rfl, ?_⟩⟩⟩
    obtain ⟨T10, g10, o10⟩ := mk_x (n := "value") (v := v) (j := 10) (C := C) (by decide) M2.ht na10 nd10 ne10
    generalize upd (upd (upd K2 a10 (exo a10 (C 10) none)) d10 (exd d10 [("value", v)])) a10 (exo a10 (C 10) (some d10)) = H10 at *
    have N10 := M2.grow g10
    refine ⟨_, rfl, by show 1 ≤ 1000; decide, fun a12 na12 => ⟨a12, v, rfl, upd_same, fun d12 nd12 ne12 => ⟨rfl, ?_⟩⟩⟩
    obtain ⟨T12, g12, o12⟩ := mk_x (n := "line") (v := v) (j := 12) (C := C) (by decide) N10.ht na12 nd12 ne12
    generalize upd (upd (upd H10 a12 (exo a12 (C 12) none)) d12 (exd d12 [("line", v)])) a12 (exo a12 (C 12) (some d12)) = H12 at *
    have N12 := N10.grow g12
    have o10 := o10.same g12.tt
    have hT12 := hT2.trans (g10.tt.trans g12.tt)
    refine ⟨_, _, rfl, ?_⟩
    obtain ⟨e10, hx10, hd10⟩ := o10.ex
    refine ⟨_, rfl, .inl ⟨rfl, _, SqL.of N12.at_⟩, _, rfl, _, rfl, a10, C 10, e10, _, v, rfl, E10.xf, E10.no, N12.ht _ _ hx10, N12.ht _ _ hd10, look1 _ _, by show 2 ≤ sizeLine; decide, fun r10 nr10 => ?_⟩
    have pa := (Grow.refl N12.ht).put (HO.lst [.ref a10, v]) nr10
    have Ma := N12.grow pa
    have wa : upd T12 r10 (HO.lst [.ref a10, v]) r10 = some (HO.lst [.ref a10, v]) := upd_same
    have o10 := o10.same pa.tt
    have o12 := o12.same pa.tt
    have hTTa := pa.tt
    generalize upd T12 r10 (HO.lst [.ref a10, v]) = Ta, upd H12 r10 (HO.lst [.ref a10, v]) = Ha at *
    refine fun a11 na11 => ?_
    have pb := (Grow.refl Ma.ht).put (exo a11 (C 11) none) na11
    have Mb := Ma.grow pb
    have wb : upd Ta a11 (exo a11 (C 11) none) a11 = some (exo a11 (C 11) none) := upd_same
    have o10 := o10.same pb.tt
    have o12 := o12.same pb.tt
    have wa := pb.tt _ _ wa
    have hTTb := pb.tt
    generalize upd Ta a11 (exo a11 (C 11) none) = Tb, upd Ha a11 (exo a11 (C 11) none) = Hb at *
    refine ⟨_, rfl, by show 2 ≤ sizeLine; decide, fun r11 nr11 => ?_⟩
    have pc := (Grow.refl Mb.ht).put (HO.lst [.ref a11, v]) nr11
    have Mc := Mb.grow pc
    have wc : upd Tb r11 (HO.lst [.ref a11, v]) r11 = some (HO.lst [.ref a11, v]) := upd_same
    have o10 := o10.same pc.tt
    have o12 := o12.same pc.tt
    have wa := pc.tt _ _ wa
    have wb := pc.tt _ _ wb
    have hTTc := pc.tt
    generalize upd Tb r11 (HO.lst [.ref a11, v]) = Tc, upd Hb r11 (HO.lst [.ref a11, v]) = Hc at *
    obtain ⟨e12, hx12, hd12⟩ := o12.ex
    refine ⟨_, rfl, _, rfl, a12, C 12, e12, _, v, rfl, E12.xf, E12.no, Mc.ht _ _ hx12, Mc.ht _ _ hd12, look1 _ _, by show 2 ≤ sizeLine; decide, fun r12 nr12 => ?_⟩
    have pd := (Grow.refl Mc.ht).put (HO.lst [.ref a12, v]) nr12
    have Md := Mc.grow pd
    have wd : upd Tc r12 (HO.lst [.ref a12, v]) r12 = some (HO.lst [.ref a12, v]) := upd_same
    have o10 := o10.same pd.tt
    have o12 := o12.same pd.tt
    have wa := pd.tt _ _ wa
    have wb := pd.tt _ _ wb
    have wc := pd.tt _ _ wc
    have hTTd := pd.tt
    generalize upd Tc r12 (HO.lst [.ref a12, v]) = Td, upd Hc r12 (HO.lst [.ref a12, v]) = Hd at *
    refine ⟨by show 3 ≤ sizeLine; decide, fun li nli => ?_⟩
    have pe := (Grow.refl Md.ht).put (HO.lst [.ref r10, .ref r11, .ref r12]) nli
    have Me := Md.grow pe
    have we : upd Td li (HO.lst [.ref r10, .ref r11, .ref r12]) li = some (HO.lst [.ref r10, .ref r11, .ref r12]) := upd_same
    have o10 := o10.same pe.tt
    have o12 := o12.same pe.tt
    have wa := pe.tt _ _ wa
    have wb := pe.tt _ _ wb
    have wc := pe.tt _ _ wc
    have wd := pe.tt _ _ wd
    have hTTe := pe.tt
    generalize upd Td li (HO.lst [.ref r10, .ref r11, .ref r12]) = Te, upd Hd li (HO.lst [.ref r10, .ref r11, .ref r12]) = He at *
    refine ⟨so, li, _, _, rfl, rfl, Me.at_, Me.ht _ _ we, by rw [List.length_map, hl2', sizeLine_eq]; show 10 + 3 ≤ _; omega, ?_⟩
    have M3 := Me.pushL (rs := [r10, r11, r12]) (fun i r e => by
      rw [hl2']
      match i, e with
      | 0, e => cases (Option.some.inj e); exact ⟨a10, wa, o10.err⟩
      | 1, e => cases (Option.some.inj e); exact ⟨a11, wc, by decide, none, wb, fun _ z => nomatch z⟩
      | 2, e => cases (Option.some.inj e); exact ⟨a12, wd, o12.err⟩
      | n + 3, e => simp at e)
    have hT3 := hT12.trans (hTTa.trans (hTTb.trans (hTTc.trans (hTTd.trans hTTe))))
    have hl3 : (ps2 ++ [r10, r11, r12]).length = 13 := by rw [List.length_append, hl2']; rfl
    replace M3 : Made C Te (upd He so (.lst (ps2.map V.ref ++ [.ref r10, .ref r11, .ref r12]))) v so (ps2 ++ [r10, r11, r12]) := M3
    generalize upd He so (.lst (ps2.map V.ref ++ [.ref r10, .ref r11, .ref r12])) = G3 at *
    generalize ps2 ++ [r10, r11, r12] = ps3 at *
    refine ⟨_, rfl, by show 1 ≤ 1000; decide, fun a13 na13 => ⟨a13, v, rfl, upd_same, fun d13 nd13 ne13 => ⟨rfl, ?_⟩⟩⟩
    obtain ⟨T13, g13, o13⟩ := mk_x (n := "size") (v := v) (j := 13) (C := C) (by decide) M3.ht na13 nd13 ne13
    generalize upd (upd (upd G3 a13 (exo a13 (C 13) none)) d13 (exd d13 [("size", v)])) a13 (exo a13 (C 13) (some d13)) = H13 at *
    have N13 := M3.grow g13
    refine ⟨_, rfl, by show 1 ≤ 1000; decide, fun a14 na14 => ⟨a14, v, rfl, upd_same, fun d14 nd14 ne14 => ⟨rfl, ?_⟩⟩⟩
    obtain ⟨T14, g14, o14⟩ := mk_x (n := "count") (v := v) (j := 14) (C := C) (by decide) N13.ht na14 nd14 ne14
    generalize upd (upd (upd H13 a14 (exo a14 (C 14) none)) d14 (exd d14 [("count", v)])) a14 (exo a14 (C 14) (some d14)) = H14 at *
    have N14 := N13.grow g14
    have o13 := o13.same g14.tt
    have hT14 := hT3.trans (g13.tt.trans g14.tt)
    refine ⟨_, _, rfl, ?_⟩
    obtain ⟨e13, hx13, hd13⟩ := o13.ex
    refine ⟨_, rfl, _, rfl, _, rfl, a13, C 13, e13, _, v, rfl, E13.xf, E13.no, N14.ht _ _ hx13, N14.ht _ _ hd13, look1 _ _, by show 2 ≤ sizeLine; decide, fun r13 nr13 => ?_⟩
    have pf := (Grow.refl N14.ht).put (HO.lst [.ref a13, v]) nr13
    have Mf := N14.grow pf
    have wf : upd T14 r13 (HO.lst [.ref a13, v]) r13 = some (HO.lst [.ref a13, v]) := upd_same
    have o13 := o13.same pf.tt
    have o14 := o14.same pf.tt
    have hTTf := pf.tt
    generalize upd T14 r13 (HO.lst [.ref a13, v]) = Tf, upd H14 r13 (HO.lst [.ref a13, v]) = Hf at *
    obtain ⟨e14, hx14, hd14⟩ := o14.ex
    refine ⟨_, rfl, _, rfl, a14, C 14, e14, _, v, rfl, E14.xf, E14.no, Mf.ht _ _ hx14, Mf.ht _ _ hd14, look1 _ _, by show 2 ≤ sizeLine; decide, fun r14 nr14 => ?_⟩
    have pg := (Grow.refl Mf.ht).put (HO.lst [.ref a14, v]) nr14
    have Mg := Mf.grow pg
    have wg : upd Tf r14 (HO.lst [.ref a14, v]) r14 = some (HO.lst [.ref a14, v]) := upd_same
    have o13 := o13.same pg.tt
    have o14 := o14.same pg.tt
    have wf := pg.tt _ _ wf
    have hTTg := pg.tt
    generalize upd Tf r14 (HO.lst [.ref a14, v]) = Tg, upd Hf r14 (HO.lst [.ref a14, v]) = Hg at *
    refine ⟨by show 2 ≤ sizeLine; decide, fun lj nlj => ?_⟩
    have ph := (Grow.refl Mg.ht).put (HO.lst [.ref r13, .ref r14]) nlj
    have Mh := Mg.grow ph
    have wh : upd Tg lj (HO.lst [.ref r13, .ref r14]) lj = some (HO.lst [.ref r13, .ref r14]) := upd_same
    have o13 := o13.same ph.tt
    have o14 := o14.same ph.tt
    have wf := ph.tt _ _ wf
    have wg := ph.tt _ _ wg
    have hTTh := ph.tt
    generalize upd Tg lj (HO.lst [.ref r13, .ref r14]) = Th, upd Hg lj (HO.lst [.ref r13, .ref r14]) = Hh at *
    refine ⟨so, lj, _, _, rfl, rfl, Mh.at_, Mh.ht _ _ wh, by rw [List.length_map, hl3, sizeLine_eq]; show 13 + 2 ≤ _; omega, fun re nre => ?_⟩
    have sf := Mh.ht.trans (same_upd (o := HO.lst (ps3.map V.ref ++ [.ref r13, .ref r14])) nre)
    have hT15 := hT14.trans (hTTf.trans (hTTg.trans hTTh))
    refine q _ re (ps3 ++ [r13, r14]) (hT15.trans sf) (by rw [upd_same, List.map_append]; rfl) (by rw [List.length_append, hl3]; rfl) fun j r e => ?_
    by_cases hj : j < ps3.length
    · rw [List.getElem?_append_left hj] at e
      obtain ⟨a, h1, h2⟩ := Mh.pr j r e
      exact ⟨a, sf _ _ h1, h2.same sf⟩
    · obtain ⟨t, rfl⟩ : ∃ t, j = ps3.length + t := ⟨j - ps3.length, by omega⟩
      rw [List.getElem?_append_right (by omega), Nat.add_sub_cancel_left] at e
      rw [hl3]
      match t, e with
      | 0, e => cases (Option.some.inj e); exact ⟨a13, sf _ _ wf, o13.err.same sf⟩
      | 1, e => cases (Option.some.inj e); exact ⟨a14, sf _ _ wg, o14.err.same sf⟩
      | n + 2, e => simp at e
end
end Ov
namespace Ov
open PySem PySem.Spec PyProof.Rows L2
/-! ### lists of data put together -/
theorem showableAll_app : ∀ a b : List PyData, PyData.showableAll (a ++ b) = (PyData.showableAll a && PyData.showableAll b)
  | [], b => by simp [PyData.showableAll]
  | x :: a, b => by simp [PyData.showableAll, showableAll_app a b, Bool.and_assoc]
theorem hasDictAll_app : ∀ a b : List PyData, PyData.hasDictAll (a ++ b) = (PyData.hasDictAll a || PyData.hasDictAll b)
  | [], b => by simp [PyData.hasDictAll]
  | x :: a, b => by simp [PyData.hasDictAll, hasDictAll_app a b, Bool.or_assoc]
theorem noListAll_app : ∀ a b : List PyData, noListAll (a ++ b) = (noListAll a && noListAll b)
  | [], b => by simp [noListAll]
  | x :: a, b => by simp [noListAll, noListAll_app a b, Bool.and_assoc]
theorem depthAll_app : ∀ a b : List PyData, PyData.depthAll (a ++ b) = max (PyData.depthAll a) (PyData.depthAll b)
  | [], b => by simp [PyData.depthAll]
  | x :: a, b => by simp [PyData.depthAll, depthAll_app a b] <;> omega
theorem nodesAll_app : ∀ a b : List PyData, nodesAll (a ++ b) = nodesAll a + nodesAll b
  | [], b => by simp [nodesAll]
  | x :: a, b => by simp [nodesAll, nodesAll_app a b] <;> omega
theorem noListAll_ints : ∀ ns : List Int, noListAll (ns.map PyData.int) = true
  | [] => by simp [noListAll]
  | n :: ns => by simp [noListAll, noList, noListAll_ints ns]
/-- what can be shown as a part -/
structure ShowsAll (ds : List PyData) (n : Nat) : Prop where
  sh : PyData.showableAll ds = true
  nl : PyData.hasDictAll ds = true → noListAll ds = true
  dep : PyData.depthAll ds ≤ 50
  nd : nodesAll ds ≤ n
theorem ShowsAll.tup {ds : List PyData} {n : Nat} (h : ShowsAll ds n) (hn : n ≤ 7999) : Shows (.tuple ds) :=
  ⟨by simp only [PyData.showable]; exact h.sh, fun z => by simp only [noList]; exact h.nl (by simpa only [PyData.hasDict] using z), by simp only [PyData.depth]; have := h.dep; omega, by simp only [nodes]; have := h.nd; omega⟩
theorem ints_show {ns : List Int} (h : ∀ n ∈ ns, n.natAbs < 2 ^ 1000) : ShowsAll (ns.map PyData.int) ns.length := by
  have f := flat_ints h
  exact ⟨f.sh, fun _ => noListAll_ints _, by rw [f.dep]; decide, by rw [f.nds, List.length_map]; exact Nat.le_refl _⟩
/-- ints, a thing, ints -/
theorem odd_show {a b : List Int} {d : PyData} (ha : ∀ n ∈ a, n.natAbs < 2 ^ 1000) (hb : ∀ n ∈ b, n.natAbs < 2 ^ 1000) (S : Shows d) (dep : d.depth ≤ 50) : ShowsAll (a.map PyData.int ++ [d] ++ b.map PyData.int) (a.length + nodes d + b.length) := by
  have fa := flat_ints ha
  have fb := flat_ints hb
  refine ⟨?_, fun z => ?_, ?_, ?_⟩
  · rw [showableAll_app, showableAll_app, fa.sh, fb.sh]
    simp [PyData.showableAll, S.sh]
  · rw [hasDictAll_app, hasDictAll_app, fa.nod, fb.nod] at z
    have z' : d.hasDict = true := by simpa [PyData.hasDictAll] using z
    rw [noListAll_app, noListAll_app, noListAll_ints, noListAll_ints]
    simp [noListAll, S.nl z']
  · rw [depthAll_app, depthAll_app, fa.dep, fb.dep]
    simp [PyData.depthAll]
    omega
  · rw [nodesAll_app, nodesAll_app, fa.nds, fb.nds]
    simp [nodesAll]
theorem shows_int {i : Int} (h : i.natAbs < 2 ^ 1000) : Shows (.int i) := by
  have f := flat_ints (ns := [i]) (fun n hn => by rw [List.mem_singleton.mp hn]; exact h)
  refine ⟨by have := f.sh; simpa [PyData.showableAll] using this, fun z => by simp [PyData.hasDict] at z, by simp [PyData.depth], by simp [nodes]⟩
theorem shows_bool (b : Bool) : Shows (.bool b) := ⟨by simp [PyData.showable], fun z => by simp [PyData.hasDict] at z, by simp [PyData.depth], by simp [nodes]⟩
theorem shows_none : Shows .none := ⟨by simp [PyData.showable], fun z => by simp [PyData.hasDict] at z, by simp [PyData.depth], by simp [nodes]⟩
theorem shows_str {x : Str} (h : (reprText x).length ≤ 100) : Shows (.str x) := ⟨by simp [PyData.showable], fun z => by simp [PyData.hasDict] at z, by simp [PyData.depth], by simp [nodes]; omega⟩
theorem dict0_nodes : nodes (.dict []) ≤ 100 := by
  simp only [nodes, PyData.shownKv]
  decide +kernel
theorem shows_dict : Shows (.dict []) := ⟨by simp [PyData.showable, PyData.showableKv], fun _ => by simp [noList], by simp [PyData.depth, PyData.depthKv], Nat.le_trans dict0_nodes (by decide)⟩
theorem shows_nil : Shows (.list []) := ⟨by simp [PyData.showable, PyData.showableAll], fun z => by simp [PyData.hasDict, PyData.hasDictAll] at z, by simp [PyData.depth, PyData.depthAll], by simp [nodes, nodesAll]⟩
/-- parts of tuples -/
theorem cut_from (k : Nat) (xs : List V) : cutV xs (some (k : Int)) none = xs.drop k := by
  unfold cutV
  rw [show HT.sIx xs.length 0 (some (k : Int)) = min k xs.length from HT.sIx_nat xs.length 0 k, HT.sIx_none]
  rcases Nat.le_total k xs.length with c | c
  · rw [Nat.min_eq_left c]
    exact List.take_of_length_le (by rw [List.length_drop]; exact Nat.le_refl _)
  · rw [Nat.min_eq_right c, List.drop_of_length_le c, List.drop_of_length_le (Nat.le_refl _), List.take_nil]
theorem cut_to (k : Nat) (xs : List V) : cutV xs none (some (k : Int)) = xs.take k := by
  unfold cutV
  rw [show HT.sIx xs.length xs.length (some (k : Int)) = min k xs.length from HT.sIx_nat xs.length xs.length k, HT.sIx_none, List.drop_zero, Nat.sub_zero]
  rcases Nat.le_total k xs.length with c | c
  · rw [Nat.min_eq_left c]
  · rw [Nat.min_eq_right c, List.take_length, List.take_of_length_le c]
theorem cut_all {xs : List V} {lo hi : Option Int} (h : HT.sIx xs.length 0 lo = 0 ∧ HT.sIx xs.length xs.length hi = xs.length) : cutV xs lo hi = xs := by
  unfold cutV
  rw [h.1, h.2, List.drop_zero, Nat.sub_zero, List.take_length]
section
variable {K : PySem.W.Frag} {T H : Hp} {Q : VK}
theorem cat_x {a b : Addr} {xs ys : List V} (st : Same T H) (ha : SqT K T a xs) (hb : SqT K T b ys) (hl : xs.length + ys.length ≤ sizeLine) (q : ∀ l H' T', Grow T H T' H' → SqT K T' l (xs ++ ys) → Q (.ref l) H') : rCatA K (.ref a) (.ref b) H Q := by
  refine ⟨a, b, xs, ys, rfl, rfl, st.tup ha, st.tup hb, hl, fun e => ?_, fun _ e => ?_, fun _ _ p np => ?_⟩
  · subst e
    exact q b H T (.refl st) hb
  · subst e
    exact q a H T (.refl st) (by rw [List.append_nil]; exact ha)
  · exact q p _ _ ((Grow.refl st).put _ np) (SqT.of upd_same)
theorem cut_x {a : Addr} {xs : List V} {lo hi : Option Int} (st : Same T H) (ha : SqT K T a xs) (q : ∀ l H' T', Grow T H T' H' → SqT K T' l (cutV xs lo hi) → Q (.ref l) H') : rSlA K (.ref a) lo hi H Q := by
  refine ⟨a, xs, rfl, st.tup ha, fun e => ?_, fun _ p np => ?_⟩
  · exact q a H T (.refl st) (by rw [cut_all e]; exact ha)
  · exact q p _ _ ((Grow.refl st).put _ np) (SqT.of upd_same)
end
end Ov
namespace Ov
open PySem PySem.Spec PyProof.Rows L2
theorem dp_bools {K : PySem.W.Frag} {H : Hp} : ∀ bs : List Bool, DpAll K H (bs.map V.bl) (bs.map PyData.bool)
  | [] => .nil
  | b :: bs => .cons (.bl b) (dp_bools bs)
theorem eqv_bools (bs : List Bool) : PyData.eqv (.list (bs.map PyData.bool)) (.list (bs.map PyData.bool)) = true := by
  simp only [PyData.eqv]
  induction bs with
  | nil => simp [PyData.eqvAll]
  | cons b bs ih => rw [List.map_cons]; simp only [PyData.eqvAll, PyData.eqv]; rw [ih]; simp
theorem shaped_bools (bs : List Bool) : SeqAt.shaped (.list (bs.map PyData.bool)) = true := by
  have h : PyData.canLayAll0 (bs.map PyData.bool) = true ∧ PyData.depthAll (bs.map PyData.bool) = 0 := by
    induction bs with
    | nil => exact ⟨by simp [PyData.canLayAll0], by simp [PyData.depthAll]⟩
    | cons b bs ih => exact ⟨by rw [List.map_cons]; simp [PyData.canLayAll0, PyData.canLay0, ih.1], by rw [List.map_cons]; simp [PyData.depthAll, PyData.depth, ih.2]⟩
  refine Bool.and_eq_true_iff.mpr ⟨?_, decide_eq_true ?_⟩
  · simp only [PyData.canLay0]; exact h.1
  · simp only [PyData.depth]; rw [h.2]; decide
section
variable {P : Program} {w : World} {K : PySem.W.Frag} {mg : Str → Option Value} {base : Heap} {C : Nat → Addr}
def spLaw (K : PySem.W.Frag) : Sp := fun vs H Q _ => ∃ (a : Addr) (ns : List Int), vs = [.ref a] ∧ SqL K H a (ns.map V.int) ∧ ns.length ≤ 63 ∧ ∀ H', Q (.bl true) H'
theorem scLaw : FnScope ["_law_script", "_law_k", "_law_box_here", "_law_value", "_law_at", "_law_pair", "_law_error", "_law_told", "_law_other"] ["_law_script"] (defScope sLaw) := ⟨rfl, rfl, rfl, by decide +kernel, rfl, by decide +kernel, by decide +kernel⟩
theorem ok_law {f fB fT fK fM : Addr} {fd fdB fdT fdK fdM : FuncData} {k : Nat} (F : Fun K "law" "law" sLaw f fd) (T : Bi mg) (S : Errs K mg C)
    (x15 : PySem.W.excIn K (C 15) [.type "ValueError", .type "Exception", .type "BaseException", .type "object"] "ValueError.__new__" = true) (k15 : PySem.W.keepIn K (.ref (C 15)) = true)
    (B : Def K mg "_law_box" sBox fB fdB ["_law_script", "_law_k"]) (GB : FnOk P w K mg base CX0 k fB fdB ["_law_script", "_law_k"] (spBox K))
    (Tk : Def K mg "_law_take" sTake fT fdT ["_law_box_here", "_law_many"]) (GT : FnOk P w K mg base CX0 k fT fdT ["_law_box_here", "_law_many"] spTake)
    (Kd : Def K mg "_law_kinds" sKinds fK fdK ["_law_error"]) (GK : FnOk P w K mg base CX0 k fK fdK ["_law_error"] (spKinds C))
    (Md : Def K mg "_law_made" sMade fM fdM ["_law_value"]) (GM : FnOk P w K mg base CX0 k fM fdM ["_law_value"] (spMade C)) :
    FnG P w K mg base (k + 1) f fd ["_law_script"] (spLaw K) := by
  refine okG F scLaw (fun vs H Q E h => ?_) (fun cdv A' outer s H vs Q E gd hr h => ?_)
  · obtain ⟨a, ns, rfl, _⟩ := h
    rfl
  · obtain ⟨a, ns, rfl, hS, hlen, q⟩ := h
    refine ⟨_, pss_cons (ps_if (pt_cmpR op_in_seq pe_bl (pe_call GK hr (by rfl) Kd.gl Kd.fn.kp Kd.bi .nil pass0 (pa_cons (pe_exc0V PySem.F.excBase_ValueError x15 S.g15 k15 (by rfl)) pa_nil)) (by rfl)) (pss_one (ps_ret pe_bl)) pss_nil)
      (pss_cons (ps_for PassesOwn.never rfl (pi_range1 (by rfl) T.range (pa_cons (pe_op op_add pe_int (pe_callB (call_min2 rfl) (by rfl) T.min (by decide +kernel) (pa_cons pe_int (pa_cons (pe_callB call_len_seq (by rfl) T.len PySem.boot_len (pa_cons (pv 0) pa_nil)) pa_nil)))) pa_nil)) (pg_name (i := 1) scLaw.nd rfl (.inl rfl))
        (pss_cons (ps_set (i := 2) scLaw.nd rfl (.inl rfl) (pe_call GB hr (by rfl) B.gl B.fn.kp B.bi .nil pass0 (pa_cons (pv 0) (pa_cons (pv 1) pa_nil))))
        (pss_one (ps_for PassesOwn.never rfl (pi_list (pe_lst (pa_cons pe_non (pa_cons pe_bl (pa_cons (pe_call GT hr (by rfl) Tk.gl Tk.fn.kp Tk.bi .nil pass0 (pa_cons (pv 2) (pa_cons (pe_op op_pow pe_int pe_int) pa_nil))) (pa_cons pe_str (pa_cons pe_str (pa_cons (pe_tup pa_nil) (pa_cons (pe_lst pa_nil) (pa_cons pe_dnewK (pa_cons (pe_tup (pa_cons (pe_tup (pa_cons pe_int (pa_cons pe_non pa_nil))) pa_nil)) (pa_cons (pe_un un_neg pe_int) pa_nil)))))))))))) (pg_name (i := 3) scLaw.nd rfl (.inl rfl))
          (pss_one (ps_for PassesOwn.never rfl (pi_enum (by rfl) T.enumerate (pa_cons (pe_call GM hr (by rfl) Md.gl Md.fn.kp Md.bi .nil pass0 (pa_cons (pv 3) pa_nil)) pa_nil)) (pg_tup rfl (pgs_cons (pg_name (i := 4) scLaw.nd rfl (.inr rfl)) (pgs_cons (pg_name (i := 5) scLaw.nd rfl (.inl rfl)) pgs_nil)))
            (pss_cons (ps_asg (pv 5) (pg_lst rfl (pgs_cons (pg_name (i := 6) scLaw.nd rfl (.inl rfl)) (pgs_cons (pg_name (i := 7) scLaw.nd rfl (.inl rfl)) pgs_nil))))
            (pss_cons (ps_if (PW.pt (pw_or (pt_cmpR (op_neD hr.units) (pe_call GK hr (by rfl) Kd.gl Kd.fn.kp Kd.bi .nil pass0 (pa_cons (pv 6) pa_nil))
                (pe_lc (own := [("_law_other", 8)]) (g := gName 8) (tt := tYes) (by rfl) scLaw.nd (pi_range1 (by rfl) T.range (pa_cons pe_int pa_nil))
                  (blkOk_by (own := [("_law_other", 8)]) (N := ["_law_script", "_law_k", "_law_box_here", "_law_value", "_law_at", "_law_pair", "_law_error", "_law_told", "_law_other"]) (sc := defScope sLaw) (by decide +kernel))
                  (fun _ _ _ _ _ => pg_name (i := 8) scLaw.nd rfl (Or.inl rfl)) (fun _ _ _ _ _ => pts_nil) (fun _ _ _ _ _ => pe_cmpR op_eq (pv 4) (pv 8) (nomark _))) (nomark _))
              (pw_or1 (pt_cmpR op_ne (pe_callB (call_repr_x gd hr) (by rfl) T.repr (by decide +kernel) (pa_cons (pv 7) pa_nil)) (pe_callB (call_repr_x gd hr) (by rfl) T.repr (by decide +kernel) (pa_cons (pv 3) pa_nil)) (nomark _))))) (pss_one (ps_ret pe_bl)) pss_nil)
            (pss_one (ps_if (PW.pt (pw_or (pt_not (pt_val (pe_callB call_isX (by rfl) T.isi (by decide +kernel) (pa_cons (pv 6) (pa_cons (pe_glob (v := .ref (C 15)) (by rfl) S.g15 rfl) pa_nil)))))
              (pw_or1 (pt_not (pt_val (pe_callB call_isX (by rfl) T.isi (by decide +kernel) (pa_cons (pv 6) (pa_cons (pe_bltn (v := .ty "ValueError") (u := .type "ValueError") (by rfl) T.vErr (by decide +kernel) rfl) pa_nil)))))))) (pss_one (ps_ret pe_bl)) pss_nil))))))))))
      (pss_one (ps_ret pe_bl))), ?_⟩
    have k15f : inV (.bl true) (kindsV 15) = false := by decide +kernel
    have flt : ∀ i, (kindsV i).all flatV = true := fun i => by
      rw [List.all_eq_true]
      intro x hx
      obtain ⟨j, _, rfl⟩ := List.mem_map.mp hx
      rfl
    -- OverlapError itself
    refine fun e ne => ⟨e, 15, rfl, ⟨by decide, none, upd_same, fun _ z => nomatch z⟩, fun H1 l1 s1 nl1 hl1 => ?_⟩
    refine ⟨l1, _, rfl, .inl (SqL.of hl1), rfl, flt 15, _, rfl, ?_⟩
    rw [if_neg (by decide), k15f]
    have s01 : Same H H1 := (same_upd ne).trans s1
    clear s1 nl1 hl1 ne
    refine iteF ⟨_, rfl, a, _, rfl, .inl (s01.seq hS), _, _, rfl, _, _, rfl, rfl, _, rfl, ?_, ?_, for_range (lo := 0) (fun i σ H2 => ∃ y1 y2 y3 y4 y5 y6 y7 y8, σ = [some (.ref a), y1, y2, y3, y4, y5, y6, y7, y8] ∧ Same H H2)
      ⟨none, none, none, none, none, none, none, none, rfl, s01⟩ ?_ (fun σ H2 ⟨_, _, _, _, _, _, _, _, _, _⟩ => q H2)⟩
    · split <;> omega
    · split <;> omega
    rintro i σ H2 hi ⟨y1, y2, y3, y4, y5, y6, y7, y8, rfl, s2⟩
    have hi4 : i < 4 := by
      revert hi
      split <;> omega
    refine ⟨_, rfl, _, rfl, a, ns, i, (by rw [Int.zero_add]; rfl), s2.seq hS, by omega, fun H3 p s3 np B3 => ?_⟩
    -- the values
    refine ⟨_, rfl, _, _, rfl, rfl, ⟨by decide, by decide, by decide⟩, p, _, 0, rfl, B3, by decide, by decide, by decide, fun H4 d b4 B4 d0 d1 f4 => ?_⟩
    have s24 : Same H2 H4 := fun b o e => b4 b o (s3 b o e) (ne_of_none e np)
    refine ⟨by show 0 ≤ sizeLine; decide, fun t1 n1 => ?_⟩
    have e1 := same_upd (o := HO.tup []) n1
    have D1 : Dx K (upd H4 t1 (HO.tup [])) (.ref t1) (.tuple []) := .tup (SqT.of upd_same) .nil
    generalize upd H4 t1 (HO.tup []) = H5 at *
    refine ⟨by show 0 ≤ sizeLine; decide, fun t2 n2 => ?_⟩
    have e2 := same_upd (o := HO.lst []) n2
    have D2 : Dx K (upd H5 t2 (HO.lst [])) (.ref t2) (.list []) := .lst (SqL.of upd_same) .nil
    generalize upd H5 t2 (HO.lst []) = H6 at *
    refine fun t3 n3 => ?_
    have e3 := same_upd (o := HO.dK []) n3
    have D3 : Dx K (upd H6 t3 (HO.dK [])) (.ref t3) (.dict []) := .dct upd_same
    generalize upd H6 t3 (HO.dK []) = H7 at *
    refine ⟨by show 2 ≤ sizeLine; decide, fun t4 n4 => ?_⟩
    have e4 := same_upd (o := HO.tup [V.int 1, V.non]) n4
    have D4 : Dx K (upd H7 t4 (HO.tup [V.int 1, V.non])) (.ref t4) (.tuple [.int 1, .none]) := .tup (SqT.of upd_same) (.cons (.int 1) (.cons .non .nil))
    generalize upd H7 t4 (HO.tup [V.int 1, V.non]) = H8 at *
    refine ⟨by show 1 ≤ sizeLine; decide, fun t5 n5 => ?_⟩
    have e5 := same_upd (o := HO.tup [V.ref t4]) n5
    have D5 : Dx K (upd H8 t5 (HO.tup [V.ref t4])) (.ref t5) (.tuple [.tuple [.int 1, .none]]) := .tup (SqT.of upd_same) (.cons (D4.same e5) .nil)
    generalize upd H8 t5 (HO.tup [V.ref t4]) = H9 at *
    refine ⟨_, rfl, by show 10 ≤ sizeLine; decide, fun lv nlv => ?_⟩
    have D9 : DxAll K H9 [V.non, V.bl true, V.int d, V.str "", V.str "line", V.ref t1, V.ref t2, V.ref t3, V.ref t5, V.int (-1)] [.none, .bool true, .int d, .str "", .str "line", .tuple [], .list [], .dict [], .tuple [.tuple [.int 1, .none]], .int (-1)] :=
      .cons .non (.cons (.bl _) (.cons (.int _) (.cons (.str _) (.cons (.str _) (.cons (D1.same (e2.trans (e3.trans (e4.trans e5)))) (.cons (D2.same (e3.trans (e4.trans e5))) (.cons (D3.same (e4.trans e5)) (.cons D5 (.cons (.int _) .nil)))))))))
    have d1000 : d.natAbs < 2 ^ 1000 := Nat.lt_of_lt_of_le (show d.natAbs < 2 ^ 40 by
      have : d < 1000000000 := d1
      omega) (Nat.pow_le_pow_right (by decide) (by decide))
    have S9 : ∀ z ∈ [PyData.none, .bool true, .int d, .str "", .str "line", .tuple [], .list [], .dict [], .tuple [.tuple [.int 1, .none]], .int (-1)], Shows z := by
      intro z hz
      simp only [List.mem_cons, List.not_mem_nil, or_false] at hz
      rcases hz with rfl | rfl | rfl | rfl | rfl | rfl | rfl | rfl | rfl | rfl
      · exact shows_none
      · exact shows_bool _
      · exact shows_int d1000
      · exact shows_str (by decide +kernel)
      · exact shows_str (by decide +kernel)
      · exact ⟨by simp [PyData.showable, PyData.showableAll], fun z => by simp [PyData.hasDict, PyData.hasDictAll] at z, by simp [PyData.depth, PyData.depthAll], by simp [nodes, nodesAll]⟩
      · exact shows_nil
      · exact shows_dict
      · have h1 := (shows_int (i := 1) (by decide +kernel)).sh
        exact ⟨by simp [PyData.showable, PyData.showableAll] at h1 ⊢ <;> exact h1, fun z => by simp [PyData.hasDict, PyData.hasDictAll] at z, by simp [PyData.depth, PyData.depthAll], by simp [nodes, nodesAll]⟩
      · exact shows_int (by decide +kernel)
    have s29 : Same H2 H9 := s24.trans (e1.trans (e2.trans (e3.trans (e4.trans e5))))
    clear D1 D2 D3 D4 D5 e1 e2 e3 e4 e5 n1 n2 n3 n4 n5 d1000
    generalize [PyData.none, .bool true, .int d, .str "", .str "line", .tuple [], .list [], .dict [], .tuple [.tuple [.int 1, .none]], .int (-1)] = ds9 at *
    have sv := same_upd (o := HO.lst [V.non, V.bl true, V.int d, V.str "", V.str "line", V.ref t1, V.ref t2, V.ref t3, V.ref t5, V.int (-1)]) nlv
    have hv : upd H9 lv (HO.lst [V.non, V.bl true, V.int d, V.str "", V.str "line", V.ref t1, V.ref t2, V.ref t3, V.ref t5, V.int (-1)]) lv = some (.lst [V.non, V.bl true, V.int d, V.str "", V.str "line", V.ref t1, V.ref t2, V.ref t3, V.ref t5, V.int (-1)]) := upd_same
    replace D9 := D9.same sv
    have s210 := s29.trans sv
    generalize upd H9 lv (HO.lst [V.non, V.bl true, V.int d, V.str "", V.str "line", V.ref t1, V.ref t2, V.ref t3, V.ref t5, V.int (-1)]) = H10 at *
    generalize [V.non, V.bl true, V.int d, V.str "", V.str "line", V.ref t1, V.ref t2, V.ref t3, V.ref t5, V.int (-1)] = vs9 at *
    refine ⟨lv, rfl, ⟨_, SqL.of hv⟩, for_list (K := K) (a := lv) (xs := vs9) (fun j σ H11 => ∃ y3 y4 y5 y6 y7 y8, σ = [some (.ref a), some (.int (0 + (i : Int))), some (.ref p), y3, y4, y5, y6, y7, y8] ∧ Same H10 H11)
      ⟨y3, y4, y5, y6, y7, y8, rfl, Same.refl _⟩ (fun j σ H11 _ ⟨_, _, _, _, _, _, _, s⟩ => SqL.of (s _ _ hv)) ?_ (fun σ H11 ⟨y3, y4, y5, y6, y7, y8, e, s⟩ => by subst e; exact ⟨_, _, _, _, _, _, _, _, rfl, s2.trans (s210.trans s)⟩)⟩
    rintro j v σ H11 hvj ⟨y3, y4, y5, y6, y7, y8, rfl, s11⟩
    obtain ⟨dv, hdv, Dv⟩ := D9.at hvj
    have Sv := S9 dv (List.mem_of_getElem? hdv)
    replace Dv := Dv.same s11
    -- one error of each kind
    refine ⟨_, rfl, v, rfl, fun H12 lm ps s12 hlm plen pr => ?_⟩
    refine ⟨lm, _, rfl, SqL.of hlm, for_it (walk_enum (K := K) (a := lm) (xs := ps.map V.ref)) (fun n σ H13 => ∃ y4 y5 y6 y7 y8, σ = [some (.ref a), some (.int (0 + (i : Int))), some (.ref p), some v, y4, y5, y6, y7, y8] ∧ Same H12 H13)
      ⟨y4, y5, y6, y7, y8, rfl, Same.refl _⟩ (fun n σ H13 _ ⟨_, _, _, _, _, _, s⟩ => SqL.of (s _ _ hlm)) ?_ (fun σ H13 ⟨y4, y5, y6, y7, y8, e, s⟩ => by subst e; exact ⟨_, _, _, _, _, _, rfl, s11.trans (s12.trans s)⟩)⟩
    rintro n x σ H13 H14 hn ⟨y4, y5, y6, y7, y8, rfl, s13⟩ ⟨tt, x1, x2, rfl, ntt, rfl, f1, f2⟩
    rw [List.length_map, plen] at hn
    have en1 : x1 = .int (n : Int) := (Option.some.inj f1).symm
    have hpn : ps[n]? = some ps[n] := List.getElem?_eq_getElem (by omega)
    have en2 : x2 = .ref ps[n] := by
      have z : (ps.map V.ref)[n]? = some x2 := f2
      rw [List.getElem?_map, hpn] at z
      exact (Option.some.inj z).symm
    subst en1 en2
    obtain ⟨ea, her, Ee⟩ := pr n _ hpn
    have st := same_upd (o := HO.tup [V.int (n : Int), V.ref ps[n]]) ntt
    refine ⟨tt, _, rfl, SqT.of upd_same, rfl, _, _, rfl, _, _, rfl, rfl, ?_⟩
    have s14 := s13.trans st
    generalize upd H13 tt (HO.tup [V.int (n : Int), V.ref ps[n]]) = H14 at *
    have her' := s14 _ _ her
    have Ee' := Ee.same s14
    have Dv' := Dv.same (s12.trans s14)
    refine ⟨_, rfl, ps[n], _, rfl, SqL.of her', rfl, _, _, rfl, _, _, rfl, rfl, ?_⟩
    -- its kinds
    refine ⟨_, rfl, ea, n, rfl, Ee', fun H15 lk s15 nlk hlk => ?_⟩
    refine ⟨15, rfl, by decide, by decide, fun D nD => lc_range (lo := 0) (n := 15) (fun m H16 => Mk H15 H16 D (((List.range m).map fun o => decide (n = o)).map V.bl)) (.start nD) ?_ ?_⟩
    · intro m H16 hm mk
      refine ⟨rfl, _, rfl, _, rfl, rfl, _, mk.at_, by rw [List.length_map, List.length_map, List.length_range, sizeLine_eq]; omega, ?_⟩
      have ed : decide (V.int (n : Int) = V.int (0 + (m : Int))) = decide (n = m) := decide_eq_decide.mpr ⟨fun z => by have := V.int.inj z; omega, fun z => by rw [z, Int.zero_add]⟩
      rw [List.range_succ, List.map_append, List.map_append, ed]
      exact mk.put (Same.refl _)
    intro H16 mk
    have hlk' := mk.same _ _ hlk
    have ek : kindsV n = ((List.range 15).map fun o => decide (n = o)).map V.bl := by
      unfold kindsV
      rw [List.map_map]
      rfl
    rw [ek] at hlk'
    have s1416 := s15.trans mk.same
    generalize (List.range 15).map (fun o => decide (n = o)) = kb at *
    refine ⟨.list (kb.map PyData.bool), .list (kb.map PyData.bool), .lst (SqL.of hlk') (dp_bools kb), .lst (SqL.of mk.at_) (dp_bools kb), shaped_bools kb, shaped_bools kb, _, rfl, ?_⟩
    rw [eqv_bools]
    refine iteF ⟨_, rfl, v, dv, rfl, Dv'.same s1416, Sv, _, rfl, v, dv, rfl, Dv'.same s1416, Sv, rfl, _, rfl, ?_⟩
    rw [decide_eq_true rfl]
    obtain ⟨_, dd, h1, h2⟩ := Ee'.same s1416
    refine iteF ⟨_, rfl, ea, C n, dd, .ref (C 15), .ref (C 15), true, rfl, S.ex n (by omega), h1, h2, (fun u r => r), S.kitO n hn, _, rfl, ?_⟩
    refine iteF ⟨_, rfl, ea, C n, dd, .ty "ValueError", .type "ValueError", true, rfl, S.ex n (by omega), h1, h2, (fun u r => r), S.kitV n hn, _, rfl, ?_⟩
    exact iteF ⟨_, _, _, _, _, rfl, s14.trans s1416⟩
end
end Ov
namespace Ov
open PySem PySem.Spec PyProof.Rows L2
theorem mro_of {K : PySem.W.Frag} {nm q : Str} {C N : Addr} {bs bm : List Value} {hd : Bool} {sn : List Str} {sub : List Value} {ab : Bool} {col : Option Bool} {dd : Option Addr} {k0 k1 k2 k3 k5 : Option Value} {nw : String} (h : K.lookup C = some (excClassObj nm q C N bs bm hd sn sub ab col dd k0 k1 k2 k3 k5 nw)) (b : Value) : PySem.W.mroIn K C b = some ((Value.ref C :: bm).contains b) := by
  unfold PySem.W.mroIn PySem.W.clsIn
  rw [h]
  rfl
theorem cls_of {K : PySem.W.Frag} {nm q : Str} {C N : Addr} {bs bm : List Value} {hd : Bool} {sn : List Str} {sub : List Value} {ab : Bool} {col : Option Bool} {dd : Option Addr} {k0 k1 k2 k3 k5 : Option Value} {nw : String} (h : K.lookup C = some (excClassObj nm q C N bs bm hd sn sub ab col dd k0 k1 k2 k3 k5 nw)) : (PySem.W.clsIn K C).isSome = true := by
  unfold PySem.W.clsIn
  rw [h]
  rfl
theorem List.nodup_iff_injective_getD {l : List Addr} (i j : Nat) (hi : i < l.length) (hj : j < l.length) (e : l.getD i 0 = l.getD j 0) (n : l.Nodup) : i = j := by
  rw [List.getD_eq_getElem?_getD, List.getD_eq_getElem?_getD, List.getElem?_eq_getElem hi, List.getElem?_eq_getElem hj] at e
  have p := List.pairwise_iff_getElem.mp (List.nodup_iff_pairwise_ne.mp n)
  rcases Nat.lt_trichotomy i j with h | h | h
  · exact absurd e (p i j hi hj h)
  · exact h
  · exact absurd e.symm (p j i hj hi h)
section
variable {K : PySem.W.Frag} {C : Nat → Addr} (inj : ∀ i j, i < 16 → j < 16 → C i = C j → i = j) (mro : ∀ i, i < 16 → ∃ r, (∀ b, PySem.W.mroIn K (C i) b = some ((Value.ref (C i) :: r).contains b)) ∧ (r = [.type "ValueError", .type "Exception", .type "BaseException", .type "object"] ∨ r = [.ref (C 15), .type "ValueError", .type "Exception", .type "BaseException", .type "object"]) ∧ (i ≠ 15 → r = [.ref (C 15), .type "ValueError", .type "Exception", .type "BaseException", .type "object"]))
  (cls : ∀ i, i < 16 → ((PySem.W.clsIn K (C i)).isSome && PySem.W.typeIn K (.ref (C i)) == some (.type "type")) = true)
include inj mro cls in
theorem kits : ∀ i, i < 16 → ∀ j, j < 15 → PySem.W.kitOne K (.ref (C i)) (.ref (C j)) = some (decide (i = j)) := by
  intro i hi j hj
  unfold PySem.W.kitOne
  by_cases e : i = j
  · subst e
    rw [if_pos (by simp), decide_eq_true rfl]
  · have ne : C i ≠ C j := fun z => e (inj i j hi (by omega) z)
    have ne2 : C 15 ≠ C j := fun z => by have := inj 15 j (by decide) (by omega) z; omega
    rw [if_neg (by simp [ne]), decide_eq_false e]
    unfold PySem.W.kitCls
    dsimp only
    rw [if_pos (cls j (by omega))]
    show PySem.W.mroIn K (C i) (.ref (C j)) = _
    obtain ⟨r, h, hr, _⟩ := mro i hi
    rw [h]
    rcases hr with rfl | rfl
    · simp [Ne.symm ne]
    · simp [Ne.symm ne, Ne.symm ne2]
include inj mro cls in
theorem kitsO : ∀ i, i < 15 → PySem.W.kitOne K (.ref (C i)) (.ref (C 15)) = some true := by
  intro i hi
  unfold PySem.W.kitOne
  have ne : C i ≠ C 15 := fun z => by have := inj i 15 (by omega) (by decide) z; omega
  rw [if_neg (by simp [ne])]
  unfold PySem.W.kitCls
  dsimp only
  rw [if_pos (cls 15 (by decide))]
  show PySem.W.mroIn K (C i) (.ref (C 15)) = _
  obtain ⟨r, h, _, hr⟩ := mro i (by omega)
  rw [h, hr (by omega)]
  simp
include mro in
theorem kitsV : ∀ i, i < 15 → PySem.W.kitOne K (.ref (C i)) (.type "ValueError") = some true := by
  intro i hi
  unfold PySem.W.kitOne
  rw [if_neg (by simp)]
  unfold PySem.W.kitCls
  dsimp only
  rw [if_pos (by decide +kernel)]
  show PySem.W.mroIn K (C i) (.type "ValueError") = _
  obtain ⟨r, h, _, hr⟩ := mro i (by omega)
  rw [h, hr (by omega)]
  simp
end
/-! ### what the top has written, and the law's own head -/
theorem all_mk {P : Program} {w : World} {K : PySem.W.Frag} {h : Heap} {mg : Str → Option Value} {fa f0 f1 f2 f3 f4 : Addr} (X : K.In h) (G : h.Ns mainGlobals mg) (hfa : mg "law" = some (.ref fa))
    {od0 an0 od1 an1 od2 an2 od3 an3 od4 an4 : Option Addr} {sl0 sl1 sl2 sl3 sl4 : Array (Option Value)} {oc0 kV0 dc0 pm0 cd0 ct0 oc1 kV1 dc1 pm1 cd1 ct1 oc2 kV2 dc2 pm2 cd2 ct2 oc3 kV3 dc3 pm3 cd3 ct3 oc4 kV4 dc4 pm4 cd4 ct4 : Value}
    (a0 : PySem.W.nsIn K mainGlobals "_law_box" = some (some (.ref f0))) (l0 : K.lookup f0 = some ⟨oc0, od0, .func (PySem.W.fnOf "_law_box" "_law_box" (defArgs sBox) (defBody sBox) (defScope sBox) .none kV0 dc0 pm0 an0 cd0 ct0), sl0⟩) (c0 : PySem.W.codeIn K cd0 "_law_box" = true) (k0 : PySem.W.keepIn K (.ref f0) = true)
    (a1 : PySem.W.nsIn K mainGlobals "_law_take" = some (some (.ref f1))) (l1 : K.lookup f1 = some ⟨oc1, od1, .func (PySem.W.fnOf "_law_take" "_law_take" (defArgs sTake) (defBody sTake) (defScope sTake) .none kV1 dc1 pm1 an1 cd1 ct1), sl1⟩) (c1 : PySem.W.codeIn K cd1 "_law_take" = true) (k1 : PySem.W.keepIn K (.ref f1) = true)
    (a2 : PySem.W.nsIn K mainGlobals "_law_kinds" = some (some (.ref f2))) (l2 : K.lookup f2 = some ⟨oc2, od2, .func (PySem.W.fnOf "_law_kinds" "_law_kinds" (defArgs sKinds) (defBody sKinds) (defScope sKinds) .none kV2 dc2 pm2 an2 cd2 ct2), sl2⟩) (c2 : PySem.W.codeIn K cd2 "_law_kinds" = true) (k2 : PySem.W.keepIn K (.ref f2) = true)
    (a3 : PySem.W.nsIn K mainGlobals "_law_made" = some (some (.ref f3))) (l3 : K.lookup f3 = some ⟨oc3, od3, .func (PySem.W.fnOf "_law_made" "_law_made" (defArgs sMade) (defBody sMade) (defScope sMade) .none kV3 dc3 pm3 an3 cd3 ct3), sl3⟩) (c3 : PySem.W.codeIn K cd3 "_law_made" = true) (k3 : PySem.W.keepIn K (.ref f3) = true)
    (a4 : PySem.W.nsIn K mainGlobals "law" = some (some (.ref f4))) (l4 : K.lookup f4 = some ⟨oc4, od4, .func (PySem.W.fnOf "law" "law" (defArgs sLaw) (defBody sLaw) (defScope sLaw) .none kV4 dc4 pm4 an4 cd4 ct4), sl4⟩) (c4 : PySem.W.codeIn K cd4 "law" = true) (k4 : PySem.W.keepIn K (.ref f4) = true)
    {z0 y0 z1 y1 z2 y2 z3 y3 z4 y4 z5 y5 z6 y6 z7 y7 z8 y8 z9 y9 z10 y10 z11 y11 z12 y12 z13 y13 z14 y14 z15 y15 : Addr}
    {xm0 xq0 : Str} {xb0 xs0 : List Value} {xt0 : List Str} {xa0 : Bool} {xc0 : Option Bool} {xd0 : Option Addr} {xk0_0 xk0_1 xk0_2 xk0_3 xk0_4 : Option Value}
    (mz0 : PySem.W.nsIn K mainGlobals "CommandError" = some (some (.ref z0)))
    {xm1 xq1 : Str} {xb1 xs1 : List Value} {xt1 : List Str} {xa1 : Bool} {xc1 : Option Bool} {xd1 : Option Addr} {xk1_0 xk1_1 xk1_2 xk1_3 xk1_4 : Option Value}
    (mz1 : PySem.W.nsIn K mainGlobals "InvalidCode" = some (some (.ref z1)))
    {xm2 xq2 : Str} {xb2 xs2 : List Value} {xt2 : List Str} {xa2 : Bool} {xc2 : Option Bool} {xd2 : Option Addr} {xk2_0 xk2_1 xk2_2 xk2_3 xk2_4 : Option Value}
    (mz2 : PySem.W.nsIn K mainGlobals "InvalidCountdowns" = some (some (.ref z2)))
    {xm3 xq3 : Str} {xb3 xs3 : List Value} {xt3 : List Str} {xa3 : Bool} {xc3 : Option Bool} {xd3 : Option Addr} {xk3_0 xk3_1 xk3_2 xk3_3 xk3_4 : Option Value}
    (mz3 : PySem.W.nsIn K mainGlobals "InvalidEntries" = some (some (.ref z3)))
    {xm4 xq4 : Str} {xb4 xs4 : List Value} {xt4 : List Str} {xa4 : Bool} {xc4 : Option Bool} {xd4 : Option Addr} {xk4_0 xk4_1 xk4_2 xk4_3 xk4_4 : Option Value}
    (mz4 : PySem.W.nsIn K mainGlobals "InvalidEntry" = some (some (.ref z4)))
    {xm5 xq5 : Str} {xb5 xs5 : List Value} {xt5 : List Str} {xa5 : Bool} {xc5 : Option Bool} {xd5 : Option Addr} {xk5_0 xk5_1 xk5_2 xk5_3 xk5_4 : Option Value}
    (mz5 : PySem.W.nsIn K mainGlobals "InvalidInstructionSet" = some (some (.ref z5)))
    {xm6 xq6 : Str} {xb6 xs6 : List Value} {xt6 : List Str} {xa6 : Bool} {xc6 : Option Bool} {xd6 : Option Addr} {xk6_0 xk6_1 xk6_2 xk6_3 xk6_4 : Option Value}
    (mz6 : PySem.W.nsIn K mainGlobals "InvalidLengths" = some (some (.ref z6)))
    {xm7 xq7 : Str} {xb7 xs7 : List Value} {xt7 : List Str} {xa7 : Bool} {xc7 : Option Bool} {xd7 : Option Addr} {xk7_0 xk7_1 xk7_2 xk7_3 xk7_4 : Option Value}
    (mz7 : PySem.W.nsIn K mainGlobals "InvalidNumber" = some (some (.ref z7)))
    {xm8 xq8 : Str} {xb8 xs8 : List Value} {xt8 : List Str} {xa8 : Bool} {xc8 : Option Bool} {xd8 : Option Addr} {xk8_0 xk8_1 xk8_2 xk8_3 xk8_4 : Option Value}
    (mz8 : PySem.W.nsIn K mainGlobals "InvalidOffset" = some (some (.ref z8)))
    {xm9 xq9 : Str} {xb9 xs9 : List Value} {xt9 : List Str} {xa9 : Bool} {xc9 : Option Bool} {xd9 : Option Addr} {xk9_0 xk9_1 xk9_2 xk9_3 xk9_4 : Option Value}
    (mz9 : PySem.W.nsIn K mainGlobals "InvalidProgram" = some (some (.ref z9)))
    {xm10 xq10 : Str} {xb10 xs10 : List Value} {xt10 : List Str} {xa10 : Bool} {xc10 : Option Bool} {xd10 : Option Addr} {xk10_0 xk10_1 xk10_2 xk10_3 xk10_4 : Option Value}
    (mz10 : PySem.W.nsIn K mainGlobals "InvalidTimes" = some (some (.ref z10)))
    {xm11 xq11 : Str} {xb11 xs11 : List Value} {xt11 : List Str} {xa11 : Bool} {xc11 : Option Bool} {xd11 : Option Addr} {xk11_0 xk11_1 xk11_2 xk11_3 xk11_4 : Option Value}
    (mz11 : PySem.W.nsIn K mainGlobals "NothingToUndo" = some (some (.ref z11)))
    {xm12 xq12 : Str} {xb12 xs12 : List Value} {xt12 : List Str} {xa12 : Bool} {xc12 : Option Bool} {xd12 : Option Addr} {xk12_0 xk12_1 xk12_2 xk12_3 xk12_4 : Option Value}
    (mz12 : PySem.W.nsIn K mainGlobals "ParseError" = some (some (.ref z12)))
    {xm13 xq13 : Str} {xb13 xs13 : List Value} {xt13 : List Str} {xa13 : Bool} {xc13 : Option Bool} {xd13 : Option Addr} {xk13_0 xk13_1 xk13_2 xk13_3 xk13_4 : Option Value}
    (mz13 : PySem.W.nsIn K mainGlobals "TooLong" = some (some (.ref z13)))
    {xm14 xq14 : Str} {xb14 xs14 : List Value} {xt14 : List Str} {xa14 : Bool} {xc14 : Option Bool} {xd14 : Option Addr} {xk14_0 xk14_1 xk14_2 xk14_3 xk14_4 : Option Value}
    (mz14 : PySem.W.nsIn K mainGlobals "TooManyStates" = some (some (.ref z14)))
    {xm15 xq15 : Str} {xb15 xs15 : List Value} {xt15 : List Str} {xa15 : Bool} {xc15 : Option Bool} {xd15 : Option Addr} {xk15_0 xk15_1 xk15_2 xk15_3 xk15_4 : Option Value}
    (mz15 : PySem.W.nsIn K mainGlobals "OverlapError" = some (some (.ref z15)))
    (x0 : K.lookup z0 = some (excClassObj xm0 xq0 z0 y0 xb0 [.ref z15, .type "ValueError", .type "Exception", .type "BaseException", .type "object"] true xt0 xs0 xa0 xc0 xd0 xk0_0 xk0_1 xk0_2 xk0_3 xk0_4 "ValueError.__new__"))
    (ga0 : PySem.W.findIn K (.ref z0) "__getattribute__" = some (some (.builtin "BaseException.__getattribute__")))
    (gg0 : PySem.W.findIn K (.ref z0) "__getattr__" = some none)
    (gc0 : PySem.W.findIn K (.ref z0) "__class__" = some (some (.builtin "object.__class__")))
    (gk0 : PySem.W.keepIn K (.ref z0) = true)
    (ty0 : PySem.W.typeIn K (.ref z0) = some (.type "type"))
    (hd0 : PySem.W.hasDictIn K z0 = true)
    {fi0 : Addr} {io0 : Option Addr} {in0 : Option Addr} {il0 : Array (Option Value)} {ic0 ik0 id0 ip0 ie0 it0 : Value}
    (sa0 : PySem.W.findIn K (.ref z0) "__setattr__" = some (some (.builtin "object.__setattr__")))
    (no0 : PySem.W.findIn K (.ref z0) "line" = some none)
    (fi_0 : PySem.W.findIn K (.ref z0) "__init__" = some (some (.ref fi0)))
    (ft0 : PySem.W.typeIn K (.ref fi0) = some (.type "function"))
    (fl0 : K.lookup fi0 = some ⟨ic0, io0, .func (PySem.W.fnOf "__init__" "CommandError.__init__" (defArgs sICommandError) (defBody sICommandError) (defScope sICommandError) .none ik0 id0 ip0 in0 ie0 it0), il0⟩)
    (fc0 : PySem.W.codeIn K ie0 "CommandError.__init__" = true)
    (fk0 : PySem.W.keepIn K (.ref fi0) = true)
    (x1 : K.lookup z1 = some (excClassObj xm1 xq1 z1 y1 xb1 [.ref z15, .type "ValueError", .type "Exception", .type "BaseException", .type "object"] true xt1 xs1 xa1 xc1 xd1 xk1_0 xk1_1 xk1_2 xk1_3 xk1_4 "ValueError.__new__"))
    (ga1 : PySem.W.findIn K (.ref z1) "__getattribute__" = some (some (.builtin "BaseException.__getattribute__")))
    (gg1 : PySem.W.findIn K (.ref z1) "__getattr__" = some none)
    (gc1 : PySem.W.findIn K (.ref z1) "__class__" = some (some (.builtin "object.__class__")))
    (gk1 : PySem.W.keepIn K (.ref z1) = true)
    (ty1 : PySem.W.typeIn K (.ref z1) = some (.type "type"))
    (hd1 : PySem.W.hasDictIn K z1 = true)
    {fi1 : Addr} {io1 : Option Addr} {in1 : Option Addr} {il1 : Array (Option Value)} {ic1 ik1 id1 ip1 ie1 it1 : Value}
    (sa1 : PySem.W.findIn K (.ref z1) "__setattr__" = some (some (.builtin "object.__setattr__")))
    (no1 : PySem.W.findIn K (.ref z1) "value" = some none)
    (fi_1 : PySem.W.findIn K (.ref z1) "__init__" = some (some (.ref fi1)))
    (ft1 : PySem.W.typeIn K (.ref fi1) = some (.type "function"))
    (fl1 : K.lookup fi1 = some ⟨ic1, io1, .func (PySem.W.fnOf "__init__" "InvalidCode.__init__" (defArgs sIInvalidCode) (defBody sIInvalidCode) (defScope sIInvalidCode) .none ik1 id1 ip1 in1 ie1 it1), il1⟩)
    (fc1 : PySem.W.codeIn K ie1 "InvalidCode.__init__" = true)
    (fk1 : PySem.W.keepIn K (.ref fi1) = true)
    (x2 : K.lookup z2 = some (excClassObj xm2 xq2 z2 y2 xb2 [.ref z15, .type "ValueError", .type "Exception", .type "BaseException", .type "object"] true xt2 xs2 xa2 xc2 xd2 xk2_0 xk2_1 xk2_2 xk2_3 xk2_4 "ValueError.__new__"))
    (ga2 : PySem.W.findIn K (.ref z2) "__getattribute__" = some (some (.builtin "BaseException.__getattribute__")))
    (gg2 : PySem.W.findIn K (.ref z2) "__getattr__" = some none)
    (gc2 : PySem.W.findIn K (.ref z2) "__class__" = some (some (.builtin "object.__class__")))
    (gk2 : PySem.W.keepIn K (.ref z2) = true)
    (ty2 : PySem.W.typeIn K (.ref z2) = some (.type "type"))
    (hd2 : PySem.W.hasDictIn K z2 = true)
    {fi2 : Addr} {io2 : Option Addr} {in2 : Option Addr} {il2 : Array (Option Value)} {ic2 ik2 id2 ip2 ie2 it2 : Value}
    (sa2 : PySem.W.findIn K (.ref z2) "__setattr__" = some (some (.builtin "object.__setattr__")))
    (no2 : PySem.W.findIn K (.ref z2) "value" = some none)
    (fi_2 : PySem.W.findIn K (.ref z2) "__init__" = some (some (.ref fi2)))
    (ft2 : PySem.W.typeIn K (.ref fi2) = some (.type "function"))
    (fl2 : K.lookup fi2 = some ⟨ic2, io2, .func (PySem.W.fnOf "__init__" "InvalidCountdowns.__init__" (defArgs sIInvalidCountdowns) (defBody sIInvalidCountdowns) (defScope sIInvalidCountdowns) .none ik2 id2 ip2 in2 ie2 it2), il2⟩)
    (fc2 : PySem.W.codeIn K ie2 "InvalidCountdowns.__init__" = true)
    (fk2 : PySem.W.keepIn K (.ref fi2) = true)
    (x3 : K.lookup z3 = some (excClassObj xm3 xq3 z3 y3 xb3 [.ref z15, .type "ValueError", .type "Exception", .type "BaseException", .type "object"] true xt3 xs3 xa3 xc3 xd3 xk3_0 xk3_1 xk3_2 xk3_3 xk3_4 "ValueError.__new__"))
    (ga3 : PySem.W.findIn K (.ref z3) "__getattribute__" = some (some (.builtin "BaseException.__getattribute__")))
    (gg3 : PySem.W.findIn K (.ref z3) "__getattr__" = some none)
    (gc3 : PySem.W.findIn K (.ref z3) "__class__" = some (some (.builtin "object.__class__")))
    (gk3 : PySem.W.keepIn K (.ref z3) = true)
    (ty3 : PySem.W.typeIn K (.ref z3) = some (.type "type"))
    (hd3 : PySem.W.hasDictIn K z3 = true)
    {fi3 : Addr} {io3 : Option Addr} {in3 : Option Addr} {il3 : Array (Option Value)} {ic3 ik3 id3 ip3 ie3 it3 : Value}
    (sa3 : PySem.W.findIn K (.ref z3) "__setattr__" = some (some (.builtin "object.__setattr__")))
    (no3 : PySem.W.findIn K (.ref z3) "value" = some none)
    (fi_3 : PySem.W.findIn K (.ref z3) "__init__" = some (some (.ref fi3)))
    (ft3 : PySem.W.typeIn K (.ref fi3) = some (.type "function"))
    (fl3 : K.lookup fi3 = some ⟨ic3, io3, .func (PySem.W.fnOf "__init__" "InvalidEntries.__init__" (defArgs sIInvalidEntries) (defBody sIInvalidEntries) (defScope sIInvalidEntries) .none ik3 id3 ip3 in3 ie3 it3), il3⟩)
    (fc3 : PySem.W.codeIn K ie3 "InvalidEntries.__init__" = true)
    (fk3 : PySem.W.keepIn K (.ref fi3) = true)
    (x4 : K.lookup z4 = some (excClassObj xm4 xq4 z4 y4 xb4 [.ref z15, .type "ValueError", .type "Exception", .type "BaseException", .type "object"] true xt4 xs4 xa4 xc4 xd4 xk4_0 xk4_1 xk4_2 xk4_3 xk4_4 "ValueError.__new__"))
    (ga4 : PySem.W.findIn K (.ref z4) "__getattribute__" = some (some (.builtin "BaseException.__getattribute__")))
    (gg4 : PySem.W.findIn K (.ref z4) "__getattr__" = some none)
    (gc4 : PySem.W.findIn K (.ref z4) "__class__" = some (some (.builtin "object.__class__")))
    (gk4 : PySem.W.keepIn K (.ref z4) = true)
    (ty4 : PySem.W.typeIn K (.ref z4) = some (.type "type"))
    (hd4 : PySem.W.hasDictIn K z4 = true)
    {fi4 : Addr} {io4 : Option Addr} {in4 : Option Addr} {il4 : Array (Option Value)} {ic4 ik4 id4 ip4 ie4 it4 : Value}
    (sa4 : PySem.W.findIn K (.ref z4) "__setattr__" = some (some (.builtin "object.__setattr__")))
    (no4 : PySem.W.findIn K (.ref z4) "value" = some none)
    (fi_4 : PySem.W.findIn K (.ref z4) "__init__" = some (some (.ref fi4)))
    (ft4 : PySem.W.typeIn K (.ref fi4) = some (.type "function"))
    (fl4 : K.lookup fi4 = some ⟨ic4, io4, .func (PySem.W.fnOf "__init__" "InvalidEntry.__init__" (defArgs sIInvalidEntry) (defBody sIInvalidEntry) (defScope sIInvalidEntry) .none ik4 id4 ip4 in4 ie4 it4), il4⟩)
    (fc4 : PySem.W.codeIn K ie4 "InvalidEntry.__init__" = true)
    (fk4 : PySem.W.keepIn K (.ref fi4) = true)
    (x5 : K.lookup z5 = some (excClassObj xm5 xq5 z5 y5 xb5 [.ref z15, .type "ValueError", .type "Exception", .type "BaseException", .type "object"] true xt5 xs5 xa5 xc5 xd5 xk5_0 xk5_1 xk5_2 xk5_3 xk5_4 "ValueError.__new__"))
    (ga5 : PySem.W.findIn K (.ref z5) "__getattribute__" = some (some (.builtin "BaseException.__getattribute__")))
    (gg5 : PySem.W.findIn K (.ref z5) "__getattr__" = some none)
    (gc5 : PySem.W.findIn K (.ref z5) "__class__" = some (some (.builtin "object.__class__")))
    (gk5 : PySem.W.keepIn K (.ref z5) = true)
    (ty5 : PySem.W.typeIn K (.ref z5) = some (.type "type"))
    (hd5 : PySem.W.hasDictIn K z5 = true)
    {fi5 : Addr} {io5 : Option Addr} {in5 : Option Addr} {il5 : Array (Option Value)} {ic5 ik5 id5 ip5 ie5 it5 : Value}
    (sa5 : PySem.W.findIn K (.ref z5) "__setattr__" = some (some (.builtin "object.__setattr__")))
    (no5 : PySem.W.findIn K (.ref z5) "field" = some none)
    (fi_5 : PySem.W.findIn K (.ref z5) "__init__" = some (some (.ref fi5)))
    (ft5 : PySem.W.typeIn K (.ref fi5) = some (.type "function"))
    (fl5 : K.lookup fi5 = some ⟨ic5, io5, .func (PySem.W.fnOf "__init__" "InvalidInstructionSet.__init__" (defArgs sIInvalidInstructionSet) (defBody sIInvalidInstructionSet) (defScope sIInvalidInstructionSet) .none ik5 id5 ip5 in5 ie5 it5), il5⟩)
    (fc5 : PySem.W.codeIn K ie5 "InvalidInstructionSet.__init__" = true)
    (fk5 : PySem.W.keepIn K (.ref fi5) = true)
    (x6 : K.lookup z6 = some (excClassObj xm6 xq6 z6 y6 xb6 [.ref z15, .type "ValueError", .type "Exception", .type "BaseException", .type "object"] true xt6 xs6 xa6 xc6 xd6 xk6_0 xk6_1 xk6_2 xk6_3 xk6_4 "ValueError.__new__"))
    (ga6 : PySem.W.findIn K (.ref z6) "__getattribute__" = some (some (.builtin "BaseException.__getattribute__")))
    (gg6 : PySem.W.findIn K (.ref z6) "__getattr__" = some none)
    (gc6 : PySem.W.findIn K (.ref z6) "__class__" = some (some (.builtin "object.__class__")))
    (gk6 : PySem.W.keepIn K (.ref z6) = true)
    (ty6 : PySem.W.typeIn K (.ref z6) = some (.type "type"))
    (hd6 : PySem.W.hasDictIn K z6 = true)
    {fi6 : Addr} {io6 : Option Addr} {in6 : Option Addr} {il6 : Array (Option Value)} {ic6 ik6 id6 ip6 ie6 it6 : Value}
    (sa6 : PySem.W.findIn K (.ref z6) "__setattr__" = some (some (.builtin "object.__setattr__")))
    (no6 : PySem.W.findIn K (.ref z6) "value" = some none)
    (fi_6 : PySem.W.findIn K (.ref z6) "__init__" = some (some (.ref fi6)))
    (ft6 : PySem.W.typeIn K (.ref fi6) = some (.type "function"))
    (fl6 : K.lookup fi6 = some ⟨ic6, io6, .func (PySem.W.fnOf "__init__" "InvalidLengths.__init__" (defArgs sIInvalidLengths) (defBody sIInvalidLengths) (defScope sIInvalidLengths) .none ik6 id6 ip6 in6 ie6 it6), il6⟩)
    (fc6 : PySem.W.codeIn K ie6 "InvalidLengths.__init__" = true)
    (fk6 : PySem.W.keepIn K (.ref fi6) = true)
    (x7 : K.lookup z7 = some (excClassObj xm7 xq7 z7 y7 xb7 [.ref z15, .type "ValueError", .type "Exception", .type "BaseException", .type "object"] true xt7 xs7 xa7 xc7 xd7 xk7_0 xk7_1 xk7_2 xk7_3 xk7_4 "ValueError.__new__"))
    (ga7 : PySem.W.findIn K (.ref z7) "__getattribute__" = some (some (.builtin "BaseException.__getattribute__")))
    (gg7 : PySem.W.findIn K (.ref z7) "__getattr__" = some none)
    (gc7 : PySem.W.findIn K (.ref z7) "__class__" = some (some (.builtin "object.__class__")))
    (gk7 : PySem.W.keepIn K (.ref z7) = true)
    (ty7 : PySem.W.typeIn K (.ref z7) = some (.type "type"))
    (hd7 : PySem.W.hasDictIn K z7 = true)
    {fi7 : Addr} {io7 : Option Addr} {in7 : Option Addr} {il7 : Array (Option Value)} {ic7 ik7 id7 ip7 ie7 it7 : Value}
    (sa7 : PySem.W.findIn K (.ref z7) "__setattr__" = some (some (.builtin "object.__setattr__")))
    (no7 : PySem.W.findIn K (.ref z7) "value" = some none)
    (fi_7 : PySem.W.findIn K (.ref z7) "__init__" = some (some (.ref fi7)))
    (ft7 : PySem.W.typeIn K (.ref fi7) = some (.type "function"))
    (fl7 : K.lookup fi7 = some ⟨ic7, io7, .func (PySem.W.fnOf "__init__" "InvalidNumber.__init__" (defArgs sIInvalidNumber) (defBody sIInvalidNumber) (defScope sIInvalidNumber) .none ik7 id7 ip7 in7 ie7 it7), il7⟩)
    (fc7 : PySem.W.codeIn K ie7 "InvalidNumber.__init__" = true)
    (fk7 : PySem.W.keepIn K (.ref fi7) = true)
    (x8 : K.lookup z8 = some (excClassObj xm8 xq8 z8 y8 xb8 [.ref z15, .type "ValueError", .type "Exception", .type "BaseException", .type "object"] true xt8 xs8 xa8 xc8 xd8 xk8_0 xk8_1 xk8_2 xk8_3 xk8_4 "ValueError.__new__"))
    (ga8 : PySem.W.findIn K (.ref z8) "__getattribute__" = some (some (.builtin "BaseException.__getattribute__")))
    (gg8 : PySem.W.findIn K (.ref z8) "__getattr__" = some none)
    (gc8 : PySem.W.findIn K (.ref z8) "__class__" = some (some (.builtin "object.__class__")))
    (gk8 : PySem.W.keepIn K (.ref z8) = true)
    (ty8 : PySem.W.typeIn K (.ref z8) = some (.type "type"))
    (hd8 : PySem.W.hasDictIn K z8 = true)
    {fi8 : Addr} {io8 : Option Addr} {in8 : Option Addr} {il8 : Array (Option Value)} {ic8 ik8 id8 ip8 ie8 it8 : Value}
    (sa8 : PySem.W.findIn K (.ref z8) "__setattr__" = some (some (.builtin "object.__setattr__")))
    (no8 : PySem.W.findIn K (.ref z8) "value" = some none)
    (fi_8 : PySem.W.findIn K (.ref z8) "__init__" = some (some (.ref fi8)))
    (ft8 : PySem.W.typeIn K (.ref fi8) = some (.type "function"))
    (fl8 : K.lookup fi8 = some ⟨ic8, io8, .func (PySem.W.fnOf "__init__" "InvalidOffset.__init__" (defArgs sIInvalidOffset) (defBody sIInvalidOffset) (defScope sIInvalidOffset) .none ik8 id8 ip8 in8 ie8 it8), il8⟩)
    (fc8 : PySem.W.codeIn K ie8 "InvalidOffset.__init__" = true)
    (fk8 : PySem.W.keepIn K (.ref fi8) = true)
    (x9 : K.lookup z9 = some (excClassObj xm9 xq9 z9 y9 xb9 [.ref z15, .type "ValueError", .type "Exception", .type "BaseException", .type "object"] true xt9 xs9 xa9 xc9 xd9 xk9_0 xk9_1 xk9_2 xk9_3 xk9_4 "ValueError.__new__"))
    (ga9 : PySem.W.findIn K (.ref z9) "__getattribute__" = some (some (.builtin "BaseException.__getattribute__")))
    (gg9 : PySem.W.findIn K (.ref z9) "__getattr__" = some none)
    (gc9 : PySem.W.findIn K (.ref z9) "__class__" = some (some (.builtin "object.__class__")))
    (gk9 : PySem.W.keepIn K (.ref z9) = true)
    (ty9 : PySem.W.typeIn K (.ref z9) = some (.type "type"))
    (hd9 : PySem.W.hasDictIn K z9 = true)
    {fi9 : Addr} {io9 : Option Addr} {in9 : Option Addr} {il9 : Array (Option Value)} {ic9 ik9 id9 ip9 ie9 it9 : Value}
    (sa9 : PySem.W.findIn K (.ref z9) "__setattr__" = some (some (.builtin "object.__setattr__")))
    (no9 : PySem.W.findIn K (.ref z9) "value" = some none)
    (fi_9 : PySem.W.findIn K (.ref z9) "__init__" = some (some (.ref fi9)))
    (ft9 : PySem.W.typeIn K (.ref fi9) = some (.type "function"))
    (fl9 : K.lookup fi9 = some ⟨ic9, io9, .func (PySem.W.fnOf "__init__" "InvalidProgram.__init__" (defArgs sIInvalidProgram) (defBody sIInvalidProgram) (defScope sIInvalidProgram) .none ik9 id9 ip9 in9 ie9 it9), il9⟩)
    (fc9 : PySem.W.codeIn K ie9 "InvalidProgram.__init__" = true)
    (fk9 : PySem.W.keepIn K (.ref fi9) = true)
    (x10 : K.lookup z10 = some (excClassObj xm10 xq10 z10 y10 xb10 [.ref z15, .type "ValueError", .type "Exception", .type "BaseException", .type "object"] true xt10 xs10 xa10 xc10 xd10 xk10_0 xk10_1 xk10_2 xk10_3 xk10_4 "ValueError.__new__"))
    (ga10 : PySem.W.findIn K (.ref z10) "__getattribute__" = some (some (.builtin "BaseException.__getattribute__")))
    (gg10 : PySem.W.findIn K (.ref z10) "__getattr__" = some none)
    (gc10 : PySem.W.findIn K (.ref z10) "__class__" = some (some (.builtin "object.__class__")))
    (gk10 : PySem.W.keepIn K (.ref z10) = true)
    (ty10 : PySem.W.typeIn K (.ref z10) = some (.type "type"))
    (hd10 : PySem.W.hasDictIn K z10 = true)
    {fi10 : Addr} {io10 : Option Addr} {in10 : Option Addr} {il10 : Array (Option Value)} {ic10 ik10 id10 ip10 ie10 it10 : Value}
    (sa10 : PySem.W.findIn K (.ref z10) "__setattr__" = some (some (.builtin "object.__setattr__")))
    (no10 : PySem.W.findIn K (.ref z10) "value" = some none)
    (fi_10 : PySem.W.findIn K (.ref z10) "__init__" = some (some (.ref fi10)))
    (ft10 : PySem.W.typeIn K (.ref fi10) = some (.type "function"))
    (fl10 : K.lookup fi10 = some ⟨ic10, io10, .func (PySem.W.fnOf "__init__" "InvalidTimes.__init__" (defArgs sIInvalidTimes) (defBody sIInvalidTimes) (defScope sIInvalidTimes) .none ik10 id10 ip10 in10 ie10 it10), il10⟩)
    (fc10 : PySem.W.codeIn K ie10 "InvalidTimes.__init__" = true)
    (fk10 : PySem.W.keepIn K (.ref fi10) = true)
    (x11 : K.lookup z11 = some (excClassObj xm11 xq11 z11 y11 xb11 [.ref z15, .type "ValueError", .type "Exception", .type "BaseException", .type "object"] true xt11 xs11 xa11 xc11 xd11 xk11_0 xk11_1 xk11_2 xk11_3 xk11_4 "ValueError.__new__"))
    (ga11 : PySem.W.findIn K (.ref z11) "__getattribute__" = some (some (.builtin "BaseException.__getattribute__")))
    (gg11 : PySem.W.findIn K (.ref z11) "__getattr__" = some none)
    (gc11 : PySem.W.findIn K (.ref z11) "__class__" = some (some (.builtin "object.__class__")))
    (gk11 : PySem.W.keepIn K (.ref z11) = true)
    (ty11 : PySem.W.typeIn K (.ref z11) = some (.type "type"))
    (hd11 : PySem.W.hasDictIn K z11 = true)
    (ex11 : PySem.W.excIn K z11 [.type "ValueError", .type "Exception", .type "BaseException", .type "object"] "ValueError.__new__" = true)
    (x12 : K.lookup z12 = some (excClassObj xm12 xq12 z12 y12 xb12 [.ref z15, .type "ValueError", .type "Exception", .type "BaseException", .type "object"] true xt12 xs12 xa12 xc12 xd12 xk12_0 xk12_1 xk12_2 xk12_3 xk12_4 "ValueError.__new__"))
    (ga12 : PySem.W.findIn K (.ref z12) "__getattribute__" = some (some (.builtin "BaseException.__getattribute__")))
    (gg12 : PySem.W.findIn K (.ref z12) "__getattr__" = some none)
    (gc12 : PySem.W.findIn K (.ref z12) "__class__" = some (some (.builtin "object.__class__")))
    (gk12 : PySem.W.keepIn K (.ref z12) = true)
    (ty12 : PySem.W.typeIn K (.ref z12) = some (.type "type"))
    (hd12 : PySem.W.hasDictIn K z12 = true)
    {fi12 : Addr} {io12 : Option Addr} {in12 : Option Addr} {il12 : Array (Option Value)} {ic12 ik12 id12 ip12 ie12 it12 : Value}
    (sa12 : PySem.W.findIn K (.ref z12) "__setattr__" = some (some (.builtin "object.__setattr__")))
    (no12 : PySem.W.findIn K (.ref z12) "line" = some none)
    (fi_12 : PySem.W.findIn K (.ref z12) "__init__" = some (some (.ref fi12)))
    (ft12 : PySem.W.typeIn K (.ref fi12) = some (.type "function"))
    (fl12 : K.lookup fi12 = some ⟨ic12, io12, .func (PySem.W.fnOf "__init__" "ParseError.__init__" (defArgs sIParseError) (defBody sIParseError) (defScope sIParseError) .none ik12 id12 ip12 in12 ie12 it12), il12⟩)
    (fc12 : PySem.W.codeIn K ie12 "ParseError.__init__" = true)
    (fk12 : PySem.W.keepIn K (.ref fi12) = true)
    (x13 : K.lookup z13 = some (excClassObj xm13 xq13 z13 y13 xb13 [.ref z15, .type "ValueError", .type "Exception", .type "BaseException", .type "object"] true xt13 xs13 xa13 xc13 xd13 xk13_0 xk13_1 xk13_2 xk13_3 xk13_4 "ValueError.__new__"))
    (ga13 : PySem.W.findIn K (.ref z13) "__getattribute__" = some (some (.builtin "BaseException.__getattribute__")))
    (gg13 : PySem.W.findIn K (.ref z13) "__getattr__" = some none)
    (gc13 : PySem.W.findIn K (.ref z13) "__class__" = some (some (.builtin "object.__class__")))
    (gk13 : PySem.W.keepIn K (.ref z13) = true)
    (ty13 : PySem.W.typeIn K (.ref z13) = some (.type "type"))
    (hd13 : PySem.W.hasDictIn K z13 = true)
    {fi13 : Addr} {io13 : Option Addr} {in13 : Option Addr} {il13 : Array (Option Value)} {ic13 ik13 id13 ip13 ie13 it13 : Value}
    (sa13 : PySem.W.findIn K (.ref z13) "__setattr__" = some (some (.builtin "object.__setattr__")))
    (no13 : PySem.W.findIn K (.ref z13) "size" = some none)
    (fi_13 : PySem.W.findIn K (.ref z13) "__init__" = some (some (.ref fi13)))
    (ft13 : PySem.W.typeIn K (.ref fi13) = some (.type "function"))
    (fl13 : K.lookup fi13 = some ⟨ic13, io13, .func (PySem.W.fnOf "__init__" "TooLong.__init__" (defArgs sITooLong) (defBody sITooLong) (defScope sITooLong) .none ik13 id13 ip13 in13 ie13 it13), il13⟩)
    (fc13 : PySem.W.codeIn K ie13 "TooLong.__init__" = true)
    (fk13 : PySem.W.keepIn K (.ref fi13) = true)
    (x14 : K.lookup z14 = some (excClassObj xm14 xq14 z14 y14 xb14 [.ref z15, .type "ValueError", .type "Exception", .type "BaseException", .type "object"] true xt14 xs14 xa14 xc14 xd14 xk14_0 xk14_1 xk14_2 xk14_3 xk14_4 "ValueError.__new__"))
    (ga14 : PySem.W.findIn K (.ref z14) "__getattribute__" = some (some (.builtin "BaseException.__getattribute__")))
    (gg14 : PySem.W.findIn K (.ref z14) "__getattr__" = some none)
    (gc14 : PySem.W.findIn K (.ref z14) "__class__" = some (some (.builtin "object.__class__")))
    (gk14 : PySem.W.keepIn K (.ref z14) = true)
    (ty14 : PySem.W.typeIn K (.ref z14) = some (.type "type"))
    (hd14 : PySem.W.hasDictIn K z14 = true)
    {fi14 : Addr} {io14 : Option Addr} {in14 : Option Addr} {il14 : Array (Option Value)} {ic14 ik14 id14 ip14 ie14 it14 : Value}
    (sa14 : PySem.W.findIn K (.ref z14) "__setattr__" = some (some (.builtin "object.__setattr__")))
    (no14 : PySem.W.findIn K (.ref z14) "count" = some none)
    (fi_14 : PySem.W.findIn K (.ref z14) "__init__" = some (some (.ref fi14)))
    (ft14 : PySem.W.typeIn K (.ref fi14) = some (.type "function"))
    (fl14 : K.lookup fi14 = some ⟨ic14, io14, .func (PySem.W.fnOf "__init__" "TooManyStates.__init__" (defArgs sITooManyStates) (defBody sITooManyStates) (defScope sITooManyStates) .none ik14 id14 ip14 in14 ie14 it14), il14⟩)
    (fc14 : PySem.W.codeIn K ie14 "TooManyStates.__init__" = true)
    (fk14 : PySem.W.keepIn K (.ref fi14) = true)
    (x15 : K.lookup z15 = some (excClassObj xm15 xq15 z15 y15 xb15 [.type "ValueError", .type "Exception", .type "BaseException", .type "object"] true xt15 xs15 xa15 xc15 xd15 xk15_0 xk15_1 xk15_2 xk15_3 xk15_4 "ValueError.__new__"))
    (ga15 : PySem.W.findIn K (.ref z15) "__getattribute__" = some (some (.builtin "BaseException.__getattribute__")))
    (gg15 : PySem.W.findIn K (.ref z15) "__getattr__" = some none)
    (gc15 : PySem.W.findIn K (.ref z15) "__class__" = some (some (.builtin "object.__class__")))
    (gk15 : PySem.W.keepIn K (.ref z15) = true)
    (ty15 : PySem.W.typeIn K (.ref z15) = some (.type "type"))
    (hd15 : PySem.W.hasDictIn K z15 = true)
    (ex15 : PySem.W.excIn K z15 [.type "ValueError", .type "Exception", .type "BaseException", .type "object"] "ValueError.__new__" = true)
    (spc : PySem.W.specialIn K (.builtin "object.__class__") "__get__" = some (some (.builtin "getset_descriptor.__get__"))) (tkc : PySem.W.takesIn K (.builtin "object.__class__") = some true)
    (ndp : ([z0, z1, z2, z3, z4, z5, z6, z7, z8, z9, z10, z11, z12, z13, z14, z15] : List Addr).Nodup)
    (bz0 : PySem.W.nsIn K mainGlobals "isinstance" = some none)
    (bz1 : PySem.W.nsIn K mainGlobals "int" = some none)
    (bz2 : PySem.W.nsIn K mainGlobals "bool" = some none)
    (bz3 : PySem.W.nsIn K mainGlobals "tuple" = some none)
    (bz4 : PySem.W.nsIn K mainGlobals "list" = some none)
    (bz5 : PySem.W.nsIn K mainGlobals "all" = some none)
    (bz6 : PySem.W.nsIn K mainGlobals "any" = some none)
    (bz7 : PySem.W.nsIn K mainGlobals "zip" = some none)
    (bz8 : PySem.W.nsIn K mainGlobals "len" = some none)
    (bz9 : PySem.W.nsIn K mainGlobals "range" = some none)
    (bz10 : PySem.W.nsIn K mainGlobals "abs" = some none)
    (bz11 : PySem.W.nsIn K mainGlobals "sorted" = some none)
    (bz12 : PySem.W.nsIn K mainGlobals "min" = some none)
    (bz13 : PySem.W.nsIn K mainGlobals "repr" = some none)
    (bz14 : PySem.W.nsIn K mainGlobals "max" = some none)
    (bz15 : PySem.W.nsIn K mainGlobals "sum" = some none)
    (bz16 : PySem.W.nsIn K mainGlobals "enumerate" = some none)
    (bz17 : PySem.W.nsIn K mainGlobals "str" = some none)
    (bz18 : PySem.W.nsIn K mainGlobals "set" = some none)
    (bz19 : PySem.W.nsIn K mainGlobals "dict" = some none)
    (bz20 : PySem.W.nsIn K mainGlobals "ValueError" = some none)
    : ∃ fd : FuncData, (∀ (s : Shared) (v : Value), BindsTo s fd ⟨[v], []⟩ [("_law_script", v)]) ∧ ∀ base : Heap, K.In base → base.Ns mainGlobals mg → FnG P w K mg base 4 fa fd ["_law_script"] (spLaw K) := by
  have e := hfa.symm.trans (PySem.W.mg_of X G a4)
  cases e
  have T : Bi mg := ⟨PySem.W.mg_none_of X G bz0, PySem.W.mg_none_of X G bz1, PySem.W.mg_none_of X G bz2, PySem.W.mg_none_of X G bz3, PySem.W.mg_none_of X G bz4, PySem.W.mg_none_of X G bz5, PySem.W.mg_none_of X G bz6, PySem.W.mg_none_of X G bz7, PySem.W.mg_none_of X G bz8, PySem.W.mg_none_of X G bz9, PySem.W.mg_none_of X G bz10, PySem.W.mg_none_of X G bz11, PySem.W.mg_none_of X G bz12, PySem.W.mg_none_of X G bz13, PySem.W.mg_none_of X G bz14, PySem.W.mg_none_of X G bz15, PySem.W.mg_none_of X G bz16, PySem.W.mg_none_of X G bz17, PySem.W.mg_none_of X G bz18, PySem.W.mg_none_of X G bz19, PySem.W.mg_none_of X G bz20⟩
  have FBo := fun_mk (st := sBox) l0 c0 k0
  have DBo : Def K mg "_law_box" sBox f0 _ ["_law_script", "_law_k"] := ⟨FBo, PySem.W.mg_of X G a0, FBo.binds (ps := ["_law_script", "_law_k"]) fun _ _ _ _ _ _ us hl => match us, hl with | [_, _], _ => rfl⟩
  have FTa := fun_mk (st := sTake) l1 c1 k1
  have DTa : Def K mg "_law_take" sTake f1 _ ["_law_box_here", "_law_many"] := ⟨FTa, PySem.W.mg_of X G a1, FTa.binds (ps := ["_law_box_here", "_law_many"]) fun _ _ _ _ _ _ us hl => match us, hl with | [_, _], _ => rfl⟩
  have FKd := fun_mk (st := sKinds) l2 c2 k2
  have DKd : Def K mg "_law_kinds" sKinds f2 _ ["_law_error"] := ⟨FKd, PySem.W.mg_of X G a2, FKd.binds (ps := ["_law_error"]) fun _ _ _ _ _ _ us hl => match us, hl with | [_], _ => rfl⟩
  have FMd := fun_mk (st := sMade) l3 c3 k3
  have DMd : Def K mg "_law_made" sMade f3 _ ["_law_value"] := ⟨FMd, PySem.W.mg_of X G a3, FMd.binds (ps := ["_law_value"]) fun _ _ _ _ _ _ us hl => match us, hl with | [_], _ => rfl⟩
  have FLa := fun_mk (st := sLaw) l4 c4 k4

  refine ⟨PySem.W.fnOf "law" "law" (defArgs sLaw) (defBody sLaw) (defScope sLaw) .none kV4 dc4 pm4 an4 cd4 ct4, fun s v => .of_eq rfl, fun base _ _ => ?_⟩
  have C0 : ∃ C : Nat → Addr, C = fun i => ([z0, z1, z2, z3, z4, z5, z6, z7, z8, z9, z10, z11, z12, z13, z14, z15] : List Addr).getD i 0 := ⟨_, rfl⟩
  obtain ⟨C, hC⟩ := C0
  have c0_ : C 0 = z0 := by rw [hC]; rfl
  have c1_ : C 1 = z1 := by rw [hC]; rfl
  have c2_ : C 2 = z2 := by rw [hC]; rfl
  have c3_ : C 3 = z3 := by rw [hC]; rfl
  have c4_ : C 4 = z4 := by rw [hC]; rfl
  have c5_ : C 5 = z5 := by rw [hC]; rfl
  have c6_ : C 6 = z6 := by rw [hC]; rfl
  have c7_ : C 7 = z7 := by rw [hC]; rfl
  have c8_ : C 8 = z8 := by rw [hC]; rfl
  have c9_ : C 9 = z9 := by rw [hC]; rfl
  have c10_ : C 10 = z10 := by rw [hC]; rfl
  have c11_ : C 11 = z11 := by rw [hC]; rfl
  have c12_ : C 12 = z12 := by rw [hC]; rfl
  have c13_ : C 13 = z13 := by rw [hC]; rfl
  have c14_ : C 14 = z14 := by rw [hC]; rfl
  have c15_ : C 15 = z15 := by rw [hC]; rfl
  have inj : ∀ i j, i < 16 → j < 16 → C i = C j → i = j := fun i j hi hj e => by
    rw [hC] at e
    exact (List.nodup_iff_injective_getD (l := [z0, z1, z2, z3, z4, z5, z6, z7, z8, z9, z10, z11, z12, z13, z14, z15]) i j hi hj e ndp)
  clear hC ndp
  subst c0_ c1_ c2_ c3_ c4_ c5_ c6_ c7_ c8_ c9_ c10_ c11_ c12_ c13_ c14_ c15_
  have mro : ∀ i, i < 16 → ∃ r, (∀ b, PySem.W.mroIn K (C i) b = some ((Value.ref (C i) :: r).contains b)) ∧ (r = [.type "ValueError", .type "Exception", .type "BaseException", .type "object"] ∨ r = [.ref (C 15), .type "ValueError", .type "Exception", .type "BaseException", .type "object"]) ∧ (i ≠ 15 → r = [.ref (C 15), .type "ValueError", .type "Exception", .type "BaseException", .type "object"]) := fun i hi => match i, hi with
    | 0, _ => ⟨_, fun b => mro_of x0 b, .inr rfl, fun _ => rfl⟩
    | 1, _ => ⟨_, fun b => mro_of x1 b, .inr rfl, fun _ => rfl⟩
    | 2, _ => ⟨_, fun b => mro_of x2 b, .inr rfl, fun _ => rfl⟩
    | 3, _ => ⟨_, fun b => mro_of x3 b, .inr rfl, fun _ => rfl⟩
    | 4, _ => ⟨_, fun b => mro_of x4 b, .inr rfl, fun _ => rfl⟩
    | 5, _ => ⟨_, fun b => mro_of x5 b, .inr rfl, fun _ => rfl⟩
    | 6, _ => ⟨_, fun b => mro_of x6 b, .inr rfl, fun _ => rfl⟩
    | 7, _ => ⟨_, fun b => mro_of x7 b, .inr rfl, fun _ => rfl⟩
    | 8, _ => ⟨_, fun b => mro_of x8 b, .inr rfl, fun _ => rfl⟩
    | 9, _ => ⟨_, fun b => mro_of x9 b, .inr rfl, fun _ => rfl⟩
    | 10, _ => ⟨_, fun b => mro_of x10 b, .inr rfl, fun _ => rfl⟩
    | 11, _ => ⟨_, fun b => mro_of x11 b, .inr rfl, fun _ => rfl⟩
    | 12, _ => ⟨_, fun b => mro_of x12 b, .inr rfl, fun _ => rfl⟩
    | 13, _ => ⟨_, fun b => mro_of x13 b, .inr rfl, fun _ => rfl⟩
    | 14, _ => ⟨_, fun b => mro_of x14 b, .inr rfl, fun _ => rfl⟩
    | 15, _ => ⟨_, fun b => mro_of x15 b, .inl rfl, fun z => absurd rfl z⟩
    | n + 16, h => absurd h (by omega)
  have cls : ∀ i, i < 16 → ((PySem.W.clsIn K (C i)).isSome && PySem.W.typeIn K (.ref (C i)) == some (.type "type")) = true := fun i hi => match i, hi with
    | 0, _ => by rw [cls_of x0, ty0]; rfl
    | 1, _ => by rw [cls_of x1, ty1]; rfl
    | 2, _ => by rw [cls_of x2, ty2]; rfl
    | 3, _ => by rw [cls_of x3, ty3]; rfl
    | 4, _ => by rw [cls_of x4, ty4]; rfl
    | 5, _ => by rw [cls_of x5, ty5]; rfl
    | 6, _ => by rw [cls_of x6, ty6]; rfl
    | 7, _ => by rw [cls_of x7, ty7]; rfl
    | 8, _ => by rw [cls_of x8, ty8]; rfl
    | 9, _ => by rw [cls_of x9, ty9]; rfl
    | 10, _ => by rw [cls_of x10, ty10]; rfl
    | 11, _ => by rw [cls_of x11, ty11]; rfl
    | 12, _ => by rw [cls_of x12, ty12]; rfl
    | 13, _ => by rw [cls_of x13, ty13]; rfl
    | 14, _ => by rw [cls_of x14, ty14]; rfl
    | 15, _ => by rw [cls_of x15, ty15]; rfl
    | n + 16, h => absurd h (by omega)
  have exc : ∀ i, i < 16 → ExcC K (C i) := fun i hi => match i, hi with
    | 0, _ => ⟨ga0, gg0, by show PySem.W.mroIn K (C 0) _ = _; rw [mro_of x0]; rfl, hd0, gc0, spc, tkc, by rw [mro_of x0]; rfl⟩
    | 1, _ => ⟨ga1, gg1, by show PySem.W.mroIn K (C 1) _ = _; rw [mro_of x1]; rfl, hd1, gc1, spc, tkc, by rw [mro_of x1]; rfl⟩
    | 2, _ => ⟨ga2, gg2, by show PySem.W.mroIn K (C 2) _ = _; rw [mro_of x2]; rfl, hd2, gc2, spc, tkc, by rw [mro_of x2]; rfl⟩
    | 3, _ => ⟨ga3, gg3, by show PySem.W.mroIn K (C 3) _ = _; rw [mro_of x3]; rfl, hd3, gc3, spc, tkc, by rw [mro_of x3]; rfl⟩
    | 4, _ => ⟨ga4, gg4, by show PySem.W.mroIn K (C 4) _ = _; rw [mro_of x4]; rfl, hd4, gc4, spc, tkc, by rw [mro_of x4]; rfl⟩
    | 5, _ => ⟨ga5, gg5, by show PySem.W.mroIn K (C 5) _ = _; rw [mro_of x5]; rfl, hd5, gc5, spc, tkc, by rw [mro_of x5]; rfl⟩
    | 6, _ => ⟨ga6, gg6, by show PySem.W.mroIn K (C 6) _ = _; rw [mro_of x6]; rfl, hd6, gc6, spc, tkc, by rw [mro_of x6]; rfl⟩
    | 7, _ => ⟨ga7, gg7, by show PySem.W.mroIn K (C 7) _ = _; rw [mro_of x7]; rfl, hd7, gc7, spc, tkc, by rw [mro_of x7]; rfl⟩
    | 8, _ => ⟨ga8, gg8, by show PySem.W.mroIn K (C 8) _ = _; rw [mro_of x8]; rfl, hd8, gc8, spc, tkc, by rw [mro_of x8]; rfl⟩
    | 9, _ => ⟨ga9, gg9, by show PySem.W.mroIn K (C 9) _ = _; rw [mro_of x9]; rfl, hd9, gc9, spc, tkc, by rw [mro_of x9]; rfl⟩
    | 10, _ => ⟨ga10, gg10, by show PySem.W.mroIn K (C 10) _ = _; rw [mro_of x10]; rfl, hd10, gc10, spc, tkc, by rw [mro_of x10]; rfl⟩
    | 11, _ => ⟨ga11, gg11, by show PySem.W.mroIn K (C 11) _ = _; rw [mro_of x11]; rfl, hd11, gc11, spc, tkc, by rw [mro_of x11]; rfl⟩
    | 12, _ => ⟨ga12, gg12, by show PySem.W.mroIn K (C 12) _ = _; rw [mro_of x12]; rfl, hd12, gc12, spc, tkc, by rw [mro_of x12]; rfl⟩
    | 13, _ => ⟨ga13, gg13, by show PySem.W.mroIn K (C 13) _ = _; rw [mro_of x13]; rfl, hd13, gc13, spc, tkc, by rw [mro_of x13]; rfl⟩
    | 14, _ => ⟨ga14, gg14, by show PySem.W.mroIn K (C 14) _ = _; rw [mro_of x14]; rfl, hd14, gc14, spc, tkc, by rw [mro_of x14]; rfl⟩
    | 15, _ => ⟨ga15, gg15, by show PySem.W.mroIn K (C 15) _ = _; rw [mro_of x15]; rfl, hd15, gc15, spc, tkc, by rw [mro_of x15]; rfl⟩
    | n + 16, h => absurd h (by omega)
  have S : Errs K mg C := ⟨PySem.W.mg_of X G mz0, PySem.W.mg_of X G mz1, PySem.W.mg_of X G mz2, PySem.W.mg_of X G mz3, PySem.W.mg_of X G mz4, PySem.W.mg_of X G mz5, PySem.W.mg_of X G mz6, PySem.W.mg_of X G mz7, PySem.W.mg_of X G mz8, PySem.W.mg_of X G mz9, PySem.W.mg_of X G mz10, PySem.W.mg_of X G mz11, PySem.W.mg_of X G mz12, PySem.W.mg_of X G mz13, PySem.W.mg_of X G mz14, PySem.W.mg_of X G mz15, exc, kits inj mro cls, kitsO inj mro cls, kitsV mro⟩
  have OX0 : OexC K (C 0) := ⟨⟨_, _, _, _, _, _, _, _, _, _, _, _, _, _, _, x0, by rfl⟩, sa0, by show PySem.W.mroIn K (C 0) _ = _; rw [mro_of x0]; rfl, ty0, gk0⟩
  have FI0 := fun_mk (st := sICommandError) fl0 fc0 fk0
  have BI0 := FI0.binds (ps := ["self", "line"]) fun _ _ _ _ _ _ us hl => match us, hl with | [_, _], _ => rfl
  have E0 : Er P w K mg base 1 (C 0) "line" := ⟨OX0, ⟨_, _, fi_0, ft0, okICommandError FI0 OX0 no0, BI0⟩, ⟨ga0, gg0, (exc 0 (by decide)).hs, hd0⟩, no0⟩
  have OX1 : OexC K (C 1) := ⟨⟨_, _, _, _, _, _, _, _, _, _, _, _, _, _, _, x1, by rfl⟩, sa1, by show PySem.W.mroIn K (C 1) _ = _; rw [mro_of x1]; rfl, ty1, gk1⟩
  have FI1 := fun_mk (st := sIInvalidCode) fl1 fc1 fk1
  have BI1 := FI1.binds (ps := ["self", "value"]) fun _ _ _ _ _ _ us hl => match us, hl with | [_, _], _ => rfl
  have E1 : Er P w K mg base 1 (C 1) "value" := ⟨OX1, ⟨_, _, fi_1, ft1, okIInvalidCode FI1 OX1 no1, BI1⟩, ⟨ga1, gg1, (exc 1 (by decide)).hs, hd1⟩, no1⟩
  have OX2 : OexC K (C 2) := ⟨⟨_, _, _, _, _, _, _, _, _, _, _, _, _, _, _, x2, by rfl⟩, sa2, by show PySem.W.mroIn K (C 2) _ = _; rw [mro_of x2]; rfl, ty2, gk2⟩
  have FI2 := fun_mk (st := sIInvalidCountdowns) fl2 fc2 fk2
  have BI2 := FI2.binds (ps := ["self", "value"]) fun _ _ _ _ _ _ us hl => match us, hl with | [_, _], _ => rfl
  have E2 : Er P w K mg base 1 (C 2) "value" := ⟨OX2, ⟨_, _, fi_2, ft2, okIInvalidCountdowns FI2 OX2 no2, BI2⟩, ⟨ga2, gg2, (exc 2 (by decide)).hs, hd2⟩, no2⟩
  have OX3 : OexC K (C 3) := ⟨⟨_, _, _, _, _, _, _, _, _, _, _, _, _, _, _, x3, by rfl⟩, sa3, by show PySem.W.mroIn K (C 3) _ = _; rw [mro_of x3]; rfl, ty3, gk3⟩
  have FI3 := fun_mk (st := sIInvalidEntries) fl3 fc3 fk3
  have BI3 := FI3.binds (ps := ["self", "value"]) fun _ _ _ _ _ _ us hl => match us, hl with | [_, _], _ => rfl
  have E3 : Er P w K mg base 1 (C 3) "value" := ⟨OX3, ⟨_, _, fi_3, ft3, okIInvalidEntries FI3 OX3 no3, BI3⟩, ⟨ga3, gg3, (exc 3 (by decide)).hs, hd3⟩, no3⟩
  have OX4 : OexC K (C 4) := ⟨⟨_, _, _, _, _, _, _, _, _, _, _, _, _, _, _, x4, by rfl⟩, sa4, by show PySem.W.mroIn K (C 4) _ = _; rw [mro_of x4]; rfl, ty4, gk4⟩
  have FI4 := fun_mk (st := sIInvalidEntry) fl4 fc4 fk4
  have BI4 := FI4.binds (ps := ["self", "value"]) fun _ _ _ _ _ _ us hl => match us, hl with | [_, _], _ => rfl
  have E4 : Er P w K mg base 1 (C 4) "value" := ⟨OX4, ⟨_, _, fi_4, ft4, okIInvalidEntry FI4 OX4 no4, BI4⟩, ⟨ga4, gg4, (exc 4 (by decide)).hs, hd4⟩, no4⟩
  have OX5 : OexC K (C 5) := ⟨⟨_, _, _, _, _, _, _, _, _, _, _, _, _, _, _, x5, by rfl⟩, sa5, by show PySem.W.mroIn K (C 5) _ = _; rw [mro_of x5]; rfl, ty5, gk5⟩
  have FI5 := fun_mk (st := sIInvalidInstructionSet) fl5 fc5 fk5
  have BI5 := FI5.binds (ps := ["self", "field"]) fun _ _ _ _ _ _ us hl => match us, hl with | [_, _], _ => rfl
  have E5 : Er P w K mg base 1 (C 5) "field" := ⟨OX5, ⟨_, _, fi_5, ft5, okIInvalidInstructionSet FI5 OX5 no5, BI5⟩, ⟨ga5, gg5, (exc 5 (by decide)).hs, hd5⟩, no5⟩
  have OX6 : OexC K (C 6) := ⟨⟨_, _, _, _, _, _, _, _, _, _, _, _, _, _, _, x6, by rfl⟩, sa6, by show PySem.W.mroIn K (C 6) _ = _; rw [mro_of x6]; rfl, ty6, gk6⟩
  have FI6 := fun_mk (st := sIInvalidLengths) fl6 fc6 fk6
  have BI6 := FI6.binds (ps := ["self", "value"]) fun _ _ _ _ _ _ us hl => match us, hl with | [_, _], _ => rfl
  have E6 : Er P w K mg base 1 (C 6) "value" := ⟨OX6, ⟨_, _, fi_6, ft6, okIInvalidLengths FI6 OX6 no6, BI6⟩, ⟨ga6, gg6, (exc 6 (by decide)).hs, hd6⟩, no6⟩
  have OX7 : OexC K (C 7) := ⟨⟨_, _, _, _, _, _, _, _, _, _, _, _, _, _, _, x7, by rfl⟩, sa7, by show PySem.W.mroIn K (C 7) _ = _; rw [mro_of x7]; rfl, ty7, gk7⟩
  have FI7 := fun_mk (st := sIInvalidNumber) fl7 fc7 fk7
  have BI7 := FI7.binds (ps := ["self", "value"]) fun _ _ _ _ _ _ us hl => match us, hl with | [_, _], _ => rfl
  have E7 : Er P w K mg base 1 (C 7) "value" := ⟨OX7, ⟨_, _, fi_7, ft7, okIInvalidNumber FI7 OX7 no7, BI7⟩, ⟨ga7, gg7, (exc 7 (by decide)).hs, hd7⟩, no7⟩
  have OX8 : OexC K (C 8) := ⟨⟨_, _, _, _, _, _, _, _, _, _, _, _, _, _, _, x8, by rfl⟩, sa8, by show PySem.W.mroIn K (C 8) _ = _; rw [mro_of x8]; rfl, ty8, gk8⟩
  have FI8 := fun_mk (st := sIInvalidOffset) fl8 fc8 fk8
  have BI8 := FI8.binds (ps := ["self", "value"]) fun _ _ _ _ _ _ us hl => match us, hl with | [_, _], _ => rfl
  have E8 : Er P w K mg base 1 (C 8) "value" := ⟨OX8, ⟨_, _, fi_8, ft8, okIInvalidOffset FI8 OX8 no8, BI8⟩, ⟨ga8, gg8, (exc 8 (by decide)).hs, hd8⟩, no8⟩
  have OX9 : OexC K (C 9) := ⟨⟨_, _, _, _, _, _, _, _, _, _, _, _, _, _, _, x9, by rfl⟩, sa9, by show PySem.W.mroIn K (C 9) _ = _; rw [mro_of x9]; rfl, ty9, gk9⟩
  have FI9 := fun_mk (st := sIInvalidProgram) fl9 fc9 fk9
  have BI9 := FI9.binds (ps := ["self", "value"]) fun _ _ _ _ _ _ us hl => match us, hl with | [_, _], _ => rfl
  have E9 : Er P w K mg base 1 (C 9) "value" := ⟨OX9, ⟨_, _, fi_9, ft9, okIInvalidProgram FI9 OX9 no9, BI9⟩, ⟨ga9, gg9, (exc 9 (by decide)).hs, hd9⟩, no9⟩
  have OX10 : OexC K (C 10) := ⟨⟨_, _, _, _, _, _, _, _, _, _, _, _, _, _, _, x10, by rfl⟩, sa10, by show PySem.W.mroIn K (C 10) _ = _; rw [mro_of x10]; rfl, ty10, gk10⟩
  have FI10 := fun_mk (st := sIInvalidTimes) fl10 fc10 fk10
  have BI10 := FI10.binds (ps := ["self", "value"]) fun _ _ _ _ _ _ us hl => match us, hl with | [_, _], _ => rfl
  have E10 : Er P w K mg base 1 (C 10) "value" := ⟨OX10, ⟨_, _, fi_10, ft10, okIInvalidTimes FI10 OX10 no10, BI10⟩, ⟨ga10, gg10, (exc 10 (by decide)).hs, hd10⟩, no10⟩
  have OX12 : OexC K (C 12) := ⟨⟨_, _, _, _, _, _, _, _, _, _, _, _, _, _, _, x12, by rfl⟩, sa12, by show PySem.W.mroIn K (C 12) _ = _; rw [mro_of x12]; rfl, ty12, gk12⟩
  have FI12 := fun_mk (st := sIParseError) fl12 fc12 fk12
  have BI12 := FI12.binds (ps := ["self", "line"]) fun _ _ _ _ _ _ us hl => match us, hl with | [_, _], _ => rfl
  have E12 : Er P w K mg base 1 (C 12) "line" := ⟨OX12, ⟨_, _, fi_12, ft12, okIParseError FI12 OX12 no12, BI12⟩, ⟨ga12, gg12, (exc 12 (by decide)).hs, hd12⟩, no12⟩
  have OX13 : OexC K (C 13) := ⟨⟨_, _, _, _, _, _, _, _, _, _, _, _, _, _, _, x13, by rfl⟩, sa13, by show PySem.W.mroIn K (C 13) _ = _; rw [mro_of x13]; rfl, ty13, gk13⟩
  have FI13 := fun_mk (st := sITooLong) fl13 fc13 fk13
  have BI13 := FI13.binds (ps := ["self", "size"]) fun _ _ _ _ _ _ us hl => match us, hl with | [_, _], _ => rfl
  have E13 : Er P w K mg base 1 (C 13) "size" := ⟨OX13, ⟨_, _, fi_13, ft13, okITooLong FI13 OX13 no13, BI13⟩, ⟨ga13, gg13, (exc 13 (by decide)).hs, hd13⟩, no13⟩
  have OX14 : OexC K (C 14) := ⟨⟨_, _, _, _, _, _, _, _, _, _, _, _, _, _, _, x14, by rfl⟩, sa14, by show PySem.W.mroIn K (C 14) _ = _; rw [mro_of x14]; rfl, ty14, gk14⟩
  have FI14 := fun_mk (st := sITooManyStates) fl14 fc14 fk14
  have BI14 := FI14.binds (ps := ["self", "count"]) fun _ _ _ _ _ _ us hl => match us, hl with | [_, _], _ => rfl
  have E14 : Er P w K mg base 1 (C 14) "count" := ⟨OX14, ⟨_, _, fi_14, ft14, okITooManyStates FI14 OX14 no14, BI14⟩, ⟨ga14, gg14, (exc 14 (by decide)).hs, hd14⟩, no14⟩
  have GMd : FnOk P w K mg base CX0 3 _ _ ["_law_value"] (spMade C) := ok_made FMd T S E0 E1 E2 E3 E4 E5 E6 E7 E8 E9 E10 E12 E13 E14 ex11 gk11
  exact ok_law FLa T S ex15 gk15 DBo (ok_box FBo T) DTa (ok_take FTa) DKd (ok_kinds FKd T S) DMd GMd
end Ov
open PySem PySem.W PyProof.Rows
set_option maxRecDepth 100000 in
set_option maxHeartbeats 0 in
theorem PySem.Challenge.cw_overlapcode_k20_errors_holds : PySem.Challenge.rw_overlapcode_k20_errors.Holds := by
  w_on; o_law; k_head; (case hw => w_witness2)
  k_fill
  refine Ov.walkG (l := PySem.Challenge.rw_overlapcode_k20_errors) (n := 63) (k := 4) (x := "_law_script") (sp := fun K => Ov.spLaw K) rfl (by decide) rfl ⟨rfl, by decide, by decide⟩ (fun w h Y => PySem.W.kIn_of Y) ?F (fun _ _ a ns hl hS => ⟨a, ns, rfl, hS, hl, fun _ => rfl⟩)
  case F =>
    intro w mg fa h KX G hmg
    refine' Ov.all_mk KX G hmg ?a0 ?l0 ?c0 ?k0 ?a1 ?l1 ?c1 ?k1 ?a2 ?l2 ?c2 ?k2 ?a3 ?l3 ?c3 ?k3 ?a4 ?l4 ?c4 ?k4 ?mz0 ?mz1 ?mz2 ?mz3 ?mz4 ?mz5 ?mz6 ?mz7 ?mz8 ?mz9 ?mz10 ?mz11 ?mz12 ?mz13 ?mz14 ?mz15 ?x0 ?ga0 ?gg0 ?gc0 ?gk0 ?ty0 ?hd0 ?sa0 ?no0 ?fi_0 ?ft0 ?fl0 ?fc0 ?fk0 ?x1 ?ga1 ?gg1 ?gc1 ?gk1 ?ty1 ?hd1 ?sa1 ?no1 ?fi_1 ?ft1 ?fl1 ?fc1 ?fk1 ?x2 ?ga2 ?gg2 ?gc2 ?gk2 ?ty2 ?hd2 ?sa2 ?no2 ?fi_2 ?ft2 ?fl2 ?fc2 ?fk2 ?x3 ?ga3 ?gg3 ?gc3 ?gk3 ?ty3 ?hd3 ?sa3 ?no3 ?fi_3 ?ft3 ?fl3 ?fc3 ?fk3 ?x4 ?ga4 ?gg4 ?gc4 ?gk4 ?ty4 ?hd4 ?sa4 ?no4 ?fi_4 ?ft4 ?fl4 ?fc4 ?fk4 ?x5 ?ga5 ?gg5 ?gc5 ?gk5 ?ty5 ?hd5 ?sa5 ?no5 ?fi_5 ?ft5 ?fl5 ?fc5 ?fk5 ?x6 ?ga6 ?gg6 ?gc6 ?gk6 ?ty6 ?hd6 ?sa6 ?no6 ?fi_6 ?ft6 ?fl6 ?fc6 ?fk6 ?x7 ?ga7 ?gg7 ?gc7 ?gk7 ?ty7 ?hd7 ?sa7 ?no7 ?fi_7 ?ft7 ?fl7 ?fc7 ?fk7 ?x8 ?ga8 ?gg8 ?gc8 ?gk8 ?ty8 ?hd8 ?sa8 ?no8 ?fi_8 ?ft8 ?fl8 ?fc8 ?fk8 ?x9 ?ga9 ?gg9 ?gc9 ?gk9 ?ty9 ?hd9 ?sa9 ?no9 ?fi_9 ?ft9 ?fl9 ?fc9 ?fk9 ?x10 ?ga10 ?gg10 ?gc10 ?gk10 ?ty10 ?hd10 ?sa10 ?no10 ?fi_10 ?ft10 ?fl10 ?fc10 ?fk10 ?x11 ?ga11 ?gg11 ?gc11 ?gk11 ?ty11 ?hd11 ?ex11 ?x12 ?ga12 ?gg12 ?gc12 ?gk12 ?ty12 ?hd12 ?sa12 ?no12 ?fi_12 ?ft12 ?fl12 ?fc12 ?fk12 ?x13 ?ga13 ?gg13 ?gc13 ?gk13 ?ty13 ?hd13 ?sa13 ?no13 ?fi_13 ?ft13 ?fl13 ?fc13 ?fk13 ?x14 ?ga14 ?gg14 ?gc14 ?gk14 ?ty14 ?hd14 ?sa14 ?no14 ?fi_14 ?ft14 ?fl14 ?fc14 ?fk14 ?x15 ?ga15 ?gg15 ?gc15 ?gk15 ?ty15 ?hd15 ?ex15 ?spc ?tkc ?ndp ?bz0 ?bz1 ?bz2 ?bz3 ?bz4 ?bz5 ?bz6 ?bz7 ?bz8 ?bz9 ?bz10 ?bz11 ?bz12 ?bz13 ?bz14 ?bz15 ?bz16 ?bz17 ?bz18 ?bz19 ?bz20
    (case a0 => k_is)
    (case l0 => k_is)
    (case c0 => k_is)
    (case k0 => k_is)
    (case a1 => k_is)
    (case l1 => k_is)
    (case c1 => k_is)
    (case k1 => k_is)
    (case a2 => k_is)
    (case l2 => k_is)
    (case c2 => k_is)
    (case k2 => k_is)
    (case a3 => k_is)
    (case l3 => k_is)
    (case c3 => k_is)
    (case k3 => k_is)
    (case a4 => k_is)
    (case l4 => k_is)
    (case c4 => k_is)
    (case k4 => k_is)
    (case mz0 => k_is)
    (case mz1 => k_is)
    (case mz2 => k_is)
    (case mz3 => k_is)
    (case mz4 => k_is)
    (case mz5 => k_is)
    (case mz6 => k_is)
    (case mz7 => k_is)
    (case mz8 => k_is)
    (case mz9 => k_is)
    (case mz10 => k_is)
    (case mz11 => k_is)
    (case mz12 => k_is)
    (case mz13 => k_is)
    (case mz14 => k_is)
    (case mz15 => k_is)
    (case x0 => k_is)
    (case ga0 => k_is)
    (case gg0 => k_is)
    (case gc0 => k_is)
    (case gk0 => k_is)
    (case ty0 => k_is)
    (case hd0 => k_is)
    (case sa0 => k_is)
    (case no0 => k_is)
    (case fi_0 => k_is)
    (case ft0 => k_is)
    (case fl0 => k_is)
    (case fc0 => k_is)
    (case fk0 => k_is)
    (case x1 => k_is)
    (case ga1 => k_is)
    (case gg1 => k_is)
    (case gc1 => k_is)
    (case gk1 => k_is)
    (case ty1 => k_is)
    (case hd1 => k_is)
    (case sa1 => k_is)
    (case no1 => k_is)
    (case fi_1 => k_is)
    (case ft1 => k_is)
    (case fl1 => k_is)
    (case fc1 => k_is)
    (case fk1 => k_is)
    (case x2 => k_is)
    (case ga2 => k_is)
    (case gg2 => k_is)
    (case gc2 => k_is)
    (case gk2 => k_is)
    (case ty2 => k_is)
    (case hd2 => k_is)
    (case sa2 => k_is)
    (case no2 => k_is)
    (case fi_2 => k_is)
    (case ft2 => k_is)
    (case fl2 => k_is)
    (case fc2 => k_is)
    (case fk2 => k_is)
    (case x3 => k_is)
    (case ga3 => k_is)
    (case gg3 => k_is)
    (case gc3 => k_is)
    (case gk3 => k_is)
    (case ty3 => k_is)
    (case hd3 => k_is)
    (case sa3 => k_is)
    (case no3 => k_is)
    (case fi_3 => k_is)
    (case ft3 => k_is)
    (case fl3 => k_is)
    (case fc3 => k_is)
    (case fk3 => k_is)
    (case x4 => k_is)
    (case ga4 => k_is)
    (case gg4 => k_is)
    (case gc4 => k_is)
    (case gk4 => k_is)
    (case ty4 => k_is)
    (case hd4 => k_is)
    (case sa4 => k_is)
    (case no4 => k_is)
    (case fi_4 => k_is)
    (case ft4 => k_is)
    (case fl4 => k_is)
    (case fc4 => k_is)
    (case fk4 => k_is)
    (case x5 => k_is)
    (case ga5 => k_is)
    (case gg5 => k_is)
    (case gc5 => k_is)
    (case gk5 => k_is)
    (case ty5 => k_is)
    (case hd5 => k_is)
    (case sa5 => k_is)
    (case no5 => k_is)
    (case fi_5 => k_is)
    (case ft5 => k_is)
    (case fl5 => k_is)
    (case fc5 => k_is)
    (case fk5 => k_is)
    (case x6 => k_is)
    (case ga6 => k_is)
    (case gg6 => k_is)
    (case gc6 => k_is)
    (case gk6 => k_is)
    (case ty6 => k_is)
    (case hd6 => k_is)
    (case sa6 => k_is)
    (case no6 => k_is)
    (case fi_6 => k_is)
    (case ft6 => k_is)
    (case fl6 => k_is)
    (case fc6 => k_is)
    (case fk6 => k_is)
    (case x7 => k_is)
    (case ga7 => k_is)
    (case gg7 => k_is)
    (case gc7 => k_is)
    (case gk7 => k_is)
    (case ty7 => k_is)
    (case hd7 => k_is)
    (case sa7 => k_is)
    (case no7 => k_is)
    (case fi_7 => k_is)
    (case ft7 => k_is)
    (case fl7 => k_is)
    (case fc7 => k_is)
    (case fk7 => k_is)
    (case x8 => k_is)
    (case ga8 => k_is)
    (case gg8 => k_is)
    (case gc8 => k_is)
    (case gk8 => k_is)
    (case ty8 => k_is)
    (case hd8 => k_is)
    (case sa8 => k_is)
    (case no8 => k_is)
    (case fi_8 => k_is)
    (case ft8 => k_is)
    (case fl8 => k_is)
    (case fc8 => k_is)
    (case fk8 => k_is)
    (case x9 => k_is)
    (case ga9 => k_is)
    (case gg9 => k_is)
    (case gc9 => k_is)
    (case gk9 => k_is)
    (case ty9 => k_is)
    (case hd9 => k_is)
    (case sa9 => k_is)
    (case no9 => k_is)
    (case fi_9 => k_is)
    (case ft9 => k_is)
    (case fl9 => k_is)
    (case fc9 => k_is)
    (case fk9 => k_is)
    (case x10 => k_is)
    (case ga10 => k_is)
    (case gg10 => k_is)
    (case gc10 => k_is)
    (case gk10 => k_is)
    (case ty10 => k_is)
    (case hd10 => k_is)
    (case sa10 => k_is)
    (case no10 => k_is)
    (case fi_10 => k_is)
    (case ft10 => k_is)
    (case fl10 => k_is)
    (case fc10 => k_is)
    (case fk10 => k_is)
    (case x11 => k_is)
    (case ga11 => k_is)
    (case gg11 => k_is)
    (case gc11 => k_is)
    (case gk11 => k_is)
    (case ty11 => k_is)
    (case hd11 => k_is)
    (case ex11 => k_exc)
    (case x12 => k_is)
    (case ga12 => k_is)
    (case gg12 => k_is)
    (case gc12 => k_is)
    (case gk12 => k_is)
    (case ty12 => k_is)
    (case hd12 => k_is)
    (case sa12 => k_is)
    (case no12 => k_is)
    (case fi_12 => k_is)
    (case ft12 => k_is)
    (case fl12 => k_is)
    (case fc12 => k_is)
    (case fk12 => k_is)
    (case x13 => k_is)
    (case ga13 => k_is)
    (case gg13 => k_is)
    (case gc13 => k_is)
    (case gk13 => k_is)
    (case ty13 => k_is)
    (case hd13 => k_is)
    (case sa13 => k_is)
    (case no13 => k_is)
    (case fi_13 => k_is)
    (case ft13 => k_is)
    (case fl13 => k_is)
    (case fc13 => k_is)
    (case fk13 => k_is)
    (case x14 => k_is)
    (case ga14 => k_is)
    (case gg14 => k_is)
    (case gc14 => k_is)
    (case gk14 => k_is)
    (case ty14 => k_is)
    (case hd14 => k_is)
    (case sa14 => k_is)
    (case no14 => k_is)
    (case fi_14 => k_is)
    (case ft14 => k_is)
    (case fl14 => k_is)
    (case fc14 => k_is)
    (case fk14 => k_is)
    (case x15 => k_is)
    (case ga15 => k_is)
    (case gg15 => k_is)
    (case gc15 => k_is)
    (case gk15 => k_is)
    (case ty15 => k_is)
    (case hd15 => k_is)
    (case ex15 => k_exc)
    (case spc => k_is)
    (case tkc => k_is)
    (case ndp => decide)
    (case bz0 => k_is)
    (case bz1 => k_is)
    (case bz2 => k_is)
    (case bz3 => k_is)
    (case bz4 => k_is)
    (case bz5 => k_is)
    (case bz6 => k_is)
    (case bz7 => k_is)
    (case bz8 => k_is)
    (case bz9 => k_is)
    (case bz10 => k_is)
    (case bz11 => k_is)
    (case bz12 => k_is)
    (case bz13 => k_is)
    (case bz14 => k_is)
    (case bz15 => k_is)
    (case bz16 => k_is)
    (case bz17 => k_is)
    (case bz18 => k_is)
    (case bz19 => k_is)
    (case bz20 => k_is)
