import PyProof.Rows.All
import Wide.All
import OpenK.AllK
import Wide.FinOn
import HandS.ForMost
import HandS.IsInst
import HandS.Zip
import HandS.TupAny
import HandS.Wide
import HandS.More
import HandS.Walk
import HandS.RaiseMore
import HandS.Flow
import HandS.Conv
import HandS.MakeKwOnly
import HandS.Text
import HandS.Strs
import HandS.Codes
import HandS.TupMul
import PyProof.AutoSeq1
import HandS.DictComp
import HandS.TupLe
import HandS.TryOnly
import PySem.Challenge.RW_overlapcode_k25_maps_composed_and_repeat
set_option Elab.async false
set_option linter.all false
set_option maxRecDepth 100000
set_option maxHeartbeats 4000000
namespace Ov
open PySem PySem.Spec PyProof.Rows L2
/-! ### heaps -/
theorem same_upd {H : Hp} {p : Addr} {o : HO} (h : H p = none) : Same H (upd H p o) := fun b x e => by
  rw [upd_ne (ne_of_none e h)]
  exact e
theorem _root_.L2.Same.tup {K : PySem.W.Frag} {H H' : Hp} {a : Addr} {xs : List V} (e : Same H H') (h : SqT K H a xs) : SqT K H' a xs := by
  rcases h with (h | ⟨o, h⟩) | h
  · exact .inl (.inl (e _ _ h))
  · exact .inl (.inr ⟨o, e _ _ h⟩)
  · exact .inr h
/-- a new list in the making at D: all that stood before stands, D is new and holds acc -/
structure Mk (H H' : Hp) (D : Addr) (acc : List V) : Prop where
  same : Same H H'
  new : H D = none
  at_ : H' D = some (.lst acc)
theorem Mk.start {H : Hp} {D : Addr} (h : H D = none) : Mk H (upd H D (.lst [])) D [] := ⟨same_upd h, h, upd_same⟩
theorem Mk.put {H H' H4 : Hp} {D : Addr} {acc acc' : List V} (m : Mk H H' D acc) (s : Same H' H4) : Mk H (upd H4 D (.lst acc')) D acc' :=
  ⟨fun b o e => by rw [upd_ne (ne_of_none e m.new)]; exact s _ _ (m.same _ _ e), m.new, upd_same⟩
/-- two tuples walked abreast -/
theorem walk_zipT {K : PySem.W.Frag} {a b : Addr} {xs ys : List V} {n : Nat} (hn : n = min xs.length ys.length) : Walk (RZ.ItzT K a b) n (fun H => SqT K H a xs ∧ SqT K H b ys) (YPair (fun i => xs[i]?) (fun i => ys[i]?)) := by
  subst hn
  refine ⟨fun i _ hi q => ?_, fun _ q => ⟨xs, ys, q.1, q.2, by omega⟩, fun i H v H' _ q y => ?_⟩
  · have h1 : i < xs.length := by omega
    have h2 : i < ys.length := by omega
    exact ⟨xs, ys, xs[i], ys[i], q.1, q.2, by simp [h1], by simp [h2]⟩
  · obtain ⟨T, x, z, h1, h2, h3, h4, h5⟩ := y
    exact ⟨T, x, z, h1, h2, h3, h4 xs q.1, h5 ys q.2⟩
theorem cut1 (xs : List V) : cutV xs (some 1) none = xs.drop 1 := by
  unfold cutV
  rw [show HT.sIx xs.length 0 (some 1) = min 1 xs.length from HT.sIx_nat xs.length 0 1, HT.sIx_none]
  cases xs with
  | nil => rfl
  | cons x r =>
    rw [show min 1 (x :: r).length = 1 by
      rw [List.length_cons]
      omega]
    show (List.take ((x :: r).length - 1) r) = r
    rw [List.length_cons, Nat.add_sub_cancel]
    exact List.take_length
theorem cut1_whole {xs : List V} (h : HT.sIx xs.length 0 (some 1) = 0 ∧ HT.sIx xs.length xs.length none = xs.length) : xs = [] := by
  have h1 := h.1
  rw [show HT.sIx xs.length 0 (some 1) = min 1 xs.length from HT.sIx_nat xs.length 0 1] at h1
  cases xs with
  | nil => rfl
  | cons x r => rw [List.length_cons] at h1; omega
/-! ### targets: two names -/
theorem pg_two {X : Cx} {x y : Str} {p1 p2 pos : Pos} {kk i j : Nat} (hc : X.calm = true) (hN : X.N.Nodup) (hi : X.N[i]? = some x) (hx : Loc X.env.scope x) (hfx : X.fn x = true ∨ X.env.scope.names.lookup x = some .local) (hj : X.N[j]? = some y) (hy : Loc X.env.scope y) (hfy : X.fn y = true ∨ X.env.scope.names.lookup y = some .local) :
    PG X (.Tuple [.Name x p1, .Name y p2] kk pos) (gTup X.K 2 (gCons (gName i) (gCons (gName j) gNil))) :=
  pg_tup hc (pgs_cons (pg_name hN hi hx hfx) (pgs_cons (pg_name hN hj hy hfy) pgs_nil))
/-! ### repr of a bool, a call by keywords alone -/
section
variable {X : Cx}
def boolText (b : Bool) : Str := if b then "True" else "False"
theorem call_repr_bool : CallR X (.builtin "repr") (fun xs H Q => ∃ b, xs = [.bl b] ∧ Q (.str (boolText b)) H) := by
  intro pins s σ H xs us Q I r h
  obtain ⟨b, rfl, q⟩ := h
  obtain ⟨u, rfl, rx⟩ := vals1 r
  cases (show u = Value.bool b from rx)
  exact PySem.P.repr_of_bool ⟨.str _, H, I.tok _, ⟨_, rfl⟩, q⟩
theorem boolText_inj {a b : Bool} : boolText a = boolText b ↔ a = b := by
  cases a <;> cases b <;> decide
variable {k : Nat} {f : Addr} {fd : FuncData} {ps ks : List Str} {sp : Sp} {CX : CXT} {E : XK} {x : Str} {p pos : Pos} {kws : List PySem.Keyword} {tk : TA} {g : List Value → List Value → List Value} {gV : List V → List V → List V}
theorem pe_callK0 (F : FnOk X.prog X.w X.K X.mg X.base CX k f fd ps sp) (hr : Room k X.A) (hg : Gl X x) (hm : X.mg x = some (.ref f)) (hk : PySem.W.keepIn X.K (.ref f) = true) (hb : KBinds X.K fd ps ks g gV) (hx : Passes CX X E)
    (hkw : PK X kws tk) (hall : (backToKw pos (keywordEach kws X.env)).all (·.1.isSome) = true := by rfl) (hks : (backToKw pos (keywordEach kws X.env)).filterMap (·.1) = ks := by rfl)
    (hdb : (x == ("__debug__" : Str)) = false := by decide)
    (hpl : ((backTo pos (starEach [] X.env)).any (·.1) || (backToKw pos (keywordEach kws X.env)).any (·.1.isNone)) = false := by rfl) :
    PE X (.Call (.Name x p) [] kws pos) (tCallK sp gV E tNil tk) := by
  refine ⟨fun pins s σ H Q I h => ?_⟩
  refine wpAny_Call_Name_kw (ld_glob I hg hm ?_ hdb)
  refine PySem.W.callWith_KW0 (h₀ := X.base) I.ok.mod.kin hk hall ?_ hpl
  refine thn (hkw.run pos pins s σ H _ I h) fun ws s2 ⟨zs, H2, I2, rz, q2⟩ => ⟨I2.kIn, ?_⟩
  rw [hks]
  exact run_fnk F hr hb hx I2 .nil rz q2
end
/-- two values by keywords, in the other order -/
def swap2 {α : Type} : List α → List α → List α
  | [], [a, b] => [b, a]
  | _, _ => []
theorem swap2_len {α : Type} {us ws : List α} (h : (swap2 us ws).length = 2) : ∃ a b, us = [] ∧ ws = [a, b] := by
  match us, ws, h with
  | [], [a, b], _ => exact ⟨a, b, rfl, rfl⟩
  | [], [], h => cases h
  | [], [_], h => cases h
  | [], _ :: _ :: _ :: _, h => cases h
  | _ :: _, _, h => cases h
theorem swap2_rel {vs : List V} {us : List Value} {zs : List V} {ws : List Value} (r : Vals vs us) (rz : Vals zs ws) : Vals (swap2 vs zs) (swap2 us ws) := by
  cases r with
  | nil =>
    cases rz with
    | nil => exact .nil
    | cons r1 rz =>
      cases rz with
      | nil => exact .nil
      | cons r2 rz =>
        cases rz with
        | nil => exact .cons r2 (.cons r1 .nil)
        | cons r3 rz => exact .nil
  | cons r1 r => exact .nil
/-- the built-in names that the text leaves alone -/
structure Bi (mg : Str → Option Value) : Prop where
  isi : mg "isinstance" = none
  int : mg "int" = none
  bool : mg "bool" = none
  tuple : mg "tuple" = none
  list : mg "list" = none
  all : mg "all" = none
  any : mg "any" = none
  zip : mg "zip" = none
  len : mg "len" = none
  range : mg "range" = none
  abs : mg "abs" = none
  sorted : mg "sorted" = none
  min : mg "min" = none
  repr : mg "repr" = none
  max : mg "max" = none
  sum : mg "sum" = none
  enumerate : mg "enumerate" = none
  str : mg "str" = none
  set : mg "set" = none
  dict : mg "dict" = none
  vErr : mg "ValueError" = none
/-! ### small things -/
/-- where a def stands, and that its name tells it -/
structure Def (K : PySem.W.Frag) (mg : Str → Option Value) (x : Str) (st : Stmt) (f : Addr) (fd : FuncData) (ps : List Str) : Prop where
  fn : Fun K x x st f fd
  gl : mg x = some (.ref f)
  bi : Binds K fd ps []
theorem ixN_at {n j : Nat} (hj : j < n) : ixN n (j : Int) = some j := by
  unfold ixN
  rw [if_pos (by omega), if_pos (by omega)]
  simp
theorem flat_rep {α : Type} (x : α) : ∀ n : Nat, (List.replicate n [x]).flatten = List.replicate n x
  | 0 => rfl
  | n + 1 => by rw [List.replicate_succ, List.flatten_cons, flat_rep x n, List.replicate_succ]; rfl
theorem take_more {α : Type} {l : List α} {i : Nat} {x : α} (h : l[i]? = some x) : l.take (i + 1) = l.take i ++ [x] := by
  rw [List.take_add_one, h]; rfl
theorem all_true (n : Nat) : (List.replicate n true).all id = true := by
  rw [List.all_eq_true]
  intro x hx
  exact (List.mem_replicate.mp hx).2
end Ov
namespace Ov
open PySem PySem.Spec PyProof.Rows L2
/-! ### defs that are called where no repr is under way: what they show of lists and tuples is then known -/
/-- the promise of a def, for calls under no guard -/
structure FnG (P : Program) (w : World) (K : PySem.W.Frag) (mg : Str → Option Value) (base : Heap) (k : Nat) (f : Addr) (fd : FuncData) (ps : List Str) (sp : Sp) : Prop where
  len : ∀ vs H Q E, sp vs H Q E → vs.length = ps.length
  run : ∀ (A : Around) (outer : List Env) (s : Shared) (H : Hp) (args : Args) (us : List Value) (vs : List V) (Q : VK) (E : XK),
    A.guards = some [] → Room k A → Env0 P w K mg base A outer s H → BindsTo s fd args (ps.zip us) → Vals vs us → sp vs H Q E →
    codeAny (model P w) A (.call (.ref f) args) (CR CX0 outer P w H s Q E) s
section
variable {P : Program} {w : World} {K : PySem.W.Frag} {mg : Str → Option Value} {base : Heap}
theorem okG {x qual : Str} {st : Stmt} {f : Addr} {fd : FuncData} {N ps : List Str} {k : Nat} {sp : Sp} (F : Fun K x qual st f fd) (S : FnScope N ps (defScope st)) (len : ∀ vs H Q E, sp vs H Q E → vs.length = ps.length)
    (body : ∀ (cdv : Value) (A : Around) (outer : List Env) (s : Shared) (H : Hp) (vs : List V) (Q : VK) (E : XK), A.guards = some [] → Room k (A.deeper (envOfC qual (defScope st) s.heap.objs.size f cdv)) → sp vs H Q E →
      ∃ t, PSs (cxOf CX0 P w K mg base N qual (defScope st) f cdv A outer s H E).nox (defBody st) t ∧ t { nx := fun _ H' => Q .non H', rt := Q } (start N vs) H) :
    FnG P w K mg base (k + 1) f fd ps sp := by
  obtain ⟨oc, od, kV, doc, pm, an, cdv, ct, osl, rfl, lk, hcd⟩ := F.ex
  constructor
  · exact len
  intro A outer s H args us vs Q E gd room env bnd rel pr
  obtain ⟨t, walk, reads⟩ := body cdv A outer s H vs Q E gd (room.deeper _) pr
  have down : ∀ b o, base.get? b = some o → s.heap.get? b = some o := fun b o e => (env.bs b o e).1
  have kin := env.mod.kin.keeps down
  have kinds : ∀ y ∈ ps.zip us, (defScope st).names.lookup y.1 = some .local ∨ ((defScope st).names.lookup y.1 = some .cell ∧ ((cellsFrom (s.heap.objs.size + 1) (defScope st).names []).lookup y.1).isSome = true) := by
    rintro ⟨y, v⟩ hy
    have hm := (List.of_mem_zip hy).1
    exact (S.par y hm).imp id fun q => ⟨q, PySem.W.cellsFrom_some _ _ _ (.inl q)⟩
  refine codeAny_call_function room.depth (kin _ _ lk) rfl S.co S.gen rfl (PySem.W.codeRec_of kin hcd) (bnd _ _ _ _ (wpAny_newFunctionEnv_cells S.kind kinds ?_))
  rintro env' rfl s1 ic
  refine ⟨(env.mod.nolimit.keeps down).keeps ic.toInCall.keep, codeAny_func (wpAny_mono (walk.nox.run [] s1 (start N vs) H _ (inv_start S room.hd env (len _ _ _ _ pr) rel ic) reads) ?_ fun _ _ h => h)⟩
  intro fl s' h
  cases fl with
  | brk => obtain ⟨_, _, _, q⟩ := h; exact q.elim
  | cont => obtain ⟨_, _, _, q⟩ := h; exact q.elim
  | next => obtain ⟨_, H', J, q⟩ := h; exact ⟨.non, H', J.os, J.bare, J.base, J.hok, rfl, q⟩
  | ret u => obtain ⟨v, _, H', J, rv, q⟩ := h; exact ⟨v, H', J.os, J.bare, J.base, J.hok, rv, q⟩
/-- a def that keeps its promise anywhere keeps it there -/
theorem FnG.of {k : Nat} {f : Addr} {fd : FuncData} {ps : List Str} {sp : Sp} (F : FnOk P w K mg base CX0 k f fd ps sp) : FnG P w K mg base k f fd ps sp :=
  ⟨F.len, fun A outer s H args us vs Q E _ => F.run A outer s H args us vs Q E⟩
end
section
variable {X : Cx} {k : Nat} {f : Addr} {fd : FuncData} {ps : List Str} {sp : Sp} {x : Str} {p pos : Pos} {e : Expr} {es : List Expr} {t : TA} {ds : List Value} {dvs : List V}
/-- such a def called by its name -/
theorem pe_callG (F : FnG X.prog X.w X.K X.mg X.base k f fd ps sp) (gd : X.A.guards = some []) (room : Room k X.A) (hg : Gl X x) (hm : X.mg x = some (.ref f)) (hk : PySem.W.keepIn X.K (.ref f) = true) (bi : Binds X.K fd ps [])
    (ha : PA X (e :: es) t) (hdb : (x == ("__debug__" : Str)) = false := by decide) (he : starEach (e :: es) X.env = (false, eval e X.env) :: starEach es X.env := by rfl) (hpl : (backTo pos (starEach es X.env)).any (·.1) = false := by rfl) :
    PE X (.Call (.Name x p) (e :: es) [] pos) (tCall sp [] E0 t) := by
  constructor
  intro pins s σ H Q I h
  refine wpAny_Call_Name_kw (ld_glob I hg hm (PySem.W.callWith_K (h₀ := X.base) I.ok.mod.kin hk (thn (ha.run pos pins s σ H _ I h) ?_) he hpl) hdb)
  rintro us s1 ⟨vs, H1, I1, r, q⟩
  have pr : sp vs H1 Q E0 := by
    have z : sp (vs ++ []) H1 Q E0 := q
    rwa [List.append_nil] at z
  have hl : us.length = ps.length := by rw [← r.length]; exact F.len _ _ _ _ pr
  have bt := bi s1 us I1.kIn (by simpa using hl)
  rw [List.append_nil] at bt
  refine ⟨I1.kIn, wpAny_call (codeAny_mono (F.run X.A X.stack s1 H1 ⟨us, []⟩ us vs Q E0 gd room I1.env0 bt r pr) ?_)⟩
  intro rs s' hq
  match rs, hq with
  | .error e, hq => exact (show False from hq).elim
  | .ok (.ret u), hq => exact I1.after hq
  | .ok .next, hq => exact (show False from hq).elim
  | .ok .brk, hq => exact (show False from hq).elim
  | .ok .cont, hq => exact (show False from hq).elim
/-- what is shown of lists and tuples of any depth -/
theorem call_repr_data (gd : X.A.guards = some []) (room : Room k X.A) : CallR X (.builtin "repr") (fun xs H Q => ∃ a d, xs = [.ref a] ∧ Dp X.K H (.ref a) d ∧ d.showable = true ∧ d.hasDict = false ∧ d.depth ≤ 60 ∧ d.shown.length ≤ sizeLine ∧ Q (.str d.shown) H) := by
  intro pins s σ H xs us Q I r h
  obtain ⟨a, d, rfl, hd, sh, nod, dep, sz, q⟩ := h
  obtain ⟨u, rfl, rx⟩ := vals1 r
  cases (show u = Value.ref a from rx)
  obtain ⟨as, rd⟩ := Dp.reads I d _ _ hd rx
  have un := room.un
  refine repr_of_reads' (h₀ := s.heap) rd sh (fun z => by rw [nod] at z; cases z) gd (by omega) (fun _ _ e => e) ?_ sz
  intro h' u tk kp
  exact ⟨.str d.shown, H, I.kept (t' := tk) kp, ⟨u, rfl⟩, q⟩
end
end Ov
namespace Ov
open PySem PySem.Spec PyProof.Rows L2
/-- the law's call, from its promise under no guard -/
theorem callG {P : Program} {w : World} {K : PySem.W.Frag} {mg mb : Str → Option Value} {k : Nat} {fa a : Addr} {fd : FuncData} {x : Str} {sp : Sp} {s : Shared} {vs : List Value} {ns : List Int}
    (KX : K.In s.heap) (hns : s.heap.Ns mainGlobals mg) (hb : s.heap.Ns builtinsNs mb) (hbb : ∀ x : Str, x ≠ "__name__" → mb x = bootBuiltins x) (hlim : s.heap.NoLimit) (hg : s.gens = #[])
    (ha : s.heap.get? a = some { cls := .type "list", data := .seq vs.toArray }) (hi : IntsAre vs ns) (hl : ns.length ≤ sizeLine) (room : Room k callerA)
    (F : ∀ base : Heap, K.In base → base.Ns mainGlobals mg → FnG P w K mg base k fa fd [x] sp) (bind : ∀ (s : Shared) (u : Value), BindsTo s fd ⟨[u], []⟩ [(x, u)])
    (pr : ∀ H : Hp, SqL K H a (ns.map V.int) → sp [.ref a] H (fun v _ => v = .bl true) fun _ _ _ => False) :
    codeAny (model P w) callerA (.call (.ref fa) ⟨[.ref a], []⟩) (fun r s' => r = .ok (.ret (.bool true)) ∧ OldK s.heap s'.heap ∧ s'.os = s.os ∧ AllBare s'.gens) s := by
  have rv : Vals (ns.map V.int) vs := vals_ints hi
  -- what is tracked: the script, unless it is the module's own
  obtain ⟨H, seq, hok, only, sep, froz⟩ : ∃ H : Hp, SqL K H a (ns.map V.int) ∧ HOk P w H s.heap ∧ (∀ b, H b ≠ none → b = a) ∧ (H a ≠ none → K.lookup a = none) ∧ (∀ b u, H b = some u → ∃ o xs, u = .frz o (.lst xs)) := by
    cases hk : K.lookup a with
    | some o =>
      have e : o = { cls := .type "list", data := .seq vs.toArray } := Option.some.inj ((KX a o hk).symm.trans ha)
      subst e
      exact ⟨fun _ => none, .inr ⟨_, vs.toArray, _, hk, rfl, rfl, rfl, by rw [List.size_toArray, hi.length]; exact hl, by simpa using rv⟩, (fun _ _ z => nomatch z), (fun _ z => absurd rfl z), (fun z => absurd rfl z), (fun _ _ z => nomatch z)⟩
    | none =>
      refine ⟨fun b => if b = a then some (.frz { cls := .type "list", data := .seq vs.toArray } (.lst (ns.map V.int))) else none, .inl (.inr ⟨_, if_pos rfl⟩), ?_, ?_, fun _ => rfl, ?_⟩
      · intro b u z
        by_cases e : b = a
        · subst e
          have z' : HO.frz { cls := .type "list", data := .seq vs.toArray } (.lst (ns.map V.int)) = u := Option.some.inj ((if_pos rfl).symm.trans z)
          subst z'
          exact ⟨ha, by rw [List.length_map]; exact hl, vs, _, rv, ha⟩
        · exact absurd ((if_neg e).symm.trans z) (fun y => nomatch y)
      · intro b z
        by_cases e : b = a
        · exact e
        · exact absurd (if_neg e) z
      · intro b u z
        by_cases e : b = a
        · exact ⟨_, _, (Option.some.inj ((if_pos e).symm.trans z)).symm⟩
        · exact absurd ((if_neg e).symm.trans z) (fun y => nomatch y)
  -- the base: all the rest
  have rest : ∀ {b : Addr} {o : Obj}, s.heap.get? b = some o → H b = none → (hidT s.heap H).get? b = some o := fun e n => hidT_get e n
  have gone : ∀ {b : Addr}, b ≠ a → H b = none := fun {b} n => by
    cases z : H b with
    | none => rfl
    | some u => exact absurd (only b (by rw [z]; exact fun y => nomatch y)) n
  have spaces : ∀ {b : Addr} {m : Str → Option Value}, s.heap.Ns b m → (hidT s.heap H).Ns b m := by
    rintro b m ⟨o, es, ep, e, d, r⟩
    refine ⟨o, es, ep, rest e (gone ?_), d, r⟩
    rintro rfl
    have eo : o = { cls := .type "list", data := .seq vs.toArray } := Option.some.inj (e.symm.trans ha)
    rw [eo] at d
    cases (show Data.seq vs.toArray _ = Data.dict es ep from d)
  have kin : K.In (hidT s.heap H) := fun b o e => rest (KX b o e) (by
    cases z : H b with
    | none => rfl
    | some u =>
      have eb := only b (by rw [z]; exact fun y => nomatch y)
      subst eb
      rw [sep (by rw [z]; exact fun y => nomatch y)] at e
      cases e)
  obtain ⟨mc, lim1, lim2⟩ := hlim
  have env : Env0 P w K mg (hidT s.heap H) callerA [] s H :=
    ⟨rfl, ⟨kin, spaces hns, ⟨mb, spaces hb, hbb⟩, ⟨mc, spaces lim1, lim2⟩⟩, fun b o e => of_hidT e, Nat.le_of_eq (hidT_size _ _), trivial, fun b hb => absurd (show b ∈ ([] : List Addr) from hb) (by simp), hok, .of_eq hg⟩
  refine codeAny_mono ((F _ kin (spaces hns)).run callerA [] s H ⟨[.ref a], []⟩ [.ref a] [.ref a] _ _ rfl room env (bind s (.ref a)) (.cons rfl .nil) (pr H seq)) ?_
  intro r s' h
  match r, h with
  | .error e, h => exact (show False from h).elim
  | .ok .next, h => exact (show False from h).elim
  | .ok .brk, h => exact (show False from h).elim
  | .ok .cont, h => exact (show False from h).elim
  | .ok (.ret u), ⟨v, H', os, bare, un, hok', rel, q⟩ =>
    have ev : v = .bl true := q
    subst ev
    obtain rfl : u = Value.bool true := rel
    refine ⟨rfl, OldK.of_keep fun b o e => ?_, os, bare⟩
    cases z : H b with
    | none => exact un.keep b o e z (fun y => absurd (show b ∈ ([] : List Addr) from y) (by simp)) (by simp)
    | some u =>
      obtain ⟨ob, xs, rfl⟩ := froz b u z
      have h1 := (hok b _ z).1
      have h2 := (hok' b _ (un.frzs b ob _ z)).1
      have eo : o = ob := Option.some.inj (e.symm.trans h1)
      rw [eo]
      exact h2
theorem walkG {l : PySem.W.OpenLaw} {n k : Nat} {q : Program} {loose : List Str} {XP : (Str → Option Value) → Heap → Prop} {YP : World → Heap → Prop} {d : DefRec} {K : Params → PySem.W.Frag} {sp : PySem.W.Frag → Sp} {x : Str}
    (hn : l.most = some n) (hn2 : n ≤ sizeLine) (hdf : d.params.defaults = []) (room : Room k callerA) (hY : ∀ (w : World) (h : Heap), YP w h → (K w.params).In h)
    (F : ∀ (w : World) (mg : Str → Option Value) (fa : Addr) (h : Heap), (K w.params).In h → h.Ns mainGlobals mg → mg d.name = some (.ref fa) →
      ∃ fd : FuncData, (∀ (s : Shared) (u : Value), BindsTo s fd ⟨[u], []⟩ [(x, u)]) ∧ ∀ base : Heap, (K w.params).In base → base.Ns mainGlobals mg → FnG l.prog w (K w.params) mg base k fa fd [x] (sp (K w.params)))
    (pr : ∀ (K : PySem.W.Frag) (H : Hp) (a : Addr) (ns : List Int), ns.length ≤ n → SqL K H a (ns.map V.int) → sp K [.ref a] H (fun v _ => v = .bl true) fun _ _ _ => False) :
    PySem.W.WalkO q loose XP YP l.row.toRowW d [] (fun f vs => PySem.call f vs) := by
  refine Att.attach_call hn hdf ?_
  intro w s₀ s₁ mg mb fa o pm cd doc a vs ns G Y ho hd hcd hmg hobj hints hlen hg
  have kin := hY w _ Y
  obtain ⟨fd, bind, okF⟩ := F w mg fa _ kin G.T.g hmg
  exact callG kin G.T.g G.T.b G.T.builtins G.T.nolimit hg hobj hints (Nat.le_trans hlen hn2) room okF bind fun H seq => pr (K w.params) H a ns hlen seq
end Ov
namespace Ov
open PySem PySem.Spec PyProof.Rows L2
/-! ### how long a shown value may be -/
mutual
def nodes : PyData → Nat
  | .str x => 1 + (reprText x).length
  | .list xs => 1 + nodesAll xs
  | .tuple xs => 1 + nodesAll xs
  | .none => 1
  | .bool _ => 1
  | .int _ => 1
  | .dict kvs => 1 + (dictText (PyData.shownKv kvs)).length
def nodesAll : List PyData → Nat
  | [] => 0
  | x :: xs => nodes x + nodesAll xs
end
theorem strLen0 : (Str.ofString "None").length = 4 := by decide +kernel
theorem listText_le (ts : List Str) : (listText ts).length ≤ piled ts + 2 := by
  rw [listText_eq_join, strLen_append, strLen_append]
  have a : (Str.ofString "[").length = 1 := by decide +kernel
  have b : (Str.ofString "]").length = 1 := by decide +kernel
  cases ts with
  | nil =>
    have : (Str.join (Str.ofString ", ") []).length = 0 := by decide +kernel
    rw [a, b, this]; omega
  | cons t ts =>
    have := join_length_add (t :: ts) (List.cons_ne_nil _ _)
    rw [a, b]; omega
theorem tupleText_le (ts : List Str) : (tupleText ts).length ≤ piled ts + 3 := by
  unfold tupleText
  rw [strLen_append, strLen_append]
  have a : (Str.ofString "(").length = 1 := by decide +kernel
  have b : (Str.ofString (if (ts.length == 1) = true then ",)" else ")" : String)).length ≤ 2 := by
    by_cases h : (ts.length == 1) = true
    · rw [if_pos h]; decide +kernel
    · rw [if_neg h]; decide +kernel
  cases ts with
  | nil =>
    have : (Str.join (Str.ofString ", ") []).length = 0 := by decide +kernel
    rw [a, this]
    exact Nat.le_trans (Nat.add_le_add_left b _) (by omega)
  | cons t ts =>
    have := join_length_add (t :: ts) (List.cons_ne_nil _ _)
    rw [a]
    omega
mutual
theorem shown_le : ∀ d : PyData, d.showable = true → d.shown.length + 10 ≤ 2000 * nodes d
  | .none, _ => by
    simp only [PyData.shown, nodes]
    rw [strLen0]; decide
  | .bool b, _ => by
    simp only [PyData.shown, nodes]
    cases b <;> decide +kernel
  | .int i, h => by
    simp only [PyData.shown, nodes]
    have := int_text_len_1921 (i := i) (by simpa [PyData.showable] using h)
    omega
  | .str x, _ => by
    simp only [PyData.shown, nodes]
    omega
  | .list xs, h => by
    simp only [PyData.shown, nodes]
    have := shownAll_le xs (by simpa [PyData.showable] using h)
    have := listText_le (PyData.shownAll xs)
    omega
  | .tuple xs, h => by
    simp only [PyData.shown, nodes]
    have := shownAll_le xs (by simpa [PyData.showable] using h)
    have := tupleText_le (PyData.shownAll xs)
    omega
  | .dict kvs, _ => by
    simp only [PyData.shown, nodes]
    omega
theorem shownAll_le : ∀ xs : List PyData, PyData.showableAll xs = true → piled (PyData.shownAll xs) ≤ 2000 * nodesAll xs
  | [], _ => by
    simp only [PyData.shownAll, nodesAll]
    decide +kernel
  | x :: xs, h => by
    have h' : x.showable = true ∧ PyData.showableAll xs = true := by simpa [PyData.showableAll] using h
    have h1 := shown_le x h'.1
    have h2 := shownAll_le xs h'.2
    simp only [PyData.shownAll, nodesAll]
    rw [piled_cons]
    omega
end
theorem fits_shown {d : PyData} (h : d.showable = true) (n : nodes d ≤ 8000) : d.shown.length ≤ sizeLine := by
  have := shown_le d h
  rw [sizeLine_eq]
  omega
/-! ### ints and least sums as data -/
theorem dp_ints {K : PySem.W.Frag} {H : Hp} : ∀ ns : List Int, DpAll K H (ns.map V.int) (ns.map PyData.int)
  | [] => .nil
  | n :: ns => .cons (.int n) (dp_ints ns)
/-- a plain value: None, a bool, an int that is not too great to be shown -/
inductive Sc : PyData → Prop
  | non : Sc .none
  | bl (b : Bool) : Sc (.bool b)
  | int (i : Int) (h : i.natAbs.log2 < 1920) : Sc (.int i)
theorem Sc.small {i : Int} (h : i.natAbs < 2 ^ 1000) : Sc (.int i) := by
  refine .int i ?_
  by_cases e : i.natAbs = 0
  · rw [e]; decide
  · exact Nat.lt_of_lt_of_le ((Nat.log2_lt e).mpr h) (by decide)
structure Flat (ds : List PyData) : Prop where
  lay : PyData.canLayAll0 ds = true
  dep : PyData.depthAll ds = 0
  sh : PyData.showableAll ds = true
  nod : PyData.hasDictAll ds = false
  nds : nodesAll ds = ds.length
theorem flat_of : ∀ {ds : List PyData}, (∀ d ∈ ds, Sc d) → Flat ds
  | [], _ => ⟨by simp [PyData.canLayAll0], by simp [PyData.depthAll], by simp [PyData.showableAll], by simp [PyData.hasDictAll], by simp [nodesAll]⟩
  | d :: ds, h => by
    obtain ⟨h1, h2, h3, h4, h5⟩ := flat_of (ds := ds) fun x hx => h x (List.mem_cons_of_mem _ hx)
    have hd := h d List.mem_cons_self
    refine ⟨?_, ?_, ?_, ?_, ?_⟩
    · cases hd <;> simp [PyData.canLayAll0, PyData.canLay0, h1]
    · cases hd <;> simp [PyData.depthAll, PyData.depth, h2]
    · cases hd <;> simp_all [PyData.showableAll, PyData.showable]
    · cases hd <;> simp [PyData.hasDictAll, PyData.hasDict, h4]
    · cases hd <;> simp [nodesAll, nodes, h5] <;> omega
theorem shaped_tup {ds : List PyData} (f : Flat ds) : SeqAt.shaped (.tuple ds) = true := by
  unfold SeqAt.shaped
  simp [PyData.canLay0, PyData.depth, f.lay, f.dep]
theorem shaped_lst {ds : List PyData} (f : Flat ds) : SeqAt.shaped (.list ds) = true := by
  unfold SeqAt.shaped
  simp [PyData.canLay0, PyData.depth, f.lay, f.dep]
theorem flat_ints {ns : List Int} (h : ∀ n ∈ ns, n.natAbs < 2 ^ 1000) : Flat (ns.map PyData.int) := flat_of fun d hd => by
  obtain ⟨n, hn, rfl⟩ := List.mem_map.mp hd
  exact .small (h n hn)
theorem eqv_nil : ∀ ds : List PyData, PyData.eqv (.tuple ds) (.tuple []) = ds.isEmpty
  | [] => by simp [PyData.eqv, PyData.eqvAll]
  | d :: ds => by simp [PyData.eqv, PyData.eqvAll]
end Ov
namespace Ov
open PySem PySem.Spec PyProof.Rows L2
/-! ### texts by their codes; a text so many times; list(range(n)) -/
def txt (l : List Nat) : Str := ⟨l.toArray⟩
theorem txt_inj {a b : List Nat} (h : txt a = txt b) : a = b := by
  have : a.toArray = b.toArray := congrArg Str.cps h
  simpa using congrArg Array.toList this
theorem txt_len (l : List Nat) : (txt l).length = l.length := by
  show l.toArray.size = _
  simp
theorem fold_reps : ∀ (k : Nat) (l : List Nat) (acc : Array Nat), (List.replicate k l.toArray).foldl (· ++ ·) acc = acc ++ (List.replicate k l).flatten.toArray
  | 0, l, acc => by simp
  | k + 1, l, acc => by
    rw [List.replicate_succ, List.foldl_cons, fold_reps k l, List.replicate_succ, List.flatten_cons]
    simp
section
variable {X : Cx}
/-- a text times a small number -/
theorem op_mulS : OpR X (binaryOp .Mult) (fun x y H Q => ∃ (l : List Nat) (n : Int), x = .str (txt l) ∧ y = .int n ∧ 0 ≤ n ∧ n ≤ 1000 ∧ l.length ≤ 1000 ∧ Q (.str (txt (List.replicate n.toNat l).flatten)) H) := by
  intro pins s σ H x y v u Q I rx ry h
  obtain ⟨l, n, rfl, rfl, h0, h1, hl, q⟩ := h
  obtain ⟨t, rfl⟩ := rx
  obtain ⟨t', rfl⟩ := ry
  have hlen := txt_len l
  have fin : ∀ (tk tk' : Nat), EP X pins σ Q (.str (txt (List.replicate n.toNat l).flatten) tk) { s with toks := tk' } := fun tk tk' => ⟨.str _, H, I.tok _, ⟨_, rfl⟩, q⟩
  refine PySem.P.mul_str ?_ ?_ ?_ ?_
  · rw [decide_eq_false (show ¬ n < -(2 ^ 63 : Int) by omega), decide_eq_false (show ¬ n ≥ 2 ^ 63 by omega)]
    rfl
  · intro a b
    rw [hlen]
    have hn : 1 ≤ n := by omega
    have : (1000 : Int) ≤ (2 ^ 63 - 1) / n := by
      rw [Int.le_ediv_iff_mul_le (by omega)]
      omega
    omega
  · intro a b
    rw [hlen]
    refine decide_eq_false ?_
    rw [sizeLine_eq]
    have : l.length * n.toNat ≤ 1000 * 1000 := Nat.mul_le_mul hl (by omega)
    omega
  · by_cases c : n < 1
    · rw [if_pos c]
      have hn : n.toNat = 0 := by omega
      have := fin s.toks (s.toks + 1)
      rw [hn] at this
      exact ⟨Nat.zero_le _, this⟩
    · rw [if_neg c]
      by_cases d : (n == 1 || (txt l).length == 0) = true
      · rw [if_pos d]
        have e : txt (List.replicate n.toNat l).flatten = txt l := by
          rcases Bool.or_eq_true_iff.mp d with d | d
          · have : n = 1 := eq_of_beq d
            subst this
            simp
          · have hz : l.length = 0 := by rw [← hlen]; exact eq_of_beq d
            have : l = [] := List.eq_nil_of_length_eq_zero hz
            subst this
            simp
        have := fin t s.toks
        rw [e] at this
        exact this
      · rw [if_neg d]
        have e : (⟨(List.replicate n.toNat (txt l).cps).foldl (· ++ ·) #[]⟩ : Str) = txt (List.replicate n.toNat l).flatten := by
          show (⟨(List.replicate n.toNat l.toArray).foldl (· ++ ·) #[]⟩ : Str) = _
          rw [fold_reps]
          simp [txt]
        rw [e]
        refine ⟨?_, fin s.toks (s.toks + 1)⟩
        rw [txt_len, sizeLine_eq]
        have h2 : (List.replicate n.toNat l).flatten.length = n.toNat * l.length := by simp
        rw [h2]
        have : n.toNat * l.length ≤ 1000 * 1000 := Nat.mul_le_mul (by omega) hl
        omega
/-- list(range(n)) -/
theorem pe_listRange {a : Expr} {ta : TE} {p p2 q pos : Pos} (hg : Gl X "list") (hm : X.mg "list" = none) (hg2 : Gl X "range") (hm2 : X.mg "range" = none) (ha : PE X a ta) (hc : X.calm = true := by rfl)
    (na : starEach [a] X.env = (false, eval a X.env) :: starEach [] X.env := by rfl) :
    PE X (.Call (.Name "list" p) [.Call (.Name "range" p2) [a] [] q] [] pos) (fun σ H Q => ta σ H fun x H1 => ∃ n : Nat, x = .int (n : Int) ∧ n ≤ 100000 ∧ ∀ l, H1 l = none → Q (.ref l) (upd H1 l (.lst ((List.range n).map fun i : Nat => V.int (i : Int))))) := by
  constructor
  intro pins s σ H Q I h
  have bl : bootBuiltins "list" = some (.type "list") := by decide +kernel
  refine Call_ (ld_blt I hg hm bl (PyProof.Rows.callWith_type1 (PyProof.Rows.args_cons ?_ rfl) rfl rfl))
  refine Call_ (ld_blt I hg2 hm2 boot_range (PyProof.Rows.callWith_type1 (PyProof.Rows.args_cons (thn (ha.run pins s σ H _ I h) ?_) na) na rfl))
  rintro v s1 ⟨x, H1, I1, r1, n, rfl, hn, q1⟩
  obtain ⟨t, rfl⟩ := r1
  refine PyProof.Rows.args_nil (call_range_1 (PyProof.Rows.args_nil ?_))
  have hsmall : Builtin.Range.small 0 (n : Int) 1 = true := small_one (by omega) (by omega) (by omega) (by omega)
  refine call_list_range (n := n) (I1.ok.hd hc) (Heap.get?_push_size _ rfl) hsmall ?_ (by omega) ?_
  · rw [rangeSize_nat]
    simp
  · intro h' tk acc c kp hat hit
    have vals : Vals ((List.range n).map fun i : Nat => V.int (i : Int)) acc.toList := by
      obtain ⟨hz, hv⟩ := hit
      have key : ∀ (l : List Value) (k : Nat), (∀ j v, l[j]? = some v → ∃ t, v = Value.int (0 + ((k + j : Nat) : Int) * 1) t) → Vals ((List.range' k l.length).map fun i : Nat => V.int (i : Int)) l := by
        intro l
        induction l with
        | nil => intro k _; exact .nil
        | cons v l ih =>
          intro k hk
          rw [List.length_cons, List.range'_succ, List.map_cons]
          refine .cons ?_ (ih (k + 1) fun j w hj => ?_)
          · obtain ⟨t, e⟩ := hk 0 v rfl
            exact ⟨t, by rw [e, show (0 + ((k + 0 : Nat) : Int) * 1) = (k : Int) by omega]⟩
          · obtain ⟨t, e⟩ := hk (j + 1) w hj
            exact ⟨t, by rw [e, show (0 + ((k + (j + 1) : Nat) : Int) * 1) = (0 + ((k + 1 + j : Nat) : Int) * 1) by omega]⟩
      have := key acc.toList 0 (fun j v hj => by
        obtain ⟨t, e⟩ := hv j v (by simpa using hj)
        exact ⟨t, by rw [e, show (0 + ((0 + j : Nat) : Int) * 1) = (0 + ((j : Nat) : Int) * 1) by omega]⟩)
      rw [Array.length_toList, hz, ← List.range_eq_range'] at this
      exact this
    have old : ∀ b o, s1.heap.get? b = some o → h'.get? b = some o := fun b o e => kp b o (Heap.get?_push_of_some _ e)
    have ez : ∀ (o : Obj), (s1.heap.push o).objs.size = s1.heap.objs.size + 1 := fun o => Heap.size_push _ _
    rw [ez] at hat ⊢
    have fit : ((List.range n).map fun i : Nat => V.int (i : Int)).length ≤ sizeLine := by
      rw [List.length_map, List.length_range, sizeLine_eq]
      omega
    exact ⟨.ref _, upd H1 (s1.heap.objs.size + 1) (.lst _), I1.laid (t' := tk) old (Nat.le_succ _) ⟨fit, acc.toList, c, vals, hat⟩, rfl, q1 _ (I1.hok.fresh (Nat.le_succ _))⟩
end
end Ov
namespace Ov
open PySem PySem.Spec PyProof.Rows L2
/-! ### a set of texts, made of a list of unlike ones: how many it holds -/
/-- the empty set as it is made -/
abbrev noText (led : Bool) : Obj := { cls := .type "set", dict := none, data := .set #[] 0 (.fresh 0 0 led) }
section
variable {prog : Program} {w : World} {A : Around} {R : Result → Shared → Prop} {it : Addr} {fp wr : List Addr} {G : Array GenState → Array GenState → Prop} {n : Nat} {P : Nat → Value → Prop} {St : Nat → Shared → Prop}
theorem has_next {xs : List Str} (nd : xs.Nodup) {i : Nat} (hi : i < xs.length) : (xs.take i).any (· == xs[i]) = false := by
  rw [List.any_eq_false]
  intro y hy e
  have ey : y = xs[i] := eq_of_beq e
  obtain ⟨j, hj, ej⟩ := List.mem_take_iff_getElem.mp hy
  have hlt : j < i := by omega
  exact (List.pairwise_iff_getElem.mp nd j i (by omega) hi hlt) (ej.trans ey)
/-- texts put into it, one behind another -/
theorem texts_in (W : WalksS prog w A.in1 it fp wr G n P St) (S : Addr) (out : S ∉ fp) {xs : List Str} (len : xs.length = n) (nd : xs.Nodup) (few : n + 1 < scanBound)
    (val : ∀ (i : Nat) (hi : i < xs.length) (v : Value), P i v → ∃ t, v = .str xs[i] t) :
    ∀ (left i : Nat) (s : Shared), i + left = n → St i s → s.heap.SetOf (PySem.strKind prog w) S (fun k => (xs.take i).any (· == k)) i →
      (∀ s', Moved (S :: wr) G s s' → s'.heap.SetOf (PySem.strKind prog w) S (fun k => xs.any (· == k)) n → R (.ok (.ret .none)) s') →
      codeAny (model prog w) A (.builtin "set.update.loop" ⟨[.ref S, .ref it], []⟩) R s := by
  have outw : S ∉ wr := fun z => out (W.sub _ z)
  have wide : ∀ b ∈ wr, b ∈ S :: wr := fun b z => List.mem_cons_of_mem _ z
  have carry : ∀ {s s' : Shared} {f : Str → Bool} {c : Nat}, Moved wr G s s' → s.heap.SetOf (PySem.strKind prog w) S f c → s'.heap.SetOf (PySem.strKind prog w) S f c := by
    rintro s s' f c mv ⟨o, es, ep, t, ho, more⟩
    exact ⟨o, es, ep, t, mv.heap S _ outw ho, more⟩
  intro left
  induction left with
  | zero =>
    intro i s e st hS fin
    obtain rfl : i = n := by omega
    refine codeAny_builtin PyProof.Rows.F.entry_set_update_loop ?_
    rw [Around.under_plainId PyProof.Rows.F.plain_set_update_loop _]
    refine wpAny_bind (W.done s _ _ st fun s' mv => wpAny_pure (fin s' (mv.mono wide) ?_))
    have := carry mv hS
    rwa [← len, List.take_length, len] at this
  | succ left ih =>
    intro i s e st hS fin
    have hi : i < xs.length := by omega
    refine codeAny_builtin PyProof.Rows.F.entry_set_update_loop ?_
    rw [Around.under_plainId PyProof.Rows.F.plain_set_update_loop _]
    refine wpAny_bind (W.item i s _ _ (by omega) st ?_)
    intro v s' pv st' mv
    obtain ⟨t, rfl⟩ := val i hi v pv
    refine wpAny_bind (wpAny_holding ?_)
    unfold setAdd
    refine wpAny_holding (wpAny_bind ((PySem.strKind prog w).pyHash (k := xs[i]) (strKind_is _ _ _ _) ?_))
    have held := carry mv hS
    refine wpAny_setAddHashed_of (knd := PySem.strKind prog w) (s := { s' with toks := s'.toks + 1 }) (strKind_is _ _ _ _) rfl held (by omega) ?_
    intro h' but hS2
    rw [has_next nd hi] at hS2
    have grown : h'.SetOf (PySem.strKind prog w) S (fun k => (xs.take (i + 1)).any (· == k)) (i + 1) := by
      refine SetOf_congr hS2 (fun k => ?_) rfl
      rw [List.take_add_one, List.getElem?_eq_getElem hi, List.any_append]
      congr 1
      show decide (k = xs[i]) = ([xs[i]].any (· == k))
      by_cases z : k = xs[i]
      · subst z; simp
      · have : (xs[i] == k) = false := beq_eq_false_iff_ne.mpr fun y => z y.symm
        simp [z, this]
    refine wpAny_pure ⟨plainId_quiet PyProof.Rows.F.plain_set_update_loop _, ih (i + 1) _ (by omega) (W.frame _ s' _ _ st' (Nat.le_succ _) ?_) grown ?_⟩
    · intro b hb o eb
      rw [but.2 b fun z => out (z ▸ hb)]
      exact eb
    · intro s'' mv'' hS''
      refine fin s'' (Moved.trans W.gtrans ((mv.mono wide).then_heap (Nat.le_succ _) ?_) mv'') hS''
      intro b o hb eb
      rw [but.2 b fun z => hb (z ▸ List.mem_cons_self)]
      exact eb
end
section
variable {prog : Program} {w : World} {A : Around} {E : Value → Shared → Prop} {s : Shared}
theorem set_texts {l : Addr} {items : Array Value} {xs : List Str} {Q : Value → Shared → Prop} (hh : A.handled = none) (hl : s.heap.IsList l items) (hi : StrsAre items.toList xs) (nd : xs.Nodup) (few : xs.length + 1 < scanBound)
    (h : ∀ (h' : Heap) (tk : Nat), h'.SetOf (PySem.strKind prog w) s.heap.objs.size (fun k => xs.any (· == k)) xs.length → (∀ b o, b < s.heap.objs.size → s.heap.get? b = some o → h'.get? b = some o) → Q (.ref s.heap.objs.size) { s with heap := h', toks := tk }) :
    wpAny (model prog w) A (call (.type "set") [.ref l]) Q E s := by
  obtain ⟨c, tl, hmro⟩ := PySem.F.called_set.mro
  have q1 := PySem.F.called_set.made
  have q2 := PySem.F.called_set.sub
  have q3 := PySem.F.called_set.notType
  have q4 := PySem.F.called_set.canCreate
  have q5 := PySem.F.typeCall_set_1 (.ref l)
  refine wpAny_call (codeAny_of_tree ?_)
  show wpAny _ _ (callAny (.type "set") _) _ _ _
  refine wpAny_pure ⟨Code.quiet_builtin _ (by decide +kernel), codeAny_builtin PySem.F.entry_type_call ?_⟩
  rw [Around.under_plain (weight_type_call_type "set" [.ref l] []) rfl]
  repeat (any_goals (first | assumption | wp_step))
  refine codeAny_mono (code_set_new_1 (.ref l) (E := E) (Q₁ := fun obj s₁ => ∃ led : Bool, obj = .ref s.heap.objs.size ∧ s₁ = { s with heap := s.heap.push (noText led) }) fun led => ⟨led, rfl, rfl⟩) ?_
  intro r s₁ hr
  match r, hr with
  | .error e, hr => exact hr
  | .ok .next, hr => exact hr.elim
  | .ok .brk, hr => exact hr.elim
  | .ok .cont, hr => exact hr.elim
  | .ok (.ret obj), ⟨led, e1, e2⟩ =>
    subst e1 e2
    have at_ : (s.heap.push (noText led)).get? s.heap.objs.size = some (noText led) := Heap.get?_push_size _ rfl
    have ty : Shared.TypeIs { s with heap := s.heap.push (noText led) } (.ref s.heap.objs.size) "set" := ⟨_, at_, rfl⟩
    have q6 := PySem.F.called_set.init.lookup
    have q7 := PySem.F.called_set.init.bind (.ref s.heap.objs.size)
    repeat (any_goals (first | assumption | wp_step))
    refine codeAny_mono (codeAny_call_builtin (R := wants (fun r s₂ => r = .none ∧ ∃ h' tk, s₂ = { s with heap := h', toks := tk } ∧ h'.SetOf (PySem.strKind prog w) s.heap.objs.size (fun k => xs.any (· == k)) xs.length ∧
        (∀ b o, b < s.heap.objs.size → s.heap.get? b = some o → h'.get? b = some o)) E) PySem.F.called_set.init.plain PySem.F.entry_set_init (check_set_init_1 ty ?_)) ?_
    · obtain ⟨⟨cl, dc, dt, sl⟩, hol, hcl, nl, hdl⟩ := hl
      dsimp only at hcl hdl
      subst hcl hdl
      have below := Heap.lt_size hol
      have hol' : (s.heap.push (noText led)).get? l = some { cls := .type "list", dict := dc, data := .seq items nl, slots := sl } := Heap.get?_push_of_some _ hol
      have hl1 : (s.heap.push (noText led)).IsList l items := ⟨_, hol', rfl, nl, rfl⟩
      have q8 := PySem.F.sub_list_set
      have q9 := PySem.F.sub_list_frozenset
      have q0 : (Value.type "list" == Value.type "dict") = false := by decide
      unfold Builtin.«set.__init__» noKeywords Builtin.Frozenset.updateFrom
      generalize hPI : pyIter = PI
      wp_walk
      subst hPI
      have sz : (s.heap.push (noText led)).objs.size = s.heap.objs.size + 1 := Heap.size_push _ _
      have calm3 : A.in1.in1.in1.handled = none := by simp [hh]
      have apart : l ≠ (s.heap.push (noText led)).objs.size := by rw [sz]; exact Nat.ne_of_lt (Nat.lt_succ_of_lt below)
      have far : s.heap.objs.size ∉ [(s.heap.push (noText led)).objs.size, l] := by
        rw [sz]
        simp only [List.mem_cons, List.not_mem_nil, or_false, not_or]
        exact ⟨Nat.ne_of_lt (Nat.lt_succ_self _), Nat.ne_of_gt below⟩
      have len : xs.length = items.size := by rw [← StrsAre.len_eq hi, Array.length_toList]
      refine wpAny_pyIter_list hl1 (wpAny_bind (wpAny_runValue ?_))
      refine texts_in ((Walks.list calm3 _ l apart items).toS) s.heap.objs.size far len nd (by rw [← len]; exact few) (fun i hlt v hv => ?_) items.size 0 _ (by omega) ⟨⟨_, Heap.get?_push_size _ rfl, rfl, rfl⟩, hl1.push _⟩ ?_ ?_
      · obtain ⟨t, e⟩ := SS.strs_at hi i v (by rw [Array.getElem?_toList]; exact hv)
        refine ⟨t, ?_⟩
        rw [e, List.getD_eq_getElem?_getD, List.getElem?_eq_getElem hlt]
        rfl
      · exact SetOf_congr ((setObjOf_fresh (knd := PySem.strKind prog w) led).setOf (Heap.get?_push_of_some _ at_) (by unfold scanBound; omega)) (fun _ => rfl) rfl
      · rintro ⟨h', g', d', tk', os'⟩ mv hS'
        have eg : g' = s.gens := mv.gens
        have ed : d' = s.drawn := mv.drawn
        have eo : os' = s.os := mv.os
        subst eg ed eo
        refine wpAny_pure (wpAny_pure ⟨rfl, h', tk', rfl, by rw [len]; exact hS', ?_⟩)
        intro b o hb eb
        refine mv.heap b o ?_ (Heap.get?_push_of_some _ (Heap.get?_push_of_some _ eb))
        rw [sz]
        simp only [List.mem_cons, List.not_mem_nil, or_false, not_or]
        exact ⟨Nat.ne_of_lt hb, Nat.ne_of_lt (Nat.lt_succ_of_lt hb)⟩
    · intro r₂ s₂ hr₂
      match r₂, hr₂ with
      | .error e, hr₂ => exact hr₂
      | .ok .next, hr₂ => exact hr₂.elim
      | .ok .brk, hr₂ => exact hr₂.elim
      | .ok .cont, hr₂ => exact hr₂.elim
      | .ok (.ret r), ⟨e1, h', tk, e2, hS', kp⟩ =>
        subst e1 e2
        repeat (any_goals (first | assumption | wp_step))
        exact h _ _ hS' kp
end
section
variable {X : Cx}
/-- len(set(xs)), xs a list of unlike texts -/
theorem pe_lenSetT {a : Expr} {ta : TE} {p p2 q pos : Pos} (hc : X.calm = true) (hg : Gl X "len") (hm : X.mg "len" = none) (hg2 : Gl X "set") (hm2 : X.mg "set" = none) (ha : PE X a ta)
    (na : starEach [a] X.env = (false, eval a X.env) :: starEach [] X.env := by rfl) :
    PE X (.Call (.Name "len" p) [.Call (.Name "set" p2) [a] [] q] [] pos) (fun σ H Q => ta σ H fun x H1 => ∃ (l : Addr) (xs : List Str), x = .ref l ∧ SqL X.K H1 l (xs.map V.str) ∧ xs.Nodup ∧ xs.length ≤ 4000 ∧ Q (.int (xs.length : Int)) H1) := by
  constructor
  intro pins s σ H Q I h
  refine Call_ (ld_blt I hg hm boot_len (PyProof.Rows.callWith_builtin1 (PyProof.Rows.args_cons ?_ rfl) rfl rfl))
  refine Call_ (ld_blt I hg2 hm2 boot_set (PyProof.Rows.callWith_type1 (PyProof.Rows.args_cons (thn (ha.run pins s σ H _ I h) ?_) na) na rfl))
  rintro v s1 ⟨x, H1, I1, r1, l, xs, rfl, hq, nd, few, q1⟩
  cases r1
  refine PyProof.Rows.args_nil ?_
  obtain ⟨its, r, pl, hz⟩ := I1.list hq
  refine set_texts (I1.ok.hd hc) pl.isList (by simpa using strsAre_of r) nd (by unfold scanBound; omega) ?_
  intro h' tk hS kp
  refine PyProof.Rows.args_nil ?_
  obtain ⟨o, es, ep, t, ho, hex, hd, _, _, _, hf, hn⟩ := hS
  have I2 : Inv X pins σ H1 { s1 with heap := h', toks := tk } := I1.kept fun b o e => kp b o (Heap.lt_size e) e
  exact call_len_set ho hex hd hf (by rw [hn]; omega) ⟨.int xs.length, H1, I2.tok _, ⟨_, by rw [hn]⟩, q1⟩
end
end Ov
namespace Ov
open PySem PySem.Spec PyProof.Rows L2
/-! ### things of any kind: None, bools, ints, texts, lists, tuples and empty dicts, of any depth -/
mutual
inductive Dx (K : PySem.W.Frag) (H : Hp) : V → PyData → Prop
  | non : Dx K H .non .none
  | bl (b : Bool) : Dx K H (.bl b) (.bool b)
  | int (i : Int) : Dx K H (.int i) (.int i)
  | str (x : Str) : Dx K H (.str x) (.str x)
  | dct {a : Addr} : H a = some (.dK []) → Dx K H (.ref a) (.dict [])
  | lst {a : Addr} {xs : List V} {ds : List PyData} : SqL K H a xs → DxAll K H xs ds → Dx K H (.ref a) (.list ds)
  | tup {a : Addr} {xs : List V} {ds : List PyData} : SqT K H a xs → DxAll K H xs ds → Dx K H (.ref a) (.tuple ds)
inductive DxAll (K : PySem.W.Frag) (H : Hp) : List V → List PyData → Prop
  | nil : DxAll K H [] []
  | cons {v : V} {vs : List V} {d : PyData} {ds : List PyData} : Dx K H v d → DxAll K H vs ds → DxAll K H (v :: vs) (d :: ds)
end
theorem sqL_same {K : PySem.W.Frag} {H H' : Hp} {a : Addr} {xs : List V} (e : Same H H') (h : SqL K H a xs) : SqL K H' a xs := by
  rcases h with (h | ⟨o, h⟩) | h
  · exact .inl (.inl (e _ _ h))
  · exact .inl (.inr ⟨o, e _ _ h⟩)
  · exact .inr h
mutual
theorem Dx.same {K : PySem.W.Frag} {H H' : Hp} (e : Same H H') : ∀ {v : V} {d : PyData}, Dx K H v d → Dx K H' v d
  | _, _, .non => .non
  | _, _, .bl b => .bl b
  | _, _, .int i => .int i
  | _, _, .str x => .str x
  | _, _, .dct h => .dct (e _ _ h)
  | _, _, .lst h a => .lst (sqL_same e h) (DxAll.same e a)
  | _, _, .tup h a => .tup (e.tup h) (DxAll.same e a)
theorem DxAll.same {K : PySem.W.Frag} {H H' : Hp} (e : Same H H') : ∀ {vs : List V} {ds : List PyData}, DxAll K H vs ds → DxAll K H' vs ds
  | _, _, .nil => .nil
  | _, _, .cons h a => .cons (Dx.same e h) (DxAll.same e a)
end
theorem DxAll.at {K : PySem.W.Frag} {H : Hp} : ∀ {vs : List V} {ds : List PyData}, DxAll K H vs ds → ∀ {i : Nat} {v : V}, vs[i]? = some v → ∃ d, ds[i]? = some d ∧ Dx K H v d
  | _, _, .nil, i, v, e => by simp at e
  | _, _, .cons h a, 0, v, e => by cases e; exact ⟨_, rfl, h⟩
  | _, _, .cons h a, i + 1, v, e => a.at (i := i) e
theorem DxAll.len {K : PySem.W.Frag} {H : Hp} : ∀ {vs : List V} {ds : List PyData}, DxAll K H vs ds → vs.length = ds.length
  | _, _, .nil => rfl
  | _, _, .cons _ a => by rw [List.length_cons, List.length_cons, a.len]
theorem DxAll.app {K : PySem.W.Frag} {H : Hp} : ∀ {vs us : List V} {ds es : List PyData}, DxAll K H vs ds → DxAll K H us es → DxAll K H (vs ++ us) (ds ++ es)
  | _, _, _, _, .nil, b => b
  | _, _, _, _, .cons h a, b => .cons h (a.app b)
theorem dx_ints {K : PySem.W.Frag} {H : Hp} : ∀ ns : List Int, DxAll K H (ns.map V.int) (ns.map PyData.int)
  | [] => .nil
  | n :: ns => .cons (.int n) (dx_ints ns)
/-- the name of a thing's type -/
def tyN : PyData → String
  | .none => "NoneType" | .bool _ => "bool" | .int _ => "int" | .str _ => "str" | .list _ => "list" | .tuple _ => "tuple" | .dict _ => "dict"
theorem Dx.ty {K : PySem.W.Frag} {H : Hp} {v : V} {d : PyData} (h : Dx K H v d) : TyX K H v (.type (tyN d)) := by
  cases h with
  | non => exact .base .non
  | bl b => exact .base (.bl b)
  | int i => exact .base (.int i)
  | str x => exact .base (.str x)
  | dct h => exact .base (.dK h)
  | lst h _ =>
    rcases h with (h | ⟨o, h⟩) | ⟨o, its, n, h, c, _⟩
    · exact .base (.lst h)
    · exact .base (.frz h)
    · exact .kList h c
  | tup h _ =>
    rcases h with (h | ⟨o, h⟩) | ⟨o, its, n, h, c, _⟩
    · exact .base (.tup h)
    · exact .fTuple h
    · exact .kTuple h c
def isT : PyData → Bool | .tuple _ => true | _ => false
def isI : PyData → Bool | .int _ => true | .bool _ => true | _ => false
def isB : PyData → Bool | .bool _ => true | _ => false
def isL : PyData → Bool | .list _ => true | _ => false
def isS : PyData → Bool | .str _ => true | _ => false
theorem kit_t : ∀ d : PyData, kitB (tyN d) "tuple" = some (isT d)
  | .none => (by decide +kernel : kitB "NoneType" "tuple" = some false)
  | .bool _ => (by decide +kernel : kitB "bool" "tuple" = some false)
  | .int _ => (by decide +kernel : kitB "int" "tuple" = some false)
  | .str _ => (by decide +kernel : kitB "str" "tuple" = some false)
  | .list _ => (by decide +kernel : kitB "list" "tuple" = some false)
  | .tuple _ => (by decide +kernel : kitB "tuple" "tuple" = some true)
  | .dict _ => (by decide +kernel : kitB "dict" "tuple" = some false)
theorem kit_i : ∀ d : PyData, kitB (tyN d) "int" = some (isI d)
  | .none => (by decide +kernel : kitB "NoneType" "int" = some false)
  | .bool _ => (by decide +kernel : kitB "bool" "int" = some true)
  | .int _ => (by decide +kernel : kitB "int" "int" = some true)
  | .str _ => (by decide +kernel : kitB "str" "int" = some false)
  | .list _ => (by decide +kernel : kitB "list" "int" = some false)
  | .tuple _ => (by decide +kernel : kitB "tuple" "int" = some false)
  | .dict _ => (by decide +kernel : kitB "dict" "int" = some false)
theorem kit_b : ∀ d : PyData, kitB (tyN d) "bool" = some (isB d)
  | .none => (by decide +kernel : kitB "NoneType" "bool" = some false)
  | .bool _ => (by decide +kernel : kitB "bool" "bool" = some true)
  | .int _ => (by decide +kernel : kitB "int" "bool" = some false)
  | .str _ => (by decide +kernel : kitB "str" "bool" = some false)
  | .list _ => (by decide +kernel : kitB "list" "bool" = some false)
  | .tuple _ => (by decide +kernel : kitB "tuple" "bool" = some false)
  | .dict _ => (by decide +kernel : kitB "dict" "bool" = some false)
theorem kit_l : ∀ d : PyData, kitB (tyN d) "list" = some (isL d)
  | .none => (by decide +kernel : kitB "NoneType" "list" = some false)
  | .bool _ => (by decide +kernel : kitB "bool" "list" = some false)
  | .int _ => (by decide +kernel : kitB "int" "list" = some false)
  | .str _ => (by decide +kernel : kitB "str" "list" = some false)
  | .list _ => (by decide +kernel : kitB "list" "list" = some true)
  | .tuple _ => (by decide +kernel : kitB "tuple" "list" = some false)
  | .dict _ => (by decide +kernel : kitB "dict" "list" = some false)
theorem kit_s : ∀ d : PyData, kitB (tyN d) "str" = some (isS d)
  | .none => (by decide +kernel : kitB "NoneType" "str" = some false)
  | .bool _ => (by decide +kernel : kitB "bool" "str" = some false)
  | .int _ => (by decide +kernel : kitB "int" "str" = some false)
  | .str _ => (by decide +kernel : kitB "str" "str" = some true)
  | .list _ => (by decide +kernel : kitB "list" "str" = some false)
  | .tuple _ => (by decide +kernel : kitB "tuple" "str" = some false)
  | .dict _ => (by decide +kernel : kitB "dict" "str" = some false)
/-! ### what is shown of them -/
mutual
def noList : PyData → Bool
  | .list _ => false
  | .tuple ds => noListAll ds
  | _ => true
def noListAll : List PyData → Bool
  | [] => true
  | d :: ds => noList d && noListAll ds
end
section
variable {X : Cx} {pins : List (Addr × Obj)} {σ : L2.St} {H : Hp} {s : Shared}
mutual
theorem Dx.reads (I : Inv X pins σ H s) : ∀ (d : PyData) (v : V) (u : Value), Dx X.K H v d → RelV v u → ∃ as, Reads s.heap u d as ∧ (noList d = true → sysModules ∉ as)
  | .none, _, _, h, r => by
    cases h
    cases r
    exact ⟨_, Reads.none, fun _ z => nomatch z⟩
  | .bool b, _, _, h, r => by
    cases h
    cases r
    exact ⟨_, Reads.bool b, fun _ z => nomatch z⟩
  | .int i, _, _, h, r => by
    cases h
    obtain ⟨t, rfl⟩ := r
    exact ⟨_, Reads.int i t, fun _ z => nomatch z⟩
  | .str x, _, _, h, r => by
    cases h
    obtain ⟨t, rfl⟩ := r
    exact ⟨_, Reads.str x t, fun _ z => nomatch z⟩
  | .list ds, _, _, h, r => by
    cases h with
    | lst hs ha =>
      cases r
      obtain ⟨its, rv, ⟨o, n, ho, hc, _, hd⟩, _⟩ := I.list hs
      obtain ⟨as, hr, _⟩ := Dx.readsAll I ds _ its ha rv
      exact ⟨_, Reads.list ho hc hd hr, fun z => by simp [noList] at z⟩
  | .tuple ds, _, _, h, r => by
    cases h with
    | tup hs ha =>
      cases r
      obtain ⟨its, rv, ⟨o, ho, hc, n, hd⟩, _⟩ := I.tuple hs
      obtain ⟨as, hr, f⟩ := Dx.readsAll I ds _ its ha rv
      exact ⟨_, Reads.tuple ho hc hd hr, fun z => f (by simpa [noList] using z)⟩
  | .dict kvs, _, _, h, r => by
    cases h with
    | dct hs =>
      cases r
      obtain ⟨_, ns, vs, kv, o, es, ep, ho, hc, hd, hv⟩ := dk_of I.hok hs
      cases kv
      have e0 : es.toList = [] := by
        have z := hv.2.1
        revert z
        generalize es.toList = l
        intro z
        cases z
        rfl
      refine ⟨_, Reads.dict ho hc.1 hd (by rw [e0]; exact .nil) (by rw [e0]; exact .nil), fun _ z => ?_⟩
      rcases List.mem_cons.mp z with z | z
      · rw [← z] at ns
        cases ns
      · cases z
theorem Dx.readsAll (I : Inv X pins σ H s) : ∀ (ds : List PyData) (vs : List V) (us : List Value), DxAll X.K H vs ds → Vals vs us → ∃ as, ReadsAll s.heap us ds as ∧ (noListAll ds = true → sysModules ∉ as)
  | [], _, _, h, r => by
    cases h
    cases r
    exact ⟨_, ReadsAll.nil, fun _ z => nomatch z⟩
  | d :: ds, _, _, h, r => by
    cases h with
    | cons h1 h2 =>
      cases r with
      | cons r1 r2 =>
        obtain ⟨as, q1, f1⟩ := Dx.reads I d _ _ h1 r1
        obtain ⟨bs, q2, f2⟩ := Dx.readsAll I ds _ _ h2 r2
        refine ⟨_, ReadsAll.cons q1 q2, fun z m => ?_⟩
        have z' : noList d = true ∧ noListAll ds = true := by simpa [noListAll] using z
        exact (List.mem_append.mp m).elim (f1 z'.1) (f2 z'.2)
end
end
/-- what can be shown -/
structure Shows (d : PyData) : Prop where
  sh : d.showable = true
  nl : d.hasDict = true → noList d = true
  dep : d.depth ≤ 60
  nd : nodes d ≤ 8000
section
variable {X : Cx} {k : Nat}
theorem call_repr_x (gd : X.A.guards = some []) (room : Room k X.A) : CallR X (.builtin "repr") (fun xs H Q => ∃ v d, xs = [v] ∧ Dx X.K H v d ∧ Shows d ∧ Q (.str d.shown) H) := by
  intro pins s σ H xs us Q I r h
  obtain ⟨v, d, rfl, hd, S, q⟩ := h
  obtain ⟨u, rfl, rx⟩ := vals1 r
  have un := room.un
  have sz := fits_shown S.sh S.nd
  have ref : ∀ a : Addr, u = .ref a → wpAny (model X.prog X.w) X.A (call (.builtin "repr") [u]) (fun u' s' => ∃ v' H', Inv X pins σ H' s' ∧ RelV v' u' ∧ Q v' H') X.xe s := by
    intro a ha
    subst ha
    obtain ⟨as, rd, f⟩ := Dx.reads I d _ _ hd rx
    have dep := S.dep
    refine repr_of_reads' (h₀ := s.heap) rd S.sh (fun z => f (S.nl z)) gd (by omega) (fun _ _ e => e) ?_ sz
    intro h' u tk kp
    exact ⟨.str d.shown, H, I.kept (t' := tk) kp, ⟨u, rfl⟩, q⟩
  cases hd with
  | non =>
    cases (show u = Value.none from rx)
    exact PySem.P.repr_of_none ⟨.str _, H, I.tok _, ⟨_, rfl⟩, q⟩
  | bl b =>
    cases (show u = Value.bool b from rx)
    exact PySem.P.repr_of_bool ⟨.str _, H, I.tok _, ⟨_, rfl⟩, q⟩
  | int i =>
    obtain ⟨t, rfl⟩ := (show ∃ t, u = Value.int i t from rx)
    exact PySem.P.repr_of_int (by simpa [PyData.showable] using S.sh) ⟨.str _, H, I.tok _, ⟨_, rfl⟩, q⟩
  | str x =>
    obtain ⟨t, rfl⟩ := (show ∃ t, u = Value.str x t from rx)
    exact PySem.P.repr_of_str ⟨.str _, H, I.tok _, ⟨_, rfl⟩, q⟩ sz
  | dct h => exact ref _ rx
  | lst h a => exact ref _ rx
  | tup h a => exact ref _ rx
end
end Ov
namespace Ov
open PySem PySem.Spec PyProof.Rows L2
/-! ### tuple * int where nothing new is made, or nothing is left -/
theorem mul_same (l : Addr) (it : Array Value) (n : Nat) (dd : Option Addr) (sl : Array (Option Value)) (x : Int) (u : Tok) (c0 : (decide (x < -(2 ^ 63)) || decide (x ≥ 2 ^ 63)) = false) (c1 : (it.isEmpty || x == 1) = true) :
    Meets (Builtin.«tuple.__mul__» ⟨[.ref l, .int x u], []⟩) (fun _ R s => s.heap.get? l = some { cls := .type "tuple", dict := dd, data := .seq it n, slots := sl } ∧ R (.ok (.ret (Value.ref l))) s) := by
  refine .of_wp fun prog w A R s h => ?_
  rcases s with ⟨hp, g, d, tk, os⟩
  rcases h with ⟨at_, hR⟩
  have ix := AutoSeq1.idx_int
  wp_walk using wpAny_loadPart' at_
  refine wpAny_ite_false (decide_eq_false fun z => by rw [c0] at z; cases z) ?_
  wp_walk using wpAny_loadPart' at_
  exact ⟨_, rfl, hR⟩
theorem mul_none (l : Addr) (it : Array Value) (n : Nat) (dd : Option Addr) (sl : Array (Option Value)) (x : Int) (u : Tok) (c0 : (decide (x < -(2 ^ 63)) || decide (x ≥ 2 ^ 63)) = false) (c1 : (it.isEmpty || x == 1) = false) (c2 : (decide (x ≤ 0) || it.isEmpty) = true) :
    Meets (Builtin.«tuple.__mul__» ⟨[.ref l, .int x u], []⟩) (fun _ R s => s.heap.get? l = some { cls := .type "tuple", dict := dd, data := .seq it n, slots := sl } ∧ R (.ok (.ret (Value.ref s.heap.objs.size))) { s with heap := s.heap.push { cls := Value.type "tuple", data := Data.seq #[] } }) := by
  refine .of_wp fun prog w A R s h => ?_
  rcases s with ⟨hp, g, d, tk, os⟩
  rcases h with ⟨at_, hR⟩
  have ix := AutoSeq1.idx_int
  wp_walk using wpAny_loadPart' at_
  refine wpAny_ite_false (decide_eq_false fun z => by rw [c0] at z; cases z) ?_
  wp_walk using wpAny_loadPart' at_
  exact ⟨_, rfl, hR⟩
/-- tuple * int, 0 to 1000 times -/
def rRepA (K : PySem.W.Frag) : R2 := fun x y H Q => ∃ (l : Addr) (k : Nat) (xs : List V), x = .ref l ∧ y = .int (k : Int) ∧ SqT K H l xs ∧ k ≤ 1000 ∧ xs.length ≤ 1000 ∧ (xs = [] ∨ k = 1 → Q (.ref l) H) ∧ (xs ≠ [] → k ≠ 1 → ∀ p, H p = none → Q (.ref p) (upd H p (.tup (List.replicate k xs).flatten)))
theorem op_repA {X : Cx} : OpR X (binaryOp .Mult) (rRepA X.K) := by
  intro pins s σ H x y v u Q I rx ry h
  have h0 := h
  obtain ⟨l, k, xs, ex, ey, hT, hk, hz, q1, q2⟩ := h
  by_cases big : xs ≠ [] ∧ 2 ≤ k
  · refine op_repT pins s σ H x y v u Q I rx ry ⟨l, (k : Int), xs, ex, ey, hT, big.1, by omega, by omega, hz, fun p np => ?_⟩
    rw [Int.toNat_natCast]
    exact q2 big.1 (by omega) p np
  subst ex ey
  cases rx
  obtain ⟨t, rfl⟩ := ry
  obtain ⟨its, r, ⟨⟨cls, dd, data, sl⟩, ho, hc, n, hd⟩, hs⟩ := I.tuple hT
  dsimp only at hc hd
  subst hc hd
  have le : its.length = xs.length := r.length.symm
  have c0 : (decide ((k : Int) < -(2 ^ 63)) || decide ((k : Int) ≥ 2 ^ 63)) = false := by
    rw [Bool.or_eq_false_iff]
    exact ⟨decide_eq_false (by omega), decide_eq_false (by omega)⟩
  by_cases one : xs = [] ∨ k = 1
  · have c1 : (its.toArray.isEmpty || (k : Int) == 1) = true := by
      rcases one with e | e
      · have : its = [] := List.eq_nil_of_length_eq_zero (by rw [le, e]; rfl)
        rw [this]
        rfl
      · rw [e, Bool.or_eq_true]
        exact .inr rfl
    exact wpAny_binaryOp_repeat_ref (T := "tuple") (U := "int") (by decide) ⟨_, ho, rfl⟩ (fun s' => typeIs_int s' _ t) noFill_tuple_mul F.fills_int_mul F.slot_int_rmul repeat_tuple F.slot_int_index.lookup
      (call_meets F.slot_int_rmul (typeIs_int s _ t) F.entry_int_rmul (F.args_int_rmul_2 _ _) (int_rmul_tuple _ t l its.toArray n dd sl)
        ⟨ho, rfl, ⟨_, ho, rfl⟩, call_meets F.slot_tuple_mul ⟨_, ho, rfl⟩ F.entry_tuple_mul (F.args_tuple_mul_2 _ _) (mul_same l its.toArray n dd sl _ t c0 c1) ⟨ho, .ref l, H, I, rfl, q1 one⟩⟩)
  · have k0 : k = 0 := by
      rcases Nat.lt_or_ge k 2 with z | z
      · have : k ≠ 1 := fun e => one (.inr e)
        omega
      · exact absurd ⟨fun e => one (.inl e), z⟩ big
    subst k0
    have ne : xs ≠ [] := fun e => one (.inl e)
    have c1 : (its.toArray.isEmpty || ((0 : Nat) : Int) == 1) = false := by
      cases its with
      | nil => exact absurd (List.eq_nil_of_length_eq_zero le.symm) ne
      | cons a b => rfl
    have hq := q2 ne (by decide) s.heap.objs.size (I.hok.fresh (Nat.le_refl _))
    refine wpAny_binaryOp_repeat_ref (T := "tuple") (U := "int") (by decide) ⟨_, ho, rfl⟩ (fun s' => typeIs_int s' _ t) noFill_tuple_mul F.fills_int_mul F.slot_int_rmul repeat_tuple F.slot_int_index.lookup
      (call_meets F.slot_int_rmul (typeIs_int s _ t) F.entry_int_rmul (F.args_int_rmul_2 _ _) (int_rmul_tuple _ t l its.toArray n dd sl)
        ⟨ho, rfl, ⟨_, ho, rfl⟩, call_meets F.slot_tuple_mul ⟨_, ho, rfl⟩ F.entry_tuple_mul (F.args_tuple_mul_2 _ _) (mul_none l its.toArray n dd sl _ t c0 c1 rfl) ⟨ho, .ref s.heap.objs.size, _, ?_, rfl, hq⟩⟩)
    exact I.laid (t' := s.toks) (o := .tup []) (fun b ob z => Heap.get?_push_of_some _ z) (Nat.le_refl _) ⟨Nat.zero_le _, [], .nil, IsTup.new _ _⟩
end Ov
/-! ### decoding: countdowns and starts, byte by byte -/
namespace Ov
section
variable (la : Int → Nat)
/-- what a byte makes of a countdown -/
def cdStep : Option Nat → Int → Option Nat
  | none, _ => none
  | some 0, b => if la b = 0 then none else some (la b - 1)
  | some (l + 1), _ => some l
def cdEnd (s : Option Nat) (bs : List Int) : Option Nat := bs.foldl (cdStep la) s
def stF (k : Nat) (s : Option Nat) : List Int → List Nat
  | [] => []
  | b :: bs => (if s = some 0 ∧ 0 < la b then [k] else []) ++ stF (k + 1) (cdStep la s b) bs
/-- the offset of the invalid byte -/
def spF (k : Nat) (s : Option Nat) : List Int → Option Nat
  | [] => none
  | b :: bs => if s = some 0 ∧ la b = 0 then some k else spF (k + 1) (cdStep la s b) bs
variable {la}
theorem cdEnd_nil (s : Option Nat) : cdEnd la s [] = s := rfl
theorem cdEnd_cons (s : Option Nat) (b : Int) (bs : List Int) : cdEnd la s (b :: bs) = cdEnd la (cdStep la s b) bs := rfl
theorem cdEnd_app (s : Option Nat) (as bs : List Int) : cdEnd la s (as ++ bs) = cdEnd la (cdEnd la s as) bs := by
  unfold cdEnd; rw [List.foldl_append]
theorem stF_app (k : Nat) (s : Option Nat) (as bs : List Int) : stF la k s (as ++ bs) = stF la k s as ++ stF la (k + as.length) (cdEnd la s as) bs := by
  induction as generalizing k s with
  | nil => rfl
  | cons a as ih =>
    show _ ++ stF la (k + 1) _ (as ++ bs) = (_ ++ stF la (k + 1) _ as) ++ _
    rw [ih, List.append_assoc, List.length_cons, cdEnd_cons, show k + 1 + as.length = k + (as.length + 1) by omega]
theorem stF_one (k : Nat) (s : Option Nat) (b : Int) : stF la k s [b] = if s = some 0 ∧ 0 < la b then [k] else [] := by
  show (if s = some 0 ∧ 0 < la b then [k] else []) ++ [] = _
  rw [List.append_nil]
theorem stF_snoc (k : Nat) (s : Option Nat) (as : List Int) (b : Int) : stF la k s (as ++ [b]) = stF la k s as ++ if cdEnd la s as = some 0 ∧ 0 < la b then [k + as.length] else [] := by
  rw [stF_app, stF_one]
theorem cdEnd_snoc (s : Option Nat) (as : List Int) (b : Int) : cdEnd la s (as ++ [b]) = cdStep la (cdEnd la s as) b := cdEnd_app s as [b]
/-- bytes of an instruction that is being read -/
theorem cdEnd_pass (m : Nat) (pre post : List Int) : cdEnd la (some (pre.length + m)) (pre ++ post) = cdEnd la (some m) post := by
  induction pre with
  | nil => rw [List.length_nil, Nat.zero_add]; rfl
  | cons a pre ih =>
    rw [List.length_cons, show pre.length + 1 + m = pre.length + m + 1 by omega]
    show cdEnd la (some (pre.length + m)) (pre ++ post) = _
    exact ih
theorem stF_pass (k m : Nat) (pre post : List Int) : stF la k (some (pre.length + m)) (pre ++ post) = stF la (k + pre.length) (some m) post := by
  induction pre generalizing k with
  | nil => rw [List.length_nil, Nat.zero_add]; rfl
  | cons a pre ih =>
    rw [List.length_cons, show pre.length + 1 + m = pre.length + m + 1 by omega]
    show (if some (pre.length + m + 1) = some 0 ∧ 0 < la a then [k] else []) ++ stF la (k + 1) (some (pre.length + m)) (pre ++ post) = _
    rw [if_neg (by rintro ⟨e, _⟩; cases e), List.nil_append, ih, show k + 1 + pre.length = k + (pre.length + 1) by omega]
theorem cdEnd_none (bs : List Int) : cdEnd la none bs = none := by
  induction bs with
  | nil => rfl
  | cons b bs ih => exact ih
theorem stF_none (k : Nat) (bs : List Int) : stF la k none bs = [] := by
  induction bs generalizing k with
  | nil => rfl
  | cons b bs ih =>
    show (if (none : Option Nat) = some 0 ∧ 0 < la b then [k] else []) ++ stF la (k + 1) none bs = []
    rw [if_neg (by rintro ⟨e, _⟩; cases e), List.nil_append, ih]
theorem cd_over {o : Nat} {bs : List Int} (h : bs.length ≤ o) : cdEnd la (some o) bs = some (o - bs.length) := by
  have := cdEnd_pass (la := la) (o - bs.length) bs []
  rw [List.append_nil, show bs.length + (o - bs.length) = o by omega] at this
  exact this
theorem st_over {k o : Nat} {bs : List Int} (h : bs.length ≤ o) : stF la k (some o) bs = [] := by
  have := stF_pass (la := la) k (o - bs.length) bs []
  rw [List.append_nil, show bs.length + (o - bs.length) = o by omega] at this
  exact this
theorem split_at {bs : List Int} {o : Nat} {b : Int} (h : bs[o]? = some b) : bs = bs.take o ++ b :: bs.drop (o + 1) ∧ (bs.take o).length = o := by
  obtain ⟨hl, e⟩ := List.getElem?_eq_some_iff.mp h
  refine ⟨?_, by rw [List.length_take]; omega⟩
  rw [← e, List.getElem_cons_drop, List.take_append_drop]
theorem cd_step {bs : List Int} {o : Nat} {b : Int} (h : bs[o]? = some b) (hl : 0 < la b) : cdEnd la (some o) bs = cdEnd la (some (o + la b)) bs := by
  obtain ⟨e, l⟩ := split_at h
  have h1 := cdEnd_pass (la := la) 0 (bs.take o) (b :: bs.drop (o + 1))
  have h2 := cdEnd_pass (la := la) (la b) (bs.take o) (b :: bs.drop (o + 1))
  rw [← e, l] at h1 h2
  rw [h2, show o + 0 = o from rfl] at *
  rw [h1]
  obtain ⟨n, en⟩ : ∃ n, la b = n + 1 := ⟨la b - 1, by omega⟩
  rw [cdEnd_cons, cdEnd_cons, en]
  show cdEnd la (if la b = 0 then none else some (la b - 1)) _ = cdEnd la (some n) _
  rw [if_neg (by omega), en]
  rfl
theorem st_step {bs : List Int} {k o : Nat} {b : Int} (h : bs[o]? = some b) (hl : 0 < la b) : stF la k (some o) bs = (k + o) :: stF la k (some (o + la b)) bs := by
  obtain ⟨e, l⟩ := split_at h
  have h1 := stF_pass (la := la) k 0 (bs.take o) (b :: bs.drop (o + 1))
  have h2 := stF_pass (la := la) k (la b) (bs.take o) (b :: bs.drop (o + 1))
  rw [← e, l] at h1 h2
  rw [show o + 0 = o from rfl] at h1
  rw [h1, h2]
  obtain ⟨n, en⟩ : ∃ n, la b = n + 1 := ⟨la b - 1, by omega⟩
  show (if some 0 = some 0 ∧ 0 < la b then [k + o] else []) ++ stF la (k + o + 1) (if la b = 0 then none else some (la b - 1)) _ = (k + o) :: ((if some (la b) = some 0 ∧ 0 < la b then [k + o] else []) ++ stF la (k + o + 1) (cdStep la (some (la b)) b) _)
  rw [if_pos ⟨rfl, hl⟩, if_neg (by omega), if_neg (by rintro ⟨e, _⟩; rw [en] at e; cases e), en]
  rfl
theorem cd_stop {bs : List Int} {o : Nat} {b : Int} (h : bs[o]? = some b) (hl : la b = 0) : cdEnd la (some o) bs = none := by
  obtain ⟨e, l⟩ := split_at h
  have h1 := cdEnd_pass (la := la) 0 (bs.take o) (b :: bs.drop (o + 1))
  rw [← e, l, show o + 0 = o from rfl] at h1
  rw [h1, cdEnd_cons]
  show cdEnd la (if la b = 0 then none else some (la b - 1)) _ = none
  rw [if_pos hl, cdEnd_none]
theorem st_stop {bs : List Int} {k o : Nat} {b : Int} (h : bs[o]? = some b) (hl : la b = 0) : stF la k (some o) bs = [] := by
  obtain ⟨e, l⟩ := split_at h
  have h1 := stF_pass (la := la) k 0 (bs.take o) (b :: bs.drop (o + 1))
  rw [← e, l, show o + 0 = o from rfl] at h1
  rw [h1]
  show (if some 0 = some 0 ∧ 0 < la b then [k + o] else []) ++ stF la (k + o + 1) (if la b = 0 then none else some (la b - 1)) _ = []
  rw [if_neg (by omega), if_pos hl, stF_none]
  rfl
theorem spF_pass (k m : Nat) (pre post : List Int) : spF la k (some (pre.length + m)) (pre ++ post) = spF la (k + pre.length) (some m) post := by
  induction pre generalizing k with
  | nil => rw [List.length_nil, Nat.zero_add]; rfl
  | cons a pre ih =>
    rw [List.length_cons, show pre.length + 1 + m = pre.length + m + 1 by omega]
    show (if some (pre.length + m + 1) = some 0 ∧ la a = 0 then some k else spF la (k + 1) (some (pre.length + m)) (pre ++ post)) = _
    rw [if_neg (by rintro ⟨e, _⟩; cases e), ih, show k + 1 + pre.length = k + (pre.length + 1) by omega]
theorem sp_step {bs : List Int} {k o : Nat} {b : Int} (h : bs[o]? = some b) (hl : 0 < la b) : spF la k (some o) bs = spF la k (some (o + la b)) bs := by
  obtain ⟨e, l⟩ := split_at h
  have h1 := spF_pass (la := la) k 0 (bs.take o) (b :: bs.drop (o + 1))
  have h2 := spF_pass (la := la) k (la b) (bs.take o) (b :: bs.drop (o + 1))
  rw [← e, l] at h1 h2
  rw [show o + 0 = o from rfl] at h1
  rw [h1, h2]
  obtain ⟨n, en⟩ : ∃ n, la b = n + 1 := ⟨la b - 1, by omega⟩
  show (if some 0 = some 0 ∧ la b = 0 then some (k + o) else spF la (k + o + 1) (if la b = 0 then none else some (la b - 1)) _) = (if some (la b) = some 0 ∧ la b = 0 then some (k + o) else spF la (k + o + 1) (cdStep la (some (la b)) b) _)
  rw [if_neg (by omega), if_neg (by omega), if_neg (by rintro ⟨e, _⟩; rw [en] at e; cases e), en]
  rfl
theorem sp_stop {bs : List Int} {k o : Nat} {b : Int} (h : bs[o]? = some b) (hl : la b = 0) : spF la k (some o) bs = some (k + o) := by
  obtain ⟨e, l⟩ := split_at h
  have h1 := spF_pass (la := la) k 0 (bs.take o) (b :: bs.drop (o + 1))
  rw [← e, l, show o + 0 = o from rfl] at h1
  rw [h1]
  show (if some 0 = some 0 ∧ la b = 0 then some (k + o) else _) = _
  rw [if_pos ⟨rfl, hl⟩]
/-- an entry within the code -/
theorem cd_entry {e : Nat} {bs : List Int} (h : e ≤ bs.length) : cdEnd la (some e) bs = cdEnd la (some 0) (bs.drop e) := by
  have := cdEnd_pass (la := la) 0 (bs.take e) (bs.drop e)
  rw [List.take_append_drop, List.length_take, show min e bs.length + 0 = e by omega] at this
  exact this
theorem st_entry {e : Nat} {bs : List Int} (h : e ≤ bs.length) : stF la 0 (some e) bs = stF la e (some 0) (bs.drop e) := by
  have := stF_pass (la := la) 0 0 (bs.take e) (bs.drop e)
  rw [List.take_append_drop, List.length_take, show min e bs.length + 0 = e by omega, show 0 + min e bs.length = e by omega] at this
  exact this
/-- how a walk ends -/
structure Ended (la : Int → Nat) (bs : List Int) (e : Nat) (begun : List Nat) (fol : Nat) : Prop where
  st : begun = stF la 0 (some e) bs
  cd : cdEnd la (some e) bs = if fol < bs.length then none else some (fol - bs.length)
  stop : fol < bs.length → ∃ b, bs[fol]? = some b ∧ la b = 0
  last : bs.length < fol → e ≤ bs.length → ∃ o b, begun.getLast? = some o ∧ bs[o]? = some b ∧ fol = o + la b
  lt : ∀ o ∈ begun, o < bs.length ∧ ∃ b, bs[o]? = some b ∧ 0 < la b
  sp : fol < bs.length → spF la 0 (some e) bs = some fol
/-- a walk under way -/
structure Going (la : Int → Nat) (bs : List Int) (e : Nat) (begun : List Nat) (o : Nat) : Prop where
  st : stF la 0 (some e) bs = begun ++ stF la 0 (some o) bs
  cd : cdEnd la (some e) bs = cdEnd la (some o) bs
  last : bs.length < o → e ≤ bs.length → ∃ q b, begun.getLast? = some q ∧ bs[q]? = some b ∧ o = q + la b
  lt : ∀ q ∈ begun, q < bs.length ∧ ∃ b, bs[q]? = some b ∧ 0 < la b
  few : begun.length ≤ bs.length - e ∧ (bs.length - o) + begun.length ≤ bs.length - e
  sp : spF la 0 (some e) bs = spF la 0 (some o) bs
theorem Going.start (bs : List Int) (e : Nat) : Going la bs e [] e :=
  ⟨rfl, rfl, fun h1 h2 => absurd h1 (by omega), (fun _ h => nomatch h), by simp, rfl⟩
theorem Going.step {bs : List Int} {e o : Nat} {begun : List Nat} (g : Going la bs e begun o) {b : Int} (h : bs[o]? = some b) (hl : 0 < la b) : Going la bs e (begun ++ [o]) (o + la b) := by
  have ho := (List.getElem?_eq_some_iff.mp h).1
  refine ⟨?_, ?_, fun _ _ => ⟨o, b, by simp, h, rfl⟩, fun q hq => ?_, ?_, by rw [g.sp, sp_step h hl]⟩
  · rw [g.st, st_step h hl, Nat.zero_add, List.append_assoc]; rfl
  · rw [g.cd, cd_step h hl]
  · rcases List.mem_append.mp hq with hq | hq
    · exact g.lt q hq
    · rw [List.mem_singleton.mp hq]
      exact ⟨ho, b, h, hl⟩
  · have := g.few
    rw [List.length_append, List.length_singleton]
    omega
theorem Going.over {bs : List Int} {e o : Nat} {begun : List Nat} (g : Going la bs e begun o) (h : bs.length ≤ o) : Ended la bs e begun o :=
  ⟨by rw [g.st, st_over h, List.append_nil], by rw [g.cd, cd_over h, if_neg (by omega)], fun z => absurd z (by omega), g.last, g.lt, fun z => absurd z (by omega)⟩
theorem Going.stop {bs : List Int} {e o : Nat} {begun : List Nat} (g : Going la bs e begun o) {b : Int} (h : bs[o]? = some b) (hl : la b = 0) : Ended la bs e begun o := by
  have ho := (List.getElem?_eq_some_iff.mp h).1
  exact ⟨by rw [g.st, st_stop h hl, List.append_nil], by rw [g.cd, cd_stop h hl, if_pos ho], fun _ => ⟨b, h, hl⟩, g.last, g.lt, fun _ => by rw [g.sp, sp_stop h hl, Nat.zero_add]⟩
theorem Ended.same {bs : List Int} {e : Nat} {b1 b2 : List Nat} {f1 f2 : Nat} (h1 : Ended la bs e b1 f1) (h2 : Ended la bs e b2 f2) : b1 = b2 ∧ f1 = f2 := by
  refine ⟨h1.st.trans h2.st.symm, ?_⟩
  have c := h1.cd.symm.trans h2.cd
  by_cases p1 : f1 < bs.length
  · by_cases p2 : f2 < bs.length
    · exact Option.some.inj ((h1.sp p1).symm.trans (h2.sp p2))
    · rw [if_pos p1, if_neg p2] at c; cases c
  · by_cases p2 : f2 < bs.length
    · rw [if_neg p1, if_pos p2] at c; cases c
    · rw [if_neg p1, if_neg p2] at c
      have := Option.some.inj c
      omega
/-! ### the countdowns of all offsets -/
variable (la)
def cds (s : Option Nat) (bs : List Int) : List (Option Nat) := (List.range (bs.length + 1)).map fun i => cdEnd la s (bs.take i)
variable {la}
theorem cds_len (s : Option Nat) (bs : List Int) : (cds la s bs).length = bs.length + 1 := by
  unfold cds; rw [List.length_map, List.length_range]
theorem cds_at {s : Option Nat} {bs : List Int} {i : Nat} (h : i ≤ bs.length) : (cds la s bs)[i]? = some (cdEnd la s (bs.take i)) := by
  unfold cds
  rw [List.getElem?_map, List.getElem?_range (by omega)]
  rfl
theorem cds_one (s : Option Nat) : cds la s [] = [s] := rfl
theorem cds_snoc (s : Option Nat) (bs : List Int) (b : Int) : cds la s (bs ++ [b]) = cds la s bs ++ [cdStep la (cdEnd la s bs) b] := by
  unfold cds
  rw [List.length_append, List.length_singleton, List.range_succ, List.map_append, List.map_singleton, ← List.length_singleton (a := b), ← List.length_append, List.take_length, cdEnd_snoc]
  congr 1
  refine List.map_congr_left fun i hi => ?_
  have := List.mem_range.mp hi
  rw [List.take_append_of_le_length (by rw [List.length_append, List.length_singleton] at this; omega)]
end
end Ov
/-! ### maps composed and repeated -/
namespace Ov
abbrev PM := Option Nat × Nat
def contP (ms : List PM) : PM → PM
  | (none, n) => (none, n)
  | (some c, n) => ((ms.getD c (none, 0)).1, n + (ms.getD c (none, 0)).2)
def compM (fs ms : List PM) : List PM := fs.map (contP ms)
def itM (ms : List PM) : Nat → PM → PM
  | 0, p => p
  | n + 1, p => itM ms n (contP ms p)
def repM (ms : List PM) (L n : Nat) : List PM := (List.range L).map fun c => itM ms n (some c, 0)
/-- all that it leads to is below L -/
def Wf (L : Nat) (ms : List PM) : Prop := ms.length = L ∧ ∀ m ∈ ms, ∀ c, m.1 = some c → c < L
def WfP (L : Nat) (p : PM) : Prop := ∀ c, p.1 = some c → c < L
theorem Wf.at {L : Nat} {ms : List PM} (h : Wf L ms) {c : Nat} (hc : c < L) : ms[c]? = some (ms.getD c (none, 0)) := by
  rw [List.getD_eq_getElem?_getD, List.getElem?_eq_getElem (by rw [h.1]; exact hc)]; rfl
theorem Wf.cont {L : Nat} {ms : List PM} (h : Wf L ms) {p : PM} (hp : WfP L p) : WfP L (contP ms p) := by
  rcases p with ⟨_ | c, n⟩
  · intro c e; cases e
  · intro d e
    exact h.2 _ (List.mem_of_getElem? (h.at (hp c rfl))) d e
theorem Wf.it {L : Nat} {ms : List PM} (h : Wf L ms) : ∀ (n : Nat) {p : PM}, WfP L p → WfP L (itM ms n p)
  | 0, _, hp => hp
  | n + 1, _, hp => h.it n (h.cont hp)
theorem itM_add (ms : List PM) : ∀ (a b : Nat) (p : PM), itM ms (a + b) p = itM ms b (itM ms a p)
  | 0, b, p => by rw [Nat.zero_add]; rfl
  | a + 1, b, p => by rw [show a + 1 + b = a + b + 1 by omega]; exact itM_add ms a b (contP ms p)
theorem itM_none (ms : List PM) : ∀ (n k : Nat), itM ms n (none, k) = (none, k)
  | 0, k => rfl
  | n + 1, k => itM_none ms n k
theorem cont_shift (ms : List PM) (s : Option Nat) (n k : Nat) : contP ms (s, n + k) = ((contP ms (s, k)).1, n + (contP ms (s, k)).2) := by
  cases s with
  | none => rfl
  | some c => show (_, n + k + _) = (_, n + (k + _)); rw [Nat.add_assoc]; rfl
theorem it_shift (ms : List PM) : ∀ (b : Nat) (s : Option Nat) (n k : Nat), itM ms b (s, n + k) = ((itM ms b (s, k)).1, n + (itM ms b (s, k)).2)
  | 0, s, n, k => rfl
  | b + 1, s, n, k => by
    show itM ms b (contP ms (s, n + k)) = ((itM ms b (contP ms (s, k))).1, n + (itM ms b (contP ms (s, k))).2)
    rw [cont_shift, it_shift ms b]
theorem rep_len (ms : List PM) (L n : Nat) : (repM ms L n).length = L := by unfold repM; rw [List.length_map, List.length_range]
theorem rep_at {ms : List PM} {L n c : Nat} (h : c < L) : (repM ms L n)[c]? = some (itM ms n (some c, 0)) := by
  unfold repM; rw [List.getElem?_map, List.getElem?_range h]; rfl
theorem rep_wf {L : Nat} {ms : List PM} (h : Wf L ms) (n : Nat) : Wf L (repM ms L n) := by
  refine ⟨rep_len ms L n, fun m hm => ?_⟩
  unfold repM at hm
  obtain ⟨c, hc, rfl⟩ := List.mem_map.mp hm
  exact h.it n (fun d e => by have : c = d := Option.some.inj e; have := List.mem_range.mp hc; omega)
theorem cont_rep {L : Nat} {ms : List PM} (n : Nat) {p : PM} (hp : WfP L p) : contP (repM ms L n) p = itM ms n p := by
  rcases p with ⟨_ | c, k⟩
  · rw [itM_none]; rfl
  · have e : (repM ms L n).getD c (none, 0) = itM ms n (some c, 0) := by rw [List.getD_eq_getElem?_getD, rep_at (hp c rfl)]; rfl
    show (((repM ms L n).getD c (none, 0)).1, k + ((repM ms L n).getD c (none, 0)).2) = _
    rw [e]
    exact (it_shift ms n (some c) k 0).symm
theorem comp_rep {L : Nat} {ms : List PM} (h : Wf L ms) (a b : Nat) : compM (repM ms L a) (repM ms L b) = repM ms L (a + b) := by
  unfold compM
  conv => lhs; arg 2; unfold repM
  rw [List.map_map]
  unfold repM
  refine List.map_congr_left fun c hc => ?_
  have hc' := List.mem_range.mp hc
  show contP (repM ms L b) (itM ms a (some c, 0)) = _
  rw [cont_rep b (h.it a (fun d e => by have : c = d := Option.some.inj e; omega)), itM_add]
theorem rep_zero (ms : List PM) (L : Nat) : repM ms L 0 = (List.range L).map fun c => (some c, 0) := rfl
theorem rep_one {L : Nat} {ms : List PM} (h : Wf L ms) : repM ms L 1 = ms := by
  refine List.ext_getElem? fun c => ?_
  by_cases hc : c < L
  · rw [rep_at hc, h.at hc]
    show some ((ms.getD c (none, 0)).1, 0 + (ms.getD c (none, 0)).2) = _
    rw [Nat.zero_add]
  · rw [List.getElem?_eq_none (by rw [rep_len]; omega), List.getElem?_eq_none (by rw [h.1]; omega)]
theorem comp_assoc {L : Nat} {as bs cs : List PM} (ha : Wf L as) (hb : Wf L bs) : compM (compM as bs) cs = compM as (compM bs cs) := by
  unfold compM
  rw [List.map_map]
  refine List.map_congr_left fun p hp => ?_
  show contP cs (contP bs p) = contP (bs.map (contP cs)) p
  rcases p with ⟨_ | c, k⟩
  · rfl
  · have hc := ha.2 _ hp c rfl
    have e1 : (bs.map (contP cs)).getD c (none, 0) = contP cs (bs.getD c (none, 0)) := by
      rw [List.getD_eq_getElem?_getD, List.getElem?_map, hb.at hc]; rfl
    show contP cs ((bs.getD c (none, 0)).1, k + (bs.getD c (none, 0)).2) = (((bs.map (contP cs)).getD c (none, 0)).1, k + ((bs.map (contP cs)).getD c (none, 0)).2)
    rw [e1, cont_shift]
theorem comp_wf {L : Nat} {as bs : List PM} (ha : Wf L as) (hb : Wf L bs) : Wf L (compM as bs) := by
  refine ⟨by unfold compM; rw [List.length_map]; exact ha.1, fun m hm => ?_⟩
  obtain ⟨p, hp, rfl⟩ := List.mem_map.mp hm
  exact hb.cont (ha.2 p hp)
theorem comp_id {L : Nat} {ms : List PM} (h : Wf L ms) : compM ms (repM ms L 0) = ms ∧ compM (repM ms L 0) ms = ms := by
  have e := rep_one h
  constructor
  · conv => lhs; arg 1; rw [← e]
    rw [comp_rep h, e]
  · conv => lhs; arg 2; rw [← e]
    rw [comp_rep h, Nat.zero_add, e]
/-- a circle -/
theorem cyc {ms : List PM} {h s m : Nat} (e : itM ms s (some h, 0) = (some h, m)) : ∀ (k x : Nat), itM ms (k * s) (some h, x) = (some h, x + k * m)
  | 0, x => by rw [Nat.zero_mul, Nat.zero_mul]; rfl
  | k + 1, x => by
    rw [show (k + 1) * s = s + k * s by rw [Nat.succ_mul, Nat.add_comm], itM_add]
    have := it_shift ms s (some h) x 0
    rw [Nat.add_zero, e] at this
    rw [this, cyc e k, Nat.succ_mul]
    congr 1
    show x + m + k * m = x + (k * m + m)
    omega
theorem it_bound {ms : List PM} {B : Nat} (h : ∀ m ∈ ms, m.2 ≤ B) : ∀ (n : Nat) (p : PM), (itM ms n p).2 ≤ p.2 + n * B
  | 0, p => by rw [Nat.zero_mul]; exact Nat.le_refl _
  | n + 1, p => by
    have z := it_bound h n (contP ms p)
    have c : (contP ms p).2 ≤ p.2 + B := by
      rcases p with ⟨_ | c, k⟩
      · exact Nat.le_add_right _ _
      · show k + (ms.getD c (none, 0)).2 ≤ k + B
        rw [List.getD_eq_getElem?_getD]
        cases e : ms[c]? with
        | none => exact Nat.add_le_add_left (Nat.zero_le _) _
        | some m => exact Nat.add_le_add_left (h m (List.mem_of_getElem? e)) _
    show (itM ms n (contP ms p)).2 ≤ _
    rw [Nat.succ_mul]
    omega
/-! ### maps of codes -/
section
variable {la : Int → Nat}
theorem stF_shift : ∀ (bs : List Int) (k j : Nat) (s : Option Nat), (stF la k s bs).length = (stF la j s bs).length
  | [], _, _, _ => rfl
  | b :: bs, k, j, s => by
    show ((if s = some 0 ∧ 0 < la b then [k] else []) ++ stF la (k + 1) (cdStep la s b) bs).length = ((if s = some 0 ∧ 0 < la b then [j] else []) ++ stF la (j + 1) (cdStep la s b) bs).length
    rw [List.length_append, List.length_append, stF_shift bs (k + 1) (j + 1)]
    split <;> rfl
theorem cdEnd_lt {L : Nat} (hL : ∀ b, la b ≤ L) : ∀ (bs : List Int) (s : Option Nat), (∀ n, s = some n → n < L) → ∀ n, cdEnd la s bs = some n → n < L
  | [], s, h, n, e => h n e
  | b :: bs, s, h, n, e => by
    refine cdEnd_lt hL bs (cdStep la s b) (fun j ej => ?_) n e
    cases s with
    | none => cases ej
    | some q =>
      cases q with
      | zero =>
        have ej' : (if la b = 0 then none else some (la b - 1)) = some j := ej
        split at ej'
        · cases ej'
        · have := Option.some.inj ej'; have := hL b; omega
      | succ q =>
        have : q = j := Option.some.inj ej
        have := h _ rfl
        omega
def mapOf' (la : Int → Nat) (L : Nat) (bs : List Int) : List PM := (List.range L).map fun c => (cdEnd la (some c) bs, (stF la 0 (some c) bs).length)
theorem map_wf {L : Nat} (hL : ∀ b, la b ≤ L) (bs : List Int) : Wf L (mapOf' la L bs) := by
  refine ⟨by unfold mapOf'; rw [List.length_map, List.length_range], fun m hm => ?_⟩
  unfold mapOf' at hm
  obtain ⟨c, hc, rfl⟩ := List.mem_map.mp hm
  exact cdEnd_lt hL bs (some c) (fun n e => by have : c = n := Option.some.inj e; have := List.mem_range.mp hc; omega)
theorem map_app {L : Nat} (hL : ∀ b, la b ≤ L) (as bs : List Int) : compM (mapOf' la L as) (mapOf' la L bs) = mapOf' la L (as ++ bs) := by
  unfold compM
  conv => lhs; arg 2; unfold mapOf'
  rw [List.map_map]
  conv => rhs; unfold mapOf'
  refine List.map_congr_left fun c hc => ?_
  have hc' := List.mem_range.mp hc
  show contP (mapOf' la L bs) (cdEnd la (some c) as, (stF la 0 (some c) as).length) = _
  rw [cdEnd_app, stF_app, List.length_append, Nat.zero_add]
  cases e : cdEnd la (some c) as with
  | none => rw [cdEnd_none, stF_none]; rfl
  | some d =>
    have hd := cdEnd_lt hL as (some c) (fun n z => by have : c = n := Option.some.inj z; omega) d e
    have g : (mapOf' la L bs).getD d (none, 0) = (cdEnd la (some d) bs, (stF la 0 (some d) bs).length) := by
      unfold mapOf'
      rw [List.getD_eq_getElem?_getD, List.getElem?_map, List.getElem?_range hd]; rfl
    show (((mapOf' la L bs).getD d (none, 0)).1, (stF la 0 (some c) as).length + ((mapOf' la L bs).getD d (none, 0)).2) = _
    rw [g, stF_shift bs as.length 0]
theorem map_nil (L : Nat) (ms : List PM) : mapOf' la L [] = repM ms L 0 := rfl
theorem map_rep {L : Nat} (hL : ∀ b, la b ≤ L) (bs : List Int) : ∀ n : Nat, mapOf' la L (List.replicate n bs).flatten = repM (mapOf' la L bs) L n
  | 0 => rfl
  | n + 1 => by
    have e := comp_rep (map_wf hL bs) n 1
    rw [List.replicate_succ', List.flatten_append, ← map_app hL, map_rep hL bs n, List.flatten_singleton, ← e, rep_one (map_wf hL bs)]
end
end Ov
namespace Ov
open PySem PySem.Spec PyProof.Rows L2
def top (i : Nat) : Stmt := PySem.Challenge.pw_overlapcode_k25_maps_composed_and_repeat.main.body.getD i (.Pass ⟨0, 0, 0, 0⟩)
abbrev s_wall : Stmt := top 0
abbrev sIsInt : Stmt := top 2
abbrev sBetween : Stmt := top 3
abbrev sAscending : Stmt := top 4
abbrev cOverlapError : Stmt := top 6
abbrev cInvalidInstructionSet : Stmt := top 7
abbrev sWalk : Stmt := top 9
abbrev sBehind : Stmt := top 10
abbrev sIdMap : Stmt := top 12
abbrev sCodeMap : Stmt := top 13
abbrev sCompose : Stmt := top 14
abbrev sRepeat : Stmt := top 15
abbrev sUnch : Stmt := top 16
abbrev sPair : Stmt := top 17
abbrev sCont : Stmt := top 18
abbrev cInstructionSet : Stmt := top 24
abbrev sAreInstr : Stmt := top 25
abbrev sIsInstr : Stmt := top 26
abbrev sIsName : Stmt := top 27
abbrev sBox : Stmt := top 29
abbrev sTake : Stmt := top 30
abbrev sOf : Stmt := top 31
abbrev sTable : Stmt := top 32
abbrev sBytes : Stmt := top 33
abbrev sLLenAt : Stmt := top 34
abbrev sLLongest : Stmt := top 35
abbrev sMachine : Stmt := top 36
abbrev sLMap : Stmt := top 37
abbrev s_law_powered : Stmt := top 38
abbrev sSmall : Stmt := top 39
abbrev sRight : Stmt := top 40
abbrev sLaw : Stmt := top 41
end Ov
namespace Ov
open PySem PySem.Spec PyProof.Rows L2
section
variable {P : Program} {w : World} {K : PySem.W.Frag} {mg : Str → Option Value} {base : Heap}
/-! ### is_integer, is_integer_between -/
def spIsInt : Sp := fun vs H Q _ => ∃ (v : Int), vs = [.int v] ∧ Q (.bl true) H
theorem scIsInt : FnScope ["value"] ["value"] (defScope sIsInt) := ⟨rfl, rfl, rfl, by decide +kernel, rfl, by decide +kernel, by decide +kernel⟩
theorem ok_isInt {f : Addr} {fd : FuncData} {k : Nat} (F : Fun K "is_integer" "is_integer" sIsInt f fd) (T : Bi mg) : FnOk P w K mg base CX0 (k + 1) f fd ["value"] spIsInt := by
  refine F.ok scIsInt (fun vs H Q E h => ?_) (fun cdv A outer s H vs Q E hr h => ?_)
  · obtain ⟨v, rfl, _⟩ := h
    rfl
  · obtain ⟨v, rfl, q⟩ := h
    refine ⟨_, pss_one (ps_ret (pe_and (pe_callB call_isi (by rfl) T.isi (by decide +kernel) (pa_cons (pv 0) (pa_cons (pe_bltn (v := .ty "int") (u := .type "int") (by rfl) T.int (by decide +kernel) rfl) pa_nil)))
      (pe_one (pe_not (pe_callB call_isi (by rfl) T.isi (by decide +kernel) (pa_cons (pv 0) (pa_cons (pe_bltn (v := .ty "bool") (u := .type "bool") (by rfl) T.bool (by decide +kernel) rfl) pa_nil))))))), ?_⟩
    refine ⟨_, rfl, _, _, _, _, _, rfl, .ty _, .base (.int _), kit_ty (by decide +kernel : kitB "int" "int" = some true), _, rfl, iteT ?_⟩
    exact ⟨_, rfl, _, _, _, _, _, rfl, .ty _, .base (.int _), kit_ty (by decide +kernel : kitB "int" "bool" = some false), _, rfl, q⟩
def spBetween : Sp := fun vs H Q _ => ∃ (v lo hi : Int), vs = [.int v, .int lo, .int hi] ∧ lo ≤ v ∧ v ≤ hi ∧ Q (.bl true) H
theorem scBetween : FnScope ["value", "least", "most"] ["value", "least", "most"] (defScope sBetween) := ⟨rfl, rfl, rfl, by decide +kernel, rfl, by decide +kernel, by decide +kernel⟩
theorem ok_between {f fI : Addr} {fd fdI : FuncData} {k : Nat} (F : Fun K "is_integer_between" "is_integer_between" sBetween f fd) (T : Bi mg) (I : Def K mg "is_integer" sIsInt fI fdI ["value"]) : FnOk P w K mg base CX0 (k + 2) f fd ["value", "least", "most"] spBetween := by
  have GI : FnOk P w K mg base CX0 (k + 1) fI fdI ["value"] spIsInt := ok_isInt I.fn T
  refine F.ok scBetween (fun vs H Q E h => ?_) (fun cdv A outer s H vs Q E hr h => ?_)
  · obtain ⟨v, lo, hi, rfl, _⟩ := h
    rfl
  · obtain ⟨v, lo, hi, rfl, h1, h2, q⟩ := h
    refine ⟨_, pss_one (ps_ret (pe_and (pe_call GI hr (by rfl) I.gl I.fn.kp I.bi .nil pass0 (pa_cons (pv 0) pa_nil))
        (pe_one (pe_chain op_le op_le (pv 1) (pv 0) (pv 2))))), ?_⟩
    refine ⟨_, rfl, v, rfl, _, rfl, iteT ?_⟩
    refine ⟨_, rfl, _, rfl, _, _, rfl, rfl, _, rfl, ?_⟩
    rw [decide_eq_true h1]
    refine iteT ⟨_, rfl, _, _, rfl, rfl, ?_⟩
    show Q (.bl (decide (v ≤ hi))) H
    rw [decide_eq_true h2]
    exact q
/-! ### is_ascending -/
def spAscending (K : PySem.W.Frag) : Sp := fun vs H Q _ => ∃ (a : Addr) (ns : List Int), vs = [.ref a] ∧ SqT K H a (ns.map V.int) ∧ ns.length ≤ 1000 ∧ ns.Pairwise (· < ·) ∧ ∀ H', Same H H' → Q (.bl true) H'
theorem scAscending : FnScope ["numbers", "low", "high"] ["numbers"] (defScope sAscending) := ⟨rfl, rfl, rfl, by decide +kernel, rfl, by decide +kernel, by decide +kernel⟩
theorem ok_ascending {f : Addr} {fd : FuncData} {k : Nat} (F : Fun K "is_ascending" "is_ascending" sAscending f fd) (T : Bi mg) : FnOk P w K mg base CX0 (k + 1) f fd ["numbers"] (spAscending K) := by
  refine F.ok scAscending (fun vs H Q E h => ?_) (fun cdv A outer s H vs Q E hr h => ?_)
  · obtain ⟨a, ns, rfl, _⟩ := h
    rfl
  · obtain ⟨a, ns, rfl, hS, hlen, hasc, q⟩ := h
    refine ⟨_, pss_one (ps_ret (pe_callB (cr_all rfl) (by rfl) T.all (by decide +kernel) (pa_cons
      (pe_lc (own := [("low", 1), ("high", 2)]) (g := gTup K 2 (gCons (gName 1) (gCons (gName 2) gNil))) (tt := tYes) (by rfl) scAscending.nd (RZ.pi_zipA (by rfl) T.zip (pa_cons (pv 0) (pa_cons (pe_slice sl_tupA (pv 0) (po_some pe_int) po_none) pa_nil)))
        (blkOk_by (own := [("low", 1), ("high", 2)]) (N := ["numbers", "low", "high"]) (sc := defScope sAscending) (by decide +kernel))
        (fun _ _ _ _ _ => pg_tup rfl (pgs_cons (pg_name (i := 1) scAscending.nd rfl (Or.inl rfl)) (pgs_cons (pg_name (i := 2) scAscending.nd rfl (Or.inl rfl)) pgs_nil)))
        (fun _ _ _ _ _ => pts_nil) (fun _ _ _ _ _ => pe_cmpR op_lt (pv 1) (pv 2) (nomark _))) pa_nil))), ?_⟩
    -- zip(numbers, numbers[1:])
    refine ⟨_, rfl, _, rfl, 1, rfl, a, ns.map V.int, rfl, hS, fun hw => ?_, fun hw c nc => ?_⟩
    · have e0 : ns = [] := List.map_eq_nil_iff.mp (cut1_whole hw)
      subst e0
      refine ⟨a, a, [], [], rfl, .inr ⟨hS, hS, fun D nD => lc_it (walk_zipT (xs := []) (ys := []) rfl) (fun i H2 => i = 0 ∧ Mk H H2 D []) ⟨rfl, .start nD⟩ (fun i H2 _ p => ⟨p.2.same.tup hS, p.2.same.tup hS⟩) (fun i x H2 H3 hi => absurd hi (by show ¬ i < 0; omega)) (fun H2 p => ?_)⟩⟩
      exact ⟨D, [], rfl, .inl (.inl p.2.at_), q H2 p.2.same⟩
    · have s1 : Same H (upd H c (.tup (cutV (ns.map V.int) (some 1) none))) := same_upd nc
      have hc : SqT K (upd H c (.tup (cutV (ns.map V.int) (some 1) none))) c ((ns.drop 1).map V.int) := .inl (.inl (by rw [upd_same, cut1, List.map_drop]))
      refine ⟨a, c, ns.map V.int, (ns.drop 1).map V.int, rfl, .inr ⟨s1.tup hS, hc, fun D nD => lc_it (walk_zipT (xs := ns.map V.int) (ys := (ns.drop 1).map V.int) rfl)
        (fun i H2 => Mk (upd H c (.tup (cutV (ns.map V.int) (some 1) none))) H2 D ((List.replicate i true).map V.bl)) (.start nD) (fun i H2 _ p => ⟨p.same.tup (s1.tup hS), p.same.tup hc⟩) (fun i x H2 H3 hi p y => ?_) (fun H2 p => ?_)⟩⟩
      · obtain ⟨t, x1, x2, rfl, nt, rfl, f1, f2⟩ := y
        have hi' : i < min ns.length (ns.length - 1) := by simpa using hi
        have h1 : i < ns.length := by omega
        have h2 : i + 1 < ns.length := by omega
        have e1 : x1 = .int ns[i] := by
          have : (ns.map V.int)[i]? = some x1 := f1
          rw [List.getElem?_map, List.getElem?_eq_getElem h1] at this
          exact (Option.some.inj this).symm
        have e2 : x2 = .int ns[i + 1] := by
          have : ((ns.drop 1).map V.int)[i]? = some x2 := f2
          rw [List.getElem?_map, List.getElem?_drop, Nat.add_comm 1 i, List.getElem?_eq_getElem h2] at this
          exact (Option.some.inj this).symm
        have hlt : ns[i] < ns[i + 1] := List.pairwise_iff_getElem.mp hasc i (i + 1) h1 h2 (by omega)
        refine ⟨t, [x1, x2], rfl, .inl (.inl upd_same), rfl, x1, [x2], rfl, x2, [], rfl, rfl, rfl, x1, rfl, x2, rfl, _, _, e1, e2, _, (by rw [upd_ne (ne_of_none p.at_ nt)]; exact p.at_), (by rw [List.length_map, List.length_replicate]; exact small1000 (by omega)), ?_⟩
        show Mk _ (upd _ D (.lst (_ ++ [V.bl (decide (ns[i] < ns[i + 1]))]))) D _
        rw [decide_eq_true hlt, List.replicate_succ', List.map_append]
        exact p.put (same_upd nt)
      · refine ⟨D, _, rfl, .inl (.inl p.at_), ?_⟩
        rw [all_true]
        exact q H2 (s1.trans p.same)
end
end Ov
namespace Ov
open PySem PySem.Spec PyProof.Rows L2
/-- a box of numbers: what is left of its own digits, a number, and how many were mixed -/
def BoxAt (H : Hp) (p : Addr) (n : Nat) : Prop := ∃ a b c : Int, H p = some (.lst [.int a, .int b, .int c]) ∧ 0 ≤ a ∧ a < 2 ^ 800 ∧ 0 ≤ b ∧ b < 2 ^ 62 ∧ 0 ≤ c ∧ c ≤ n
theorem BoxAt.mono {H : Hp} {p : Addr} {n m : Nat} (h : BoxAt H p n) (l : n ≤ m) : BoxAt H p m := by
  obtain ⟨a, b, c, e, h1, h2, h3, h4, h5, h6⟩ := h
  exact ⟨a, b, c, e, h1, h2, h3, h4, h5, by omega⟩
theorem BoxAt.same {H H' : Hp} {p : Addr} {n : Nat} (h : BoxAt H p n) (s : Same H H') : BoxAt H' p n := by
  obtain ⟨a, b, c, e, r⟩ := h
  exact ⟨a, b, c, s _ _ e, r⟩
/-- all that stood, but at p, stands -/
def But (p : Addr) (H H' : Hp) : Prop := ∀ b o, H b = some o → b ≠ p → H' b = some o
theorem But.refl (p : Addr) (H : Hp) : But p H H := fun _ _ e _ => e
theorem But.trans {p : Addr} {H H1 H2 : Hp} (a : But p H H1) (b : But p H1 H2) : But p H H2 := fun c o e n => b c o (a c o e n) n
theorem But.of {p : Addr} {H H1 : Hp} (a : Same H H1) : But p H H1 := fun c o e _ => a c o e
theorem But.free {p l : Addr} {H H' : Hp} (e : But p H H') (hp : H p ≠ none) (h : H' l = none) (hp' : H' p ≠ none) : H l = none := by
  cases q : H l with
  | none => rfl
  | some o =>
    by_cases hl : l = p
    · subst hl; exact absurd h hp'
    · rw [e l o q hl] at h; cases h
theorem BoxAt.ne {H : Hp} {p : Addr} {n : Nat} (h : BoxAt H p n) : H p ≠ none := by
  obtain ⟨a, b, c, e, _⟩ := h
  rw [e]; exact fun z => nomatch z
section
variable {P : Program} {w : World} {K : PySem.W.Frag} {mg : Str → Option Value} {base : Heap}
/-! ### _law_box -/
def spBox (K : PySem.W.Frag) : Sp := fun vs H Q _ => ∃ (a : Addr) (ns : List Int) (j : Nat), vs = [.ref a, .int j] ∧ SqL K H a (ns.map V.int) ∧ j ≤ 63 ∧ ∀ H' p, Same H H' → H p = none → BoxAt H' p 0 → Q (.ref p) H'
theorem scBox : FnScope ["_law_script", "_law_k", "_law_cell", "_law_own"] ["_law_script", "_law_k"] (defScope sBox) := ⟨rfl, rfl, rfl, by decide +kernel, rfl, by decide +kernel, by decide +kernel⟩
theorem big_pos : (0 : Int) < 10 ^ (60 : Int).toNat * 10 ^ (60 : Int).toNat * 10 ^ (60 : Int).toNat * 10 ^ (60 : Int).toNat := by decide +kernel
theorem big_lt : (10 : Int) ^ (60 : Int).toNat * 10 ^ (60 : Int).toNat * 10 ^ (60 : Int).toNat * 10 ^ (60 : Int).toNat ≤ 2 ^ 800 := by decide +kernel
/-- what is left of the text behind the cell -/
def tBoxRest : TS := tSeq (tAsg (tOp (rI CMul fun i j => .int (i * j)) (tOp (rI (fun _ j => 0 < j) fun i j => .int (i % j)) (tCB (fun xs H Q => ∃ i, xs = [.int i] ∧ Q (.int (if i < 0 then -i else i)) H) (tCons (tVar 2) tNil))
    (tOp (rI CMulW fun i j => .int (i * j)) (tOp (rI CMulW fun i j => .int (i * j)) (tOp (rI CMulW fun i j => .int (i * j)) (tOp (rI CPow fun i j => .int (i ^ j.toNat)) (tC (.int 10)) (tC (.int 60))) (tOp (rI CPow fun i j => .int (i ^ j.toNat)) (tC (.int 10)) (tC (.int 60)))) (tOp (rI CPow fun i j => .int (i ^ j.toNat)) (tC (.int 10)) (tC (.int 60)))) (tOp (rI CPow fun i j => .int (i ^ j.toNat)) (tC (.int 10)) (tC (.int 60)))))
    (tCB (fun xs H Q => (∃ i, xs = [.int i] ∧ Q (.int i) H) ∨ ∃ k, xs = [.bl k] ∧ Q (.int (if k then 1 else 0)) H) (tCons (tOp (rI0 fun i j => .bl (decide (j ≤ i))) (tCB (fun xs H Q => ∃ i, xs = [.int i] ∧ Q (.int (if i < 0 then -i else i)) H) (tCons (tVar 2) tNil)) (tOp (rI CPow fun i j => .int (i ^ j.toNat)) (tC (.int 10)) (tC (.int 18)))) tNil))) (gName 3))
  (tRet (tLst (tCons (tVar 3) (tCons (tOp (rI (fun _ j => 0 < j) fun i j => .int (i % j)) (tOp (rI CMul fun i j => .int (i * j)) (tOp (rI0 fun i j => .int (i + j)) (tOp (rI0 fun i j => .int (i + j)) (tOp (rI (fun _ j => 0 < j) fun i j => .int (i % j)) (tVar 2) (tC (.int 2305843009213693951))) (tOp (rI CMul fun i j => .int (i * j)) (tOp (rI CMul fun i j => .int (i * j)) (tC (.int 7919)) (tVar 1)) (tVar 1))) (tC (.int 43))) (tC (.int 48271))) (tC (.int 2305843009213693921))) (tCons (tC (.int 0)) tNil)))))
theorem own_ok {x : Int} (h0 : 0 ≤ x) (h1 : x < 2 ^ 800) (c : Bool) : 0 ≤ x * (if c = true then 1 else 0) ∧ x * (if c = true then 1 else 0) < 2 ^ 800 := by
  cases c
  · rw [if_neg (by decide), Int.mul_zero]
    exact ⟨by decide, by decide +kernel⟩
  · rw [if_pos rfl, Int.mul_one]
    exact ⟨h0, h1⟩
theorem bit_ok (c : Bool) : -(2 ^ 64) < (if c = true then (1 : Int) else 0) ∧ (if c = true then (1 : Int) else 0) < 2 ^ 64 := by
  cases c <;> exact ⟨by decide, by decide⟩
theorem box_rest {H : Hp} {D : Ends} {a : Addr} {j : Nat} {cell : Int} {y : Option V} (hj : j ≤ 63) (q : ∀ (H' : Hp) (p : Addr), Same H H' → H p = none → BoxAt H' p 0 → D.rt (V.ref p) H') : tBoxRest D [some (.ref a), some (.int j), some (.int cell), y] H := by
  have h60 : ((10 : Int) ^ (60 : Int).toNat).natAbs < 2 ^ 200 := by decide +kernel
  have h120 : ((10 : Int) ^ (60 : Int).toNat * 10 ^ (60 : Int).toNat).natAbs < 2 ^ 400 := by decide +kernel
  have h180 : ((10 : Int) ^ (60 : Int).toNat * 10 ^ (60 : Int).toNat * 10 ^ (60 : Int).toNat).natAbs < 2 ^ 600 := by decide +kernel
  have hp : CPow 10 60 := ⟨by decide, by decide, by decide⟩
  have hp2 : CPow 10 18 := ⟨by decide, by decide, by decide⟩
  refine ⟨_, rfl, _, rfl, _, _, rfl, rfl, hp, _, _, rfl, rfl, hp, _, _, rfl, rfl, wide_mul h60 h60 (by decide) (by decide) (by decide), _, _, rfl, rfl, hp, _, _, rfl, rfl, wide_mul h120 h60 (by decide) (by decide) (by decide), _, _, rfl, rfl, hp, _, _, rfl, rfl, wide_mul h180 h60 (by decide) (by decide) (by decide), _, _, rfl, rfl, big_pos, ?_⟩
  have hm0 : 0 ≤ (if cell < 0 then -cell else cell) % (10 ^ (60 : Int).toNat * 10 ^ (60 : Int).toNat * 10 ^ (60 : Int).toNat * 10 ^ (60 : Int).toNat) := Int.emod_nonneg _ (Int.ne_of_gt big_pos)
  have hm1 : (if cell < 0 then -cell else cell) % (10 ^ (60 : Int).toNat * 10 ^ (60 : Int).toNat * 10 ^ (60 : Int).toNat * 10 ^ (60 : Int).toNat) < 2 ^ 800 := Int.lt_of_lt_of_le (Int.emod_lt_of_pos _ big_pos) big_lt
  dsimp only
  generalize (if cell < 0 then -cell else cell) % (10 ^ (60 : Int).toNat * 10 ^ (60 : Int).toNat * 10 ^ (60 : Int).toNat * 10 ^ (60 : Int).toNat) = own at *
  refine ⟨_, rfl, _, rfl, _, _, rfl, rfl, hp2, _, _, rfl, rfl, .inr ⟨_, rfl, _, _, rfl, rfl, ?_, ?_⟩⟩
  · exact .inr (bit_ok _)
  dsimp only
  generalize decide ((10 : Int) ^ (18 : Int).toNat ≤ if cell < 0 then -cell else cell) = bb
  obtain ⟨ho0, ho1⟩ := own_ok hm0 hm1 bb
  generalize own * (if bb = true then 1 else 0) = o2 at *
  have hc0 : 0 ≤ cell % 2305843009213693951 := Int.emod_nonneg _ (by decide)
  have hc1 : cell % 2305843009213693951 < 2305843009213693951 := Int.emod_lt_of_pos _ (by decide)
  have hkk : (0 : Int) ≤ 7919 * (j : Int) * (j : Int) := Int.mul_nonneg (Int.mul_nonneg (by decide) (by omega)) (by omega)
  refine ⟨_, rfl, _, rfl, _, _, rfl, rfl, (show (0 : Int) < 2305843009213693951 by decide), _, rfl, _, _, rfl, rfl, .inl ⟨by decide, by decide⟩, _, rfl, _, _, rfl, rfl, .inr ⟨by omega, by omega⟩, _, _, rfl, rfl, _, _, rfl, rfl, _, _, rfl, rfl, .inr ⟨by decide, by decide⟩, _, _, rfl, rfl, (show (0 : Int) < 2305843009213693921 by decide), by show 3 ≤ sizeLine; decide, fun p np => ?_⟩
  exact q _ p (same_upd np) np ⟨_, _, _, upd_same, ho0, ho1, Int.emod_nonneg _ (by decide), Int.lt_of_lt_of_le (Int.emod_lt_of_pos _ (by decide)) (by decide), by decide, by decide⟩
theorem ok_box {f : Addr} {fd : FuncData} {k : Nat} (F : Fun K "_law_box" "_law_box" sBox f fd) (T : Bi mg) : FnOk P w K mg base CX0 (k + 1) f fd ["_law_script", "_law_k"] (spBox K) := by
  refine F.ok scBox (fun vs H Q E h => ?_) (fun cdv A' outer s H vs Q E hr h => ?_)
  · obtain ⟨a, ns, j, rfl, _⟩ := h
    rfl
  · obtain ⟨a, ns, j, rfl, hS, hj, q⟩ := h
    refine ⟨_, pss_cons (ps_set (i := 2) scBox.nd rfl (.inl rfl) (pe_ifExp (pt_cmpR op_lt (pv 1) (pe_callB call_len_seq (by rfl) T.len PySem.boot_len (pa_cons (pv 0) pa_nil)) (nomark _)) (pe_ix ix_list (pv 0) (pv 1) (fun _ _ => rfl)) pe_int))
      (pss_cons (ps_set (i := 3) scBox.nd rfl (.inl rfl) (pe_op op_mul (pe_op op_mod (pe_callB call_abs (by rfl) T.abs (by decide +kernel) (pa_cons (pv 2) pa_nil))
          (pe_op op_mulW (pe_op op_mulW (pe_op op_mulW (pe_op op_pow pe_int pe_int) (pe_op op_pow pe_int pe_int)) (pe_op op_pow pe_int pe_int)) (pe_op op_pow pe_int pe_int)))
        (pe_callTy call_int1 (by rfl) T.int (by decide +kernel) (pa_cons (pe_cmpR op_ge (pe_callB call_abs (by rfl) T.abs (by decide +kernel) (pa_cons (pv 2) pa_nil)) (pe_op op_pow pe_int pe_int) (nomark _)) pa_nil))))
      (pss_one (ps_ret (pe_lst (pa_cons (pv 3) (pa_cons (pe_op op_mod (pe_op op_mul (pe_op op_add (pe_op op_add (pe_op op_mod (pv 2) pe_int) (pe_op op_mul (pe_op op_mul pe_int (pv 1)) (pv 1))) pe_int) pe_int) pe_int) (pa_cons pe_int pa_nil))))))), ?_⟩
    refine ⟨_, rfl, _, rfl, a, _, rfl, .inl hS, _, _, rfl, rfl, _, rfl, ite2 (fun c => ?_) (fun c => ?_)⟩
    · have hj' : j < ns.length := by
        have := of_decide_eq_true c
        rw [List.length_map] at this
        omega
      refine ⟨_, rfl, _, rfl, a, _, _, _, rfl, rfl, hS, atI_nat (v := .int ns[j]) (by rw [List.getElem?_map, List.getElem?_eq_getElem hj']; rfl), ?_⟩
      exact box_rest (D := { nx := fun _ H' => Q .non H', rt := Q }) (y := none) hj q
    · exact box_rest (D := { nx := fun _ H' => Q .non H', rt := Q }) (y := none) hj q
end
end Ov
namespace Ov
open PySem PySem.Spec PyProof.Rows L2
section
variable {P : Program} {w : World} {K : PySem.W.Frag} {mg : Str → Option Value} {base : Heap}
/-! ### _law_take -/
def spTake : Sp := fun vs H Q _ => ∃ (p : Addr) (m : Int) (n : Nat), vs = [.ref p, .int m] ∧ BoxAt H p n ∧ n ≤ 2 ^ 40 ∧ 0 < m ∧ m < 2 ^ 200 ∧ ∀ H' (d : Int), But p H H' → BoxAt H' p (n + 1) → 0 ≤ d → d < m → (∀ b, H b = none → H' b = none) → Q (.int d) H'
theorem scTake : FnScope ["_law_box_here", "_law_many", "_law_digit", "_law_mixed"] ["_law_box_here", "_law_many"] (defScope sTake) := ⟨rfl, rfl, rfl, by decide +kernel, rfl, by decide +kernel, by decide +kernel⟩
theorem ok_take {f : Addr} {fd : FuncData} {k : Nat} (F : Fun K "_law_take" "_law_take" sTake f fd) : FnOk P w K mg base CX0 (k + 1) f fd ["_law_box_here", "_law_many"] spTake := by
  refine F.ok scTake (fun vs H Q E h => ?_) (fun cdv A' outer s H vs Q E hr h => ?_)
  · obtain ⟨p, m, n, rfl, _⟩ := h
    rfl
  · obtain ⟨p, m, n, rfl, ⟨a, b, c, hp, a0, a1, b0, b1, c0, c1⟩, hn, m0, m1, q⟩ := h
    refine ⟨_, pss_cons (ps_if (pt_cmpR op_gt (pe_ix ix_list (pv 0) pe_int (fun _ _ => rfl)) pe_int (nomark _))
        (pss_cons (ps_set (i := 2) scTake.nd rfl (.inl rfl) (pe_op op_mod (pe_ix ix_list (pv 0) pe_int (fun _ _ => rfl)) (pv 1)))
        (pss_cons (ps_asg (pe_op op_fdivW (pe_ix ix_list (pv 0) pe_int (fun _ _ => rfl)) (pv 1)) (pg_sub (pv 0) pe_int set_list))
        (pss_one (ps_ret (pv 2))))) pss_nil)
      (pss_cons (ps_asg (pe_op op_add (pe_ix ix_list (pv 0) pe_int (fun _ _ => rfl)) pe_int) (pg_sub (pv 0) pe_int set_list))
      (pss_cons (ps_set (i := 3) scTake.nd rfl (.inl rfl) (pe_op op_mod (pe_op op_mul (pe_op op_add (pe_op op_add (pe_ix ix_list (pv 0) pe_int (fun _ _ => rfl)) (pe_op op_mul (pe_op op_mul pe_int (pe_ix ix_list (pv 0) pe_int (fun _ _ => rfl))) (pe_ix ix_list (pv 0) pe_int (fun _ _ => rfl)))) pe_int) pe_int) pe_int))
      (pss_cons (ps_set (i := 3) scTake.nd rfl (.inl rfl) (pe_op op_mod (pe_op op_mul (pv 3) (pe_op op_add (pe_op op_mod (pv 3) pe_int) (pe_op op_mul pe_int (pe_ix ix_list (pv 0) pe_int (fun _ _ => rfl))))) pe_int))
      (pss_one (ps_ret (pe_op op_mod (pe_op op_add (pe_op op_fdiv (pv 3) pe_int) (pe_op op_fdiv (pv 3) pe_int)) (pv 1))))))), ?_⟩
    have i0 : ∀ x y z : V, atI [x, y, z] 0 = some x := fun x y z => atI_nat (j := 0) rfl
    have i1 : ∀ x y z : V, atI [x, y, z] 1 = some y := fun x y z => atI_nat (j := 1) rfl
    have i2 : ∀ x y z : V, atI [x, y, z] 2 = some z := fun x y z => atI_nat (j := 2) rfl
    refine ⟨_, rfl, p, _, _, _, rfl, rfl, SqL.of hp, i0 _ _ _, _, _, rfl, rfl, _, rfl, ?_⟩
    by_cases ha : 0 < a
    · rw [decide_eq_true ha]
      refine iteT ?_
      refine ⟨_, rfl, p, _, _, _, rfl, rfl, SqL.of hp, i0 _ _ _, _, rfl, _, _, rfl, rfl, m0, ?_⟩
      refine ⟨_, rfl, p, _, _, _, rfl, rfl, SqL.of hp, i0 _ _ _, _, rfl, _, _, rfl, rfl, wide_div (b := 200) m0 (by omega) (by decide) (by decide), _, rfl, p, _, _, 0, rfl, rfl, hp, rfl, _, rfl, ?_⟩
      refine q _ _ (fun x o e hx => by rw [upd_ne hx]; exact e) ⟨a / m, b, c, upd_same, ?_, ?_, b0, b1, c0, by omega⟩ (Int.emod_nonneg _ (by omega)) (Int.emod_lt_of_pos _ m0) (fun x e => by rw [upd_ne (fun z => by rw [z, hp] at e; cases e)]; exact e)
      · exact Int.ediv_nonneg a0 (by omega)
      · exact Int.lt_of_le_of_lt (Int.ediv_le_self _ a0) a1
    · rw [decide_eq_false ha]
      refine iteF ?_
      refine ⟨_, rfl, p, _, _, _, rfl, rfl, SqL.of hp, i2 _ _ _, _, _, rfl, rfl, _, rfl, p, _, _, 2, rfl, rfl, hp, rfl, ?_⟩
      have hp2 : (upd H p (.lst (([V.int a, V.int b, V.int c] : List V).set 2 (V.int (c + 1))))) p = some (.lst [V.int a, V.int b, V.int (c + 1)]) := upd_same
      have s2 : But p H (upd H p (.lst (([V.int a, V.int b, V.int c] : List V).set 2 (V.int (c + 1))))) := fun x o e hx => by rw [upd_ne hx]; exact e
      have f2 : ∀ x, H x = none → (upd H p (.lst (([V.int a, V.int b, V.int c] : List V).set 2 (V.int (c + 1))))) x = none := fun x e => by rw [upd_ne (fun z => by rw [z, hp] at e; cases e)]; exact e
      generalize upd H p (.lst (([V.int a, V.int b, V.int c] : List V).set 2 (V.int (c + 1)))) = H2 at *
      have hc2 : c + 1 ≤ 2 ^ 40 + 1 := by omega
      refine ⟨_, rfl, p, _, _, _, rfl, rfl, SqL.of hp2, i1 _ _ _, _, rfl, p, _, _, _, rfl, rfl, SqL.of hp2, i2 _ _ _, _, _, rfl, rfl, .inl ⟨by decide, by decide⟩, _, rfl, p, _, _, _, rfl, rfl, SqL.of hp2, i2 _ _ _, _, _, rfl, rfl, .inr ⟨by omega, by omega⟩, _, _, rfl, rfl, _, _, rfl, rfl, _, _, rfl, rfl, .inr ⟨by decide, by decide⟩, _, _, rfl, rfl, (show (0 : Int) < 2305843009213693921 by decide), ?_⟩
      dsimp only
      have x0 : 0 ≤ (b + 65537 * (c + 1) * (c + 1) + 11) * 48271 % 2305843009213693921 := Int.emod_nonneg _ (by decide)
      have x1 : (b + 65537 * (c + 1) * (c + 1) + 11) * 48271 % 2305843009213693921 < 2305843009213693921 := Int.emod_lt_of_pos _ (by decide)
      generalize (b + 65537 * (c + 1) * (c + 1) + 11) * 48271 % 2305843009213693921 = x at *
      refine ⟨_, rfl, _, rfl, _, _, rfl, rfl, (show (0 : Int) < 1000003 by decide), _, rfl, p, _, _, _, rfl, rfl, SqL.of hp2, i2 _ _ _, _, _, rfl, rfl, .inl ⟨by decide, by decide⟩, _, _, rfl, rfl, _, _, rfl, rfl, .inl ⟨by omega, by omega⟩, _, _, rfl, rfl, (show (0 : Int) < 2305843009213693907 by decide), ?_⟩
      dsimp only
      generalize x * (x % 1000003 + 99991 * (c + 1)) % 2305843009213693907 = y at *
      refine ⟨_, rfl, _, _, rfl, rfl, ⟨by decide, by decide⟩, _, rfl, _, _, rfl, rfl, ⟨by decide, by decide⟩, _, _, rfl, rfl, _, rfl, _, _, rfl, rfl, m0, ?_⟩
      exact q _ _ s2 ⟨a, b, c + 1, hp2, a0, a1, b0, b1, by omega, by omega⟩ (Int.emod_nonneg _ (by omega)) (Int.emod_lt_of_pos _ m0) f2
/-! ### _law_of -/
def spOf : Sp := fun vs H Q _ => ∃ (p l : Addr) (n : Nat) (xs : List V), vs = [.ref p, .ref l] ∧ BoxAt H p n ∧ n ≤ 2 ^ 40 ∧ H l = some (.lst xs) ∧ l ≠ p ∧ 0 < xs.length ∧ xs.length ≤ 1000 ∧ ∀ H' (v : V), v ∈ xs → But p H H' → BoxAt H' p (n + 1) → (∀ b, H b = none → H' b = none) → Q v H'
theorem scOf : FnScope ["_law_box_here", "_law_some"] ["_law_box_here", "_law_some"] (defScope sOf) := ⟨rfl, rfl, rfl, by decide +kernel, rfl, by decide +kernel, by decide +kernel⟩
theorem ok_of {f fT : Addr} {fd fdT : FuncData} {k : Nat} (F : Fun K "_law_of" "_law_of" sOf f fd) (T : Bi mg) (Tk : Def K mg "_law_take" sTake fT fdT ["_law_box_here", "_law_many"]) : FnOk P w K mg base CX0 (k + 2) f fd ["_law_box_here", "_law_some"] spOf := by
  have GT : FnOk P w K mg base CX0 (k + 1) fT fdT ["_law_box_here", "_law_many"] spTake := ok_take Tk.fn
  refine F.ok scOf (fun vs H Q E h => ?_) (fun cdv A' outer s H vs Q E hr h => ?_)
  · obtain ⟨p, l, n, xs, rfl, _⟩ := h
    rfl
  · obtain ⟨p, l, n, xs, rfl, B, hn, hl, hlp, h0, h1, q⟩ := h
    refine ⟨_, pss_one (ps_ret (pe_ix ix_list (pv 1) (pe_call GT hr (by rfl) Tk.gl Tk.fn.kp Tk.bi .nil pass0 (pa_cons (pv 0) (pa_cons (pe_callB call_len_seq (by rfl) T.len PySem.boot_len (pa_cons (pv 1) pa_nil)) pa_nil))) (fun _ _ => rfl))), ?_⟩
    refine ⟨_, rfl, _, rfl, _, rfl, l, _, rfl, .inl (SqL.of hl), p, _, n, rfl, B, hn, by omega, by omega, fun H' d bt B' d0 d1 fr => ?_⟩
    obtain ⟨i, rfl⟩ : ∃ i : Nat, d = i := ⟨d.toNat, by omega⟩
    have hi : i < xs.length := by omega
    exact ⟨l, xs, _, xs[i], rfl, rfl, SqL.of (bt _ _ hl hlp), atI_nat (List.getElem?_eq_getElem hi), q H' _ (List.getElem_mem hi) bt B' fr⟩
end
end Ov
namespace Ov
open PySem PySem.Spec PyProof.Rows L2
/-! ### names of instructions -/
def tail (c : Nat) : Nat := if c = 122 then 121 else 122
def nameOf (c t k : Nat) : List Nat := List.replicate (1 + t) c ++ List.replicate k (tail c)
theorem tail_ne (c : Nat) : tail c ≠ c := by
  unfold tail
  split <;> omega
theorem nameOf_inj {c t k c' t' k' : Nat} (h : nameOf c t k = nameOf c' t' k') : c = c' ∧ k = k' := by
  have hc : c = c' := by
    unfold nameOf at h
    rw [Nat.add_comm 1 t, Nat.add_comm 1 t', List.replicate_succ, List.replicate_succ] at h
    exact (List.cons.inj h).1
  subst hc
  refine ⟨rfl, ?_⟩
  have cnt : ∀ t k, (nameOf c t k).count (tail c) = k := fun t k => by
    unfold nameOf
    rw [List.count_append, List.count_replicate, List.count_replicate_self, if_neg]
    · omega
    · intro z
      exact tail_ne c (Eq.symm (by simpa using z))
  rw [← cnt t k, h, cnt]
theorem nameOf_len (c t k : Nat) : (nameOf c t k).length = 1 + t + k := by
  unfold nameOf
  rw [List.length_append, List.length_replicate, List.length_replicate]
theorem nameOf_low {c t k : Nat} (h1 : 97 ≤ c) (h2 : c ≤ 122) : ∀ x ∈ nameOf c t k, 97 ≤ x ∧ x ≤ 122 := by
  intro x hx
  unfold nameOf at hx
  rcases List.mem_append.mp hx with hx | hx
  · rw [(List.mem_replicate.mp hx).2]; exact ⟨h1, h2⟩
  · rw [(List.mem_replicate.mp hx).2]
    unfold tail
    split <;> omega
/-- an instruction -/
structure I4 where
  op : Nat
  nm : List Nat
  ln : Nat
  pad : Bool
/-- what is drawn for the place at -/
structure Drawn (lg first at_ : Nat) (x : I4) : Prop where
  nm : ∃ t, t < 3 ∧ x.nm = nameOf (97 + (first + 5 * at_) % 26) t (at_ / 26)
  ln : 1 ≤ x.ln ∧ x.ln ≤ lg
  pad : at_ = 0 → x.pad = true
/-- a valid table of instructions -/
structure TabOk (cnt lg : Nat) (is : List I4) : Prop where
  cb : 2 ≤ cnt ∧ cnt ≤ 256
  lb : lg ≤ 12
  ne : is ≠ []
  few : is.length ≤ 71
  asc : (is.map I4.op).Pairwise (· < ·)
  ops : ∀ x ∈ is, x.op < cnt
  len : ∀ x ∈ is, 1 ≤ x.ln ∧ x.ln ≤ lg
  nms : ∀ x ∈ is, 1 ≤ x.nm.length ∧ x.nm.length ≤ 8 ∧ ∀ c ∈ x.nm, 97 ≤ c ∧ c ≤ 122
  nd : (is.map I4.nm).Nodup
  fst : ∀ x, is[0]? = some x → x.pad = true
theorem names_nodup {lg first : Nat} {is : List I4} (hd : ∀ i x, is[i]? = some x → Drawn lg first i x) : (is.map I4.nm).Nodup := by
  rw [List.nodup_iff_pairwise_ne, List.pairwise_map, List.pairwise_iff_getElem]
  intro i j hi hj hij e
  obtain ⟨t, _, e1⟩ := (hd i _ (List.getElem?_eq_getElem hi)).nm
  obtain ⟨t', _, e2⟩ := (hd j _ (List.getElem?_eq_getElem hj)).nm
  rw [e1, e2] at e
  obtain ⟨h1, h2⟩ := nameOf_inj e
  omega
/-- an instruction as it stands -/
def I4.vs (x : I4) : List V := [.int (x.op : Int), .str (txt x.nm), .int (x.ln : Int), .bl x.pad]
/-- instructions, each a tuple of its own, in a tuple (or list) -/
def Rows (H : Hp) (rs : List Addr) (is : List I4) : Prop := rs.length = is.length ∧ ∀ (i : Nat) (r : Addr) (x : I4), rs[i]? = some r → is[i]? = some x → H r = some (.tup x.vs)
theorem Rows.same {H H' : Hp} {rs : List Addr} {is : List I4} (h : Rows H rs is) (s : Same H H') : Rows H' rs is := ⟨h.1, fun i r x h1 h2 => s _ _ (h.2 i r x h1 h2)⟩
theorem Rows.but {H H' : Hp} {p : Addr} {n : Nat} {rs : List Addr} {is : List I4} (h : Rows H rs is) (b : But p H H') (B : BoxAt H p n) : Rows H' rs is := by
  refine ⟨h.1, fun i r x h1 h2 => ?_⟩
  have hr := h.2 i r x h1 h2
  refine b _ _ hr fun z => ?_
  obtain ⟨a, b, c, e, _⟩ := B
  rw [z, e] at hr
  cases hr
theorem Rows.more {H : Hp} {rs : List Addr} {is : List I4} {r : Addr} {x : I4} (h : Rows H rs is) (hr : H r = some (.tup x.vs)) : Rows H (rs ++ [r]) (is ++ [x]) := by
  refine ⟨by rw [List.length_append, List.length_append, h.1]; rfl, fun i r' x' h1 h2 => ?_⟩
  by_cases c : i < rs.length
  · rw [List.getElem?_append_left c] at h1
    rw [List.getElem?_append_left (by rw [← h.1]; exact c)] at h2
    exact h.2 i r' x' h1 h2
  · have hl := (List.getElem?_eq_some_iff.mp h1).1
    rw [List.length_append] at hl
    have e : i = rs.length := by
      have : ([r] : List Addr).length = 1 := rfl
      omega
    subst e
    rw [List.getElem?_append_right (Nat.le_refl _), Nat.sub_self] at h1
    rw [h.1, List.getElem?_append_right (Nat.le_refl _), Nat.sub_self] at h2
    have e1 : r = r' := Option.some.inj h1
    have e2 : x = x' := Option.some.inj h2
    subst e1 e2
    exact hr
/-- a table: (byte count, instructions) -/
structure Tab (H : Hp) (t : Addr) (cnt lg : Nat) (is : List I4) (it : Addr) (rs : List Addr) : Prop where
  at_ : H t = some (.tup [.int (cnt : Int), .ref it])
  its : H it = some (.tup (rs.map V.ref))
  rows : Rows H rs is
  ok : TabOk cnt lg is
theorem Tab.same {H H' : Hp} {t : Addr} {cnt lg : Nat} {is : List I4} {it : Addr} {rs : List Addr} (h : Tab H t cnt lg is it rs) (s : Same H H') : Tab H' t cnt lg is it rs := ⟨s _ _ h.at_, s _ _ h.its, h.rows.same s, h.ok⟩
theorem ne_box {H : Hp} {p a : Addr} {n : Nat} {xs : List V} (B : BoxAt H p n) (h : H a = some (.tup xs)) : a ≠ p := fun z => by
  obtain ⟨_, _, _, e, _⟩ := B
  rw [z, e] at h
  cases h
theorem Tab.but {H H' : Hp} {p : Addr} {n : Nat} {t : Addr} {cnt lg : Nat} {is : List I4} {it : Addr} {rs : List Addr} (h : Tab H t cnt lg is it rs) (b : But p H H') (B : BoxAt H p n) : Tab H' t cnt lg is it rs :=
  ⟨b _ _ h.at_ (ne_box B h.at_), b _ _ h.its (ne_box B h.its), h.rows.but b B, h.ok⟩
theorem abc_at : ∀ i : Nat, i < 26 → atI (Str.ofString "abcdefghijklmnopqrstuvwxyz").cps.toList (i : Int) = some (97 + i) := by
  intro i hi
  refine atI_nat ?_
  rcases i with _ | _ | _ | _ | _ | _ | _ | _ | _ | _ | _ | _ | _ | _ | _ | _ | _ | _ | _ | _ | _ | _ | _ | _ | _ | _ | i <;> first | (exfalso; omega) | decide +kernel
theorem txt_add (a b : List Nat) : txt a ++ txt b = txt (a ++ b) := by
  show (⟨a.toArray ++ b.toArray⟩ : Str) = ⟨(a ++ b).toArray⟩
  simp
/-- how long the list at l is -/
def lenAt (H : Hp) (l : Addr) : Nat := match H l with
  | some (.lst xs) => xs.length
  | _ => 0
theorem lenAt_of {H : Hp} {l : Addr} {xs : List V} (h : H l = some (.lst xs)) : lenAt H l = xs.length := by
  unfold lenAt
  rw [h]
end Ov
namespace Ov
open PySem PySem.Spec PyProof.Rows L2
theorem erase_map {α β : Type} (f : α → β) : ∀ (l : List α) (j : Nat), (l.map f).eraseIdx j = (l.eraseIdx j).map f
  | [], j => rfl
  | a :: l, 0 => rfl
  | a :: l, j + 1 => by
    rw [List.map_cons, List.eraseIdx_cons_succ, List.eraseIdx_cons_succ, List.map_cons, erase_map f l j]
section
variable {P : Program} {w : World} {K : PySem.W.Frag} {mg : Str → Option Value} {base : Heap}
/-! ### _law_table -/
def spTable : Sp := fun vs H Q _ => ∃ (p : Addr) (n mb lg : Nat), vs = [.ref p, .int (mb : Int), .int (lg : Int)] ∧ BoxAt H p n ∧ n ≤ 2 ^ 39 ∧ 2 ≤ mb ∧ mb ≤ 256 ∧ 1 ≤ lg ∧ lg ≤ 12 ∧
  ∀ H' t cnt is it rs, But p H H' → BoxAt H' p (n + 1000) → H t = none → Tab H' t cnt lg is it rs → cnt ≤ mb → Q (.ref t) H'
theorem scTable : FnScope ["_law_box_here", "_law_most_bytes", "_law_longest_here", "_law_count", "_law_many", "_law_opcodes", "_law_found", "_law_first", "_law_at", "_law_opcode", "_law_letter", "_law_name", "_law_length"] ["_law_box_here", "_law_most_bytes", "_law_longest_here"] (defScope sTable) := ⟨rfl, rfl, rfl, by decide +kernel, rfl, by decide +kernel, by decide +kernel⟩
theorem ok_table {f fO fT : Addr} {fd fdO fdT : FuncData} {k : Nat} (F : Fun K "_law_table" "_law_table" sTable f fd) (T : Bi mg) (O : Def K mg "_law_of" sOf fO fdO ["_law_box_here", "_law_some"]) (Tk : Def K mg "_law_take" sTake fT fdT ["_law_box_here", "_law_many"]) :
    FnOk P w K mg base CX0 (k + 3) f fd ["_law_box_here", "_law_most_bytes", "_law_longest_here"] spTable := by
  have GO : FnOk P w K mg base CX0 (k + 2) fO fdO ["_law_box_here", "_law_some"] spOf := ok_of O.fn T Tk
  have GT : FnOk P w K mg base CX0 (k + 2) fT fdT ["_law_box_here", "_law_many"] spTake := ok_take Tk.fn
  refine F.ok scTable (fun vs H Q E h => ?_) (fun cdv A' outer s H vs Q E hr h => ?_)
  · obtain ⟨p, n, mb, lg, rfl, _⟩ := h
    rfl
  · obtain ⟨p, n, mb, lg, rfl, B, hn, mb1, mb2, lg1, lg2, q⟩ := h
    refine ⟨_, pss_cons (ps_set (i := 3) scTable.nd rfl (.inl rfl) (pe_op op_add pe_int (pe_call GT hr (by rfl) Tk.gl Tk.fn.kp Tk.bi .nil pass0 (pa_cons (pv 0) (pa_cons (pe_op op_sub (pv 1) pe_int) pa_nil)))))
      (pss_cons (ps_par (i := 4) (j := 5) (by rfl) scTable.nd rfl rfl (by decide) rfl rfl (pa_cons (pe_op op_add pe_int (pe_call GT hr (by rfl) Tk.gl Tk.fn.kp Tk.bi .nil pass0 (pa_cons (pv 0) (pa_cons (pe_callB (call_min2 rfl) (by rfl) T.min (by decide +kernel) (pa_cons pe_int (pa_cons (pv 3) pa_nil))) pa_nil))))
          (pa_cons (pe_listRange (by rfl) T.list (by rfl) T.range (pv 3)) pa_nil)) (by rfl))
      (C8.pss_cut (ps_if (PW.pt (pw_and (pt_cmpR op_gt (pv 3) pe_int (nomark _)) (pw_and1 (pt_cmpR op_eq (pe_op op_mod (pv 3) pe_int) pe_int (nomark _))))) (pss_one (ps_set (i := 4) scTable.nd rfl (.inl rfl) (pe_op op_add pe_int (pe_op op_fdiv (pv 3) pe_int)))) pss_nil)
      (pss_cons (ps_while PassesOwn.never (pt_cmpR op_gt (pe_callB call_len_seq (by rfl) T.len PySem.boot_len (pa_cons (pv 5) pa_nil)) (pv 4) (nomark _))
        (pss_one (ps_expr (pe_bm PySem.F.plainAttrs_list PySem.F.slot_list_pop PySem.F.type_list_pop mt_popAt (pv 5) (pa_cons (pe_call GT hr (by rfl) Tk.gl Tk.fn.kp Tk.bi .nil pass0 (pa_cons (pv 0) (pa_cons (pe_callB call_len_seq (by rfl) T.len PySem.boot_len (pa_cons (pv 5) pa_nil)) pa_nil))) pa_nil)))))
      (pss_cons (ps_par (i := 6) (j := 7) (by rfl) scTable.nd rfl rfl (by decide) rfl rfl (pa_cons (pe_lst pa_nil) (pa_cons (pe_call GT hr (by rfl) Tk.gl Tk.fn.kp Tk.bi .nil pass0 (pa_cons (pv 0) (pa_cons pe_int pa_nil))) pa_nil)) (by rfl))
      (pss_cons (ps_for PassesOwn.never rfl (pi_enum (by rfl) T.enumerate (pa_cons (pv 5) pa_nil)) (pg_tup rfl (pgs_cons (pg_name (i := 8) scTable.nd rfl (.inl rfl)) (pgs_cons (pg_name (i := 9) scTable.nd rfl (.inl rfl)) pgs_nil)))
        (pss_cons (ps_set (i := 10) scTable.nd rfl (.inl rfl) (pe_ix ix_str pe_str (pe_op op_mod (pe_op op_add (pv 7) (pe_op op_mul pe_int (pv 8))) pe_int) (fun _ _ => rfl)))
        (pss_cons (ps_set (i := 11) scTable.nd rfl (.inl rfl) (pe_op op_add_str (pe_op op_mulS (pv 10) (pe_op op_add pe_int (pe_call GT hr (by rfl) Tk.gl Tk.fn.kp Tk.bi .nil pass0 (pa_cons (pv 0) (pa_cons pe_int pa_nil)))))
          (pe_op op_mulS (pe_ifExp (pt_cmpR op_eq (pv 10) pe_str (nomark _)) pe_str pe_str) (pe_op op_fdiv (pv 8) pe_int))))
        (pss_cons (ps_set (i := 12) scTable.nd rfl (.inl rfl) (pe_call GO hr (by rfl) O.gl O.fn.kp O.bi .nil pass0 (pa_cons (pv 0) (pa_cons (pe_lst (pa_cons pe_int (pa_cons pe_int (pa_cons pe_int (pa_cons (pe_op op_add pe_int (pe_call GT hr (by rfl) Tk.gl Tk.fn.kp Tk.bi .nil pass0 (pa_cons (pv 0) (pa_cons (pv 2) pa_nil)))) pa_nil))))) pa_nil))))
        (pss_one (ps_expr (pe_bm PySem.F.plainAttrs_list PySem.F.slot_list_append PySem.F.type_list_append mt_append (pv 6) (pa_cons (pe_tup (pa_cons (pv 9) (pa_cons (pv 11) (pa_cons (pe_callB (call_min2 rfl) (by rfl) T.min (by decide +kernel) (pa_cons (pv 12) (pa_cons (pv 2) pa_nil)))
          (pa_cons (pe_or (pe_cmpR op_eq (pv 8) pe_int (nomark _)) (pe_one (pe_cmpR op_eq (pe_call GT hr (by rfl) Tk.gl Tk.fn.kp Tk.bi .nil pass0 (pa_cons (pv 0) (pa_cons pe_int pa_nil))) pe_int (nomark _)))) pa_nil))))) pa_nil))))))))
      (pss_one (ps_ret (pe_tup (pa_cons (pv 3) (pa_cons (pe_callTy call_tuple_of (by rfl) T.tuple (by decide +kernel) (pa_cons (pv 6) pa_nil)) pa_nil)))))))))), ?_⟩
    -- the byte count
    refine ⟨_, rfl, _, rfl, _, _, rfl, rfl, p, _, n, rfl, B, by omega, by omega, by omega, fun H1 c b1 B1 c0 c1 f1 => ⟨_, _, rfl, rfl, ?_⟩⟩
    obtain ⟨cnt, ec⟩ : ∃ cnt : Nat, 2 + c = (cnt : Int) := ⟨(2 + c).toNat, by omega⟩
    have hc2 : 2 ≤ cnt ∧ cnt ≤ mb := by omega
    dsimp only
    rw [ec]
    -- how many, and all opcodes
    refine ⟨_, rfl, _, rfl, _, _, rfl, p, _, n + 1, rfl, B1, by omega, by split <;> omega, by split <;> omega, fun H2 e b2 B2 e0 e1 f2 => ?_⟩
    refine ⟨_, _, rfl, rfl, _, rfl, cnt, rfl, by omega, fun l nl => ⟨_, _, rfl, ?_⟩⟩
    obtain ⟨mn0, em⟩ : ∃ m : Nat, 1 + e = (m : Int) := ⟨(1 + e).toNat, by omega⟩
    have hm0 : 1 ≤ mn0 ∧ mn0 ≤ 71 := by
      have : e < 6 := by
        revert e1
        split <;> omega
      omega
    dsimp only
    rw [em]
    have b02 : But p H H2 := b1.trans b2
    have hlp : l ≠ p := fun z => B2.ne (z ▸ nl)
    have hHl : H l = none := b02.free B.ne nl B2.ne
    have s3 := same_upd (o := HO.lst ((List.range cnt).map fun i : Nat => V.int (i : Int))) nl
    have b03 : But p H _ := b02.trans (But.of s3)
    have B3 := B2.same s3
    have h3 := @upd_same H2 l (HO.lst ((List.range cnt).map fun i : Nat => V.int (i : Int)))
    generalize upd H2 l (HO.lst ((List.range cnt).map fun i : Nat => V.int (i : Int))) = H3 at *
    -- at times more of them
    refine ⟨fun σ H4 => H4 = H3 ∧ ∃ mn : Nat, 1 ≤ mn ∧ mn ≤ 71 ∧ σ = [some (.ref p), some (.int (mb : Int)), some (.int (lg : Int)), some (.int (cnt : Int)), some (.int (mn : Int)), some (.ref l), none, none, none, none, none, none, none], ?_, ?_⟩
    · refine ⟨_, rfl, _, _, rfl, rfl, _, rfl, ite2 (fun _ => ?_) (fun _ => ?_)⟩
      · refine ⟨_, rfl, _, _, rfl, rfl, (show (0 : Int) < 7 by decide), rfl, _, rfl, ite2 (fun _ => ?_) (fun _ => ?_)⟩
        · refine ⟨_, rfl, _, _, rfl, rfl, ⟨by decide, by decide⟩, _, _, rfl, rfl, rfl, 7 + cnt / 4, by omega, by omega, ?_⟩
          show [some (V.ref p), _, _, _, some (V.int (7 + (cnt : Int) / 4)), _, _, _, _, _, _, _, _] = _
          rw [show (7 + (cnt : Int) / 4) = ((7 + cnt / 4 : Nat) : Int) by omega]
        · exact ⟨rfl, mn0, hm0.1, hm0.2, rfl⟩
      · exact ⟨rfl, mn0, hm0.1, hm0.2, rfl⟩
    rintro σ H4 ⟨rfl, mn, mn1, mn2, rfl⟩
    -- thrown out, one by one
    refine while_by (fun σ H5 => σ = [some (.ref p), some (.int (mb : Int)), some (.int (lg : Int)), some (.int (cnt : Int)), some (.int (mn : Int)), some (.ref l), none, none, none, none, none, none, none] ∧
        But p H H5 ∧ ∃ ops : List Nat, H5 l = some (.lst (ops.map fun i : Nat => V.int (i : Int))) ∧ ops.Pairwise (· < ·) ∧ (∀ x ∈ ops, x < cnt) ∧ 1 ≤ ops.length ∧ ops.length ≤ cnt ∧ BoxAt H5 p (n + 2 + (cnt - ops.length))) (fun _ H5 => lenAt H5 l)
      ⟨rfl, b03, List.range cnt, h3, List.pairwise_lt_range, fun x hx => List.mem_range.mp hx, by rw [List.length_range]; omega, by rw [List.length_range]; exact Nat.le_refl _, B3.mono (by omega)⟩ ?_ ?_
    · rintro σ H5 ⟨rfl, b5, ops, h5, asc, lt, l1, l2, B5⟩
      refine ⟨_, rfl, l, _, rfl, .inl (SqL.of h5), _, rfl, _, _, rfl, rfl, _, rfl, ?_⟩
      rw [List.length_map]
      by_cases big : (mn : Int) < (ops.length : Int)
      · rw [decide_eq_true big]
        refine iteT ?_
        refine ⟨_, rfl, .inl ⟨rfl, _, SqL.of h5⟩, _, rfl, _, rfl, l, _, rfl, .inl (SqL.of h5), p, _, _, rfl, B5, by omega, by rw [List.length_map]; omega, by rw [List.length_map]; omega, fun H6 d b6 B6 d0 d1 f6 => ?_⟩
        rw [List.length_map] at d1
        obtain ⟨j, rfl⟩ : ∃ j : Nat, d = (j : Int) := ⟨d.toNat, by omega⟩
        have hj : j < ops.length := by omega
        have h6 := b6 _ _ h5 hlp
        refine ⟨l, _, (j : Int), j, _, rfl, rfl, h6, by omega, by omega, (ixN_seq (ixN_at (by rw [List.length_map]; exact hj))).1, (by rw [List.getElem?_map, List.getElem?_eq_getElem hj]; rfl), ?_⟩
        have eE : (ops.map fun i : Nat => V.int (i : Int)).eraseIdx j = (ops.eraseIdx j).map fun i : Nat => V.int (i : Int) := by
          exact erase_map _ _ _
        rw [eE]
        have hlen : (ops.eraseIdx j).length = ops.length - 1 := List.length_eraseIdx_of_lt hj
        refine ⟨⟨rfl, fun b o eb hb => ?_, ops.eraseIdx j, upd_same, asc.sublist (List.eraseIdx_sublist ops j), fun x hx => lt x (List.mem_of_mem_eraseIdx hx), by omega, by omega, ?_⟩, ?_⟩
        · rw [upd_ne (ne_of_none eb hHl)]
          exact b6 _ _ (b5 b o eb hb) hb
        · obtain ⟨x1, x2, x3, e1, r⟩ := B6
          have := (show BoxAt (upd H6 l (.lst ((ops.eraseIdx j).map fun i : Nat => V.int (i : Int)))) p (n + 2 + (cnt - ops.length) + 1) from ⟨x1, x2, x3, by rw [upd_ne (Ne.symm hlp)]; exact e1, r⟩)
          exact this.mono (by omega)
        · rw [lenAt_of upd_same, lenAt_of h5, List.length_map, List.length_map]
          omega
      · rw [decide_eq_false big]
        refine iteF ?_
        have few : ops.length ≤ 71 := by omega
        -- the names' first letter
        refine ⟨Nat.zero_le _, fun fo nfo => ?_⟩
        have s7 := same_upd (o := HO.lst []) nfo
        have hfp : fo ≠ p := fun z => B5.ne (z ▸ nfo)
        have hHfo : H fo = none := b5.free B.ne nfo B5.ne
        refine ⟨_, rfl, p, 26, _, rfl, B5.same s7, by omega, by decide, by decide, fun H8 fst b8 B8 f80 f81 f8 => ⟨_, _, rfl, ?_⟩⟩
        obtain ⟨fi, rfl⟩ : ∃ j : Nat, fst = (j : Int) := ⟨fst.toNat, by omega⟩
        have h8l := b8 _ _ (s7 _ _ h5) hlp
        have h8f : H8 fo = some (.lst []) := b8 _ _ upd_same hfp
        have b08 : But p H H8 := (b5.trans (But.of s7)).trans b8
        have nHfo8 : fo ≠ l := (ne_of_none h5 nfo).symm
        -- one instruction for each
        refine ⟨_, rfl, l, _, rfl, SqL.of h8l, for_it (walk_enum (K := K) (a := l) (xs := ops.map fun i : Nat => V.int (i : Int)))
          (fun i σ H9 => ∃ y8 y9 y10 y11 y12, σ = [some (.ref p), some (.int (mb : Int)), some (.int (lg : Int)), some (.int (cnt : Int)), some (.int (mn : Int)), some (.ref l), some (.ref fo), some (.int (fi : Int)), y8, y9, y10, y11, y12] ∧
            But p H H9 ∧ H9 l = some (.lst (ops.map fun i : Nat => V.int (i : Int))) ∧ BoxAt H9 p (n + 300 + 4 * i) ∧ ∃ (rs : List Addr) (is : List I4), H9 fo = some (.lst (rs.map V.ref)) ∧ is.length = i ∧ Rows H9 rs is ∧ (∀ j x, is[j]? = some x → Drawn lg fi j x ∧ ops[j]? = some x.op))
          ⟨none, none, none, none, none, rfl, b08, h8l, B8.mono (by omega), [], [], h8f, rfl, ⟨rfl, fun i r x h => by simp at h⟩, fun j x h => by simp at h⟩ (fun i σ H9 _ ⟨_, _, _, _, _, _, _, h, _⟩ => SqL.of h) ?_ ?_⟩
        · rintro i x σ H9 H10 hi ⟨y8, y9, y10, y11, y12, rfl, b9, h9l, B9, rs, is, h9f, hil, R9, D9⟩ ⟨tt, x1, x2, rfl, ntt, rfl, f1, f2⟩
          rw [List.length_map] at hi
          have e1 : x1 = .int (i : Int) := (Option.some.inj f1).symm
          have e2 : x2 = .int ((ops[i] : Nat) : Int) := by
            have : (ops.map fun i : Nat => V.int (i : Int))[i]? = some x2 := f2
            rw [List.getElem?_map, List.getElem?_eq_getElem hi] at this
            exact (Option.some.inj this).symm
          subst e1 e2
          have st := same_upd (o := HO.tup [V.int (i : Int), V.int ((ops[i] : Nat) : Int)]) ntt
          refine ⟨tt, _, rfl, SqT.of upd_same, rfl, _, _, rfl, _, _, rfl, rfl, ?_⟩
          -- the letter
          refine ⟨_, rfl, _, rfl, _, _, rfl, rfl, .inl ⟨by decide, by decide⟩, _, _, rfl, rfl, _, _, rfl, rfl, (show (0 : Int) < 26 by decide), _, _, 97 + (fi + 5 * i) % 26, rfl, rfl, by decide +kernel, ?_, ?_⟩
          · rw [show ((fi : Int) + 5 * (i : Int)) % 26 = (((fi + 5 * i) % 26 : Nat) : Int) by omega]
            exact abc_at _ (Nat.mod_lt _ (by decide))
          generalize hcc : 97 + (fi + 5 * i) % 26 = cc at *
          have cc1 : 97 ≤ cc ∧ cc ≤ 122 := by omega
          -- the name
          refine ⟨_, rfl, _, rfl, p, 3, _, rfl, B9.same st, by omega, by decide, by decide, fun H11 t3 b11 B11 t0 t1 f11 => ?_⟩
          obtain ⟨t, rfl⟩ : ∃ j : Nat, t3 = (j : Int) := ⟨t3.toNat, by omega⟩
          refine ⟨_, _, rfl, rfl, [cc], _, rfl, rfl, by omega, by omega, (show 1 ≤ 1000 by decide), ?_⟩
          have eqz : ∀ (Q : Prop) (R : Prop), (cc = 122 → Q) → (cc ≠ 122 → R) → (if decide (V.str (txt [cc]) = V.str (Str.ofString "z")) = true then Q else R) := fun Q R h1 h2 => by
            by_cases z : cc = 122
            · rw [decide_eq_true (by rw [z]; decide +kernel)]
              exact iteT (h1 z)
            · rw [decide_eq_false (fun w => z (by
                have : txt [cc] = txt [122] := (V.str.inj w).trans (by decide +kernel)
                exact (List.cons.inj (txt_inj this)).1))]
              exact iteF (h2 z)
          have rep1 : ∀ (m c : Nat), (List.replicate m [c]).flatten = List.replicate m c := fun m c => flat_rep c m
          have s911 : But p H9 H11 := (But.of st).trans b11
          have b11' : But p H H11 := b9.trans s911
          have h11l := s911 _ _ h9l hlp
          have h11f := s911 _ _ h9f hfp
          have R11 := R9.but s911 B9
          refine ⟨_, rfl, rfl, _, rfl, eqz _ _ (fun z => ?_) (fun z => ?_)⟩
          all_goals
            refine ⟨_, rfl, _, _, rfl, rfl, ⟨by decide, by decide⟩, [tail cc], _, ?_, rfl, by omega, by omega, (show 1 ≤ 1000 by decide), ?_⟩
            · unfold tail
              first
                | (rw [if_pos z]; decide +kernel)
                | (rw [if_neg z]; decide +kernel)
            rw [rep1, rep1, show (1 + (t : Int)).toNat = 1 + t by omega, show ((i : Int) / 26).toNat = i / 26 by omega]
            refine ⟨_, _, rfl, rfl, ?_, ?_⟩
            · rw [txt_len, txt_len, List.length_replicate, List.length_replicate]
              exact Nat.le_of_lt (small1000 (by omega))
            rw [txt_add]
            show tSeq _ _ _ ([some (V.ref p), some (.int (mb : Int)), some (.int (lg : Int)), some (.int (cnt : Int)), some (.int (mn : Int)), some (.ref l), some (.ref fo), some (.int (fi : Int)), some (.int (i : Int)), some (.int ((ops[i] : Nat) : Int)), some (.str (txt [cc])), some (.str (txt (nameOf cc t (i / 26)))), y12] : L2.St) H11
            -- the length
            refine ⟨_, rfl, _, rfl, _, rfl, p, (lg : Int), _, rfl, B11, by omega, by omega, by omega, fun H12 e4 b12 B12 e40 e41 f12 => ?_⟩
            refine ⟨_, _, rfl, rfl, by show 4 ≤ sizeLine; decide, fun l4 nl4 => ?_⟩
            have s12 := same_upd (o := HO.lst [V.int 1, V.int 2, V.int 3, V.int (1 + e4)]) nl4
            have hl4p : l4 ≠ p := fun z => B12.ne (z ▸ nl4)
            refine ⟨p, l4, _, _, rfl, B12.same s12, by omega, upd_same, hl4p, (show 0 < 4 by decide), (show 4 ≤ 1000 by decide), fun H13 v hv b13 B13 f13 => ?_⟩
            obtain ⟨ln, rfl, ln1, ln2⟩ : ∃ ln : Nat, v = .int (ln : Int) ∧ 1 ≤ ln ∧ ln ≤ 12 := by
              simp only [List.mem_cons, List.not_mem_nil, or_false] at hv
              rcases hv with rfl | rfl | rfl | rfl
              · exact ⟨1, rfl, by decide, by decide⟩
              · exact ⟨2, rfl, by decide, by decide⟩
              · exact ⟨3, rfl, by decide, by decide⟩
              · exact ⟨(1 + e4).toNat, by congr 1; omega, by omega, by omega⟩
            have s1113 : But p H11 H13 := (b12.trans (But.of s12)).trans b13
            have h13l := s1113 _ _ h11l hlp
            have h13f := s1113 _ _ h11f hfp
            have R13 := R11.but s1113 B11
            have b13' := b11'.trans s1113
            refine ⟨_, rfl, .inl ⟨rfl, _, SqL.of h13f⟩, _, rfl, _, rfl, _, rfl, _, rfl, _, _, rfl, _, rfl, rfl, _, rfl, ?_⟩
            have emin : (if (lg : Int) < (ln : Int) then (lg : Int) else (ln : Int)) = ((min ln lg : Nat) : Int) := by
              split <;> omega
            dsimp only
            rw [emin]
            -- the last part: it is put behind the others
            have put : ∀ (b : Bool) (H14 : Hp), (i = 0 → b = true) → But p H H14 → H14 l = some (.lst (ops.map fun i : Nat => V.int (i : Int))) → BoxAt H14 p (n + 300 + 4 * (i + 1)) → H14 fo = some (.lst (rs.map V.ref)) → Rows H14 rs is →
                ∀ r, H14 r = none → ∃ (rs' : List Addr) (is' : List I4), upd (upd H14 r (.tup [.int ((ops[i] : Nat) : Int), .str (txt (nameOf cc t (i / 26))), .int ((min ln lg : Nat) : Int), .bl b])) fo (.lst (rs.map V.ref ++ [V.ref r])) fo = some (.lst (rs'.map V.ref)) ∧ is'.length = i + 1 ∧
                  Rows (upd (upd H14 r (.tup [.int ((ops[i] : Nat) : Int), .str (txt (nameOf cc t (i / 26))), .int ((min ln lg : Nat) : Int), .bl b])) fo (.lst (rs.map V.ref ++ [V.ref r]))) rs' is' ∧ (∀ j x, is'[j]? = some x → Drawn lg fi j x ∧ ops[j]? = some x.op) := by
              intro b H14 hb b14 h14l B14 h14f R14 r nr
              have sr := same_upd (o := HO.tup [.int ((ops[i] : Nat) : Int), .str (txt (nameOf cc t (i / 26))), .int ((min ln lg : Nat) : Int), .bl b]) nr
              have hrf : r ≠ fo := fun z => by rw [z, h14f] at nr; cases nr
              have R15 := (R14.same sr).more (r := r) (x := ⟨ops[i], nameOf cc t (i / 26), min ln lg, b⟩) upd_same
              refine ⟨rs ++ [r], is ++ [⟨ops[i], nameOf cc t (i / 26), min ln lg, b⟩], by rw [upd_same, List.map_append]; rfl, by rw [List.length_append, hil]; rfl, ⟨R15.1, fun j r' x' h1 h2 => ?_⟩, fun j x hj => ?_⟩
              · have := R15.2 j r' x' h1 h2
                rw [upd_ne (fun z => by rw [z, sr _ _ h14f] at this; cases this)]
                exact this
              · by_cases c : j < is.length
                · rw [List.getElem?_append_left c] at hj
                  exact D9 j x hj
                · have hl := (List.getElem?_eq_some_iff.mp hj).1
                  rw [List.length_append] at hl
                  have e : j = i := by
                    have : ([⟨ops[i], nameOf cc t (i / 26), min ln lg, b⟩] : List I4).length = 1 := rfl
                    omega
                  subst e
                  rw [List.getElem?_append_right (by omega), hil, Nat.sub_self] at hj
                  have ex : (⟨ops[j], nameOf cc t (j / 26), min ln lg, b⟩ : I4) = x := Option.some.inj hj
                  subst ex
                  exact ⟨⟨⟨t, by omega, by rw [← hcc]⟩, ⟨by show 1 ≤ min ln lg; omega, by show min ln lg ≤ lg; omega⟩, hb⟩, List.getElem?_eq_getElem hi⟩
            have fin : ∀ (b : Bool) (H14 : Hp), (i = 0 → b = true) → But p H H14 → H14 l = some (.lst (ops.map fun i : Nat => V.int (i : Int))) → BoxAt H14 p (n + 300 + 4 * (i + 1)) → H14 fo = some (.lst (rs.map V.ref)) → Rows H14 rs is →
                ∀ r, H14 r = none → But p H (upd (upd H14 r (.tup [.int ((ops[i] : Nat) : Int), .str (txt (nameOf cc t (i / 26))), .int ((min ln lg : Nat) : Int), .bl b])) fo (.lst (rs.map V.ref ++ [V.ref r]))) ∧
                  (upd (upd H14 r (.tup [.int ((ops[i] : Nat) : Int), .str (txt (nameOf cc t (i / 26))), .int ((min ln lg : Nat) : Int), .bl b])) fo (.lst (rs.map V.ref ++ [V.ref r]))) l = some (.lst (ops.map fun i : Nat => V.int (i : Int))) ∧
                  BoxAt (upd (upd H14 r (.tup [.int ((ops[i] : Nat) : Int), .str (txt (nameOf cc t (i / 26))), .int ((min ln lg : Nat) : Int), .bl b])) fo (.lst (rs.map V.ref ++ [V.ref r]))) p (n + 300 + 4 * (i + 1)) := by
              intro b H14 hb b14 h14l B14 h14f R14 r nr
              have sr := same_upd (o := HO.tup [.int ((ops[i] : Nat) : Int), .str (txt (nameOf cc t (i / 26))), .int ((min ln lg : Nat) : Int), .bl b]) nr
              refine ⟨fun c o eb hb => ?_, ?_, ?_⟩
              · rw [upd_ne (ne_of_none eb hHfo)]
                exact sr _ _ (b14 c o eb hb)
              · rw [upd_ne (Ne.symm nHfo8)]
                exact sr _ _ h14l
              · obtain ⟨x1, x2, x3, e1, r⟩ := B14.same sr
                exact ⟨x1, x2, x3, by rw [upd_ne (Ne.symm hfp)]; exact e1, r⟩
            have rlen : (rs.map V.ref).length < sizeLine := by
              rw [List.length_map, R9.1, hil]
              exact small1000 (by omega)
            by_cases i0 : i = 0
            · rw [decide_eq_true (show V.int (i : Int) = V.int 0 by rw [i0]; rfl)]
              refine iteT ⟨by show 4 ≤ sizeLine; decide, fun r nr => ?_⟩
              have hb : i = 0 → true = true := fun _ => rfl
              have B13' : BoxAt H13 p (n + 300 + 4 * (i + 1)) := B13.mono (by omega)
              obtain ⟨a1, a2, a3⟩ := fin true H13 hb b13' h13l B13' h13f R13 r nr
              refine ⟨fo, _, _, rfl, rfl, same_upd nr _ _ h13f, rlen, ?_⟩
              exact ⟨_, _, _, _, _, rfl, a1, a2, a3, put true H13 hb b13' h13l B13' h13f R13 r nr⟩
            · rw [decide_eq_false (show ¬ V.int (i : Int) = V.int 0 from fun z => i0 (by have := V.int.inj z; omega))]
              refine iteF ⟨_, rfl, p, 2, _, rfl, B13, by omega, by decide, by decide, fun H14 e5 b14 B14 e50 e51 f14 => ⟨rfl, by show 4 ≤ sizeLine; decide, fun r nr => ?_⟩⟩
              have hb : i = 0 → decide (V.int e5 = V.int 0) = true := fun z => absurd z i0
              have h14l := b14 _ _ h13l hlp
              have h14f := b14 _ _ h13f hfp
              have R14 := R13.but b14 B13
              have b14' := b13'.trans b14
              have B14' : BoxAt H14 p (n + 300 + 4 * (i + 1)) := B14.mono (by omega)
              obtain ⟨a1, a2, a3⟩ := fin _ H14 hb b14' h14l B14' h14f R14 r nr
              refine ⟨fo, _, _, rfl, rfl, same_upd nr _ _ h14f, rlen, ?_⟩
              exact ⟨_, _, _, _, _, rfl, a1, a2, a3, put _ H14 hb b14' h14l B14' h14f R14 r nr⟩
        · rintro σ H9 ⟨y8, y9, y10, y11, y12, rfl, b9, h9l, B9, rs, is, h9f, hil, R9, D9⟩
          rw [List.length_map] at hil B9
          refine ⟨_, rfl, _, rfl, fo, _, rfl, .inl ⟨SqL.of h9f, fun it nit => ?_⟩⟩
          refine ⟨by show 2 ≤ sizeLine; decide, fun t nt => ?_⟩
          have sA := same_upd (o := HO.tup (rs.map V.ref)) nit
          have sB := same_upd (o := HO.tup [V.int (cnt : Int), V.ref it]) nt
          have sAB := sA.trans sB
          have nt9 : H9 t = none := sA.free nt
          have eops : is.map I4.op = ops := by
            refine List.ext_getElem (by rw [List.length_map, hil]) fun j h1 h2 => ?_
            rw [List.length_map] at h1
            have := (D9 j _ (List.getElem?_eq_getElem h1)).2
            rw [List.getElem?_eq_getElem h2] at this
            rw [List.getElem_map]
            exact (Option.some.inj this).symm
          refine q _ t cnt is it rs (b9.trans (But.of sAB)) ((B9.same sAB).mono (by omega)) (b9.free B.ne nt9 B9.ne) ⟨upd_same, sB _ _ upd_same, R9.same sAB, ?_⟩ hc2.2
          refine ⟨⟨by omega, by omega⟩, by omega, fun z => by rw [z] at hil; simp at hil; omega, by omega, by rw [eops]; exact asc, fun x hx => ?_, fun x hx => ?_, fun x hx => ?_, names_nodup (fun i x h => (D9 i x h).1), fun x hx => (D9 0 x hx).1.pad rfl⟩
          · exact lt _ (by rw [← eops]; exact List.mem_map.mpr ⟨x, hx, rfl⟩)
          · obtain ⟨j, hj⟩ := List.mem_iff_getElem?.mp hx
            exact (D9 j x hj).1.ln
          · obtain ⟨j, hj⟩ := List.mem_iff_getElem?.mp hx
            have hjl := (List.getElem?_eq_some_iff.mp hj).1
            obtain ⟨t, ht, en⟩ := (D9 j x hj).1.nm
            rw [en, nameOf_len]
            exact ⟨by omega, by omega, nameOf_low (by omega) (by omega)⟩
    · rintro σ H5 Q1 Q2 hQ ⟨v, h1, pp, ys, h2, h3, v2, h4, i, j, h5, h6, b, h7, h8⟩
      exact ⟨v, h1, pp, ys, h2, h3, v2, h4, i, j, h5, h6, b, h7, hQ _ _ h8⟩
end
end Ov
namespace Ov
open PySem PySem.Spec PyProof.Rows L2
theorem nlt_sign {a b : Nat} (h : a ≤ b) : decide (([b] : List Nat) < [a]) = false := by
  refine decide_eq_false ?_
  rw [List.cons_lt_cons_iff]
  rintro (z | ⟨_, z⟩)
  · omega
  · exact absurd z (by simp)
section
variable {X : Cx}
/-- a slice of a tuple, or of a list -/
theorem sl_seq : SlR X (fun x lo hi H Q => rSlA X.K x lo hi H Q ∨ rSlL X.K x lo hi H Q) := by
  intro pins s σ H x v vl vu lo hi sl Q I rx hs pl pu h
  rcases h with h | h
  · exact sl_tupA pins s σ H x v vl vu lo hi sl Q I rx hs pl pu h
  · exact sl_list pins s σ H x v vl vu lo hi sl Q I rx hs pl pu h
end
section
variable {P : Program} {w : World} {K : PySem.W.Frag} {mg : Str → Option Value} {base : Heap}
/-! ### is_ascending of a list -/
def spAscL (K : PySem.W.Frag) : Sp := fun vs H Q _ => ∃ (a : Addr) (ns : List Int), vs = [.ref a] ∧ SqL K H a (ns.map V.int) ∧ ns.length ≤ 1000 ∧ ns.Pairwise (· < ·) ∧ ∀ H', Same H H' → Q (.bl true) H'
theorem ok_ascL {f : Addr} {fd : FuncData} {k : Nat} (F : Fun K "is_ascending" "is_ascending" sAscending f fd) (T : Bi mg) : FnOk P w K mg base CX0 (k + 1) f fd ["numbers"] (spAscL K) := by
  refine F.ok scAscending (fun vs H Q E h => ?_) (fun cdv A outer s H vs Q E hr h => ?_)
  · obtain ⟨a, ns, rfl, _⟩ := h
    rfl
  · obtain ⟨a, ns, rfl, hS, hlen, hasc, q⟩ := h
    refine ⟨_, pss_one (ps_ret (pe_callB (cr_all rfl) (by rfl) T.all (by decide +kernel) (pa_cons
      (pe_lc (own := [("low", 1), ("high", 2)]) (g := gTup K 2 (gCons (gName 1) (gCons (gName 2) gNil))) (tt := tYes) (by rfl) scAscending.nd (RZ.pi_zipA (by rfl) T.zip (pa_cons (pv 0) (pa_cons (pe_slice sl_list (pv 0) (po_some pe_int) po_none) pa_nil)))
        (blkOk_by (own := [("low", 1), ("high", 2)]) (N := ["numbers", "low", "high"]) (sc := defScope sAscending) (by decide +kernel))
        (fun _ _ _ _ _ => pg_tup rfl (pgs_cons (pg_name (i := 1) scAscending.nd rfl (Or.inl rfl)) (pgs_cons (pg_name (i := 2) scAscending.nd rfl (Or.inl rfl)) pgs_nil)))
        (fun _ _ _ _ _ => pts_nil) (fun _ _ _ _ _ => pe_cmpR op_lt (pv 1) (pv 2) (nomark _))) pa_nil))), ?_⟩
    refine ⟨_, rfl, _, rfl, 1, rfl, a, ns.map V.int, rfl, hS, fun c nc => ?_⟩
    have s1 : Same H (upd H c (.lst (cutV (ns.map V.int) (some 1) none))) := same_upd nc
    have hc : SqL K (upd H c (.lst (cutV (ns.map V.int) (some 1) none))) c ((ns.drop 1).map V.int) := .inl (.inl (by rw [upd_same, cut1, List.map_drop]))
    refine ⟨a, c, ns.map V.int, (ns.drop 1).map V.int, rfl, .inl ⟨s1.seq hS, hc, fun D nD => lc_it (walk_zip (xs := ns.map V.int) (ys := (ns.drop 1).map V.int) rfl)
      (fun i H2 => Mk (upd H c (.lst (cutV (ns.map V.int) (some 1) none))) H2 D ((List.replicate i true).map V.bl)) (.start nD) (fun i H2 _ p => ⟨p.same.seq (s1.seq hS), p.same.seq hc⟩) (fun i x H2 H3 hi p y => ?_) (fun H2 p => ?_)⟩⟩
    · obtain ⟨t, x1, x2, rfl, nt, rfl, f1, f2⟩ := y
      have hi' : i < min ns.length (ns.length - 1) := by simpa using hi
      have h1 : i < ns.length := by omega
      have h2 : i + 1 < ns.length := by omega
      have e1 : x1 = .int ns[i] := by
        have : (ns.map V.int)[i]? = some x1 := f1
        rw [List.getElem?_map, List.getElem?_eq_getElem h1] at this
        exact (Option.some.inj this).symm
      have e2 : x2 = .int ns[i + 1] := by
        have : ((ns.drop 1).map V.int)[i]? = some x2 := f2
        rw [List.getElem?_map, List.getElem?_drop, Nat.add_comm 1 i, List.getElem?_eq_getElem h2] at this
        exact (Option.some.inj this).symm
      have hlt : ns[i] < ns[i + 1] := List.pairwise_iff_getElem.mp hasc i (i + 1) h1 h2 (by omega)
      refine ⟨t, [x1, x2], rfl, .inl (.inl upd_same), rfl, x1, [x2], rfl, x2, [], rfl, rfl, rfl, x1, rfl, x2, rfl, _, _, e1, e2, _, (by rw [upd_ne (ne_of_none p.at_ nt)]; exact p.at_), (by rw [List.length_map, List.length_replicate]; exact small1000 (by omega)), ?_⟩
      show Mk _ (upd _ D (.lst (_ ++ [V.bl (decide (ns[i] < ns[i + 1]))]))) D _
      rw [decide_eq_true hlt, List.replicate_succ', List.map_append]
      exact p.put (same_upd nt)
    · refine ⟨D, _, rfl, .inl (.inl p.at_), ?_⟩
      rw [all_true]
      exact q H2 (s1.trans p.same)
/-! ### is_name -/
def spName : Sp := fun vs H Q _ => ∃ nm : List Nat, vs = [.str (txt nm)] ∧ 1 ≤ nm.length ∧ nm.length ≤ 8 ∧ (∀ c ∈ nm, 97 ≤ c ∧ c ≤ 122) ∧ ∀ H', Same H H' → Q (.bl true) H'
theorem scName : FnScope ["value", "letter"] ["value"] (defScope sIsName) := ⟨rfl, rfl, rfl, by decide +kernel, rfl, by decide +kernel, by decide +kernel⟩
theorem ok_name {f : Addr} {fd : FuncData} {k : Nat} (F : Fun K "is_name" "is_name" sIsName f fd) (T : Bi mg) (m8 : ∃ t, mg "MOST_LETTERS" = some (.int 8 t)) : FnOk P w K mg base CX0 (k + 1) f fd ["value"] spName := by
  obtain ⟨t8, m8⟩ := m8
  refine F.ok scName (fun vs H Q E h => ?_) (fun cdv A outer s H vs Q E hr h => ?_)
  · obtain ⟨nm, rfl, _⟩ := h
    rfl
  · obtain ⟨nm, rfl, h1, h2, low, q⟩ := h
    refine ⟨_, pss_cons (ps_if (PW.pt (pw_or (pt_not (pt_val (pe_callB call_isi (by rfl) T.isi (by decide +kernel) (pa_cons (pv 0) (pa_cons (pe_bltn (v := .ty "str") (u := .type "str") (by rfl) T.str (by decide +kernel) rfl) pa_nil)))))
        (pw_or1 (pt_not (pt_chain op_le op_le pe_int (pe_callB call_len_str (by rfl) T.len PySem.boot_len (pa_cons (pv 0) pa_nil)) (pe_glob (v := .int 8) (by rfl) m8 ⟨_, rfl⟩)))))) (pss_one (ps_ret pe_bl)) pss_nil)
      (pss_one (ps_ret (pe_callB (cr_all rfl) (by rfl) T.all (by decide +kernel) (pa_cons
        (pe_lc (own := [("letter", 1)]) (g := gName 1) (tt := tYes) (by rfl) scName.nd (pi_str (pv 0)) (blkOk_by (own := [("letter", 1)]) (N := ["value", "letter"]) (sc := defScope sIsName) (by decide +kernel))
          (fun _ _ _ _ _ => pg_name (i := 1) scName.nd rfl (Or.inl rfl)) (fun _ _ _ _ _ => pts_nil) (fun _ _ _ _ _ => pe_chain op_le_str op_le_str pe_str (pv 1) pe_str)) pa_nil)))), ?_⟩
    have hsz : (txt nm).length ≤ sizeLine := by rw [txt_len]; exact Nat.le_of_lt (small1000 (by omega))
    refine ⟨_, rfl, _, _, _, _, _, rfl, .ty _, .base (.str _), kit_ty (by decide +kernel : kitB "str" "str" = some true), _, rfl, ?_⟩
    refine iteF ⟨_, rfl, _, rfl, hsz, _, _, rfl, rfl, _, rfl, ?_⟩
    rw [txt_len, decide_eq_true (show (1 : Int) ≤ (nm.length : Int) by omega)]
    refine iteT ⟨_, _, rfl, rfl, _, rfl, ?_⟩
    rw [decide_eq_true (show (nm.length : Int) ≤ 8 by omega)]
    refine iteF ?_
    refine ⟨_, rfl, txt nm, rfl, fun D nD => lc_it (walk_str (z := txt nm)) (fun i H2 => Mk H H2 D ((List.replicate i true).map V.bl)) (.start nD) (fun _ _ _ _ => trivial) ?_ ?_⟩
    · rintro i x H2 H3 hi mk ⟨rfl, c, hc, rfl⟩
      have hcm : c ∈ nm := by
        have : nm[i]? = some c := by simpa [txt] using hc
        exact List.mem_of_getElem? this
      obtain ⟨c1, c2⟩ := low c hcm
      have hi' : i < nm.length := by
        have : i < (txt nm).cps.size := hi
        simpa [txt] using this
      refine ⟨rfl, _, rfl, Str.ofString "a", _, rfl, rfl, _, rfl, ?_⟩
      have ea : (Str.ofString "a").cps.toList = [97] := by decide +kernel
      have ez : (Str.ofString "z").cps.toList = [122] := by decide +kernel
      rw [ea, show decide (((⟨#[c]⟩ : Str).cps.toList) < ([97] : List Nat)) = false from nlt_sign c1]
      refine iteT ⟨_, Str.ofString "z", rfl, rfl, ?_⟩
      rw [ez, show decide (([122] : List Nat) < ((⟨#[c]⟩ : Str).cps.toList)) = false from nlt_sign c2]
      refine ⟨_, mk.at_, (by rw [List.length_map, List.length_replicate]; exact small1000 (by omega)), ?_⟩
      rw [List.replicate_succ', List.map_append]
      exact mk.put (Same.refl _)
    · intro H2 mk
      refine ⟨D, _, rfl, SqL.of mk.at_, ?_⟩
      rw [all_true]
      exact q H2 mk.same
/-! ### is_instruction -/
/-- a valid instruction for this byte count -/
structure InsOk (cnt : Nat) (x : I4) : Prop where
  op : x.op < cnt
  nm : 1 ≤ x.nm.length ∧ x.nm.length ≤ 8 ∧ ∀ c ∈ x.nm, 97 ≤ c ∧ c ≤ 122
  ln : 1 ≤ x.ln ∧ x.ln ≤ 12
theorem TabOk.ins {cnt lg : Nat} {is : List I4} (h : TabOk cnt lg is) {x : I4} (hx : x ∈ is) : InsOk cnt x := ⟨h.ops x hx, h.nms x hx, (h.len x hx).1, Nat.le_trans (h.len x hx).2 h.lb⟩
def spInstr : Sp := fun vs H Q _ => ∃ (cnt : Nat) (r : Addr) (x : I4), vs = [.int (cnt : Int), .ref r] ∧ H r = some (.tup x.vs) ∧ InsOk cnt x ∧ ∀ H', Same H H' → Q (.bl true) H'
theorem scInstr : FnScope ["byte_count", "value", "opcode", "name", "length", "is_padding"] ["byte_count", "value"] (defScope sIsInstr) := ⟨rfl, rfl, rfl, by decide +kernel, rfl, by decide +kernel, by decide +kernel⟩
theorem ok_instr {f fB fN : Addr} {fd fdB fdN : FuncData} {k : Nat} (F : Fun K "is_instruction" "is_instruction" sIsInstr f fd) (T : Bi mg)
    (B : Def K mg "is_integer_between" sBetween fB fdB ["value", "least", "most"]) (GB : FnOk P w K mg base CX0 (k + 1) fB fdB ["value", "least", "most"] spBetween) (Nm : Def K mg "is_name" sIsName fN fdN ["value"]) (m8 : ∃ t, mg "MOST_LETTERS" = some (.int 8 t)) (m12 : ∃ t, mg "MOST_LENGTH" = some (.int 12 t)) :
    FnOk P w K mg base CX0 (k + 2) f fd ["byte_count", "value"] spInstr := by
  have GN : FnOk P w K mg base CX0 (k + 1) fN fdN ["value"] spName := ok_name Nm.fn T m8
  obtain ⟨t12, m12⟩ := m12
  refine F.ok scInstr (fun vs H Q E h => ?_) (fun cdv A outer s H vs Q E hr h => ?_)
  · obtain ⟨cnt, r, x, rfl, _⟩ := h
    rfl
  · obtain ⟨cnt, r, x, rfl, hx, ok, q⟩ := h
    refine ⟨_, pss_cons (ps_if (PW.pt (pw_or (pt_not (pt_val (pe_callB call_isi (by rfl) T.isi (by decide +kernel) (pa_cons (pv 1) (pa_cons (pe_bltn (v := .ty "tuple") (u := .type "tuple") (by rfl) T.tuple (by decide +kernel) rfl) pa_nil)))))
        (pw_or1 (pt_cmpR op_ne (pe_callB call_len_seq (by rfl) T.len PySem.boot_len (pa_cons (pv 1) pa_nil)) pe_int (nomark _))))) (pss_one (ps_ret pe_bl)) pss_nil)
      (pss_cons (ps_asg (pv 1) (pg_tup rfl (pgs_cons (pg_name (i := 2) scInstr.nd rfl (.inl rfl)) (pgs_cons (pg_name (i := 3) scInstr.nd rfl (.inl rfl)) (pgs_cons (pg_name (i := 4) scInstr.nd rfl (.inl rfl)) (pgs_cons (pg_name (i := 5) scInstr.nd rfl (.inl rfl)) pgs_nil))))))
      (pss_one (ps_ret (pe_and (pe_call GB hr (by rfl) B.gl B.fn.kp B.bi .nil pass0 (pa_cons (pv 2) (pa_cons pe_int (pa_cons (pe_op op_sub (pv 0) pe_int) pa_nil))))
        (pe_and (pe_call GN hr (by rfl) Nm.gl Nm.fn.kp Nm.bi .nil pass0 (pa_cons (pv 3) pa_nil))
        (pe_and (pe_call GB hr (by rfl) B.gl B.fn.kp B.bi .nil pass0 (pa_cons (pv 4) (pa_cons pe_int (pa_cons (pe_glob (v := .int 12) (by rfl) m12 ⟨_, rfl⟩) pa_nil))))
        (pe_one (pe_callB call_isi (by rfl) T.isi (by decide +kernel) (pa_cons (pv 5) (pa_cons (pe_bltn (v := .ty "bool") (u := .type "bool") (by rfl) T.bool (by decide +kernel) rfl) pa_nil)))))))))), ?_⟩
    refine ⟨_, rfl, _, _, _, _, _, rfl, .ty _, .base (.tup hx), kit_ty (by decide +kernel : kitB "tuple" "tuple" = some true), _, rfl, ?_⟩
    refine iteF ⟨_, rfl, r, _, rfl, .inr (SqT.of hx), rfl, _, rfl, ?_⟩
    refine iteNS rfl ?_
    refine ⟨_, rfl, r, _, rfl, SqT.of hx, rfl, _, _, rfl, _, _, rfl, _, _, rfl, _, _, rfl, rfl, ?_⟩
    have o1 := ok.op
    have o2 := ok.ln
    refine ⟨_, rfl, _, rfl, _, _, rfl, rfl, _, _, _, rfl, by omega, by omega, _, rfl, iteT ?_⟩
    refine ⟨_, rfl, x.nm, rfl, ok.nm.1, ok.nm.2.1, ok.nm.2.2, fun H1 s1 => ⟨_, rfl, iteT ?_⟩⟩
    refine ⟨_, rfl, _, _, _, rfl, by omega, by omega, _, rfl, iteT ?_⟩
    exact ⟨_, rfl, _, _, _, _, _, rfl, .ty _, .base (.bl _), kit_ty (by decide +kernel : kitB "bool" "bool" = some true), q H1 s1⟩
/-! ### are_instructions -/
def spAreI : Sp := fun vs H Q _ => ∃ (cnt lg : Nat) (it : Addr) (rs : List Addr) (is : List I4), vs = [.int (cnt : Int), .ref it] ∧ H it = some (.tup (rs.map V.ref)) ∧ Rows H rs is ∧ TabOk cnt lg is ∧ ∀ H', Same H H' → Q (.bl true) H'
theorem scAreI : FnScope ["byte_count", "value", "opcodes", "names", "item", "opcode", "name", "length", "is_padding"] ["byte_count", "value"] (defScope sAreInstr) := ⟨rfl, rfl, rfl, by decide +kernel, rfl, by decide +kernel, by decide +kernel⟩
theorem rows_at {H : Hp} {rs : List Addr} {is : List I4} (h : Rows H rs is) {i : Nat} {x : V} (hx : (rs.map V.ref)[i]? = some x) : ∃ (hi : i < is.length) (r : Addr), x = .ref r ∧ H r = some (.tup is[i].vs) ∧ rs[i]? = some r := by
  have hi : i < rs.length := by
    have := (List.getElem?_eq_some_iff.mp hx).1
    rwa [List.length_map] at this
  have hi2 : i < is.length := by rw [← h.1]; exact hi
  rw [List.getElem?_map, List.getElem?_eq_getElem hi] at hx
  exact ⟨hi2, rs[i], (Option.some.inj hx).symm, h.2 i _ _ (List.getElem?_eq_getElem hi) (List.getElem?_eq_getElem hi2), List.getElem?_eq_getElem hi⟩
theorem ok_areI {f fI fA : Addr} {fd fdI fdA : FuncData} {k : Nat} (F : Fun K "are_instructions" "are_instructions" sAreInstr f fd) (T : Bi mg)
    (Ii : Def K mg "is_instruction" sIsInstr fI fdI ["byte_count", "value"]) (GI : FnOk P w K mg base CX0 k fI fdI ["byte_count", "value"] spInstr) (A : Def K mg "is_ascending" sAscending fA fdA ["numbers"]) (GA : FnOk P w K mg base CX0 k fA fdA ["numbers"] (spAscL K)) :
    FnOk P w K mg base CX0 (k + 1) f fd ["byte_count", "value"] spAreI := by
  refine F.ok scAreI (fun vs H Q E h => ?_) (fun cdv A' outer s H vs Q E hr h => ?_)
  · obtain ⟨cnt, lg, it, rs, is, rfl, _⟩ := h
    rfl
  · obtain ⟨cnt, lg, it, rs, is, rfl, hit, R, ok, q⟩ := h
    refine ⟨_, pss_cons (ps_if (PW.pt (pw_or (pt_not (pt_val (pe_callB call_isi (by rfl) T.isi (by decide +kernel) (pa_cons (pv 1) (pa_cons (pe_bltn (v := .ty "tuple") (u := .type "tuple") (by rfl) T.tuple (by decide +kernel) rfl) pa_nil)))))
        (pw_or1 (pt_cmpR op_eq (pe_callB call_len_seq (by rfl) T.len PySem.boot_len (pa_cons (pv 1) pa_nil)) pe_int (nomark _))))) (pss_one (ps_ret pe_bl)) pss_nil)
      (pss_cons (ps_if (pt_not (pt_val (pe_callB (cr_all rfl) (by rfl) T.all (by decide +kernel) (pa_cons
        (pe_lc (own := [("item", 4)]) (g := gName 4) (tt := tYes) (by rfl) scAreI.nd (pi_tup (pv 1)) (blkOk_by (own := [("item", 4)]) (N := ["byte_count", "value", "opcodes", "names", "item", "opcode", "name", "length", "is_padding"]) (sc := defScope sAreInstr) (by decide +kernel))
          (fun _ _ _ _ _ => pg_name (i := 4) scAreI.nd rfl (Or.inl rfl)) (fun _ _ _ _ _ => pts_nil)
          (fun _ _ _ _ _ => pe_call GI hr (by rfl) Ii.gl Ii.fn.kp Ii.bi .nil pass0 (pa_cons (pv 0) (pa_cons (pv 4) pa_nil)))) pa_nil)))) (pss_one (ps_ret pe_bl)) pss_nil)
      (pss_cons (ps_setLc (i := 2) (own := [("opcode", 5), ("name", 6), ("length", 7), ("is_padding", 8)]) (g := gTup K 4 (gCons (gName 5) (gCons (gName 6) (gCons (gName 7) (gCons (gName 8) gNil))))) (tt := tYes) (by rfl) scAreI.nd rfl rfl (sw_true rfl rfl rfl (by decide +kernel)) (pi_tup (pv 1))
          (blkOk_by (own := [("opcode", 5), ("name", 6), ("length", 7), ("is_padding", 8)]) (N := ["byte_count", "value", "opcodes", "names", "item", "opcode", "name", "length", "is_padding"]) (sc := defScope sAreInstr) (by decide +kernel))
          (fun _ _ _ _ _ => pg_tup rfl (pgs_cons (pg_name (i := 5) scAreI.nd rfl (Or.inl rfl)) (pgs_cons (pg_name (i := 6) scAreI.nd rfl (Or.inl rfl)) (pgs_cons (pg_name (i := 7) scAreI.nd rfl (Or.inl rfl)) (pgs_cons (pg_name (i := 8) scAreI.nd rfl (Or.inl rfl)) pgs_nil)))))
          (fun _ _ _ _ _ => pts_nil) (fun _ _ _ _ _ => pv 5))
      (pss_cons (ps_setLc (i := 3) (own := [("opcode", 5), ("name", 6), ("length", 7), ("is_padding", 8)]) (g := gTup K 4 (gCons (gName 5) (gCons (gName 6) (gCons (gName 7) (gCons (gName 8) gNil))))) (tt := tYes) (by rfl) scAreI.nd rfl rfl (sw_true rfl rfl rfl (by decide +kernel)) (pi_tup (pv 1))
          (blkOk_by (own := [("opcode", 5), ("name", 6), ("length", 7), ("is_padding", 8)]) (N := ["byte_count", "value", "opcodes", "names", "item", "opcode", "name", "length", "is_padding"]) (sc := defScope sAreInstr) (by decide +kernel))
          (fun _ _ _ _ _ => pg_tup rfl (pgs_cons (pg_name (i := 5) scAreI.nd rfl (Or.inl rfl)) (pgs_cons (pg_name (i := 6) scAreI.nd rfl (Or.inl rfl)) (pgs_cons (pg_name (i := 7) scAreI.nd rfl (Or.inl rfl)) (pgs_cons (pg_name (i := 8) scAreI.nd rfl (Or.inl rfl)) pgs_nil)))))
          (fun _ _ _ _ _ => pts_nil) (fun _ _ _ _ _ => pv 6))
      (pss_one (ps_ret (pe_and (pe_call GA hr (by rfl) A.gl A.fn.kp A.bi .nil pass0 (pa_cons (pv 2) pa_nil))
        (pe_one (pe_cmpR op_eq (pe_lenSetT (by rfl) (by rfl) T.len (by rfl) T.set (pv 3)) (pe_callB call_len_seq (by rfl) T.len PySem.boot_len (pa_cons (pv 3) pa_nil)) (nomark _))))))))), ?_⟩
    have few := ok.few
    have rl := R.1
    refine ⟨_, rfl, _, _, _, _, _, rfl, .ty _, .base (.tup hit), kit_ty (by decide +kernel : kitB "tuple" "tuple" = some true), _, rfl, ?_⟩
    refine iteF ⟨_, rfl, it, _, rfl, .inr (SqT.of hit), rfl, _, rfl, ?_⟩
    rw [decide_eq_false (fun z => ok.ne (List.eq_nil_of_length_eq_zero (by have := V.int.inj z; rw [List.length_map] at this; omega)))]
    refine iteF ?_
    -- all are instructions
    refine ⟨_, rfl, it, rfl, ⟨_, SqT.of hit⟩, fun D nD => lc_tup (K := K) (a := it) (xs := rs.map V.ref) (fun i H2 => Mk H H2 D ((List.replicate i true).map V.bl)) (.start nD) (fun i H2 _ p => p.same.tup (SqT.of hit)) ?_ ?_⟩
    · intro i x H2 hx mk
      obtain ⟨hi, r, rfl, hr2, _⟩ := rows_at R hx
      refine ⟨rfl, _, rfl, _, rfl, cnt, r, is[i], rfl, mk.same _ _ hr2, ok.ins (List.getElem_mem hi), fun H3 s3 => ⟨_, s3 _ _ mk.at_, (by rw [List.length_map, List.length_replicate]; exact small1000 (by omega)), ?_⟩⟩
      rw [List.replicate_succ', List.map_append]
      exact mk.put s3
    intro H2 mk
    refine ⟨D, _, rfl, SqL.of mk.at_, _, rfl, ?_⟩
    rw [all_true]
    refine iteF ?_
    have s2 := mk.same
    have hit2 := s2 _ _ hit
    have R2 := R.same s2
    clear mk
    -- opcodes
    refine ⟨_, rfl, it, rfl, ⟨_, SqT.of hit2⟩, fun D3 nD3 => lc_tup (K := K) (a := it) (xs := rs.map V.ref) (fun i H3 => Mk H2 H3 D3 (((is.take i).map fun x => (x.op : Int)).map V.int)) (.start nD3) (fun i H3 _ p => p.same.tup (SqT.of hit2)) ?_ ?_⟩
    · intro i x H3 hx mk
      obtain ⟨hi, r, rfl, hr2, _⟩ := rows_at R2 hx
      refine ⟨r, _, rfl, SqT.of (mk.same _ _ hr2), rfl, _, _, rfl, _, _, rfl, _, _, rfl, _, _, rfl, rfl, rfl, _, rfl, _, mk.at_, (by rw [List.length_map, List.length_map, List.length_take]; exact small1000 (by omega)), ?_⟩
      rw [take_more (List.getElem?_eq_getElem hi), List.map_append, List.map_append]
      exact mk.put (Same.refl _)
    intro H3 m3
    rw [List.length_map, rl, List.take_length] at m3
    have s3 := s2.trans m3.same
    have hit3 := s3 _ _ hit
    have R3 := R.same s3
    -- names
    refine ⟨_, rfl, it, rfl, ⟨_, SqT.of hit3⟩, fun D4 nD4 => lc_tup (K := K) (a := it) (xs := rs.map V.ref) (fun i H4 => Mk H3 H4 D4 (((is.take i).map fun x => txt x.nm).map V.str)) (.start nD4) (fun i H4 _ p => p.same.tup (SqT.of hit3)) ?_ ?_⟩
    · intro i x H4 hx mk
      obtain ⟨hi, r, rfl, hr2, _⟩ := rows_at R3 hx
      refine ⟨r, _, rfl, SqT.of (mk.same _ _ hr2), rfl, _, _, rfl, _, _, rfl, _, _, rfl, _, _, rfl, rfl, rfl, _, rfl, _, mk.at_, (by rw [List.length_map, List.length_map, List.length_take]; exact small1000 (by omega)), ?_⟩
      rw [take_more (List.getElem?_eq_getElem hi), List.map_append, List.map_append]
      exact mk.put (Same.refl _)
    intro H4 m4
    rw [List.length_map, rl, List.take_length] at m4
    have h43 := m4.same _ _ m3.at_
    refine ⟨_, rfl, D3, is.map fun x => (x.op : Int), rfl, SqL.of h43, by rw [List.length_map]; omega, ?_, fun H5 s5 => ⟨_, rfl, iteT ?_⟩⟩
    · have := ok.asc
      rw [List.pairwise_map] at this ⊢
      exact this.imp fun z => by omega
    have h54 := s5 _ _ m4.at_
    refine ⟨_, rfl, D4, is.map fun x => txt x.nm, rfl, SqL.of h54, ?_, by rw [List.length_map]; omega, _, rfl, D4, _, rfl, .inl (SqL.of h54), rfl, ?_⟩
    · have := ok.nd
      rw [List.nodup_iff_pairwise_ne, List.pairwise_map] at this ⊢
      exact this.imp fun z y => z (txt_inj y)
    rw [decide_eq_true (by rw [List.length_map, List.length_map, List.length_map])]
    exact q H5 ((s3.trans m4.same).trans s5)
end
end Ov
namespace Ov
open PySem PySem.Spec PyProof.Rows L2
abbrev sInitI : Stmt := inClass cInstructionSet 0
/-! ### the attributes of an instruction set -/
def lenKV (is : List I4) : List (Key × V) := is.map fun x => ((Sum.inl (x.op : Int) : Key), V.int (x.ln : Int))
def nameKV (is : List I4) : List (Key × V) := is.map fun x => ((Sum.inr (txt x.nm) : Key), V.int (x.op : Int))
def flds (cnt : Nat) (it d1 d2 : Addr) : List (Str × V) := putF "opcode_of_name" (.ref d2) (putF "length_of_opcode" (.ref d1) (putF "instructions" (.ref it) (putF "byte_count" (.int (cnt : Int)) [])))
theorem n01 : ¬ (("byte_count" : Str) = "opcode_of_name") := by decide +kernel
theorem n02 : ¬ (("byte_count" : Str) = "length_of_opcode") := by decide +kernel
theorem n03 : ¬ (("byte_count" : Str) = "instructions") := by decide +kernel
theorem n11 : ¬ (("instructions" : Str) = "opcode_of_name") := by decide +kernel
theorem n12 : ¬ (("instructions" : Str) = "length_of_opcode") := by decide +kernel
theorem n21 : ¬ (("length_of_opcode" : Str) = "opcode_of_name") := by decide +kernel
theorem flds_cnt (cnt : Nat) (it d1 d2 : Addr) : (flds cnt it d1 d2).lookup ("byte_count" : Str) = some (.int (cnt : Int)) := by
  unfold flds
  rw [lookup_putF, if_neg n01, lookup_putF, if_neg n02, lookup_putF, if_neg n03, lookup_putF, if_pos rfl]
theorem flds_its (cnt : Nat) (it d1 d2 : Addr) : (flds cnt it d1 d2).lookup ("instructions" : Str) = some (.ref it) := by
  unfold flds
  rw [lookup_putF, if_neg n11, lookup_putF, if_neg n12, lookup_putF, if_pos rfl]
theorem flds_len (cnt : Nat) (it d1 d2 : Addr) : (flds cnt it d1 d2).lookup ("length_of_opcode" : Str) = some (.ref d1) := by
  unfold flds
  rw [lookup_putF, if_neg n21, lookup_putF, if_pos rfl]
theorem flds_nms (cnt : Nat) (it d1 d2 : Addr) : (flds cnt it d1 d2).lookup ("opcode_of_name" : Str) = some (.ref d2) := by
  unfold flds
  rw [lookup_putF, if_pos rfl]
theorem put_fresh {kvs : List (Key × V)} {k : Key} {v : V} (h : k ∉ kvs.map (·.1)) : putK kvs k v = kvs ++ [(k, v)] := by
  unfold putK
  refine if_neg fun z => h ?_
  obtain ⟨q, hq, e⟩ := List.any_eq_true.mp z
  exact List.mem_map.mpr ⟨q, hq, of_decide_eq_true e⟩
/-- an instruction set as it stands -/
structure SetAt (C : Addr) (H : Hp) (p : Addr) (cnt : Nat) (it : Addr) (is : List I4) : Prop where
  ob : ∃ dx d1 d2, H p = some (.ins C dx (flds cnt it d1 d2)) ∧ H d1 = some (.dK (lenKV is)) ∧ H d2 = some (.dK (nameKV is))
theorem SetAt.same {C : Addr} {H H' : Hp} {p : Addr} {cnt : Nat} {it : Addr} {is : List I4} (h : SetAt C H p cnt it is) (s : Same H H') : SetAt C H' p cnt it is := by
  obtain ⟨dx, d1, d2, h1, h2, h3⟩ := h.ob
  exact ⟨dx, d1, d2, s _ _ h1, s _ _ h2, s _ _ h3⟩
/-- what the top says of the class -/
structure SetTxt (K : PySem.W.Frag) (mg : Str → Option Value) (C : Addr) : Prop where
  cl : Cls K C
  nB : NoAttr K C "byte_count"
  nI : NoAttr K C "instructions"
  nL : NoAttr K C "length_of_opcode"
  nO : NoAttr K C "opcode_of_name"
  mgC : mg "InstructionSet" = some (.ref C)
section
variable {P : Program} {w : World} {K : PySem.W.Frag} {mg : Str → Option Value} {base : Heap}
def spInitI (C : Addr) : Sp := fun vs H Q _ => ∃ (p dx : Addr) (cnt lg : Nat) (it : Addr) (rs : List Addr) (is : List I4), vs = [.ref p, .int (cnt : Int), .ref it] ∧ H p = some (.ins C dx []) ∧ H it = some (.tup (rs.map V.ref)) ∧ Rows H rs is ∧ TabOk cnt lg is ∧
  ∀ H', SetAt C H' p cnt it is → (∀ b o, H b = some o → b ≠ p → H' b = some o) → Q .non H'
theorem scInitI : FnScope ["self", "byte_count", "instructions", "opcode", "name", "length", "is_padding"] ["self", "byte_count", "instructions"] (defScope sInitI) := ⟨rfl, rfl, rfl, by decide +kernel, rfl, by decide +kernel, by decide +kernel⟩
theorem ok_initI {f fB fA C : Addr} {fd fdB fdA : FuncData} {k : Nat} (F : Fun K "__init__" "InstructionSet.__init__" sInitI f fd) (T : Bi mg) (S : SetTxt K mg C)
    (B : Def K mg "is_integer_between" sBetween fB fdB ["value", "least", "most"]) (GB : FnOk P w K mg base CX0 k fB fdB ["value", "least", "most"] spBetween)
    (A : Def K mg "are_instructions" sAreInstr fA fdA ["byte_count", "value"]) (GA : FnOk P w K mg base CX0 k fA fdA ["byte_count", "value"] spAreI)
    (m2 : ∃ t, mg "LEAST_BYTE_COUNT" = some (.int 2 t)) (m256 : ∃ t, mg "MOST_BYTE_COUNT" = some (.int 256 t)) : FnOk P w K mg base CX0 (k + 1) f fd ["self", "byte_count", "instructions"] (spInitI C) := by
  obtain ⟨t2, m2⟩ := m2
  obtain ⟨t256, m256⟩ := m256
  refine F.ok scInitI (fun vs H Q E h => ?_) (fun cdv A' outer s H vs Q E hr h => ?_)
  · obtain ⟨p, dx, cnt, lg, it, rs, is, rfl, _⟩ := h
    rfl
  · obtain ⟨p, dx, cnt, lg, it, rs, is, rfl, hp, hit, R, ok, q⟩ := h
    refine ⟨_, pss_cons (ps_if (pt_not (pt_val (pe_call GB hr (by rfl) B.gl B.fn.kp B.bi .nil pass0 (pa_cons (pv 1) (pa_cons (pe_glob (v := .int 2) (by rfl) m2 ⟨_, rfl⟩) (pa_cons (pe_glob (v := .int 256) (by rfl) m256 ⟨_, rfl⟩) pa_nil)))))) (pss_one ps_never) pss_nil)
      (pss_cons (ps_if (pt_not (pt_val (pe_call GA hr (by rfl) A.gl A.fn.kp A.bi .nil pass0 (pa_cons (pv 1) (pa_cons (pv 2) pa_nil))))) (pss_one ps_never) pss_nil)
      (pss_cons (ps_fld (pv 0) (pv 1) rfl)
      (pss_cons (ps_fld (pv 0) (pv 2) rfl)
      (pss_cons (ps_fld (pv 0) (pe_dc (own := [("opcode", 3), ("name", 4), ("length", 5), ("is_padding", 6)]) (g := gTup K 4 (gCons (gName 3) (gCons (gName 4) (gCons (gName 5) (gCons (gName 6) gNil))))) (tt := tYes) (by rfl) scInitI.nd (pi_tup (pv 2))
          (blkOk_by (own := [("opcode", 3), ("name", 4), ("length", 5), ("is_padding", 6)]) (N := ["self", "byte_count", "instructions", "opcode", "name", "length", "is_padding"]) (sc := defScope sInitI) (by decide +kernel))
          (fun _ _ _ _ _ => pg_tup rfl (pgs_cons (pg_name (i := 3) scInitI.nd rfl (Or.inl rfl)) (pgs_cons (pg_name (i := 4) scInitI.nd rfl (Or.inl rfl)) (pgs_cons (pg_name (i := 5) scInitI.nd rfl (Or.inl rfl)) (pgs_cons (pg_name (i := 6) scInitI.nd rfl (Or.inl rfl)) pgs_nil)))))
          (fun _ _ _ _ _ => pts_nil) (fun _ _ _ _ _ => pv 3) (fun _ _ _ _ _ => pv 5)) rfl)
      (pss_one (ps_fld (pv 0) (pe_dc (own := [("opcode", 3), ("name", 4), ("length", 5), ("is_padding", 6)]) (g := gTup K 4 (gCons (gName 3) (gCons (gName 4) (gCons (gName 5) (gCons (gName 6) gNil))))) (tt := tYes) (by rfl) scInitI.nd (pi_tup (pv 2))
          (blkOk_by (own := [("opcode", 3), ("name", 4), ("length", 5), ("is_padding", 6)]) (N := ["self", "byte_count", "instructions", "opcode", "name", "length", "is_padding"]) (sc := defScope sInitI) (by decide +kernel))
          (fun _ _ _ _ _ => pg_tup rfl (pgs_cons (pg_name (i := 3) scInitI.nd rfl (Or.inl rfl)) (pgs_cons (pg_name (i := 4) scInitI.nd rfl (Or.inl rfl)) (pgs_cons (pg_name (i := 5) scInitI.nd rfl (Or.inl rfl)) (pgs_cons (pg_name (i := 6) scInitI.nd rfl (Or.inl rfl)) pgs_nil)))))
          (fun _ _ _ _ _ => pts_nil) (fun _ _ _ _ _ => pv 4) (fun _ _ _ _ _ => pv 3)) rfl)))))), ?_⟩
    have cb := ok.cb
    have few := ok.few
    have rl := R.1
    refine ⟨_, rfl, _, _, _, rfl, by omega, by omega, _, rfl, iteF ?_⟩
    refine ⟨_, rfl, _, rfl, cnt, lg, it, rs, is, rfl, hit, R, ok, fun H1 s1 => ⟨_, rfl, iteF ?_⟩⟩
    have hp1 := s1 _ _ hp
    -- byte_count, instructions
    refine ⟨_, rfl, _, rfl, p, C, dx, [], rfl, hp1, S.cl, S.nB, (by show 0 < 1000; decide), ?_⟩
    refine ⟨_, rfl, _, rfl, p, C, dx, _, rfl, upd_same, S.cl, S.nI, (by show 1 < 1000; decide), ?_⟩
    generalize hH3 : upd (upd H1 p (HO.ins C dx (putF "byte_count" (V.int (cnt : Int)) []))) p (HO.ins C dx (putF "instructions" (V.ref it) (putF "byte_count" (V.int (cnt : Int)) []))) = H3
    have hp3 : H3 p = some (.ins C dx (putF "instructions" (V.ref it) (putF "byte_count" (V.int (cnt : Int)) []))) := by rw [← hH3]; exact upd_same
    have s3 : ∀ b o, H1 b = some o → b ≠ p → H3 b = some o := fun b o e n => by rw [← hH3, upd_ne n, upd_ne n]; exact e
    have itp : it ≠ p := fun z => by rw [z, hp] at hit; cases hit
    have hit3 := s3 _ _ (s1 _ _ hit) itp
    have R3 : Rows H3 rs is := ⟨R.1, fun i r x h1 h2 => s3 _ _ (s1 _ _ (R.2 i r x h1 h2)) fun z => by have := R.2 i r x h1 h2; rw [z, hp] at this; cases this⟩
    clear hH3
    -- lengths by opcodes
    have fresh1 : ∀ (i : Nat) (hi : i < is.length), (Sum.inl ((is[i]).op : Int) : Key) ∉ (lenKV (is.take i)).map (·.1) := fun i hi z => by
      unfold lenKV at z
      rw [List.map_map] at z
      obtain ⟨y, hy, e⟩ := List.mem_map.mp z
      obtain ⟨j, hj, ej⟩ := List.mem_take_iff_getElem.mp hy
      have e' : (y.op : Int) = ((is[i]).op : Int) := Sum.inl.inj e
      have h1 := List.pairwise_iff_getElem.mp ok.asc j i (by rw [List.length_map]; omega) (by rw [List.length_map]; exact hi) (by omega)
      rw [List.getElem_map, List.getElem_map, ej] at h1
      omega
    have fresh2 : ∀ (i : Nat) (hi : i < is.length), (Sum.inr (txt (is[i]).nm) : Key) ∉ (nameKV (is.take i)).map (·.1) := fun i hi z => by
      unfold nameKV at z
      rw [List.map_map] at z
      obtain ⟨y, hy, e⟩ := List.mem_map.mp z
      obtain ⟨j, hj, ej⟩ := List.mem_take_iff_getElem.mp hy
      have e' : txt y.nm = txt (is[i]).nm := Sum.inr.inj e
      have h1 := List.pairwise_iff_getElem.mp (List.nodup_iff_pairwise_ne.mp ok.nd) j i (by rw [List.length_map]; omega) (by rw [List.length_map]; exact hi) (by omega)
      rw [List.getElem_map, List.getElem_map, ej] at h1
      exact h1 (txt_inj e')
    refine ⟨_, rfl, it, rfl, ⟨_, SqT.of hit3⟩, fun D nD => dc_tup (K := K) (a := it) (xs := rs.map V.ref) (fun i H4 => Same H3 H4 ∧ H4 D = some (.dK (lenKV (is.take i)))) ⟨same_upd nD, upd_same⟩ (fun i H4 _ p => p.1.tup (SqT.of hit3)) ?_ ?_⟩
    · rintro i x H4 hx ⟨s4, hD⟩
      obtain ⟨hi, r, rfl, hr2, _⟩ := rows_at R3 hx
      refine ⟨r, _, rfl, SqT.of (s4 _ _ hr2), rfl, _, _, rfl, _, _, rfl, _, _, rfl, _, _, rfl, rfl, rfl, _, rfl, _, rfl, _, Sum.inl ((is[i]).op : Int), rfl, hD, ?_, fun b o e => ?_, ?_⟩
      · unfold lenKV
        rw [List.length_map, List.length_take]
        exact small1000 (by omega)
      · rw [upd_ne (ne_of_none e nD)]
        exact s4 b o e
      · rw [upd_same, put_fresh (fresh1 i hi), take_more (List.getElem?_eq_getElem hi)]
        unfold lenKV
        rw [List.map_append]
        rfl
    rintro H4 ⟨s4, hD⟩
    rw [List.length_map, rl, List.take_length] at hD
    have hDp : D ≠ p := (ne_of_none hp3 nD).symm
    refine ⟨_, rfl, p, C, dx, _, rfl, s4 _ _ hp3, S.cl, S.nL, (by show 2 < 1000; decide), ?_⟩
    generalize hH5 : upd H4 p (HO.ins C dx (putF "length_of_opcode" (V.ref D) (putF "instructions" (V.ref it) (putF "byte_count" (V.int (cnt : Int)) [])))) = H5
    have hp5 : H5 p = some (.ins C dx (putF "length_of_opcode" (V.ref D) (putF "instructions" (V.ref it) (putF "byte_count" (V.int (cnt : Int)) [])))) := by rw [← hH5]; exact upd_same
    have s5 : ∀ b o, H4 b = some o → b ≠ p → H5 b = some o := fun b o e n => by rw [← hH5, upd_ne n]; exact e
    have hD5 := s5 _ _ hD hDp
    have hit5 := s5 _ _ (s4 _ _ hit3) itp
    have R5 : Rows H5 rs is := ⟨R.1, fun i r x h1 h2 => s5 _ _ (s4 _ _ (R3.2 i r x h1 h2)) fun z => by have := R3.2 i r x h1 h2; rw [z, hp3] at this; cases this⟩
    clear hH5
    -- opcodes by names
    refine ⟨_, rfl, it, rfl, ⟨_, SqT.of hit5⟩, fun E2 nE => dc_tup (K := K) (a := it) (xs := rs.map V.ref) (fun i H6 => Same H5 H6 ∧ H6 E2 = some (.dK (nameKV (is.take i)))) ⟨same_upd nE, upd_same⟩ (fun i H6 _ p => p.1.tup (SqT.of hit5)) ?_ ?_⟩
    · rintro i x H6 hx ⟨s6, hE⟩
      obtain ⟨hi, r, rfl, hr2, _⟩ := rows_at R5 hx
      refine ⟨r, _, rfl, SqT.of (s6 _ _ hr2), rfl, _, _, rfl, _, _, rfl, _, _, rfl, _, _, rfl, rfl, rfl, _, rfl, _, rfl, _, Sum.inr (txt (is[i]).nm), rfl, hE, ?_, fun b o e => ?_, ?_⟩
      · unfold nameKV
        rw [List.length_map, List.length_take]
        exact small1000 (by omega)
      · rw [upd_ne (ne_of_none e nE)]
        exact s6 b o e
      · rw [upd_same, put_fresh (fresh2 i hi), take_more (List.getElem?_eq_getElem hi)]
        unfold nameKV
        rw [List.map_append]
        rfl
    rintro H6 ⟨s6, hE⟩
    rw [List.length_map, rl, List.take_length] at hE
    have hEp : E2 ≠ p := (ne_of_none hp5 nE).symm
    refine ⟨_, rfl, p, C, dx, _, rfl, s6 _ _ hp5, S.cl, S.nO, (by show 3 < 1000; decide), ?_⟩
    refine q _ ⟨dx, D, E2, upd_same, ?_, ?_⟩ fun b o e n => ?_
    · rw [upd_ne hDp]; exact s6 _ _ hD5
    · rw [upd_ne hEp]; exact hE
    · rw [upd_ne n]
      exact s6 _ _ (s5 _ _ (s4 _ _ (s3 _ _ (s1 _ _ e) n)) n)
end
end Ov
namespace Ov
open PySem PySem.Spec PyProof.Rows L2
/-- a part of the heap, and what was laid beside it -/
structure Grow (T H T' H' : Hp) : Prop where
  hh : Same H H'
  tt : Same T T'
  th : Same T' H'
  new : ∀ b, T b = none → H b ≠ none → T' b = none
theorem Grow.refl {T H : Hp} (h : Same T H) : Grow T H T H := ⟨Same.refl _, Same.refl _, h, fun _ e _ => e⟩
theorem Grow.put {T H T' H' : Hp} (g : Grow T H T' H') {p : Addr} (o : HO) (n : H' p = none) : Grow T H (upd T' p o) (upd H' p o) := by
  refine ⟨g.hh.trans (same_upd n), g.tt.trans (same_upd ?_), fun b x e => ?_, fun b e h => ?_⟩
  · cases q : T' p with
    | none => rfl
    | some x => rw [g.th _ _ q] at n; cases n
  · by_cases hb : b = p
    · subst hb
      rw [upd_same] at e ⊢
      exact e
    · rw [upd_ne hb] at e ⊢
      exact g.th _ _ e
  · by_cases hb : b = p
    · subst hb
      cases q : H b with
      | none => exact absurd q h
      | some x => rw [g.hh _ _ q] at n; cases n
    · rw [upd_ne hb]
      exact g.new b e h
theorem Grow.trans {T H T1 H1 T2 H2 : Hp} (a : Grow T H T1 H1) (b : Grow T1 H1 T2 H2) : Grow T H T2 H2 :=
  ⟨a.hh.trans b.hh, a.tt.trans b.tt, b.th, fun c e h => b.new c (a.new c e h) fun z => by
    cases q : H c with
    | none => exact h q
    | some x => rw [a.hh _ _ q] at z; cases z⟩
theorem none_of {T H : Hp} {l : Addr} (s : Same T H) (n : H l = none) : T l = none := by
  cases z : T l with
  | none => rfl
  | some x => rw [s _ _ z] at n; cases n
end Ov
namespace Ov
open PySem PySem.Spec PyProof.Rows L2
/-! ### lists of data put together -/
theorem showableAll_app : ∀ a b : List PyData, PyData.showableAll (a ++ b) = (PyData.showableAll a && PyData.showableAll b)
  | [], b => by simp [PyData.showableAll]
  | x :: a, b => by simp [PyData.showableAll, showableAll_app a b, Bool.and_assoc]
theorem hasDictAll_app : ∀ a b : List PyData, PyData.hasDictAll (a ++ b) = (PyData.hasDictAll a || PyData.hasDictAll b)
  | [], b => by simp [PyData.hasDictAll]
  | x :: a, b => by simp [PyData.hasDictAll, hasDictAll_app a b, Bool.or_assoc]
theorem noListAll_app : ∀ a b : List PyData, noListAll (a ++ b) = (noListAll a && noListAll b)
  | [], b => by simp [noListAll]
  | x :: a, b => by simp [noListAll, noListAll_app a b, Bool.and_assoc]
theorem depthAll_app : ∀ a b : List PyData, PyData.depthAll (a ++ b) = max (PyData.depthAll a) (PyData.depthAll b)
  | [], b => by simp [PyData.depthAll]
  | x :: a, b => by simp [PyData.depthAll, depthAll_app a b] <;> omega
theorem nodesAll_app : ∀ a b : List PyData, nodesAll (a ++ b) = nodesAll a + nodesAll b
  | [], b => by simp [nodesAll]
  | x :: a, b => by simp [nodesAll, nodesAll_app a b] <;> omega
theorem noListAll_ints : ∀ ns : List Int, noListAll (ns.map PyData.int) = true
  | [] => by simp [noListAll]
  | n :: ns => by simp [noListAll, noList, noListAll_ints ns]
/-- what can be shown as a part -/
structure ShowsAll (ds : List PyData) (n : Nat) : Prop where
  sh : PyData.showableAll ds = true
  nl : PyData.hasDictAll ds = true → noListAll ds = true
  dep : PyData.depthAll ds ≤ 50
  nd : nodesAll ds ≤ n
theorem ShowsAll.tup {ds : List PyData} {n : Nat} (h : ShowsAll ds n) (hn : n ≤ 7999) : Shows (.tuple ds) :=
  ⟨by simp only [PyData.showable]; exact h.sh, fun z => by simp only [noList]; exact h.nl (by simpa only [PyData.hasDict] using z), by simp only [PyData.depth]; have := h.dep; omega, by simp only [nodes]; have := h.nd; omega⟩
theorem ints_show {ns : List Int} (h : ∀ n ∈ ns, n.natAbs < 2 ^ 1000) : ShowsAll (ns.map PyData.int) ns.length := by
  have f := flat_ints h
  exact ⟨f.sh, fun _ => noListAll_ints _, by rw [f.dep]; decide, by rw [f.nds, List.length_map]; exact Nat.le_refl _⟩
/-- ints, a thing, ints -/
theorem odd_show {a b : List Int} {d : PyData} (ha : ∀ n ∈ a, n.natAbs < 2 ^ 1000) (hb : ∀ n ∈ b, n.natAbs < 2 ^ 1000) (S : Shows d) (dep : d.depth ≤ 50) : ShowsAll (a.map PyData.int ++ [d] ++ b.map PyData.int) (a.length + nodes d + b.length) := by
  have fa := flat_ints ha
  have fb := flat_ints hb
  refine ⟨?_, fun z => ?_, ?_, ?_⟩
  · rw [showableAll_app, showableAll_app, fa.sh, fb.sh]
    simp [PyData.showableAll, S.sh]
  · rw [hasDictAll_app, hasDictAll_app, fa.nod, fb.nod] at z
    have z' : d.hasDict = true := by simpa [PyData.hasDictAll] using z
    rw [noListAll_app, noListAll_app, noListAll_ints, noListAll_ints]
    simp [noListAll, S.nl z']
  · rw [depthAll_app, depthAll_app, fa.dep, fb.dep]
    simp [PyData.depthAll]
    omega
  · rw [nodesAll_app, nodesAll_app, fa.nds, fb.nds]
    simp [nodesAll]
theorem shows_int {i : Int} (h : i.natAbs < 2 ^ 1000) : Shows (.int i) := by
  have f := flat_ints (ns := [i]) (fun n hn => by rw [List.mem_singleton.mp hn]; exact h)
  refine ⟨by have := f.sh; simpa [PyData.showableAll] using this, fun z => by simp [PyData.hasDict] at z, by simp [PyData.depth], by simp [nodes]⟩
theorem shows_bool (b : Bool) : Shows (.bool b) := ⟨by simp [PyData.showable], fun z => by simp [PyData.hasDict] at z, by simp [PyData.depth], by simp [nodes]⟩
theorem shows_none : Shows .none := ⟨by simp [PyData.showable], fun z => by simp [PyData.hasDict] at z, by simp [PyData.depth], by simp [nodes]⟩
theorem shows_str {x : Str} (h : (reprText x).length ≤ 100) : Shows (.str x) := ⟨by simp [PyData.showable], fun z => by simp [PyData.hasDict] at z, by simp [PyData.depth], by simp [nodes]; omega⟩
theorem dict0_nodes : nodes (.dict []) ≤ 100 := by
  simp only [nodes, PyData.shownKv]
  decide +kernel
theorem shows_dict : Shows (.dict []) := ⟨by simp [PyData.showable, PyData.showableKv], fun _ => by simp [noList], by simp [PyData.depth, PyData.depthKv], Nat.le_trans dict0_nodes (by decide)⟩
theorem shows_nil : Shows (.list []) := ⟨by simp [PyData.showable, PyData.showableAll], fun z => by simp [PyData.hasDict, PyData.hasDictAll] at z, by simp [PyData.depth, PyData.depthAll], by simp [nodes, nodesAll]⟩
/-- parts of tuples -/
theorem cut_from (k : Nat) (xs : List V) : cutV xs (some (k : Int)) none = xs.drop k := by
  unfold cutV
  rw [show HT.sIx xs.length 0 (some (k : Int)) = min k xs.length from HT.sIx_nat xs.length 0 k, HT.sIx_none]
  rcases Nat.le_total k xs.length with c | c
  · rw [Nat.min_eq_left c]
    exact List.take_of_length_le (by rw [List.length_drop]; exact Nat.le_refl _)
  · rw [Nat.min_eq_right c, List.drop_of_length_le c, List.drop_of_length_le (Nat.le_refl _), List.take_nil]
theorem cut_to (k : Nat) (xs : List V) : cutV xs none (some (k : Int)) = xs.take k := by
  unfold cutV
  rw [show HT.sIx xs.length xs.length (some (k : Int)) = min k xs.length from HT.sIx_nat xs.length xs.length k, HT.sIx_none, List.drop_zero, Nat.sub_zero]
  rcases Nat.le_total k xs.length with c | c
  · rw [Nat.min_eq_left c]
  · rw [Nat.min_eq_right c, List.take_length, List.take_of_length_le c]
theorem cut_all {xs : List V} {lo hi : Option Int} (h : HT.sIx xs.length 0 lo = 0 ∧ HT.sIx xs.length xs.length hi = xs.length) : cutV xs lo hi = xs := by
  unfold cutV
  rw [h.1, h.2, List.drop_zero, Nat.sub_zero, List.take_length]
section
variable {K : PySem.W.Frag} {T H : Hp} {Q : VK}
theorem cat_x {a b : Addr} {xs ys : List V} (st : Same T H) (ha : SqT K T a xs) (hb : SqT K T b ys) (hl : xs.length + ys.length ≤ sizeLine) (q : ∀ l H' T', Grow T H T' H' → SqT K T' l (xs ++ ys) → Q (.ref l) H') : rCatA K (.ref a) (.ref b) H Q := by
  refine ⟨a, b, xs, ys, rfl, rfl, st.tup ha, st.tup hb, hl, fun e => ?_, fun _ e => ?_, fun _ _ p np => ?_⟩
  · subst e
    exact q b H T (.refl st) hb
  · subst e
    exact q a H T (.refl st) (by rw [List.append_nil]; exact ha)
  · exact q p _ _ ((Grow.refl st).put _ np) (SqT.of upd_same)
theorem cut_x {a : Addr} {xs : List V} {lo hi : Option Int} (st : Same T H) (ha : SqT K T a xs) (q : ∀ l H' T', Grow T H T' H' → SqT K T' l (cutV xs lo hi) → Q (.ref l) H') : rSlA K (.ref a) lo hi H Q := by
  refine ⟨a, xs, rfl, st.tup ha, fun e => ?_, fun _ p np => ?_⟩
  · exact q a H T (.refl st) (by rw [cut_all e]; exact ha)
  · exact q p _ _ ((Grow.refl st).put _ np) (SqT.of upd_same)
end
end Ov
namespace Ov
open PySem PySem.Spec PyProof.Rows L2
section
variable {P : Program} {w : World} {K : PySem.W.Frag} {mg : Str → Option Value} {base : Heap}
/-! ### _law_bytes -/
def spBytes : Sp := fun vs H Q _ => ∃ (p t : Addr) (n cnt lg : Nat) (is : List I4) (it : Addr) (rs : List Addr) (many : Nat), vs = [.ref p, .ref t, .int (many : Int)] ∧ BoxAt H p n ∧ n ≤ 2 ^ 39 ∧ Tab H t cnt lg is it rs ∧ many ≤ 900 ∧
  ∀ H' c (bs : List Int), But p H H' → BoxAt H' p (n + 2 * many) → H c = none → H' c = some (.tup (bs.map V.int)) → (∀ b ∈ bs, 0 ≤ b ∧ b < (cnt : Int)) → bs.length = many → Q (.ref c) H'
theorem scBytes : FnScope ["_law_box_here", "_law_table_here", "_law_many", "_law_some", "_law_instruction", "_law_at"] ["_law_box_here", "_law_table_here", "_law_many"] (defScope sBytes) := ⟨rfl, rfl, rfl, by decide +kernel, rfl, by decide +kernel, by decide +kernel⟩
theorem ok_bytes {f fO fT : Addr} {fd fdO fdT : FuncData} {k : Nat} (F : Fun K "_law_bytes" "_law_bytes" sBytes f fd) (T : Bi mg)
    (O : Def K mg "_law_of" sOf fO fdO ["_law_box_here", "_law_some"]) (GO : FnOk P w K mg base CX0 k fO fdO ["_law_box_here", "_law_some"] spOf)
    (Tk : Def K mg "_law_take" sTake fT fdT ["_law_box_here", "_law_many"]) (GT : FnOk P w K mg base CX0 k fT fdT ["_law_box_here", "_law_many"] spTake) :
    FnOk P w K mg base CX0 (k + 1) f fd ["_law_box_here", "_law_table_here", "_law_many"] spBytes := by
  refine F.ok scBytes (fun vs H Q E h => ?_) (fun cdv A' outer s H vs Q E hr h => ?_)
  · obtain ⟨p, t, n, cnt, lg, is, it, rs, many, rfl, _⟩ := h
    rfl
  · obtain ⟨p, t, n, cnt, lg, is, it, rs, many, rfl, B, hn, Tb, hm, q⟩ := h
    refine ⟨_, pss_cons (ps_set (i := 3) scBytes.nd rfl (.inr rfl) (pe_lc (own := [("_law_instruction", 4)]) (g := gName 4) (tt := tYes) (by rfl) scBytes.nd (pi_tup (pe_ix ix_tup (pv 1) pe_int (fun _ _ => rfl)))
          (blkOk_by (own := [("_law_instruction", 4)]) (N := ["_law_box_here", "_law_table_here", "_law_many", "_law_some", "_law_instruction", "_law_at"]) (sc := defScope sBytes) (by decide +kernel))
          (fun _ _ _ _ _ => pg_name (i := 4) scBytes.nd rfl (Or.inl rfl)) (fun _ _ _ _ _ => pts_nil)
          (fun _ _ _ _ _ => pe_ix (r := rIxT K) ix_tup (pv 4) pe_int (fun _ _ => rfl))))
      (pss_one (ps_ret (pe_callTy call_tuple_of (by rfl) T.tuple (by decide +kernel) (pa_cons
        (pe_lc (own := [("_law_at", 5)]) (g := gName 5) (tt := tYes) (by rfl) scBytes.nd (pi_range1 (by rfl) T.range (pa_cons (pv 2) pa_nil))
          (blkOk_by (own := [("_law_at", 5)]) (N := ["_law_box_here", "_law_table_here", "_law_many", "_law_some", "_law_instruction", "_law_at"]) (sc := defScope sBytes) (by decide +kernel))
          (fun _ _ _ _ _ => pg_name (i := 5) scBytes.nd rfl (Or.inl rfl)) (fun _ _ _ _ _ => pts_nil)
          (fun _ _ _ _ _ => pe_ifExp (pt_cmpR op_gt (pe_call GT hr (by rfl) Tk.gl Tk.fn.kp Tk.bi .nil pass0 (pa_cons (pv 0) (pa_cons pe_int pa_nil))) pe_int (nomark _))
            (pe_call GO hr (by rfl) O.gl O.fn.kp O.bi .nil pass0 (pa_cons (pv 0) (pa_cons (pv 3) pa_nil)))
            (pe_call GT hr (by rfl) Tk.gl Tk.fn.kp Tk.bi .nil pass0 (pa_cons (pv 0) (pa_cons (pe_ix (r := rIxT K) ix_tup (pv 1) pe_int (fun _ _ => rfl)) pa_nil))))) pa_nil)))), ?_⟩
    have ok := Tb.ok
    have cb := ok.cb
    have few := ok.few
    have rl := Tb.rows.1
    have hit := Tb.its
    have i0 : ∀ x y : V, atI [x, y] 0 = some x := fun x y => atI_nat (j := 0) rfl
    have i1 : ∀ x y : V, atI [x, y] 1 = some y := fun x y => atI_nat (j := 1) rfl
    refine ⟨_, rfl, t, _, _, _, rfl, rfl, SqT.of Tb.at_, i1 _ _, it, rfl, ⟨_, SqT.of hit⟩, fun D nD => lc_tup (K := K) (a := it) (xs := rs.map V.ref) (fun i H2 => Mk H H2 D (((is.take i).map fun x => (x.op : Int)).map V.int)) (.start nD) (fun i H2 _ p => p.same.tup (SqT.of hit)) ?_ ?_⟩
    · intro i x H2 hx mk
      obtain ⟨hi, r, rfl, hr2, _⟩ := rows_at Tb.rows hx
      refine ⟨rfl, _, rfl, r, _, _, _, rfl, rfl, SqT.of (mk.same _ _ hr2), atI_nat (j := 0) rfl, _, mk.at_, (by rw [List.length_map, List.length_map, List.length_take]; exact small1000 (by omega)), ?_⟩
      rw [take_more (List.getElem?_eq_getElem hi), List.map_append, List.map_append]
      exact mk.put (Same.refl _)
    intro H2 m2
    rw [List.length_map, rl, List.take_length] at m2
    have s2 := m2.same
    have B2 := B.same s2
    have T2 := Tb.same s2
    have hD2 := m2.at_
    have hDp : D ≠ p := fun z => B.ne (z ▸ nD)
    generalize hops : (is.map fun x => (x.op : Int)) = ops at hD2
    have ol : ops.length = is.length := by rw [← hops, List.length_map]
    have ob : ∀ b ∈ ops, 0 ≤ b ∧ b < (cnt : Int) := fun b hb => by
      rw [← hops] at hb
      obtain ⟨x, hx, rfl⟩ := List.mem_map.mp hb
      have := ok.ops x hx
      omega
    have ne : 0 < is.length := List.length_pos_iff.mpr ok.ne
    clear m2
    refine ⟨_, rfl, _, rfl, by omega, by omega, fun L nL => lc_range (lo := 0) (n := many) (fun i H3 => ∃ bs : List Int, bs.length = i ∧ (∀ b ∈ bs, 0 ≤ b ∧ b < (cnt : Int)) ∧ But p H2 H3 ∧ BoxAt H3 p (n + 2 * i) ∧ H3 L = some (.lst (bs.map V.int)))
      ⟨[], rfl, (fun _ h => nomatch h), But.of (same_upd nL), B2.same (same_upd nL), upd_same⟩ ?_ ?_⟩
    · rintro i H3 hi ⟨bs, bl, bb, b3, B3, hL⟩
      have hLp : L ≠ p := fun z => B2.ne (z ▸ nL)
      have hLD : L ≠ D := fun z => by rw [z, hD2] at nL; cases nL
      refine ⟨rfl, _, rfl, p, 4, n + 2 * i, rfl, B3, by omega, by decide, by decide, fun H4 e b4 B4 e0 e1 f4 => ⟨_, _, rfl, rfl, _, rfl, ?_⟩⟩
      have fin : ∀ (b : Int) (H5 : Hp), 0 ≤ b → b < (cnt : Int) → But p H4 H5 → BoxAt H5 p (n + 2 * i + 1 + 1) → ∃ acc, H5 L = some (.lst acc) ∧ acc.length < sizeLine ∧ ∃ bs : List Int, bs.length = i + 1 ∧ (∀ b ∈ bs, 0 ≤ b ∧ b < (cnt : Int)) ∧ But p H2 (upd H5 L (.lst (acc ++ [.int b]))) ∧ BoxAt (upd H5 L (.lst (acc ++ [.int b]))) p (n + 2 * (i + 1)) ∧ (upd H5 L (.lst (acc ++ [.int b]))) L = some (.lst (bs.map V.int)) := by
        intro b H5 h0 h1 b5 B5
        have h5L := b5 _ _ (b4 _ _ hL hLp) hLp
        refine ⟨_, h5L, by rw [List.length_map, bl, sizeLine_eq]; omega, bs ++ [b], by rw [List.length_append, bl]; rfl, fun x hx => ?_, fun c o ec nc => ?_, ?_, ?_⟩
        · rcases List.mem_append.mp hx with hx | hx
          · exact bb x hx
          · rw [List.mem_singleton.mp hx]; exact ⟨h0, h1⟩
        · rw [upd_ne (ne_of_none ec nL)]
          exact b5 _ _ (b4 _ _ (b3 _ _ ec nc) nc) nc
        · obtain ⟨z1, z2, z3, ez, r⟩ := B5
          exact ⟨z1, z2, z3, by rw [upd_ne (Ne.symm hLp)]; exact ez, by omega⟩
        · rw [upd_same, List.map_append]; rfl
      by_cases c : 0 < e
      · rw [decide_eq_true c]
        refine iteT ⟨_, rfl, _, rfl, p, D, n + 2 * i + 1, ops.map V.int, rfl, B4, by omega, b4 _ _ (b3 _ _ hD2 hDp) hDp, hDp, by rw [List.length_map]; omega, by rw [List.length_map]; omega, fun H5 v hv b5 B5 f5 => ?_⟩
        obtain ⟨b, hb, rfl⟩ := List.mem_map.mp hv
        exact fin b H5 (ob b hb).1 (ob b hb).2 b5 B5
      · rw [decide_eq_false c]
        have T4 := (T2.but b3 B2).but b4 B3
        refine iteF ⟨_, rfl, _, rfl, t, _, _, _, rfl, rfl, SqT.of T4.at_, i0 _ _, p, cnt, n + 2 * i + 1, rfl, B4, by omega, by omega, by omega, fun H5 b b5 B5 h0 h1 f5 => fin b H5 h0 h1 b5 B5⟩
    rintro H3 ⟨bs, bl, bb, b3, B3, hL⟩
    refine ⟨L, _, rfl, .inl ⟨SqL.of hL, fun c nc => ?_⟩⟩
    have s3 := same_upd (o := HO.tup (bs.map V.int)) nc
    have nc2 : H2 c = none := b3.free B2.ne nc B3.ne
    exact q _ c bs ((But.of s2).trans (b3.trans (But.of s3))) (B3.same s3) (s2.free nc2) upd_same bb bl
end
end Ov
namespace Ov
open PySem PySem.Spec PyProof.Rows L2
/-! ### lengths by opcodes -/
abbrev sLenAt : Stmt := inClass cInstructionSet 4
def laOf (is : List I4) (b : Int) : Nat := match is.find? (fun x => decide ((x.op : Int) = b)) with
  | some x => x.ln
  | none => 0
theorem val_len (is : List I4) (b : Int) : (valV (lenKV is) (Sum.inl b : Key)).getD (V.int 0) = V.int (laOf is b : Int) := by
  unfold valV lenKV laOf
  induction is with
  | nil => rfl
  | cons x is ih =>
    rw [List.map_cons, List.find?_cons, List.find?_cons]
    by_cases h : (x.op : Int) = b
    · subst h; simp
    · rw [decide_eq_false h, decide_eq_false (fun z => h (Sum.inl.inj z))]
      exact ih
theorem la_le {cnt lg : Nat} {is : List I4} (ok : TabOk cnt lg is) (b : Int) : laOf is b ≤ 12 := by
  unfold laOf
  cases e : is.find? (fun x => decide ((x.op : Int) = b)) with
  | none => exact Nat.zero_le _
  | some x =>
    have := ok.len x (List.mem_of_find?_eq_some e)
    have := ok.lb
    show x.ln ≤ 12
    omega
def natV (n : Nat) : V := .int (n : Int)
section
variable {P : Program} {w : World} {K : PySem.W.Frag} {mg : Str → Option Value} {base : Heap}
/-! ### length_at -/
def spLenAt (C : Addr) : Sp := fun vs H Q _ => ∃ (p it : Addr) (cnt : Nat) (is : List I4) (b : Int), vs = [.ref p, .int b] ∧ SetAt C H p cnt it is ∧ Q (.int (laOf is b : Int)) H
theorem scLenAt : FnScope ["self", "byte"] ["self", "byte"] (defScope sLenAt) := ⟨rfl, rfl, rfl, by decide +kernel, rfl, by decide +kernel, by decide +kernel⟩
theorem ok_lenAt {f C : Addr} {fd : FuncData} {k : Nat} (F : Fun K "length_at" "InstructionSet.length_at" sLenAt f fd) (S : SetTxt K mg C) : FnOk P w K mg base CX0 (k + 1) f fd ["self", "byte"] (spLenAt C) := by
  refine F.ok scLenAt (fun vs H Q E h => ?_) (fun cdv A' outer s H vs Q E hr h => ?_)
  · obtain ⟨p, it, cnt, is, b, rfl, _⟩ := h
    rfl
  · obtain ⟨p, it, cnt, is, b, rfl, SA, q⟩ := h
    refine ⟨_, pss_one (ps_ret (pe_dget2 (hu_of hr) (pe_fld (pv 0) rfl) (pv 1) pe_int ⟨rfl, rfl, rfl, rfl⟩)), ?_⟩
    obtain ⟨dx, d1, d2, hp, h1, h2⟩ := SA.ob
    refine ⟨_, rfl, p, C, dx, _, _, rfl, hp, S.cl, S.nL, flds_len _ _ _ _, d1, rfl, .inl ⟨_, .inl h1⟩, _, rfl, _, DGet.k (k := Sum.inl b) h1, ?_⟩
    rw [val_len]
    exact q
/-! ### walk -/
def spWalk (K : PySem.W.Frag) (C : Addr) : Sp := fun vs H Q _ => ∃ (p it c : Addr) (cnt : Nat) (is : List I4) (bs : List Int) (e : Nat), vs = [.ref p, .ref c, .int (e : Int)] ∧ SetAt C H p cnt it is ∧ SqT K H c (bs.map V.int) ∧ bs.length ≤ 100000 ∧
  ∀ H' r l begun fol, Same H H' → Ended (laOf is) bs e begun fol → H r = none → H' r = some (.tup [.ref l, .int (fol : Int)]) → H' l = some (.lst (begun.map natV)) → begun.length ≤ bs.length → Q (.ref r) H'
theorem scWalk : FnScope ["instruction_set", "code", "entry", "begun", "offset"] ["instruction_set", "code", "entry"] (defScope sWalk) := ⟨rfl, rfl, rfl, by decide +kernel, rfl, by decide +kernel, by decide +kernel⟩
def offOf (n : Nat) (σ : L2.St) : Nat := match σ with
  | [_, _, _, _, some (.int o)] => n - o.toNat
  | _ => 0
theorem no_meth (cnt : Nat) (it d1 d2 : Addr) : (flds cnt it d1 d2).lookup ("length_at" : Str) = none := by
  unfold flds
  rw [lookup_putF, if_neg (by decide +kernel), lookup_putF, if_neg (by decide +kernel), lookup_putF, if_neg (by decide +kernel), lookup_putF, if_neg (by decide +kernel)]
  rfl
theorem ok_walk {f fL C : Addr} {fd fdL : FuncData} {k : Nat} (F : Fun K "walk" "walk" sWalk f fd) (T : Bi mg) (S : SetTxt K mg C)
    (ML : Meth K C "length_at" fL) (bL : Binds K fdL ["self", "byte"] []) (GL : FnOk P w K mg base CX0 k fL fdL ["self", "byte"] (spLenAt C)) :
    FnOk P w K mg base CX0 (k + 1) f fd ["instruction_set", "code", "entry"] (spWalk K C) := by
  refine F.ok scWalk (fun vs H Q E h => ?_) (fun cdv A' outer s H vs Q E hr h => ?_)
  · obtain ⟨p, it, c, cnt, is, bs, e, rfl, _⟩ := h
    rfl
  · obtain ⟨p, it, c, cnt, is, bs, e, rfl, SA, hc, hb, q⟩ := h
    refine ⟨_, pss_cons (ps_set (i := 3) scWalk.nd rfl (.inl rfl) (pe_lst pa_nil))
      (pss_cons (ps_set (i := 4) scWalk.nd rfl (.inl rfl) (pv 2))
      (pss_cons (ps_while PassesOwn.never (PW.pt (pw_and (pt_cmpR op_lt (pv 4) (pe_callB call_len_seq (by rfl) T.len PySem.boot_len (pa_cons (pv 1) pa_nil)) (nomark _))
          (pw_and1 (pt_cmpR op_gt (pe_meth (pv 0) S.cl ML GL hr bL .nil pass0 (pa_cons (pe_ix ix_tup (pv 1) (pv 4) (fun _ _ => rfl)) pa_nil)) pe_int (nomark _)))))
        (pss_cons (ps_expr (pe_bm PySem.F.plainAttrs_list PySem.F.slot_list_append PySem.F.type_list_append mt_append (pv 3) (pa_cons (pv 4) pa_nil)))
        (pss_one (ps_aug (i := 4) scWalk.nd rfl (.inl rfl) (pe_meth (pv 0) S.cl ML GL hr bL .nil pass0 (pa_cons (pe_ix ix_tup (pv 1) (pv 4) (fun _ _ => rfl)) pa_nil)) ip_add))))
      (pss_one (ps_ret (pe_tup (pa_cons (pv 3) (pa_cons (pv 4) pa_nil))))))), ?_⟩
    refine ⟨Nat.zero_le _, fun l nl => ⟨_, rfl, ?_⟩⟩
    refine while_by (fun σ H2 => ∃ (begun : List Nat) (o : Nat), σ = [some (.ref p), some (.ref c), some (.int (e : Int)), some (.ref l), some (.int (o : Int))] ∧ Mk H H2 l (begun.map natV) ∧ Going (laOf is) bs e begun o) (fun σ _ => offOf bs.length σ)
      ⟨[], e, rfl, .start nl, Going.start bs e⟩ ?_ ?_
    · rintro σ H2 ⟨begun, o, rfl, mk, g⟩
      have c2 := mk.same.tup hc
      have SA2 := SA.same mk.same
      obtain ⟨dx, d1, d2, hp, _, _⟩ := SA2.ob
      have few := g.few
      have bl : begun.length ≤ bs.length := by omega
      refine ⟨_, rfl, _, rfl, c, _, rfl, .inr c2, _, _, rfl, rfl, _, rfl, ?_⟩
      rw [List.length_map]
      have fin : Ended (laOf is) bs e begun o → ∀ r, H2 r = none → Q (.ref r) (upd H2 r (.tup [.ref l, .int (o : Int)])) := fun en r nr => by
        have s := same_upd (o := HO.tup [.ref l, .int (o : Int)]) nr
        exact q _ r l begun o (mk.same.trans s) en (mk.same.free nr) upd_same (s _ _ mk.at_) bl
      by_cases h1 : (o : Int) < (bs.length : Int)
      · rw [decide_eq_true h1]
        have ho : o < bs.length := by omega
        have hb' : bs[o]? = some bs[o] := List.getElem?_eq_getElem ho
        have iv : atI (bs.map V.int) (o : Int) = some (.int bs[o]) := atI_nat (by rw [List.getElem?_map, hb']; rfl)
        refine iteT ⟨_, rfl, p, dx, _, rfl, hp, no_meth _ _ _ _, _, rfl, _, rfl, c, _, _, _, rfl, rfl, c2, iv, p, it, cnt, is, bs[o], rfl, SA2, _, _, rfl, rfl, _, rfl, ?_⟩
        by_cases h2 : (0 : Int) < (laOf is bs[o] : Int)
        · rw [decide_eq_true h2]
          refine iteT ⟨_, rfl, .inl ⟨rfl, _, SqL.of mk.at_⟩, _, rfl, l, _, _, rfl, rfl, mk.at_, by rw [List.length_map, sizeLine_eq]; omega, ?_⟩
          have mk3 := mk.put (acc' := begun.map natV ++ [V.int (o : Int)]) (Same.refl _)
          obtain ⟨dx3, d13, d23, hp3, _, _⟩ := (SA.same mk3.same).ob
          refine ⟨_, rfl, _, rfl, p, dx3, _, rfl, hp3, no_meth _ _ _ _, _, rfl, _, rfl, c, _, _, _, rfl, rfl, mk3.same.tup hc, iv, p, it, cnt, is, bs[o], rfl, SA.same mk3.same, _, _, rfl, rfl, ⟨begun ++ [o], o + laOf is bs[o], rfl, by rw [List.map_append]; exact mk3, g.step hb' (by omega)⟩, ?_⟩
          show bs.length - ((o : Int) + (laOf is bs[o] : Int)).toNat < bs.length - (o : Int).toNat
          omega
        · rw [decide_eq_false h2]
          exact iteF ⟨_, rfl, _, rfl, by show 2 ≤ sizeLine; decide, fun r nr => fin (g.stop hb' (by omega)) r nr⟩
      · rw [decide_eq_false h1]
        exact iteF (iteF ⟨_, rfl, _, rfl, by show 2 ≤ sizeLine; decide, fun r nr => fin (g.over (by omega)) r nr⟩)
    · rintro σ H2 Q1 Q2 hQ ⟨v, h1, v2, h2, a, xs, h3, h4, i, j, h5, h6, b, h7, h8⟩
      refine ⟨v, h1, v2, h2, a, xs, h3, h4, i, j, h5, h6, b, h7, ?_⟩
      revert h8
      cases b with
      | false => exact fun h8 => hQ _ _ h8
      | true =>
        rintro ⟨x1, e1, a1, dx1, f1, e2, e3, e4, x2, e5, x3, e6, c1, y1, y2, y3, e7, e8, e9, e10, p1, it1, cnt1, is1, b1, e11, e12, i1, j1, e13, e14, b2, e15, h9⟩
        exact ⟨x1, e1, a1, dx1, f1, e2, e3, e4, x2, e5, x3, e6, c1, y1, y2, y3, e7, e8, e9, e10, p1, it1, cnt1, is1, b1, e11, e12, i1, j1, e13, e14, b2, e15, hQ _ _ h9⟩
/-! ### countdown_behind -/
def optN : Option Nat → V
  | none => .non
  | some n => .int (n : Int)
def spBehind (K : PySem.W.Frag) : Sp := fun vs H Q _ => ∃ (c : Addr) (xs : List V) (fol : Nat), vs = [.ref c, .int (fol : Int)] ∧ SqT K H c xs ∧ Q (optN (if fol < xs.length then none else some (fol - xs.length))) H
theorem scBehind : FnScope ["code", "following"] ["code", "following"] (defScope sBehind) := ⟨rfl, rfl, rfl, by decide +kernel, rfl, by decide +kernel, by decide +kernel⟩
theorem ok_behind {f : Addr} {fd : FuncData} {k : Nat} (F : Fun K "countdown_behind" "countdown_behind" sBehind f fd) (T : Bi mg) : FnOk P w K mg base CX0 (k + 1) f fd ["code", "following"] (spBehind K) := by
  refine F.ok scBehind (fun vs H Q E h => ?_) (fun cdv A' outer s H vs Q E hr h => ?_)
  · obtain ⟨c, xs, fol, rfl, _⟩ := h
    rfl
  · obtain ⟨c, xs, fol, rfl, hc, q⟩ := h
    refine ⟨_, pss_one (ps_ret (pe_ifExp (pt_cmpR op_lt (pv 1) (pe_callB call_len_seq (by rfl) T.len PySem.boot_len (pa_cons (pv 0) pa_nil)) (nomark _)) pe_non (pe_op op_sub (pv 1) (pe_callB call_len_seq (by rfl) T.len PySem.boot_len (pa_cons (pv 0) pa_nil))))), ?_⟩
    refine ⟨_, rfl, _, rfl, c, _, rfl, .inr hc, _, _, rfl, rfl, _, rfl, ?_⟩
    by_cases h : (fol : Int) < (xs.length : Int)
    · rw [decide_eq_true h]
      rw [if_pos (show fol < xs.length by omega)] at q
      exact iteT q
    · rw [decide_eq_false h]
      rw [if_neg (show ¬ fol < xs.length by omega)] at q
      refine iteF ⟨_, rfl, _, rfl, c, _, rfl, .inr hc, _, _, rfl, rfl, ?_⟩
      have e : ((fol : Int) - (xs.length : Int)) = ((fol - xs.length : Nat) : Int) := by omega
      dsimp only
      rw [e]
      exact q
end
end Ov
namespace Ov
open PySem PySem.Spec PyProof.Rows L2
theorem la_hit {is : List I4} {b : Int} {i : Nat} (h : ∀ x ∈ is.take i, (x.op : Int) ≠ b) (hi : i < is.length) (e : ((is[i]).op : Int) = b) : laOf is b = (is[i]).ln := by
  unfold laOf
  have z : is.find? (fun x => decide ((x.op : Int) = b)) = some is[i] := by
    have sp : is = is.take i ++ is[i] :: is.drop (i + 1) := by rw [List.getElem_cons_drop, List.take_append_drop]
    generalize is[i] = y at *
    rw [sp, List.find?_append, List.find?_eq_none.mpr (fun x hx => by rw [decide_eq_true_eq]; exact h x hx), Option.none_or, List.find?_cons, decide_eq_true e]
  rw [z]
theorem la_miss {is : List I4} {b : Int} (h : ∀ x ∈ is, (x.op : Int) ≠ b) : laOf is b = 0 := by
  unfold laOf
  rw [List.find?_eq_none.mpr (fun x hx => by rw [decide_eq_true_eq]; exact h x hx)]
theorem But.tup {K : PySem.W.Frag} {H H' : Hp} {l d : Addr} {xs ys : List V} (b : But l H H') (hl : H l = some (.lst xs)) (h : SqT K H d ys) : SqT K H' d ys := by
  rcases h with (h | ⟨o, h⟩) | h
  · exact .inl (.inl (b _ _ h (fun z => by rw [z, hl] at h; cases h)))
  · exact .inl (.inr ⟨o, b _ _ h (fun z => by rw [z, hl] at h; cases h)⟩)
  · exact .inr h
section
variable {P : Program} {w : World} {K : PySem.W.Frag} {mg : Str → Option Value} {base : Heap}
/-! ### _law_length_at -/
def spLLenAt : Sp := fun vs H Q _ => ∃ (t it : Addr) (cnt lg : Nat) (is : List I4) (rs : List Addr) (b : Int), vs = [.ref t, .int b] ∧ Tab H t cnt lg is it rs ∧ Q (.int (laOf is b : Int)) H
theorem scLLenAt : FnScope ["_law_table_here", "_law_byte", "_law_opcode", "_law_name", "_law_length", "_law_is_padding"] ["_law_table_here", "_law_byte"] (defScope sLLenAt) := ⟨rfl, rfl, rfl, by decide +kernel, rfl, by decide +kernel, by decide +kernel⟩
theorem ok_llenAt {f : Addr} {fd : FuncData} {k : Nat} (F : Fun K "_law_length_at" "_law_length_at" sLLenAt f fd) : FnOk P w K mg base CX0 (k + 1) f fd ["_law_table_here", "_law_byte"] spLLenAt := by
  refine F.ok scLLenAt (fun vs H Q E h => ?_) (fun cdv A' outer s H vs Q E hr h => ?_)
  · obtain ⟨t, it, cnt, lg, is, rs, b, rfl, _⟩ := h
    rfl
  · obtain ⟨t, it, cnt, lg, is, rs, b, rfl, Tb, q⟩ := h
    refine ⟨_, pss_cons (ps_for PassesOwn.never rfl (pi_tup (pe_ix ix_tup (pv 0) pe_int (fun _ _ => rfl))) (pg_tup rfl (pgs_cons (pg_name (i := 2) scLLenAt.nd rfl (.inl rfl)) (pgs_cons (pg_name (i := 3) scLLenAt.nd rfl (.inl rfl)) (pgs_cons (pg_name (i := 4) scLLenAt.nd rfl (.inl rfl)) (pgs_cons (pg_name (i := 5) scLLenAt.nd rfl (.inl rfl)) pgs_nil)))))
        (pss_one (ps_if (pt_cmpR op_eq (pv 2) (pv 1) (nomark _)) (pss_one (ps_ret (pv 4))) pss_nil)))
      (pss_one (ps_ret pe_int)), ?_⟩
    have i1 : ∀ x y : V, atI [x, y] 1 = some y := fun x y => atI_nat (j := 1) rfl
    have hit := Tb.its
    have rl := Tb.rows.1
    refine ⟨_, rfl, t, _, _, _, rfl, rfl, SqT.of Tb.at_, i1 _ _, it, rfl, ⟨_, SqT.of hit⟩, for_tup (K := K) (a := it) (xs := rs.map V.ref) (fun i σ H' => H' = H ∧ (∀ x ∈ is.take i, (x.op : Int) ≠ b) ∧ ∃ y2 y3 y4 y5, σ = [some (.ref t), some (.int b), y2, y3, y4, y5]) ⟨rfl, (fun x hx => by simp at hx), _, _, _, _, rfl⟩ (fun i σ H' _ ⟨e, _⟩ => by rw [e]; exact SqT.of hit) ?_ ?_⟩
    · rintro i x σ H' hx ⟨rfl, no, y2, y3, y4, y5, rfl⟩
      obtain ⟨hi, r, rfl, hr2, _⟩ := rows_at Tb.rows hx
      refine ⟨r, _, rfl, SqT.of hr2, rfl, _, _, rfl, _, _, rfl, _, _, rfl, _, _, rfl, rfl, ?_⟩
      refine ⟨_, rfl, _, rfl, rfl, _, rfl, ?_⟩
      by_cases h : ((is[i]).op : Int) = b
      · rw [decide_eq_true (by rw [h])]
        refine iteT ⟨_, rfl, ?_⟩
        rw [la_hit no hi h] at q
        exact q
      · rw [decide_eq_false (fun z => h (V.int.inj z))]
        refine iteF ⟨rfl, fun x hx => ?_, _, _, _, _, rfl⟩
        rw [take_more (List.getElem?_eq_getElem hi)] at hx
        rcases List.mem_append.mp hx with hx | hx
        · exact no x hx
        · rw [List.mem_singleton.mp hx]; exact h
    · rintro σ H' ⟨rfl, no, y2, y3, y4, y5, rfl⟩
      rw [List.length_map, rl, List.take_length] at no
      rw [la_miss no] at q
      exact q
end
end Ov
namespace Ov
open PySem PySem.Spec PyProof.Rows L2
theorem SetAt.but {C : Addr} {H H' : Hp} {x p : Addr} {cnt n : Nat} {it : Addr} {is : List I4} (h : SetAt C H x cnt it is) (b : But p H H') (B : BoxAt H p n) : SetAt C H' x cnt it is := by
  obtain ⟨dx, d1, d2, h1, h2, h3⟩ := h.ob
  obtain ⟨_, _, _, e, _⟩ := B
  refine ⟨dx, d1, d2, b _ _ h1 ?_, b _ _ h2 ?_, b _ _ h3 ?_⟩
  · intro z; rw [z, e] at h1; cases h1
  · intro z; rw [z, e] at h2; cases h2
  · intro z; rw [z, e] at h3; cases h3
section
variable {P : Program} {w : World} {K : PySem.W.Frag} {mg : Str → Option Value} {base : Heap}
/-! ### _law_machine -/
def spMachine (C : Addr) : Sp := fun vs H Q _ => ∃ (t it : Addr) (cnt lg : Nat) (is : List I4) (rs : List Addr), vs = [.ref t] ∧ Tab H t cnt lg is it rs ∧ ∀ H' x, Same H H' → H x = none → SetAt C H' x cnt it is → Q (.ref x) H'
theorem scMachine : FnScope ["_law_table_here"] ["_law_table_here"] (defScope sMachine) := ⟨rfl, rfl, rfl, by decide +kernel, rfl, by decide +kernel, by decide +kernel⟩
theorem ok_machine {f fI C : Addr} {fd fdI : FuncData} {k : Nat} (F : Fun K "_law_machine" "_law_machine" sMachine f fd) (S : SetTxt K mg C)
    (M : L2.Mk K C fI) (bI : Binds K fdI ["self", "byte_count", "instructions"] []) (GI : FnOk P w K mg base CX0 k fI fdI ["self", "byte_count", "instructions"] (spInitI C)) :
    FnOk P w K mg base CX0 (k + 2) f fd ["_law_table_here"] (spMachine C) := by
  refine F.ok scMachine (fun vs H Q E h => ?_) (fun cdv A' outer s H vs Q E hr h => ?_)
  · obtain ⟨t, it, cnt, lg, is, rs, rfl, _⟩ := h
    rfl
  · obtain ⟨t, it, cnt, lg, is, rs, rfl, Tb, q⟩ := h
    refine ⟨_, pss_one (ps_ret (pe_make M GI hr (by rfl) S.mgC bI .nil pass0 (pa_cons (pe_ix ix_tup (pv 0) pe_int (fun _ _ => rfl)) (pa_cons (pe_ix ix_tup (pv 0) pe_int (fun _ _ => rfl)) pa_nil)))), ?_⟩
    have i0 : ∀ x y : V, atI [x, y] 0 = some x := fun x y => atI_nat (j := 0) rfl
    have i1 : ∀ x y : V, atI [x, y] 1 = some y := fun x y => atI_nat (j := 1) rfl
    refine ⟨_, rfl, t, _, _, _, rfl, rfl, SqT.of Tb.at_, i0 _ _, _, rfl, t, _, _, _, rfl, rfl, SqT.of Tb.at_, i1 _ _, fun x dx nx ndx hne => ?_⟩
    have s4x : Same H (upd (upd H dx (.own x)) x (.ins C dx [])) := fun b o e => by
      rw [upd_ne (ne_of_none e nx), upd_ne (ne_of_none e ndx)]
      exact e
    refine ⟨x, dx, cnt, lg, it, rs, is, rfl, upd_same, s4x _ _ Tb.its, Tb.rows.same s4x, Tb.ok, fun H5 SA kp => ⟨rfl, ?_⟩⟩
    exact q H5 x (fun b o e => kp b o (s4x b o e) (ne_of_none e nx)) nx SA
/-! ### _law_small -/
def spSmall : Sp := fun vs H Q _ => ∃ (p : Addr) (n : Nat), vs = [.ref p] ∧ BoxAt H p n ∧ n ≤ 2 ^ 38 ∧ ∀ H' t cnt lg is it rs, But p H H' → BoxAt H' p (n + 1002) → H t = none → Tab H' t cnt lg is it rs → Q (.ref t) H'
theorem scSmall : FnScope ["_law_box_here"] ["_law_box_here"] (defScope sSmall) := ⟨rfl, rfl, rfl, by decide +kernel, rfl, by decide +kernel, by decide +kernel⟩
theorem ok_small {f fO fT fTb : Addr} {fd fdO fdT fdTb : FuncData} {k : Nat} {lgn : Str} (F : Fun K "_law_small" "_law_small" sSmall f fd)
    (O : Def K mg "_law_of" sOf fO fdO ["_law_box_here", "_law_some"]) (GO : FnOk P w K mg base CX0 k fO fdO ["_law_box_here", "_law_some"] spOf)
    (Tk : Def K mg "_law_take" sTake fT fdT ["_law_box_here", "_law_many"]) (GT : FnOk P w K mg base CX0 k fT fdT ["_law_box_here", "_law_many"] spTake)
    (Tb : Def K mg "_law_table" sTable fTb fdTb ["_law_box_here", "_law_most_bytes", lgn]) (GTb : FnOk P w K mg base CX0 k fTb fdTb ["_law_box_here", "_law_most_bytes", lgn] spTable) :
    FnOk P w K mg base CX0 (k + 1) f fd ["_law_box_here"] spSmall := by
  refine F.ok scSmall (fun vs H Q E h => ?_) (fun cdv A' outer s H vs Q E hr h => ?_)
  · obtain ⟨p, n, rfl, _⟩ := h
    rfl
  · obtain ⟨p, n, rfl, B, hn, q⟩ := h
    refine ⟨_, pss_one (ps_ret (pe_call GTb hr (by rfl) Tb.gl Tb.fn.kp Tb.bi .nil pass0 (pa_cons (pv 0) (pa_cons (pe_op op_add pe_int (pe_call GT hr (by rfl) Tk.gl Tk.fn.kp Tk.bi .nil pass0 (pa_cons (pv 0) (pa_cons pe_int pa_nil))))
      (pa_cons (pe_call GO hr (by rfl) O.gl O.fn.kp O.bi .nil pass0 (pa_cons (pv 0) (pa_cons (pe_lst (pa_cons pe_int (pa_cons pe_int (pa_cons pe_int (pa_cons pe_int (pa_cons pe_int pa_nil)))))) pa_nil))) pa_nil))))), ?_⟩
    refine ⟨_, rfl, _, rfl, p, 11, n, rfl, B, by omega, by decide, by decide, fun H1 d b1 B1 d0 d1 f1 => ⟨_, _, rfl, rfl, ?_⟩⟩
    refine ⟨_, rfl, by show 5 ≤ sizeLine; decide, fun l nl => ?_⟩
    have s2 := same_upd (o := HO.lst [V.int 2, V.int 3, V.int 3, V.int 4, V.int 12]) nl
    have hl := @upd_same H1 l (HO.lst [V.int 2, V.int 3, V.int 3, V.int 4, V.int 12])
    have hlp : l ≠ p := fun z => B1.ne (z ▸ nl)
    have B2 := B1.same s2
    generalize upd H1 l (HO.lst [V.int 2, V.int 3, V.int 3, V.int 4, V.int 12]) = H2 at *
    refine ⟨p, l, n + 1, _, rfl, B2, by omega, hl, hlp, by decide, by decide, fun H3 v hv b3 B3 f3 => ?_⟩
    have b03 : But p H H3 := (b1.trans (But.of s2)).trans b3
    obtain ⟨mb, hmb⟩ : ∃ mb : Nat, 2 + d = (mb : Int) := ⟨(2 + d).toNat, by omega⟩
    obtain ⟨lg, rfl, l1, l2⟩ : ∃ lg : Nat, v = .int (lg : Int) ∧ 1 ≤ lg ∧ lg ≤ 12 := by
      simp only [List.mem_cons, List.not_mem_nil, or_false] at hv
      rcases hv with rfl | rfl | rfl | rfl | rfl
      · exact ⟨2, rfl, by decide, by decide⟩
      · exact ⟨3, rfl, by decide, by decide⟩
      · exact ⟨3, rfl, by decide, by decide⟩
      · exact ⟨4, rfl, by decide, by decide⟩
      · exact ⟨12, rfl, by decide, by decide⟩
    refine ⟨p, n + 2, mb, lg, by show [V.ref p, V.int (2 + d), V.int (lg : Int)] = _; rw [hmb], B3, by omega, by omega, by omega, l1, l2, fun H4 t cnt is it rs b4 B4 nt T4 _ => ?_⟩
    exact q H4 t cnt lg is it rs (b03.trans b4) (B4.mono (by omega)) (b03.free B.ne nt B3.ne) T4
end
end Ov
namespace Ov
open PySem PySem.Spec PyProof.Rows L2
/-! ### what is shown of numbers and Nones -/
theorem natV_ints (ns : List Nat) : ns.map natV = (ns.map fun n : Nat => (n : Int)).map V.int := by
  rw [List.map_map]; rfl
def optD : Option Nat → PyData
  | none => .none
  | some n => .int (n : Int)
theorem dx_opts {K : PySem.W.Frag} {H : Hp} : ∀ os : List (Option Nat), DxAll K H (os.map optN) (os.map optD)
  | [] => .nil
  | none :: os => .cons .non (dx_opts os)
  | some n :: os => .cons (.int _) (dx_opts os)
theorem small_nat {n : Nat} (h : n ≤ 2 ^ 60) : ((n : Int)).natAbs < 2 ^ 1000 := by
  rw [Int.natAbs_natCast]
  exact Nat.lt_of_lt_of_le (show n < 2 ^ 61 by omega) (Nat.pow_le_pow_right (by decide) (by decide))
theorem opt_parts {o : Option Nat} (h : ∀ n, o = some n → n ≤ 2 ^ 60) : (optD o).showable = true ∧ (optD o).hasDict = false ∧ (optD o).depth = 0 ∧ nodes (optD o) = 1 := by
  cases o with
  | none => exact ⟨by simp [optD, PyData.showable], by simp [optD, PyData.hasDict], by simp [optD, PyData.depth], by simp [optD, nodes]⟩
  | some n =>
    have f := flat_ints (ns := [(n : Int)]) (fun m hm => by rw [List.mem_singleton.mp hm]; exact small_nat (h n rfl))
    exact ⟨by have := f.sh; simpa [optD, PyData.showableAll] using this, by simp [optD, PyData.hasDict], by simp [optD, PyData.depth], by simp [optD, nodes]⟩
theorem opts_show : ∀ {os : List (Option Nat)}, (∀ n, some n ∈ os → n ≤ 2 ^ 60) → ShowsAll (os.map optD) os.length ∧ PyData.hasDictAll (os.map optD) = false ∧ PyData.depthAll (os.map optD) = 0
  | [], _ => ⟨⟨by simp [PyData.showableAll], fun z => by simp [PyData.hasDictAll] at z, by simp [PyData.depthAll], by simp [nodesAll]⟩, by simp [PyData.hasDictAll], by simp [PyData.depthAll]⟩
  | o :: os, h => by
    obtain ⟨A, B, C⟩ := opts_show (os := os) (fun n hn => h n (List.mem_cons_of_mem _ hn))
    obtain ⟨p1, p2, p3, p4⟩ := opt_parts (o := o) (fun n hn => h n (by rw [hn]; exact List.mem_cons_self))
    have e2 : PyData.hasDictAll ((o :: os).map optD) = false := by
      rw [List.map_cons]; simp only [PyData.hasDictAll]; rw [p2, B]; rfl
    have e3 : PyData.depthAll ((o :: os).map optD) = 0 := by
      rw [List.map_cons]; simp only [PyData.depthAll]; rw [p3, C]; rfl
    refine ⟨⟨?_, (fun z => by rw [e2] at z; cases z), by rw [e3]; decide, ?_⟩, e2, e3⟩
    · rw [List.map_cons]; simp only [PyData.showableAll]; rw [p1, A.sh]; rfl
    · rw [List.map_cons, List.length_cons]
      simp only [nodesAll]
      have := A.nd
      omega
theorem ShowsAll.lst {ds : List PyData} {n : Nat} (h : ShowsAll ds n) (hd : PyData.hasDictAll ds = false) (hn : n ≤ 7999) : Shows (.list ds) :=
  ⟨by simp only [PyData.showable]; exact h.sh, (fun z => by simp only [PyData.hasDict] at z; rw [hd] at z; cases z), by simp only [PyData.depth]; have := h.dep; omega, by simp only [nodes]; have := h.nd; omega⟩
theorem stF_lt {la : Int → Nat} : ∀ (bs : List Int) (k : Nat) (s : Option Nat), ∀ o ∈ stF la k s bs, o < k + bs.length
  | [], _, _, o, h => nomatch h
  | b :: bs, k, s, o, h => by
    have h' : o ∈ (if s = some 0 ∧ 0 < la b then [k] else []) ++ stF la (k + 1) (cdStep la s b) bs := h
    rw [List.length_cons]
    rcases List.mem_append.mp h' with z | z
    · revert z
      split
      · intro z; rw [List.mem_singleton.mp z]; omega
      · intro z; cases z
    · have := stF_lt bs (k + 1) _ o z
      omega
theorem cdEnd_le {la : Int → Nat} {m : Nat} (hm : ∀ b, la b ≤ m) : ∀ (bs : List Int) (s : Option Nat), (∀ n, s = some n → n ≤ m) → ∀ n, cdEnd la s bs = some n → n ≤ m
  | [], s, h, n, e => h n e
  | b :: bs, s, h, n, e => by
    refine cdEnd_le hm bs (cdStep la s b) (fun j ej => ?_) n e
    cases s with
    | none => cases ej
    | some q =>
      cases q with
      | zero =>
        have ej' : (if la b = 0 then none else some (la b - 1)) = some j := ej
        split at ej'
        · cases ej'
        · have := Option.some.inj ej'; have := hm b; omega
      | succ q =>
        have : q = j := Option.some.inj ej
        have := h _ rfl
        omega
theorem dx_nats {K : PySem.W.Frag} {H : Hp} {a : Addr} {ns : List Nat} (h : H a = some (.tup (ns.map natV))) : Dx K H (.ref a) (.tuple ((ns.map fun n : Nat => (n : Int)).map PyData.int)) := by
  rw [natV_ints] at h
  exact .tup (SqT.of h) (dx_ints _)
theorem sh_nats {ns : List Nat} (h : ∀ n ∈ ns, n ≤ 2 ^ 60) (hl : ns.length ≤ 7999) : Shows (.tuple ((ns.map fun n : Nat => (n : Int)).map PyData.int)) :=
  (ints_show (ns := ns.map fun n : Nat => (n : Int)) (fun m hm => by
    obtain ⟨n, hn, rfl⟩ := List.mem_map.mp hm
    exact small_nat (h n hn))).tup (by rw [List.length_map]; exact hl)
end Ov
namespace Ov
open PySem PySem.Spec PyProof.Rows L2
abbrev sLongest : Stmt := inClass cInstructionSet 2
/-! ### the longest length -/
def lonOf (is : List I4) : Nat := (is.map I4.ln).foldl max 0
theorem fmax_ge : ∀ (l : List Nat) (a : Nat), a ≤ l.foldl max a ∧ ∀ x ∈ l, x ≤ l.foldl max a
  | [], a => ⟨Nat.le_refl _, fun _ h => nomatch h⟩
  | y :: l, a => by
    obtain ⟨h1, h2⟩ := fmax_ge l (max a y)
    refine ⟨Nat.le_trans (Nat.le_max_left _ _) h1, fun x hx => ?_⟩
    rcases List.mem_cons.mp hx with rfl | hx
    · exact Nat.le_trans (Nat.le_max_right _ _) h1
    · exact h2 x hx
theorem fmax_le : ∀ (l : List Nat) (a m : Nat), a ≤ m → (∀ x ∈ l, x ≤ m) → l.foldl max a ≤ m
  | [], a, m, h, _ => h
  | y :: l, a, m, h, hl => fmax_le l (max a y) m (Nat.max_le.mpr ⟨h, hl y List.mem_cons_self⟩) fun x hx => hl x (List.mem_cons_of_mem _ hx)
theorem lon_eq {is : List I4} {m : Int} (h1 : m ∈ is.map (fun x => (x.ln : Int))) (h2 : ∀ y ∈ is.map (fun x => (x.ln : Int)), y ≤ m) : m = (lonOf is : Int) := by
  obtain ⟨x, hx, rfl⟩ := List.mem_map.mp h1
  have g := (fmax_ge (is.map I4.ln) 0).2 x.ln (List.mem_map.mpr ⟨x, hx, rfl⟩)
  have l := fmax_le (is.map I4.ln) 0 x.ln (Nat.zero_le _) fun y hy => by
    obtain ⟨z, hz, rfl⟩ := List.mem_map.mp hy
    have := h2 (z.ln : Int) (List.mem_map.mpr ⟨z, hz, rfl⟩)
    omega
  unfold lonOf
  omega
theorem lon_le {cnt lg : Nat} {is : List I4} (ok : TabOk cnt lg is) : 1 ≤ lonOf is ∧ lonOf is ≤ 12 := by
  constructor
  · cases e : is with
    | nil => exact absurd e ok.ne
    | cons x r =>
      have h := (ok.len x (by rw [e]; exact List.mem_cons_self)).1
      have g := (fmax_ge ((x :: r).map I4.ln) 0).2 x.ln (List.mem_map.mpr ⟨x, List.mem_cons_self, rfl⟩)
      unfold lonOf
      omega
  · refine fmax_le (is.map I4.ln) 0 12 (by decide) fun y hy => ?_
    obtain ⟨z, hz, rfl⟩ := List.mem_map.mp hy
    have := (ok.len z hz).2
    have := ok.lb
    omega
/-- an instruction set with its rows -/
structure Mach (C : Addr) (H : Hp) (p : Addr) (cnt lg : Nat) (it : Addr) (is : List I4) (rs : List Addr) : Prop where
  at_ : SetAt C H p cnt it is
  its : H it = some (.tup (rs.map V.ref))
  rows : Rows H rs is
  ok : TabOk cnt lg is
theorem Mach.same {C : Addr} {H H' : Hp} {p : Addr} {cnt lg : Nat} {it : Addr} {is : List I4} {rs : List Addr} (h : Mach C H p cnt lg it is rs) (s : Same H H') : Mach C H' p cnt lg it is rs := ⟨h.at_.same s, s _ _ h.its, h.rows.same s, h.ok⟩
theorem Mach.but {C : Addr} {H H' : Hp} {x p : Addr} {cnt lg n : Nat} {it : Addr} {is : List I4} {rs : List Addr} (h : Mach C H x cnt lg it is rs) (b : But p H H') (B : BoxAt H p n) : Mach C H' x cnt lg it is rs := ⟨h.at_.but b B, b _ _ h.its (ne_box B h.its), h.rows.but b B, h.ok⟩
/-- the pairs of a map -/
def pairV (m : Option Nat × Nat) : List V := [optN m.1, natV m.2]
def Pairs (H : Hp) (ps : List Addr) (ms : List (Option Nat × Nat)) : Prop := ps.length = ms.length ∧ ∀ (i : Nat) (a : Addr) (m : Option Nat × Nat), ps[i]? = some a → ms[i]? = some m → H a = some (.tup (pairV m))
theorem Pairs.same {H H' : Hp} {ps : List Addr} {ms : List (Option Nat × Nat)} (h : Pairs H ps ms) (s : Same H H') : Pairs H' ps ms := ⟨h.1, fun i a m h1 h2 => s _ _ (h.2 i a m h1 h2)⟩
theorem Pairs.but {H H' : Hp} {D : Addr} {xs : List V} {ps : List Addr} {ms : List (Option Nat × Nat)} (h : Pairs H ps ms) (b : But D H H') (hD : H D = some (.lst xs)) : Pairs H' ps ms :=
  ⟨h.1, fun i a m h1 h2 => b _ _ (h.2 i a m h1 h2) fun z => by have := h.2 i a m h1 h2; rw [z, hD] at this; cases this⟩
theorem Pairs.nil {H : Hp} : Pairs H [] [] := ⟨rfl, fun i a m h => by simp at h⟩
theorem Pairs.more {H : Hp} {ps : List Addr} {ms : List (Option Nat × Nat)} {a : Addr} {m : Option Nat × Nat} (h : Pairs H ps ms) (ha : H a = some (.tup (pairV m))) : Pairs H (ps ++ [a]) (ms ++ [m]) := by
  refine ⟨by rw [List.length_append, List.length_append, h.1]; rfl, fun i b x h1 h2 => ?_⟩
  by_cases c : i < ps.length
  · rw [List.getElem?_append_left c] at h1
    rw [List.getElem?_append_left (by rw [← h.1]; exact c)] at h2
    exact h.2 i b x h1 h2
  · have hl := (List.getElem?_eq_some_iff.mp h1).1
    rw [List.length_append] at hl
    have e : i = ps.length := by
      have : ([a] : List Addr).length = 1 := rfl
      omega
    subst e
    rw [List.getElem?_append_right (Nat.le_refl _), Nat.sub_self] at h1
    rw [h.1, List.getElem?_append_right (Nat.le_refl _), Nat.sub_self] at h2
    have e1 : a = b := Option.some.inj h1
    have e2 : m = x := Option.some.inj h2
    subst e1 e2
    exact ha
/-- a map as it stands -/
def MapAt (H : Hp) (r : Addr) (ms : List (Option Nat × Nat)) : Prop := ∃ ps : List Addr, H r = some (.tup (ps.map V.ref)) ∧ Pairs H ps ms
theorem MapAt.same {H H' : Hp} {r : Addr} {ms : List (Option Nat × Nat)} (h : MapAt H r ms) (s : Same H H') : MapAt H' r ms := by
  obtain ⟨ps, h1, h2⟩ := h
  exact ⟨ps, s _ _ h1, h2.same s⟩
def mapOf (la : Int → Nat) (L : Nat) (bs : List Int) : List (Option Nat × Nat) := (List.range L).map fun c => (cdEnd la (some c) bs, (stF la 0 (some c) bs).length)
def idMap (L : Nat) : List (Option Nat × Nat) := (List.range L).map fun c => (some c, 0)
def pairD (m : Option Nat × Nat) : PyData := .tuple [optD m.1, .int (m.2 : Int)]
theorem dx_opt {K : PySem.W.Frag} {H : Hp} (o : Option Nat) : Dx K H (optN o) (optD o) := by
  cases o with
  | none => exact .non
  | some n => exact .int _
theorem dx_pairs {K : PySem.W.Frag} {H : Hp} : ∀ {ps : List Addr} {ms : List (Option Nat × Nat)}, Pairs H ps ms → DxAll K H (ps.map V.ref) (ms.map pairD)
  | [], [], _ => .nil
  | [], _ :: _, h => by cases h.1
  | _ :: _, [], h => by cases h.1
  | a :: ps, m :: ms, h => .cons (.tup (SqT.of (h.2 0 a m rfl rfl)) (.cons (dx_opt _) (.cons (.int _) .nil))) (dx_pairs ⟨by have := h.1; rw [List.length_cons, List.length_cons] at this; omega, fun i b x h1 h2 => h.2 (i + 1) b x h1 h2⟩)
theorem dx_map {K : PySem.W.Frag} {H : Hp} {r : Addr} {ms : List (Option Nat × Nat)} (h : MapAt H r ms) : Dx K H (.ref r) (.tuple (ms.map pairD)) := by
  obtain ⟨ps, h1, h2⟩ := h
  exact .tup (SqT.of h1) (dx_pairs h2)
theorem pair_parts {m : Option Nat × Nat} (h : ∀ n, m.1 = some n → n ≤ 2 ^ 60) (h2 : m.2 ≤ 2 ^ 60) : (pairD m).showable = true ∧ (pairD m).hasDict = false ∧ (pairD m).depth = 1 ∧ nodes (pairD m) = 3 := by
  obtain ⟨p1, p2, p3, p4⟩ := opt_parts h
  have q := opt_parts (o := some m.2) (fun n hn => by cases hn; exact h2)
  obtain ⟨q1, q2, q3, q4⟩ := q
  simp only [optD] at q1 q2 q3 q4
  refine ⟨?_, ?_, ?_, ?_⟩
  · simp only [PyData.showable] at q1
    simp only [pairD, PyData.showable, PyData.showableAll]; rw [p1, q1]; rfl
  · simp only [pairD, PyData.hasDict, PyData.hasDictAll]; rw [p2]; rfl
  · simp only [pairD, PyData.depth, PyData.depthAll]; rw [p3]; rfl
  · simp only [pairD, nodes, nodesAll]; rw [p4]
theorem pairs_show : ∀ {ms : List (Option Nat × Nat)}, (∀ m ∈ ms, (∀ n, m.1 = some n → n ≤ 2 ^ 60) ∧ m.2 ≤ 2 ^ 60) → ShowsAll (ms.map pairD) (3 * ms.length) ∧ PyData.hasDictAll (ms.map pairD) = false ∧ PyData.depthAll (ms.map pairD) ≤ 1
  | [], _ => ⟨⟨by simp [PyData.showableAll], fun z => by simp [PyData.hasDictAll] at z, by simp [PyData.depthAll], by simp [nodesAll]⟩, by simp [PyData.hasDictAll], by simp [PyData.depthAll]⟩
  | m :: ms, h => by
    obtain ⟨A, B, C⟩ := pairs_show (ms := ms) (fun n hn => h n (List.mem_cons_of_mem _ hn))
    obtain ⟨p1, p2, p3, p4⟩ := pair_parts (h m List.mem_cons_self).1 (h m List.mem_cons_self).2
    have e2 : PyData.hasDictAll ((m :: ms).map pairD) = false := by
      rw [List.map_cons]; simp only [PyData.hasDictAll]; rw [p2, B]; rfl
    have e3 : PyData.depthAll ((m :: ms).map pairD) ≤ 1 := by
      rw [List.map_cons]; simp only [PyData.depthAll]; rw [p3]; omega
    refine ⟨⟨?_, (fun z => by rw [e2] at z; cases z), by omega, ?_⟩, e2, e3⟩
    · rw [List.map_cons]; simp only [PyData.showableAll]; rw [p1, A.sh]; rfl
    · rw [List.map_cons, List.length_cons]
      simp only [nodesAll]
      have := A.nd
      omega
theorem sh_map {ms : List (Option Nat × Nat)} (h : ∀ m ∈ ms, (∀ n, m.1 = some n → n ≤ 2 ^ 60) ∧ m.2 ≤ 2 ^ 60) (hl : ms.length ≤ 100) : Shows (.tuple (ms.map pairD)) := by
  obtain ⟨A, _, _⟩ := pairs_show h
  exact A.tup (by omega)
section
variable {P : Program} {w : World} {K : PySem.W.Frag} {mg : Str → Option Value} {base : Heap}
/-! ### longest -/
def spLongest (C : Addr) : Sp := fun vs H Q _ => ∃ (p it : Addr) (cnt lg : Nat) (is : List I4) (rs : List Addr), vs = [.ref p] ∧ Mach C H p cnt lg it is rs ∧ ∀ H', Same H H' → Q (.int (lonOf is : Int)) H'
theorem scLongest : FnScope ["self", "opcode", "name", "length", "is_padding"] ["self"] (defScope sLongest) := ⟨rfl, rfl, rfl, by decide +kernel, rfl, by decide +kernel, by decide +kernel⟩
theorem ok_longest {f C : Addr} {fd : FuncData} {k : Nat} (F : Fun K "longest" "InstructionSet.longest" sLongest f fd) (T : Bi mg) (S : SetTxt K mg C) : FnOk P w K mg base CX0 (k + 1) f fd ["self"] (spLongest C) := by
  refine F.ok scLongest (fun vs H Q E h => ?_) (fun cdv A' outer s H vs Q E hr h => ?_)
  · obtain ⟨p, it, cnt, lg, is, rs, rfl, _⟩ := h
    rfl
  · obtain ⟨p, it, cnt, lg, is, rs, rfl, M, q⟩ := h
    refine ⟨_, pss_one (ps_ret (pe_callB (cr_max rfl) (by rfl) T.max (by decide +kernel) (pa_cons (pe_lc (own := [("opcode", 1), ("name", 2), ("length", 3), ("is_padding", 4)]) (g := gTup K 4 (gCons (gName 1) (gCons (gName 2) (gCons (gName 3) (gCons (gName 4) gNil))))) (tt := tYes) (by rfl) scLongest.nd (pi_tup (pe_fld (pv 0) rfl))
          (blkOk_by (own := [("opcode", 1), ("name", 2), ("length", 3), ("is_padding", 4)]) (N := ["self", "opcode", "name", "length", "is_padding"]) (sc := defScope sLongest) (by decide +kernel))
          (fun _ _ _ _ _ => pg_tup rfl (pgs_cons (pg_name (i := 1) scLongest.nd rfl (Or.inl rfl)) (pgs_cons (pg_name (i := 2) scLongest.nd rfl (Or.inl rfl)) (pgs_cons (pg_name (i := 3) scLongest.nd rfl (Or.inl rfl)) (pgs_cons (pg_name (i := 4) scLongest.nd rfl (Or.inl rfl)) pgs_nil)))))
          (fun _ _ _ _ _ => pts_nil) (fun _ _ _ _ _ => pv 3)) pa_nil))), ?_⟩
    obtain ⟨dx, d1, d2, hp, h1, h2⟩ := M.at_.ob
    have hit := M.its
    have rl := M.rows.1
    have few := M.ok.few
    have ne : 0 < is.length := List.length_pos_iff.mpr M.ok.ne
    refine ⟨_, rfl, p, C, dx, _, _, rfl, hp, S.cl, S.nI, flds_its _ _ _ _, it, rfl, ⟨_, SqT.of hit⟩, fun D nD => lc_tup (K := K) (a := it) (xs := rs.map V.ref) (fun i H2 => Mk H H2 D (((is.take i).map fun x => (x.ln : Int)).map V.int)) (.start nD) (fun i H2 _ p => p.same.tup (SqT.of hit)) ?_ ?_⟩
    · intro i x H2 hx mk
      obtain ⟨hi, r, rfl, hr2, _⟩ := rows_at M.rows hx
      refine ⟨r, _, rfl, SqT.of (mk.same _ _ hr2), rfl, _, _, rfl, _, _, rfl, _, _, rfl, _, _, rfl, rfl, rfl, _, rfl, _, mk.at_, (by rw [List.length_map, List.length_map, List.length_take]; exact small1000 (by omega)), ?_⟩
      rw [take_more (List.getElem?_eq_getElem hi), List.map_append, List.map_append]
      exact mk.put (Same.refl _)
    intro H2 mk
    rw [List.length_map, rl, List.take_length] at mk
    refine ⟨D, _, rfl, SqL.of mk.at_, by rw [List.length_map]; exact ne, fun m m1 m2 => ?_⟩
    rw [lon_eq m1 m2]
    exact q H2 mk.same
/-! ### _law_longest -/
def spLLongest : Sp := fun vs H Q _ => ∃ (t it : Addr) (cnt lg : Nat) (is : List I4) (rs : List Addr), vs = [.ref t] ∧ Tab H t cnt lg is it rs ∧ ∀ H', Same H H' → Q (.int (lonOf is : Int)) H'
theorem scLLongest : FnScope ["_law_table_here", "_law_opcode", "_law_name", "_law_length", "_law_is_padding"] ["_law_table_here"] (defScope sLLongest) := ⟨rfl, rfl, rfl, by decide +kernel, rfl, by decide +kernel, by decide +kernel⟩
theorem ok_llongest {f : Addr} {fd : FuncData} {k : Nat} (F : Fun K "_law_longest" "_law_longest" sLLongest f fd) (T : Bi mg) : FnOk P w K mg base CX0 (k + 1) f fd ["_law_table_here"] spLLongest := by
  refine F.ok scLLongest (fun vs H Q E h => ?_) (fun cdv A' outer s H vs Q E hr h => ?_)
  · obtain ⟨t, it, cnt, lg, is, rs, rfl, _⟩ := h
    rfl
  · obtain ⟨t, it, cnt, lg, is, rs, rfl, M, q⟩ := h
    refine ⟨_, pss_one (ps_ret (pe_callB (cr_max rfl) (by rfl) T.max (by decide +kernel) (pa_cons (pe_lc (own := [("_law_opcode", 1), ("_law_name", 2), ("_law_length", 3), ("_law_is_padding", 4)]) (g := gTup K 4 (gCons (gName 1) (gCons (gName 2) (gCons (gName 3) (gCons (gName 4) gNil))))) (tt := tYes) (by rfl) scLLongest.nd (pi_tup (pe_ix ix_tup (pv 0) pe_int (fun _ _ => rfl)))
          (blkOk_by (own := [("_law_opcode", 1), ("_law_name", 2), ("_law_length", 3), ("_law_is_padding", 4)]) (N := ["_law_table_here", "_law_opcode", "_law_name", "_law_length", "_law_is_padding"]) (sc := defScope sLLongest) (by decide +kernel))
          (fun _ _ _ _ _ => pg_tup rfl (pgs_cons (pg_name (i := 1) scLLongest.nd rfl (Or.inl rfl)) (pgs_cons (pg_name (i := 2) scLLongest.nd rfl (Or.inl rfl)) (pgs_cons (pg_name (i := 3) scLLongest.nd rfl (Or.inl rfl)) (pgs_cons (pg_name (i := 4) scLLongest.nd rfl (Or.inl rfl)) pgs_nil)))))
          (fun _ _ _ _ _ => pts_nil) (fun _ _ _ _ _ => pv 3)) pa_nil))), ?_⟩
    have hit := M.its
    have rl := M.rows.1
    have few := M.ok.few
    have ne : 0 < is.length := List.length_pos_iff.mpr M.ok.ne
    have i1 : ∀ x y : V, atI [x, y] 1 = some y := fun x y => atI_nat (j := 1) rfl
    refine ⟨_, rfl, t, _, _, _, rfl, rfl, SqT.of M.at_, i1 _ _, it, rfl, ⟨_, SqT.of hit⟩, fun D nD => lc_tup (K := K) (a := it) (xs := rs.map V.ref) (fun i H2 => Mk H H2 D (((is.take i).map fun x => (x.ln : Int)).map V.int)) (.start nD) (fun i H2 _ p => p.same.tup (SqT.of hit)) ?_ ?_⟩
    · intro i x H2 hx mk
      obtain ⟨hi, r, rfl, hr2, _⟩ := rows_at M.rows hx
      refine ⟨r, _, rfl, SqT.of (mk.same _ _ hr2), rfl, _, _, rfl, _, _, rfl, _, _, rfl, _, _, rfl, rfl, rfl, _, rfl, _, mk.at_, (by rw [List.length_map, List.length_map, List.length_take]; exact small1000 (by omega)), ?_⟩
      rw [take_more (List.getElem?_eq_getElem hi), List.map_append, List.map_append]
      exact mk.put (Same.refl _)
    intro H2 mk
    rw [List.length_map, rl, List.take_length] at mk
    refine ⟨D, _, rfl, SqL.of mk.at_, by rw [List.length_map]; exact ne, fun m m1 m2 => ?_⟩
    rw [lon_eq m1 m2]
    exact q H2 mk.same
/-! ### decoder_pair -/
def spPair (K : PySem.W.Frag) (C : Addr) : Sp := fun vs H Q _ => ∃ (p it c : Addr) (cnt : Nat) (is : List I4) (bs : List Int) (e : Nat), vs = [.ref p, .ref c, .int (e : Int)] ∧ SetAt C H p cnt it is ∧ SqT K H c (bs.map V.int) ∧ bs.length ≤ 100000 ∧
  ∀ H' r, Same H H' → H r = none → H' r = some (.tup (pairV (cdEnd (laOf is) (some e) bs, (stF (laOf is) 0 (some e) bs).length))) → Q (.ref r) H'
theorem scPair : FnScope ["instruction_set", "code", "countdown", "begun", "following"] ["instruction_set", "code", "countdown"] (defScope sPair) := ⟨rfl, rfl, rfl, by decide +kernel, rfl, by decide +kernel, by decide +kernel⟩
theorem ok_pair {f fW fH C : Addr} {fd fdW fdH : FuncData} {k : Nat} (F : Fun K "decoder_pair" "decoder_pair" sPair f fd) (T : Bi mg)
    (Wa : Def K mg "walk" sWalk fW fdW ["instruction_set", "code", "entry"]) (GW : FnOk P w K mg base CX0 k fW fdW ["instruction_set", "code", "entry"] (spWalk K C))
    (Bh : Def K mg "countdown_behind" sBehind fH fdH ["code", "following"]) (GH : FnOk P w K mg base CX0 k fH fdH ["code", "following"] (spBehind K)) :
    FnOk P w K mg base CX0 (k + 1) f fd ["instruction_set", "code", "countdown"] (spPair K C) := by
  refine F.ok scPair (fun vs H Q E h => ?_) (fun cdv A' outer s H vs Q E hr h => ?_)
  · obtain ⟨p, it, c, cnt, is, bs, e, rfl, _⟩ := h
    rfl
  · obtain ⟨p, it, c, cnt, is, bs, e, rfl, SA, hc, hb, q⟩ := h
    refine ⟨_, pss_cons (ps_asg (pe_call GW hr (by rfl) Wa.gl Wa.fn.kp Wa.bi .nil pass0 (pa_cons (pv 0) (pa_cons (pv 1) (pa_cons (pv 2) pa_nil)))) (pg_tup rfl (pgs_cons (pg_name (i := 3) scPair.nd rfl (.inl rfl)) (pgs_cons (pg_name (i := 4) scPair.nd rfl (.inl rfl)) pgs_nil))))
      (pss_one (ps_ret (pe_tup (pa_cons (pe_call GH hr (by rfl) Bh.gl Bh.fn.kp Bh.bi .nil pass0 (pa_cons (pv 1) (pa_cons (pv 4) pa_nil))) (pa_cons (pe_callB call_len_seq (by rfl) T.len PySem.boot_len (pa_cons (pv 3) pa_nil)) pa_nil))))), ?_⟩
    refine ⟨_, rfl, _, rfl, _, rfl, p, it, c, cnt, is, bs, e, rfl, SA, hc, hb, fun H' r l begun fol s' en nr hr' hl bl => ?_⟩
    refine ⟨r, _, rfl, SqT.of hr', rfl, _, _, rfl, _, _, rfl, rfl, ?_⟩
    refine ⟨_, rfl, _, rfl, c, _, fol, rfl, s'.tup hc, ?_⟩
    rw [List.length_map, ← en.cd]
    refine ⟨_, rfl, l, _, rfl, .inl (SqL.of hl), by show 2 ≤ sizeLine; decide, fun t nt => ?_⟩
    have s2 := same_upd (o := HO.tup [optN (cdEnd (laOf is) (some e) bs), V.int ((begun.map natV).length : Int)]) nt
    refine q _ t (s'.trans s2) (s'.free nt) ?_
    rw [← en.st]
    unfold pairV natV
    rw [List.length_map]
    exact upd_same
/-! ### code_map -/
def spCodeMap (K : PySem.W.Frag) (C : Addr) : Sp := fun vs H Q _ => ∃ (p it c : Addr) (cnt lg : Nat) (is : List I4) (rs : List Addr) (bs : List Int), vs = [.ref p, .ref c] ∧ Mach C H p cnt lg it is rs ∧ SqT K H c (bs.map V.int) ∧ bs.length ≤ 100000 ∧
  ∀ H' r, Same H H' → H r = none → MapAt H' r (mapOf (laOf is) (lonOf is) bs) → Q (.ref r) H'
theorem scCodeMap : FnScope ["instruction_set", "code", "countdown"] ["instruction_set", "code"] (defScope sCodeMap) := ⟨rfl, rfl, rfl, by decide +kernel, rfl, by decide +kernel, by decide +kernel⟩
theorem no_meth2 (cnt : Nat) (it d1 d2 : Addr) : (flds cnt it d1 d2).lookup ("longest" : Str) = none := by
  unfold flds
  rw [lookup_putF, if_neg (by decide +kernel), lookup_putF, if_neg (by decide +kernel), lookup_putF, if_neg (by decide +kernel), lookup_putF, if_neg (by decide +kernel)]
  rfl
theorem ok_codeMap {f fP fL C : Addr} {fd fdP fdL : FuncData} {k : Nat} (F : Fun K "code_map" "code_map" sCodeMap f fd) (T : Bi mg) (S : SetTxt K mg C)
    (Pr : Def K mg "decoder_pair" sPair fP fdP ["instruction_set", "code", "countdown"]) (GP : FnOk P w K mg base CX0 k fP fdP ["instruction_set", "code", "countdown"] (spPair K C))
    (ML : Meth K C "longest" fL) (bL : Binds K fdL ["self"] []) (GL : FnOk P w K mg base CX0 k fL fdL ["self"] (spLongest C)) :
    FnOk P w K mg base CX0 (k + 1) f fd ["instruction_set", "code"] (spCodeMap K C) := by
  refine F.ok scCodeMap (fun vs H Q E h => ?_) (fun cdv A' outer s H vs Q E hr h => ?_)
  · obtain ⟨p, it, c, cnt, lg, is, rs, bs, rfl, _⟩ := h
    rfl
  · obtain ⟨p, it, c, cnt, lg, is, rs, bs, rfl, M, hc, hb, q⟩ := h
    refine ⟨_, pss_one (ps_ret (pe_callTy call_tuple_of (by rfl) T.tuple (by decide +kernel) (pa_cons (pe_lc (own := [("countdown", 2)]) (g := gName 2) (tt := tYes) (by rfl) scCodeMap.nd (pi_range1 (by rfl) T.range (pa_cons (pe_meth0 (pv 0) S.cl ML GL hr bL .nil pass0) pa_nil))
          (blkOk_by (own := [("countdown", 2)]) (N := ["instruction_set", "code", "countdown"]) (sc := defScope sCodeMap) (by decide +kernel))
          (fun _ _ _ _ _ => pg_name (i := 2) scCodeMap.nd rfl (Or.inl rfl)) (fun _ _ _ _ _ => pts_nil)
          (fun _ _ _ _ _ => pe_call GP hr (by rfl) Pr.gl Pr.fn.kp Pr.bi .nil pass0 (pa_cons (pv 0) (pa_cons (pv 1) (pa_cons (pv 2) pa_nil))))) pa_nil))), ?_⟩
    obtain ⟨dx, d1, d2, hp, h1, h2⟩ := M.at_.ob
    have lon := lon_le M.ok
    refine ⟨_, rfl, p, dx, _, rfl, hp, no_meth2 _ _ _ _, p, it, cnt, lg, is, rs, rfl, M, fun H1 s1 => ⟨_, rfl, by omega, by omega, fun D nD => lc_range (lo := 0) (n := lonOf is) (fun i H2 => ∃ ps, Mk H1 H2 D (ps.map V.ref) ∧ Pairs H2 ps ((mapOf (laOf is) (lonOf is) bs).take i)) ⟨[], .start nD, Pairs.nil⟩ ?_ ?_⟩⟩
    · rintro i H2 hi ⟨ps, mk, pr⟩
      have s2 := s1.trans mk.same
      have pl : ps.length ≤ 12 := by rw [pr.1, List.length_take]; omega
      refine ⟨rfl, _, rfl, _, rfl, _, rfl, p, it, c, cnt, is, bs, i, (by rw [Int.zero_add]; rfl), M.at_.same s2, s2.tup hc, hb, fun H3 r s3 nr hr3 => ?_⟩
      refine ⟨_, s3 _ _ mk.at_, by rw [List.length_map, sizeLine_eq]; omega, ps ++ [r], ?_, ?_⟩
      · rw [List.map_append]; exact mk.put s3
      · have hm : (mapOf (laOf is) (lonOf is) bs)[i]? = some (cdEnd (laOf is) (some i) bs, (stF (laOf is) 0 (some i) bs).length) := by
          unfold mapOf
          rw [List.getElem?_map, List.getElem?_range hi]
          rfl
        rw [take_more hm]
        exact ((pr.same s3).more hr3).but (D := D) (fun b o e n => by rw [upd_ne n]; exact e) (s3 _ _ mk.at_)
    rintro H2 ⟨ps, mk, pr⟩
    rw [List.take_of_length_le (by unfold mapOf; rw [List.length_map, List.length_range]; exact Nat.le_refl _)] at pr
    refine ⟨D, _, rfl, .inl ⟨SqL.of mk.at_, fun r nr => ?_⟩⟩
    have s3 := same_upd (o := HO.tup (ps.map V.ref)) nr
    have s03 := (s1.trans mk.same).trans s3
    exact q _ r s03 ((s1.trans mk.same).free nr) ⟨ps, upd_same, pr.same s3⟩
/-! ### unchanged, identity_map -/
def spUnch : Sp := fun vs H Q _ => ∃ (n : Nat), vs = [.int (n : Int)] ∧ n ≤ 100 ∧ ∀ H' r, Same H H' → H r = none → MapAt H' r (idMap n) → Q (.ref r) H'
theorem scUnch : FnScope ["count", "countdown"] ["count"] (defScope sUnch) := ⟨rfl, rfl, rfl, by decide +kernel, rfl, by decide +kernel, by decide +kernel⟩
theorem ok_unch {f : Addr} {fd : FuncData} {k : Nat} (F : Fun K "unchanged" "unchanged" sUnch f fd) (T : Bi mg) : FnOk P w K mg base CX0 (k + 1) f fd ["count"] spUnch := by
  refine F.ok scUnch (fun vs H Q E h => ?_) (fun cdv A' outer s H vs Q E hr h => ?_)
  · obtain ⟨n, rfl, _⟩ := h
    rfl
  · obtain ⟨n, rfl, hn, q⟩ := h
    refine ⟨_, pss_one (ps_ret (pe_callTy call_tuple_of (by rfl) T.tuple (by decide +kernel) (pa_cons (pe_lc (own := [("countdown", 1)]) (g := gName 1) (tt := tYes) (by rfl) scUnch.nd (pi_range1 (by rfl) T.range (pa_cons (pv 0) pa_nil))
          (blkOk_by (own := [("countdown", 1)]) (N := ["count", "countdown"]) (sc := defScope sUnch) (by decide +kernel))
          (fun _ _ _ _ _ => pg_name (i := 1) scUnch.nd rfl (Or.inl rfl)) (fun _ _ _ _ _ => pts_nil)
          (fun _ _ _ _ _ => pe_tup (pa_cons (pv 1) (pa_cons pe_int pa_nil)))) pa_nil))), ?_⟩
    refine ⟨_, rfl, _, rfl, by omega, by omega, fun D nD => lc_range (lo := 0) (n := n) (fun i H2 => ∃ ps, Mk H H2 D (ps.map V.ref) ∧ Pairs H2 ps ((idMap n).take i)) ⟨[], .start nD, Pairs.nil⟩ ?_ ?_⟩
    · rintro i H2 hi ⟨ps, mk, pr⟩
      have pl : ps.length ≤ 100 := by rw [pr.1, List.length_take]; omega
      refine ⟨rfl, _, rfl, by show 2 ≤ sizeLine; decide, fun r nr => ?_⟩
      have s3 := same_upd (o := HO.tup [V.int (0 + (i : Int)), V.int 0]) nr
      refine ⟨_, s3 _ _ mk.at_, by rw [List.length_map, sizeLine_eq]; omega, ps ++ [r], ?_, ?_⟩
      · rw [List.map_append]; exact mk.put s3
      · have hm : (idMap n)[i]? = some (some i, 0) := by
          unfold idMap
          rw [List.getElem?_map, List.getElem?_range hi]
          rfl
        rw [take_more hm]
        refine ((pr.same s3).more ?_).but (D := D) (fun b o e n => by rw [upd_ne n]; exact e) (s3 _ _ mk.at_)
        rw [upd_same, Int.zero_add]
        rfl
    rintro H2 ⟨ps, mk, pr⟩
    rw [List.take_of_length_le (by unfold idMap; rw [List.length_map, List.length_range]; exact Nat.le_refl _)] at pr
    refine ⟨D, _, rfl, .inl ⟨SqL.of mk.at_, fun r nr => ?_⟩⟩
    have s3 := same_upd (o := HO.tup (ps.map V.ref)) nr
    exact q _ r (mk.same.trans s3) (mk.same.free nr) ⟨ps, upd_same, pr.same s3⟩
def spIdMap (C : Addr) : Sp := fun vs H Q _ => ∃ (p it : Addr) (cnt lg : Nat) (is : List I4) (rs : List Addr), vs = [.ref p] ∧ Mach C H p cnt lg it is rs ∧ ∀ H' r, Same H H' → H r = none → MapAt H' r (idMap (lonOf is)) → Q (.ref r) H'
theorem scIdMap : FnScope ["instruction_set"] ["instruction_set"] (defScope sIdMap) := ⟨rfl, rfl, rfl, by decide +kernel, rfl, by decide +kernel, by decide +kernel⟩
theorem ok_idMap {f fU fL C : Addr} {fd fdU fdL : FuncData} {k : Nat} (F : Fun K "identity_map" "identity_map" sIdMap f fd) (S : SetTxt K mg C)
    (U : Def K mg "unchanged" sUnch fU fdU ["count"]) (GU : FnOk P w K mg base CX0 k fU fdU ["count"] spUnch)
    (ML : Meth K C "longest" fL) (bL : Binds K fdL ["self"] []) (GL : FnOk P w K mg base CX0 k fL fdL ["self"] (spLongest C)) :
    FnOk P w K mg base CX0 (k + 1) f fd ["instruction_set"] (spIdMap C) := by
  refine F.ok scIdMap (fun vs H Q E h => ?_) (fun cdv A' outer s H vs Q E hr h => ?_)
  · obtain ⟨p, it, cnt, lg, is, rs, rfl, _⟩ := h
    rfl
  · obtain ⟨p, it, cnt, lg, is, rs, rfl, M, q⟩ := h
    refine ⟨_, pss_one (ps_ret (pe_call GU hr (by rfl) U.gl U.fn.kp U.bi .nil pass0 (pa_cons (pe_meth0 (pv 0) S.cl ML GL hr bL .nil pass0) pa_nil))), ?_⟩
    obtain ⟨dx, d1, d2, hp, h1, h2⟩ := M.at_.ob
    have lon := lon_le M.ok
    exact ⟨_, rfl, p, dx, _, rfl, hp, no_meth2 _ _ _ _, p, it, cnt, lg, is, rs, rfl, M, fun H1 s1 => ⟨lonOf is, rfl, by omega, fun H2 r s2 nr m => q H2 r (s1.trans s2) (s1.free nr) m⟩⟩
end
end Ov
namespace Ov
open PySem PySem.Spec PyProof.Rows L2
theorem stF_len {la : Int → Nat} : ∀ (bs : List Int) (k : Nat) (s : Option Nat), (stF la k s bs).length ≤ bs.length
  | [], _, _ => Nat.le_refl _
  | b :: bs, k, s => by
    show ((if s = some 0 ∧ 0 < la b then [k] else []) ++ stF la (k + 1) (cdStep la s b) bs).length ≤ bs.length + 1
    have := stF_len (la := la) bs (k + 1) (cdStep la s b)
    rw [List.length_append]
    split
    · rw [List.length_singleton]; omega
    · rw [List.length_nil]; omega
end Ov
namespace Ov
open PySem PySem.Spec PyProof.Rows L2
section
variable {P : Program} {w : World} {K : PySem.W.Frag} {mg : Str → Option Value} {base : Heap}
/-! ### _law_map -/
def spLMap (K : PySem.W.Frag) : Sp := fun vs H Q _ => ∃ (t it c : Addr) (cnt lg : Nat) (is : List I4) (rs : List Addr) (bs : List Int), vs = [.ref t, .ref c] ∧ Tab H t cnt lg is it rs ∧ SqT K H c (bs.map V.int) ∧ bs.length ≤ 100000 ∧
  ∀ H' r, Same H H' → H r = none → MapAt H' r (mapOf (laOf is) (lonOf is) bs) → Q (.ref r) H'
theorem scLMap : FnScope ["_law_table_here", "_law_code", "_law_found", "_law_countdown", "_law_left", "_law_count", "_law_byte"] ["_law_table_here", "_law_code"] (defScope sLMap) := ⟨rfl, rfl, rfl, by decide +kernel, rfl, by decide +kernel, by decide +kernel⟩
theorem ok_lmap {f fL fG : Addr} {fd fdL fdG : FuncData} {k : Nat} (F : Fun K "_law_map" "_law_map" sLMap f fd) (T : Bi mg)
    (L : Def K mg "_law_length_at" sLLenAt fL fdL ["_law_table_here", "_law_byte"]) (GL : FnOk P w K mg base CX0 k fL fdL ["_law_table_here", "_law_byte"] spLLenAt)
    (G : Def K mg "_law_longest" sLLongest fG fdG ["_law_table_here"]) (GG : FnOk P w K mg base CX0 k fG fdG ["_law_table_here"] spLLongest) :
    FnOk P w K mg base CX0 (k + 1) f fd ["_law_table_here", "_law_code"] (spLMap K) := by
  refine F.ok scLMap (fun vs H Q E h => ?_) (fun cdv A' outer s H vs Q E hr h => ?_)
  · obtain ⟨t, it, c, cnt, lg, is, rs, bs, rfl, _⟩ := h
    rfl
  · obtain ⟨t, it, c, cnt, lg, is, rs, bs, rfl, Tb, hc, hb, q⟩ := h
    refine ⟨_, pss_cons (ps_set (i := 2) scLMap.nd rfl (.inl rfl) (pe_lst pa_nil))
      (pss_cons (ps_for PassesOwn.never rfl (pi_range1 (by rfl) T.range (pa_cons (pe_call GG hr (by rfl) G.gl G.fn.kp G.bi .nil pass0 (pa_cons (pv 0) pa_nil)) pa_nil)) (pg_name (i := 3) scLMap.nd rfl (.inl rfl))
        (pss_cons (ps_par (i := 4) (j := 5) (by rfl) scLMap.nd rfl rfl (by decide) rfl rfl (pa_cons (pv 3) (pa_cons pe_int pa_nil)) (by rfl))
        (pss_cons (ps_for PassesOwn.never rfl (pi_tup (pv 1)) (pg_name (i := 6) scLMap.nd rfl (.inl rfl))
          (pss_cons (ps_if (pt_cmpR op_eq (pv 4) pe_int (nomark _))
            (pss_cons (ps_set (i := 4) scLMap.nd rfl (.inl rfl) (pe_call GL hr (by rfl) L.gl L.fn.kp L.bi .nil pass0 (pa_cons (pv 0) (pa_cons (pv 6) pa_nil))))
            (pss_one (ps_par (i := 5) (j := 4) (by rfl) scLMap.nd rfl rfl (by decide) rfl rfl (pa_cons (pe_op op_add (pv 5) (pe_callTy call_int1 (by rfl) T.int (by decide +kernel) (pa_cons (pe_cmpR op_gt (pv 4) pe_int (nomark _)) pa_nil)))
              (pa_cons (pe_ifExp (pt_cmpR op_gt (pv 4) pe_int (nomark _)) (pv 4) pe_non) pa_nil)) (by rfl)))) pss_nil)
          (pss_one (ps_set (i := 4) scLMap.nd rfl (.inl rfl) (pe_ifExp (pt_cmpR op_notN (pv 4) pe_non (nomark _)) (pe_op op_sub (pv 4) pe_int) pe_non)))))
        (pss_one (ps_expr (pe_bm PySem.F.plainAttrs_list PySem.F.slot_list_append PySem.F.type_list_append mt_append (pv 2) (pa_cons (pe_tup (pa_cons (pv 4) (pa_cons (pv 5) pa_nil))) pa_nil)))))))
      (pss_one (ps_ret (pe_callTy call_tuple_of (by rfl) T.tuple (by decide +kernel) (pa_cons (pv 2) pa_nil))))), ?_⟩
    have lon := lon_le Tb.ok
    refine ⟨Nat.zero_le _, fun D nD => ?_⟩
    have sD := same_upd (o := HO.lst []) nD
    have hD : upd H D (HO.lst []) D = some (.lst []) := upd_same
    generalize upd H D (HO.lst []) = H0 at *
    refine ⟨_, rfl, t, it, cnt, lg, is, rs, rfl, Tb.same sD, fun H1 s1 => ⟨_, rfl, by omega, by omega, for_range (lo := 0) (n := lonOf is) (fun i σ H2 => (∃ ps, Mk H H2 D (ps.map V.ref) ∧ Pairs H2 ps ((mapOf (laOf is) (lonOf is) bs).take i)) ∧ ∃ y3 y4 y5 y6, σ = [some (.ref t), some (.ref c), some (.ref D), y3, y4, y5, y6])
      ⟨⟨[], ⟨sD.trans s1, nD, s1 _ _ hD⟩, Pairs.nil⟩, _, _, _, _, rfl⟩ ?_ ?_⟩⟩
    · rintro i σ H2 hi ⟨⟨ps, mk, pr⟩, y3, y4, y5, y6, rfl⟩
      have pl : ps.length ≤ 12 := by rw [pr.1, List.length_take]; omega
      have Tb2 := Tb.same mk.same
      have hc2 := mk.same.tup hc
      have e0 : (0 : Int) + (i : Int) = (i : Int) := by omega
      rw [e0]
      refine ⟨_, rfl, _, _, rfl, ?_⟩
      refine ⟨_, rfl, c, rfl, ⟨_, hc2⟩, for_tup (K := K) (a := c) (xs := bs.map V.int) (fun j σ H3 => H3 = H2 ∧ ∃ y6, σ = [some (.ref t), some (.ref c), some (.ref D), some (.int (i : Int)), some (optN (cdEnd (laOf is) (some i) (bs.take j))), some (natV (stF (laOf is) 0 (some i) (bs.take j)).length), y6])
        ⟨rfl, _, rfl⟩ (fun j σ H3 _ ⟨e, _⟩ => by rw [e]; exact hc2) ?_ ?_⟩
      · rintro j x σ H3 hx ⟨rfl, y6', rfl⟩
        obtain ⟨b, hb', rfl⟩ : ∃ b, bs[j]? = some b ∧ V.int b = x := by
          rw [List.getElem?_map] at hx
          exact Option.map_eq_some_iff.mp hx
        rw [take_more hb', cdEnd_snoc, stF_snoc, List.length_append]
        have fin : ∀ v u, v = optN (cdStep (laOf is) (cdEnd (laOf is) (some i) (bs.take j)) b) → u = natV ((stF (laOf is) 0 (some i) (bs.take j)).length + (if cdEnd (laOf is) (some i) (bs.take j) = some 0 ∧ 0 < laOf is b then [0 + (bs.take j).length] else []).length) → H3 = H3 ∧
            ∃ y6, [some (V.ref t), some (V.ref c), some (V.ref D), some (V.int (i : Int)), some v, some u, some (V.int b)] = [some (V.ref t), some (V.ref c), some (V.ref D), some (V.int (i : Int)), some (optN (cdStep (laOf is) (cdEnd (laOf is) (some i) (bs.take j)) b)), some (natV ((stF (laOf is) 0 (some i) (bs.take j)).length + (if cdEnd (laOf is) (some i) (bs.take j) = some 0 ∧ 0 < laOf is b then [0 + (bs.take j).length] else []).length)), y6] := by
          rintro v u rfl rfl
          exact ⟨rfl, _, rfl⟩
        generalize (stF (laOf is) 0 (some i) (bs.take j)).length = n0 at *
        generalize 0 + (bs.take j).length = k0 at *
        generalize cdEnd (laOf is) (some i) (bs.take j) = st at *
        cases st with
        | none =>
          refine ⟨_, rfl, rfl, _, rfl, ?_⟩
          rw [decide_eq_false (by intro z; cases z)]
          refine iteF ⟨_, rfl, rfl, _, rfl, iteF ?_⟩
          refine fin _ _ rfl ?_
          rw [if_neg (by rintro ⟨z, _⟩; cases z)]
          rfl
        | some n =>
          cases n with
          | zero =>
            refine ⟨_, rfl, rfl, _, rfl, ?_⟩
            rw [decide_eq_true (show optN (some 0) = V.int 0 from rfl)]
            refine iteT ⟨_, rfl, _, rfl, t, it, cnt, lg, is, rs, b, rfl, Tb2, ?_⟩
            refine ⟨_, rfl, _, rfl, _, _, rfl, rfl, .inr ⟨_, rfl, _, _, rfl, rfl, ?_⟩⟩
            refine ⟨_, rfl, _, _, rfl, rfl, _, rfl, ?_⟩
            by_cases h : (0 : Int) < (laOf is b : Int)
            · rw [decide_eq_true h]
              refine iteT ⟨_, rfl, _, _, rfl, ?_⟩
              refine ⟨_, rfl, rfl, _, rfl, iteT ⟨_, rfl, _, _, rfl, rfl, ?_⟩⟩
              refine fin _ _ ?_ ?_
              · show V.int ((laOf is b : Int) - 1) = optN (if laOf is b = 0 then none else some (laOf is b - 1))
                rw [if_neg (by omega)]
                show _ = V.int ((laOf is b - 1 : Nat) : Int)
                rw [show (((laOf is b - 1 : Nat)) : Int) = (laOf is b : Int) - 1 by omega]
              · show V.int ((n0 : Int) + 1) = _
                rw [if_pos (show (some 0 : Option Nat) = some 0 ∧ 0 < laOf is b from ⟨rfl, by omega⟩)]
                rfl
            · rw [decide_eq_false h]
              refine iteF ⟨_, _, rfl, ?_⟩
              refine ⟨_, rfl, rfl, _, rfl, iteF ?_⟩
              refine fin _ _ ?_ ?_
              · show V.non = optN (if laOf is b = 0 then none else some (laOf is b - 1))
                rw [if_pos (by omega)]
                rfl
              · show V.int ((n0 : Int) + 0) = _
                rw [if_neg (show ¬ ((some 0 : Option Nat) = some 0 ∧ 0 < laOf is b) by rintro ⟨_, z⟩; omega)]
                show V.int ((n0 : Int) + 0) = V.int ((n0 + 0 : Nat) : Int)
                rw [Int.add_zero, Nat.add_zero]
          | succ n =>
            refine ⟨_, rfl, rfl, _, rfl, ?_⟩
            rw [decide_eq_false (fun z => by have := V.int.inj z; omega)]
            refine iteF ⟨_, rfl, rfl, _, rfl, iteT ⟨_, rfl, _, _, rfl, rfl, ?_⟩⟩
            refine fin _ _ ?_ ?_
            · show V.int (((n + 1 : Nat) : Int) - 1) = V.int (n : Int)
              rw [show ((n + 1 : Nat) : Int) - 1 = (n : Int) by omega]
            · rw [if_neg (by rintro ⟨z, _⟩; cases z)]
              rfl
      · rintro σ H3 ⟨rfl, y6', rfl⟩
        rw [List.length_map, List.take_length]
        refine ⟨_, rfl, .inl ⟨rfl, _, SqL.of mk.at_⟩, _, rfl, _, rfl, by show 2 ≤ sizeLine; decide, fun r nr => ?_⟩
        have s3 := same_upd (o := HO.tup [optN (cdEnd (laOf is) (some i) bs), natV (stF (laOf is) 0 (some i) bs).length]) nr
        refine ⟨D, _, _, rfl, rfl, s3 _ _ mk.at_, by rw [List.length_map, sizeLine_eq]; omega, ⟨ps ++ [r], ?_, ?_⟩, _, _, _, _, rfl⟩
        · rw [List.map_append]; exact mk.put s3
        · have hm : (mapOf (laOf is) (lonOf is) bs)[i]? = some (cdEnd (laOf is) (some i) bs, (stF (laOf is) 0 (some i) bs).length) := by
            unfold mapOf
            rw [List.getElem?_map, List.getElem?_range hi]
            rfl
          rw [take_more hm]
          exact ((pr.same s3).more upd_same).but (D := D) (fun b o e n => by rw [upd_ne n]; exact e) (s3 _ _ mk.at_)
    · rintro σ H2 ⟨⟨ps, mk, pr⟩, y3, y4, y5, y6, rfl⟩
      rw [List.take_of_length_le (by unfold mapOf; rw [List.length_map, List.length_range]; exact Nat.le_refl _)] at pr
      refine ⟨_, rfl, D, _, rfl, .inl ⟨SqL.of mk.at_, fun r nr => ?_⟩⟩
      have s3 := same_upd (o := HO.tup (ps.map V.ref)) nr
      exact q _ r (mk.same.trans s3) (mk.same.free nr) ⟨ps, upd_same, pr.same s3⟩
end
end Ov
namespace Ov
open PySem PySem.Spec PyProof.Rows L2
theorem mapOf_eq (la : Int → Nat) (L : Nat) (bs : List Int) : mapOf la L bs = mapOf' la L bs := rfl
theorem idMap_eq (ms : List PM) (L : Nat) : idMap L = repM ms L 0 := rfl
theorem lon_ge {is : List I4} (b : Int) : laOf is b ≤ lonOf is := by
  unfold laOf
  cases e : is.find? (fun x => decide ((x.op : Int) = b)) with
  | none => exact Nat.zero_le _
  | some x => exact (fmax_ge (is.map I4.ln) 0).2 x.ln (List.mem_map.mpr ⟨x, List.mem_of_find?_eq_some e, rfl⟩)
theorem MapAt.pair {H : Hp} {r : Addr} {ms : List PM} (h : MapAt H r ms) : ∃ ps : List Addr, H r = some (.tup (ps.map V.ref)) ∧ ps.length = ms.length ∧ ∀ (c : Nat) (m : PM), ms[c]? = some m → ∃ a : Addr, (ps.map V.ref)[c]? = some (V.ref a) ∧ H a = some (.tup (pairV m)) := by
  obtain ⟨ps, h1, h2⟩ := h
  refine ⟨ps, h1, h2.1, fun c m hm => ?_⟩
  have hc : c < ps.length := by rw [h2.1]; exact (List.getElem?_eq_some_iff.mp hm).1
  exact ⟨ps[c], by rw [List.getElem?_map, List.getElem?_eq_getElem hc]; rfl, h2.2 c _ m (List.getElem?_eq_getElem hc) hm⟩
section
variable {P : Program} {w : World} {K : PySem.W.Frag} {mg : Str → Option Value} {base : Heap}
/-! ### continued -/
def spCont : Sp := fun vs H Q _ => ∃ (a s2 : Addr) (m : PM) (ms : List PM) (L : Nat), vs = [.ref a, .ref s2] ∧ H a = some (.tup (pairV m)) ∧ MapAt H s2 ms ∧ Wf L ms ∧ WfP L m ∧ ∀ H' r, Same H H' → H' r = some (.tup (pairV (contP ms m))) → Q (.ref r) H'
theorem scCont : FnScope ["pair", "second", "countdown", "begun", "behind", "more"] ["pair", "second"] (defScope sCont) := ⟨rfl, rfl, rfl, by decide +kernel, rfl, by decide +kernel, by decide +kernel⟩
theorem ok_cont {f : Addr} {fd : FuncData} {k : Nat} (F : Fun K "continued" "continued" sCont f fd) : FnOk P w K mg base CX0 (k + 1) f fd ["pair", "second"] spCont := by
  refine F.ok scCont (fun vs H Q E h => ?_) (fun cdv A' outer s H vs Q E hr h => ?_)
  · obtain ⟨a, s2, m, ms, L, rfl, _⟩ := h
    rfl
  · obtain ⟨a, s2, m, ms, L, rfl, ha, M, wf, wp, q⟩ := h
    refine ⟨_, pss_cons (ps_asg (pv 0) (pg_tup rfl (pgs_cons (pg_name (i := 2) scCont.nd rfl (.inl rfl)) (pgs_cons (pg_name (i := 3) scCont.nd rfl (.inl rfl)) pgs_nil))))
      (pss_cons (ps_if (pt_cmpR op_isN (pv 2) pe_non (nomark _)) (pss_one (ps_ret (pv 0))) pss_nil)
      (pss_cons (ps_asg (pe_ix ix_tup (pv 1) (pv 2) (fun _ _ => rfl)) (pg_tup rfl (pgs_cons (pg_name (i := 4) scCont.nd rfl (.inl rfl)) (pgs_cons (pg_name (i := 5) scCont.nd rfl (.inl rfl)) pgs_nil))))
      (pss_one (ps_ret (pe_tup (pa_cons (pv 4) (pa_cons (pe_op op_add (pv 3) (pv 5)) pa_nil))))))), ?_⟩
    refine ⟨_, rfl, a, _, rfl, SqT.of ha, rfl, _, _, rfl, _, _, rfl, rfl, ?_⟩
    rcases m with ⟨_ | c, n⟩
    · exact ⟨_, rfl, rfl, _, rfl, iteT ⟨_, rfl, q H a (Same.refl _) ha⟩⟩
    · refine ⟨_, rfl, rfl, _, rfl, iteF ?_⟩
      have hm := wf.at (wp c rfl)
      obtain ⟨ps, h1, h2, h3⟩ := M.pair
      obtain ⟨b, hb, hpb⟩ := h3 c _ hm
      refine ⟨_, rfl, _, rfl, s2, _, _, _, rfl, rfl, SqT.of h1, atI_nat hb, ?_⟩
      refine ⟨b, _, rfl, SqT.of hpb, rfl, _, _, rfl, _, _, rfl, rfl, ?_⟩
      exact ⟨_, rfl, _, rfl, _, rfl, _, _, rfl, rfl, by show 2 ≤ sizeLine; decide, fun r nr => q _ r (same_upd nr) upd_same⟩
/-! ### compose_maps -/
def spComp : Sp := fun vs H Q _ => ∃ (f1 s2 : Addr) (fs ms : List PM) (L : Nat), vs = [.ref f1, .ref s2] ∧ MapAt H f1 fs ∧ MapAt H s2 ms ∧ Wf L fs ∧ Wf L ms ∧ L ≤ 100 ∧ ∀ H' r, Same H H' → H r = none → MapAt H' r (compM fs ms) → Q (.ref r) H'
theorem scComp : FnScope ["first", "second", "pair"] ["first", "second"] (defScope sCompose) := ⟨rfl, rfl, rfl, by decide +kernel, rfl, by decide +kernel, by decide +kernel⟩
theorem ok_comp {f fC : Addr} {fd fdC : FuncData} {k : Nat} (F : Fun K "compose_maps" "compose_maps" sCompose f fd) (T : Bi mg) (Cn : Def K mg "continued" sCont fC fdC ["pair", "second"]) (GC : FnOk P w K mg base CX0 k fC fdC ["pair", "second"] spCont) :
    FnOk P w K mg base CX0 (k + 1) f fd ["first", "second"] spComp := by
  refine F.ok scComp (fun vs H Q E h => ?_) (fun cdv A' outer s H vs Q E hr h => ?_)
  · obtain ⟨f1, s2, fs, ms, L, rfl, _⟩ := h
    rfl
  · obtain ⟨f1, s2, fs, ms, L, rfl, M1, M2, w1, w2, hL, q⟩ := h
    refine ⟨_, pss_one (ps_ret (pe_callTy call_tuple_of (by rfl) T.tuple (by decide +kernel) (pa_cons (pe_lc (own := [("pair", 2)]) (g := gName 2) (tt := tYes) (by rfl) scComp.nd (pi_tup (pv 0))
          (blkOk_by (own := [("pair", 2)]) (N := ["first", "second", "pair"]) (sc := defScope sCompose) (by decide +kernel))
          (fun _ _ _ _ _ => pg_name (i := 2) scComp.nd rfl (Or.inl rfl)) (fun _ _ _ _ _ => pts_nil)
          (fun _ _ _ _ _ => pe_call GC hr (by rfl) Cn.gl Cn.fn.kp Cn.bi .nil pass0 (pa_cons (pv 2) (pa_cons (pv 1) pa_nil)))) pa_nil))), ?_⟩
    obtain ⟨ps, h1, h2⟩ := M1
    have pl : ps.length = L := by rw [h2.1, w1.1]
    refine ⟨_, rfl, f1, rfl, ⟨_, SqT.of h1⟩, fun D nD => lc_tup (K := K) (a := f1) (xs := ps.map V.ref) (fun i H2 => ∃ qs, Mk H H2 D (qs.map V.ref) ∧ Pairs H2 qs ((compM fs ms).take i)) ⟨[], .start nD, Pairs.nil⟩ (fun i H2 _ ⟨_, mk, _⟩ => mk.same.tup (SqT.of h1)) ?_ ?_⟩
    · rintro i x H2 hx ⟨qs, mk, pr⟩
      rw [List.getElem?_map] at hx
      obtain ⟨a, ha, rfl⟩ := Option.map_eq_some_iff.mp hx
      have hi := (List.getElem?_eq_some_iff.mp ha).1
      have hm : fs[i]? = some (fs[i]'(by rw [w1.1]; omega)) := List.getElem?_eq_getElem _
      have ql : qs.length ≤ 100 := by rw [pr.1, List.length_take]; omega
      refine ⟨rfl, _, rfl, _, rfl, a, s2, _, ms, L, rfl, mk.same _ _ (h2.2 i a _ ha hm), M2.same mk.same, w2, w1.2 _ (List.mem_of_getElem? hm), fun H3 r s3 hr3 => ?_⟩
      refine ⟨_, s3 _ _ mk.at_, by rw [List.length_map, sizeLine_eq]; omega, qs ++ [r], ?_, ?_⟩
      · rw [List.map_append]; exact mk.put s3
      · have hm2 : (compM fs ms)[i]? = some (contP ms (fs[i]'(by rw [w1.1]; omega))) := by unfold compM; rw [List.getElem?_map, hm]; rfl
        rw [take_more hm2]
        exact ((pr.same s3).more hr3).but (D := D) (fun b o e n => by rw [upd_ne n]; exact e) (s3 _ _ mk.at_)
    rintro H2 ⟨qs, mk, pr⟩
    rw [List.length_map, List.take_of_length_le (by unfold compM; rw [List.length_map, w1.1]; omega)] at pr
    refine ⟨D, _, rfl, .inl ⟨SqL.of mk.at_, fun r nr => ?_⟩⟩
    have s3 := same_upd (o := HO.tup (qs.map V.ref)) nr
    exact q _ r (mk.same.trans s3) (mk.same.free nr) ⟨qs, upd_same, pr.same s3⟩
/-! ### repeat_map -/
def spRep : Sp := fun vs H Q _ => ∃ (f1 : Addr) (ms : List PM) (L n : Nat), vs = [.ref f1, .int (n : Int)] ∧ MapAt H f1 ms ∧ Wf L ms ∧ L ≤ 100 ∧ ∀ H' r, Same H H' → MapAt H' r (repM ms L n) → Q (.ref r) H'
theorem scRep : FnScope ["summary", "times", "repeated", "doubled", "left"] ["summary", "times"] (defScope sRepeat) := ⟨rfl, rfl, rfl, by decide +kernel, rfl, by decide +kernel, by decide +kernel⟩
def leftOf (σ : L2.St) : Nat := match σ with
  | [_, _, _, _, some (.int o)] => o.toNat
  | _ => 0
theorem ok_rep {f fC fU : Addr} {fd fdC fdU : FuncData} {k : Nat} (F : Fun K "repeat_map" "repeat_map" sRepeat f fd) (T : Bi mg) (U : Def K mg "unchanged" sUnch fU fdU ["count"]) (GU : FnOk P w K mg base CX0 k fU fdU ["count"] spUnch)
    (Cm : Def K mg "compose_maps" sCompose fC fdC ["first", "second"]) (GC : FnOk P w K mg base CX0 k fC fdC ["first", "second"] spComp) :
    FnOk P w K mg base CX0 (k + 1) f fd ["summary", "times"] spRep := by
  refine F.ok scRep (fun vs H Q E h => ?_) (fun cdv A' outer s H vs Q E hr h => ?_)
  · obtain ⟨f1, ms, L, n, rfl, _⟩ := h
    rfl
  · obtain ⟨f1, ms, L, n, rfl, M, wf, hL, q⟩ := h
    refine ⟨_, pss_cons (ps_set (i := 2) scRep.nd rfl (.inl rfl) (pe_call GU hr (by rfl) U.gl U.fn.kp U.bi .nil pass0 (pa_cons (pe_callB call_len_seq (by rfl) T.len PySem.boot_len (pa_cons (pv 0) pa_nil)) pa_nil)))
      (pss_cons (ps_set (i := 3) scRep.nd rfl (.inl rfl) (pv 0))
      (pss_cons (ps_set (i := 4) scRep.nd rfl (.inl rfl) (pv 1))
      (pss_cons (ps_while PassesOwn.never (pt_cmpR op_gt (pv 4) pe_int (nomark _))
        (C8.pss_cut (ps_if (pt_cmpR op_eq (pe_op op_mod (pv 4) pe_int) pe_int (nomark _)) (pss_one (ps_set (i := 2) scRep.nd rfl (.inl rfl) (pe_call GC hr (by rfl) Cm.gl Cm.fn.kp Cm.bi .nil pass0 (pa_cons (pv 2) (pa_cons (pv 3) pa_nil))))) pss_nil)
        (pss_cons (ps_set (i := 3) scRep.nd rfl (.inl rfl) (pe_call GC hr (by rfl) Cm.gl Cm.fn.kp Cm.bi .nil pass0 (pa_cons (pv 3) (pa_cons (pv 3) pa_nil))))
        (pss_one (ps_aug (i := 4) scRep.nd rfl (.inl rfl) pe_int iop_fdiv)))))
      (pss_one (ps_ret (pv 2)))))), ?_⟩
    obtain ⟨ps, h1, h2⟩ := M
    have M : MapAt H f1 ms := ⟨ps, h1, h2⟩
    have pl : (ps.map V.ref).length = L := by rw [List.length_map, h2.1, wf.1]
    refine ⟨_, rfl, f1, _, rfl, .inr (SqT.of h1), (ps.map V.ref).length, rfl, by rw [pl]; exact hL, fun H1 r1 s1 nr1 M1 => ?_⟩
    rw [pl, idMap_eq ms] at M1
    refine ⟨_, rfl, _, rfl, ?_⟩
    refine while_by (fun σ H2 => ∃ (ra da : Addr) (a b l : Nat), σ = [some (.ref f1), some (.int (n : Int)), some (.ref ra), some (.ref da), some (.int (l : Int))] ∧ Same H H2 ∧ MapAt H2 ra (repM ms L a) ∧ MapAt H2 da (repM ms L b) ∧ a + b * l = n) (fun σ _ => leftOf σ)
      ⟨r1, f1, 0, 1, n, rfl, s1, M1, by rw [rep_one wf]; exact M.same s1, by omega⟩ ?_ ?_
    · rintro σ H2 ⟨ra, da, a, b, l, rfl, s2, Ma, Mb, e⟩
      refine ⟨_, rfl, _, _, rfl, rfl, _, rfl, ?_⟩
      by_cases hl : (0 : Int) < (l : Int)
      · rw [decide_eq_true hl]
        refine iteT ⟨fun σ H3 => ∃ (ra : Addr) (a' : Nat), σ = [some (.ref f1), some (.int (n : Int)), some (.ref ra), some (.ref da), some (.int (l : Int))] ∧ Same H H3 ∧ MapAt H3 ra (repM ms L a') ∧ MapAt H3 da (repM ms L b) ∧ a' + (b + b) * (l / 2) = n, ?_, ?_⟩
        · refine ⟨_, rfl, _, _, rfl, rfl, (show (0 : Int) < 2 by decide), rfl, _, rfl, ?_⟩
          have md : (l : Int) % 2 = ((l % 2 : Nat) : Int) := by omega
          by_cases hp : l % 2 = 1
          · rw [decide_eq_true (show V.int ((l : Int) % 2) = V.int 1 by rw [md, hp]; rfl)]
            refine iteT ⟨_, rfl, _, rfl, ra, da, _, _, L, rfl, Ma, Mb, rep_wf wf a, rep_wf wf b, hL, fun H3 r3 s3 nr3 M3 => ?_⟩
            rw [comp_rep wf] at M3
            refine ⟨r3, a + b, rfl, s2.trans s3, M3, Mb.same s3, ?_⟩
            have l2 : l = 2 * (l / 2) + 1 := by omega
            generalize l / 2 = h at *
            subst l2
            rw [Nat.mul_add, Nat.mul_one, ← Nat.mul_assoc] at e
            rw [Nat.add_mul]
            have : b * 2 * h = b * h + b * h := by rw [Nat.mul_assoc, Nat.mul_comm 2 h, ← Nat.mul_assoc, Nat.mul_two]
            omega
          · rw [decide_eq_false (fun z => hp (by have : (l : Int) % 2 = 1 := V.int.inj z; omega))]
            refine iteF ⟨ra, a, rfl, s2, Ma, Mb, ?_⟩
            have l2 : l = 2 * (l / 2) := by omega
            generalize l / 2 = h at *
            subst l2
            rw [← Nat.mul_assoc] at e
            rw [Nat.add_mul]
            have : b * 2 * h = b * h + b * h := by rw [Nat.mul_assoc, Nat.mul_comm 2 h, ← Nat.mul_assoc, Nat.mul_two]
            omega
        · rintro σ H3 ⟨ra', a', rfl, s3, Ma', Mb', e'⟩
          refine ⟨_, rfl, _, rfl, da, da, _, _, L, rfl, Mb', Mb', rep_wf wf b, rep_wf wf b, hL, fun H4 r4 s4 nr4 M4 => ?_⟩
          rw [comp_rep wf] at M4
          refine ⟨_, rfl, _, _, rfl, rfl, ⟨by decide, by decide⟩, ⟨ra', r4, a', b + b, l / 2, ?_, s3.trans s4, Ma'.same s4, M4, e'⟩, ?_⟩
          · show [_, _, _, _, some (V.int ((l : Int) / 2))] = _
            rw [show (l : Int) / 2 = ((l / 2 : Nat) : Int) by omega]
          · show ((l : Int) / 2).toNat < ((l : Int)).toNat
            omega
      · rw [decide_eq_false hl]
        have l0 : l = 0 := by omega
        subst l0
        rw [Nat.mul_zero, Nat.add_zero] at e
        subst e
        exact iteF ⟨_, rfl, q H2 ra s2 Ma⟩
    · rintro σ H2 Q1 Q2 hQ ⟨v, h1, i, j, h2, h3, b, h4, h5⟩
      exact ⟨v, h1, i, j, h2, h3, b, h4, hQ _ _ h5⟩
end
end Ov
namespace Ov
open PySem PySem.Spec PyProof.Rows L2
theorem nodup_len : ∀ (L : Nat) (hs : List Nat), hs.Nodup → (∀ h ∈ hs, h < L) → hs.length ≤ L
  | 0, [], _, _ => Nat.le_refl _
  | 0, h :: _, _, b => absurd (b h List.mem_cons_self) (Nat.not_lt_zero _)
  | L + 1, hs, nd, b => by
    have ih := nodup_len L (hs.erase L) (nd.erase L) fun h hh => by
      have z := (nd.mem_erase_iff).mp hh
      have := b h z.2
      have := z.1
      omega
    by_cases m : L ∈ hs
    · rw [List.length_erase_of_mem m] at ih
      omega
    · rw [List.erase_of_not_mem m] at ih
      omega
theorem jump {ms : List PM} {f h c count t turn : Nat} (h1 : itM ms t (some f, 0) = (some h, c)) (h2 : itM ms turn (some f, 0) = (some h, count)) (lt : t < turn) (k : Nat) : c ≤ count ∧ itM ms (turn + k * (turn - t)) (some f, 0) = (some h, count + k * (count - c)) := by
  have e : itM ms (turn - t) (some h, c) = (some h, count) := by rw [← h1, ← itM_add, show t + (turn - t) = turn by omega, h2]
  have s := it_shift ms (turn - t) (some h) c 0
  rw [Nat.add_zero, e] at s
  have e1 : some h = (itM ms (turn - t) (some h, 0)).1 := congrArg Prod.fst s
  have e2 : count = c + (itM ms (turn - t) (some h, 0)).2 := congrArg Prod.snd s
  refine ⟨by omega, ?_⟩
  have z : itM ms (turn - t) (some h, 0) = (some h, count - c) := by
    refine Prod.ext e1.symm ?_
    show (itM ms (turn - t) (some h, 0)).2 = count - c
    omega
  rw [itM_add, h2]
  exact cyc z k count
/-- what is known of a walk: where it was, and when -/
structure Known (ms : List PM) (f L : Nat) (H : Hp) (kn : Addr) (kvs : List (Key × V)) (turn : Nat) : Prop where
  at_ : H kn = some (.dK kvs)
  keys : ∃ hs : List Nat, kvs.map (·.1) = hs.map (fun h : Nat => (Sum.inl (h : Int) : Key)) ∧ hs.Nodup ∧ ∀ h ∈ hs, h < L
  val : ∀ (h : Nat) (v : V), valV kvs (Sum.inl (h : Int) : Key) = some v → ∃ (a : Addr) (t c : Nat), v = .ref a ∧ H a = some (.tup [natV t, natV c]) ∧ t < turn ∧ itM ms t (some f, 0) = (some h, c)
theorem Known.new {ms : List PM} {f L : Nat} {H : Hp} {kn : Addr} {turn : Nat} (h : H kn = some (.dK [])) : Known ms f L H kn [] turn := ⟨h, ⟨[], rfl, List.nodup_nil, fun _ z => nomatch z⟩, fun h v e => by cases e⟩
theorem Known.few {ms : List PM} {f L : Nat} {H : Hp} {kn : Addr} {kvs : List (Key × V)} {turn : Nat} (h : Known ms f L H kn kvs turn) : kvs.length ≤ L := by
  obtain ⟨hs, e, nd, b⟩ := h.keys
  have : kvs.length = hs.length := by rw [← List.length_map (f := (·.1)) (as := kvs), e, List.length_map]
  rw [this]
  exact nodup_len L hs nd b
theorem not_key {kvs : List (Key × V)} {k : Key} (h : valV kvs k = none) : k ∉ kvs.map (·.1) := fun z => by
  unfold valV at h
  rw [Option.map_eq_none_iff, List.find?_eq_none] at h
  obtain ⟨kv, hm, e⟩ := List.mem_map.mp z
  exact h kv hm (decide_eq_true e)
theorem valV_snoc {kvs : List (Key × V)} {k k' : Key} {v w : V} (h : valV (kvs ++ [(k, v)]) k' = some w) : valV kvs k' = some w ∨ (k = k' ∧ v = w) := by
  unfold valV at h ⊢
  rw [List.find?_append] at h
  cases e : kvs.find? (fun kv => decide (kv.1 = k')) with
  | some z => rw [e] at h; exact .inl h
  | none =>
    rw [e, Option.none_or, List.find?_cons] at h
    by_cases c : k = k'
    · rw [decide_eq_true c] at h
      exact .inr ⟨c, Option.some.inj h⟩
    · rw [decide_eq_false c] at h
      cases h
def turnOf (n : Nat) (σ : L2.St) : Nat := match σ with
  | [_, _, _, _, _, _, some (.int t), _, _, _, _] => n - t.toNat
  | _ => 0
section
variable {P : Program} {w : World} {K : PySem.W.Frag} {mg : Str → Option Value} {base : Heap}
/-! ### _law_powered -/
def spPow : Sp := fun vs H Q _ => ∃ (wa : Addr) (ms : List PM) (L n : Nat), vs = [.ref wa, .int (n : Int)] ∧ MapAt H wa ms ∧ Wf L ms ∧ L ≤ 100 ∧ (∀ m ∈ ms, m.2 ≤ 100) ∧ n ≤ 2 ^ 100 ∧ ∀ H' r, Same H H' → MapAt H' r (repM ms L n) → Q (.ref r) H'
theorem scPow : FnScope ["_law_whole", "_law_times", "_law_found", "_law_first", "_law_here", "_law_count", "_law_turn", "_law_known", "_law_size", "_law_more", "_law_many"] ["_law_whole", "_law_times"] (defScope s_law_powered) := ⟨rfl, rfl, rfl, by decide +kernel, rfl, by decide +kernel, by decide +kernel⟩
theorem ok_pow {f : Addr} {fd : FuncData} {k : Nat} (F : Fun K "_law_powered" "_law_powered" s_law_powered f fd) (T : Bi mg) : FnOk P w K mg base CX0 (k + 1) f fd ["_law_whole", "_law_times"] spPow := by
  refine F.ok scPow (fun vs H Q E h => ?_) (fun cdv A' outer s H vs Q E hr h => ?_)
  · obtain ⟨wa, ms, L, n, rfl, _⟩ := h
    rfl
  · obtain ⟨wa, ms, L, n, rfl, M, wf, hL, hB, hn, q⟩ := h
    refine ⟨_, pss_cons (ps_set (i := 2) scPow.nd rfl (.inl rfl) (pe_lst pa_nil))
      (pss_cons (ps_for PassesOwn.never rfl (pi_range1 (by rfl) T.range (pa_cons (pe_callB call_len_seq (by rfl) T.len PySem.boot_len (pa_cons (pv 0) pa_nil)) pa_nil)) (pg_name (i := 3) scPow.nd rfl (.inl rfl))
        (pss_cons (ps_asg (pe_tup (pa_cons (pv 3) (pa_cons pe_int (pa_cons pe_int (pa_cons pe_dnewK pa_nil))))) (pg_tup rfl (pgs_cons (pg_name (i := 4) scPow.nd rfl (.inl rfl)) (pgs_cons (pg_name (i := 5) scPow.nd rfl (.inl rfl)) (pgs_cons (pg_name (i := 6) scPow.nd rfl (.inl rfl)) (pgs_cons (pg_name (i := 7) scPow.nd rfl (.inl rfl)) pgs_nil))))))
        (pss_cons (ps_while PassesOwn.never (PW.pt (pw_and (pt_cmpR op_lt (pv 6) (pv 1) (nomark _)) (pw_and1 (pt_cmpR op_notN (pv 4) pe_non (nomark _)))))
          (C8.pss_cut (ps_if (pt_cmp (pc_din (hu_of hr) (pv 4) (pv 7)))
            (pss_cons (ps_par (i := 8) (j := 9) (by rfl) scPow.nd rfl rfl (by decide) rfl rfl (pa_cons (pe_op op_sub (pv 6) (pe_ix ix_tup (pe_dget (hu_of hr) (pv 7) (pv 4) (fun _ _ => rfl)) pe_int (fun _ _ => rfl))) (pa_cons (pe_op op_sub (pv 5) (pe_ix ix_tup (pe_dget (hu_of hr) (pv 7) (pv 4) (fun _ _ => rfl)) pe_int (fun _ _ => rfl))) pa_nil)) (by rfl))
            (pss_cons (ps_set (i := 10) scPow.nd rfl (.inl rfl) (pe_op op_fdivW (pe_op op_sub (pv 1) (pv 6)) (pv 8)))
            (pss_cons (ps_par (i := 6) (j := 5) (by rfl) scPow.nd rfl rfl (by decide) rfl rfl (pa_cons (pe_op op_add (pv 6) (pe_op op_mulW (pv 10) (pv 8))) (pa_cons (pe_op op_add (pv 5) (pe_op op_mulW (pv 10) (pv 9))) pa_nil)) (by rfl))
            (pss_one (ps_set (i := 7) scPow.nd rfl (.inl rfl) pe_dnewK))))) pss_nil)
          (pss_one (ps_if (pt_cmpR op_lt (pv 6) (pv 1) (nomark _))
            (pss_cons (ps_dput (hu_of hr) (pv 7) (pv 4) (pe_tup (pa_cons (pv 6) (pa_cons (pv 5) pa_nil))) rfl)
            (pss_cons (ps_par (i := 5) (j := 6) (by rfl) scPow.nd rfl rfl (by decide) rfl rfl (pa_cons (pe_op op_add (pv 5) (pe_ix ix_tup (pe_ix ix_tup (pv 0) (pv 4) (fun _ _ => rfl)) pe_int (fun _ _ => rfl))) (pa_cons (pe_op op_add (pv 6) pe_int) pa_nil)) (by rfl))
            (pss_one (ps_set (i := 4) scPow.nd rfl (.inl rfl) (pe_ix ix_tup (pe_ix ix_tup (pv 0) (pv 4) (fun _ _ => rfl)) pe_int (fun _ _ => rfl)))))) pss_nil))))
        (pss_one (ps_expr (pe_bm PySem.F.plainAttrs_list PySem.F.slot_list_append PySem.F.type_list_append mt_append (pv 2) (pa_cons (pe_tup (pa_cons (pv 4) (pa_cons (pv 5) pa_nil))) pa_nil)))))))
      (pss_one (ps_ret (pe_callTy call_tuple_of (by rfl) T.tuple (by decide +kernel) (pa_cons (pv 2) pa_nil))))), ?_⟩
    obtain ⟨ps, h1, h2⟩ := M
    have M : MapAt H wa ms := ⟨ps, h1, h2⟩
    have pl : (ps.map V.ref).length = L := by rw [List.length_map, h2.1, wf.1]
    have i0 : ∀ x y : V, atI [x, y] 0 = some x := fun x y => atI_nat (j := 0) rfl
    have i1 : ∀ x y : V, atI [x, y] 1 = some y := fun x y => atI_nat (j := 1) rfl
    refine ⟨Nat.zero_le _, fun D nD => ?_⟩
    have sD := same_upd (o := HO.lst []) nD
    have hD : upd H D (HO.lst []) D = some (.lst []) := upd_same
    generalize upd H D (HO.lst []) = H0 at *
    refine ⟨_, rfl, wa, _, rfl, .inr (SqT.of (sD _ _ h1)), _, rfl, by rw [pl]; omega, by rw [pl]; omega, for_range (lo := 0) (fun j σ H2 => (∃ qs, Mk H H2 D (qs.map V.ref) ∧ Pairs H2 qs ((repM ms L n).take j)) ∧ ∃ y3 y4 y5 y6 y7 y8 y9 y10, σ = [some (.ref wa), some (.int (n : Int)), some (.ref D), y3, y4, y5, y6, y7, y8, y9, y10])
      ⟨⟨[], ⟨sD, nD, hD⟩, Pairs.nil⟩, _, _, _, _, _, _, _, _, rfl⟩ ?_ ?_⟩
    · rintro i σ H2 hi ⟨⟨qs, mk, pr⟩, y3, y4, y5, y6, y7, y8, y9, y10, rfl⟩
      rw [pl] at hi
      have hiL : i < L := by omega
      have ql : qs.length ≤ 100 := by rw [pr.1, List.length_take, rep_len]; omega
      have e0 : (0 : Int) + (i : Int) = (i : Int) := by omega
      rw [e0]
      refine ⟨_, rfl, fun kn nkn => ⟨by show 4 ≤ sizeLine; decide, fun tp ntp => ⟨tp, _, rfl, SqT.of upd_same, rfl, _, _, rfl, _, _, rfl, _, _, rfl, _, _, rfl, rfl, ?_⟩⟩⟩
      have sk := same_upd (o := HO.dK []) nkn
      have st := same_upd (o := HO.tup [V.int (i : Int), V.int 0, V.int 0, V.ref kn]) ntp
      have K3 : Known ms i L (upd (upd H2 kn (HO.dK [])) tp (HO.tup [V.int (i : Int), V.int 0, V.int 0, V.ref kn])) kn [] 0 := Known.new (st _ _ upd_same)
      have s3 := sk.trans st
      generalize upd (upd H2 kn (HO.dK [])) tp (HO.tup [V.int (i : Int), V.int 0, V.int 0, V.ref kn]) = H3 at *
      -- what is put behind the others
      have tail : ∀ (hs : Option Nat) (count : Nat) (H4 : Hp), Same H2 H4 → itM ms n (some i, 0) = (hs, count) → ∀ r, H4 r = none → ∃ qs', Mk H (upd (upd H4 r (.tup [optN hs, .int (count : Int)])) D (.lst (qs.map V.ref ++ [.ref r]))) D (qs'.map V.ref) ∧ Pairs (upd (upd H4 r (.tup [optN hs, .int (count : Int)])) D (.lst (qs.map V.ref ++ [.ref r]))) qs' ((repM ms L n).take (i + 1)) := by
        intro hs count H4 s4 e r nr
        have sr := same_upd (o := HO.tup [optN hs, V.int (count : Int)]) nr
        have mk4 : Mk H H4 D (qs.map V.ref) := ⟨mk.same.trans s4, mk.new, s4 _ _ mk.at_⟩
        refine ⟨qs ++ [r], ?_, ?_⟩
        · rw [List.map_append]; exact mk4.put sr
        · rw [take_more (rep_at hiL), e]
          exact (((pr.same s4).same sr).more upd_same).but (D := D) (fun b o e n => by rw [upd_ne n]; exact e) (sr _ _ mk4.at_)
      refine while_by (fun σ H4 => ∃ (hs : Option Nat) (count turn : Nat) (kn : Addr) (kvs : List (Key × V)) (y8 y9 y10 : Option V), σ = [some (.ref wa), some (.int (n : Int)), some (.ref D), some (.int (i : Int)), some (optN hs), some (.int (count : Int)), some (.int (turn : Int)), some (.ref kn), y8, y9, y10] ∧ Same H2 H4 ∧ H2 kn = none ∧ turn ≤ n ∧ itM ms turn (some i, 0) = (hs, count) ∧ Known ms i L H4 kn kvs turn) (fun σ _ => turnOf n σ)
        ⟨some i, 0, 0, kn, [], _, _, _, rfl, s3, nkn, Nat.zero_le _, rfl, K3⟩ ?_ ?_
      · rintro σ H4 ⟨hs, count, turn, kn, kvs, y8, y9, y10, rfl, s4, nk, ht, hit, Kn⟩
        have D4 := s4 _ _ mk.at_
        refine ⟨_, rfl, _, rfl, _, _, rfl, rfl, _, rfl, ?_⟩
        by_cases h1' : (turn : Int) < (n : Int)
        · rw [decide_eq_true h1']
          refine iteT ⟨_, rfl, rfl, _, rfl, ?_⟩
          cases hs with
          | none =>
            refine iteF ⟨_, rfl, .inl ⟨rfl, _, SqL.of D4⟩, _, rfl, _, rfl, by show 2 ≤ sizeLine; decide, fun r nr => ⟨D, _, _, rfl, rfl, (same_upd nr) _ _ D4, by rw [List.length_map, sizeLine_eq]; omega, tail none count H4 s4 (by rw [show n = turn + (n - turn) by omega, itM_add, hit, itM_none]) r nr, _, _, _, _, _, _, _, _, rfl⟩⟩
          | some h =>
            have hh : h < L := wf.it turn (p := (some i, 0)) (fun c e => by have : i = c := Option.some.inj e; omega) h (by rw [hit])
            have cb : count ≤ turn * 100 := by
              have z := it_bound hB turn (some i, 0)
              rw [hit] at z
              show count ≤ _
              have z' : count ≤ 0 + turn * 100 := z
              omega
            refine iteT ⟨fun σ H5 => ∃ (count' turn' : Nat) (kn' : Addr) (kvs' : List (Key × V)) (y8 y9 y10 : Option V), σ = [some (.ref wa), some (.int (n : Int)), some (.ref D), some (.int (i : Int)), some (.int (h : Int)), some (.int (count' : Int)), some (.int (turn' : Int)), some (.ref kn'), y8, y9, y10] ∧ Same H2 H5 ∧ H2 kn' = none ∧ turn ≤ turn' ∧ turn' ≤ n ∧ itM ms turn' (some i, 0) = (some h, count') ∧ Known ms i L H5 kn' kvs' turn' ∧ valV kvs' (Sum.inl (h : Int) : Key) = none, ?_, ?_⟩
            · have dgk := DGet.k (k := (Sum.inl (h : Int) : Key)) Kn.at_
              refine ⟨_, rfl, _, rfl, kn, _, rfl, dgk, _, rfl, ?_⟩
              cases e : valV kvs (Sum.inl (h : Int) : Key) with
              | none => exact iteF ⟨count, turn, kn, kvs, _, _, _, rfl, s4, nk, Nat.le_refl _, ht, hit, Kn, e⟩
              | some v =>
                obtain ⟨a, t, c, rfl, ha, lt, htc⟩ := Kn.val h v e
                rw [e] at dgk
                obtain ⟨cc, jm⟩ := jump htc hit lt ((n - turn) / (turn - t))
                have es : (turn : Int) - (t : Int) = ((turn - t : Nat) : Int) := by omega
                have em : (count : Int) - (c : Int) = ((count - c : Nat) : Int) := by omega
                have en : (n : Int) - (turn : Int) = ((n - turn : Nat) : Int) := by omega
                refine iteT ⟨_, rfl, _, rfl, _, rfl, kn, _, rfl, dgk, a, _, _, _, rfl, rfl, SqT.of ha, i0 _ _, _, _, rfl, rfl, _, rfl, _, rfl, _, rfl, kn, _, rfl, dgk, a, _, _, _, rfl, rfl, SqT.of ha, i1 _ _, _, _, rfl, rfl, _, _, rfl, ?_⟩
                dsimp only
                rw [es, em]
                refine ⟨_, rfl, _, rfl, _, _, rfl, rfl, _, rfl, _, _, rfl, rfl, wide_div (b := 200) (by omega) (by omega) (by decide) (by decide), ?_⟩
                dsimp only
                rw [en, ← Int.natCast_ediv]
                have kb : (n - turn) / (turn - t) ≤ n := Nat.le_trans (Nat.div_le_self _ _) (by omega)
                have ks : (n - turn) / (turn - t) * (turn - t) ≤ n - turn := Nat.div_mul_le_self _ _
                generalize (n - turn) / (turn - t) = kk at *
                refine ⟨_, rfl, _, rfl, _, rfl, _, _, rfl, rfl, wide_mul (a := 200) (b := 200) (by omega) (by omega) (by decide) (by decide) (by decide), _, _, rfl, rfl, _, rfl, _, rfl, _, rfl, _, _, rfl, rfl, wide_mul (a := 200) (b := 200) (by omega) (by omega) (by decide) (by decide) (by decide), _, _, rfl, rfl, _, _, rfl, ?_⟩
                refine fun kn2 nkn2 => ⟨count + kk * (count - c), turn + kk * (turn - t), kn2, [], _, _, _, rfl, s4.trans (same_upd nkn2), s4.free nkn2, by omega, by omega, jm, Known.new upd_same, rfl⟩
            · rintro σ H5 ⟨count', turn', kn', kvs', y8', y9', y10', rfl, s5, nk', le, ht', hit', Kn', nv⟩
              refine ⟨_, rfl, _, rfl, _, _, rfl, rfl, _, rfl, ?_⟩
              by_cases h2' : (turn' : Int) < (n : Int)
              · rw [decide_eq_true h2']
                refine iteT ⟨_, rfl, _, rfl, by show 2 ≤ sizeLine; decide, fun tv ntv => ?_⟩
                have sv := same_upd (o := HO.tup [V.int (turn' : Int), V.int (count' : Int)]) ntv
                have few := Kn'.few
                refine ⟨_, rfl, _, rfl, kn', _, rfl, DPut.k (k := (Sum.inl (h : Int) : Key)) (sv _ _ Kn'.at_) (by rw [sizeLine_eq]; omega), ?_⟩
                rw [put_fresh (not_key nv)]
                have s6 : Same H2 (upd (upd H5 tv (HO.tup [V.int (turn' : Int), V.int (count' : Int)])) kn' (.dK (kvs' ++ [((Sum.inl (h : Int) : Key), V.ref tv)]))) := fun b o eb => by
                  rw [upd_ne (ne_of_none eb nk')]
                  exact sv _ _ (s5 _ _ eb)
                have K6 : Known ms i L (upd (upd H5 tv (HO.tup [V.int (turn' : Int), V.int (count' : Int)])) kn' (.dK (kvs' ++ [((Sum.inl (h : Int) : Key), V.ref tv)]))) kn' (kvs' ++ [((Sum.inl (h : Int) : Key), V.ref tv)]) (turn' + 1) := by
                  refine ⟨upd_same, ?_, fun h' v' ev => ?_⟩
                  · obtain ⟨ks, ek, nd, bd⟩ := Kn'.keys
                    refine ⟨ks ++ [h], by rw [List.map_append, List.map_append, ek]; rfl, ?_, fun x hx => ?_⟩
                    · have nk0 := not_key nv
                      rw [ek] at nk0
                      rw [List.nodup_append]
                      refine ⟨nd, (by simp), fun x hx y hy z => ?_⟩
                      rw [List.mem_singleton.mp hy] at z
                      exact nk0 (List.mem_map.mpr ⟨x, hx, by rw [z]⟩)
                    · rcases List.mem_append.mp hx with hx | hx
                      · exact bd x hx
                      · rw [List.mem_singleton.mp hx]; exact hh
                  · rcases valV_snoc ev with z | ⟨z1, z2⟩
                    · obtain ⟨a', t', c', e1, e2, e3, e4⟩ := Kn'.val h' v' z
                      refine ⟨a', t', c', e1, ?_, by omega, e4⟩
                      rw [upd_ne (fun w => by rw [w, Kn'.at_] at e2; cases e2)]
                      exact sv _ _ e2
                    · have eh : h = h' := by have := Sum.inl.inj z1; omega
                      subst eh
                      refine ⟨tv, turn', count', z2.symm, ?_, by omega, hit'⟩
                      rw [upd_ne (fun w => by rw [w, Kn'.at_] at ntv; cases ntv)]
                      exact upd_same
                generalize upd (upd H5 tv (HO.tup [V.int (turn' : Int), V.int (count' : Int)])) kn' (.dK (kvs' ++ [((Sum.inl (h : Int) : Key), V.ref tv)])) = H6 at *
                obtain ⟨qs', g1, g2, g3⟩ := (M.same (mk.same.trans s6)).pair
                obtain ⟨b, hb, hpb⟩ := g3 h _ (wf.at hh)
                refine ⟨_, rfl, _, rfl, _, rfl, wa, _, _, _, rfl, rfl, SqT.of g1, atI_nat hb, b, _, _, _, rfl, rfl, SqT.of hpb, i1 _ _, _, _, rfl, rfl, _, rfl, _, _, rfl, rfl, _, _, rfl, ?_⟩
                refine ⟨_, rfl, _, rfl, wa, _, _, _, rfl, rfl, SqT.of g1, atI_nat hb, b, _, _, _, rfl, rfl, SqT.of hpb, i0 _ _, ?_⟩
                refine ⟨⟨(ms.getD h (none, 0)).1, count' + (ms.getD h (none, 0)).2, turn' + 1, kn', _, _, _, _, rfl, s6, nk', by omega, ?_, K6⟩, ?_⟩
                · rw [itM_add, hit']
                  rfl
                · show n - ((turn' : Int) + 1).toNat < n - ((turn : Int)).toNat
                  omega
              · rw [decide_eq_false h2']
                refine iteF ⟨⟨some h, count', turn', kn', kvs', _, _, _, rfl, s5, nk', ht', hit', Kn'⟩, ?_⟩
                show n - ((turn' : Int)).toNat < n - ((turn : Int)).toNat
                omega
        · rw [decide_eq_false h1']
          have tn : turn = n := by omega
          subst tn
          refine iteF (iteF ⟨_, rfl, .inl ⟨rfl, _, SqL.of D4⟩, _, rfl, _, rfl, by show 2 ≤ sizeLine; decide, fun r nr => ⟨D, _, _, rfl, rfl, (same_upd nr) _ _ D4, by rw [List.length_map, sizeLine_eq]; omega, tail hs count H4 s4 hit r nr, _, _, _, _, _, _, _, _, rfl⟩⟩)
      · rintro σ H2' Q1 Q2 hQ ⟨v, e1, v2, e2, x1, x2, e3, e4, b, e5, h6⟩
        refine ⟨v, e1, v2, e2, x1, x2, e3, e4, b, e5, ?_⟩
        revert h6
        cases b with
        | false => exact fun h6 => hQ _ _ h6
        | true =>
          rintro ⟨w1, f1, f2, b2, f3, h7⟩
          exact ⟨w1, f1, f2, b2, f3, hQ _ _ h7⟩
    · rintro σ H2 ⟨⟨qs, mk, pr⟩, y3, y4, y5, y6, y7, y8, y9, y10, rfl⟩
      rw [List.take_of_length_le (by rw [rep_len, pl]; omega)] at pr
      refine ⟨_, rfl, D, _, rfl, .inl ⟨SqL.of mk.at_, fun r nr => ?_⟩⟩
      have s3 := same_upd (o := HO.tup (qs.map V.ref)) nr
      exact q _ r (mk.same.trans s3) ⟨qs, upd_same, pr.same s3⟩
end
end Ov
namespace Ov
open PySem PySem.Spec PyProof.Rows L2
/-! ### what is shown of maps with great numbers -/
theorem big_nat {n : Nat} (h : n ≤ 2 ^ 200) : ((n : Int)).natAbs < 2 ^ 1000 := by
  rw [Int.natAbs_natCast]
  exact Nat.lt_of_lt_of_le (show n < 2 ^ 201 by omega) (Nat.pow_le_pow_right (by decide) (by decide))
theorem pair_partsB {m : PM} (h : ∀ n, m.1 = some n → n ≤ 2 ^ 60) (h2 : m.2 ≤ 2 ^ 200) : (pairD m).showable = true ∧ (pairD m).hasDict = false ∧ (pairD m).depth = 1 ∧ nodes (pairD m) = 3 := by
  obtain ⟨p1, p2, p3, p4⟩ := opt_parts h
  have S := (shows_int (i := (m.2 : Int)) (big_nat h2)).sh
  simp only [PyData.showable] at S
  refine ⟨?_, ?_, ?_, ?_⟩
  · simp only [pairD, PyData.showable, PyData.showableAll]; rw [p1, S]; rfl
  · simp only [pairD, PyData.hasDict, PyData.hasDictAll]; rw [p2]; rfl
  · simp only [pairD, PyData.depth, PyData.depthAll]; rw [p3]; rfl
  · simp only [pairD, nodes, nodesAll]; rw [p4]
theorem pairs_showB : ∀ {ms : List PM}, (∀ m ∈ ms, (∀ n, m.1 = some n → n ≤ 2 ^ 60) ∧ m.2 ≤ 2 ^ 200) → ShowsAll (ms.map pairD) (3 * ms.length) ∧ PyData.hasDictAll (ms.map pairD) = false ∧ PyData.depthAll (ms.map pairD) ≤ 1
  | [], _ => ⟨⟨by simp [PyData.showableAll], fun z => by simp [PyData.hasDictAll] at z, by simp [PyData.depthAll], by simp [nodesAll]⟩, by simp [PyData.hasDictAll], by simp [PyData.depthAll]⟩
  | m :: ms, h => by
    obtain ⟨A, B, C⟩ := pairs_showB (ms := ms) (fun n hn => h n (List.mem_cons_of_mem _ hn))
    obtain ⟨p1, p2, p3, p4⟩ := pair_partsB (h m List.mem_cons_self).1 (h m List.mem_cons_self).2
    have e2 : PyData.hasDictAll ((m :: ms).map pairD) = false := by
      rw [List.map_cons]; simp only [PyData.hasDictAll]; rw [p2, B]; rfl
    have e3 : PyData.depthAll ((m :: ms).map pairD) ≤ 1 := by
      rw [List.map_cons]; simp only [PyData.depthAll]; rw [p3]; omega
    refine ⟨⟨?_, (fun z => by rw [e2] at z; cases z), by omega, ?_⟩, e2, e3⟩
    · rw [List.map_cons]; simp only [PyData.showableAll]; rw [p1, A.sh]; rfl
    · rw [List.map_cons, List.length_cons]
      simp only [nodesAll]
      have := A.nd
      omega
structure Sh (ms : List PM) : Prop where
  b : ∀ m ∈ ms, (∀ n, m.1 = some n → n ≤ 2 ^ 60) ∧ m.2 ≤ 2 ^ 200
  l : ms.length ≤ 100
theorem Sh.shows {ms : List PM} (h : Sh ms) : Shows (.tuple (ms.map pairD)) := (pairs_showB h.b).1.tup (by have := h.l; omega)
theorem Sh.two {ms : List PM} (h : Sh ms) : Shows (.list [.tuple (ms.map pairD), .tuple (ms.map pairD)]) := by
  obtain ⟨A, B, C⟩ := pairs_showB h.b
  have l := h.l
  have nd := A.nd
  refine ⟨?_, fun z => ?_, ?_, ?_⟩
  · simp only [PyData.showable, PyData.showableAll]; rw [A.sh]; rfl
  · simp only [PyData.hasDict, PyData.hasDictAll] at z; rw [B] at z; cases z
  · simp only [PyData.depth, PyData.depthAll]; omega
  · simp only [nodes, nodesAll]; omega
theorem rep_sh {L n : Nat} {ms : List PM} (wf : Wf L ms) (hL : L ≤ 100) (hB : ∀ m ∈ ms, m.2 ≤ 100) (hn : n ≤ 2 ^ 100) : Sh (repM ms L n) := by
  refine ⟨fun m hm => ?_, by rw [rep_len]; exact hL⟩
  have w := (rep_wf wf n).2 m hm
  refine ⟨fun c e => by have := w c e; omega, ?_⟩
  unfold repM at hm
  obtain ⟨c, _, rfl⟩ := List.mem_map.mp hm
  have z := it_bound hB n (some c, 0)
  have z' : (itM ms n (some c, 0)).2 ≤ 0 + n * 100 := z
  omega
theorem map_small {la : Int → Nat} {L : Nat} {bs : List Int} (hb : bs.length ≤ 100) : ∀ m ∈ mapOf' la L bs, m.2 ≤ 100 := by
  intro m hm
  unfold mapOf' at hm
  obtain ⟨c, _, rfl⟩ := List.mem_map.mp hm
  have := stF_len (la := la) bs 0 (some c)
  show (stF la 0 (some c) bs).length ≤ 100
  omega
theorem map_sh {la : Int → Nat} {L : Nat} {bs : List Int} (hL : ∀ b, la b ≤ L) (h100 : L ≤ 100) (hb : bs.length ≤ 1000) : Sh (mapOf' la L bs) := by
  have wf := map_wf hL bs
  refine ⟨fun m hm => ⟨fun c e => by have := wf.2 m hm c e; omega, ?_⟩, by rw [wf.1]; exact h100⟩
  unfold mapOf' at hm
  obtain ⟨c, _, rfl⟩ := List.mem_map.mp hm
  have := stF_len (la := la) bs 0 (some c)
  show (stF la 0 (some c) bs).length ≤ 2 ^ 200
  omega
theorem MapAt.but {H H' : Hp} {D r : Addr} {xs : List V} {ms : List PM} (h : MapAt H r ms) (b : But D H H') (hD : H D = some (.lst xs)) : MapAt H' r ms := by
  obtain ⟨ps, h1, h2⟩ := h
  exact ⟨ps, b _ _ h1 (fun z => by rw [z, hD] at h1; cases h1), h2.but b hD⟩
theorem rep_x {K : PySem.W.Frag} {T H : Hp} {Q : VK} {a : Addr} {xs : List V} {k : Nat} (st : Same T H) (ha : SqT K T a xs) (hk : k ≤ 1000) (hl : xs.length ≤ 1000) (q : ∀ l H' T', Grow T H T' H' → SqT K T' l (List.replicate k xs).flatten → Q (.ref l) H') : rRepA K (.ref a) (.int (k : Int)) H Q := by
  refine ⟨a, k, xs, rfl, rfl, st.tup ha, hk, hl, fun e => ?_, fun _ _ p np => ?_⟩
  · refine q a H T (.refl st) ?_
    rcases e with e | e
    · subst e
      have : (List.replicate k ([] : List V)).flatten = [] := by simp
      rw [this]
      exact ha
    · subst e
      have : (List.replicate 1 xs).flatten = xs := by simp
      rw [this]
      exact ha
  · exact q p _ _ ((Grow.refl st).put _ np) (SqT.of upd_same)
section
variable {P : Program} {w : World} {K : PySem.W.Frag} {mg : Str → Option Value} {base : Heap}
/-! ### _law_right -/
def spRight : Sp := fun vs H Q _ => ∃ (p : Addr), vs = [.ref p] ∧ BoxAt H p 0 ∧ ∀ H', But p H H' → Q (.bl true) H'
theorem scRight : FnScope ["_law_box_here", "_law_table_here", "_law_machine_here", "_law_codes", "_law_one", "_law_two", "_law_three", "_law_due", "_law_bare", "_law_many", "_law_great", "_law_turn", "_law_code"] ["_law_box_here"] (defScope sRight) := ⟨rfl, rfl, rfl, by decide +kernel, rfl, by decide +kernel, by decide +kernel⟩
theorem ok_right {f fSm fMa fBy fT fO fCm fLm fIm fCo fRe fPo C : Addr} {fd fdSm fdMa fdBy fdT fdO fdCm fdLm fdIm fdCo fdRe fdPo : FuncData} {k : Nat} (F : Fun K "_law_right" "_law_right" sRight f fd) (T : Bi mg)
    (Sm : Def K mg "_law_small" sSmall fSm fdSm ["_law_box_here"]) (GSm : FnOk P w K mg base CX0 k fSm fdSm ["_law_box_here"] spSmall)
    (Ma : Def K mg "_law_machine" sMachine fMa fdMa ["_law_table_here"]) (GMa : FnOk P w K mg base CX0 k fMa fdMa ["_law_table_here"] (spMachine C))
    (By : Def K mg "_law_bytes" sBytes fBy fdBy ["_law_box_here", "_law_table_here", "_law_many"]) (GBy : FnOk P w K mg base CX0 k fBy fdBy ["_law_box_here", "_law_table_here", "_law_many"] spBytes)
    (Tk : Def K mg "_law_take" sTake fT fdT ["_law_box_here", "_law_many"]) (GT : FnOk P w K mg base CX0 k fT fdT ["_law_box_here", "_law_many"] spTake)
    (O : Def K mg "_law_of" sOf fO fdO ["_law_box_here", "_law_some"]) (GO : FnOk P w K mg base CX0 k fO fdO ["_law_box_here", "_law_some"] spOf)
    (Cm : Def K mg "code_map" sCodeMap fCm fdCm ["instruction_set", "code"]) (GCm : FnOk P w K mg base CX0 k fCm fdCm ["instruction_set", "code"] (spCodeMap K C))
    (Lm : Def K mg "_law_map" sLMap fLm fdLm ["_law_table_here", "_law_code"]) (GLm : FnOk P w K mg base CX0 k fLm fdLm ["_law_table_here", "_law_code"] (spLMap K))
    (Im : Def K mg "identity_map" sIdMap fIm fdIm ["instruction_set"]) (GIm : FnOk P w K mg base CX0 k fIm fdIm ["instruction_set"] (spIdMap C))
    (Co : Def K mg "compose_maps" sCompose fCo fdCo ["first", "second"]) (GCo : FnOk P w K mg base CX0 k fCo fdCo ["first", "second"] spComp)
    (Re : Def K mg "repeat_map" sRepeat fRe fdRe ["summary", "times"]) (GRe : FnOk P w K mg base CX0 k fRe fdRe ["summary", "times"] spRep)
    (Po : Def K mg "_law_powered" s_law_powered fPo fdPo ["_law_whole", "_law_times"]) (GPo : FnOk P w K mg base CX0 k fPo fdPo ["_law_whole", "_law_times"] spPow) :
    FnG P w K mg base (k + 1) f fd ["_law_box_here"] spRight := by
  refine okG F scRight (fun vs H Q E h => ?_) (fun cdv A' outer s H vs Q E gd hr h => ?_)
  · obtain ⟨p, rfl, _⟩ := h
    rfl
  · obtain ⟨p, rfl, B, q⟩ := h
    refine ⟨_, pss_cons (ps_set (i := 1) scRight.nd rfl (.inr rfl) (pe_call GSm hr (by rfl) Sm.gl Sm.fn.kp Sm.bi .nil pass0 (pa_cons (pv 0) pa_nil)))
      (pss_cons (ps_asg (pe_tup (pa_cons (pe_call GMa hr (by rfl) Ma.gl Ma.fn.kp Ma.bi .nil pass0 (pa_cons (pv 1) pa_nil)) (pa_cons (pe_lc (own := [("_law_turn", 11)]) (g := gName 11) (tt := tYes) (by rfl) scRight.nd (pi_range1 (by rfl) T.range (pa_cons pe_int pa_nil))
          (blkOk_by (own := [("_law_turn", 11)]) (N := ["_law_box_here", "_law_table_here", "_law_machine_here", "_law_codes", "_law_one", "_law_two", "_law_three", "_law_due", "_law_bare", "_law_many", "_law_great", "_law_turn", "_law_code"]) (sc := defScope sRight) (by decide +kernel))
          (fun _ _ _ _ _ => pg_name (i := 11) scRight.nd rfl (Or.inl rfl)) (fun _ _ _ _ _ => pts_nil)
          (fun _ _ _ _ _ => pe_call GBy hr (by rfl) By.gl By.fn.kp By.bi .nil pass0 (pa_cons (pv 0) (pa_cons (pv 1) (pa_cons (pe_call GT hr (by rfl) Tk.gl Tk.fn.kp Tk.bi .nil pass0 (pa_cons (pv 0) (pa_cons pe_int pa_nil))) pa_nil))))) pa_nil)))
        (pg_tup rfl (pgs_cons (pg_name (i := 2) scRight.nd rfl (.inr rfl)) (pgs_cons (pg_name (i := 3) scRight.nd rfl (.inl rfl)) pgs_nil))))
      (pss_cons (ps_asg (pe_lc (own := [("_law_code", 12)]) (g := gName 12) (tt := tYes) (by rfl) scRight.nd (pi_list (pv 3))
          (blkOk_by (own := [("_law_code", 12)]) (N := ["_law_box_here", "_law_table_here", "_law_machine_here", "_law_codes", "_law_one", "_law_two", "_law_three", "_law_due", "_law_bare", "_law_many", "_law_great", "_law_turn", "_law_code"]) (sc := defScope sRight) (by decide +kernel))
          (fun _ _ _ _ _ => pg_name (i := 12) scRight.nd rfl (Or.inl rfl)) (fun _ _ _ _ _ => pts_nil)
          (fun _ _ _ _ _ => pe_call GCm hr (by rfl) Cm.gl Cm.fn.kp Cm.bi .nil pass0 (pa_cons (pv 2) (pa_cons (pv 12) pa_nil))))
        (pg_lst rfl (pgs_cons (pg_name (i := 4) scRight.nd rfl (.inl rfl)) (pgs_cons (pg_name (i := 5) scRight.nd rfl (.inl rfl)) (pgs_cons (pg_name (i := 6) scRight.nd rfl (.inl rfl)) pgs_nil)))))
      (pss_cons (ps_set (i := 7) scRight.nd rfl (.inl rfl) (pe_callB (call_repr_x gd hr) (by rfl) T.repr (by decide +kernel) (pa_cons (pe_call GLm hr (by rfl) Lm.gl Lm.fn.kp Lm.bi .nil pass0 (pa_cons (pv 1) (pa_cons (pe_op op_catA (pe_op op_catA (pe_ix ix_list (pv 3) pe_int (fun _ _ => rfl)) (pe_ix ix_list (pv 3) pe_int (fun _ _ => rfl))) (pe_ix ix_list (pv 3) pe_int (fun _ _ => rfl))) pa_nil))) pa_nil)))
      (pss_cons (ps_if (pt_cmpR op_ne (pe_callB (call_repr_x gd hr) (by rfl) T.repr (by decide +kernel) (pa_cons (pe_call GCo hr (by rfl) Co.gl Co.fn.kp Co.bi .nil pass0 (pa_cons (pe_call GCo hr (by rfl) Co.gl Co.fn.kp Co.bi .nil pass0 (pa_cons (pv 4) (pa_cons (pv 5) pa_nil))) (pa_cons (pv 6) pa_nil))) pa_nil)) (pv 7) (nomark _)) (pss_one (ps_ret pe_bl)) pss_nil)
      (pss_cons (ps_if (pt_cmpR op_ne (pe_callB (call_repr_x gd hr) (by rfl) T.repr (by decide +kernel) (pa_cons (pe_call GCo hr (by rfl) Co.gl Co.fn.kp Co.bi .nil pass0 (pa_cons (pv 4) (pa_cons (pe_call GCo hr (by rfl) Co.gl Co.fn.kp Co.bi .nil pass0 (pa_cons (pv 5) (pa_cons (pv 6) pa_nil))) pa_nil))) pa_nil)) (pv 7) (nomark _)) (pss_one (ps_ret pe_bl)) pss_nil)
      (pss_cons (ps_set (i := 8) scRight.nd rfl (.inl rfl) (pe_call GIm hr (by rfl) Im.gl Im.fn.kp Im.bi .nil pass0 (pa_cons (pv 2) pa_nil)))
      (pss_cons (ps_if (pt_cmpR op_ne (pe_callB (call_repr_x gd hr) (by rfl) T.repr (by decide +kernel) (pa_cons (pe_lst (pa_cons (pe_call GCo hr (by rfl) Co.gl Co.fn.kp Co.bi .nil pass0 (pa_cons (pv 8) (pa_cons (pv 4) pa_nil))) (pa_cons (pe_call GCo hr (by rfl) Co.gl Co.fn.kp Co.bi .nil pass0 (pa_cons (pv 4) (pa_cons (pv 8) pa_nil))) pa_nil))) pa_nil))
          (pe_callB (call_repr_x gd hr) (by rfl) T.repr (by decide +kernel) (pa_cons (pe_lst (pa_cons (pv 4) (pa_cons (pv 4) pa_nil))) pa_nil)) (nomark _)) (pss_one (ps_ret pe_bl)) pss_nil)
      (pss_cons (ps_for PassesOwn.never rfl (pi_range1 (by rfl) T.range (pa_cons pe_int pa_nil)) (pg_name (i := 9) scRight.nd rfl (.inl rfl))
        (pss_one (ps_if (pt_cmpR op_ne (pe_callB (call_repr_x gd hr) (by rfl) T.repr (by decide +kernel) (pa_cons (pe_call GRe hr (by rfl) Re.gl Re.fn.kp Re.bi .nil pass0 (pa_cons (pv 5) (pa_cons (pv 9) pa_nil))) pa_nil))
          (pe_callB (call_repr_x gd hr) (by rfl) T.repr (by decide +kernel) (pa_cons (pe_call GLm hr (by rfl) Lm.gl Lm.fn.kp Lm.bi .nil pass0 (pa_cons (pv 1) (pa_cons (pe_op op_repA (pe_ix ix_list (pv 3) pe_int (fun _ _ => rfl)) (pv 9)) pa_nil))) pa_nil)) (nomark _)) (pss_one (ps_ret pe_bl)) pss_nil)))
      (pss_cons (ps_set (i := 10) scRight.nd rfl (.inl rfl) (pe_call GO hr (by rfl) O.gl O.fn.kp O.bi .nil pass0 (pa_cons (pv 0) (pa_cons (pe_lst (pa_cons (pe_op op_pow pe_int pe_int) (pa_cons (pe_op op_pow pe_int pe_int) (pa_cons (pe_op op_sub (pe_op op_pow pe_int pe_int) pe_int) (pa_cons (pe_op op_pow pe_int pe_int) (pa_cons (pe_call GT hr (by rfl) Tk.gl Tk.fn.kp Tk.bi .nil pass0 (pa_cons (pv 0) (pa_cons (pe_op op_pow pe_int pe_int) pa_nil))) pa_nil)))))) pa_nil))))
      (pss_one (ps_ret (pe_cmpR op_eq (pe_callB (call_repr_x gd hr) (by rfl) T.repr (by decide +kernel) (pa_cons (pe_call GRe hr (by rfl) Re.gl Re.fn.kp Re.bi .nil pass0 (pa_cons (pv 4) (pa_cons (pv 10) pa_nil))) pa_nil))
          (pe_callB (call_repr_x gd hr) (by rfl) T.repr (by decide +kernel) (pa_cons (pe_call GPo hr (by rfl) Po.gl Po.fn.kp Po.bi .nil pass0 (pa_cons (pe_call GLm hr (by rfl) Lm.gl Lm.fn.kp Lm.bi .nil pass0 (pa_cons (pv 1) (pa_cons (pe_ix ix_list (pv 3) pe_int (fun _ _ => rfl)) pa_nil))) (pa_cons (pv 10) pa_nil))) pa_nil)) (nomark _))))))))))))), ?_⟩
    have i30 : ∀ x y z : V, atI [x, y, z] 0 = some x := fun x y z => atI_nat (j := 0) rfl
    have i31 : ∀ x y z : V, atI [x, y, z] 1 = some y := fun x y z => atI_nat (j := 1) rfl
    have i32 : ∀ x y z : V, atI [x, y, z] 2 = some z := fun x y z => atI_nat (j := 2) rfl
    -- the table, the machine, three codes
    refine ⟨_, rfl, p, 0, rfl, B, by decide, fun H1 t cnt lg is it rs b1 B1 nt T1 => ?_⟩
    refine ⟨_, rfl, t, it, cnt, lg, is, rs, rfl, T1, fun H2 x s2 nx SA2 => ?_⟩
    have T2 := T1.same s2
    have B2 := B1.same s2
    have M2 : Mach C H2 x cnt lg it is rs := ⟨SA2, T2.its, T2.rows, T2.ok⟩
    have b02 : But p H H2 := b1.trans (But.of s2)
    have lon := lon_le T2.ok
    have hla : ∀ b, laOf is b ≤ lonOf is := fun b => lon_ge b
    refine ⟨3, rfl, by decide, by decide, fun L nL => lc_range (lo := 0) (n := 3) (fun j H4 => ∃ cs : List (Addr × List Int), cs.length = j ∧ H4 L = some (.lst (cs.map fun z => V.ref z.1)) ∧ (∀ z ∈ cs, H4 z.1 = some (.tup (z.2.map V.int)) ∧ z.2.length ≤ 20) ∧ But p H2 H4 ∧ BoxAt H4 p (2000 + 100 * j))
      ⟨[], rfl, upd_same, (fun _ z => nomatch z), But.of (same_upd nL), (B2.same (same_upd nL)).mono (by omega)⟩ ?_ ?_⟩
    · rintro j H4 hj ⟨cs, cl, hL4, hz, b4, B4⟩
      have hLp : L ≠ p := fun z => B2.ne (z ▸ nL)
      refine ⟨rfl, _, rfl, _, rfl, _, rfl, p, 21, _, rfl, B4, by omega, by decide, by decide, fun H5 m b5 B5 m0 m1 f5 => ?_⟩
      obtain ⟨mn, rfl⟩ : ∃ mn : Nat, m = (mn : Int) := ⟨m.toNat, by omega⟩
      have T5 := (T2.but b4 B2).but b5 B4
      refine ⟨p, t, _, cnt, lg, is, it, rs, mn, rfl, B5, by omega, T5, by omega, fun H6 c bs b6 B6 nc hc bb bl => ?_⟩
      have hL6 := b6 _ _ (b5 _ _ hL4 hLp) hLp
      refine ⟨_, hL6, by rw [List.length_map, cl, sizeLine_eq]; omega, cs ++ [(c, bs)], by rw [List.length_append, cl]; rfl, by rw [upd_same, List.map_append]; rfl, fun z hz' => ?_, fun a o ea na => ?_, ?_⟩
      · rcases List.mem_append.mp hz' with h | h
        · obtain ⟨h1, h2⟩ := hz z h
          have h6 := b6 _ _ (b5 _ _ h1 (ne_box B4 h1)) (ne_box B4 h1)
          refine ⟨?_, h2⟩
          rw [upd_ne (fun w => by rw [w, hL6] at h6; cases h6)]
          exact h6
        · rw [List.mem_singleton.mp h]
          refine ⟨?_, by show bs.length ≤ 20; omega⟩
          show upd H6 L _ c = _
          rw [upd_ne (fun w => by rw [w, hL6] at hc; cases hc)]
          exact hc
      · rw [upd_ne (ne_of_none ea nL)]
        exact b6 _ _ (b5 _ _ (b4 _ _ ea na) na) na
      · obtain ⟨z1, z2, z3, ez, r⟩ := B6
        exact ⟨z1, z2, z3, by rw [upd_ne (Ne.symm hLp)]; exact ez, by omega⟩
    rintro H4 ⟨cs, cl, hL4, hz, b4, B4⟩
    have hLp : L ≠ p := fun z => B2.ne (z ▸ nL)
    obtain ⟨⟨c0, bs0⟩, ⟨c1, bs1⟩, ⟨c2, bs2⟩, rfl⟩ : ∃ z0 z1 z2, cs = [z0, z1, z2] := by
      match cs, cl with
      | [z0, z1, z2], _ => exact ⟨z0, z1, z2, rfl⟩
    obtain ⟨hc0, l0⟩ := hz (c0, bs0) (by simp)
    obtain ⟨hc1, l1⟩ := hz (c1, bs1) (by simp)
    obtain ⟨hc2, l2⟩ := hz (c2, bs2) (by simp)
    dsimp only at hc0 l0 hc1 l1 hc2 l2
    have T4 := T2.but b4 B2
    have M4 := M2.but b4 B2
    have b04 := b02.trans b4
    refine ⟨by show 2 ≤ sizeLine; decide, fun tp ntp => ⟨tp, _, rfl, SqT.of upd_same, rfl, _, _, rfl, _, _, rfl, rfl, ?_⟩⟩
    have s5 := same_upd (o := HO.tup [V.ref x, V.ref L]) ntp
    have hL5 : upd H4 tp (HO.tup [V.ref x, V.ref L]) L = some (.lst [V.ref c0, V.ref c1, V.ref c2]) := s5 _ _ hL4
    replace hc0 := s5 _ _ hc0
    replace hc1 := s5 _ _ hc1
    replace hc2 := s5 _ _ hc2
    have T5 := T4.same s5
    have M5 := M4.same s5
    have B5 := B4.same s5
    have b05 := b04.trans (But.of s5)
    generalize upd H4 tp (HO.tup [V.ref x, V.ref L]) = H5 at *
    clear T1 T2 T4 M2 M4 B1 B2 B4 SA2 b1 b02 b04 b4 s2 s5 hz hL4 cl nt nx ntp nL
    -- their maps
    have item : ∀ (i : Nat) (v : V), ([V.ref c0, V.ref c1, V.ref c2] : List V)[i]? = some v → i < 3 ∧ ∃ c bs, v = .ref c ∧ ([bs0, bs1, bs2] : List (List Int))[i]? = some bs ∧ H5 c = some (.tup (bs.map V.int)) ∧ bs.length ≤ 20 := by
      intro i v e
      match i, e with
      | 0, e => exact ⟨by decide, c0, bs0, (Option.some.inj e).symm, rfl, hc0, l0⟩
      | 1, e => exact ⟨by decide, c1, bs1, (Option.some.inj e).symm, rfl, hc1, l1⟩
      | 2, e => exact ⟨by decide, c2, bs2, (Option.some.inj e).symm, rfl, hc2, l2⟩
      | n + 3, e => simp at e
    refine ⟨_, rfl, L, rfl, ⟨_, SqL.of hL5⟩, fun D nD => lc_list (K := K) (a := L) (xs := [V.ref c0, V.ref c1, V.ref c2]) (fun j H6 => ∃ rr : List Addr, rr.length = j ∧ Mk H5 H6 D (rr.map V.ref) ∧ ∀ (i : Nat) (r : Addr) (bs : List Int), rr[i]? = some r → ([bs0, bs1, bs2] : List (List Int))[i]? = some bs → MapAt H6 r (mapOf' (laOf is) (lonOf is) bs))
      ⟨[], rfl, .start nD, fun i r bs h => by simp at h⟩ (fun j H6 _ ⟨_, _, mk, _⟩ => SqL.of (mk.same _ _ hL5)) ?_ ?_⟩
    · rintro j v H6 hv ⟨rr, rl, mk, mp⟩
      obtain ⟨hj, c, bs, rfl, hbs, hcc, hlen⟩ := item j v hv
      refine ⟨rfl, _, rfl, _, rfl, x, it, c, cnt, lg, is, rs, bs, rfl, M5.same mk.same, SqT.of (mk.same _ _ hcc), by omega, fun H7 r s7 nr m7 => ?_⟩
      have D7 := s7 _ _ mk.at_
      refine ⟨_, D7, by rw [List.length_map, rl, sizeLine_eq]; omega, rr ++ [r], by rw [List.length_append, rl]; rfl, by rw [List.map_append]; exact mk.put s7, fun i r' bs' h1 h2 => ?_⟩
      have bt : But D H7 (upd H7 D (.lst (rr.map V.ref ++ [V.ref r]))) := fun b o e n => by rw [upd_ne n]; exact e
      by_cases c' : i < rr.length
      · rw [List.getElem?_append_left c'] at h1
        exact ((mp i r' bs' h1 h2).same s7).but bt D7
      · have li := (List.getElem?_eq_some_iff.mp h1).1
        rw [List.length_append, List.length_singleton] at li
        have ei : i = rr.length := by omega
        subst ei
        rw [List.getElem?_append_right (Nat.le_refl _), Nat.sub_self] at h1
        rw [rl, hbs] at h2
        cases (Option.some.inj h1)
        cases (Option.some.inj h2)
        exact m7.but bt D7
    rintro H6 ⟨rr, rl, mk, mp⟩
    obtain ⟨r0, r1, r2, rfl⟩ : ∃ z0 z1 z2, rr = [z0, z1, z2] := by
      match rr, rl with
      | [z0, z1, z2], _ => exact ⟨z0, z1, z2, rfl⟩
    have A0 := mp 0 r0 bs0 rfl rfl
    have A1 := mp 1 r1 bs1 rfl rfl
    have A2 := mp 2 r2 bs2 rfl rfl
    refine ⟨D, _, rfl, SqL.of mk.at_, rfl, _, _, rfl, _, _, rfl, _, _, rfl, rfl, ?_⟩
    have s6 := mk.same
    replace hL5 := s6 _ _ hL5
    replace hc0 := s6 _ _ hc0
    replace hc1 := s6 _ _ hc1
    replace hc2 := s6 _ _ hc2
    replace T5 := T5.same s6
    replace M5 := M5.same s6
    replace B5 := B5.same s6
    replace b05 := b05.trans (But.of s6)
    clear mp mk s6 nD item
    have W0 := map_wf hla bs0
    have W1 := map_wf hla bs1
    have W2 := map_wf hla bs2
    have h100 : lonOf is ≤ 100 := by omega
    -- all three together
    refine ⟨_, rfl, _, rfl, L, _, _, _, rfl, rfl, SqL.of hL5, i30 _ _ _, _, rfl, L, _, _, _, rfl, rfl, SqL.of hL5, i31 _ _ _, ?_⟩
    refine cat_x (Same.refl H6) (SqT.of hc0) (SqT.of hc1) (by rw [List.length_map, List.length_map, sizeLine_eq]; omega) fun x7 H7 T7 g7 S7 => ?_
    have hL7 := g7.hh _ _ hL5
    refine ⟨_, rfl, L, _, _, _, rfl, rfl, SqL.of hL7, i32 _ _ _, ?_⟩
    refine cat_x (Same.refl H7) (g7.th.tup S7) (SqT.of (g7.hh _ _ hc2)) (by rw [List.length_append, List.length_map, List.length_map, List.length_map, sizeLine_eq]; omega) fun x8 H8 T8 g8 S8 => ?_
    rw [← List.map_append, ← List.map_append] at S8
    have s68 := g7.hh.trans g8.hh
    refine ⟨t, it, x8, cnt, lg, is, rs, bs0 ++ bs1 ++ bs2, rfl, T5.same s68, g8.th.tup S8, by rw [List.length_append, List.length_append]; omega, fun H9 r9 s9 nr9 m9 => ?_⟩
    have sh9 := map_sh hla h100 (bs := bs0 ++ bs1 ++ bs2) (by rw [List.length_append, List.length_append]; omega)
    rw [mapOf_eq] at m9
    refine ⟨_, _, rfl, dx_map m9, sh9.shows, ?_⟩
    have s69 := s68.trans s9
    replace hL5 := s69 _ _ hL5
    replace hc0 := s69 _ _ hc0
    replace hc1 := s69 _ _ hc1
    replace T5 := T5.same s69
    replace M5 := M5.same s69
    replace B5 := B5.same s69
    replace b05 := b05.trans (But.of s69)
    replace A0 := A0.same s69
    replace A1 := A1.same s69
    replace A2 := A2.same s69
    clear s69 s68 s9 g7 g8 S7 S8 hL7 m9 hc2
    -- either grouping
    refine ⟨_, rfl, _, rfl, r0, r1, _, _, _, rfl, A0, A1, W0, W1, h100, fun H10 ra s10 _ Ma => ?_⟩
    refine ⟨_, rfl, ra, r2, _, _, _, rfl, Ma, A2.same s10, comp_wf W0 W1, W2, h100, fun H11 rb s11 _ Mb => ?_⟩
    rw [map_app hla, map_app hla] at Mb
    refine ⟨_, _, rfl, dx_map Mb, sh9.shows, _, rfl, rfl, _, rfl, ?_⟩
    rw [decide_eq_true rfl]
    have s911 := s10.trans s11
    refine iteF ⟨_, rfl, _, rfl, _, rfl, r1, r2, _, _, _, rfl, A1.same s911, A2.same s911, W1, W2, h100, fun H12 rc s12 _ Mc => ?_⟩
    have s912 := s911.trans s12
    refine ⟨r0, rc, _, _, _, rfl, A0.same s912, Mc, W0, comp_wf W1 W2, h100, fun H13 rd s13 _ Md => ?_⟩
    rw [map_app hla, map_app hla, ← List.append_assoc] at Md
    refine ⟨_, _, rfl, dx_map Md, sh9.shows, _, rfl, rfl, _, rfl, ?_⟩
    rw [decide_eq_true rfl]
    have s913 := s912.trans s13
    -- the empty code
    refine iteF ⟨_, rfl, x, it, cnt, lg, is, rs, rfl, M5.same s913, fun H14 re s14 _ Me => ?_⟩
    rw [idMap_eq (mapOf' (laOf is) (lonOf is) bs0)] at Me
    have s914 := s913.trans s14
    have sh0 := map_sh hla h100 (bs := bs0) (by omega)
    refine ⟨_, rfl, _, rfl, re, r0, _, _, _, rfl, Me, A0.same s914, rep_wf W0 0, W0, h100, fun H15 rf s15 _ Mf => ?_⟩
    rw [(comp_id W0).2] at Mf
    have s915 := s914.trans s15
    refine ⟨_, rfl, _, rfl, r0, re, _, _, _, rfl, A0.same s915, Me.same s15, W0, rep_wf W0 0, h100, fun H16 rg s16 _ Mg => ?_⟩
    rw [(comp_id W0).1] at Mg
    have s916 := s915.trans s16
    refine ⟨by show 2 ≤ sizeLine; decide, fun la1 nla1 => ?_⟩
    have s17 := same_upd (o := HO.lst [V.ref rf, V.ref rg]) nla1
    refine ⟨_, _, rfl, .lst (SqL.of upd_same) (.cons (dx_map ((Mf.same s16).same s17)) (.cons (dx_map (Mg.same s17)) .nil)), sh0.two, ?_⟩
    refine ⟨_, rfl, _, rfl, by show 2 ≤ sizeLine; decide, fun la2 nla2 => ?_⟩
    have s18 := same_upd (o := HO.lst [V.ref r0, V.ref r0]) nla2
    have A0' := A0.same ((s916.trans s17).trans s18)
    refine ⟨_, _, rfl, .lst (SqL.of upd_same) (.cons (dx_map A0') (.cons (dx_map A0') .nil)), sh0.two, rfl, _, rfl, ?_⟩
    rw [decide_eq_true rfl]
    have s918 := (s916.trans s17).trans s18
    generalize upd (upd H16 la1 (HO.lst [V.ref rf, V.ref rg])) la2 (HO.lst [V.ref r0, V.ref r0]) = H18 at *
    replace hL5 := s918 _ _ hL5
    replace hc0 := s918 _ _ hc0
    replace hc1 := s918 _ _ hc1
    replace T5 := T5.same s918
    replace B5 := B5.same s918
    replace b05 := b05.trans (But.of s918)
    replace A0 := A0'
    replace A1 := A1.same s918
    clear A0' s918 s17 s18 s916 s915 s914 s913 s912 s911 s10 s11 s12 s13 s14 s15 s16 Ma Mb Mc Md Me Mf Mg A2 M5
    -- few copies
    refine iteF ⟨8, rfl, by decide, by decide, for_range (lo := 0) (n := 8) (fun i σ H2 => ∃ y7 y9, σ = [some (.ref p), some (.ref t), some (.ref x), some (.ref L), some (.ref r0), some (.ref r1), some (.ref r2), y7, some (.ref re), y9, none, none, none] ∧ Same H18 H2)
      ⟨_, _, rfl, Same.refl _⟩ ?_ ?_⟩
    · rintro i σ H19 hi ⟨y7, y9, rfl, s19⟩
      have e0 : (0 : Int) + (i : Int) = (i : Int) := by omega
      rw [e0]
      refine ⟨_, rfl, _, rfl, r1, _, _, i, rfl, A1.same s19, W1, h100, fun H20 rh s20 Mh => ?_⟩
      have shi := rep_sh W1 h100 (map_small (by omega)) (n := i) (by omega)
      refine ⟨_, _, rfl, dx_map Mh, shi.shows, ?_⟩
      have s1820 := s19.trans s20
      refine ⟨_, rfl, _, rfl, L, _, _, _, rfl, rfl, SqL.of (s1820 _ _ hL5), i31 _ _ _, _, rfl, ?_⟩
      refine rep_x (Same.refl H20) (SqT.of (s1820 _ _ hc1)) (by omega) (by rw [List.length_map]; omega) fun x21 H21 T21 g21 S21 => ?_
      have ef : (List.replicate i (bs1.map V.int)).flatten = (List.replicate i bs1).flatten.map V.int := by rw [List.map_flatten, List.map_replicate]
      rw [ef] at S21
      have s1821 := s1820.trans g21.hh
      have fl : (List.replicate i bs1).flatten.length ≤ 1000 := by
        rw [List.length_flatten, List.map_replicate, List.sum_replicate_nat]
        have : i * bs1.length ≤ 8 * 20 := Nat.mul_le_mul (by omega) l1
        omega
      refine ⟨t, it, x21, cnt, lg, is, rs, (List.replicate i bs1).flatten, rfl, T5.same s1821, g21.th.tup S21, by omega, fun H22 r22 s22 nr22 m22 => ?_⟩
      rw [mapOf_eq, map_rep hla] at m22
      refine ⟨_, _, rfl, dx_map m22, shi.shows, rfl, _, rfl, ?_⟩
      rw [decide_eq_true rfl]
      exact iteF ⟨_, _, rfl, s1821.trans s22⟩
    rintro σ H19 ⟨y7, y9, rfl, s19⟩
    replace hL5 := s19 _ _ hL5
    replace hc0 := s19 _ _ hc0
    replace T5 := T5.same s19
    replace B5 := B5.same s19
    replace b05 := b05.trans (But.of s19)
    replace A0 := A0.same s19
    clear s19 A1 hc1
    -- many copies
    have cp : ∀ {a b : Int}, CPow a b → CPow a b := fun h => h
    refine ⟨_, rfl, _, _, rfl, rfl, ⟨by decide, by decide, by decide⟩, _, _, rfl, rfl, ⟨by decide, by decide, by decide⟩, _, _, rfl, rfl, ⟨by decide, by decide, by decide⟩, _, _, rfl, rfl, _, _, rfl, rfl, ⟨by decide, by decide, by decide⟩, _, rfl, _, _, rfl, rfl, ⟨by decide, by decide, by decide⟩, p, _, _, rfl, B5, by omega, by decide, by decide, fun H20 d b20 B20 d0 d1 f20 => ?_⟩
    obtain ⟨q1, q2, q3, eb, _⟩ := B5
    have hL20 := b20 _ _ hL5 hLp
    have c020 := b20 _ _ hc0 (fun z => by rw [z, eb] at hc0; cases hc0)
    have T20 := T5.but b20 ⟨q1, q2, q3, eb, by assumption⟩
    have A20 := A0.but b20 eb
    have b020 := b05.trans b20
    refine ⟨by show 5 ≤ sizeLine; decide, fun lg5 nlg5 => ?_⟩
    have hlg := fun (xs : List V) => @upd_same H20 lg5 (HO.lst xs)
    have s21 := fun (xs : List V) => same_upd (o := HO.lst xs) nlg5
    have lp : lg5 ≠ p := fun z => B20.ne (z ▸ nlg5)
    refine ⟨p, lg5, _, _, rfl, B20.same (s21 _), by omega, hlg _, lp, by show 0 < 5; decide, by show 5 ≤ 1000; decide, fun H22 v hv b22 B22 f22 => ?_⟩
    obtain ⟨g, rfl, gb⟩ : ∃ g : Nat, v = .int (g : Int) ∧ g ≤ 2 ^ 100 := by
      have nn : ∀ z : Int, 0 ≤ z → z ≤ 2 ^ 100 → ∃ g : Nat, V.int z = .int (g : Int) ∧ g ≤ 2 ^ 100 := fun z h0 h1 => ⟨z.toNat, by rw [Int.toNat_of_nonneg h0], by omega⟩
      simp only [List.mem_cons, List.not_mem_nil, or_false] at hv
      rcases hv with rfl | rfl | rfl | rfl | rfl
      · exact nn _ (by decide +kernel) (by decide +kernel)
      · exact nn _ (by decide +kernel) (by decide +kernel)
      · exact nn _ (by decide +kernel) (by decide +kernel)
      · exact nn _ (by decide +kernel) (by decide +kernel)
      · refine nn _ d0 ?_
        have : (10 : Int) ^ (18 : Int).toNat ≤ 2 ^ 100 := by decide +kernel
        omega
    obtain ⟨u1, u2, u3, eb20, _⟩ := B20
    have bb := (But.of (s21 [V.int (10 ^ (29 : Int).toNat), V.int (10 ^ (15 : Int).toNat), V.int (2 ^ (60 : Int).toNat - 1), V.int (2 ^ (60 : Int).toNat), V.int d])).trans b22
    have hL22 := bb _ _ hL20 hLp
    have c022 := bb _ _ c020 (fun z => by rw [z, eb20] at c020; cases c020)
    have T22 := T20.but bb ⟨u1, u2, u3, eb20, by assumption⟩
    have A22 := A20.but bb eb20
    have shg := rep_sh W0 h100 (map_small (by omega)) (n := g) gb
    refine ⟨_, rfl, _, rfl, r0, _, _, g, rfl, A22, W0, h100, fun H23 r23 s23 M23 => ?_⟩
    refine ⟨_, _, rfl, dx_map M23, shg.shows, ?_⟩
    refine ⟨_, rfl, _, rfl, L, _, _, _, rfl, rfl, SqL.of (s23 _ _ hL22), i30 _ _ _, t, it, c0, cnt, lg, is, rs, bs0, rfl, T22.same s23, SqT.of (s23 _ _ c022), by omega, fun H24 r24 s24 nr24 m24 => ?_⟩
    rw [mapOf_eq] at m24
    refine ⟨_, rfl, r24, _, _, g, rfl, m24, W0, h100, map_small (by omega), gb, fun H25 r25 s25 M25 => ?_⟩
    refine ⟨_, _, rfl, dx_map M25, shg.shows, rfl, ?_⟩
    rw [decide_eq_true rfl]
    exact q _ (b020.trans (bb.trans (But.of (s23.trans (s24.trans s25)))))
end
end Ov
namespace Ov
open PySem PySem.Spec PyProof.Rows L2
section
variable {P : Program} {w : World} {K : PySem.W.Frag} {mg : Str → Option Value} {base : Heap}
/-! ### law -/
def spLaw (K : PySem.W.Frag) : Sp := fun vs H Q _ => ∃ (a : Addr) (ns : List Int), vs = [.ref a] ∧ SqL K H a (ns.map V.int) ∧ ns.length ≤ 63 ∧ ∀ H', Q (.bl true) H'
theorem scLaw : FnScope ["_law_script", "_law_k"] ["_law_script"] (defScope sLaw) := ⟨rfl, rfl, rfl, by decide +kernel, rfl, by decide +kernel, by decide +kernel⟩
theorem ok_law {f fB fR : Addr} {fd fdB fdR : FuncData} {k : Nat} (F : Fun K "law" "law" sLaw f fd) (T : Bi mg)
    (B : Def K mg "_law_box" sBox fB fdB ["_law_script", "_law_k"]) (GB : FnOk P w K mg base CX0 k fB fdB ["_law_script", "_law_k"] (spBox K))
    (R : Def K mg "_law_right" sRight fR fdR ["_law_box_here"]) (GR : FnG P w K mg base k fR fdR ["_law_box_here"] spRight) :
    FnG P w K mg base (k + 1) f fd ["_law_script"] (spLaw K) := by
  refine okG F scLaw (fun vs H Q E h => ?_) (fun cdv A' outer s H vs Q E gd hr h => ?_)
  · obtain ⟨a, ns, rfl, _⟩ := h
    rfl
  · obtain ⟨a, ns, rfl, hS, hlen, q⟩ := h
    refine ⟨_, pss_one (ps_ret (pe_callB (cr_all rfl) (by rfl) T.all (by decide +kernel) (pa_cons (pe_lc (own := [("_law_k", 1)]) (g := gName 1) (tt := tYes) (by rfl) scLaw.nd
        (pi_range1 (by rfl) T.range (pa_cons (pe_callB (call_max2 rfl) (by rfl) T.max (by decide +kernel) (pa_cons pe_int (pa_cons (pe_callB (call_min2 rfl) (by rfl) T.min (by decide +kernel) (pa_cons pe_int (pa_cons (pe_callB call_len_seq (by rfl) T.len PySem.boot_len (pa_cons (pv 0) pa_nil)) pa_nil))) pa_nil))) pa_nil))
        (blkOk_by (own := [("_law_k", 1)]) (N := ["_law_script", "_law_k"]) (sc := defScope sLaw) (by decide +kernel))
        (fun _ _ _ _ _ => pg_name (i := 1) scLaw.nd rfl (Or.inl rfl)) (fun _ _ _ _ _ => pts_nil)
        (fun _ _ _ _ _ => pe_callG GR gd hr (by rfl) R.gl R.fn.kp R.bi (pa_cons (pe_call GB hr (by rfl) B.gl B.fn.kp B.bi .nil pass0 (pa_cons (pv 0) (pa_cons (pv 1) pa_nil))) pa_nil))) pa_nil))), ?_⟩
    refine ⟨_, rfl, a, _, rfl, .inl hS, _, _, rfl, _, _, rfl, _, rfl, ?_, ?_, fun D nD => lc_range (lo := 0) (fun i H2 => Mk H H2 D ((List.replicate i true).map V.bl)) (.start nD) ?_ ?_⟩
    · split <;> split <;> omega
    · split <;> split <;> omega
    · intro i H2 hi mk
      have hi4 : i < 4 := by
        revert hi
        split <;> split <;> omega
      refine ⟨rfl, _, rfl, _, rfl, a, ns, i, (by rw [Int.zero_add]; rfl), mk.same.seq hS, by omega, fun H3 p s3 np B3 => ?_⟩
      refine ⟨p, rfl, B3, fun H4 b4 => ?_⟩
      have s24 : Same H2 H4 := fun b o e => b4 b o (s3 b o e) (ne_of_none e np)
      refine ⟨_, s24 _ _ mk.at_, by rw [List.length_map, List.length_replicate, sizeLine_eq]; omega, ?_⟩
      rw [List.replicate_succ', List.map_append]
      exact mk.put s24
    intro H2 mk
    refine ⟨D, _, rfl, SqL.of mk.at_, ?_⟩
    rw [all_true]
    exact q H2
end
end Ov
namespace Ov
open PySem PySem.Spec PyProof.Rows L2
/-! ### what the top has written, and the law's own head -/
theorem all_mk {P : Program} {w : World} {K : PySem.W.Frag} {h : Heap} {mg : Str → Option Value} {fa f0 f1 f2 f3 f4 f5 f6 f7 f8 f9 f10 f11 f12 f13 f14 f15 f16 f17 f18 f19 f20 f21 f22 f23 f24 f25 f26 f27 : Addr} (X : K.In h) (G : h.Ns mainGlobals mg) (hfa : mg "law" = some (.ref fa))
    {od0 an0 od1 an1 od2 an2 od3 an3 od4 an4 od5 an5 od6 an6 od7 an7 od8 an8 od9 an9 od10 an10 od11 an11 od12 an12 od13 an13 od14 an14 od15 an15 od16 an16 od17 an17 od18 an18 od19 an19 od20 an20 od21 an21 od22 an22 od23 an23 od24 an24 od25 an25 od26 an26 od27 an27 : Option Addr} {sl0 sl1 sl2 sl3 sl4 sl5 sl6 sl7 sl8 sl9 sl10 sl11 sl12 sl13 sl14 sl15 sl16 sl17 sl18 sl19 sl20 sl21 sl22 sl23 sl24 sl25 sl26 sl27 : Array (Option Value)} {oc0 kV0 dc0 pm0 cd0 ct0 oc1 kV1 dc1 pm1 cd1 ct1 oc2 kV2 dc2 pm2 cd2 ct2 oc3 kV3 dc3 pm3 cd3 ct3 oc4 kV4 dc4 pm4 cd4 ct4 oc5 kV5 dc5 pm5 cd5 ct5 oc6 kV6 dc6 pm6 cd6 ct6 oc7 kV7 dc7 pm7 cd7 ct7 oc8 kV8 dc8 pm8 cd8 ct8 oc9 kV9 dc9 pm9 cd9 ct9 oc10 kV10 dc10 pm10 cd10 ct10 oc11 kV11 dc11 pm11 cd11 ct11 oc12 kV12 dc12 pm12 cd12 ct12 oc13 kV13 dc13 pm13 cd13 ct13 oc14 kV14 dc14 pm14 cd14 ct14 oc15 kV15 dc15 pm15 cd15 ct15 oc16 kV16 dc16 pm16 cd16 ct16 oc17 kV17 dc17 pm17 cd17 ct17 oc18 kV18 dc18 pm18 cd18 ct18 oc19 kV19 dc19 pm19 cd19 ct19 oc20 kV20 dc20 pm20 cd20 ct20 oc21 kV21 dc21 pm21 cd21 ct21 oc22 kV22 dc22 pm22 cd22 ct22 oc23 kV23 dc23 pm23 cd23 ct23 oc24 kV24 dc24 pm24 cd24 ct24 oc25 kV25 dc25 pm25 cd25 ct25 oc26 kV26 dc26 pm26 cd26 ct26 oc27 kV27 dc27 pm27 cd27 ct27 : Value}
    {tk0 tk1 tk2 tk3 : Tok}
    (a0 : PySem.W.nsIn K mainGlobals "is_integer" = some (some (.ref f0))) (l0 : K.lookup f0 = some ⟨oc0, od0, .func (PySem.W.fnOf "is_integer" "is_integer" (defArgs sIsInt) (defBody sIsInt) (defScope sIsInt) .none kV0 dc0 pm0 an0 cd0 ct0), sl0⟩) (c0 : PySem.W.codeIn K cd0 "is_integer" = true) (k0 : PySem.W.keepIn K (.ref f0) = true)
    (a1 : PySem.W.nsIn K mainGlobals "is_integer_between" = some (some (.ref f1))) (l1 : K.lookup f1 = some ⟨oc1, od1, .func (PySem.W.fnOf "is_integer_between" "is_integer_between" (defArgs sBetween) (defBody sBetween) (defScope sBetween) .none kV1 dc1 pm1 an1 cd1 ct1), sl1⟩) (c1 : PySem.W.codeIn K cd1 "is_integer_between" = true) (k1 : PySem.W.keepIn K (.ref f1) = true)
    (a2 : PySem.W.nsIn K mainGlobals "is_ascending" = some (some (.ref f2))) (l2 : K.lookup f2 = some ⟨oc2, od2, .func (PySem.W.fnOf "is_ascending" "is_ascending" (defArgs sAscending) (defBody sAscending) (defScope sAscending) .none kV2 dc2 pm2 an2 cd2 ct2), sl2⟩) (c2 : PySem.W.codeIn K cd2 "is_ascending" = true) (k2 : PySem.W.keepIn K (.ref f2) = true)
    (a3 : PySem.W.nsIn K mainGlobals "is_name" = some (some (.ref f3))) (l3 : K.lookup f3 = some ⟨oc3, od3, .func (PySem.W.fnOf "is_name" "is_name" (defArgs sIsName) (defBody sIsName) (defScope sIsName) .none kV3 dc3 pm3 an3 cd3 ct3), sl3⟩) (c3 : PySem.W.codeIn K cd3 "is_name" = true) (k3 : PySem.W.keepIn K (.ref f3) = true)
    (a4 : PySem.W.nsIn K mainGlobals "is_instruction" = some (some (.ref f4))) (l4 : K.lookup f4 = some ⟨oc4, od4, .func (PySem.W.fnOf "is_instruction" "is_instruction" (defArgs sIsInstr) (defBody sIsInstr) (defScope sIsInstr) .none kV4 dc4 pm4 an4 cd4 ct4), sl4⟩) (c4 : PySem.W.codeIn K cd4 "is_instruction" = true) (k4 : PySem.W.keepIn K (.ref f4) = true)
    (a5 : PySem.W.nsIn K mainGlobals "are_instructions" = some (some (.ref f5))) (l5 : K.lookup f5 = some ⟨oc5, od5, .func (PySem.W.fnOf "are_instructions" "are_instructions" (defArgs sAreInstr) (defBody sAreInstr) (defScope sAreInstr) .none kV5 dc5 pm5 an5 cd5 ct5), sl5⟩) (c5 : PySem.W.codeIn K cd5 "are_instructions" = true) (k5 : PySem.W.keepIn K (.ref f5) = true)
    (a6 : PySem.W.nsIn K mainGlobals "walk" = some (some (.ref f6))) (l6 : K.lookup f6 = some ⟨oc6, od6, .func (PySem.W.fnOf "walk" "walk" (defArgs sWalk) (defBody sWalk) (defScope sWalk) .none kV6 dc6 pm6 an6 cd6 ct6), sl6⟩) (c6 : PySem.W.codeIn K cd6 "walk" = true) (k6 : PySem.W.keepIn K (.ref f6) = true)
    (a7 : PySem.W.nsIn K mainGlobals "countdown_behind" = some (some (.ref f7))) (l7 : K.lookup f7 = some ⟨oc7, od7, .func (PySem.W.fnOf "countdown_behind" "countdown_behind" (defArgs sBehind) (defBody sBehind) (defScope sBehind) .none kV7 dc7 pm7 an7 cd7 ct7), sl7⟩) (c7 : PySem.W.codeIn K cd7 "countdown_behind" = true) (k7 : PySem.W.keepIn K (.ref f7) = true)
    (a8 : PySem.W.nsIn K mainGlobals "decoder_pair" = some (some (.ref f8))) (l8 : K.lookup f8 = some ⟨oc8, od8, .func (PySem.W.fnOf "decoder_pair" "decoder_pair" (defArgs sPair) (defBody sPair) (defScope sPair) .none kV8 dc8 pm8 an8 cd8 ct8), sl8⟩) (c8 : PySem.W.codeIn K cd8 "decoder_pair" = true) (k8 : PySem.W.keepIn K (.ref f8) = true)
    (a9 : PySem.W.nsIn K mainGlobals "code_map" = some (some (.ref f9))) (l9 : K.lookup f9 = some ⟨oc9, od9, .func (PySem.W.fnOf "code_map" "code_map" (defArgs sCodeMap) (defBody sCodeMap) (defScope sCodeMap) .none kV9 dc9 pm9 an9 cd9 ct9), sl9⟩) (c9 : PySem.W.codeIn K cd9 "code_map" = true) (k9 : PySem.W.keepIn K (.ref f9) = true)
    (a10 : PySem.W.nsIn K mainGlobals "compose_maps" = some (some (.ref f10))) (l10 : K.lookup f10 = some ⟨oc10, od10, .func (PySem.W.fnOf "compose_maps" "compose_maps" (defArgs sCompose) (defBody sCompose) (defScope sCompose) .none kV10 dc10 pm10 an10 cd10 ct10), sl10⟩) (c10 : PySem.W.codeIn K cd10 "compose_maps" = true) (k10 : PySem.W.keepIn K (.ref f10) = true)
    (a11 : PySem.W.nsIn K mainGlobals "repeat_map" = some (some (.ref f11))) (l11 : K.lookup f11 = some ⟨oc11, od11, .func (PySem.W.fnOf "repeat_map" "repeat_map" (defArgs sRepeat) (defBody sRepeat) (defScope sRepeat) .none kV11 dc11 pm11 an11 cd11 ct11), sl11⟩) (c11 : PySem.W.codeIn K cd11 "repeat_map" = true) (k11 : PySem.W.keepIn K (.ref f11) = true)
    (a12 : PySem.W.nsIn K mainGlobals "continued" = some (some (.ref f12))) (l12 : K.lookup f12 = some ⟨oc12, od12, .func (PySem.W.fnOf "continued" "continued" (defArgs sCont) (defBody sCont) (defScope sCont) .none kV12 dc12 pm12 an12 cd12 ct12), sl12⟩) (c12 : PySem.W.codeIn K cd12 "continued" = true) (k12 : PySem.W.keepIn K (.ref f12) = true)
    (a13 : PySem.W.nsIn K mainGlobals "unchanged" = some (some (.ref f13))) (l13 : K.lookup f13 = some ⟨oc13, od13, .func (PySem.W.fnOf "unchanged" "unchanged" (defArgs sUnch) (defBody sUnch) (defScope sUnch) .none kV13 dc13 pm13 an13 cd13 ct13), sl13⟩) (c13 : PySem.W.codeIn K cd13 "unchanged" = true) (k13 : PySem.W.keepIn K (.ref f13) = true)
    (a14 : PySem.W.nsIn K mainGlobals "identity_map" = some (some (.ref f14))) (l14 : K.lookup f14 = some ⟨oc14, od14, .func (PySem.W.fnOf "identity_map" "identity_map" (defArgs sIdMap) (defBody sIdMap) (defScope sIdMap) .none kV14 dc14 pm14 an14 cd14 ct14), sl14⟩) (c14 : PySem.W.codeIn K cd14 "identity_map" = true) (k14 : PySem.W.keepIn K (.ref f14) = true)
    (a15 : PySem.W.nsIn K mainGlobals "_law_box" = some (some (.ref f15))) (l15 : K.lookup f15 = some ⟨oc15, od15, .func (PySem.W.fnOf "_law_box" "_law_box" (defArgs sBox) (defBody sBox) (defScope sBox) .none kV15 dc15 pm15 an15 cd15 ct15), sl15⟩) (c15 : PySem.W.codeIn K cd15 "_law_box" = true) (k15 : PySem.W.keepIn K (.ref f15) = true)
    (a16 : PySem.W.nsIn K mainGlobals "_law_take" = some (some (.ref f16))) (l16 : K.lookup f16 = some ⟨oc16, od16, .func (PySem.W.fnOf "_law_take" "_law_take" (defArgs sTake) (defBody sTake) (defScope sTake) .none kV16 dc16 pm16 an16 cd16 ct16), sl16⟩) (c16 : PySem.W.codeIn K cd16 "_law_take" = true) (k16 : PySem.W.keepIn K (.ref f16) = true)
    (a17 : PySem.W.nsIn K mainGlobals "_law_of" = some (some (.ref f17))) (l17 : K.lookup f17 = some ⟨oc17, od17, .func (PySem.W.fnOf "_law_of" "_law_of" (defArgs sOf) (defBody sOf) (defScope sOf) .none kV17 dc17 pm17 an17 cd17 ct17), sl17⟩) (c17 : PySem.W.codeIn K cd17 "_law_of" = true) (k17 : PySem.W.keepIn K (.ref f17) = true)
    (a18 : PySem.W.nsIn K mainGlobals "_law_table" = some (some (.ref f18))) (l18 : K.lookup f18 = some ⟨oc18, od18, .func (PySem.W.fnOf "_law_table" "_law_table" (defArgs sTable) (defBody sTable) (defScope sTable) .none kV18 dc18 pm18 an18 cd18 ct18), sl18⟩) (c18 : PySem.W.codeIn K cd18 "_law_table" = true) (k18 : PySem.W.keepIn K (.ref f18) = true)
    (a19 : PySem.W.nsIn K mainGlobals "_law_bytes" = some (some (.ref f19))) (l19 : K.lookup f19 = some ⟨oc19, od19, .func (PySem.W.fnOf "_law_bytes" "_law_bytes" (defArgs sBytes) (defBody sBytes) (defScope sBytes) .none kV19 dc19 pm19 an19 cd19 ct19), sl19⟩) (c19 : PySem.W.codeIn K cd19 "_law_bytes" = true) (k19 : PySem.W.keepIn K (.ref f19) = true)
    (a20 : PySem.W.nsIn K mainGlobals "_law_length_at" = some (some (.ref f20))) (l20 : K.lookup f20 = some ⟨oc20, od20, .func (PySem.W.fnOf "_law_length_at" "_law_length_at" (defArgs sLLenAt) (defBody sLLenAt) (defScope sLLenAt) .none kV20 dc20 pm20 an20 cd20 ct20), sl20⟩) (c20 : PySem.W.codeIn K cd20 "_law_length_at" = true) (k20 : PySem.W.keepIn K (.ref f20) = true)
    (a21 : PySem.W.nsIn K mainGlobals "_law_longest" = some (some (.ref f21))) (l21 : K.lookup f21 = some ⟨oc21, od21, .func (PySem.W.fnOf "_law_longest" "_law_longest" (defArgs sLLongest) (defBody sLLongest) (defScope sLLongest) .none kV21 dc21 pm21 an21 cd21 ct21), sl21⟩) (c21 : PySem.W.codeIn K cd21 "_law_longest" = true) (k21 : PySem.W.keepIn K (.ref f21) = true)
    (a22 : PySem.W.nsIn K mainGlobals "_law_machine" = some (some (.ref f22))) (l22 : K.lookup f22 = some ⟨oc22, od22, .func (PySem.W.fnOf "_law_machine" "_law_machine" (defArgs sMachine) (defBody sMachine) (defScope sMachine) .none kV22 dc22 pm22 an22 cd22 ct22), sl22⟩) (c22 : PySem.W.codeIn K cd22 "_law_machine" = true) (k22 : PySem.W.keepIn K (.ref f22) = true)
    (a23 : PySem.W.nsIn K mainGlobals "_law_map" = some (some (.ref f23))) (l23 : K.lookup f23 = some ⟨oc23, od23, .func (PySem.W.fnOf "_law_map" "_law_map" (defArgs sLMap) (defBody sLMap) (defScope sLMap) .none kV23 dc23 pm23 an23 cd23 ct23), sl23⟩) (c23 : PySem.W.codeIn K cd23 "_law_map" = true) (k23 : PySem.W.keepIn K (.ref f23) = true)
    (a24 : PySem.W.nsIn K mainGlobals "_law_powered" = some (some (.ref f24))) (l24 : K.lookup f24 = some ⟨oc24, od24, .func (PySem.W.fnOf "_law_powered" "_law_powered" (defArgs s_law_powered) (defBody s_law_powered) (defScope s_law_powered) .none kV24 dc24 pm24 an24 cd24 ct24), sl24⟩) (c24 : PySem.W.codeIn K cd24 "_law_powered" = true) (k24 : PySem.W.keepIn K (.ref f24) = true)
    (a25 : PySem.W.nsIn K mainGlobals "_law_small" = some (some (.ref f25))) (l25 : K.lookup f25 = some ⟨oc25, od25, .func (PySem.W.fnOf "_law_small" "_law_small" (defArgs sSmall) (defBody sSmall) (defScope sSmall) .none kV25 dc25 pm25 an25 cd25 ct25), sl25⟩) (c25 : PySem.W.codeIn K cd25 "_law_small" = true) (k25 : PySem.W.keepIn K (.ref f25) = true)
    (a26 : PySem.W.nsIn K mainGlobals "_law_right" = some (some (.ref f26))) (l26 : K.lookup f26 = some ⟨oc26, od26, .func (PySem.W.fnOf "_law_right" "_law_right" (defArgs sRight) (defBody sRight) (defScope sRight) .none kV26 dc26 pm26 an26 cd26 ct26), sl26⟩) (c26 : PySem.W.codeIn K cd26 "_law_right" = true) (k26 : PySem.W.keepIn K (.ref f26) = true)
    (a27 : PySem.W.nsIn K mainGlobals "law" = some (some (.ref f27))) (l27 : K.lookup f27 = some ⟨oc27, od27, .func (PySem.W.fnOf "law" "law" (defArgs sLaw) (defBody sLaw) (defScope sLaw) .none kV27 dc27 pm27 an27 cd27 ct27), sl27⟩) (c27 : PySem.W.codeIn K cd27 "law" = true) (k27 : PySem.W.keepIn K (.ref f27) = true)
    {C0 m0_0 m0_1 m0_2 : Addr} {mod0_0 man0_0 mod0_1 man0_1 mod0_2 man0_2 : Option Addr} {msl0_0 msl0_1 msl0_2 : Array (Option Value)} {moc0_0 mkV0_0 mdc0_0 mpm0_0 mcd0_0 mct0_0 moc0_1 mkV0_1 mdc0_1 mpm0_1 mcd0_1 mct0_1 moc0_2 mkV0_2 mdc0_2 mpm0_2 mcd0_2 mct0_2 : Value}
    (clA0 : PySem.W.nsIn K mainGlobals "InstructionSet" = some (some (.ref C0)))
    (ma0_0 : PySem.W.findIn K (.ref C0) "__init__" = some (some (.ref m0_0))) (mi0_0 : PySem.W.isFn K (.ref m0_0) = true) (ml0_0 : K.lookup m0_0 = some ⟨moc0_0, mod0_0, .func (PySem.W.fnOf "__init__" "InstructionSet.__init__" (defArgs sInitI) (defBody sInitI) (defScope sInitI) .none mkV0_0 mdc0_0 mpm0_0 man0_0 mcd0_0 mct0_0), msl0_0⟩) (mc0_0 : PySem.W.codeIn K mcd0_0 "InstructionSet.__init__" = true) (mk0_0 : PySem.W.keepIn K (.ref m0_0) = true)
    (ma0_1 : PySem.W.findIn K (.ref C0) "length_at" = some (some (.ref m0_1))) (mi0_1 : PySem.W.isFn K (.ref m0_1) = true) (ml0_1 : K.lookup m0_1 = some ⟨moc0_1, mod0_1, .func (PySem.W.fnOf "length_at" "InstructionSet.length_at" (defArgs sLenAt) (defBody sLenAt) (defScope sLenAt) .none mkV0_1 mdc0_1 mpm0_1 man0_1 mcd0_1 mct0_1), msl0_1⟩) (mc0_1 : PySem.W.codeIn K mcd0_1 "InstructionSet.length_at" = true) (mk0_1 : PySem.W.keepIn K (.ref m0_1) = true)
    (ma0_2 : PySem.W.findIn K (.ref C0) "longest" = some (some (.ref m0_2))) (mi0_2 : PySem.W.isFn K (.ref m0_2) = true) (ml0_2 : K.lookup m0_2 = some ⟨moc0_2, mod0_2, .func (PySem.W.fnOf "longest" "InstructionSet.longest" (defArgs sLongest) (defBody sLongest) (defScope sLongest) .none mkV0_2 mdc0_2 mpm0_2 man0_2 mcd0_2 mct0_2), msl0_2⟩) (mc0_2 : PySem.W.codeIn K mcd0_2 "InstructionSet.longest" = true) (mk0_2 : PySem.W.keepIn K (.ref m0_2) = true)
    (pg0 : PySem.W.plainGet K C0 Str.empty = true) (hd0 : PySem.W.hasDictIn K C0 = true) (po0 : PySem.W.plainOver K C0 = true) (sa0 : PySem.W.findIn K (.ref C0) "__setattr__" = some (some (.builtin "object.__setattr__"))) (mks0 : PySem.W.makesIn K C0 = true) (kc0 : PySem.W.keepIn K (.ref C0) = true)
    (na0_0 : PySem.W.findIn K (.ref C0) "byte_count" = some none)
    (na0_1 : PySem.W.findIn K (.ref C0) "instructions" = some none)
    (na0_2 : PySem.W.findIn K (.ref C0) "length_of_opcode" = some none)
    (na0_3 : PySem.W.findIn K (.ref C0) "opcode_of_name" = some none)
    (cst0 : PySem.W.nsIn K mainGlobals "LEAST_BYTE_COUNT" = some (some (.int 2 tk0)))
    (cst1 : PySem.W.nsIn K mainGlobals "MOST_BYTE_COUNT" = some (some (.int 256 tk1)))
    (cst2 : PySem.W.nsIn K mainGlobals "MOST_LETTERS" = some (some (.int 8 tk2)))
    (cst3 : PySem.W.nsIn K mainGlobals "MOST_LENGTH" = some (some (.int 12 tk3)))
    (bz0 : PySem.W.nsIn K mainGlobals "isinstance" = some none)
    (bz1 : PySem.W.nsIn K mainGlobals "int" = some none)
    (bz2 : PySem.W.nsIn K mainGlobals "bool" = some none)
    (bz3 : PySem.W.nsIn K mainGlobals "tuple" = some none)
    (bz4 : PySem.W.nsIn K mainGlobals "list" = some none)
    (bz5 : PySem.W.nsIn K mainGlobals "all" = some none)
    (bz6 : PySem.W.nsIn K mainGlobals "any" = some none)
    (bz7 : PySem.W.nsIn K mainGlobals "zip" = some none)
    (bz8 : PySem.W.nsIn K mainGlobals "len" = some none)
    (bz9 : PySem.W.nsIn K mainGlobals "range" = some none)
    (bz10 : PySem.W.nsIn K mainGlobals "abs" = some none)
    (bz11 : PySem.W.nsIn K mainGlobals "sorted" = some none)
    (bz12 : PySem.W.nsIn K mainGlobals "min" = some none)
    (bz13 : PySem.W.nsIn K mainGlobals "repr" = some none)
    (bz14 : PySem.W.nsIn K mainGlobals "max" = some none)
    (bz15 : PySem.W.nsIn K mainGlobals "sum" = some none)
    (bz16 : PySem.W.nsIn K mainGlobals "enumerate" = some none)
    (bz17 : PySem.W.nsIn K mainGlobals "str" = some none)
    (bz18 : PySem.W.nsIn K mainGlobals "set" = some none)
    (bz19 : PySem.W.nsIn K mainGlobals "dict" = some none)
    (bz20 : PySem.W.nsIn K mainGlobals "ValueError" = some none)
    : ∃ fd : FuncData, (∀ (s : Shared) (v : Value), BindsTo s fd ⟨[v], []⟩ [("_law_script", v)]) ∧ ∀ base : Heap, K.In base → base.Ns mainGlobals mg → FnG P w K mg base 9 fa fd ["_law_script"] (spLaw K) := by
  have e := hfa.symm.trans (PySem.W.mg_of X G a27)
  cases e
  have T : Bi mg := ⟨PySem.W.mg_none_of X G bz0, PySem.W.mg_none_of X G bz1, PySem.W.mg_none_of X G bz2, PySem.W.mg_none_of X G bz3, PySem.W.mg_none_of X G bz4, PySem.W.mg_none_of X G bz5, PySem.W.mg_none_of X G bz6, PySem.W.mg_none_of X G bz7, PySem.W.mg_none_of X G bz8, PySem.W.mg_none_of X G bz9, PySem.W.mg_none_of X G bz10, PySem.W.mg_none_of X G bz11, PySem.W.mg_none_of X G bz12, PySem.W.mg_none_of X G bz13, PySem.W.mg_none_of X G bz14, PySem.W.mg_none_of X G bz15, PySem.W.mg_none_of X G bz16, PySem.W.mg_none_of X G bz17, PySem.W.mg_none_of X G bz18, PySem.W.mg_none_of X G bz19, PySem.W.mg_none_of X G bz20⟩
  have FIz := fun_mk (st := sIsInt) l0 c0 k0
  have DIz : Def K mg "is_integer" sIsInt f0 _ ["value"] := ⟨FIz, PySem.W.mg_of X G a0, FIz.binds (ps := ["value"]) fun _ _ _ _ _ _ us hl => match us, hl with | [_], _ => rfl⟩
  have FBt := fun_mk (st := sBetween) l1 c1 k1
  have DBt : Def K mg "is_integer_between" sBetween f1 _ ["value", "least", "most"] := ⟨FBt, PySem.W.mg_of X G a1, FBt.binds (ps := ["value", "least", "most"]) fun _ _ _ _ _ _ us hl => match us, hl with | [_, _, _], _ => rfl⟩
  have FAs := fun_mk (st := sAscending) l2 c2 k2
  have DAs : Def K mg "is_ascending" sAscending f2 _ ["numbers"] := ⟨FAs, PySem.W.mg_of X G a2, FAs.binds (ps := ["numbers"]) fun _ _ _ _ _ _ us hl => match us, hl with | [_], _ => rfl⟩
  have FNm := fun_mk (st := sIsName) l3 c3 k3
  have DNm : Def K mg "is_name" sIsName f3 _ ["value"] := ⟨FNm, PySem.W.mg_of X G a3, FNm.binds (ps := ["value"]) fun _ _ _ _ _ _ us hl => match us, hl with | [_], _ => rfl⟩
  have FIn := fun_mk (st := sIsInstr) l4 c4 k4
  have DIn : Def K mg "is_instruction" sIsInstr f4 _ ["byte_count", "value"] := ⟨FIn, PySem.W.mg_of X G a4, FIn.binds (ps := ["byte_count", "value"]) fun _ _ _ _ _ _ us hl => match us, hl with | [_, _], _ => rfl⟩
  have FAI := fun_mk (st := sAreInstr) l5 c5 k5
  have DAI : Def K mg "are_instructions" sAreInstr f5 _ ["byte_count", "value"] := ⟨FAI, PySem.W.mg_of X G a5, FAI.binds (ps := ["byte_count", "value"]) fun _ _ _ _ _ _ us hl => match us, hl with | [_, _], _ => rfl⟩
  have FWa := fun_mk (st := sWalk) l6 c6 k6
  have DWa : Def K mg "walk" sWalk f6 _ ["instruction_set", "code", "entry"] := ⟨FWa, PySem.W.mg_of X G a6, FWa.binds (ps := ["instruction_set", "code", "entry"]) fun _ _ _ _ _ _ us hl => match us, hl with | [_, _, _], _ => rfl⟩
  have FBh := fun_mk (st := sBehind) l7 c7 k7
  have DBh : Def K mg "countdown_behind" sBehind f7 _ ["code", "following"] := ⟨FBh, PySem.W.mg_of X G a7, FBh.binds (ps := ["code", "following"]) fun _ _ _ _ _ _ us hl => match us, hl with | [_, _], _ => rfl⟩
  have FDp := fun_mk (st := sPair) l8 c8 k8
  have DDp : Def K mg "decoder_pair" sPair f8 _ ["instruction_set", "code", "countdown"] := ⟨FDp, PySem.W.mg_of X G a8, FDp.binds (ps := ["instruction_set", "code", "countdown"]) fun _ _ _ _ _ _ us hl => match us, hl with | [_, _, _], _ => rfl⟩
  have FCM := fun_mk (st := sCodeMap) l9 c9 k9
  have DCM : Def K mg "code_map" sCodeMap f9 _ ["instruction_set", "code"] := ⟨FCM, PySem.W.mg_of X G a9, FCM.binds (ps := ["instruction_set", "code"]) fun _ _ _ _ _ _ us hl => match us, hl with | [_, _], _ => rfl⟩
  have FCp := fun_mk (st := sCompose) l10 c10 k10
  have DCp : Def K mg "compose_maps" sCompose f10 _ ["first", "second"] := ⟨FCp, PySem.W.mg_of X G a10, FCp.binds (ps := ["first", "second"]) fun _ _ _ _ _ _ us hl => match us, hl with | [_, _], _ => rfl⟩
  have FRp := fun_mk (st := sRepeat) l11 c11 k11
  have DRp : Def K mg "repeat_map" sRepeat f11 _ ["summary", "times"] := ⟨FRp, PySem.W.mg_of X G a11, FRp.binds (ps := ["summary", "times"]) fun _ _ _ _ _ _ us hl => match us, hl with | [_, _], _ => rfl⟩
  have FCn := fun_mk (st := sCont) l12 c12 k12
  have DCn : Def K mg "continued" sCont f12 _ ["pair", "second"] := ⟨FCn, PySem.W.mg_of X G a12, FCn.binds (ps := ["pair", "second"]) fun _ _ _ _ _ _ us hl => match us, hl with | [_, _], _ => rfl⟩
  have FUn := fun_mk (st := sUnch) l13 c13 k13
  have DUn : Def K mg "unchanged" sUnch f13 _ ["count"] := ⟨FUn, PySem.W.mg_of X G a13, FUn.binds (ps := ["count"]) fun _ _ _ _ _ _ us hl => match us, hl with | [_], _ => rfl⟩
  have FId := fun_mk (st := sIdMap) l14 c14 k14
  have DId : Def K mg "identity_map" sIdMap f14 _ ["instruction_set"] := ⟨FId, PySem.W.mg_of X G a14, FId.binds (ps := ["instruction_set"]) fun _ _ _ _ _ _ us hl => match us, hl with | [_], _ => rfl⟩
  have FBo := fun_mk (st := sBox) l15 c15 k15
  have DBo : Def K mg "_law_box" sBox f15 _ ["_law_script", "_law_k"] := ⟨FBo, PySem.W.mg_of X G a15, FBo.binds (ps := ["_law_script", "_law_k"]) fun _ _ _ _ _ _ us hl => match us, hl with | [_, _], _ => rfl⟩
  have FTa := fun_mk (st := sTake) l16 c16 k16
  have DTa : Def K mg "_law_take" sTake f16 _ ["_law_box_here", "_law_many"] := ⟨FTa, PySem.W.mg_of X G a16, FTa.binds (ps := ["_law_box_here", "_law_many"]) fun _ _ _ _ _ _ us hl => match us, hl with | [_, _], _ => rfl⟩
  have FOf := fun_mk (st := sOf) l17 c17 k17
  have DOf : Def K mg "_law_of" sOf f17 _ ["_law_box_here", "_law_some"] := ⟨FOf, PySem.W.mg_of X G a17, FOf.binds (ps := ["_law_box_here", "_law_some"]) fun _ _ _ _ _ _ us hl => match us, hl with | [_, _], _ => rfl⟩
  have FTb2 := fun_mk (st := sTable) l18 c18 k18
  have DTb2 : Def K mg "_law_table" sTable f18 _ ["_law_box_here", "_law_most_bytes", "_law_longest_here"] := ⟨FTb2, PySem.W.mg_of X G a18, FTb2.binds (ps := ["_law_box_here", "_law_most_bytes", "_law_longest_here"]) fun _ _ _ _ _ _ us hl => match us, hl with | [_, _, _], _ => rfl⟩
  have FBy := fun_mk (st := sBytes) l19 c19 k19
  have DBy : Def K mg "_law_bytes" sBytes f19 _ ["_law_box_here", "_law_table_here", "_law_many"] := ⟨FBy, PySem.W.mg_of X G a19, FBy.binds (ps := ["_law_box_here", "_law_table_here", "_law_many"]) fun _ _ _ _ _ _ us hl => match us, hl with | [_, _, _], _ => rfl⟩
  have FLLa := fun_mk (st := sLLenAt) l20 c20 k20
  have DLLa : Def K mg "_law_length_at" sLLenAt f20 _ ["_law_table_here", "_law_byte"] := ⟨FLLa, PySem.W.mg_of X G a20, FLLa.binds (ps := ["_law_table_here", "_law_byte"]) fun _ _ _ _ _ _ us hl => match us, hl with | [_, _], _ => rfl⟩
  have FLLg := fun_mk (st := sLLongest) l21 c21 k21
  have DLLg : Def K mg "_law_longest" sLLongest f21 _ ["_law_table_here"] := ⟨FLLg, PySem.W.mg_of X G a21, FLLg.binds (ps := ["_law_table_here"]) fun _ _ _ _ _ _ us hl => match us, hl with | [_], _ => rfl⟩
  have FMa := fun_mk (st := sMachine) l22 c22 k22
  have DMa : Def K mg "_law_machine" sMachine f22 _ ["_law_table_here"] := ⟨FMa, PySem.W.mg_of X G a22, FMa.binds (ps := ["_law_table_here"]) fun _ _ _ _ _ _ us hl => match us, hl with | [_], _ => rfl⟩
  have FLMp := fun_mk (st := sLMap) l23 c23 k23
  have DLMp : Def K mg "_law_map" sLMap f23 _ ["_law_table_here", "_law_code"] := ⟨FLMp, PySem.W.mg_of X G a23, FLMp.binds (ps := ["_law_table_here", "_law_code"]) fun _ _ _ _ _ _ us hl => match us, hl with | [_, _], _ => rfl⟩
  have FPw := fun_mk (st := s_law_powered) l24 c24 k24
  have DPw : Def K mg "_law_powered" s_law_powered f24 _ ["_law_whole", "_law_times"] := ⟨FPw, PySem.W.mg_of X G a24, FPw.binds (ps := ["_law_whole", "_law_times"]) fun _ _ _ _ _ _ us hl => match us, hl with | [_, _], _ => rfl⟩
  have FSm := fun_mk (st := sSmall) l25 c25 k25
  have DSm : Def K mg "_law_small" sSmall f25 _ ["_law_box_here"] := ⟨FSm, PySem.W.mg_of X G a25, FSm.binds (ps := ["_law_box_here"]) fun _ _ _ _ _ _ us hl => match us, hl with | [_], _ => rfl⟩
  have FRi := fun_mk (st := sRight) l26 c26 k26
  have DRi : Def K mg "_law_right" sRight f26 _ ["_law_box_here"] := ⟨FRi, PySem.W.mg_of X G a26, FRi.binds (ps := ["_law_box_here"]) fun _ _ _ _ _ _ us hl => match us, hl with | [_], _ => rfl⟩
  have FLa := fun_mk (st := sLaw) l27 c27 k27
  have FIi := fun_mk (st := sInitI) ml0_0 mc0_0 mk0_0
  have bIi := FIi.binds (ps := ["self", "byte_count", "instructions"]) fun _ _ _ _ _ _ us hl => match us, hl with | [_, _, _], _ => rfl
  have FLA := fun_mk (st := sLenAt) ml0_1 mc0_1 mk0_1
  have bLA := FLA.binds (ps := ["self", "byte"]) fun _ _ _ _ _ _ us hl => match us, hl with | [_, _], _ => rfl
  have FLo := fun_mk (st := sLongest) ml0_2 mc0_2 mk0_2
  have bLo := FLo.binds (ps := ["self"]) fun _ _ _ _ _ _ us hl => match us, hl with | [_], _ => rfl
  have CLb : ∃ t, mg "LEAST_BYTE_COUNT" = some (.int 2 t) := ⟨_, PySem.W.mg_of X G cst0⟩
  have CMb : ∃ t, mg "MOST_BYTE_COUNT" = some (.int 256 t) := ⟨_, PySem.W.mg_of X G cst1⟩
  have CMt : ∃ t, mg "MOST_LETTERS" = some (.int 8 t) := ⟨_, PySem.W.mg_of X G cst2⟩
  have CMn : ∃ t, mg "MOST_LENGTH" = some (.int 12 t) := ⟨_, PySem.W.mg_of X G cst3⟩

  refine ⟨PySem.W.fnOf "law" "law" (defArgs sLaw) (defBody sLaw) (defScope sLaw) .none kV27 dc27 pm27 an27 cd27 ct27, fun s v => .of_eq rfl, fun base _ _ => ?_⟩
  have S : SetTxt K mg C0 := ⟨⟨pg0, hd0, po0, sa0⟩, na0_0, na0_1, na0_2, na0_3, PySem.W.mg_of X G clA0⟩
  have GIn : FnOk P w K mg base CX0 3 _ _ ["byte_count", "value"] spInstr := ok_instr FIn T DBt (ok_between FBt T DIz) DNm CMt CMn
  have GAI : FnOk P w K mg base CX0 4 _ _ ["byte_count", "value"] spAreI := ok_areI FAI T DIn GIn DAs (ok_ascL FAs T)
  have GIi : FnOk P w K mg base CX0 5 _ _ ["self", "byte_count", "instructions"] (spInitI C0) := ok_initI FIi T S DBt (ok_between FBt T DIz) DAI GAI CLb CMb
  have GTb : FnOk P w K mg base CX0 6 _ _ ["_law_box_here", "_law_most_bytes", "_law_longest_here"] spTable := ok_table FTb2 T DOf DTa
  have GBy : FnOk P w K mg base CX0 7 _ _ ["_law_box_here", "_law_table_here", "_law_many"] spBytes := ok_bytes FBy T DOf (ok_of (k := 4) FOf T DTa) DTa (ok_take FTa)
  have GSm : FnOk P w K mg base CX0 7 _ _ ["_law_box_here"] spSmall := ok_small FSm DOf (ok_of (k := 4) FOf T DTa) DTa (ok_take FTa) DTb2 GTb
  have GMa : FnOk P w K mg base CX0 7 _ _ ["_law_table_here"] (spMachine C0) := ok_machine FMa S ⟨mks0, ma0_0, mi0_0, kc0⟩ bIi GIi
  have GLA : FnOk P w K mg base CX0 4 _ _ ["self", "byte"] (spLenAt C0) := ok_lenAt FLA S
  have GWa : FnOk P w K mg base CX0 5 _ _ ["instruction_set", "code", "entry"] (spWalk K C0) := ok_walk FWa T S ⟨ma0_1, mi0_1, mk0_1⟩ bLA GLA
  have GDp : FnOk P w K mg base CX0 6 _ _ ["instruction_set", "code", "countdown"] (spPair K C0) := ok_pair FDp T DWa GWa DBh (ok_behind FBh T)
  have GCM : FnOk P w K mg base CX0 7 _ _ ["instruction_set", "code"] (spCodeMap K C0) := ok_codeMap FCM T S DDp GDp ⟨ma0_2, mi0_2, mk0_2⟩ bLo (ok_longest FLo T S)
  have GLM : FnOk P w K mg base CX0 7 _ _ ["_law_table_here", "_law_code"] (spLMap K) := ok_lmap FLMp T DLLa (ok_llenAt (k := 5) FLLa) DLLg (ok_llongest FLLg T)
  have GId : FnOk P w K mg base CX0 7 _ _ ["instruction_set"] (spIdMap C0) := ok_idMap FId S DUn (ok_unch (k := 5) FUn T) ⟨ma0_2, mi0_2, mk0_2⟩ bLo (ok_longest FLo T S)
  have GCn : FnOk P w K mg base CX0 5 _ _ ["pair", "second"] spCont := ok_cont FCn
  have GCp : ∀ k, FnOk P w K mg base CX0 (k + 6) _ _ ["first", "second"] spComp := fun k => ok_comp FCp T DCn (ok_cont FCn)
  have GRp : FnOk P w K mg base CX0 7 _ _ ["summary", "times"] spRep := ok_rep FRp T DUn (ok_unch (k := 5) FUn T) DCp (GCp 0)
  have GRi : FnG P w K mg base 8 _ _ ["_law_box_here"] spRight := ok_right FRi T DSm GSm DMa GMa DBy GBy DTa (ok_take FTa) DOf (ok_of (k := 5) FOf T DTa) DCM GCM DLMp GLM DId GId DCp (GCp 1) DRp GRp DPw (ok_pow FPw T)
  exact ok_law FLa T DBo (ok_box FBo T) DRi GRi
end Ov
open PySem PySem.W PyProof.Rows
set_option maxRecDepth 100000 in
set_option maxHeartbeats 0 in
theorem PySem.Challenge.cw_overlapcode_k25_maps_composed_and_repeat_holds : PySem.Challenge.rw_overlapcode_k25_maps_composed_and_repeat.Holds := by
  w_on; o_law; k_head; (case hw => w_witness2)
  k_fill
  refine Ov.walkG (l := PySem.Challenge.rw_overlapcode_k25_maps_composed_and_repeat) (n := 63) (k := 9) (x := "_law_script") (sp := fun K => Ov.spLaw K) rfl (by decide) rfl ⟨rfl, by decide, by decide⟩ (fun w h Y => PySem.W.kIn_of Y) ?F (fun _ _ a ns hl hS => ⟨a, ns, rfl, hS, hl, fun _ => rfl⟩)
  case F =>
    intro w mg fa h KX G hmg
    refine' Ov.all_mk KX G hmg ?a0 ?l0 ?c0 ?k0 ?a1 ?l1 ?c1 ?k1 ?a2 ?l2 ?c2 ?k2 ?a3 ?l3 ?c3 ?k3 ?a4 ?l4 ?c4 ?k4 ?a5 ?l5 ?c5 ?k5 ?a6 ?l6 ?c6 ?k6 ?a7 ?l7 ?c7 ?k7 ?a8 ?l8 ?c8 ?k8 ?a9 ?l9 ?c9 ?k9 ?a10 ?l10 ?c10 ?k10 ?a11 ?l11 ?c11 ?k11 ?a12 ?l12 ?c12 ?k12 ?a13 ?l13 ?c13 ?k13 ?a14 ?l14 ?c14 ?k14 ?a15 ?l15 ?c15 ?k15 ?a16 ?l16 ?c16 ?k16 ?a17 ?l17 ?c17 ?k17 ?a18 ?l18 ?c18 ?k18 ?a19 ?l19 ?c19 ?k19 ?a20 ?l20 ?c20 ?k20 ?a21 ?l21 ?c21 ?k21 ?a22 ?l22 ?c22 ?k22 ?a23 ?l23 ?c23 ?k23 ?a24 ?l24 ?c24 ?k24 ?a25 ?l25 ?c25 ?k25 ?a26 ?l26 ?c26 ?k26 ?a27 ?l27 ?c27 ?k27 ?clA0 ?ma0_0 ?mi0_0 ?ml0_0 ?mc0_0 ?mk0_0 ?ma0_1 ?mi0_1 ?ml0_1 ?mc0_1 ?mk0_1 ?ma0_2 ?mi0_2 ?ml0_2 ?mc0_2 ?mk0_2 ?pg0 ?hd0 ?po0 ?sa0 ?mks0 ?kc0 ?na0_0 ?na0_1 ?na0_2 ?na0_3 ?cst0 ?cst1 ?cst2 ?cst3 ?bz0 ?bz1 ?bz2 ?bz3 ?bz4 ?bz5 ?bz6 ?bz7 ?bz8 ?bz9 ?bz10 ?bz11 ?bz12 ?bz13 ?bz14 ?bz15 ?bz16 ?bz17 ?bz18 ?bz19 ?bz20
    (case a0 => k_is)
    (case l0 => k_is)
    (case c0 => k_is)
    (case k0 => k_is)
    (case a1 => k_is)
    (case l1 => k_is)
    (case c1 => k_is)
    (case k1 => k_is)
    (case a2 => k_is)
    (case l2 => k_is)
    (case c2 => k_is)
    (case k2 => k_is)
    (case a3 => k_is)
    (case l3 => k_is)
    (case c3 => k_is)
    (case k3 => k_is)
    (case a4 => k_is)
    (case l4 => k_is)
    (case c4 => k_is)
    (case k4 => k_is)
    (case a5 => k_is)
    (case l5 => k_is)
    (case c5 => k_is)
    (case k5 => k_is)
    (case a6 => k_is)
    (case l6 => k_is)
    (case c6 => k_is)
    (case k6 => k_is)
    (case a7 => k_is)
    (case l7 => k_is)
    (case c7 => k_is)
    (case k7 => k_is)
    (case a8 => k_is)
    (case l8 => k_is)
    (case c8 => k_is)
    (case k8 => k_is)
    (case a9 => k_is)
    (case l9 => k_is)
    (case c9 => k_is)
    (case k9 => k_is)
    (case a10 => k_is)
    (case l10 => k_is)
    (case c10 => k_is)
    (case k10 => k_is)
    (case a11 => k_is)
    (case l11 => k_is)
    (case c11 => k_is)
    (case k11 => k_is)
    (case a12 => k_is)
    (case l12 => k_is)
    (case c12 => k_is)
    (case k12 => k_is)
    (case a13 => k_is)
    (case l13 => k_is)
    (case c13 => k_is)
    (case k13 => k_is)
    (case a14 => k_is)
    (case l14 => k_is)
    (case c14 => k_is)
    (case k14 => k_is)
    (case a15 => k_is)
    (case l15 => k_is)
    (case c15 => k_is)
    (case k15 => k_is)
    (case a16 => k_is)
    (case l16 => k_is)
    (case c16 => k_is)
    (case k16 => k_is)
    (case a17 => k_is)
    (case l17 => k_is)
    (case c17 => k_is)
    (case k17 => k_is)
    (case a18 => k_is)
    (case l18 => k_is)
    (case c18 => k_is)
    (case k18 => k_is)
    (case a19 => k_is)
    (case l19 => k_is)
    (case c19 => k_is)
    (case k19 => k_is)
    (case a20 => k_is)
    (case l20 => k_is)
    (case c20 => k_is)
    (case k20 => k_is)
    (case a21 => k_is)
    (case l21 => k_is)
    (case c21 => k_is)
    (case k21 => k_is)
    (case a22 => k_is)
    (case l22 => k_is)
    (case c22 => k_is)
    (case k22 => k_is)
    (case a23 => k_is)
    (case l23 => k_is)
    (case c23 => k_is)
    (case k23 => k_is)
    (case a24 => k_is)
    (case l24 => k_is)
    (case c24 => k_is)
    (case k24 => k_is)
    (case a25 => k_is)
    (case l25 => k_is)
    (case c25 => k_is)
    (case k25 => k_is)
    (case a26 => k_is)
    (case l26 => k_is)
    (case c26 => k_is)
    (case k26 => k_is)
    (case a27 => k_is)
    (case l27 => k_is)
    (case c27 => k_is)
    (case k27 => k_is)
    (case clA0 => k_is)
    (case ma0_0 => k_is)
    (case mi0_0 => k_is)
    (case ml0_0 => k_is)
    (case mc0_0 => k_is)
    (case mk0_0 => k_is)
    (case ma0_1 => k_is)
    (case mi0_1 => k_is)
    (case ml0_1 => k_is)
    (case mc0_1 => k_is)
    (case mk0_1 => k_is)
    (case ma0_2 => k_is)
    (case mi0_2 => k_is)
    (case ml0_2 => k_is)
    (case mc0_2 => k_is)
    (case mk0_2 => k_is)
    (case pg0 => k_is)
    (case hd0 => k_is)
    (case po0 => k_is)
    (case sa0 => k_is)
    (case mks0 => k_is)
    (case kc0 => k_is)
    (case na0_0 => k_is)
    (case na0_1 => k_is)
    (case na0_2 => k_is)
    (case na0_3 => k_is)
    (case cst0 => k_is)
    (case cst1 => k_is)
    (case cst2 => k_is)
    (case cst3 => k_is)
    (case bz0 => k_is)
    (case bz1 => k_is)
    (case bz2 => k_is)
    (case bz3 => k_is)
    (case bz4 => k_is)
    (case bz5 => k_is)
    (case bz6 => k_is)
    (case bz7 => k_is)
    (case bz8 => k_is)
    (case bz9 => k_is)
    (case bz10 => k_is)
    (case bz11 => k_is)
    (case bz12 => k_is)
    (case bz13 => k_is)
    (case bz14 => k_is)
    (case bz15 => k_is)
    (case bz16 => k_is)
    (case bz17 => k_is)
    (case bz18 => k_is)
    (case bz19 => k_is)
    (case bz20 => k_is)
