import PyProof.Rows.All
import Wide.All
import OpenK.AllK
import Wide.FinOn
import HandS.ForMost
import HandS.IsInst
import HandS.Zip
import HandS.TupAny
import HandS.Wide
import HandS.More
import HandS.Walk
import HandS.RaiseMore
import HandS.Flow
import HandS.Conv
import HandS.MakeKwOnly
import KE.GoesMore
import HandS.Dict
import PyProof.NeData
import PyProof.ListNew
import KE.KDictZip
import HandS.DictTup
import KE.KDictKeyed
import KE.KDictDisplayH
import HandS.DictComp
import HandS.SetBool
import HandS.Strs
import HandS.SetFor
import KE.KRevSl
import HandS.TupMul
import PyProof.AutoSeq1
import KE.DataMinMax
import HandS.Small
import HandS.Text
import HandS.Codes
import HandS.ExcInit
import HandS.ExcField
import HandS.ExcIs
import HandS.ExcOwn
import HandS.ExcValue
import KE.KExcIs
import HandS.TupLe
import HandS.Defaults
import HandS.Deep
import HandS.SortInts
import HandS.SortRule
import HandS.RevRange
import HandS.TupSets
import HandS.SortOrd
import HandS.TryOnly
import PySem.Challenge.RW_overlapcode_k59_by_names
set_option Elab.async false
set_option linter.all false
set_option maxRecDepth 100000
set_option maxHeartbeats 4000000
namespace Ov
open PySem PySem.Spec PyProof.Rows L2
theorem same_upd {H : Hp} {p : Addr} {o : HO} (h : H p = none) : Same H (upd H p o) := fun b x e => by
  rw [upd_ne (ne_of_none e h)]
  exact e
theorem _root_.L2.Same.tup {K : PySem.W.Frag} {H H' : Hp} {a : Addr} {xs : List V} (e : Same H H') (h : SqT K H a xs) : SqT K H' a xs := by
  rcases h with (h | ⟨o, h⟩) | h
  · exact .inl (.inl (e _ _ h))
  · exact .inl (.inr ⟨o, e _ _ h⟩)
  · exact .inr h
/-- a new list in the making at D: all that stood before stands, D is new and holds acc -/
structure Mk (H H' : Hp) (D : Addr) (acc : List V) : Prop where
  same : Same H H'
  new : H D = none
  at_ : H' D = some (.lst acc)
theorem Mk.start {H : Hp} {D : Addr} (h : H D = none) : Mk H (upd H D (.lst [])) D [] := ⟨same_upd h, h, upd_same⟩
theorem Mk.put {H H' H4 : Hp} {D : Addr} {acc acc' : List V} (m : Mk H H' D acc) (s : Same H' H4) : Mk H (upd H4 D (.lst acc')) D acc' :=
  ⟨fun b o e => by rw [upd_ne (ne_of_none e m.new)]; exact s _ _ (m.same _ _ e), m.new, upd_same⟩
/-- two tuples walked abreast -/
theorem walk_zipT {K : PySem.W.Frag} {a b : Addr} {xs ys : List V} {n : Nat} (hn : n = min xs.length ys.length) : Walk (RZ.ItzT K a b) n (fun H => SqT K H a xs ∧ SqT K H b ys) (YPair (fun i => xs[i]?) (fun i => ys[i]?)) := by
  subst hn
  refine ⟨fun i _ hi q => ?_, fun _ q => ⟨xs, ys, q.1, q.2, by omega⟩, fun i H v H' _ q y => ?_⟩
  · have h1 : i < xs.length := by omega
    have h2 : i < ys.length := by omega
    exact ⟨xs, ys, xs[i], ys[i], q.1, q.2, by simp [h1], by simp [h2]⟩
  · obtain ⟨T, x, z, h1, h2, h3, h4, h5⟩ := y
    exact ⟨T, x, z, h1, h2, h3, h4 xs q.1, h5 ys q.2⟩
theorem cut1 (xs : List V) : cutV xs (some 1) none = xs.drop 1 := by
  unfold cutV
  rw [show HT.sIx xs.length 0 (some 1) = min 1 xs.length from HT.sIx_nat xs.length 0 1, HT.sIx_none]
  cases xs with
  | nil => rfl
  | cons x r =>
    rw [show min 1 (x :: r).length = 1 by
      rw [List.length_cons]
      omega]
    show (List.take ((x :: r).length - 1) r) = r
    rw [List.length_cons, Nat.add_sub_cancel]
    exact List.take_length
theorem cut1_whole {xs : List V} (h : HT.sIx xs.length 0 (some 1) = 0 ∧ HT.sIx xs.length xs.length none = xs.length) : xs = [] := by
  have h1 := h.1
  rw [show HT.sIx xs.length 0 (some 1) = min 1 xs.length from HT.sIx_nat xs.length 0 1] at h1
  cases xs with
  | nil => rfl
  | cons x r => rw [List.length_cons] at h1; omega
section
variable {X : Cx}
variable {k : Nat} {f : Addr} {fd : FuncData} {ps ks : List Str} {sp : Sp} {CX : CXT} {E : XK} {x : Str} {p pos : Pos} {kws : List PySem.Keyword} {tk : TA} {g : List Value → List Value → List Value} {gV : List V → List V → List V}
theorem pe_callK0 (F : FnOk X.prog X.w X.K X.mg X.base CX k f fd ps sp) (hr : Room k X.A) (hg : Gl X x) (hm : X.mg x = some (.ref f)) (hk : PySem.W.keepIn X.K (.ref f) = true) (hb : KBinds X.K fd ps ks g gV) (hx : Passes CX X E)
    (hkw : PK X kws tk) (hall : (backToKw pos (keywordEach kws X.env)).all (·.1.isSome) = true := by rfl) (hks : (backToKw pos (keywordEach kws X.env)).filterMap (·.1) = ks := by rfl)
    (hdb : (x == ("__debug__" : Str)) = false := by decide)
    (hpl : ((backTo pos (starEach [] X.env)).any (·.1) || (backToKw pos (keywordEach kws X.env)).any (·.1.isNone)) = false := by rfl) :
    PE X (.Call (.Name x p) [] kws pos) (tCallK sp gV E tNil tk) := by
  refine ⟨fun pins s σ H Q I h => ?_⟩
  refine wpAny_Call_Name_kw (ld_glob I hg hm ?_ hdb)
  refine PySem.W.callWith_KW0 (h₀ := X.base) I.ok.mod.kin hk hall ?_ hpl
  refine thn (hkw.run pos pins s σ H _ I h) fun ws s2 ⟨zs, H2, I2, rz, q2⟩ => ⟨I2.kIn, ?_⟩
  rw [hks]
  exact run_fnk F hr hb hx I2 .nil rz q2
end
/-- the built-in names that the text leaves alone -/
structure Bi (mg : Str → Option Value) : Prop where
  isi : mg "isinstance" = none
  int : mg "int" = none
  bool : mg "bool" = none
  tuple : mg "tuple" = none
  list : mg "list" = none
  all : mg "all" = none
  any : mg "any" = none
  zip : mg "zip" = none
  len : mg "len" = none
  range : mg "range" = none
  abs : mg "abs" = none
  sorted : mg "sorted" = none
  min : mg "min" = none
  repr : mg "repr" = none
  max : mg "max" = none
  sum : mg "sum" = none
  enumerate : mg "enumerate" = none
  str : mg "str" = none
  set : mg "set" = none
  dict : mg "dict" = none
  vErr : mg "ValueError" = none
/-- where a def stands, and that its name tells it -/
structure Def (K : PySem.W.Frag) (mg : Str → Option Value) (x : Str) (st : Stmt) (f : Addr) (fd : FuncData) (ps : List Str) : Prop where
  fn : Fun K x x st f fd
  gl : mg x = some (.ref f)
  bi : Binds K fd ps []
theorem ixN_at {n j : Nat} (hj : j < n) : ixN n (j : Int) = some j := by
  unfold ixN
  rw [if_pos (by omega), if_pos (by omega)]
  simp
theorem take_more {α : Type} {l : List α} {i : Nat} {x : α} (h : l[i]? = some x) : l.take (i + 1) = l.take i ++ [x] := by
  rw [List.take_add_one, h]; rfl
theorem all_true (n : Nat) : (List.replicate n true).all id = true := by
  rw [List.all_eq_true]
  intro x hx
  exact (List.mem_replicate.mp hx).2
end Ov
namespace Ov
open PySem PySem.Spec PyProof.Rows L2
/-- the promise of a def, for calls under no guard -/
structure FnG (P : Program) (w : World) (K : PySem.W.Frag) (mg : Str → Option Value) (base : Heap) (k : Nat) (f : Addr) (fd : FuncData) (ps : List Str) (sp : Sp) : Prop where
  len : ∀ vs H Q E, sp vs H Q E → vs.length = ps.length
  run : ∀ (A : Around) (outer : List Env) (s : Shared) (H : Hp) (args : Args) (us : List Value) (vs : List V) (Q : VK) (E : XK),
    A.guards = some [] → Room k A → Env0 P w K mg base A outer s H → BindsTo s fd args (ps.zip us) → Vals vs us → sp vs H Q E →
    codeAny (model P w) A (.call (.ref f) args) (CR CX0 outer P w H s Q E) s
section
variable {P : Program} {w : World} {K : PySem.W.Frag} {mg : Str → Option Value} {base : Heap}
theorem okG {x qual : Str} {st : Stmt} {f : Addr} {fd : FuncData} {N ps : List Str} {k : Nat} {sp : Sp} (F : Fun K x qual st f fd) (S : FnScope N ps (defScope st)) (len : ∀ vs H Q E, sp vs H Q E → vs.length = ps.length)
    (body : ∀ (cdv : Value) (A : Around) (outer : List Env) (s : Shared) (H : Hp) (vs : List V) (Q : VK) (E : XK), A.guards = some [] → Room k (A.deeper (envOfC qual (defScope st) s.heap.objs.size f cdv)) → sp vs H Q E →
      ∃ t, PSs (cxOf CX0 P w K mg base N qual (defScope st) f cdv A outer s H E).nox (defBody st) t ∧ t { nx := fun _ H' => Q .non H', rt := Q } (start N vs) H) :
    FnG P w K mg base (k + 1) f fd ps sp := by
  obtain ⟨oc, od, kV, doc, pm, an, cdv, ct, osl, rfl, lk, hcd⟩ := F.ex
  constructor
  · exact len
  intro A outer s H args us vs Q E gd room env bnd rel pr
  obtain ⟨t, walk, reads⟩ := body cdv A outer s H vs Q E gd (room.deeper _) pr
  have down : ∀ b o, base.get? b = some o → s.heap.get? b = some o := fun b o e => (env.bs b o e).1
  have kin := env.mod.kin.keeps down
  have kinds : ∀ y ∈ ps.zip us, (defScope st).names.lookup y.1 = some .local ∨ ((defScope st).names.lookup y.1 = some .cell ∧ ((cellsFrom (s.heap.objs.size + 1) (defScope st).names []).lookup y.1).isSome = true) := by
    rintro ⟨y, v⟩ hy
    have hm := (List.of_mem_zip hy).1
    exact (S.par y hm).imp id fun q => ⟨q, PySem.W.cellsFrom_some _ _ _ (.inl q)⟩
  refine codeAny_call_function room.depth (kin _ _ lk) rfl S.co S.gen rfl (PySem.W.codeRec_of kin hcd) (bnd _ _ _ _ (wpAny_newFunctionEnv_cells S.kind kinds ?_))
  rintro env' rfl s1 ic
  refine ⟨(env.mod.nolimit.keeps down).keeps ic.toInCall.keep, codeAny_func (wpAny_mono (walk.nox.run [] s1 (start N vs) H _ (inv_start S room.hd env (len _ _ _ _ pr) rel ic) reads) ?_ fun _ _ h => h)⟩
  intro fl s' h
  cases fl with
  | brk => obtain ⟨_, _, _, q⟩ := h; exact q.elim
  | cont => obtain ⟨_, _, _, q⟩ := h; exact q.elim
  | next => obtain ⟨_, H', J, q⟩ := h; exact ⟨.non, H', J.os, J.bare, J.base, J.hok, rfl, q⟩
  | ret u => obtain ⟨v, _, H', J, rv, q⟩ := h; exact ⟨v, H', J.os, J.bare, J.base, J.hok, rv, q⟩
/-- a def that keeps its promise anywhere keeps it there -/
theorem FnG.of {k : Nat} {f : Addr} {fd : FuncData} {ps : List Str} {sp : Sp} (F : FnOk P w K mg base CX0 k f fd ps sp) : FnG P w K mg base k f fd ps sp :=
  ⟨F.len, fun A outer s H args us vs Q E _ => F.run A outer s H args us vs Q E⟩
end
end Ov
namespace Ov
open PySem PySem.Spec PyProof.Rows L2
/-- the law's call, from its promise under no guard -/
theorem callG {P : Program} {w : World} {K : PySem.W.Frag} {mg mb : Str → Option Value} {k : Nat} {fa a : Addr} {fd : FuncData} {x : Str} {sp : Sp} {s : Shared} {vs : List Value} {ns : List Int}
    (KX : K.In s.heap) (hns : s.heap.Ns mainGlobals mg) (hb : s.heap.Ns builtinsNs mb) (hbb : ∀ x : Str, x ≠ "__name__" → mb x = bootBuiltins x) (hlim : s.heap.NoLimit) (hg : s.gens = #[])
    (ha : s.heap.get? a = some { cls := .type "list", data := .seq vs.toArray }) (hi : IntsAre vs ns) (hl : ns.length ≤ sizeLine) (room : Room k callerA)
    (F : ∀ base : Heap, K.In base → base.Ns mainGlobals mg → FnG P w K mg base k fa fd [x] sp) (bind : ∀ (s : Shared) (u : Value), BindsTo s fd ⟨[u], []⟩ [(x, u)])
    (pr : ∀ H : Hp, SqL K H a (ns.map V.int) → sp [.ref a] H (fun v _ => v = .bl true) fun _ _ _ => False) :
    codeAny (model P w) callerA (.call (.ref fa) ⟨[.ref a], []⟩) (fun r s' => r = .ok (.ret (.bool true)) ∧ OldK s.heap s'.heap ∧ s'.os = s.os ∧ AllBare s'.gens) s := by
  have rv : Vals (ns.map V.int) vs := vals_ints hi
  -- what is tracked: the script, unless it is the module's own
  obtain ⟨H, seq, hok, only, sep, froz⟩ : ∃ H : Hp, SqL K H a (ns.map V.int) ∧ HOk P w H s.heap ∧ (∀ b, H b ≠ none → b = a) ∧ (H a ≠ none → K.lookup a = none) ∧ (∀ b u, H b = some u → ∃ o xs, u = .frz o (.lst xs)) := by
    cases hk : K.lookup a with
    | some o =>
      have e : o = { cls := .type "list", data := .seq vs.toArray } := Option.some.inj ((KX a o hk).symm.trans ha)
      subst e
      exact ⟨fun _ => none, .inr ⟨_, vs.toArray, _, hk, rfl, rfl, rfl, by rw [List.size_toArray, hi.length]; exact hl, by simpa using rv⟩, (fun _ _ z => nomatch z), (fun _ z => absurd rfl z), (fun z => absurd rfl z), (fun _ _ z => nomatch z)⟩
    | none =>
      refine ⟨fun b => if b = a then some (.frz { cls := .type "list", data := .seq vs.toArray } (.lst (ns.map V.int))) else none, .inl (.inr ⟨_, if_pos rfl⟩), ?_, ?_, fun _ => rfl, ?_⟩
      · intro b u z
        by_cases e : b = a
        · subst e
          have z' : HO.frz { cls := .type "list", data := .seq vs.toArray } (.lst (ns.map V.int)) = u := Option.some.inj ((if_pos rfl).symm.trans z)
          subst z'
          exact ⟨ha, by rw [List.length_map]; exact hl, vs, _, rv, ha⟩
        · exact absurd ((if_neg e).symm.trans z) (fun y => nomatch y)
      · intro b z
        by_cases e : b = a
        · exact e
        · exact absurd (if_neg e) z
      · intro b u z
        by_cases e : b = a
        · exact ⟨_, _, (Option.some.inj ((if_pos e).symm.trans z)).symm⟩
        · exact absurd ((if_neg e).symm.trans z) (fun y => nomatch y)
  -- the base: all the rest
  have rest : ∀ {b : Addr} {o : Obj}, s.heap.get? b = some o → H b = none → (hidT s.heap H).get? b = some o := fun e n => hidT_get e n
  have gone : ∀ {b : Addr}, b ≠ a → H b = none := fun {b} n => by
    cases z : H b with
    | none => rfl
    | some u => exact absurd (only b (by rw [z]; exact fun y => nomatch y)) n
  have spaces : ∀ {b : Addr} {m : Str → Option Value}, s.heap.Ns b m → (hidT s.heap H).Ns b m := by
    rintro b m ⟨o, es, ep, e, d, r⟩
    refine ⟨o, es, ep, rest e (gone ?_), d, r⟩
    rintro rfl
    have eo : o = { cls := .type "list", data := .seq vs.toArray } := Option.some.inj (e.symm.trans ha)
    rw [eo] at d
    cases (show Data.seq vs.toArray _ = Data.dict es ep from d)
  have kin : K.In (hidT s.heap H) := fun b o e => rest (KX b o e) (by
    cases z : H b with
    | none => rfl
    | some u =>
      have eb := only b (by rw [z]; exact fun y => nomatch y)
      subst eb
      rw [sep (by rw [z]; exact fun y => nomatch y)] at e
      cases e)
  obtain ⟨mc, lim1, lim2⟩ := hlim
  have env : Env0 P w K mg (hidT s.heap H) callerA [] s H :=
    ⟨rfl, ⟨kin, spaces hns, ⟨mb, spaces hb, hbb⟩, ⟨mc, spaces lim1, lim2⟩⟩, fun b o e => of_hidT e, Nat.le_of_eq (hidT_size _ _), trivial, fun b hb => absurd (show b ∈ ([] : List Addr) from hb) (by simp), hok, .of_eq hg⟩
  refine codeAny_mono ((F _ kin (spaces hns)).run callerA [] s H ⟨[.ref a], []⟩ [.ref a] [.ref a] _ _ rfl room env (bind s (.ref a)) (.cons rfl .nil) (pr H seq)) ?_
  intro r s' h
  match r, h with
  | .error e, h => exact (show False from h).elim
  | .ok .next, h => exact (show False from h).elim
  | .ok .brk, h => exact (show False from h).elim
  | .ok .cont, h => exact (show False from h).elim
  | .ok (.ret u), ⟨v, H', os, bare, un, hok', rel, q⟩ =>
    have ev : v = .bl true := q
    subst ev
    obtain rfl : u = Value.bool true := rel
    refine ⟨rfl, OldK.of_keep fun b o e => ?_, os, bare⟩
    cases z : H b with
    | none => exact un.keep b o e z (fun y => absurd (show b ∈ ([] : List Addr) from y) (by simp)) (by simp)
    | some u =>
      obtain ⟨ob, xs, rfl⟩ := froz b u z
      have h1 := (hok b _ z).1
      have h2 := (hok' b _ (un.frzs b ob _ z)).1
      have eo : o = ob := Option.some.inj (e.symm.trans h1)
      rw [eo]
      exact h2
theorem walkG {l : PySem.W.OpenLaw} {n k : Nat} {q : Program} {loose : List Str} {XP : (Str → Option Value) → Heap → Prop} {YP : World → Heap → Prop} {d : DefRec} {K : Params → PySem.W.Frag} {sp : PySem.W.Frag → Sp} {x : Str}
    (hn : l.most = some n) (hn2 : n ≤ sizeLine) (hdf : d.params.defaults = []) (room : Room k callerA) (hY : ∀ (w : World) (h : Heap), YP w h → (K w.params).In h)
    (F : ∀ (w : World) (mg : Str → Option Value) (fa : Addr) (h : Heap), (K w.params).In h → h.Ns mainGlobals mg → mg d.name = some (.ref fa) →
      ∃ fd : FuncData, (∀ (s : Shared) (u : Value), BindsTo s fd ⟨[u], []⟩ [(x, u)]) ∧ ∀ base : Heap, (K w.params).In base → base.Ns mainGlobals mg → FnG l.prog w (K w.params) mg base k fa fd [x] (sp (K w.params)))
    (pr : ∀ (K : PySem.W.Frag) (H : Hp) (a : Addr) (ns : List Int), ns.length ≤ n → SqL K H a (ns.map V.int) → sp K [.ref a] H (fun v _ => v = .bl true) fun _ _ _ => False) :
    PySem.W.WalkO q loose XP YP l.row.toRowW d [] (fun f vs => PySem.call f vs) := by
  refine Att.attach_call hn hdf ?_
  intro w s₀ s₁ mg mb fa o pm cd doc a vs ns G Y ho hd hcd hmg hobj hints hlen hg
  have kin := hY w _ Y
  obtain ⟨fd, bind, okF⟩ := F w mg fa _ kin G.T.g hmg
  exact callG kin G.T.g G.T.b G.T.builtins G.T.nolimit hg hobj hints (Nat.le_trans hlen hn2) room okF bind fun H seq => pr (K w.params) H a ns hlen seq
end Ov
namespace Ov
open PySem PySem.Spec PyProof.Rows L2
mutual
def nodes : PyData → Nat
  | .str x => 1 + (reprText x).length
  | .list xs => 1 + nodesAll xs
  | .tuple xs => 1 + nodesAll xs
  | .none => 1
  | .bool _ => 1
  | .int _ => 1
  | .dict kvs => 1 + (dictText (PyData.shownKv kvs)).length
def nodesAll : List PyData → Nat
  | [] => 0
  | x :: xs => nodes x + nodesAll xs
end
theorem strLen0 : (Str.ofString "None").length = 4 := by decide +kernel
theorem listText_le (ts : List Str) : (listText ts).length ≤ piled ts + 2 := by
  rw [listText_eq_join, strLen_append, strLen_append]
  have a : (Str.ofString "[").length = 1 := by decide +kernel
  have b : (Str.ofString "]").length = 1 := by decide +kernel
  cases ts with
  | nil =>
    have : (Str.join (Str.ofString ", ") []).length = 0 := by decide +kernel
    rw [a, b, this]; omega
  | cons t ts =>
    have := join_length_add (t :: ts) (List.cons_ne_nil _ _)
    rw [a, b]; omega
theorem tupleText_le (ts : List Str) : (tupleText ts).length ≤ piled ts + 3 := by
  unfold tupleText
  rw [strLen_append, strLen_append]
  have a : (Str.ofString "(").length = 1 := by decide +kernel
  have b : (Str.ofString (if (ts.length == 1) = true then ",)" else ")" : String)).length ≤ 2 := by
    by_cases h : (ts.length == 1) = true
    · rw [if_pos h]; decide +kernel
    · rw [if_neg h]; decide +kernel
  cases ts with
  | nil =>
    have : (Str.join (Str.ofString ", ") []).length = 0 := by decide +kernel
    rw [a, this]
    exact Nat.le_trans (Nat.add_le_add_left b _) (by omega)
  | cons t ts =>
    have := join_length_add (t :: ts) (List.cons_ne_nil _ _)
    rw [a]
    omega
mutual
theorem shown_le : ∀ d : PyData, d.showable = true → d.shown.length + 10 ≤ 2000 * nodes d
  | .none, _ => by
    simp only [PyData.shown, nodes]
    rw [strLen0]; decide
  | .bool b, _ => by
    simp only [PyData.shown, nodes]
    cases b <;> decide +kernel
  | .int i, h => by
    simp only [PyData.shown, nodes]
    have := int_text_len_1921 (i := i) (by simpa [PyData.showable] using h)
    omega
  | .str x, _ => by
    simp only [PyData.shown, nodes]
    omega
  | .list xs, h => by
    simp only [PyData.shown, nodes]
    have := shownAll_le xs (by simpa [PyData.showable] using h)
    have := listText_le (PyData.shownAll xs)
    omega
  | .tuple xs, h => by
    simp only [PyData.shown, nodes]
    have := shownAll_le xs (by simpa [PyData.showable] using h)
    have := tupleText_le (PyData.shownAll xs)
    omega
  | .dict kvs, _ => by
    simp only [PyData.shown, nodes]
    omega
theorem shownAll_le : ∀ xs : List PyData, PyData.showableAll xs = true → piled (PyData.shownAll xs) ≤ 2000 * nodesAll xs
  | [], _ => by
    simp only [PyData.shownAll, nodesAll]
    decide +kernel
  | x :: xs, h => by
    have h' : x.showable = true ∧ PyData.showableAll xs = true := by simpa [PyData.showableAll] using h
    have h1 := shown_le x h'.1
    have h2 := shownAll_le xs h'.2
    simp only [PyData.shownAll, nodesAll]
    rw [piled_cons]
    omega
end
theorem fits_shown {d : PyData} (h : d.showable = true) (n : nodes d ≤ 8000) : d.shown.length ≤ sizeLine := by
  have := shown_le d h
  rw [sizeLine_eq]
  omega
/-- a plain value: None, a bool, an int that is not too great to be shown -/
inductive Sc : PyData → Prop
  | non : Sc .none
  | bl (b : Bool) : Sc (.bool b)
  | int (i : Int) (h : i.natAbs.log2 < 1920) : Sc (.int i)
theorem Sc.small {i : Int} (h : i.natAbs < 2 ^ 1000) : Sc (.int i) := by
  refine .int i ?_
  by_cases e : i.natAbs = 0
  · rw [e]; decide
  · exact Nat.lt_of_lt_of_le ((Nat.log2_lt e).mpr h) (by decide)
end Ov
namespace Ov
open PySem PySem.Spec PyProof.Rows L2
mutual
inductive Dx (K : PySem.W.Frag) (H : Hp) : V → PyData → Prop
  | non : Dx K H .non .none
  | bl (b : Bool) : Dx K H (.bl b) (.bool b)
  | int (i : Int) : Dx K H (.int i) (.int i)
  | str (x : Str) : Dx K H (.str x) (.str x)
  | dct {a : Addr} : H a = some (.dK []) → Dx K H (.ref a) (.dict [])
  | lst {a : Addr} {xs : List V} {ds : List PyData} : SqL K H a xs → DxAll K H xs ds → Dx K H (.ref a) (.list ds)
  | tup {a : Addr} {xs : List V} {ds : List PyData} : SqT K H a xs → DxAll K H xs ds → Dx K H (.ref a) (.tuple ds)
inductive DxAll (K : PySem.W.Frag) (H : Hp) : List V → List PyData → Prop
  | nil : DxAll K H [] []
  | cons {v : V} {vs : List V} {d : PyData} {ds : List PyData} : Dx K H v d → DxAll K H vs ds → DxAll K H (v :: vs) (d :: ds)
end
theorem sqL_same {K : PySem.W.Frag} {H H' : Hp} {a : Addr} {xs : List V} (e : Same H H') (h : SqL K H a xs) : SqL K H' a xs := by
  rcases h with (h | ⟨o, h⟩) | h
  · exact .inl (.inl (e _ _ h))
  · exact .inl (.inr ⟨o, e _ _ h⟩)
  · exact .inr h
mutual
theorem Dx.same {K : PySem.W.Frag} {H H' : Hp} (e : Same H H') : ∀ {v : V} {d : PyData}, Dx K H v d → Dx K H' v d
  | _, _, .non => .non
  | _, _, .bl b => .bl b
  | _, _, .int i => .int i
  | _, _, .str x => .str x
  | _, _, .dct h => .dct (e _ _ h)
  | _, _, .lst h a => .lst (sqL_same e h) (DxAll.same e a)
  | _, _, .tup h a => .tup (e.tup h) (DxAll.same e a)
theorem DxAll.same {K : PySem.W.Frag} {H H' : Hp} (e : Same H H') : ∀ {vs : List V} {ds : List PyData}, DxAll K H vs ds → DxAll K H' vs ds
  | _, _, .nil => .nil
  | _, _, .cons h a => .cons (Dx.same e h) (DxAll.same e a)
end
theorem DxAll.at {K : PySem.W.Frag} {H : Hp} : ∀ {vs : List V} {ds : List PyData}, DxAll K H vs ds → ∀ {i : Nat} {v : V}, vs[i]? = some v → ∃ d, ds[i]? = some d ∧ Dx K H v d
  | _, _, .nil, i, v, e => by simp at e
  | _, _, .cons h a, 0, v, e => by cases e; exact ⟨_, rfl, h⟩
  | _, _, .cons h a, i + 1, v, e => a.at (i := i) e
theorem DxAll.len {K : PySem.W.Frag} {H : Hp} : ∀ {vs : List V} {ds : List PyData}, DxAll K H vs ds → vs.length = ds.length
  | _, _, .nil => rfl
  | _, _, .cons _ a => by rw [List.length_cons, List.length_cons, a.len]
theorem DxAll.app {K : PySem.W.Frag} {H : Hp} : ∀ {vs us : List V} {ds es : List PyData}, DxAll K H vs ds → DxAll K H us es → DxAll K H (vs ++ us) (ds ++ es)
  | _, _, _, _, .nil, b => b
  | _, _, _, _, .cons h a, b => .cons h (a.app b)
theorem dx_ints {K : PySem.W.Frag} {H : Hp} : ∀ ns : List Int, DxAll K H (ns.map V.int) (ns.map PyData.int)
  | [] => .nil
  | n :: ns => .cons (.int n) (dx_ints ns)
/-- the name of a thing's type -/
def tyN : PyData → String
  | .none => "NoneType" | .bool _ => "bool" | .int _ => "int" | .str _ => "str" | .list _ => "list" | .tuple _ => "tuple" | .dict _ => "dict"
theorem Dx.ty {K : PySem.W.Frag} {H : Hp} {v : V} {d : PyData} (h : Dx K H v d) : TyX K H v (.type (tyN d)) := by
  cases h with
  | non => exact .base .non
  | bl b => exact .base (.bl b)
  | int i => exact .base (.int i)
  | str x => exact .base (.str x)
  | dct h => exact .base (.dK h)
  | lst h _ =>
    rcases h with (h | ⟨o, h⟩) | ⟨o, its, n, h, c, _⟩
    · exact .base (.lst h)
    · exact .base (.frz h)
    · exact .kList h c
  | tup h _ =>
    rcases h with (h | ⟨o, h⟩) | ⟨o, its, n, h, c, _⟩
    · exact .base (.tup h)
    · exact .fTuple h
    · exact .kTuple h c
def isT : PyData → Bool | .tuple _ => true | _ => false
def isI : PyData → Bool | .int _ => true | .bool _ => true | _ => false
def isB : PyData → Bool | .bool _ => true | _ => false
def isS : PyData → Bool | .str _ => true | _ => false
theorem kit_t : ∀ d : PyData, kitB (tyN d) "tuple" = some (isT d)
  | .none => (by decide +kernel : kitB "NoneType" "tuple" = some false)
  | .bool _ => (by decide +kernel : kitB "bool" "tuple" = some false)
  | .int _ => (by decide +kernel : kitB "int" "tuple" = some false)
  | .str _ => (by decide +kernel : kitB "str" "tuple" = some false)
  | .list _ => (by decide +kernel : kitB "list" "tuple" = some false)
  | .tuple _ => (by decide +kernel : kitB "tuple" "tuple" = some true)
  | .dict _ => (by decide +kernel : kitB "dict" "tuple" = some false)
theorem kit_i : ∀ d : PyData, kitB (tyN d) "int" = some (isI d)
  | .none => (by decide +kernel : kitB "NoneType" "int" = some false)
  | .bool _ => (by decide +kernel : kitB "bool" "int" = some true)
  | .int _ => (by decide +kernel : kitB "int" "int" = some true)
  | .str _ => (by decide +kernel : kitB "str" "int" = some false)
  | .list _ => (by decide +kernel : kitB "list" "int" = some false)
  | .tuple _ => (by decide +kernel : kitB "tuple" "int" = some false)
  | .dict _ => (by decide +kernel : kitB "dict" "int" = some false)
theorem kit_b : ∀ d : PyData, kitB (tyN d) "bool" = some (isB d)
  | .none => (by decide +kernel : kitB "NoneType" "bool" = some false)
  | .bool _ => (by decide +kernel : kitB "bool" "bool" = some true)
  | .int _ => (by decide +kernel : kitB "int" "bool" = some false)
  | .str _ => (by decide +kernel : kitB "str" "bool" = some false)
  | .list _ => (by decide +kernel : kitB "list" "bool" = some false)
  | .tuple _ => (by decide +kernel : kitB "tuple" "bool" = some false)
  | .dict _ => (by decide +kernel : kitB "dict" "bool" = some false)
theorem kit_s : ∀ d : PyData, kitB (tyN d) "str" = some (isS d)
  | .none => (by decide +kernel : kitB "NoneType" "str" = some false)
  | .bool _ => (by decide +kernel : kitB "bool" "str" = some false)
  | .int _ => (by decide +kernel : kitB "int" "str" = some false)
  | .str _ => (by decide +kernel : kitB "str" "str" = some true)
  | .list _ => (by decide +kernel : kitB "list" "str" = some false)
  | .tuple _ => (by decide +kernel : kitB "tuple" "str" = some false)
  | .dict _ => (by decide +kernel : kitB "dict" "str" = some false)
mutual
def noList : PyData → Bool
  | .list _ => false
  | .tuple ds => noListAll ds
  | _ => true
def noListAll : List PyData → Bool
  | [] => true
  | d :: ds => noList d && noListAll ds
end
section
variable {X : Cx} {pins : List (Addr × Obj)} {σ : L2.St} {H : Hp} {s : Shared}
mutual
theorem Dx.reads (I : Inv X pins σ H s) : ∀ (d : PyData) (v : V) (u : Value), Dx X.K H v d → RelV v u → ∃ as, Reads s.heap u d as ∧ (noList d = true → sysModules ∉ as)
  | .none, _, _, h, r => by
    cases h
    cases r
    exact ⟨_, Reads.none, fun _ z => nomatch z⟩
  | .bool b, _, _, h, r => by
    cases h
    cases r
    exact ⟨_, Reads.bool b, fun _ z => nomatch z⟩
  | .int i, _, _, h, r => by
    cases h
    obtain ⟨t, rfl⟩ := r
    exact ⟨_, Reads.int i t, fun _ z => nomatch z⟩
  | .str x, _, _, h, r => by
    cases h
    obtain ⟨t, rfl⟩ := r
    exact ⟨_, Reads.str x t, fun _ z => nomatch z⟩
  | .list ds, _, _, h, r => by
    cases h with
    | lst hs ha =>
      cases r
      obtain ⟨its, rv, ⟨o, n, ho, hc, _, hd⟩, _⟩ := I.list hs
      obtain ⟨as, hr, _⟩ := Dx.readsAll I ds _ its ha rv
      exact ⟨_, Reads.list ho hc hd hr, fun z => by simp [noList] at z⟩
  | .tuple ds, _, _, h, r => by
    cases h with
    | tup hs ha =>
      cases r
      obtain ⟨its, rv, ⟨o, ho, hc, n, hd⟩, _⟩ := I.tuple hs
      obtain ⟨as, hr, f⟩ := Dx.readsAll I ds _ its ha rv
      exact ⟨_, Reads.tuple ho hc hd hr, fun z => f (by simpa [noList] using z)⟩
  | .dict kvs, _, _, h, r => by
    cases h with
    | dct hs =>
      cases r
      obtain ⟨_, ns, vs, kv, o, es, ep, ho, hc, hd, hv⟩ := dk_of I.hok hs
      cases kv
      have e0 : es.toList = [] := by
        have z := hv.2.1
        revert z
        generalize es.toList = l
        intro z
        cases z
        rfl
      refine ⟨_, Reads.dict ho hc.1 hd (by rw [e0]; exact .nil) (by rw [e0]; exact .nil), fun _ z => ?_⟩
      rcases List.mem_cons.mp z with z | z
      · rw [← z] at ns
        cases ns
      · cases z
theorem Dx.readsAll (I : Inv X pins σ H s) : ∀ (ds : List PyData) (vs : List V) (us : List Value), DxAll X.K H vs ds → Vals vs us → ∃ as, ReadsAll s.heap us ds as ∧ (noListAll ds = true → sysModules ∉ as)
  | [], _, _, h, r => by
    cases h
    cases r
    exact ⟨_, ReadsAll.nil, fun _ z => nomatch z⟩
  | d :: ds, _, _, h, r => by
    cases h with
    | cons h1 h2 =>
      cases r with
      | cons r1 r2 =>
        obtain ⟨as, q1, f1⟩ := Dx.reads I d _ _ h1 r1
        obtain ⟨bs, q2, f2⟩ := Dx.readsAll I ds _ _ h2 r2
        refine ⟨_, ReadsAll.cons q1 q2, fun z m => ?_⟩
        have z' : noList d = true ∧ noListAll ds = true := by simpa [noListAll] using z
        exact (List.mem_append.mp m).elim (f1 z'.1) (f2 z'.2)
end
end
/-- what can be shown -/
structure Shows (d : PyData) : Prop where
  sh : d.showable = true
  nl : d.hasDict = true → noList d = true
  dep : d.depth ≤ 60
  nd : nodes d ≤ 8000
section
variable {X : Cx} {k : Nat}
theorem call_repr_x (gd : X.A.guards = some []) (room : Room k X.A) : CallR X (.builtin "repr") (fun xs H Q => ∃ v d, xs = [v] ∧ Dx X.K H v d ∧ Shows d ∧ Q (.str d.shown) H) := by
  intro pins s σ H xs us Q I r h
  obtain ⟨v, d, rfl, hd, S, q⟩ := h
  obtain ⟨u, rfl, rx⟩ := vals1 r
  have un := room.un
  have sz := fits_shown S.sh S.nd
  have ref : ∀ a : Addr, u = .ref a → wpAny (model X.prog X.w) X.A (call (.builtin "repr") [u]) (fun u' s' => ∃ v' H', Inv X pins σ H' s' ∧ RelV v' u' ∧ Q v' H') X.xe s := by
    intro a ha
    subst ha
    obtain ⟨as, rd, f⟩ := Dx.reads I d _ _ hd rx
    have dep := S.dep
    refine repr_of_reads' (h₀ := s.heap) rd S.sh (fun z => f (S.nl z)) gd (by omega) (fun _ _ e => e) ?_ sz
    intro h' u tk kp
    exact ⟨.str d.shown, H, I.kept (t' := tk) kp, ⟨u, rfl⟩, q⟩
  cases hd with
  | non =>
    cases (show u = Value.none from rx)
    exact PySem.P.repr_of_none ⟨.str _, H, I.tok _, ⟨_, rfl⟩, q⟩
  | bl b =>
    cases (show u = Value.bool b from rx)
    exact PySem.P.repr_of_bool ⟨.str _, H, I.tok _, ⟨_, rfl⟩, q⟩
  | int i =>
    obtain ⟨t, rfl⟩ := (show ∃ t, u = Value.int i t from rx)
    exact PySem.P.repr_of_int (by simpa [PyData.showable] using S.sh) ⟨.str _, H, I.tok _, ⟨_, rfl⟩, q⟩
  | str x =>
    obtain ⟨t, rfl⟩ := (show ∃ t, u = Value.str x t from rx)
    exact PySem.P.repr_of_str ⟨.str _, H, I.tok _, ⟨_, rfl⟩, q⟩ sz
  | dct h => exact ref _ rx
  | lst h a => exact ref _ rx
  | tup h a => exact ref _ rx
end
end Ov
namespace Ov
open PySem PySem.Spec PyProof.Rows L2
/-- the two new objects of such a call -/
theorem enumT_new {vv : Value} {oo : Obj} {HH : Heap → Prop} (BB : Begins vv oo HH) : Meets (Builtin.«enumerate.__new__» ⟨[.type "enumerate", vv], []⟩) (fun _ R st => HH st.heap ∧
    R (.ok (.ret (.ref (st.heap.push oo).objs.size))) { st with heap := (st.heap.push oo).push { cls := .type "enumerate", data := .fields #[.none, .bool false, .ref st.heap.objs.size, rawInt 0, .none, .none] } }) := by
  refine .of_wp fun pr ww AA RR st hyp => ?_
  obtain ⟨hp, gn, dd, tk, os⟩ := st
  obtain ⟨hyp1, hyp2⟩ := hyp
  have subE := sub_enumerate
  have itE : ∀ {A' : Around} {EE : Value → Shared → Prop} {QQ : Value → Shared → Prop}, QQ (.ref hp.objs.size) ⟨hp.push oo, gn, dd, tk, os⟩ → wpAny (model pr ww) A' (pyIter vv) QQ EE ⟨hp, gn, dd, tk, os⟩ := fun qq => BB.iter pr ww _ _ ⟨hp, gn, dd, tk, os⟩ _ hyp1 qq
  wp_walk using itE
  refine wpAny_stack_any fun stk => wpAny_pure ?_
  split
  · rename_i cc _ _ _ _ _
    cases (cc == Value.type "enumerate") <;> (wp_walk using itE) <;> exact ⟨_, rfl, hyp2⟩
  · wp_walk using itE
    exact ⟨_, rfl, hyp2⟩
theorem call_enumT {pr : Program} {ww : World} {AA : Around} {EE : Value → Shared → Prop} {st : Shared} {tt : Addr} {arr : Array Value} {QQ : Value → Shared → Prop} (hT : st.heap.IsTuple tt arr)
    (hyp : ∀ h2, IsEnum h2 (st.heap.objs.size + 1) st.heap.objs.size 0 .none → h2.IsTupleIter st.heap.objs.size tt 0 → (∀ b o, st.heap.get? b = some o → h2.get? b = some o) → QQ (.ref (st.heap.objs.size + 1)) { st with heap := h2 }) :
    wpAny (model pr ww) AA (call (.type "enumerate") [.ref tt]) QQ EE st := by
  refine callType_new F.called_enumerate (by decide) (F.typeCall_enumerate_1 _) (F.newCall_enumerate_1 _) (fun obj => F.args_object_init_2 obj _) F.entry_enumerate_new (enumT_new (begins_tuple tt arr)) ⟨hT, ?_⟩
  have sz : (st.heap.push { cls := .type "tuple_iterator", data := .fields #[.ref tt, .int 0 0] }).objs.size = st.heap.objs.size + 1 := Heap.size_push ..
  show _ ∧ _
  rw [sz]
  have en : IsEnum ((st.heap.push { cls := .type "tuple_iterator", data := .fields #[.ref tt, .int 0 0] }).push { cls := .type "enumerate", data := .fields #[.none, .bool false, .ref st.heap.objs.size, rawInt 0, .none, .none] }) (st.heap.objs.size + 1) st.heap.objs.size 0 .none := by
    have zz := Heap.get?_push_size (st.heap.push { cls := .type "tuple_iterator", data := .fields #[.ref tt, .int 0 0] }) (o := { cls := .type "enumerate", data := .fields #[.none, .bool false, .ref st.heap.objs.size, rawInt 0, .none, .none] }) rfl
    rwa [sz] at zz
  exact ⟨⟨_, en, rfl⟩, hyp _ en ⟨_, Heap.get?_push_of_some _ (Heap.get?_push_size _ rfl), rfl, rfl⟩ fun b o xx => Heap.get?_push_of_some _ (Heap.get?_push_of_some _ xx)⟩
theorem enumT_end {pr : Program} {ww : World} {AA : Around} {EE : Value → Shared → Prop} {st : Shared} {en it tt : Addr} {i : Nat} {arr : Array Value} {old : Value} {QQ : Option Value → Shared → Prop} (calm : AA.handled = none) (hen : IsEnum st.heap en it i old) (hti : st.heap.IsTupleIter it tt i) (ht : st.heap.IsTuple tt arr) (hx : arr[i]? = none)
    (hyp : ∀ h2, Heap.ExtBut it st.heap h2 → QQ none { st with heap := h2 }) : wpAny (model pr ww) AA (pyNext (.ref en)) QQ EE st := by
  have ty : st.TypeIs (.ref en) "enumerate" := ⟨_, hen, rfl⟩
  unfold pyNext
  refine wpAny_bind (wpAny_attempt (wpAny_callSpecial?_slot (name := Str.ofString "__next__") ty F.slot_enumerate_next (wpAny_call_entry F.slot_enumerate_next ty F.entry_enumerate_next ?_ (F.args_enumerate_next_1 _))))
  show wpAny _ _ (field (.ref en) 2 >>= _) _ _ _
  refine wpAny_bind (wpAny_field hen rfl (x := .ref it) rfl (wpAny_bind (wpAny_nextOf_tuple_end calm hti ht hx fun h2 ee ext isStop => ?_)))
  obtain ⟨oo, hoo, hcc⟩ := isStop
  exact wpAny_bind (wpAny_isInstance (T := "StopIteration") (b := true) ⟨oo, hoo, hcc⟩ isSubtype_stop (wpAny_pure (hyp _ ext)))
/-- the tuple at a as it stands, each item in a new pair with its number -/
def IteT (K : PySem.W.Frag) (a : Addr) : It where
  go := fun i H => ∃ (xs : List V) (x : V), SqT K H a xs ∧ xs[i]? = some x
  yld := fun i H v H' => ∃ pr x, v = .ref pr ∧ H pr = none ∧ H' = upd H pr (.tup [.int (i : Nat), x]) ∧ ∀ xs, SqT K H a xs → xs[i]? = some x
  stop := fun i H => ∃ xs : List V, SqT K H a xs ∧ xs.length ≤ i
theorem turn_enumT {P : Program} {w : World} {K : PySem.W.Frag} {elts : List Expr} {kk : Nat} {tpos : Pos} (a en it : Addr) (n1 : en ≠ it) (n2 : a ≠ it) (n3 : a ≠ en) :
    Turn P w K (.Tuple elts kk tpos) (IteT K a) [en, it] en (fun i h => (∃ old, IsEnum h en it ((i : Nat) : Int) old) ∧ h.IsTupleIter it a i) where
  mem := by simp
  obj := fun i h st b hb => by
    obtain ⟨⟨old, hen⟩, ⟨oi, hoi, _, hdi⟩⟩ := st
    rcases (show b = en ∨ b = it by simpa using hb) with rfl | rfl
    · exact ⟨_, hen, fun v q => nomatch q⟩
    · exact ⟨oi, hoi, fun v q => by rw [hdi] at q; cases q⟩
  keep := fun i h h' st kp => by
    obtain ⟨⟨old, hen⟩, hti⟩ := st
    exact ⟨⟨old, kp en (by simp) _ hen⟩, hti.at fun o q => kp it (by simp) o q⟩
  item := by
    intro X hP hw hK hc i pins s σ H E I hf st hg
    subst hP hw hK
    obtain ⟨⟨old, hen⟩, hti⟩ := st
    obtain ⟨xs, x, hq, hx⟩ := hg
    obtain ⟨vals, rv, ht, _⟩ := I.tuple hq
    obtain ⟨u, hu, ru⟩ := rv.get hx
    have enl := Heap.lt_size hen
    have itl : it < s.heap.objs.size := by obtain ⟨_, z, _⟩ := hti; exact Heap.lt_size z
    have ndr : en ∉ [it, a] := fun z => (show en = it ∨ en = a by simpa using z).elim n1 fun z => n3 z.symm
    have ilt : i < vals.toArray.size := by have := (List.getElem?_eq_some_iff.mp hu).1; simpa using this
    refine wpAny_pyNext_enum_itemD (Draws.tuple (A := X.A.in1) (I.ok.hd hc) it a n2 vals.toArray) hen ⟨hti, ht⟩ ilt n1 ndr fun x' h1 tk hx' hout hst2 hT hsz hk => ?_
    have ex : x' = u := by
      have z : vals[i]? = some x' := by simpa using hx'
      exact Option.some.inj (z.symm.trans hu)
    subst ex
    refine ⟨_, rfl, wpAny_letOwnedTupleGo_enum (s := { s with heap := h1, toks := tk + 1 }) hout fun h2 hen2 sb => ?_⟩
    have hT2 : h2.get? s.heap.objs.size = some { cls := .type "tuple", data := .seq #[.int i tk, x'] } := (sb.2 _ (Nat.ne_of_gt enl)).trans hT
    have fresh : ObjOk X.prog X.w (upd H s.heap.objs.size (.tup [.int (i : Nat), x])) h2 s.heap.objs.size (.tup [.int (i : Nat), x]) := ⟨by show 2 ≤ sizeLine; decide, [.int i tk, x'], .cons ⟨_, rfl⟩ (.cons ru .nil), ⟨_, hT2, rfl, _, rfl⟩⟩
    have I2 : Inv X pins σ (upd H s.heap.objs.size (.tup [.int (i : Nat), x])) { s with heap := h2, toks := tk + 1 } := I.turnedNew (ch := [en, it]) (fun b ob hb q => (sb.2 b (fun z => hb (by simp [z]))).trans (hk b ob (fun z => hb (by simp [z])) (fun z => hb (by simp [z])) q)) hf (Nat.le_refl _) fresh
    refine ⟨.ref s.heap.objs.size, _, I2, rfl, ⟨_, x, rfl, I.hok.fresh (Nat.le_refl _), rfl, fun ys hy => by rw [I.tuple_inj hy hq]; exact hx⟩, ⟨⟨x', ?_⟩, hst2.1.at fun o q => (sb.2 it (Ne.symm n1)).trans q⟩, fun b hb => ?_⟩
    · rw [show ((i + 1 : Nat) : Int) = (i : Int) + 1 by omega]; exact hen2
    · have bl : b < s.heap.objs.size := (show b = en ∨ b = it by simpa using hb).elim (fun z => by rw [z]; exact enl) fun z => by rw [z]; exact itl
      rw [upd_ne (Nat.ne_of_lt bl)]; exact (hf b hb).1
  done := by
    intro X hP hw hK hc i pins s σ H E I hf st hg
    subst hP hw hK
    obtain ⟨⟨old, hen⟩, hti⟩ := st
    obtain ⟨xs, hq, hx⟩ := hg
    obtain ⟨vals, rv, ht, _⟩ := I.tuple hq
    obtain ⟨f0, f1, f2, f3, f4, f5⟩ := hf it (by simp)
    have len := rv.length
    exact enumT_end (I.ok.hd hc) hen hti ht (by simp; omega) fun h2 ext => ⟨rfl, I.turned (t' := s.toks) (fun b o hb q => ext b o hb q) f0 f1 f3 f4 f5⟩
  self := fun A i s Q E st h => by
    obtain ⟨⟨_, hen⟩, _⟩ := st
    exact wpAny_pyIter_enum hen h
def iEnumT (K : PySem.W.Frag) (ta : TA) : TI := fun σ H R => ta σ H fun vs H1 => ∃ a xs, vs = [.ref a] ∧ SqT K H1 a xs ∧ R (IteT K a) H1
theorem pi_enumT {X : Cx} {e : Expr} {ta : TA} {p pos tpos : Pos} {elts : List Expr} {kk : Nat} (glob : Gl X "enumerate") (plain : X.mg "enumerate" = none) (arg : PA X [e] ta) (star : starEach [e] X.env = [(false, eval e X.env)] := by rfl) : PI X (.Tuple elts kk tpos) (.Call (.Name "enumerate" p) [e] [] pos) (iEnumT X.K ta) := by
  refine ⟨fun pins s σ H R I h => ?_⟩
  refine Call_ (ld_blt I glob plain boot_enumerate (PyProof.Rows.callWith_type1 (thn (arg.run pos pins s σ H _ I h) fun us s1 ⟨vs, H1, I1, r1, q1⟩ => ?_) star rfl))
  obtain ⟨a, xs, rfl, hq, q⟩ := q1
  obtain ⟨u, rfl, ru⟩ := vals1 r1
  cases (show u = Value.ref a from ru)
  obtain ⟨vals, rv, ht, _⟩ := I1.tuple hq
  have al : a < s1.heap.objs.size := by obtain ⟨_, z, _⟩ := ht; exact Heap.lt_size z
  refine call_enumT ht fun h2 hen hti hk => wpAny_pyIter_enum hen ?_
  refine ⟨s1.heap.objs.size + 1, [s1.heap.objs.size + 1, s1.heap.objs.size], _, _, H1, rfl, I1.kept (t' := s1.toks) hk, turn_enumT a (s1.heap.objs.size + 1) s1.heap.objs.size (Nat.succ_ne_self _) (Nat.ne_of_lt al) (Nat.ne_of_lt (Nat.lt_succ_of_lt al)), ⟨⟨.none, hen⟩, hti⟩, fun b hb => ?_, q⟩
  have ge : s1.heap.objs.size ≤ b := (show b = s1.heap.objs.size + 1 ∨ b = s1.heap.objs.size by simpa using hb).elim (fun z => by rw [z]; exact Nat.le_add_right _ _) fun z => Nat.le_of_eq z.symm
  exact I1.fpOk ge (I1.hok.fresh ge)
theorem walk_enumT {K : PySem.W.Frag} {a : Addr} {xs : List V} {n : Nat} (hn : n = xs.length) : Walk (IteT K a) n (fun H => SqT K H a xs) (fun i H v H' => ∃ pr x, v = .ref pr ∧ H pr = none ∧ H' = upd H pr (.tup [.int (i : Nat), x]) ∧ xs[i]? = some x) := by
  subst hn
  refine ⟨fun i _ hi q => ⟨xs, xs[i], q, List.getElem?_eq_getElem hi⟩, fun _ q => ⟨xs, q, Nat.le_refl _⟩, fun i H v H' _ q y => ?_⟩
  obtain ⟨pr, x, h1, h2, h3, h4⟩ := y
  exact ⟨pr, x, h1, h2, h3, h4 xs q⟩
end Ov
namespace Bf
/-- codes numbered in the order of length and then of bytes -/
def val (row : List Int) : Nat := row.foldl (fun n b => n * 256 + (b.toNat + 1)) 0
theorem val_snoc (r : List Int) (b : Int) : val (r ++ [b]) = val r * 256 + (b.toNat + 1) := by
  unfold val
  rw [List.foldl_append]
  rfl
abbrev Byt (cnt : Nat) (r : List Int) : Prop := ∀ b ∈ r, 0 ≤ b ∧ b < (cnt : Int)
theorem byt_snoc {cnt : Nat} {r : List Int} {b : Int} (h : Byt cnt r) (b0 : 0 ≤ b) (b1 : b < (cnt : Int)) : Byt cnt (r ++ [b]) := fun c hc => by
  rcases List.mem_append.mp hc with h' | h'
  · exact h c h'
  · rw [List.mem_singleton.mp h']; exact ⟨b0, b1⟩
theorem eq_snoc {α : Type} : ∀ (l : List α), l = [] ∨ ∃ r b, l = r ++ [b] := fun l => by
  rcases List.eq_nil_or_concat l with h | ⟨r, b, h⟩
  · exact .inl h
  · exact .inr ⟨r, b, by rw [h, List.concat_eq_append]⟩
theorem nodup_le {α : Type} [DecidableEq α] : ∀ (l F : List α), l.Nodup → (∀ x ∈ l, x ∈ F) → l.length ≤ F.length
  | [], F, _, _ => Nat.zero_le _
  | x :: l, F, nd, sub => by
    rw [List.nodup_cons] at nd
    have hx := sub x List.mem_cons_self
    have h := nodup_le l (F.erase x) nd.2 fun y hy => by
      have ne : y ≠ x := fun z => nd.1 (z ▸ hy)
      exact (List.mem_erase_of_ne ne).mpr (sub y (List.mem_cons_of_mem _ hy))
    rw [List.length_erase_of_mem hx] at h
    have : 0 < F.length := List.length_pos_of_mem hx
    rw [List.length_cons]
    omega
section
variable {S : Type} [DecidableEq S]
def runB (step : S → Int → Option S) (s0 : S) (row : List Int) : Option S := row.foldlM step s0
theorem runB_snoc (step : S → Int → Option S) (s0 : S) (row : List Int) (b : Int) : runB step s0 (row ++ [b]) = (runB step s0 row).bind fun s => step s b := by
  unfold runB
  rw [List.foldlM_append]
  show (List.foldlM step s0 row >>= fun s => List.foldlM step s [b]) = _
  congr 1
  funext s
  rw [List.foldlM_cons]
  show (step s b >>= fun x => pure x) = _
  exact bind_pure _
def firsts (f : Int → Option S) (l : List Int) : List S := l.foldl (fun acc b => match f b with
  | none => acc
  | some t => if t ∈ acc then acc else acc ++ [t]) []
theorem firsts_snoc (f : Int → Option S) (l : List Int) (b : Int) : firsts f (l ++ [b]) = match f b with
    | none => firsts f l
    | some t => if t ∈ firsts f l then firsts f l else firsts f l ++ [t] := by
  unfold firsts
  rw [List.foldl_append]
  rfl
/-- the bytes that lead to t -/
def leads (f : Int → Option S) (l : List Int) (t : S) : List Int := l.filter fun b => decide (f b = some t)
theorem leads_snoc (f : Int → Option S) (l : List Int) (b : Int) (t : S) : leads f (l ++ [b]) t = leads f l t ++ (if f b = some t then [b] else []) := by
  unfold leads
  rw [List.filter_append]
  by_cases h : f b = some t
  · simp [List.filter_cons, h]
  · simp [List.filter_cons, h]
def grp (f : Int → Option S) (l : List Int) : List (S × List Int) := (firsts f l).map fun t => (t, leads f l t)
def hd (f : Int → Option S) (l : List Int) (t : S) : Int := (leads f l t).head?.getD 0
structure Frs (f : Int → Option S) (l : List Int) : Prop where
  nd : (firsts f l).Nodup
  mem : ∀ t, t ∈ firsts f l ↔ ∃ b ∈ l, f b = some t
theorem frs (f : Int → Option S) (l : List Int) : Frs f l := by
  have key : ∀ (n : Nat) (l : List Int), l.length ≤ n → Frs f l := by
    intro n
    induction n with
    | zero =>
      intro l h
      have : l = [] := List.length_eq_zero_iff.mp (by omega)
      subst this
      exact ⟨List.nodup_nil, fun t => ⟨fun h => (nomatch h), fun ⟨_, h, _⟩ => (nomatch h)⟩⟩
    | succ n ih =>
      intro l h
      rcases eq_snoc l with e | ⟨r, b, rfl⟩
      · subst e
        exact ⟨List.nodup_nil, fun t => ⟨fun h => (nomatch h), fun ⟨_, h, _⟩ => (nomatch h)⟩⟩
      · rw [List.length_append, List.length_singleton] at h
        have I := ih r (by omega)
        have fs := firsts_snoc f r b
        cases hb : f b with
        | none =>
          rw [hb] at fs
          refine ⟨by rw [fs]; exact I.nd, fun t => ?_⟩
          rw [fs, I.mem]
          refine ⟨fun ⟨c, hc, e⟩ => ⟨c, List.mem_append_left _ hc, e⟩, fun ⟨c, hc, e⟩ => ?_⟩
          rcases List.mem_append.mp hc with h1 | h1
          · exact ⟨c, h1, e⟩
          · rw [List.mem_singleton.mp h1, hb] at e; cases e
        | some u =>
          rw [hb] at fs
          dsimp only at fs
          by_cases hu : u ∈ firsts f r
          · rw [if_pos hu] at fs
            refine ⟨by rw [fs]; exact I.nd, fun t => ?_⟩
            rw [fs, I.mem]
            refine ⟨fun ⟨c, hc, e⟩ => ⟨c, List.mem_append_left _ hc, e⟩, fun ⟨c, hc, e⟩ => ?_⟩
            rcases List.mem_append.mp hc with h1 | h1
            · exact ⟨c, h1, e⟩
            · rw [List.mem_singleton.mp h1, hb] at e
              cases e
              exact (I.mem u).mp hu
          · rw [if_neg hu] at fs
            refine ⟨?_, fun t => ?_⟩
            · rw [fs]
              refine List.nodup_append.mpr ⟨I.nd, by simp, fun x hx y hy z => ?_⟩
              rw [List.mem_singleton.mp hy] at z
              exact hu (z ▸ hx)
            · rw [fs, List.mem_append, I.mem]
              refine ⟨fun h => ?_, fun ⟨c, hc, e⟩ => ?_⟩
              · rcases h with ⟨c, hc, e⟩ | h
                · exact ⟨c, List.mem_append_left _ hc, e⟩
                · rw [List.mem_singleton.mp h]
                  exact ⟨b, by simp, hb⟩
              · rcases List.mem_append.mp hc with h1 | h1
                · exact .inl ⟨c, h1, e⟩
                · rw [List.mem_singleton.mp h1, hb] at e
                  cases e
                  exact .inr (by simp)
  exact key l.length l (Nat.le_refl _)
theorem leads_mem {f : Int → Option S} {l : List Int} {t : S} {b : Int} : b ∈ leads f l t ↔ b ∈ l ∧ f b = some t := by
  unfold leads
  rw [List.mem_filter]
  exact ⟨fun h => ⟨h.1, of_decide_eq_true h.2⟩, fun h => ⟨h.1, decide_eq_true h.2⟩⟩
theorem hd_mem {f : Int → Option S} {l : List Int} {t : S} (h : t ∈ firsts f l) : hd f l t ∈ l ∧ f (hd f l t) = some t := by
  obtain ⟨b, hb, e⟩ := ((frs f l).mem t).mp h
  have hm : b ∈ leads f l t := leads_mem.mpr ⟨hb, e⟩
  unfold hd
  cases q : leads f l t with
  | nil => rw [q] at hm; cases hm
  | cons x r =>
    have : x ∈ leads f l t := by rw [q]; exact List.mem_cons_self
    exact leads_mem.mp this
theorem hd_le {f : Int → Option S} {l : List Int} {t : S} (asc : l.Pairwise (· < ·)) {b : Int} (hb : b ∈ l) (e : f b = some t) : hd f l t ≤ b := by
  have hm : b ∈ leads f l t := leads_mem.mpr ⟨hb, e⟩
  have as' : (leads f l t).Pairwise (· < ·) := asc.sublist List.filter_sublist
  unfold hd
  cases q : leads f l t with
  | nil => rw [q] at hm; cases hm
  | cons x r =>
    rw [q] at hm as'
    rcases List.mem_cons.mp hm with h | h
    · rw [h]; exact Int.le_refl _
    · exact Int.le_of_lt ((List.pairwise_cons.mp as').1 b h)
/-- the least bytes ascend -/
theorem hds_asc (f : Int → Option S) : ∀ (n : Nat) (l : List Int), l.length ≤ n → l.Pairwise (· < ·) → ((firsts f l).map (hd f l)).Pairwise (· < ·)
  | 0, l, h, _ => by
    have : l = [] := List.length_eq_zero_iff.mp (by omega)
    subst this
    exact List.Pairwise.nil
  | n + 1, l, h, asc => by
    rcases eq_snoc l with e | ⟨r, b, rfl⟩
    · subst e; exact List.Pairwise.nil
    · rw [List.length_append, List.length_singleton] at h
      have ra := (List.pairwise_append.mp asc)
      have ih := hds_asc f n r (by omega) ra.1
      have fs := firsts_snoc f r b
      have keep : ∀ t ∈ firsts f r, hd f (r ++ [b]) t = hd f r t := fun t ht => by
        obtain ⟨c, hc, e⟩ := ((frs f r).mem t).mp ht
        have hm : c ∈ leads f r t := leads_mem.mpr ⟨hc, e⟩
        unfold hd
        rw [leads_snoc]
        cases q : leads f r t with
        | nil => rw [q] at hm; cases hm
        | cons x l => rfl
      have mk : (firsts f r).map (hd f (r ++ [b])) = (firsts f r).map (hd f r) := List.map_congr_left keep
      cases hb : f b with
      | none => rw [hb] at fs; rw [fs, mk]; exact ih
      | some u =>
        rw [hb] at fs
        dsimp only at fs
        by_cases hu : u ∈ firsts f r
        · rw [if_pos hu] at fs; rw [fs, mk]; exact ih
        · rw [if_neg hu] at fs
          rw [fs, List.map_append, mk]
          refine List.pairwise_append.mpr ⟨ih, by simp, fun x hx y hy => ?_⟩
          obtain ⟨t, ht, rfl⟩ := List.mem_map.mp hx
          have hl := (hd_mem ht).1
          have ey : y = hd f (r ++ [b]) u := by simpa using hy
          have hub : hd f (r ++ [b]) u = b := by
            have m := hd_mem (f := f) (l := r ++ [b]) (t := u) (by rw [fs]; simp)
            rcases List.mem_append.mp m.1 with h1 | h1
            · exact absurd (((frs f r).mem u).mpr ⟨_, h1, m.2⟩) hu
            · exact List.mem_singleton.mp h1
          rw [ey, hub]
          exact ra.2.2 _ hl b (by simp)
/-- bytes that lead on are all that counts -/
theorem firsts_filter (f : Int → Option S) : ∀ (n : Nat) (l : List Int), l.length ≤ n → firsts f l = firsts f (l.filter fun b => (f b).isSome)
  | 0, l, h => by
    have : l = [] := List.length_eq_zero_iff.mp (by omega)
    subst this; rfl
  | n + 1, l, h => by
    rcases eq_snoc l with e | ⟨r, b, rfl⟩
    · subst e; rfl
    · rw [List.length_append, List.length_singleton] at h
      have ih := firsts_filter f n r (by omega)
      rw [List.filter_append, firsts_snoc]
      cases hb : f b with
      | none =>
        rw [List.filter_cons_of_neg (by simp [hb])]
        simpa using ih
      | some u =>
        rw [List.filter_cons_of_pos (by simp [hb])]
        show _ = firsts f ((r.filter fun b => (f b).isSome) ++ [b])
        rw [firsts_snoc, hb, ih]
theorem leads_filter (f : Int → Option S) (l : List Int) (t : S) : leads f l t = leads f (l.filter fun b => (f b).isSome) t := by
  unfold leads
  rw [List.filter_filter]
  refine List.filter_congr fun b _ => ?_
  cases h : f b with
  | none => simp
  | some u => simp
theorem grp_filter (f : Int → Option S) {l m : List Int} (h : (l.filter fun b => (f b).isSome) = m.filter fun b => (f b).isSome) : grp f l = grp f m := by
  unfold grp
  rw [firsts_filter f _ l (Nat.le_refl _), firsts_filter f _ m (Nat.le_refl _), h]
  refine List.map_congr_left fun t _ => ?_
  rw [leads_filter f l, leads_filter f m, h]
theorem asc_ext : ∀ {a b : List Int}, a.Pairwise (· < ·) → b.Pairwise (· < ·) → (∀ x, x ∈ a ↔ x ∈ b) → a = b
  | [], [], _, _, _ => rfl
  | [], y :: b, _, _, h => by have := (h y).mpr List.mem_cons_self; cases this
  | x :: a, [], _, _, h => by have := (h x).mp List.mem_cons_self; cases this
  | x :: a, y :: b, ha, hb, h => by
    rw [List.pairwise_cons] at ha hb
    have exy : x = y := by
      rcases List.mem_cons.mp ((h x).mp List.mem_cons_self) with e | e
      · exact e
      · rcases List.mem_cons.mp ((h y).mpr List.mem_cons_self) with e2 | e2
        · exact e2.symm
        · have h1 := hb.1 x e
          have h2 := ha.1 y e2
          omega
    subst exy
    rw [asc_ext ha.2 hb.2 fun z => ?_]
    constructor
    · intro hz
      rcases List.mem_cons.mp ((h z).mp (List.mem_cons_of_mem _ hz)) with e | e
      · subst e; exact absurd (ha.1 z hz) (Int.lt_irrefl _)
      · exact e
    · intro hz
      rcases List.mem_cons.mp ((h z).mpr (List.mem_cons_of_mem _ hz)) with e | e
      · subst e; exact absurd (hb.1 z hz) (Int.lt_irrefl _)
      · exact e
theorem grp_const (f : Int → Option S) (t : S) : ∀ (n : Nat) (l : List Int), l.length ≤ n → l ≠ [] → (∀ b ∈ l, f b = some t) → grp f l = [(t, l)] := by
  have key : ∀ (n : Nat) (l : List Int), l.length ≤ n → l ≠ [] → (∀ b ∈ l, f b = some t) → firsts f l = [t] := by
    intro n
    induction n with
    | zero => intro l h hne; exact absurd (List.length_eq_zero_iff.mp (by omega)) hne
    | succ n ih =>
      intro l h hne hf
      rcases eq_snoc l with e | ⟨r, b, rfl⟩
      · exact absurd e hne
      · rw [List.length_append, List.length_singleton] at h
        rw [firsts_snoc, hf b (by simp)]
        by_cases hr : r = []
        · subst hr; rfl
        · have := ih r (by omega) hr fun x hx => hf x (List.mem_append_left _ hx)
          rw [this]
          simp
  intro n l h hne hf
  unfold grp
  rw [key n l h hne hf]
  have : leads f l t = l := by
    unfold leads
    exact List.filter_eq_self.mpr fun b hb => decide_eq_true (hf b hb)
  rw [List.map_cons, this]
  rfl
def rng (cnt : Nat) : List Int := (List.range cnt).map fun n : Nat => (n : Int)
theorem rng_mem {cnt : Nat} {b : Int} : b ∈ rng cnt ↔ 0 ≤ b ∧ b < (cnt : Int) := by
  unfold rng
  rw [List.mem_map]
  constructor
  · rintro ⟨n, hn, rfl⟩
    have := List.mem_range.mp hn
    omega
  · rintro ⟨h0, h1⟩
    exact ⟨b.toNat, List.mem_range.mpr (by omega), by omega⟩
theorem rng_asc (cnt : Nat) : (rng cnt).Pairwise (· < ·) := by
  unfold rng
  rw [List.pairwise_map]
  exact List.pairwise_lt_range.imp fun h => by omega
/-- the codes by which each state was come to -/
structure Bfs (step : S → Int → Option S) (s0 : S) (cnt n : Nat) (ss : List S) (cs : List (List Int)) (os : List (Option (Nat × Int))) : Prop where
  lc : cs.length = ss.length
  lo : os.length = ss.length
  ln : n ≤ ss.length
  sz : ss[0]? = some s0
  cz : cs[0]? = some []
  oz : os[0]? = some none
  og : ∀ i, 0 < i → i < ss.length → ∃ (p : Nat) (b : Int) (c : List Int), os[i]? = some (some (p, b)) ∧ p < i ∧ cs[p]? = some c ∧ cs[i]? = some (c ++ [b])
  run : ∀ (i : Nat) c s, cs[i]? = some c → ss[i]? = some s → runB step s0 c = some s
  byt : ∀ c ∈ cs, Byt cnt c
  nd : ss.Nodup
  asc : (cs.map val).Pairwise (· < ·)
  cov : ∀ i, i < n → ∀ s c, ss[i]? = some s → cs[i]? = some c → ∀ b, 0 ≤ b → b < (cnt : Int) → ∀ t, step s b = some t → ∃ (j : Nat) (cj : List Int), ss[j]? = some t ∧ cs[j]? = some cj ∧ val cj ≤ val (c ++ [b])
/-- amid the next states of state n -/
structure Amid (step : S → Int → Option S) (s0 : S) (cnt n k : Nat) (s : S) (c : List Int) (ss : List S) (cs : List (List Int)) (os : List (Option (Nat × Int))) : Prop where
  bf : Bfs step s0 cnt n ss cs os
  at_ : ss[n]? = some s
  ct : cs[n]? = some c
  kl : k ≤ (firsts (step s) (rng cnt)).length
  low : ∀ c' ∈ cs, c' = [] ∨ (∃ (p : Nat) (b : Int) (cp : List Int), p < n ∧ cs[p]? = some cp ∧ c' = cp ++ [b]) ∨ ∃ (j : Nat) (t : S), j < k ∧ (firsts (step s) (rng cnt))[j]? = some t ∧ c' = c ++ [hd (step s) (rng cnt) t]
  got : ∀ (j : Nat) t, j < k → (firsts (step s) (rng cnt))[j]? = some t → ∃ (i : Nat) (ci : List Int), ss[i]? = some t ∧ cs[i]? = some ci ∧ val ci ≤ val (c ++ [hd (step s) (rng cnt) t])
/-- what every code but the first comes from -/
def Low (n : Nat) (cs : List (List Int)) : Prop := ∀ c' ∈ cs, c' = [] ∨ ∃ (p : Nat) (b : Int) (cp : List Int), p < n ∧ cs[p]? = some cp ∧ c' = cp ++ [b]
variable {step : S → Int → Option S} {s0 : S} {cnt n k : Nat} {s : S} {c : List Int} {ss : List S} {cs : List (List Int)} {os : List (Option (Nat × Int))}
theorem Bfs.start (step : S → Int → Option S) (s0 : S) (cnt : Nat) : Bfs step s0 cnt 0 [s0] [[]] [none] :=
  ⟨rfl, rfl, Nat.zero_le _, rfl, rfl, rfl, fun i h1 h2 => absurd h2 (by show ¬ i < 1; omega), fun i c s h1 h2 => by
    have i0 : i = 0 := by
      have := (List.getElem?_eq_some_iff.mp h1).1
      have : i < 1 := this
      omega
    subst i0
    cases h1; cases h2; rfl, fun c hc => by rw [List.mem_singleton.mp hc]; exact (fun b hb => (nomatch hb)), by simp, by simp, fun i h => absurd h (Nat.not_lt_zero _)⟩
theorem Low.start : Low 0 [[]] := fun c hc => .inl (List.mem_singleton.mp hc)
theorem Bfs.amid (b : Bfs step s0 cnt n ss cs os) (lw : Low n cs) (h1 : ss[n]? = some s) (h2 : cs[n]? = some c) : Amid step s0 cnt n 0 s c ss cs os :=
  ⟨b, h1, h2, Nat.zero_le _, fun c' hc => (lw c' hc).elim .inl fun h => .inr (.inl h), fun j t h => absurd h (Nat.not_lt_zero _)⟩
theorem val_at {vs : List (List Int)} (asc : (vs.map val).Pairwise (· < ·)) {i j : Nat} {a b : List Int} (h : i < j) (ha : vs[i]? = some a) (hb : vs[j]? = some b) : val a < val b := by
  have il := (List.getElem?_eq_some_iff.mp ha).1
  have jl := (List.getElem?_eq_some_iff.mp hb).1
  have := List.pairwise_iff_getElem.mp asc i j (by simpa using il) (by simpa using jl) h
  rw [List.getElem_map, List.getElem_map] at this
  rw [(List.getElem?_eq_some_iff.mp ha).2, (List.getElem?_eq_some_iff.mp hb).2] at this
  exact this
/-- all codes so far are less than the next one -/
theorem Amid.up (A : Amid step s0 cnt n k s c ss cs os) (h256 : cnt ≤ 256) {j : Nat} {t : S} (hj : k ≤ j) (ht : (firsts (step s) (rng cnt))[j]? = some t) : ∀ c' ∈ cs, val c' < val (c ++ [hd (step s) (rng cnt) t]) := by
  intro c' hc
  have h0 := (rng_mem.mp (hd_mem (List.mem_of_getElem? ht)).1)
  rw [val_snoc]
  rcases A.low c' hc with e | ⟨p, b, cp, hp, hcp, e⟩ | ⟨i, u, hi, hu, e⟩
  · subst e
    have : val [] = 0 := rfl
    omega
  · have v := val_at A.bf.asc hp hcp A.ct
    have hb := A.bf.byt c' hc b (by rw [e]; simp)
    rw [e, val_snoc]
    have e1 : val cp * 256 + 256 ≤ val c * 256 := by omega
    omega
  · have hl := hds_asc (step s) _ (rng cnt) (Nat.le_refl _) (rng_asc cnt)
    have il := (List.getElem?_eq_some_iff.mp hu).1
    have jl := (List.getElem?_eq_some_iff.mp ht).1
    have := List.pairwise_iff_getElem.mp hl i j (by simpa using il) (by simpa using jl) (by omega)
    rw [List.getElem_map, List.getElem_map, (List.getElem?_eq_some_iff.mp hu).2, (List.getElem?_eq_some_iff.mp ht).2] at this
    have h1 := (rng_mem.mp (hd_mem (List.mem_of_getElem? hu)).1)
    rw [e, val_snoc]
    omega
/-- a next state that is known already -/
theorem Amid.old (A : Amid step s0 cnt n k s c ss cs os) (h256 : cnt ≤ 256) {t : S} (ht : (firsts (step s) (rng cnt))[k]? = some t) (hin : t ∈ ss) : Amid step s0 cnt n (k + 1) s c ss cs os := by
  refine ⟨A.bf, A.at_, A.ct, (List.getElem?_eq_some_iff.mp ht).1, fun c' hc => ?_, fun j u hj hu => ?_⟩
  · rcases A.low c' hc with e | e | ⟨i, u, hi, r⟩
    · exact .inl e
    · exact .inr (.inl e)
    · exact .inr (.inr ⟨i, u, Nat.lt_succ_of_lt hi, r⟩)
  · rcases Nat.lt_succ_iff_lt_or_eq.mp hj with h | h
    · exact A.got j u h hu
    · subst h
      rw [ht] at hu
      cases hu
      obtain ⟨i, hi⟩ := List.mem_iff_getElem?.mp hin
      have il := (List.getElem?_eq_some_iff.mp hi).1
      obtain ⟨ci, hci⟩ : ∃ ci, cs[i]? = some ci := ⟨cs[i]'(by rw [A.bf.lc]; exact il), List.getElem?_eq_getElem _⟩
      exact ⟨i, ci, hi, hci, Nat.le_of_lt (A.up h256 (Nat.le_refl _) ht ci (List.mem_of_getElem? hci))⟩
theorem get_app {α : Type} {l : List α} {x : α} {i : Nat} {y : α} (h : l[i]? = some y) : (l ++ [x])[i]? = some y := by
  have il := (List.getElem?_eq_some_iff.mp h).1
  rw [List.getElem?_append_left il]; exact h
theorem get_last {α : Type} {l : List α} {x : α} : (l ++ [x])[l.length]? = some x := by simp
theorem get_cases {α : Type} {l : List α} {x : α} {i : Nat} {y : α} (h : (l ++ [x])[i]? = some y) : l[i]? = some y ∨ (i = l.length ∧ y = x) := by
  rw [List.getElem?_append] at h
  split at h
  · exact .inl h
  · rename_i q
    have : i - l.length = 0 := by
      cases e : i - l.length with
      | zero => rfl
      | succ k => rw [e] at h; simp at h
    rw [this] at h
    cases h
    exact .inr ⟨by omega, rfl⟩
/-- a new next state -/
theorem Amid.new (A : Amid step s0 cnt n k s c ss cs os) (h256 : cnt ≤ 256) {t : S} (ht : (firsts (step s) (rng cnt))[k]? = some t) (hout : t ∉ ss) :
    Amid step s0 cnt n (k + 1) s c (ss ++ [t]) (cs ++ [c ++ [hd (step s) (rng cnt) t]]) (os ++ [some (n, hd (step s) (rng cnt) t)]) := by
  have hm := hd_mem (List.mem_of_getElem? ht)
  have hr := rng_mem.mp hm.1
  have B := A.bf
  have nl : n < ss.length := (List.getElem?_eq_some_iff.mp A.at_).1
  have bc : Byt cnt c := B.byt c (List.mem_of_getElem? A.ct)
  refine ⟨⟨by rw [List.length_append, List.length_append, B.lc]; rfl, by rw [List.length_append, List.length_append, B.lo]; rfl, by rw [List.length_append]; have := B.ln; omega, get_app B.sz, get_app B.cz, get_app B.oz, fun i h0 hi => ?_, fun i c' s' h1 h2 => ?_, fun c' hc => ?_, ?_, ?_, fun i hi s' c' h1 h2 b b0 b1 u hu => ?_⟩, get_app A.at_, get_app A.ct, (List.getElem?_eq_some_iff.mp ht).1, fun c' hc => ?_, fun j u hj hu => ?_⟩
  · rw [List.length_append, List.length_singleton] at hi
    rcases Nat.lt_succ_iff_lt_or_eq.mp hi with h | h
    · obtain ⟨p, b, cp, h1, h2, h3, h4⟩ := B.og i h0 h
      exact ⟨p, b, cp, get_app h1, h2, get_app h3, get_app h4⟩
    · subst h
      refine ⟨n, hd (step s) (rng cnt) t, c, ?_, nl, get_app A.ct, ?_⟩
      · rw [← B.lo]; exact get_last
      · rw [← B.lc]; exact get_last
  · rcases get_cases h1 with h | ⟨h, rfl⟩
    · have il := (List.getElem?_eq_some_iff.mp h).1
      rcases get_cases h2 with g | ⟨g, _⟩
      · exact B.run i c' s' h g
      · have := B.lc; omega
    · rcases get_cases h2 with g | ⟨g, rfl⟩
      · have il := (List.getElem?_eq_some_iff.mp g).1
        have := B.lc; omega
      · rw [runB_snoc, B.run n c s A.ct A.at_]
        exact hm.2
  · rcases List.mem_append.mp hc with h | h
    · exact B.byt c' h
    · rw [List.mem_singleton.mp h]; exact byt_snoc bc hr.1 hr.2
  · refine List.nodup_append.mpr ⟨B.nd, by simp, fun x hx y hy z => ?_⟩
    rw [List.mem_singleton.mp hy] at z
    exact hout (z ▸ hx)
  · rw [List.map_append]
    refine List.pairwise_append.mpr ⟨B.asc, by simp, fun x hx y hy => ?_⟩
    obtain ⟨c', hc', rfl⟩ := List.mem_map.mp hx
    have ey : y = val (c ++ [hd (step s) (rng cnt) t]) := by simpa using hy
    rw [ey]
    exact A.up h256 (Nat.le_refl _) ht c' hc'
  · have il : i < ss.length := by have := B.ln; omega
    have h1' : ss[i]? = some s' := by rw [List.getElem?_append_left il] at h1; exact h1
    have h2' : cs[i]? = some c' := by rw [List.getElem?_append_left (by rw [B.lc]; exact il)] at h2; exact h2
    obtain ⟨j, cj, g1, g2, g3⟩ := B.cov i hi s' c' h1' h2' b b0 b1 u hu
    exact ⟨j, cj, get_app g1, get_app g2, g3⟩
  · rcases List.mem_append.mp hc with h | h
    · rcases A.low c' h with e | ⟨p, b, cp, hp, hcp, e⟩ | ⟨i, u, hi, r⟩
      · exact .inl e
      · exact .inr (.inl ⟨p, b, cp, hp, get_app hcp, e⟩)
      · exact .inr (.inr ⟨i, u, Nat.lt_succ_of_lt hi, r⟩)
    · exact .inr (.inr ⟨k, t, Nat.lt_succ_self _, ht, List.mem_singleton.mp h⟩)
  · rcases Nat.lt_succ_iff_lt_or_eq.mp hj with h | h
    · obtain ⟨i, ci, g1, g2, g3⟩ := A.got j u h hu
      exact ⟨i, ci, get_app g1, get_app g2, g3⟩
    · subst h
      rw [ht] at hu
      cases hu
      exact ⟨ss.length, _, get_last, by rw [← B.lc]; exact get_last, Nat.le_refl _⟩
/-- state n is done -/
theorem Amid.done (A : Amid step s0 cnt n k s c ss cs os) (hk : k = (firsts (step s) (rng cnt)).length) : Bfs step s0 cnt (n + 1) ss cs os ∧ Low (n + 1) cs := by
  have B := A.bf
  have nl : n < ss.length := (List.getElem?_eq_some_iff.mp A.at_).1
  refine ⟨⟨B.lc, B.lo, nl, B.sz, B.cz, B.oz, B.og, B.run, B.byt, B.nd, B.asc, fun i hi s' c' h1 h2 b b0 b1 u hu => ?_⟩, fun c' hc => ?_⟩
  · rcases Nat.lt_succ_iff_lt_or_eq.mp hi with h | h
    · exact B.cov i h s' c' h1 h2 b b0 b1 u hu
    · subst h
      rw [A.at_] at h1
      rw [A.ct] at h2
      cases h1; cases h2
      have hb := rng_mem.mpr ⟨b0, b1⟩
      have hmem : u ∈ firsts (step s) (rng cnt) := ((frs _ _).mem u).mpr ⟨b, hb, hu⟩
      obtain ⟨j, hj⟩ := List.mem_iff_getElem?.mp hmem
      obtain ⟨q, cq, g1, g2, g3⟩ := A.got j u (by rw [hk]; exact (List.getElem?_eq_some_iff.mp hj).1) hj
      have le := hd_le (rng_asc cnt) hb hu
      have h0 := (rng_mem.mp (hd_mem hmem).1).1
      refine ⟨q, cq, g1, g2, Nat.le_trans g3 ?_⟩
      rw [val_snoc, val_snoc]
      omega
  · rcases A.low c' hc with e | ⟨p, b, cp, hp, r⟩ | ⟨i, u, hi, hu, e⟩
    · exact .inl e
    · exact .inr ⟨p, b, cp, Nat.lt_succ_of_lt hp, r⟩
    · exact .inr ⟨n, _, c, Nat.lt_succ_self _, A.ct, e⟩
/-- each state that a code leads to is known by the least one, as far as the walk has come -/
theorem Bfs.least (B : Bfs step s0 cnt n ss cs os) : ∀ (m : Nat) (row : List Int), row.length ≤ m → Byt cnt row → (∀ (i : Nat) c, cs[i]? = some c → n ≤ i → val row ≤ val c) → ∀ t, runB step s0 row = some t → ∃ (j : Nat) (c : List Int), ss[j]? = some t ∧ cs[j]? = some c ∧ val c ≤ val row
  | 0, row, hm, _, _, t, ht => by
    have : row = [] := List.length_eq_zero_iff.mp (by omega)
    subst this
    cases ht
    exact ⟨0, [], B.sz, B.cz, Nat.le_refl _⟩
  | m + 1, row, hm, hb, hn, t, ht => by
    rcases eq_snoc row with e | ⟨r, b, rfl⟩
    · subst e
      cases ht
      exact ⟨0, [], B.sz, B.cz, Nat.le_refl _⟩
    · rw [List.length_append, List.length_singleton] at hm
      rw [runB_snoc] at ht
      cases hr : runB step s0 r with
      | none => rw [hr] at ht; cases ht
      | some s' =>
        rw [hr] at ht
        have ht : step s' b = some t := ht
        have lt : val r < val (r ++ [b]) := by rw [val_snoc]; omega
        obtain ⟨i, c', h1, h2, h3⟩ := Bfs.least B m r (by omega) (fun x hx => hb x (List.mem_append_left _ hx)) (fun i c' hi hni => Nat.le_trans (Nat.le_of_lt lt) (hn i c' hi hni)) s' hr
        have hin : i < n := by
          rcases Nat.lt_or_ge i n with h | h
          · exact h
          · have := hn i c' h2 h
            omega
        have hbb := hb b (by simp)
        obtain ⟨j, cj, g1, g2, g3⟩ := B.cov i hin s' c' h1 h2 b hbb.1 hbb.2 t ht
        refine ⟨j, cj, g1, g2, Nat.le_trans g3 ?_⟩
        rw [val_snoc, val_snoc]
        omega
/-- all done: all states are known -/
theorem Bfs.all (B : Bfs step s0 cnt n ss cs os) (hn : n = ss.length) {row : List Int} (hb : Byt cnt row) {t : S} (ht : runB step s0 row = some t) : ∃ (j : Nat) (c : List Int), ss[j]? = some t ∧ cs[j]? = some c ∧ val c ≤ val row :=
  B.least row.length row (Nat.le_refl _) hb (fun i c hi hni => absurd (List.getElem?_eq_some_iff.mp hi).1 (by rw [B.lc]; omega)) t ht
end
end Bf
namespace Ct
open Bf
section sums
variable {α : Type}
theorem sum_add (f g : α → Nat) : ∀ l : List α, (l.map fun x => f x + g x).sum = (l.map f).sum + (l.map g).sum
  | [] => rfl
  | x :: l => by
    simp only [List.map_cons, List.sum_cons]
    rw [sum_add f g l]
    omega
theorem sum_zero {f : α → Nat} : ∀ {l : List α}, (∀ x ∈ l, f x = 0) → (l.map f).sum = 0
  | [], _ => rfl
  | x :: l, h => by
    simp only [List.map_cons, List.sum_cons]
    rw [h x List.mem_cons_self, sum_zero fun y hy => h y (List.mem_cons_of_mem _ hy)]
theorem sum_pos {f : α → Nat} : ∀ {l : List α}, (l.map f).sum ≠ 0 → ∃ x ∈ l, f x ≠ 0
  | [], h => absurd rfl h
  | x :: l, h => by
    simp only [List.map_cons, List.sum_cons] at h
    by_cases e : f x = 0
    · obtain ⟨y, hy, q⟩ := sum_pos (f := f) (l := l) (by omega)
      exact ⟨y, List.mem_cons_of_mem _ hy, q⟩
    · exact ⟨x, List.mem_cons_self, e⟩
theorem sum_le {f : α → Nat} {x : α} : ∀ {l : List α}, x ∈ l → f x ≤ (l.map f).sum
  | y :: l, h => by
    simp only [List.map_cons, List.sum_cons]
    rcases List.mem_cons.mp h with e | h
    · rw [e]; omega
    · have := sum_le (f := f) h
      omega
theorem sum_cong {f g : α → Nat} : ∀ {l : List α}, (∀ x ∈ l, f x = g x) → (l.map f).sum = (l.map g).sum
  | [], _ => rfl
  | x :: l, h => by
    simp only [List.map_cons, List.sum_cons]
    rw [h x List.mem_cons_self, sum_cong fun y hy => h y (List.mem_cons_of_mem _ hy)]
theorem sum_one [DecidableEq α] {f : α → Nat} {a : α} : ∀ {l : List α}, l.Nodup → a ∈ l → (l.map fun x => if x = a then f x else 0).sum = f a
  | x :: l, nd, h => by
    rw [List.nodup_cons] at nd
    simp only [List.map_cons, List.sum_cons]
    rcases List.mem_cons.mp h with e | h
    · rw [if_pos e.symm, sum_zero fun y hy => if_neg fun z => nd.1 (by rw [← e, ← z]; exact hy), e]
      rfl
    · have ne : ¬ x = a := fun z => nd.1 (by rw [z]; exact h)
      rw [if_neg ne, sum_one nd.2 h]
      omega
theorem sum_ite (p : α → Bool) (f : α → Nat) : ∀ l : List α, (l.map fun x => if p x = true then f x else 0).sum = ((l.filter p).map f).sum
  | [] => rfl
  | x :: l => by
    simp only [List.map_cons, List.sum_cons, List.filter_cons]
    rw [sum_ite p f l]
    by_cases h : p x = true
    · rw [if_pos h, if_pos h]; simp
    · rw [if_neg h, if_neg h]; omega
theorem sum_perm {f : α → Nat} {l m : List α} (h : l.Perm m) : (l.map f).sum = (m.map f).sum := by
  induction h with
  | nil => rfl
  | cons x _ ih => simp only [List.map_cons, List.sum_cons]; rw [ih]
  | swap x y l => simp only [List.map_cons, List.sum_cons]; omega
  | trans _ _ a b => exact a.trans b
theorem sum_flat {β : Type} (f : β → Nat) (g : α → List β) : ∀ l : List α, (((l.map g).flatten).map f).sum = (l.map fun x => ((g x).map f).sum).sum
  | [] => rfl
  | x :: l => by
    simp only [List.map_cons, List.flatten_cons, List.map_append, List.sum_cons]
    rw [List.sum_append, sum_flat f g l]
end sums
section
variable {S : Type} [DecidableEq S]
/-- what g gives for the byte and its next state, nothing if there is none -/
def at' (f : Int → Option S) (g : Int → S → Nat) (b : Int) : Nat := match f b with
  | none => 0
  | some t => g b t
theorem swap (f : Int → Option S) (g : Int → S → Nat) {F : List S} (nd : F.Nodup) : ∀ {l : List Int}, (∀ b ∈ l, ∀ t, f b = some t → t ∈ F) → (F.map fun t => ((l.filter fun b => decide (f b = some t)).map fun b => g b t).sum).sum = (l.map (at' f g)).sum
  | [], _ => by simp only [List.filter_nil, List.map_nil]; exact sum_zero fun _ _ => rfl
  | b :: l, h => by
    have ih := swap f g nd (l := l) fun c hc => h c (List.mem_cons_of_mem _ hc)
    simp only [List.map_cons, List.sum_cons]
    rw [← ih]
    have e : ∀ t ∈ F, (((b :: l).filter fun b => decide (f b = some t)).map fun b => g b t).sum = (if f b = some t then g b t else 0) + ((l.filter fun b => decide (f b = some t)).map fun b => g b t).sum := fun t _ => by
      rw [List.filter_cons]
      by_cases q : f b = some t
      · simp [q]
      · simp [q]
    rw [sum_cong e, sum_add]
    congr 1
    unfold at'
    cases q : f b with
    | none => exact sum_zero fun t _ => if_neg (fun z => nomatch z)
    | some u =>
      show _ = g b u
      rw [← sum_one (f := fun t => g b t) nd (h b List.mem_cons_self u q)]
      refine sum_cong fun t _ => ?_
      by_cases z : t = u
      · rw [if_pos z, if_pos (by rw [z])]
      · rw [if_neg z, if_neg fun y => z (Option.some.inj y).symm]
/-- the sum over the groups is the sum over the bytes -/
theorem grp_sum (f : Int → Option S) (g : Int → S → Nat) (l : List Int) : ((grp f l).map fun q => (q.2.map fun b => g b q.1).sum).sum = (l.map (at' f g)).sum := by
  unfold grp
  rw [List.map_map]
  exact swap f g (frs f l).nd fun b hb t e => ((frs f l).mem t).mpr ⟨b, hb, e⟩
variable (step : S → Int → Option S) (sf : S) (cnt : Nat)
/-- how many codes of this length lead from the state to the final one -/
def num : Nat → S → Nat
  | 0, s => if s = sf then 1 else 0
  | n + 1, s => ((rng cnt).map (at' (step s) fun _ t => num n t)).sum
/-- how many codes of its length that lead to the final state stand ahead of this one -/
def rank : List Int → S → Nat
  | [], _ => 0
  | b :: r, s => (((rng cnt).filter fun b' => decide (b' < b)).map (at' (step s) fun _ t => num step sf cnt r.length t)).sum + (match step s b with
    | none => 0
    | some t => rank r t)
def okB (s : S) (row : List Int) : Bool := decide (runB step s row = some sf)
variable {step sf cnt}
theorem runB_cons (s : S) (b : Int) (r : List Int) : runB step s (b :: r) = (step s b).bind fun t => runB step t r := by
  unfold runB
  rw [List.foldlM_cons]
  rfl
end
section dist
variable {S : Type} [DecidableEq S] {step : S → Int → Option S} {sf : S} {cnt : Nat}
/-- the least number of bytes that lead from the state to the final one -/
def Lst (step : S → Int → Option S) (sf : S) (cnt j : Nat) (s : S) : Prop := num step sf cnt j s ≠ 0 ∧ ∀ i, i < j → num step sf cnt i s = 0
theorem Lst.one {i j : Nat} {s : S} (h : Lst step sf cnt i s) (g : Lst step sf cnt j s) : i = j := by
  rcases Nat.lt_trichotomy i j with l | e | l
  · exact absurd (g.2 i l) h.1
  · exact e
  · exact absurd (h.2 j l) g.1
theorem lst_ex {n : Nat} {s : S} (h : num step sf cnt n s ≠ 0) : ∃ j, j ≤ n ∧ Lst step sf cnt j s := by
  induction n using Nat.strongRecOn with
  | _ n ih =>
    by_cases q : ∃ i, i < n ∧ num step sf cnt i s ≠ 0
    · obtain ⟨i, hi, e⟩ := q
      obtain ⟨j, hj, l⟩ := ih i hi e
      exact ⟨j, by omega, l⟩
    · exact ⟨n, Nat.le_refl n, h, fun i hi => Classical.byContradiction fun z => q ⟨i, hi, z⟩⟩
/-- a byte leads from the one state to the other -/
def Edge (step : S → Int → Option S) (cnt : Nat) (s t : S) : Prop := ∃ b ∈ rng cnt, step s b = some t
theorem num_edge {n : Nat} {s : S} (h : num step sf cnt (n + 1) s ≠ 0) : ∃ t, Edge step cnt s t ∧ num step sf cnt n t ≠ 0 := by
  unfold num at h
  obtain ⟨b, hb, q⟩ := sum_pos h
  unfold at' at q
  cases e : step s b with
  | none => rw [e] at q; exact absurd rfl q
  | some t => rw [e] at q; exact ⟨t, ⟨b, hb, e⟩, q⟩
theorem edge_num {n : Nat} {s t : S} (h : Edge step cnt s t) (g : num step sf cnt n t ≠ 0) : num step sf cnt (n + 1) s ≠ 0 := by
  obtain ⟨b, hb, e⟩ := h
  have l := sum_le (f := at' (step s) fun _ t => num step sf cnt n t) hb
  have v : at' (step s) (fun _ t => num step sf cnt n t) b = num step sf cnt n t := by unfold at'; rw [e]
  rw [v] at l
  show ((rng cnt).map (at' (step s) fun _ t => num step sf cnt n t)).sum ≠ 0
  omega
theorem lst_edge {j : Nat} {s : S} (h : Lst step sf cnt (j + 1) s) : ∃ t, Edge step cnt s t ∧ Lst step sf cnt j t := by
  obtain ⟨t, e, q⟩ := num_edge h.1
  refine ⟨t, e, q, fun i hi => Classical.byContradiction fun z => ?_⟩
  exact edge_num e z (h.2 (i + 1) (by omega))
/-- the states at a distance up to k are known -/
structure DInv (step : S → Int → Option S) (sf : S) (cnt : Nat) (ss : List S) (k : Nat) (d : List (Option Nat)) : Prop where
  len : d.length = ss.length
  snd : ∀ (i : Nat) s j, ss[i]? = some s → d[i]? = some (some j) → j ≤ k ∧ Lst step sf cnt j s
  cmp : ∀ (i : Nat) s j, j ≤ k → ss[i]? = some s → Lst step sf cnt j s → d[i]? = some (some j)
structure DAm (step : S → Int → Option S) (sf : S) (cnt : Nat) (ss : List S) (k : Nat) (d0 d : List (Option Nat)) (fur : List Nat) : Prop where
  len : d.length = ss.length
  snd : ∀ (i : Nat) s j, ss[i]? = some s → d[i]? = some (some j) → j ≤ k + 1 ∧ Lst step sf cnt j s
  cmp : ∀ (i : Nat) s j, j ≤ k → ss[i]? = some s → Lst step sf cnt j s → d[i]? = some (some j)
  mem : ∀ i : Nat, i ∈ fur ↔ d[i]? = some (some (k + 1))
  few : d.countP (fun o => o.isNone) + fur.length = d0.countP (fun o => o.isNone)
  mono : ∀ i : Nat, d0[i]? ≠ some none → d[i]? ≠ some none
def dist0 (sf : S) (ss : List S) : List (Option Nat) := ss.map fun s => if s = sf then some 0 else none
variable {ss : List S} {k : Nat} {d0 d : List (Option Nat)} {fur : List Nat}
theorem lst_zero {s : S} : Lst step sf cnt 0 s ↔ s = sf := by
  unfold Lst num
  by_cases h : s = sf
  · rw [if_pos h]; exact ⟨fun _ => h, fun _ => ⟨by omega, fun i hi => absurd hi (Nat.not_lt_zero _)⟩⟩
  · rw [if_neg h]; exact ⟨fun z => absurd rfl z.1, fun z => absurd z h⟩
theorem DInv.start : DInv step sf cnt ss 0 (dist0 sf ss) := ⟨by unfold dist0; rw [List.length_map], fun i s j hs hd => by
    unfold dist0 at hd
    rw [List.getElem?_map, hs] at hd
    dsimp only [Option.map] at hd
    by_cases h : s = sf
    · rw [if_pos h] at hd
      cases hd
      exact ⟨Nat.le_refl _, lst_zero.mpr h⟩
    · rw [if_neg h] at hd; exact absurd hd (fun z => nomatch z), fun i s j hj hs hl => by
    have : j = 0 := by omega
    subst this
    unfold dist0
    rw [List.getElem?_map, hs]
    dsimp only [Option.map]
    rw [if_pos (lst_zero.mp hl)]⟩
theorem DInv.amid (D : DInv step sf cnt ss k d) : DAm step sf cnt ss k d d [] := ⟨D.len, fun i s j hs hd => ⟨Nat.le_succ_of_le (D.snd i s j hs hd).1, (D.snd i s j hs hd).2⟩, D.cmp, fun i => ⟨fun h => (nomatch h), fun h => by
    have il : i < ss.length := by rw [← D.len]; exact (List.getElem?_eq_some_iff.mp h).1
    have := (D.snd i ss[i] _ (List.getElem?_eq_getElem il) h).1
    omega⟩, rfl, fun _ h => h⟩
theorem countP_set {x : Nat} : ∀ {l : List (Option Nat)} {i : Nat}, l[i]? = some none → (l.set i (some x)).countP (fun o => o.isNone) + 1 = l.countP (fun o => o.isNone)
  | [], i, h => by simp at h
  | o :: l, 0, h => by
    cases h
    rw [List.set_cons_zero, List.countP_cons_of_neg (by simp), List.countP_cons_of_pos (by simp)]
  | o :: l, i + 1, h => by
    rw [List.set_cons_succ, List.countP_cons, List.countP_cons, ← countP_set (i := i) (l := l) (x := x) h]
    omega
theorem DAm.more (A : DAm step sf cnt ss k d0 d fur) {i p : Nat} {s t : S} (hs : ss[i]? = some s) (ht : ss[p]? = some t) (e : Edge step cnt s t) (dp : d[p]? = some (some k)) (di : d[i]? = some none) : DAm step sf cnt ss k d0 (d.set i (some (k + 1))) (fur ++ [i]) := by
  have il := (List.getElem?_eq_some_iff.mp di).1
  have lt := (A.snd p t k ht dp).2
  have ls : Lst step sf cnt (k + 1) s := ⟨edge_num e lt.1, fun j hj => Classical.byContradiction fun z => by
    obtain ⟨j', h1, h2⟩ := lst_ex z
    have := A.cmp i s j' (by omega) hs h2
    rw [di] at this
    cases this⟩
  have gt : ∀ j : Nat, (d.set i (some (k + 1)))[j]? = if j = i then some (some (k + 1)) else d[j]? := fun j => by
    rw [List.getElem?_set]
    by_cases h : j = i
    · rw [if_pos h, if_pos h.symm, if_pos (by omega)]
    · rw [if_neg h, if_neg fun z => h z.symm]
  refine ⟨by rw [List.length_set]; exact A.len, fun j s' q h1 h2 => ?_, fun j s' q h1 h2 h3 => ?_, fun j => ?_, ?_, fun j h => ?_⟩
  · rw [gt] at h2
    by_cases h : j = i
    · rw [if_pos h] at h2
      cases h2
      subst h
      rw [hs] at h1
      cases h1
      exact ⟨Nat.le_refl _, ls⟩
    · rw [if_neg h] at h2
      exact A.snd j s' q h1 h2
  · rw [gt]
    by_cases h : j = i
    · subst h
      have := A.cmp j s' q h1 h2 h3
      rw [di] at this
      cases this
    · rw [if_neg h]; exact A.cmp j s' q h1 h2 h3
  · rw [gt, List.mem_append, List.mem_singleton, A.mem]
    by_cases h : j = i
    · rw [if_pos h]; exact ⟨fun _ => rfl, fun _ => .inr h⟩
    · rw [if_neg h]; exact ⟨fun z => z.resolve_right h, .inl⟩
  · have := countP_set (i := i) (x := k + 1) di
    have f := A.few
    rw [List.length_append, List.length_singleton]
    omega
  · rw [gt]
    by_cases h' : j = i
    · rw [if_pos h']; exact fun z => nomatch z
    · rw [if_neg h']; exact A.mono j h
theorem DAm.done (A : DAm step sf cnt ss k d0 d fur) (cl : ∀ s ∈ ss, ∀ t, Edge step cnt s t → t ∈ ss)
    (all : ∀ (p i : Nat) s t, ss[i]? = some s → ss[p]? = some t → d[p]? = some (some k) → Edge step cnt s t → d[i]? ≠ some none) : DInv step sf cnt ss (k + 1) d := by
  refine ⟨A.len, A.snd, fun i s j hj hs hl => ?_⟩
  rcases Nat.lt_or_ge j (k + 1) with h | h
  · exact A.cmp i s j (by omega) hs hl
  · have : j = k + 1 := by omega
    subst this
    obtain ⟨t, e, q⟩ := lst_edge hl
    obtain ⟨p, hp⟩ := List.mem_iff_getElem?.mp (cl s (List.mem_of_getElem? hs) t e)
    have nn := all p i s t hs hp (A.cmp p t k (Nat.le_refl _) hp q) e
    have il : i < d.length := by rw [A.len]; exact (List.getElem?_eq_some_iff.mp hs).1
    cases o : d[i] with
    | none => exact absurd (by rw [List.getElem?_eq_getElem il, o]) nn
    | some x =>
      have hx : d[i]? = some (some x) := by rw [List.getElem?_eq_getElem il, o]
      rw [hx, (A.snd i s x hs hx).2.one hl]
/-- the distances are these -/
def Dsts (step : S → Int → Option S) (sf : S) (cnt : Nat) (ss : List S) (d : List (Option Nat)) : Prop := d.length = ss.length ∧ ∀ (i : Nat) s o, ss[i]? = some s → d[i]? = some o → match o with
  | none => ∀ n, num step sf cnt n s = 0
  | some j => Lst step sf cnt j s
theorem DInv.end_ (D : DInv step sf cnt ss k d) (cl : ∀ s ∈ ss, ∀ t, Edge step cnt s t → t ∈ ss) (no : ∀ i : Nat, d[i]? ≠ some (some k)) : Dsts step sf cnt ss d := by
  have nok : ∀ s ∈ ss, ¬ Lst step sf cnt k s := fun s hs hl => by
    obtain ⟨i, hi⟩ := List.mem_iff_getElem?.mp hs
    exact no i (D.cmp i s k (Nat.le_refl _) hi hl)
  have nom : ∀ m, ∀ s ∈ ss, ¬ Lst step sf cnt (k + m) s := fun m => by
    induction m with
    | zero => exact nok
    | succ m ih =>
      intro s hs hl
      obtain ⟨t, e, q⟩ := lst_edge (j := k + m) hl
      exact ih t (cl s hs t e) q
  refine ⟨D.len, fun i s o hs hd => ?_⟩
  cases o with
  | some j => exact (D.snd i s j hs hd).2
  | none =>
    intro n
    refine Classical.byContradiction fun z => ?_
    obtain ⟨j, _, l⟩ := lst_ex z
    rcases Nat.lt_or_ge k j with h | h
    · have := nom (j - k) s (List.mem_of_getElem? hs)
      rw [show k + (j - k) = j by omega] at this
      exact this l
    · have := D.cmp i s j h hs l
      rw [hd] at this
      cases this
end dist
end Ct
namespace Ov
open PySem PySem.Spec PyProof.Rows L2
mutual
inductive Dz (H : Hp) : V → PyData → Prop
  | non : Dz H .non .none
  | bl (b : Bool) : Dz H (.bl b) (.bool b)
  | int (i : Int) : Dz H (.int i) (.int i)
  | str (x : Str) : Dz H (.str x) (.str x)
  | dct {a : Addr} : H a = some (.dK []) → Dz H (.ref a) (.dict [])
  | lst {a : Addr} {xs : List V} {ds : List PyData} : H a = some (.lst xs) → a ≠ sysModules → DzAll H xs ds → Dz H (.ref a) (.list ds)
  | tup {a : Addr} {xs : List V} {ds : List PyData} : H a = some (.tup xs) → DzAll H xs ds → Dz H (.ref a) (.tuple ds)
inductive DzAll (H : Hp) : List V → List PyData → Prop
  | nil : DzAll H [] []
  | cons {v : V} {vs : List V} {d : PyData} {ds : List PyData} : Dz H v d → DzAll H vs ds → DzAll H (v :: vs) (d :: ds)
end
mutual
theorem Dz.dx {K : PySem.W.Frag} {H : Hp} : ∀ {v : V} {d : PyData}, Dz H v d → Dx K H v d
  | _, _, .non => .non
  | _, _, .bl b => .bl b
  | _, _, .int i => .int i
  | _, _, .str x => .str x
  | _, _, .dct h => .dct h
  | _, _, .lst h _ a => .lst (SqL.of h) (DzAll.dx a)
  | _, _, .tup h a => .tup (SqT.of h) (DzAll.dx a)
theorem DzAll.dx {K : PySem.W.Frag} {H : Hp} : ∀ {vs : List V} {ds : List PyData}, DzAll H vs ds → DxAll K H vs ds
  | _, _, .nil => .nil
  | _, _, .cons h a => .cons (Dz.dx h) (DzAll.dx a)
end
mutual
theorem Dz.same {H H' : Hp} (e : Same H H') : ∀ {v : V} {d : PyData}, Dz H v d → Dz H' v d
  | _, _, .non => .non
  | _, _, .bl b => .bl b
  | _, _, .int i => .int i
  | _, _, .str x => .str x
  | _, _, .dct h => .dct (e _ _ h)
  | _, _, .lst h n a => .lst (e _ _ h) n (DzAll.same e a)
  | _, _, .tup h a => .tup (e _ _ h) (DzAll.same e a)
theorem DzAll.same {H H' : Hp} (e : Same H H') : ∀ {vs : List V} {ds : List PyData}, DzAll H vs ds → DzAll H' vs ds
  | _, _, .nil => .nil
  | _, _, .cons h a => .cons (Dz.same e h) (DzAll.same e a)
end
theorem DzAll.at {H : Hp} : ∀ {vs : List V} {ds : List PyData}, DzAll H vs ds → ∀ {i : Nat} {v : V}, vs[i]? = some v → ∃ d, ds[i]? = some d ∧ Dz H v d
  | _, _, .nil, i, v, e => by simp at e
  | _, _, .cons h a, 0, v, e => by cases e; exact ⟨_, rfl, h⟩
  | _, _, .cons h a, i + 1, v, e => a.at (i := i) e
theorem DzAll.len {H : Hp} : ∀ {vs : List V} {ds : List PyData}, DzAll H vs ds → vs.length = ds.length
  | _, _, .nil => rfl
  | _, _, .cons _ a => by rw [List.length_cons, List.length_cons, a.len]
theorem DzAll.app {H : Hp} : ∀ {vs us : List V} {ds es : List PyData}, DzAll H vs ds → DzAll H us es → DzAll H (vs ++ us) (ds ++ es)
  | _, _, _, _, .nil, b => b
  | _, _, _, _, .cons h a, b => .cons h (a.app b)
theorem DzAll.take {H : Hp} : ∀ {vs : List V} {ds : List PyData} (n : Nat), DzAll H vs ds → DzAll H (vs.take n) (ds.take n)
  | _, _, 0, _ => .nil
  | _, _, n + 1, .nil => .nil
  | _, _, n + 1, .cons h a => .cons h (a.take n)
theorem DzAll.drop {H : Hp} : ∀ {vs : List V} {ds : List PyData} (n : Nat), DzAll H vs ds → DzAll H (vs.drop n) (ds.drop n)
  | _, _, 0, a => a
  | _, _, n + 1, .nil => .nil
  | _, _, n + 1, .cons h a => a.drop n
end Ov
namespace Zq
open PySem PySem.Spec PyProof.Rows L2
open PySem.Sem (wp)
theorem neQ {a b : Nat} (h : a ≠ b) : (a : Addr) ≠ (b : Addr) := h
def SI (k : Bool) (h : Heap) (it l : Addr) (n : Nat) : Prop := match k with
  | true => h.IsTupleIter it l n
  | false => h.IsListIter it l n
def SO (k : Bool) (h : Heap) (l : Addr) (us : Array Value) : Prop := match k with
  | true => h.IsTuple l us
  | false => h.IsList l us
theorem SI.ext {k : Bool} {h h' : Heap} {it l b : Addr} {n : Nat} (x : SI k h it l n) (e : Heap.ExtBut b h h') (ne : it ≠ b) : SI k h' it l n := by
  cases k with
  | true => exact Heap.IsTupleIter.extBut x e ne
  | false => exact Heap.IsListIter.extBut x e ne
theorem SI.to {k : Bool} {h h' : Heap} {it l : Addr} {n : Nat} (x : SI k h it l n) (e : ∀ o, h.get? it = some o → h'.get? it = some o) : SI k h' it l n := by
  cases k with
  | true => exact Heap.IsTupleIter.at x e
  | false => exact Heap.IsListIter.at x e
theorem SI.obj {k : Bool} {h : Heap} {it l : Addr} {n : Nat} (x : SI k h it l n) : ∃ o, h.get? it = some o ∧ o.data = .fields #[.ref l, .int n 0] := by
  cases k with
  | true => obtain ⟨o, e, _, d⟩ := x; exact ⟨o, e, d⟩
  | false => obtain ⟨o, e, _, d⟩ := x; exact ⟨o, e, d⟩
theorem SO.ext {k : Bool} {h h' : Heap} {l b : Addr} {us : Array Value} (x : SO k h l us) (e : Heap.ExtBut b h h') (ne : l ≠ b) : SO k h' l us := by
  cases k with
  | true => exact Heap.IsTuple.extBut x e ne
  | false => exact Heap.IsList.extBut x e ne
theorem SO.push {k : Bool} {h : Heap} {l : Addr} {us : Array Value} (x : SO k h l us) (o : Obj) : SO k (h.push o) l us := by
  cases k with
  | true => exact Heap.IsTuple.push x o
  | false => exact Heap.IsList.push x o
theorem SO.lt {k : Bool} {h : Heap} {l : Addr} {us : Array Value} (x : SO k h l us) : l < h.objs.size := by
  cases k with
  | true => obtain ⟨o, e, _⟩ := x; exact Heap.lt_size e
  | false => obtain ⟨o, e, _⟩ := x; exact Heap.lt_size e
/-- three in a tuple -/
abbrev Tr (h : Heap) (T : Addr) (a b c : Value) : Prop := h.get? T = some { cls := .type "tuple", data := .seq #[a, b, c] }
section
variable {prog : Program} {w : World} {A : Around} {E : Value → Shared → Prop} {s : Shared}
theorem next_item {k : Bool} {it l : Addr} {n : Nat} {us : Array Value} {x : Value} {Q : Value → Shared → Prop} (a : SI k s.heap it l n) (o : SO k s.heap l us) (e : us[n]? = some x)
    (q : ∀ g, SI k g it l (n + 1) → Heap.SameBut it s.heap g → Q x { s with heap := g }) : wpAny (model prog w) A (Builtin.SmallTypes.nextOf (.ref it)) Q E s := by
  cases k with
  | true => exact RZ.nextOf_tuple_item a o e q
  | false => exact wpAny_nextOf_list_item a o e q
theorem next_end {k : Bool} {it l : Addr} {n : Nat} {us : Array Value} {Q : Value → Shared → Prop} (hh : A.handled = none) (a : SI k s.heap it l n) (o : SO k s.heap l us) (e : us[n]? = none)
    (q : ∀ g r, Heap.ExtBut it s.heap g → (∃ o, g.get? r = some o ∧ o.cls = .type "StopIteration") → E (.ref r) { s with heap := g }) : wpAny (model prog w) A (Builtin.SmallTypes.nextOf (.ref it)) Q E s := by
  cases k with
  | true => exact RZ.nextOf_tuple_end hh a o e q
  | false => exact wpAny_nextOf_list_end hh a o e q
theorem upd_tr {T : Addr} {a b c x : Value} {j : Nat} {Q : Unit → Shared → Prop} (hT : Tr s.heap T a b c) (q : ∀ g, g.get? T = some { cls := .type "tuple", data := .seq ((#[a, b, c] : Array Value).setIfInBounds j x) } → Heap.SameBut T s.heap g → Q () { s with heap := g }) :
    wpAny (model prog w) A (updateSeq T (·.setIfInBounds j x)) Q E s := by
  refine wpAny_updateSeq hT rfl (q _ ?_ (Heap.SameBut.update ..))
  rw [Heap.get?_update_self _ hT rfl]; simp [Obj.mapSeq]
/-- where the pieces of a zip of three stand: iterators at I, I + 1, I + 2, their tuple at I + 3, the items' at I + 4, the zip at I + 5 -/
structure Z3 (h : Heap) (I l1 l2 l3 n : Nat) (k1 k2 k3 : Bool) : Prop where
  z : IsZip h (I + 5) (I + 3) (I + 4) .none
  ti : Tr h (I + 3) (.ref I) (.ref (I + 1)) (.ref (I + 2))
  to : ∃ a b c, Tr h (I + 4) a b c
  a1 : SI k1 h I l1 n
  a2 : SI k2 h (I + 1) l2 n
  a3 : SI k3 h (I + 2) l3 n
theorem z3_item {I l1 l2 l3 n : Nat} {k1 k2 k3 : Bool} {xs ys zs : Array Value} {x y v : Value} {Q : Value → Shared → Prop} (Z : Z3 s.heap I l1 l2 l3 n k1 k2 k3) (b1 : l1 < I) (b2 : l2 < I) (b3 : l3 < I)
    (o1 : SO k1 s.heap l1 xs) (o2 : SO k2 s.heap l2 ys) (o3 : SO k3 s.heap l3 zs) (hx : xs[n]? = some x) (hy : ys[n]? = some y) (hv : zs[n]? = some v)
    (hQ : ∀ g, IsZip g (I + 5) (I + 3) (I + 4) (rawInt s.heap.objs.size) → Tr g (I + 3) (.ref I) (.ref (I + 1)) (.ref (I + 2)) → Tr g (I + 4) x y v → SI k1 g I l1 (n + 1) → SI k2 g (I + 1) l2 (n + 1) → SI k3 g (I + 2) l3 (n + 1) → Tr g s.heap.objs.size x y v → g.objs.size = s.heap.objs.size + 1 →
      (∀ c o, c ≠ I → c ≠ I + 1 → c ≠ I + 2 → c ≠ I + 4 → c ≠ I + 5 → s.heap.get? c = some o → g.get? c = some o) → Q (.ref s.heap.objs.size) { s with heap := g }) :
    wpAny (model prog w) A (Builtin.«zip.__next__» ⟨[.ref (I + 5)], []⟩) (fun fin s' => ∃ v, fin = .done (.ret v) ∧ Q v s') E s := by
  obtain ⟨hz, ti, ⟨a, b, c, hto⟩, a1, a2, a3⟩ := Z
  show wpAny _ _ (field (.ref (I + 5)) 2 >>= _) _ _ _
  refine wpAny_bind (wpAny_field hz rfl (x := .bool false) rfl ?_); show wpAny _ _ (field (.ref (I + 5)) 3 >>= _) _ _ _
  refine wpAny_bind (wpAny_field hz rfl (x := .ref (I + 3)) rfl ?_)
  refine wpAny_bind (wpAny_seqItems ti rfl ?_)
  show wpAny _ _ (Builtin.SmallTypes.ownedTupleIsFree (.ref (I + 5)) >>= _) _ _ _
  refine wpAny_bind ?_; unfold Builtin.SmallTypes.ownedTupleIsFree
  refine wpAny_bind (wpAny_field hz rfl (x := .none) rfl (wpAny_pure ?_)); simp only [if_true]
  refine wpAny_bind (wpAny_rule ?_)
  refine wpAny_bind (wpAny_field hz rfl (x := .ref (I + 4)) rfl ?_)
  refine wpAny_bind (wpAny_setField_rec hz (by simp) fun g1 z1 s1 => ?_)
  replace z1 : IsZip g1 (I + 5) (I + 3) (I + 4) .ellipsis := z1
  refine wpAny_bind ?_; simp only [List.zipIdx_cons, List.zipIdx_nil, List.forIn_cons, List.forIn_nil]
  -- the first
  refine wpAny_bind (wpAny_bind (wpAny_onRaise ?_)); show wpAny _ _ (Builtin.SmallTypes.nextOf (.ref I) >>= _) _ _ _
  refine wpAny_bind (next_item (a1.ext s1.extBut (neQ (by omega))) (o1.ext s1.extBut (neQ (by omega))) hx fun g2 c1 s2 => wpAny_pure ?_)
  have t2 : Tr g2 (I + 4) a b c := s2.extBut _ _ (neQ (by omega)) (s1.extBut _ _ (neQ (by omega)) hto)
  refine wpAny_bind (wpAny_seqItems t2 rfl ?_)
  refine wpAny_bind (upd_tr t2 fun g3 t3 s3 => ?_)
  replace t3 : Tr g3 (I + 4) x b c := t3
  refine wpAny_bind (wpAny_letGo (wpAny_pure ?_))
  -- the second
  refine wpAny_bind (wpAny_bind (wpAny_onRaise ?_)); show wpAny _ _ (Builtin.SmallTypes.nextOf (.ref (I + 1)) >>= _) _ _ _
  refine wpAny_bind (next_item (((a2.ext s1.extBut (neQ (by omega))).ext s2.extBut (neQ (by omega))).ext s3.extBut (neQ (by omega))) (((o2.ext s1.extBut (neQ (by omega))).ext s2.extBut (neQ (by omega))).ext s3.extBut (neQ (by omega))) hy fun g4 c2 s4 => wpAny_pure ?_)
  have t4 : Tr g4 (I + 4) x b c := s4.extBut _ _ (neQ (by omega)) t3
  refine wpAny_bind (wpAny_seqItems t4 rfl ?_)
  refine wpAny_bind (upd_tr t4 fun g5 t5 s5 => ?_)
  replace t5 : Tr g5 (I + 4) x y c := t5
  refine wpAny_bind (wpAny_letGo (wpAny_pure ?_))
  -- the third
  refine wpAny_bind (wpAny_bind (wpAny_onRaise ?_)); show wpAny _ _ (Builtin.SmallTypes.nextOf (.ref (I + 2)) >>= _) _ _ _
  refine wpAny_bind (next_item (((((a3.ext s1.extBut (neQ (by omega))).ext s2.extBut (neQ (by omega))).ext s3.extBut (neQ (by omega))).ext s4.extBut (neQ (by omega))).ext s5.extBut (neQ (by omega))) (((((o3.ext s1.extBut (neQ (by omega))).ext s2.extBut (neQ (by omega))).ext s3.extBut (neQ (by omega))).ext s4.extBut (neQ (by omega))).ext s5.extBut (neQ (by omega))) hv fun g6 c3 s6 => wpAny_pure ?_)
  have t6 : Tr g6 (I + 4) x y c := s6.extBut _ _ (neQ (by omega)) t5
  refine wpAny_bind (wpAny_seqItems t6 rfl ?_)
  refine wpAny_bind (upd_tr t6 fun g7 t7 s7 => ?_)
  replace t7 : Tr g7 (I + 4) x y v := t7
  refine wpAny_bind (wpAny_letGo (wpAny_pure (wpAny_pure ?_)))
  refine wpAny_bind (wpAny_seqItems t7 rfl ?_)
  refine wpAny_bind (wpAny_newTuple ?_)
  have sz : g7.objs.size = s.heap.objs.size := by rw [s7.1, s6.1, s5.1, s4.1, s3.1, s2.1, s1.1]
  have k7 : ∀ c o, c ≠ I → c ≠ I + 1 → c ≠ I + 2 → c ≠ I + 4 → c ≠ I + 5 → s.heap.get? c = some o → g7.get? c = some o := fun c o n0 n1 n2 n4 n5 e =>
    s7.extBut _ _ n4 (s6.extBut _ _ n2 (s5.extBut _ _ n4 (s4.extBut _ _ n1 (s3.extBut _ _ n4 (s2.extBut _ _ n0 (s1.extBut _ _ n5 e))))))
  have z7 : IsZip g7 (I + 5) (I + 3) (I + 4) .ellipsis := s7.extBut _ _ (neQ (by omega)) (s6.extBut _ _ (neQ (by omega)) (s5.extBut _ _ (neQ (by omega)) (s4.extBut _ _ (neQ (by omega)) (s3.extBut _ _ (neQ (by omega)) (s2.extBut _ _ (neQ (by omega)) z1)))))
  have ti7 : Tr g7 (I + 3) (.ref I) (.ref (I + 1)) (.ref (I + 2)) := k7 _ _ (neQ (by omega)) (neQ (by omega)) (neQ (by omega)) (neQ (by omega)) (neQ (by omega)) ti
  have c17 : SI k1 g7 I l1 (n + 1) := ((((c1.ext s3.extBut (neQ (by omega))).ext s4.extBut (neQ (by omega))).ext s5.extBut (neQ (by omega))).ext s6.extBut (neQ (by omega))).ext s7.extBut (neQ (by omega))
  have c27 : SI k2 g7 (I + 1) l2 (n + 1) := ((c2.ext s5.extBut (neQ (by omega))).ext s6.extBut (neQ (by omega))).ext s7.extBut (neQ (by omega))
  have c37 : SI k3 g7 (I + 2) l3 (n + 1) := c3.ext s7.extBut (neQ (by omega))
  have lt : I + 5 < g7.objs.size := Heap.lt_size z7
  show wpAny _ _ (Builtin.SmallTypes.ownedTupleHandOut (.ref (I + 5)) (.ref g7.objs.size) >>= _) _ _ _
  refine wpAny_bind ?_; unfold Builtin.SmallTypes.ownedTupleHandOut
  have z8 : IsZip (g7.push { cls := .type "tuple", data := .seq #[x, y, v] }) (I + 5) (I + 3) (I + 4) .ellipsis := Heap.get?_push_of_some _ z7
  refine wpAny_bind (wpAny_setField_rec z8 (by simp) fun g9 z9 s9 => ?_)
  replace z9 : IsZip g9 (I + 5) (I + 3) (I + 4) (rawInt g7.objs.size) := z9
  refine wpAny_setField_rec z9 (by simp) fun g10 z10 s10 => ?_
  replace z10 : IsZip g10 (I + 5) (I + 3) (I + 4) (rawInt g7.objs.size) := z10
  have up : ∀ c o, c ≠ I + 5 → g7.get? c = some o → g10.get? c = some o := fun c o n5 e => s10.extBut _ _ n5 (s9.extBut _ _ n5 (Heap.get?_push_of_some _ e))
  have t10 : Tr g10 g7.objs.size x y v := s10.extBut _ _ (Nat.ne_of_gt lt) (s9.extBut _ _ (Nat.ne_of_gt lt) (Heap.get?_push_size _ rfl))
  have sz10 : g10.objs.size = g7.objs.size + 1 := by rw [s10.1, s9.1, Heap.size_push]
  rw [sz] at z10 t10 sz10
  refine wpAny_pure ⟨_, rfl, ?_⟩; show Q (.ref g7.objs.size) _
  rw [sz]
  exact hQ g10 z10 (up _ _ (neQ (by omega)) ti7) (up _ _ (neQ (by omega)) t7) (c17.to fun o e => up _ o (neQ (by omega)) e) (c27.to fun o e => up _ o (neQ (by omega)) e) (c37.to fun o e => up _ o (neQ (by omega)) e) t10 sz10 fun c o n0 n1 n2 n4 n5 e => up c o n5 (k7 c o n0 n1 n2 n4 n5 e)
theorem z3_end {I l1 l2 l3 n : Nat} {k1 k2 k3 : Bool} {xs : Array Value} {Q : Fin → Shared → Prop} (hh : A.handled = none) (Z : Z3 s.heap I l1 l2 l3 n k1 k2 k3) (b1 : l1 < I)
    (o1 : SO k1 s.heap l1 xs) (hx : xs[n]? = none)
    (hE : ∀ g e, (∀ c o, c ≠ I → c ≠ I + 1 → c ≠ I + 2 → c ≠ I + 4 → c ≠ I + 5 → s.heap.get? c = some o → g.get? c = some o) → (∃ o, g.get? e = some o ∧ o.cls = .type "StopIteration") → E (.ref e) { s with heap := g }) :
    wpAny (model prog w) A (Builtin.«zip.__next__» ⟨[.ref (I + 5)], []⟩) Q E s := by
  obtain ⟨hz, ti, ⟨a, b, c, hto⟩, a1, a2, a3⟩ := Z
  show wpAny _ _ (field (.ref (I + 5)) 2 >>= _) _ _ _
  refine wpAny_bind (wpAny_field hz rfl (x := .bool false) rfl ?_); show wpAny _ _ (field (.ref (I + 5)) 3 >>= _) _ _ _
  refine wpAny_bind (wpAny_field hz rfl (x := .ref (I + 3)) rfl ?_)
  refine wpAny_bind (wpAny_seqItems ti rfl ?_)
  show wpAny _ _ (Builtin.SmallTypes.ownedTupleIsFree (.ref (I + 5)) >>= _) _ _ _
  refine wpAny_bind ?_; unfold Builtin.SmallTypes.ownedTupleIsFree
  refine wpAny_bind (wpAny_field hz rfl (x := .none) rfl (wpAny_pure ?_)); simp only [if_true]
  refine wpAny_bind (wpAny_rule ?_)
  refine wpAny_bind (wpAny_field hz rfl (x := .ref (I + 4)) rfl ?_)
  refine wpAny_bind (wpAny_setField_rec hz (by simp) fun g1 z1 s1 => ?_)
  replace z1 : IsZip g1 (I + 5) (I + 3) (I + 4) .ellipsis := z1
  refine wpAny_bind ?_; simp only [List.zipIdx_cons, List.zipIdx_nil, List.forIn_cons, List.forIn_nil]
  refine wpAny_bind (wpAny_bind (wpAny_onRaise ?_)); show wpAny _ _ (Builtin.SmallTypes.nextOf (.ref I) >>= _) _ _ _
  refine wpAny_bind (next_end hh (a1.ext s1.extBut (neQ (by omega))) (o1.ext s1.extBut (neQ (by omega))) hx fun g2 r s2 he => ?_)
  obtain ⟨oe, hoe, hce⟩ := he
  have z2 : IsZip g2 (I + 5) (I + 3) (I + 4) .ellipsis := s2 _ _ (neQ (by omega)) z1
  have rz : r ≠ I + 5 := fun q => by subst q; rw [z2] at hoe; cases hoe; simp at hce
  refine wpAny_setField_rec z2 (by simp) fun g3 _ s3 => hE g3 r (fun c o n0 _ _ _ n5 e => s3.extBut _ _ n5 (s2 _ _ n0 (s1.extBut _ _ n5 e))) ⟨oe, s3.extBut _ _ rz hoe, hce⟩
theorem next3_item {I l1 l2 l3 n : Nat} {k1 k2 k3 : Bool} {xs ys zs : Array Value} {x y v : Value} {Q : Option Value → Shared → Prop} (Z : Z3 s.heap I l1 l2 l3 n k1 k2 k3) (b1 : l1 < I) (b2 : l2 < I) (b3 : l3 < I)
    (o1 : SO k1 s.heap l1 xs) (o2 : SO k2 s.heap l2 ys) (o3 : SO k3 s.heap l3 zs) (hx : xs[n]? = some x) (hy : ys[n]? = some y) (hv : zs[n]? = some v)
    (hQ : ∀ g, IsZip g (I + 5) (I + 3) (I + 4) (rawInt s.heap.objs.size) → Tr g (I + 3) (.ref I) (.ref (I + 1)) (.ref (I + 2)) → Tr g (I + 4) x y v → SI k1 g I l1 (n + 1) → SI k2 g (I + 1) l2 (n + 1) → SI k3 g (I + 2) l3 (n + 1) → Tr g s.heap.objs.size x y v → g.objs.size = s.heap.objs.size + 1 →
      (∀ c o, c ≠ I → c ≠ I + 1 → c ≠ I + 2 → c ≠ I + 4 → c ≠ I + 5 → s.heap.get? c = some o → g.get? c = some o) → Q (some (.ref s.heap.objs.size)) { s with heap := g }) :
    wpAny (model prog w) A (pyNext (.ref (I + 5))) Q E s := by
  have hT : s.TypeIs (.ref (I + 5)) "zip" := ⟨_, Z.z, rfl⟩
  unfold pyNext
  exact wpAny_bind (wpAny_attempt (wpAny_callSpecial?_slot (name := Str.ofString "__next__") hT F.slot_zip_next (wpAny_call_entry F.slot_zip_next hT F.entry_zip_next
    (z3_item Z b1 b2 b3 o1 o2 o3 hx hy hv fun g a1 a2 a3 a4 a5 a6 a7 a8 a9 => wpAny_pure (hQ g a1 a2 a3 a4 a5 a6 a7 a8 a9)) (F.args_zip_next_1 _))))
theorem next3_end {I l1 l2 l3 n : Nat} {k1 k2 k3 : Bool} {xs : Array Value} {Q : Option Value → Shared → Prop} (hh : A.handled = none) (Z : Z3 s.heap I l1 l2 l3 n k1 k2 k3) (b1 : l1 < I) (o1 : SO k1 s.heap l1 xs) (hx : xs[n]? = none)
    (hQ : ∀ g, (∀ c o, c ≠ I → c ≠ I + 1 → c ≠ I + 2 → c ≠ I + 4 → c ≠ I + 5 → s.heap.get? c = some o → g.get? c = some o) → Q none { s with heap := g }) : wpAny (model prog w) A (pyNext (.ref (I + 5))) Q E s := by
  have hT : s.TypeIs (.ref (I + 5)) "zip" := ⟨_, Z.z, rfl⟩
  unfold pyNext
  refine wpAny_bind (wpAny_attempt (wpAny_callSpecial?_slot (name := Str.ofString "__next__") hT F.slot_zip_next (wpAny_call_entry F.slot_zip_next hT F.entry_zip_next
    (z3_end hh Z b1 o1 hx fun g e k ⟨o, ho, hc⟩ => ?_) (F.args_zip_next_1 _))))
  exact wpAny_bind (wpAny_isInstance (T := "StopIteration") (b := true) ⟨o, ho, hc⟩ isSubtype_stop (wpAny_pure (hQ _ k)))
end
theorem type3 (a b c : Value) : checkTypeCall "zip" ⟨[a, b, c], []⟩ = pure () := by kernel_rfl
theorem new3 (a b c : Value) : checkBuiltinCall "zip.__new__" ⟨[.type "zip", a, b, c], []⟩ = pure () := by kernel_rfl
theorem init4 (a b c d : Value) : argsOk "object.__init__" ⟨[a, b, c, d], []⟩ := by
  unfold argsOk
  rw [signature?_of (id := "object.__init__") (n := ['_', '_', 't', 'i', 'n', 'i', '_', '_']) (o := ['t', 'c', 'e', 'j', 'b', 'o']) (by kernel_rfl) F.owner_object]; kernel_rfl
abbrev P1 (h : Heap) (l1 : Addr) : Heap := h.push { cls := .type "tuple_iterator", data := .fields #[.ref l1, .int 0 0] }
abbrev P2 (h : Heap) (l1 l2 : Addr) : Heap := (P1 h l1).push { cls := .type "tuple_iterator", data := .fields #[.ref l2, .int 0 0] }
abbrev P3 (h : Heap) (l1 l2 l3 : Addr) : Heap := (P2 h l1 l2).push { cls := .type "list_iterator", data := .fields #[.ref l3, .int 0 0] }
abbrev P4 (h : Heap) (l1 l2 l3 : Addr) : Heap := (P3 h l1 l2 l3).push { cls := .type "tuple", data := .seq #[.ref h.objs.size, .ref (P1 h l1).objs.size, .ref (P2 h l1 l2).objs.size] }
abbrev P5 (h : Heap) (l1 l2 l3 : Addr) : Heap := (P4 h l1 l2 l3).push { cls := .type "tuple", data := .seq #[.none, .none, .none] }
abbrev P6 (h : Heap) (l1 l2 l3 : Addr) : Heap := (P5 h l1 l2 l3).push { cls := .type "zip", data := .fields #[.none, .bool false, .bool false, .ref (P3 h l1 l2 l3).objs.size, .ref (P4 h l1 l2 l3).objs.size] }
theorem meets3 (l1 l2 l3 : Addr) (xs ys zs : Array Value) :
    Meets (Builtin.«zip.__new__» ⟨[.type "zip", .ref l1, .ref l2, .ref l3], []⟩) (fun _ R s => s.heap.IsTuple l1 xs ∧ s.heap.IsTuple l2 ys ∧ s.heap.IsList l3 zs ∧ R (.ok (.ret (.ref (P5 s.heap l1 l2 l3).objs.size))) { s with heap := P6 s.heap l1 l2 l3 }) :=
  .of_wp fun prog w A R s h => by
    obtain ⟨hp, g, d, tk, os⟩ := s; obtain ⟨a1, a2, a3, h⟩ := h
    have hsub := sub_zip
    have b1 : Heap.IsTuple (Shared.heap ⟨hp, g, d, tk, os⟩) l1 xs := a1
    have b2 : Heap.IsTuple (Shared.heap ⟨P1 hp l1, g, d, tk, os⟩) l2 ys := Heap.IsTuple.push a2 _
    have b3 : Heap.IsList (Shared.heap ⟨P2 hp l1 l2, g, d, tk, os⟩) l3 zs := Heap.IsList.push (Heap.IsList.push a3 _) _
    wp_walk using wpAny_pyIter_tuple b1, wpAny_pyIter_tuple b2, wpAny_pyIter_list b3
    exact ⟨_, rfl, h⟩
section
variable {prog : Program} {w : World} {A : Around} {E : Value → Shared → Prop} {s : Shared}
theorem call3 {l1 l2 l3 : Addr} {xs ys zs : Array Value} {Q : Value → Shared → Prop} (a1 : s.heap.IsTuple l1 xs) (a2 : s.heap.IsTuple l2 ys) (a3 : s.heap.IsList l3 zs)
    (h : ∀ g, Z3 g s.heap.objs.size l1 l2 l3 0 true true false → g.objs.size = s.heap.objs.size + 6 → (∀ c o, s.heap.get? c = some o → g.get? c = some o) → Q (.ref (s.heap.objs.size + 5)) { s with heap := g }) :
    wpAny (model prog w) A (call (.type "zip") [.ref l1, .ref l2, .ref l3]) Q E s := by
  refine callType_new F.called_zip (by decide) (type3 _ _ _) (new3 _ _ _) (fun obj => init4 obj _ _ _) F.entry_zip_new (meets3 l1 l2 l3 xs ys zs) ⟨a1, a2, a3, ?_⟩
  have z1 : (P1 s.heap l1).objs.size = s.heap.objs.size + 1 := Heap.size_push ..
  have z2 : (P2 s.heap l1 l2).objs.size = s.heap.objs.size + 2 := by rw [Heap.size_push, z1]
  have z3 : (P3 s.heap l1 l2 l3).objs.size = s.heap.objs.size + 3 := by rw [Heap.size_push, z2]
  have z4 : (P4 s.heap l1 l2 l3).objs.size = s.heap.objs.size + 4 := by rw [Heap.size_push, z3]
  have z5 : (P5 s.heap l1 l2 l3).objs.size = s.heap.objs.size + 5 := by rw [Heap.size_push, z4]
  have z6 : (P6 s.heap l1 l2 l3).objs.size = s.heap.objs.size + 6 := by rw [Heap.size_push, z5]
  have g6 : (P6 s.heap l1 l2 l3).get? (P5 s.heap l1 l2 l3).objs.size = some _ := Heap.get?_push_size _ rfl
  have g5 : (P6 s.heap l1 l2 l3).get? (P4 s.heap l1 l2 l3).objs.size = some _ := Heap.get?_push_of_some _ (Heap.get?_push_size _ rfl)
  have g4 : (P6 s.heap l1 l2 l3).get? (P3 s.heap l1 l2 l3).objs.size = some _ := Heap.get?_push_of_some _ (Heap.get?_push_of_some _ (Heap.get?_push_size _ rfl))
  have g3 : (P6 s.heap l1 l2 l3).get? (P2 s.heap l1 l2).objs.size = some _ := Heap.get?_push_of_some _ (Heap.get?_push_of_some _ (Heap.get?_push_of_some _ (Heap.get?_push_size _ rfl)))
  have g2 : (P6 s.heap l1 l2 l3).get? (P1 s.heap l1).objs.size = some _ := Heap.get?_push_of_some _ (Heap.get?_push_of_some _ (Heap.get?_push_of_some _ (Heap.get?_push_of_some _ (Heap.get?_push_size _ rfl))))
  have g1 : (P6 s.heap l1 l2 l3).get? s.heap.objs.size = some _ := Heap.get?_push_of_some _ (Heap.get?_push_of_some _ (Heap.get?_push_of_some _ (Heap.get?_push_of_some _ (Heap.get?_push_of_some _ (Heap.get?_push_size _ rfl)))))
  show _ ∧ _
  rw [z3, z4, z5] at g6
  rw [z1, z2, z3] at g4
  rw [z4] at g5
  rw [z2] at g3
  rw [z1] at g2
  rw [z5]
  exact ⟨⟨_, g6, rfl⟩, h _ ⟨g6, g4, ⟨_, _, _, g5⟩, ⟨_, g1, rfl, rfl⟩, ⟨_, g2, rfl, rfl⟩, ⟨_, g3, rfl, rfl⟩⟩ z6 fun c o x =>
    Heap.get?_push_of_some _ (Heap.get?_push_of_some _ (Heap.get?_push_of_some _ (Heap.get?_push_of_some _ (Heap.get?_push_of_some _ (Heap.get?_push_of_some _ x)))))⟩
end
/-- the tuples at a and b and the list at c as they stand at each turn, the items in new triples -/
def It3 (K : PySem.W.Frag) (a b c : Addr) : It :=
  ⟨fun i H => ∃ (xs ys zs : List V) (x y v : V), SqT K H a xs ∧ SqT K H b ys ∧ SqL K H c zs ∧ xs[i]? = some x ∧ ys[i]? = some y ∧ zs[i]? = some v,
    fun i H u H' => ∃ T x y v, u = .ref T ∧ H T = none ∧ H' = upd H T (.tup [x, y, v]) ∧ (∀ xs, SqT K H a xs → xs[i]? = some x) ∧ (∀ ys, SqT K H b ys → ys[i]? = some y) ∧ ∀ zs, SqL K H c zs → zs[i]? = some v,
    fun i H => ∃ xs : List V, SqT K H a xs ∧ xs.length ≤ i⟩
theorem turn3 {P : Program} {w : World} {K : PySem.W.Frag} {elts : List Expr} {kk : Nat} {tpos : Pos} {a b c I : Nat} (b1 : a < I) (b2 : b < I) (b3 : c < I) :
    Turn P w K (.Tuple elts kk tpos) (It3 K a b c) [I + 5, I + 3, I + 4, I, I + 1, I + 2] (I + 5) (fun i h => Z3 h I a b c i true true false) where
  mem := by simp
  obj := fun i h st q hq => by
    obtain ⟨z, ti, ⟨x, y, v, to⟩, a1, a2, a3⟩ := st
    obtain ⟨o1, e1, d1⟩ := a1.obj
    obtain ⟨o2, e2, d2⟩ := a2.obj
    obtain ⟨o3, e3, d3⟩ := a3.obj
    have e' : q = I + 5 ∨ q = I + 3 ∨ q = I + 4 ∨ q = I ∨ q = I + 1 ∨ q = I + 2 := by simpa using hq
    rcases e' with r | r | r | r | r | r
    · rw [r]; exact ⟨_, z, fun v q => nomatch q⟩
    · rw [r]; exact ⟨_, ti, fun v q => nomatch q⟩
    · rw [r]; exact ⟨_, to, fun v q => nomatch q⟩
    · rw [r]; exact ⟨o1, e1, fun v q => by rw [d1] at q; cases q⟩
    · rw [r]; exact ⟨o2, e2, fun v q => by rw [d2] at q; cases q⟩
    · rw [r]; exact ⟨o3, e3, fun v q => by rw [d3] at q; cases q⟩
  keep := fun i h h' st k => by
    obtain ⟨z, ti, ⟨x, y, v, to⟩, a1, a2, a3⟩ := st
    exact ⟨k (I + 5) (by simp) _ z, k (I + 3) (by simp) _ ti, ⟨x, y, v, k (I + 4) (by simp) _ to⟩, a1.to fun o q => k I (by simp) o q, a2.to fun o q => k (I + 1) (by simp) o q, a3.to fun o q => k (I + 2) (by simp) o q⟩
  item := by
    intro X hP hw hK hc i pins s σ H E I' hf st hg
    subst hP hw hK
    obtain ⟨xs, ys, zs, x, y, v, qx, qy, qz, hx, hy, hv⟩ := hg
    obtain ⟨u1, r1, p1, _⟩ := I'.tuple qx
    obtain ⟨u2, r2, p2, _⟩ := I'.tuple qy
    obtain ⟨u3, r3, p3, _⟩ := I'.list qz
    obtain ⟨w1, hw1, rw1⟩ := r1.get hx
    obtain ⟨w2, hw2, rw2⟩ := r2.get hy
    obtain ⟨w3, hw3, rw3⟩ := r3.get hv
    have hzl : I + 5 < s.heap.objs.size := Heap.lt_size st.z
    refine next3_item st b1 b2 b3 (xs := u1.toArray) (ys := u2.toArray) (zs := u3.toArray) (show SO true s.heap a _ from p1) (show SO true s.heap b _ from p2) (show SO false s.heap c _ from p3.isList) (x := w1) (y := w2) (v := w3) (by simpa using hw1) (by simpa using hw2) (by simpa using hw3) fun g z' ti' to' c1 c2 c3 hT hsz hk => ?_
    refine ⟨_, rfl, wpAny_letOwnedTupleGo_zip (s := { s with heap := g }) z' fun g2 z2 sb => ?_⟩
    have hT2 : g2.get? s.heap.objs.size = some { cls := .type "tuple", data := .seq #[w1, w2, w3] } := (sb.2 _ (Nat.ne_of_gt hzl)).trans hT
    have new : ObjOk X.prog X.w (upd H s.heap.objs.size (.tup [x, y, v])) g2 s.heap.objs.size (.tup [x, y, v]) :=
      ⟨by show 3 ≤ sizeLine; decide, [w1, w2, w3], .cons rw1 (.cons rw2 (.cons rw3 .nil)), ⟨_, hT2, rfl, _, rfl⟩⟩
    have I1 : Inv X pins σ (upd H s.heap.objs.size (.tup [x, y, v])) { s with heap := g2 } :=
      I'.turnedNew (t' := s.toks) (ch := [I + 5, I + 3, I + 4, I, I + 1, I + 2]) (fun c o hb q => (sb.2 c (fun q' => hb (by simp [q']))).trans (hk c o (fun q' => hb (by simp [q'])) (fun q' => hb (by simp [q'])) (fun q' => hb (by simp [q'])) (fun q' => hb (by simp [q'])) (fun q' => hb (by simp [q'])) q)) hf (Nat.le_refl _) new
    refine ⟨.ref s.heap.objs.size, _, I1, rfl, ⟨_, x, y, v, rfl, I'.hok.fresh (Nat.le_refl _), rfl, fun l hl => by rw [I'.tuple_inj hl qx]; exact hx, fun l hl => by rw [I'.tuple_inj hl qy]; exact hy, fun l hl => by rw [I'.list_inj hl qz]; exact hv⟩, ⟨z2, ?_, ⟨w1, w2, w3, ?_⟩, ?_, ?_, ?_⟩, fun q hq => ?_⟩
    · exact (sb.2 _ (neQ (by omega))).trans ti'
    · exact (sb.2 _ (neQ (by omega))).trans to'
    · exact c1.to fun o q => (sb.2 _ (neQ (by omega))).trans q
    · exact c2.to fun o q => (sb.2 _ (neQ (by omega))).trans q
    · exact c3.to fun o q => (sb.2 _ (neQ (by omega))).trans q
    · have e' : q = I + 5 ∨ q = I + 3 ∨ q = I + 4 ∨ q = I ∨ q = I + 1 ∨ q = I + 2 := by simpa using hq
      have lt' : ∀ m : Nat, m ≤ I + 5 → m < s.heap.objs.size := fun m hm => Nat.lt_of_le_of_lt hm hzl
      have hlt : q < s.heap.objs.size := by rcases e' with r | r | r | r | r | r <;> (rw [r]; exact lt' _ (by omega))
      rw [upd_ne (Nat.ne_of_lt hlt)]
      exact (hf q hq).1
  done := by
    intro X hP hw hK hc i pins s σ H E I' hf st hg
    subst hP hw hK
    obtain ⟨xs, qx, hend⟩ := hg
    obtain ⟨u1, r1, p1, _⟩ := I'.tuple qx
    have l1 := r1.length
    exact next3_end (I'.ok.hd hc) st b1 (xs := u1.toArray) (show SO true s.heap a _ from p1) (by simp; omega) fun g hk => ⟨rfl, I'.turnedL (t' := s.toks) (ch := [I + 5, I + 3, I + 4, I, I + 1, I + 2]) (fun c o hb q =>
      hk c o (fun q' => hb (by simp [q'])) (fun q' => hb (by simp [q'])) (fun q' => hb (by simp [q'])) (fun q' => hb (by simp [q'])) (fun q' => hb (by simp [q'])) q) hf⟩
  self := fun A i s Q E st h => wpAny_pyIter_zip st.z h
def iZip3 (K : PySem.W.Frag) (ta : TA) : TI := fun σ H R => ta σ H fun vs H1 => ∃ a b c xs ys zs, vs = [.ref a, .ref b, .ref c] ∧ SqT K H1 a xs ∧ SqT K H1 b ys ∧ SqL K H1 c zs ∧ R (It3 K a b c) H1
theorem pi_zip3 {X : Cx} {e e2 e3 : Expr} {ta : TA} {p pos tpos : Pos} {elts : List Expr} {kk : Nat} (hg : Gl X "zip") (hm : X.mg "zip" = none) (ha : PA X [e, e2, e3] ta)
    (hs : starEach [e, e2, e3] X.env = (false, eval e X.env) :: starEach [e2, e3] X.env := by rfl) (hpl : (backTo pos (starEach [e2, e3] X.env)).any (·.1) = false := by rfl) :
    PI X (.Tuple elts kk tpos) (.Call (.Name "zip" p) [e, e2, e3] [] pos) (iZip3 X.K ta) := by
  refine ⟨fun pins s σ H R I h => ?_⟩
  refine Call_ (ld_blt I hg hm PyProof.Rows.boot_zip (PyProof.Rows.callWith_type1 (thn (ha.run pos pins s σ H _ I h) fun us s1 ⟨vs, H1, I1, r1, q1⟩ => ?_) hs hpl))
  obtain ⟨a, b, c, xs, ys, zs, ex, qx, qy, qz, q⟩ := q1
  subst ex
  cases r1 with
  | cons r rr =>
    cases rr with
    | cons r' rr =>
      cases rr with
      | cons r'' rr =>
        cases rr
        cases r
        cases r'
        cases r''
        have fresh6 : ∀ c, c ∈ [s1.heap.objs.size + 5, s1.heap.objs.size + 3, s1.heap.objs.size + 4, s1.heap.objs.size, s1.heap.objs.size + 1, s1.heap.objs.size + 2] → FpOk X pins H1 c := fun c hcm => by
          have e' : c = s1.heap.objs.size + 5 ∨ c = s1.heap.objs.size + 3 ∨ c = s1.heap.objs.size + 4 ∨ c = s1.heap.objs.size ∨ c = s1.heap.objs.size + 1 ∨ c = s1.heap.objs.size + 2 := by simpa using hcm
          have hle : s1.heap.objs.size ≤ c := by
            rcases e' with z | z | z | z | z | z <;> rw [z]
            · exact Nat.le_add_right _ _
            · exact Nat.le_add_right _ _
            · exact Nat.le_add_right _ _
            · exact Nat.le_refl _
            · exact Nat.le_add_right _ _
            · exact Nat.le_add_right _ _
          exact I1.fpOk hle (I1.hok.fresh hle)
        obtain ⟨u1, v1, p1, _⟩ := I1.tuple qx
        obtain ⟨u2, v2, p2, _⟩ := I1.tuple qy
        obtain ⟨u3, v3, p3, _⟩ := I1.list qz
        obtain ⟨o1, ho1, _⟩ := id p1
        obtain ⟨o2, ho2, _⟩ := id p2
        refine call3 (show s1.heap.IsTuple a u1.toArray from p1) (show s1.heap.IsTuple b u2.toArray from p2) p3.isList fun g Z hsz hk => wpAny_pyIter_zip Z.z ?_
        have I2 : Inv X pins σ H1 { s1 with heap := g } := I1.kept (t' := s1.toks) hk
        exact ⟨s1.heap.objs.size + 5, [s1.heap.objs.size + 5, s1.heap.objs.size + 3, s1.heap.objs.size + 4, s1.heap.objs.size, s1.heap.objs.size + 1, s1.heap.objs.size + 2], _, _, H1, rfl, I2, turn3 (Heap.lt_size ho1) (Heap.lt_size ho2) p3.lt, Z, fresh6, q⟩
/-- three abreast -/
theorem walk_zip3 {K : PySem.W.Frag} {a b c : Addr} {xs ys zs : List V} (l1 : xs.length = ys.length) (l2 : xs.length = zs.length) : Walk (It3 K a b c) xs.length (fun H => SqT K H a xs ∧ SqT K H b ys ∧ SqL K H c zs)
    (fun i H u H' => ∃ T x y v, u = .ref T ∧ H T = none ∧ H' = upd H T (.tup [x, y, v]) ∧ xs[i]? = some x ∧ ys[i]? = some y ∧ zs[i]? = some v) := by
  refine ⟨fun i _ hi q => ?_, fun _ q => ⟨xs, q.1, Nat.le_refl _⟩, fun i H u H' _ q y => ?_⟩
  · have h2 : i < ys.length := by omega
    have h3 : i < zs.length := by omega
    exact ⟨xs, ys, zs, xs[i], ys[i], zs[i], q.1, q.2.1, q.2.2, by simp [hi], by simp [h2], by simp [h3]⟩
  · obtain ⟨T, x, y, v, h1, h2, h3, h4, h5, h6⟩ := y
    exact ⟨T, x, y, v, h1, h2, h3, h4 xs q.1, h5 ys q.2.1, h6 zs q.2.2⟩
end Zq
namespace Zq
open PySem PySem.Spec PyProof.Rows L2
open PySem.Sem (wp)
/-- where the pieces of a zip of two stand: iterators at I, I + 1, their tuple at I + 2, the items' at I + 3, the zip at I + 4 -/
structure Z2 (h : Heap) (I l1 l2 n : Nat) (k1 k2 : Bool) : Prop where
  ti : IsPair h (I + 2) (.ref I) (.ref (I + 1))
  a1 : SI k1 h I l1 n
  a2 : SI k2 h (I + 1) l2 n
def Free2 (h : Heap) (I : Nat) : Prop := IsZip h (I + 4) (I + 2) (I + 3) .none ∧ ∃ a b, IsPair h (I + 3) a b
def Out2 (h : Heap) (I T : Nat) : Prop := ∃ f oT, IsZipHeld h (I + 4) (I + 2) (I + 3) T f ∧ h.get? T = some oT ∧ I + 4 < T
section
variable {prog : Program} {w : World} {A : Around} {E : Value → Shared → Prop} {s : Shared} {I l1 l2 n : Nat} {k1 k2 : Bool} {xs ys : Array Value}
theorem z2_item {x y : Value} {Q : Value → Shared → Prop} (Z : Z2 s.heap I l1 l2 n k1 k2) (F : Free2 s.heap I) (b1 : l1 < I) (b2 : l2 < I)
    (o1 : SO k1 s.heap l1 xs) (o2 : SO k2 s.heap l2 ys) (hx : xs[n]? = some x) (hy : ys[n]? = some y)
    (hQ : ∀ g, Z2 g I l1 l2 (n + 1) k1 k2 → IsZip g (I + 4) (I + 2) (I + 3) (rawInt s.heap.objs.size) → IsPair g (I + 3) x y → IsPair g s.heap.objs.size x y → g.objs.size = s.heap.objs.size + 1 →
      (∀ c o, c ≠ I → c ≠ I + 1 → c ≠ I + 3 → c ≠ I + 4 → s.heap.get? c = some o → g.get? c = some o) → Q (.ref s.heap.objs.size) { s with heap := g }) :
    wpAny (model prog w) A (Builtin.«zip.__next__» ⟨[.ref (I + 4)], []⟩) (fun fin s' => ∃ v, fin = .done (.ret v) ∧ Q v s') E s := by
  obtain ⟨ti, a1, a2⟩ := Z
  obtain ⟨hz, a, b, hto⟩ := F
  show wpAny _ _ (field (.ref (I + 4)) 2 >>= _) _ _ _
  refine wpAny_bind (wpAny_field hz rfl (x := .bool false) rfl ?_); show wpAny _ _ (field (.ref (I + 4)) 3 >>= _) _ _ _
  refine wpAny_bind (wpAny_field hz rfl (x := .ref (I + 2)) rfl ?_)
  refine wpAny_bind (wpAny_seqItems ti rfl ?_)
  show wpAny _ _ (Builtin.SmallTypes.ownedTupleIsFree (.ref (I + 4)) >>= _) _ _ _
  refine wpAny_bind ?_; unfold Builtin.SmallTypes.ownedTupleIsFree
  refine wpAny_bind (wpAny_field hz rfl (x := .none) rfl (wpAny_pure ?_)); simp only [if_true]
  refine wpAny_bind (wpAny_rule ?_)
  refine wpAny_bind (wpAny_field hz rfl (x := .ref (I + 3)) rfl ?_)
  refine wpAny_bind (wpAny_setField_rec hz (by simp) fun g1 z1 s1 => ?_)
  replace z1 : IsZip g1 (I + 4) (I + 2) (I + 3) .ellipsis := z1
  refine wpAny_bind ?_; simp only [List.zipIdx_cons, List.zipIdx_nil, List.forIn_cons, List.forIn_nil]
  refine wpAny_bind (wpAny_bind (wpAny_onRaise ?_)); show wpAny _ _ (Builtin.SmallTypes.nextOf (.ref I) >>= _) _ _ _
  refine wpAny_bind (next_item (a1.ext s1.extBut (neQ (by omega))) (o1.ext s1.extBut (neQ (by omega))) hx fun g2 c1 s2 => wpAny_pure ?_)
  have t2 : IsPair g2 (I + 3) a b := s2.extBut _ _ (neQ (by omega)) (s1.extBut _ _ (neQ (by omega)) hto)
  refine wpAny_bind (wpAny_seqItems t2 rfl ?_)
  refine wpAny_bind (wpAny_updateSeq_pair t2 fun g3 t3 s3 => ?_)
  replace t3 : IsPair g3 (I + 3) x b := t3
  refine wpAny_bind (wpAny_letGo (wpAny_pure ?_))
  refine wpAny_bind (wpAny_bind (wpAny_onRaise ?_)); show wpAny _ _ (Builtin.SmallTypes.nextOf (.ref (I + 1)) >>= _) _ _ _
  refine wpAny_bind (next_item (((a2.ext s1.extBut (neQ (by omega))).ext s2.extBut (neQ (by omega))).ext s3.extBut (neQ (by omega))) (((o2.ext s1.extBut (neQ (by omega))).ext s2.extBut (neQ (by omega))).ext s3.extBut (neQ (by omega))) hy fun g4 c2 s4 => wpAny_pure ?_)
  have t4 : IsPair g4 (I + 3) x b := s4.extBut _ _ (neQ (by omega)) t3
  refine wpAny_bind (wpAny_seqItems t4 rfl ?_)
  refine wpAny_bind (wpAny_updateSeq_pair t4 fun g5 t5 s5 => ?_)
  replace t5 : IsPair g5 (I + 3) x y := t5
  refine wpAny_bind (wpAny_letGo (wpAny_pure (wpAny_pure ?_)))
  refine wpAny_bind (wpAny_seqItems t5 rfl ?_)
  refine wpAny_bind (wpAny_newTuple ?_)
  have sz : g5.objs.size = s.heap.objs.size := by rw [s5.1, s4.1, s3.1, s2.1, s1.1]
  have k5 : ∀ c o, c ≠ I → c ≠ I + 1 → c ≠ I + 3 → c ≠ I + 4 → s.heap.get? c = some o → g5.get? c = some o := fun c o n0 n1 n3 n4 e =>
    s5.extBut _ _ n3 (s4.extBut _ _ n1 (s3.extBut _ _ n3 (s2.extBut _ _ n0 (s1.extBut _ _ n4 e))))
  have z5 : IsZip g5 (I + 4) (I + 2) (I + 3) .ellipsis := s5.extBut _ _ (neQ (by omega)) (s4.extBut _ _ (neQ (by omega)) (s3.extBut _ _ (neQ (by omega)) (s2.extBut _ _ (neQ (by omega)) z1)))
  have ti5 : IsPair g5 (I + 2) (.ref I) (.ref (I + 1)) := k5 _ _ (neQ (by omega)) (neQ (by omega)) (neQ (by omega)) (neQ (by omega)) ti
  have c15 : SI k1 g5 I l1 (n + 1) := ((c1.ext s3.extBut (neQ (by omega))).ext s4.extBut (neQ (by omega))).ext s5.extBut (neQ (by omega))
  have c25 : SI k2 g5 (I + 1) l2 (n + 1) := c2.ext s5.extBut (neQ (by omega))
  have lt : I + 4 < g5.objs.size := Heap.lt_size z5
  show wpAny _ _ (Builtin.SmallTypes.ownedTupleHandOut (.ref (I + 4)) (.ref g5.objs.size) >>= _) _ _ _
  refine wpAny_bind ?_; unfold Builtin.SmallTypes.ownedTupleHandOut
  have z6 : IsZip (g5.push { cls := .type "tuple", data := .seq #[x, y] }) (I + 4) (I + 2) (I + 3) .ellipsis := Heap.get?_push_of_some _ z5
  refine wpAny_bind (wpAny_setField_rec z6 (by simp) fun g7 z7 s7 => ?_)
  replace z7 : IsZip g7 (I + 4) (I + 2) (I + 3) (rawInt g5.objs.size) := z7
  refine wpAny_setField_rec z7 (by simp) fun g8 z8 s8 => ?_
  replace z8 : IsZip g8 (I + 4) (I + 2) (I + 3) (rawInt g5.objs.size) := z8
  have up : ∀ c o, c ≠ I + 4 → g5.get? c = some o → g8.get? c = some o := fun c o n4 e => s8.extBut _ _ n4 (s7.extBut _ _ n4 (Heap.get?_push_of_some _ e))
  have t8 : IsPair g8 g5.objs.size x y := s8.extBut _ _ (Nat.ne_of_gt lt) (s7.extBut _ _ (Nat.ne_of_gt lt) (Heap.get?_push_size _ rfl))
  have sz8 : g8.objs.size = g5.objs.size + 1 := by rw [s8.1, s7.1, Heap.size_push]
  rw [sz] at z8 t8 sz8
  refine wpAny_pure ⟨_, rfl, ?_⟩; show Q (.ref g5.objs.size) _
  rw [sz]
  exact hQ g8 ⟨up _ _ (neQ (by omega)) ti5, c15.to fun o e => up _ o (neQ (by omega)) e, c25.to fun o e => up _ o (neQ (by omega)) e⟩ z8 (up _ _ (neQ (by omega)) t5) t8 sz8 fun c o n0 n1 n3 n4 e => up c o n4 (k5 c o n0 n1 n3 n4 e)
theorem z2_end {Q : Fin → Shared → Prop} (hh : A.handled = none) (Z : Z2 s.heap I l1 l2 n k1 k2) (F : Free2 s.heap I) (b1 : l1 < I) (b2 : l2 < I)
    (o1 : SO k1 s.heap l1 xs) (o2 : SO k2 s.heap l2 ys) (hend : xs[n]? = none ∨ ys[n]? = none)
    (hE : ∀ g e, (∀ c o, c ≠ I → c ≠ I + 1 → c ≠ I + 3 → c ≠ I + 4 → s.heap.get? c = some o → g.get? c = some o) → (∃ o, g.get? e = some o ∧ o.cls = .type "StopIteration") → E (.ref e) { s with heap := g }) :
    wpAny (model prog w) A (Builtin.«zip.__next__» ⟨[.ref (I + 4)], []⟩) Q E s := by
  obtain ⟨ti, a1, a2⟩ := Z
  obtain ⟨hz, a, b, hto⟩ := F
  show wpAny _ _ (field (.ref (I + 4)) 2 >>= _) _ _ _
  refine wpAny_bind (wpAny_field hz rfl (x := .bool false) rfl ?_); show wpAny _ _ (field (.ref (I + 4)) 3 >>= _) _ _ _
  refine wpAny_bind (wpAny_field hz rfl (x := .ref (I + 2)) rfl ?_)
  refine wpAny_bind (wpAny_seqItems ti rfl ?_)
  show wpAny _ _ (Builtin.SmallTypes.ownedTupleIsFree (.ref (I + 4)) >>= _) _ _ _
  refine wpAny_bind ?_; unfold Builtin.SmallTypes.ownedTupleIsFree
  refine wpAny_bind (wpAny_field hz rfl (x := .none) rfl (wpAny_pure ?_)); simp only [if_true]
  refine wpAny_bind (wpAny_rule ?_)
  refine wpAny_bind (wpAny_field hz rfl (x := .ref (I + 3)) rfl ?_)
  refine wpAny_bind (wpAny_setField_rec hz (by simp) fun g1 z1 s1 => ?_)
  replace z1 : IsZip g1 (I + 4) (I + 2) (I + 3) .ellipsis := z1
  refine wpAny_bind ?_; simp only [List.zipIdx_cons, List.zipIdx_nil, List.forIn_cons, List.forIn_nil]
  refine wpAny_bind (wpAny_bind (wpAny_onRaise ?_)); show wpAny _ _ (Builtin.SmallTypes.nextOf (.ref I) >>= _) _ _ _
  cases hx : xs[n]? with
  | none =>
    refine wpAny_bind (next_end hh (a1.ext s1.extBut (neQ (by omega))) (o1.ext s1.extBut (neQ (by omega))) hx fun g2 r s2 he => ?_)
    obtain ⟨oe, hoe, hce⟩ := he
    have z2 : IsZip g2 (I + 4) (I + 2) (I + 3) .ellipsis := s2 _ _ (neQ (by omega)) z1
    have rz : r ≠ I + 4 := fun q => by subst q; rw [z2] at hoe; cases hoe; simp at hce
    refine wpAny_setField_rec z2 (by simp) fun g3 _ s3 => hE g3 r (fun c o n0 _ _ n4 e => s3.extBut _ _ n4 (s2 _ _ n0 (s1.extBut _ _ n4 e))) ⟨oe, s3.extBut _ _ rz hoe, hce⟩
  | some x =>
    have hy : ys[n]? = none := by rcases hend with h | h; rw [hx] at h; cases h; exact h
    refine wpAny_bind (next_item (a1.ext s1.extBut (neQ (by omega))) (o1.ext s1.extBut (neQ (by omega))) hx fun g2 c1 s2 => wpAny_pure ?_)
    have t2 : IsPair g2 (I + 3) a b := s2.extBut _ _ (neQ (by omega)) (s1.extBut _ _ (neQ (by omega)) hto)
    refine wpAny_bind (wpAny_seqItems t2 rfl ?_)
    refine wpAny_bind (wpAny_updateSeq_pair t2 fun g3 t3 s3 => ?_)
    refine wpAny_bind (wpAny_letGo (wpAny_pure ?_))
    refine wpAny_bind (wpAny_bind (wpAny_onRaise ?_)); show wpAny _ _ (Builtin.SmallTypes.nextOf (.ref (I + 1)) >>= _) _ _ _
    refine wpAny_bind (next_end hh (((a2.ext s1.extBut (neQ (by omega))).ext s2.extBut (neQ (by omega))).ext s3.extBut (neQ (by omega))) (((o2.ext s1.extBut (neQ (by omega))).ext s2.extBut (neQ (by omega))).ext s3.extBut (neQ (by omega))) hy fun g4 r s4 he => ?_)
    obtain ⟨oe, hoe, hce⟩ := he
    have z4 : IsZip g4 (I + 4) (I + 2) (I + 3) .ellipsis := s4 _ _ (neQ (by omega)) (s3.extBut _ _ (neQ (by omega)) (s2.extBut _ _ (neQ (by omega)) z1))
    have rz : r ≠ I + 4 := fun q => by subst q; rw [z4] at hoe; cases hoe; simp at hce
    refine wpAny_setField_rec z4 (by simp) fun g5 _ s5 => hE g5 r (fun c o n0 n1 n3 n4 e => s5.extBut _ _ n4 (s4 _ _ n1 (s3.extBut _ _ n3 (s2.extBut _ _ n0 (s1.extBut _ _ n4 e))))) ⟨oe, s5.extBut _ _ rz hoe, hce⟩
theorem z2_endO {T : Nat} {Q : Fin → Shared → Prop} (hh : A.handled = none) (Z : Z2 s.heap I l1 l2 n k1 k2) (F : Out2 s.heap I T) (b1 : l1 < I) (b2 : l2 < I)
    (o1 : SO k1 s.heap l1 xs) (o2 : SO k2 s.heap l2 ys) (hend : xs[n]? = none ∨ ys[n]? = none)
    (hE : ∀ g e, (∀ c o, c ≠ I → c ≠ I + 1 → c ≠ I + 3 → c ≠ I + 4 → s.heap.get? c = some o → g.get? c = some o) → (∃ o, g.get? e = some o ∧ o.cls = .type "StopIteration") → E (.ref e) { s with heap := g }) :
    wpAny (model prog w) A (Builtin.«zip.__next__» ⟨[.ref (I + 4)], []⟩) Q E s := by
  obtain ⟨ti, a1, a2⟩ := Z
  obtain ⟨f, oT, hz, hT, lT⟩ := F
  show wpAny _ _ (field (.ref (I + 4)) 2 >>= _) _ _ _
  refine wpAny_bind (wpAny_field hz rfl (x := .bool false) rfl ?_); show wpAny _ _ (field (.ref (I + 4)) 3 >>= _) _ _ _
  refine wpAny_bind (wpAny_field hz rfl (x := .ref (I + 2)) rfl ?_)
  refine wpAny_bind (wpAny_seqItems ti rfl ?_)
  show wpAny _ _ (Builtin.SmallTypes.ownedTupleIsFree (.ref (I + 4)) >>= _) _ _ _
  refine wpAny_bind (wpAny_tupleHeld_zip hz hT fun g1 z1 s1 => ?_)
  simp only [Bool.false_eq_true, if_false]
  refine wpAny_bind ?_
  rw [← Array.forIn_toList]
  simp only [List.forIn_cons, List.forIn_nil]
  refine wpAny_bind (wpAny_bind (wpAny_holding ?_)); show wpAny _ _ (Builtin.SmallTypes.nextOf (.ref I) >>= _) _ _ _
  cases hx : xs[n]? with
  | none =>
    refine wpAny_bind (next_end (s := { s with heap := g1 }) hh (a1.ext s1.extBut (neQ (by omega))) (o1.ext s1.extBut (neQ (by omega))) hx fun g2 r s2 he => ?_)
    exact hE g2 r (fun c o n0 _ _ n4 e => s2 _ _ n0 (s1.extBut _ _ n4 e)) he
  | some x =>
    have hy : ys[n]? = none := by rcases hend with h | h; rw [hx] at h; cases h; exact h
    refine wpAny_bind (next_item (s := { s with heap := g1 }) (a1.ext s1.extBut (neQ (by omega))) (o1.ext s1.extBut (neQ (by omega))) hx fun g2 c1 s2 => wpAny_pure ?_)
    refine wpAny_pure ?_
    refine wpAny_bind (wpAny_bind (wpAny_holding ?_)); show wpAny _ _ (Builtin.SmallTypes.nextOf (.ref (I + 1)) >>= _) _ _ _
    refine wpAny_bind (next_end (s := { s with heap := g2 }) hh ((a2.ext s1.extBut (neQ (by omega))).ext s2.extBut (neQ (by omega))) ((o2.ext s1.extBut (neQ (by omega))).ext s2.extBut (neQ (by omega))) hy fun g3 r s3 he => ?_)
    exact hE g3 r (fun c o n0 n1 _ n4 e => s3 _ _ n1 (s2.extBut _ _ n0 (s1.extBut _ _ n4 e))) he
theorem isz2 (F : Free2 s.heap I ∨ ∃ T, Out2 s.heap I T) : s.TypeIs (.ref (I + 4)) "zip" := by
  rcases F with ⟨hz, _⟩ | ⟨T, f, oT, hz, _⟩
  · exact ⟨_, hz, rfl⟩
  · exact ⟨_, hz, rfl⟩
theorem next2_item {x y : Value} {Q : Option Value → Shared → Prop} (Z : Z2 s.heap I l1 l2 n k1 k2) (Fr : Free2 s.heap I) (b1 : l1 < I) (b2 : l2 < I)
    (o1 : SO k1 s.heap l1 xs) (o2 : SO k2 s.heap l2 ys) (hx : xs[n]? = some x) (hy : ys[n]? = some y)
    (hQ : ∀ g, Z2 g I l1 l2 (n + 1) k1 k2 → IsZip g (I + 4) (I + 2) (I + 3) (rawInt s.heap.objs.size) → IsPair g (I + 3) x y → IsPair g s.heap.objs.size x y → g.objs.size = s.heap.objs.size + 1 →
      (∀ c o, c ≠ I → c ≠ I + 1 → c ≠ I + 3 → c ≠ I + 4 → s.heap.get? c = some o → g.get? c = some o) → Q (some (.ref s.heap.objs.size)) { s with heap := g }) :
    wpAny (model prog w) A (pyNext (.ref (I + 4))) Q E s := by
  have hT : s.TypeIs (.ref (I + 4)) "zip" := isz2 (.inl Fr)
  unfold pyNext
  exact wpAny_bind (wpAny_attempt (wpAny_callSpecial?_slot (name := Str.ofString "__next__") hT F.slot_zip_next (wpAny_call_entry F.slot_zip_next hT F.entry_zip_next
    (z2_item Z Fr b1 b2 o1 o2 hx hy fun g a1 a2 a3 a4 a5 a6 => wpAny_pure (hQ g a1 a2 a3 a4 a5 a6)) (F.args_zip_next_1 _))))
theorem next2_end {Q : Option Value → Shared → Prop} (hh : A.handled = none) (Z : Z2 s.heap I l1 l2 n k1 k2) (Fr : Free2 s.heap I ∨ ∃ T, Out2 s.heap I T) (b1 : l1 < I) (b2 : l2 < I)
    (o1 : SO k1 s.heap l1 xs) (o2 : SO k2 s.heap l2 ys) (hend : xs[n]? = none ∨ ys[n]? = none)
    (hQ : ∀ g, (∀ c o, c ≠ I → c ≠ I + 1 → c ≠ I + 3 → c ≠ I + 4 → s.heap.get? c = some o → g.get? c = some o) → Q none { s with heap := g }) : wpAny (model prog w) A (pyNext (.ref (I + 4))) Q E s := by
  have hT : s.TypeIs (.ref (I + 4)) "zip" := isz2 Fr
  unfold pyNext
  rcases Fr with Fr | ⟨T, Fr⟩
  · refine wpAny_bind (wpAny_attempt (wpAny_callSpecial?_slot (name := Str.ofString "__next__") hT F.slot_zip_next (wpAny_call_entry F.slot_zip_next hT F.entry_zip_next
      (z2_end hh Z Fr b1 b2 o1 o2 hend fun g e k ⟨o, ho, hc⟩ => ?_) (F.args_zip_next_1 _))))
    exact wpAny_bind (wpAny_isInstance (T := "StopIteration") (b := true) ⟨o, ho, hc⟩ isSubtype_stop (wpAny_pure (hQ _ k)))
  · refine wpAny_bind (wpAny_attempt (wpAny_callSpecial?_slot (name := Str.ofString "__next__") hT F.slot_zip_next (wpAny_call_entry F.slot_zip_next hT F.entry_zip_next
      (z2_endO hh Z Fr b1 b2 o1 o2 hend fun g e k ⟨o, ho, hc⟩ => ?_) (F.args_zip_next_1 _))))
    exact wpAny_bind (wpAny_isInstance (T := "StopIteration") (b := true) ⟨o, ho, hc⟩ isSubtype_stop (wpAny_pure (hQ _ k)))
end
def itO (k : Bool) (l : Addr) : Obj := match k with
  | true => { cls := .type "tuple_iterator", data := .fields #[.ref l, .int 0 0] }
  | false => { cls := .type "list_iterator", data := .fields #[.ref l, .int 0 0] }
theorem itO_nf (k : Bool) (l : Addr) : (itO k l).isFreed = false := by cases k <;> rfl
theorem itO_si {k : Bool} {h : Heap} {i l : Addr} (e : h.get? i = some (itO k l)) : SI k h i l 0 := by
  cases k with
  | true => exact ⟨_, e, rfl, rfl⟩
  | false => exact ⟨_, e, rfl, rfl⟩
section
variable {prog : Program} {w : World} {A : Around} {E : Value → Shared → Prop} {s : Shared}
theorem pyIter_k {k : Bool} {l : Addr} {us : Array Value} {Q : Value → Shared → Prop} (o : SO k s.heap l us) (q : Q (.ref s.heap.objs.size) { s with heap := s.heap.push (itO k l) }) : wpAny (model prog w) A (pyIter (.ref l)) Q E s := by
  cases k with
  | true => exact wpAny_pyIter_tuple o q
  | false => exact wpAny_pyIter_list o q
end
abbrev R1 (h : Heap) (k1 : Bool) (l1 : Addr) : Heap := h.push (itO k1 l1)
abbrev R2 (h : Heap) (k1 k2 : Bool) (l1 l2 : Addr) : Heap := (R1 h k1 l1).push (itO k2 l2)
abbrev R3 (h : Heap) (k1 k2 : Bool) (l1 l2 : Addr) : Heap := (R2 h k1 k2 l1 l2).push { cls := .type "tuple", data := .seq #[.ref h.objs.size, .ref (R1 h k1 l1).objs.size] }
abbrev R4 (h : Heap) (k1 k2 : Bool) (l1 l2 : Addr) : Heap := (R3 h k1 k2 l1 l2).push { cls := .type "tuple", data := .seq #[.none, .none] }
abbrev R5 (h : Heap) (k1 k2 : Bool) (l1 l2 : Addr) : Heap := (R4 h k1 k2 l1 l2).push { cls := .type "zip", data := .fields #[.none, .bool false, .bool false, .ref (R2 h k1 k2 l1 l2).objs.size, .ref (R3 h k1 k2 l1 l2).objs.size] }
theorem meets2 (k1 k2 : Bool) (l1 l2 : Addr) (xs ys : Array Value) :
    Meets (Builtin.«zip.__new__» ⟨[.type "zip", .ref l1, .ref l2], []⟩) (fun _ R s => SO k1 s.heap l1 xs ∧ SO k2 s.heap l2 ys ∧ R (.ok (.ret (.ref (R4 s.heap k1 k2 l1 l2).objs.size))) { s with heap := R5 s.heap k1 k2 l1 l2 }) :=
  .of_wp fun prog w A R s h => by
    obtain ⟨hp, g, d, tk, os⟩ := s; obtain ⟨a1, a2, h⟩ := h
    have hsub := sub_zip
    have b1 : SO k1 (Shared.heap ⟨hp, g, d, tk, os⟩) l1 xs := a1
    have b2 : SO k2 (Shared.heap ⟨R1 hp k1 l1, g, d, tk, os⟩) l2 ys := SO.push a2 _
    wp_walk using pyIter_k b1, pyIter_k b2
    exact ⟨_, rfl, h⟩
section
variable {prog : Program} {w : World} {A : Around} {E : Value → Shared → Prop} {s : Shared}
theorem call2 {k1 k2 : Bool} {l1 l2 : Addr} {xs ys : Array Value} {Q : Value → Shared → Prop} (a1 : SO k1 s.heap l1 xs) (a2 : SO k2 s.heap l2 ys)
    (h : ∀ g, Z2 g s.heap.objs.size l1 l2 0 k1 k2 → Free2 g s.heap.objs.size → g.objs.size = s.heap.objs.size + 5 → (∀ c o, s.heap.get? c = some o → g.get? c = some o) → Q (.ref (s.heap.objs.size + 4)) { s with heap := g }) :
    wpAny (model prog w) A (call (.type "zip") [.ref l1, .ref l2]) Q E s := by
  refine callType_new F.called_zip (by decide) (F.typeCall_zip_2 _ _) (F.newCall_zip_2 _ _) (fun obj => F.args_object_init_3 obj _ _) F.entry_zip_new (meets2 k1 k2 l1 l2 xs ys) ⟨a1, a2, ?_⟩
  have z1 : (R1 s.heap k1 l1).objs.size = s.heap.objs.size + 1 := Heap.size_push ..
  have z2 : (R2 s.heap k1 k2 l1 l2).objs.size = s.heap.objs.size + 2 := by rw [Heap.size_push, z1]
  have z3 : (R3 s.heap k1 k2 l1 l2).objs.size = s.heap.objs.size + 3 := by rw [Heap.size_push, z2]
  have z4 : (R4 s.heap k1 k2 l1 l2).objs.size = s.heap.objs.size + 4 := by rw [Heap.size_push, z3]
  have z5 : (R5 s.heap k1 k2 l1 l2).objs.size = s.heap.objs.size + 5 := by rw [Heap.size_push, z4]
  have g5 : (R5 s.heap k1 k2 l1 l2).get? (R4 s.heap k1 k2 l1 l2).objs.size = some _ := Heap.get?_push_size _ rfl
  have g4 : (R5 s.heap k1 k2 l1 l2).get? (R3 s.heap k1 k2 l1 l2).objs.size = some _ := Heap.get?_push_of_some _ (Heap.get?_push_size _ rfl)
  have g3 : (R5 s.heap k1 k2 l1 l2).get? (R2 s.heap k1 k2 l1 l2).objs.size = some _ := Heap.get?_push_of_some _ (Heap.get?_push_of_some _ (Heap.get?_push_size _ rfl))
  have g2 : (R5 s.heap k1 k2 l1 l2).get? (R1 s.heap k1 l1).objs.size = some _ := Heap.get?_push_of_some _ (Heap.get?_push_of_some _ (Heap.get?_push_of_some _ (Heap.get?_push_size _ (itO_nf _ _))))
  have g1 : (R5 s.heap k1 k2 l1 l2).get? s.heap.objs.size = some _ := Heap.get?_push_of_some _ (Heap.get?_push_of_some _ (Heap.get?_push_of_some _ (Heap.get?_push_of_some _ (Heap.get?_push_size _ (itO_nf _ _)))))
  show _ ∧ _
  rw [z2, z3, z4] at g5
  rw [z1, z2] at g3
  rw [z3] at g4
  rw [z1] at g2
  rw [z4]
  exact ⟨⟨_, g5, rfl⟩, h _ ⟨g3, itO_si g1, itO_si g2⟩ ⟨g5, _, _, g4⟩ z5 fun c o x =>
    Heap.get?_push_of_some _ (Heap.get?_push_of_some _ (Heap.get?_push_of_some _ (Heap.get?_push_of_some _ (Heap.get?_push_of_some _ x))))⟩
end
/-- the zip of a tuple and a list -/
def It2 (K : PySem.W.Frag) (a b : Addr) : It :=
  ⟨fun i H => ∃ (xs ys : List V) (x y : V), SqT K H a xs ∧ SqL K H b ys ∧ xs[i]? = some x ∧ ys[i]? = some y,
    fun i H u H' => ∃ T x y, u = .ref T ∧ H T = none ∧ H' = upd H T (.tup [x, y]) ∧ (∀ xs, SqT K H a xs → xs[i]? = some x) ∧ ∀ ys, SqL K H b ys → ys[i]? = some y,
    fun i H => ∃ xs ys : List V, SqT K H a xs ∧ SqL K H b ys ∧ (xs.length ≤ i ∨ ys.length ≤ i)⟩
theorem fp4 {X : Cx} {pins : List (Addr × Obj)} {H : Hp} {I : Nat} (hf : ∀ c, c ∈ [I + 4, I + 2, I + 3, I, I + 1] → FpOk X pins H c) : ∀ c, c ∈ [I, I + 1, I + 3, I + 4] → FpOk X pins H c := fun c hc => hf c (by
  have e' : c = I ∨ c = I + 1 ∨ c = I + 3 ∨ c = I + 4 := by simpa using hc
  rcases e' with r | r | r | r <;> rw [r] <;> simp)
theorem turn2 {P : Program} {w : World} {K : PySem.W.Frag} {elts : List Expr} {kk : Nat} {tpos : Pos} {a b I : Nat} (b1 : a < I) (b2 : b < I) :
    Turn P w K (.Tuple elts kk tpos) (It2 K a b) [I + 4, I + 2, I + 3, I, I + 1] (I + 4) (fun i h => Z2 h I a b i true false ∧ Free2 h I) where
  mem := by simp
  obj := fun i h st q hq => by
    obtain ⟨⟨ti, a1, a2⟩, z, x, y, to⟩ := st
    obtain ⟨o1, e1, d1⟩ := a1.obj
    obtain ⟨o2, e2, d2⟩ := a2.obj
    have e' : q = I + 4 ∨ q = I + 2 ∨ q = I + 3 ∨ q = I ∨ q = I + 1 := by simpa using hq
    rcases e' with r | r | r | r | r
    · rw [r]; exact ⟨_, z, fun v q => nomatch q⟩
    · rw [r]; exact ⟨_, ti, fun v q => nomatch q⟩
    · rw [r]; exact ⟨_, to, fun v q => nomatch q⟩
    · rw [r]; exact ⟨o1, e1, fun v q => by rw [d1] at q; cases q⟩
    · rw [r]; exact ⟨o2, e2, fun v q => by rw [d2] at q; cases q⟩
  keep := fun i h h' st k => by
    obtain ⟨⟨ti, a1, a2⟩, z, x, y, to⟩ := st
    exact ⟨⟨k (I + 2) (by simp) _ ti, a1.to fun o q => k I (by simp) o q, a2.to fun o q => k (I + 1) (by simp) o q⟩, k (I + 4) (by simp) _ z, x, y, k (I + 3) (by simp) _ to⟩
  item := by
    intro X hP hw hK hc i pins s σ H E I' hf st hg
    subst hP hw hK
    obtain ⟨xs, ys, x, y, qx, qy, hx, hy⟩ := hg
    obtain ⟨u1, r1, p1, _⟩ := I'.tuple qx
    obtain ⟨u2, r2, p2, _⟩ := I'.list qy
    obtain ⟨w1, hw1, rw1⟩ := r1.get hx
    obtain ⟨w2, hw2, rw2⟩ := r2.get hy
    have hzl : I + 4 < s.heap.objs.size := Heap.lt_size st.2.1
    refine next2_item st.1 st.2 b1 b2 (xs := u1.toArray) (ys := u2.toArray) (show SO true s.heap a _ from p1) (show SO false s.heap b _ from p2.isList) (x := w1) (y := w2) (by simpa using hw1) (by simpa using hw2) fun g Z' z' to' hT hsz hk => ?_
    refine ⟨_, rfl, wpAny_letOwnedTupleGo_zip (s := { s with heap := g }) z' fun g2 z2 sb => ?_⟩
    have hT2 : g2.get? s.heap.objs.size = some { cls := .type "tuple", data := .seq #[w1, w2] } := (sb.2 _ (Nat.ne_of_gt hzl)).trans hT
    have new : ObjOk X.prog X.w (upd H s.heap.objs.size (.tup [x, y])) g2 s.heap.objs.size (.tup [x, y]) :=
      ⟨by show 2 ≤ sizeLine; decide, [w1, w2], .cons rw1 (.cons rw2 .nil), ⟨_, hT2, rfl, _, rfl⟩⟩
    have I1 : Inv X pins σ (upd H s.heap.objs.size (.tup [x, y])) { s with heap := g2 } :=
      I'.turnedNew (t' := s.toks) (ch := [I, I + 1, I + 3, I + 4]) (fun c o hb q => (sb.2 c (fun q' => hb (by simp [q']))).trans (hk c o (fun q' => hb (by simp [q'])) (fun q' => hb (by simp [q'])) (fun q' => hb (by simp [q'])) (fun q' => hb (by simp [q'])) q)) (fp4 hf) (Nat.le_refl _) new
    refine ⟨.ref s.heap.objs.size, _, I1, rfl, ⟨_, x, y, rfl, I'.hok.fresh (Nat.le_refl _), rfl, fun l hl => by rw [I'.tuple_inj hl qx]; exact hx, fun l hl => by rw [I'.list_inj hl qy]; exact hy⟩, ⟨⟨?_, ?_, ?_⟩, z2, w1, w2, ?_⟩, fun q hq => ?_⟩
    · exact (sb.2 _ (neQ (by omega))).trans Z'.ti
    · exact Z'.a1.to fun o q => (sb.2 _ (neQ (by omega))).trans q
    · exact Z'.a2.to fun o q => (sb.2 _ (neQ (by omega))).trans q
    · exact (sb.2 _ (neQ (by omega))).trans to'
    · have e' : q = I + 4 ∨ q = I + 2 ∨ q = I + 3 ∨ q = I ∨ q = I + 1 := by simpa using hq
      have lt' : ∀ m : Nat, m ≤ I + 4 → m < s.heap.objs.size := fun m hm => Nat.lt_of_le_of_lt hm hzl
      have hlt : q < s.heap.objs.size := by rcases e' with r | r | r | r | r <;> (rw [r]; exact lt' _ (by omega))
      rw [upd_ne (Nat.ne_of_lt hlt)]
      exact (hf q hq).1
  done := by
    intro X hP hw hK hc i pins s σ H E I' hf st hg
    subst hP hw hK
    obtain ⟨xs, ys, qx, qy, hend⟩ := hg
    obtain ⟨u1, r1, p1, _⟩ := I'.tuple qx
    obtain ⟨u2, r2, p2, _⟩ := I'.list qy
    have l1 := r1.length
    have l2 := r2.length
    have he : u1.toArray[i]? = none ∨ u2.toArray[i]? = none := by
      rcases hend with q | q
      · exact .inl (by simp; omega)
      · exact .inr (by simp; omega)
    exact next2_end (I'.ok.hd hc) st.1 (.inl st.2) b1 b2 (show SO true s.heap a _ from p1) (show SO false s.heap b _ from p2.isList) he fun g hk => ⟨rfl, I'.turnedL (t' := s.toks) (ch := [I, I + 1, I + 3, I + 4]) (fun c o hb q =>
      hk c o (fun q' => hb (by simp [q'])) (fun q' => hb (by simp [q'])) (fun q' => hb (by simp [q'])) (fun q' => hb (by simp [q'])) q) (fp4 hf)⟩
  self := fun A i s Q E st h => wpAny_pyIter_zip st.2.1 h
theorem fresh5 {X : Cx} {pins : List (Addr × Obj)} {σ : L2.St} {H : Hp} {s : Shared} (I1 : Inv X pins σ H s) : ∀ c, c ∈ [s.heap.objs.size + 4, s.heap.objs.size + 2, s.heap.objs.size + 3, s.heap.objs.size, s.heap.objs.size + 1] → FpOk X pins H c := fun c hcm => by
  have e' : c = s.heap.objs.size + 4 ∨ c = s.heap.objs.size + 2 ∨ c = s.heap.objs.size + 3 ∨ c = s.heap.objs.size ∨ c = s.heap.objs.size + 1 := by simpa using hcm
  have hle : s.heap.objs.size ≤ c := by
    rcases e' with z | z | z | z | z <;> rw [z]
    · exact Nat.le_add_right _ _
    · exact Nat.le_add_right _ _
    · exact Nat.le_add_right _ _
    · exact Nat.le_refl _
    · exact Nat.le_add_right _ _
  exact I1.fpOk hle (I1.hok.fresh hle)
def iZipTL (K : PySem.W.Frag) (ta : TA) : TI := fun σ H R => ta σ H fun vs H1 => ∃ a b xs ys, vs = [.ref a, .ref b] ∧ SqT K H1 a xs ∧ SqL K H1 b ys ∧ R (It2 K a b) H1
theorem pi_zipTL {X : Cx} {e e2 : Expr} {ta : TA} {p pos tpos : Pos} {elts : List Expr} {kk : Nat} (hg : Gl X "zip") (hm : X.mg "zip" = none) (ha : PA X [e, e2] ta)
    (hs : starEach [e, e2] X.env = (false, eval e X.env) :: starEach [e2] X.env := by rfl) (hpl : (backTo pos (starEach [e2] X.env)).any (·.1) = false := by rfl) :
    PI X (.Tuple elts kk tpos) (.Call (.Name "zip" p) [e, e2] [] pos) (iZipTL X.K ta) := by
  refine ⟨fun pins s σ H R I h => ?_⟩
  refine Call_ (ld_blt I hg hm PyProof.Rows.boot_zip (PyProof.Rows.callWith_type1 (thn (ha.run pos pins s σ H _ I h) fun us s1 ⟨vs, H1, I1, r1, q1⟩ => ?_) hs hpl))
  obtain ⟨a, b, xs, ys, ex, qx, qy, q⟩ := q1
  subst ex
  cases r1 with
  | cons r rr =>
    cases rr with
    | cons r' rr =>
      cases rr
      cases r
      cases r'
      obtain ⟨u1, v1, p1, _⟩ := I1.tuple qx
      obtain ⟨u2, v2, p2, _⟩ := I1.list qy
      obtain ⟨o1, ho1, _⟩ := id p1
      refine call2 (k1 := true) (k2 := false) (show SO true s1.heap a u1.toArray from p1) (show SO false s1.heap b u2.toArray from p2.isList) fun g Z F hsz hk => wpAny_pyIter_zip F.1 ?_
      have I2 : Inv X pins σ H1 { s1 with heap := g } := I1.kept (t' := s1.toks) hk
      exact ⟨s1.heap.objs.size + 4, [s1.heap.objs.size + 4, s1.heap.objs.size + 2, s1.heap.objs.size + 3, s1.heap.objs.size, s1.heap.objs.size + 1], _, _, H1, rfl, I2, turn2 (Heap.lt_size ho1) p2.lt, ⟨Z, F⟩, fresh5 I1, q⟩
/-- two abreast -/
theorem walk_zipTL {K : PySem.W.Frag} {a b : Addr} {xs ys : List V} (l1 : xs.length = ys.length) : Walk (It2 K a b) xs.length (fun H => SqT K H a xs ∧ SqL K H b ys)
    (fun i H u H' => ∃ T x y, u = .ref T ∧ H T = none ∧ H' = upd H T (.tup [x, y]) ∧ xs[i]? = some x ∧ ys[i]? = some y) := by
  refine ⟨fun i _ hi q => ?_, fun _ q => ⟨xs, ys, q.1, q.2, .inl (Nat.le_refl _)⟩, fun i H u H' _ q y => ?_⟩
  · have h2 : i < ys.length := by omega
    exact ⟨xs, ys, xs[i], ys[i], q.1, q.2, by simp [hi], by simp [h2]⟩
  · obtain ⟨T, x, y, h1, h2, h3, h4, h5⟩ := y
    exact ⟨T, x, y, h1, h2, h3, h4 xs q.1, h5 ys q.2⟩
/-- pairs in new tuples -/
def PairsAt (H : Hp) (us xs ys : List V) : Prop := ∀ (j : Nat) (u : V), us[j]? = some u → ∃ (T : Addr) (x y : V), u = .ref T ∧ xs[j]? = some x ∧ ys[j]? = some y ∧ H T = some (.tup [x, y])
theorem PairsAt.same {H H' : Hp} {us xs ys : List V} (h : PairsAt H us xs ys) (s : Same H H') : PairsAt H' us xs ys := fun j u e => by
  obtain ⟨T, x, y, h1, h2, h3, h4⟩ := h j u e
  exact ⟨T, x, y, h1, h2, h3, s _ _ h4⟩
theorem sUpd {H : Hp} {a : Addr} {o : HO} (n : H a = none) : Same H (upd H a o) := fun b u e => by
  rw [upd_ne (ne_of_none e n)]
  exact e
end Zq
namespace Nd
open PySem PySem.Spec PyProof.Rows L2 Ov
mutual
def keyD : PyData → NestedKey
  | .none => .none
  | .bool b => .num (if b = true then 1 else 0)
  | .int i => .num i
  | .str x => .text x
  | .tuple ds => .tup (keyDs ds)
  | .list _ => .none
  | .dict _ => .none
def keyDs : List PyData → List NestedKey
  | [] => []
  | d :: ds => keyD d :: keyDs ds
end
mutual
def canKey : PyData → Bool
  | .none => true
  | .bool _ => true
  | .int _ => true
  | .str _ => true
  | .tuple ds => canKeys ds
  | .list _ => false
  | .dict _ => false
def canKeys : List PyData → Bool
  | [] => true
  | d :: ds => canKey d && canKeys ds
end
section
variable {X : Cx} {pins : List (Addr × Obj)} {σ : L2.St} {H : Hp} {s : Shared}
mutual
theorem dx_key (I : Inv X pins σ H s) : ∀ {v : V} {d : PyData} {u : Value}, Dx X.K H v d → canKey d = true → RelV v u → NestedIs s.heap (keyD d) u
  | _, _, _, .non, _, r => by cases r; exact .none
  | _, _, _, .bl b, _, r => by cases r; exact .bool rfl
  | _, _, _, .int i, _, r => by obtain ⟨t, rfl⟩ := r; exact .int i t
  | _, _, _, .str x, _, r => by obtain ⟨t, rfl⟩ := r; exact .text x t
  | _, _, _, .dct _, c, _ => by cases c
  | _, _, _, .lst _ _, c, _ => by cases c
  | _, _, _, .tup h a, c, r => by
    cases r
    obtain ⟨its, rv, ⟨o, ho, hc, n, hd⟩, _⟩ := I.tuple h
    exact .tup ho hc hd (dx_keys I a c rv)
theorem dx_keys (I : Inv X pins σ H s) : ∀ {vs : List V} {ds : List PyData} {us : List Value}, DxAll X.K H vs ds → canKeys ds = true → Vals vs us → NestedAll s.heap (keyDs ds) us
  | _, _, _, .nil, _, r => by cases r; exact .nil
  | _, _, _, .cons h a, c, r => by
    cases r with
    | cons r1 r2 =>
      have c' := Bool.and_eq_true_iff.mp (show (canKey _ && canKeys _) = true from c)
      exact .cons (dx_key I h c'.1 r1) (dx_keys I a c'.2 r2)
end
end
abbrev Ent := PyData × Addr × V
abbrev KX : List (NestedKey × Addr × V) → List (NestedKey × Addr × Value) → Prop := Paired fun p q => p.1 = q.1 ∧ p.2.1 = q.2.1 ∧ RelV p.2.2 q.2.2
def kvs (es : List Ent) : List (NestedKey × Addr × V) := es.map fun e => (keyD e.1, e.2)
def ndO (w : World) (a : Addr) (ks : List (NestedKey × Addr × V)) : HO := .ext fun h => ∃ xs : List (NestedKey × Addr × Value), KX ks xs ∧ ∃ o es ep, h.get? a = some o ∧ o.ExactDict ∧ o.data = .dict es ep ∧ es.toList = xs.map fun x => (⟨x.1.hash w, .ref x.2.1, x.2.2⟩ : DictEntry)
structure KeyOk (K : PySem.W.Frag) (H : Hp) (b : Addr) (d : PyData) : Prop where
  dx : Dx K H (.ref b) d
  can : canKey d = true
  dep : (keyD d).depth ≤ 8
structure NdAt (K : PySem.W.Frag) (w : World) (H : Hp) (a : Addr) (es : List Ent) : Prop where
  at_ : H a = some (ndO w a (kvs es))
  ks : ∀ e ∈ es, KeyOk K H e.2.1 e.1
  nd : (es.map fun e => keyD e.1).Nodup
  sm : (a == sysModules) = false
  len : es.length ≤ sizeLine
/-- what stands at a key -/
def valN (es : List Ent) (d : PyData) : Option V := (es.find? fun e => decide (keyD e.1 = keyD d)).map (·.2.2)
theorem KeyOk.same {K : PySem.W.Frag} {H H' : Hp} {b : Addr} {d : PyData} (h : KeyOk K H b d) (s : Same H H') : KeyOk K H' b d := ⟨h.dx.same s, h.can, h.dep⟩
/-- what stands in no dict of this kind stands beside it -/
def Off (a : Addr) (H H' : Hp) : Prop := ∀ b o, H b = some o → b ≠ a → H' b = some o
section
variable {K : PySem.W.Frag} {H H' : Hp} {a : Addr} {φ : Heap → Prop}
theorem SqT.off {b : Addr} {xs : List V} (ha : H a = some (.ext φ)) (s : Off a H H') (h : SqT K H b xs) : SqT K H' b xs := by
  rcases h with (h | ⟨o, h⟩) | h
  · exact .inl (.inl (s _ _ h fun z => by rw [z, ha] at h; cases h))
  · exact .inl (.inr ⟨o, s _ _ h fun z => by rw [z, ha] at h; cases h⟩)
  · exact .inr h
mutual
theorem Dx.off (ha : H a = some (.ext φ)) (s : Off a H H') : ∀ {v : V} {d : PyData}, Dx K H v d → Dx K H' v d
  | _, _, .non => .non
  | _, _, .bl b => .bl b
  | _, _, .int i => .int i
  | _, _, .str x => .str x
  | _, _, .dct h => .dct (s _ _ h fun z => by rw [z, ha] at h; cases h)
  | _, _, .lst h x => .lst (by
      rcases h with (h | ⟨o, h⟩) | h
      · exact .inl (.inl (s _ _ h fun z => by rw [z, ha] at h; cases h))
      · exact .inl (.inr ⟨o, s _ _ h fun z => by rw [z, ha] at h; cases h⟩)
      · exact .inr h) (DxAll.off ha s x)
  | _, _, .tup h x => .tup (SqT.off ha s h) (DxAll.off ha s x)
theorem DxAll.off (ha : H a = some (.ext φ)) (s : Off a H H') : ∀ {vs : List V} {ds : List PyData}, DxAll K H vs ds → DxAll K H' vs ds
  | _, _, .nil => .nil
  | _, _, .cons h x => .cons (Dx.off ha s h) (DxAll.off ha s x)
end
end
section
variable {X : Cx} {pins : List (Addr × Obj)} {σ : L2.St} {H : Hp} {s : Shared} {a b : Addr} {es : List Ent} {d : PyData}
theorem key_is (I : Inv X pins σ H s) (k : KeyOk X.K H b d) : (nestedKind X.prog X.w).is s.heap (keyD d) b := ⟨dx_key I k.dx k.can rfl, k.dep⟩
theorem kx_keys : ∀ {ks : List (NestedKey × Addr × V)} {xs : List (NestedKey × Addr × Value)}, KX ks xs → ks.map (·.1) = xs.map (·.1)
  | _, _, .nil => rfl
  | _, _, .cons h t => by rw [List.map_cons, List.map_cons, h.1, kx_keys t]
theorem kx_mem : ∀ {ks : List (NestedKey × Addr × V)} {xs : List (NestedKey × Addr × Value)}, KX ks xs → ∀ x ∈ xs, ∃ p ∈ ks, p.1 = x.1 ∧ p.2.1 = x.2.1 ∧ RelV p.2.2 x.2.2
  | _, _, .cons h t, x, hx => by
    rcases List.mem_cons.mp hx with e | hx
    · subst e; exact ⟨_, List.mem_cons_self, h⟩
    · obtain ⟨p, hp, r⟩ := kx_mem t x hx
      exact ⟨p, List.mem_cons_of_mem _ hp, r⟩
theorem kx_find (k : NestedKey) : ∀ {ks : List (NestedKey × Addr × V)} {xs : List (NestedKey × Addr × Value)}, KX ks xs → RelO ((ks.find? fun p => decide (p.1 = k)).map (·.2.2)) ((xs.find? fun p => decide (p.1 = k)).map (·.2.2))
  | _, _, .nil => trivial
  | _, _, .cons (a := p) (b := q) h t => by
    rw [List.find?_cons, List.find?_cons]
    by_cases e : p.1 = k
    · rw [decide_eq_true e, decide_eq_true (h.1 ▸ e)]
      exact h.2.2
    · rw [decide_eq_false e, decide_eq_false (h.1 ▸ e)]
      exact kx_find k t
theorem find_kvs (es : List Ent) (d : PyData) : ((kvs es).find? fun p => decide (p.1 = keyD d)).map (·.2.2) = valN es d := by
  unfold kvs valN
  rw [List.find?_map, Option.map_map]
  rfl
theorem nd_raw (I : Inv X pins σ H s) (N : NdAt X.K X.w H a es) : ∃ xs, KX (kvs es) xs ∧ s.heap.DictOfH (nestedKind X.prog X.w) a xs := by
  obtain ⟨⟨xs, kx, o, ees, ep, ho, hx, hd, he⟩, _⟩ := (show ObjOk X.prog X.w H s.heap a (ndO X.w a (kvs es)) from I.hok a _ N.at_)
  refine ⟨xs, kx, o, ees, ep, ho, hx, hd, he, fun x hxm => ?_, ?_⟩
  · obtain ⟨p, hp, e1, e2, _⟩ := kx_mem kx x hxm
    obtain ⟨e, hem, rfl⟩ := List.mem_map.mp hp
    rw [← e1, ← e2]
    exact key_is I (N.ks e hem)
  · rw [← kx_keys kx]
    have n := N.nd
    unfold kvs
    rw [List.map_map]
    exact n
theorem nd_val (N : NdAt X.K X.w H a es) {xs : List (NestedKey × Addr × Value)} (kx : KX (kvs es) xs) (d : PyData) : RelO (valN es d) ((atKey xs (keyD d)).map (·.2)) := by
  have z := kx_find (keyD d) kx
  rw [find_kvs] at z
  unfold atKey
  rw [Option.map_map]
  exact z
theorem room_in1 {A : Around} (hu : A.units + 64 < cLine) : (nestedKind X.prog X.w).room A.in1 := by show A.units + 1 + 8 < cLine; omega
end
def tNIn (ty td : TE) (K : PySem.W.Frag) (w : World) (neg : Bool) : TE := fun σ H Q => ty σ H fun y H1 => td σ H1 fun x H2 => ∃ (a b : Addr) (es : List Ent) (d : PyData), x = .ref a ∧ y = .ref b ∧ NdAt K w H2 a es ∧ KeyOk K H2 b d ∧ Q (.bl (if neg = true then !(valN es d).isSome else (valN es d).isSome)) H2
def tNGet (td ty : TE) (K : PySem.W.Frag) (w : World) : TE := fun σ H Q => td σ H fun x H1 => ty σ H1 fun y H2 => ∃ (a b : Addr) (es : List Ent) (d : PyData) (v : V), x = .ref a ∧ y = .ref b ∧ NdAt K w H2 a es ∧ KeyOk K H2 b d ∧ valN es d = some v ∧ Q v H2
def sNPut (td ty tv : TE) (K : PySem.W.Frag) (w : World) : TS := fun D σ H => tv σ H fun v H1 => td σ H1 fun x H2 => ty σ H2 fun y H3 => ∃ (a b : Addr) (es : List Ent) (d : PyData), x = .ref a ∧ y = .ref b ∧ NdAt K w H3 a es ∧ KeyOk K H3 b d ∧ valN es d = none ∧ es.length < sizeLine ∧
  (NdAt K w (upd H3 a (ndO w a (kvs (es ++ [(d, b, v)])))) a (es ++ [(d, b, v)]) → D.nx σ (upd H3 a (ndO w a (kvs (es ++ [(d, b, v)])))))
/-- d.setdefault(y, z) -/
def tNSet (td ty tz : TE) (K : PySem.W.Frag) (w : World) : TE := fun σ H Q => td σ H fun x H1 => ∃ (a : Addr) (es : List Ent), x = .ref a ∧ NdAt K w H1 a es ∧ ty σ H1 fun y H2 => tz σ H2 fun z H3 => ∃ (b : Addr) (es' : List Ent) (d : PyData), y = .ref b ∧ NdAt K w H3 a es' ∧ KeyOk K H3 b d ∧ es'.length < sizeLine ∧
  (∀ v, valN es' d = some v → Q v H3) ∧ (valN es' d = none → NdAt K w (upd H3 a (ndO w a (kvs (es' ++ [(d, b, z)])))) a (es' ++ [(d, b, z)]) → Q z (upd H3 a (ndO w a (kvs (es' ++ [(d, b, z)])))))
theorem nd_upd {K : PySem.W.Frag} {w : World} {H : Hp} {a b : Addr} {es : List Ent} {d : PyData} {v : V} (N : NdAt K w H a es) (k : KeyOk K H b d) (hn : valN es d = none) (hl : es.length < sizeLine) : NdAt K w (upd H a (ndO w a (kvs (es ++ [(d, b, v)])))) a (es ++ [(d, b, v)]) := by
  have off : Off a H (upd H a (ndO w a (kvs (es ++ [(d, b, v)])))) := fun c o e n => by rw [upd_ne n]; exact e
  refine ⟨upd_same, fun e he => ?_, ?_, N.sm, by rw [List.length_append]; show _ + 1 ≤ _; omega⟩
  · rcases List.mem_append.mp he with h | h
    · have k' := N.ks e h
      exact ⟨Dx.off N.at_ off k'.dx, k'.can, k'.dep⟩
    · rw [List.mem_singleton.mp h]
      exact ⟨Dx.off N.at_ off k.dx, k.can, k.dep⟩
  · rw [List.map_append]
    refine List.nodup_append.mpr ⟨N.nd, by simp, fun x hx y hy => ?_⟩
    have ey : y = keyD d := by simpa using hy
    obtain ⟨e, he, rfl⟩ := List.mem_map.mp hx
    intro z
    unfold valN at hn
    have := List.find?_eq_none.mp (Option.map_eq_none_iff.mp hn) e he
    exact this (decide_eq_true (z.trans ey))
section
variable {X : Cx} {pins : List (Addr × Obj)} {σ : L2.St} {H : Hp} {s : Shared} {a b : Addr} {es : List Ent} {d : PyData}
theorem kx_app : ∀ {ks ls : List (NestedKey × Addr × V)} {xs ys : List (NestedKey × Addr × Value)}, KX ks xs → KX ls ys → KX (ks ++ ls) (xs ++ ys)
  | _, _, _, _, .nil, t => t
  | _, _, _, _, .cons h r, t => .cons h (kx_app r t)
/-- the dict with one more key -/
theorem nd_put (I : Inv X pins σ H s) (N : NdAt X.K X.w H a es) (k : KeyOk X.K H b d) (hn : valN es d = none) (hl : es.length < sizeLine) {v : V} {u : Value} (rv : RelV v u) {xs : List (NestedKey × Addr × Value)} (kx : KX (kvs es) xs) {h' : Heap} {tk : Nat}
    (dd : h'.DictOfH (nestedKind X.prog X.w) a (storedH xs (keyD d) b u)) (hs : Heap.SameBut a s.heap h') : Inv X pins σ (upd H a (ndO X.w a (kvs (es ++ [(d, b, v)])))) { s with heap := h', toks := tk } := by
  have r := nd_val N kx d
  rw [hn] at r
  have e0 : atKey xs (keyD d) = none := by
    cases q : atKey xs (keyD d) with
    | none => rfl
    | some p => rw [q] at r; exact (show False from r).elim
  rw [storedH_new e0] at dd
  obtain ⟨o, ees, ep, ho, hx, hd, he, _, _⟩ := dd
  have kx2 : KX (kvs (es ++ [(d, b, v)])) (xs ++ [(keyD d, b, u)]) := by
    unfold kvs
    rw [List.map_append]
    exact kx_app kx (.cons ⟨rfl, rfl, rv⟩ .nil)
  exact d_write I (by rw [N.at_]; exact True.intro) hs ⟨o, ho⟩ ⟨⟨_, kx2, o, ees, ep, ho, hx, hd, he⟩, ⟨o, ho⟩, fun h1 h2 x hk => by
    obtain ⟨xs', kx', o', es', ep', ho', r'⟩ := x
    exact ⟨xs', kx', o', es', ep', hk _ ho', r'⟩⟩
end
section
variable {X : Cx} {o i e f value : Expr} {pos pos' apos cpos : Pos} {td ty tv tz : TE}
theorem pc_nnotin (hu : X.A.units + 64 < cLine) (hi : PE X i ty) (ho : PE X o td) : PC X .NotIn i o (tNIn ty td X.K X.w true) := by
  refine ⟨fun pins s σ H Q I h => ?_⟩
  refine thn (hi.run pins s σ H _ I h) fun iv s1 ⟨y, H1, I1, ry, q1⟩ => thn (ho.run pins s1 σ H1 _ I1 q1) fun u s2 ⟨x, H2, I2, rx, a, b, es, d, ex, ey, N, k, q2⟩ => ?_
  subst ex ey
  cases rx
  cases ry
  obtain ⟨xs, kx, dd⟩ := nd_raw I2 N
  have r := nd_val N kx d
  refine wpAny_notIn_heap (room_in1 hu) (key_is I2 k) N.sm dd ⟨_, H2, I2.tok _, ?_, q2⟩
  rw [if_pos rfl]
  show Value.bool _ = Value.bool _
  cases h1 : valN es d <;> cases h2 : atKey xs (keyD d) <;> rw [h1, h2] at r <;> first | rfl | exact (show False from r).elim
theorem pe_nget (hu : X.A.units + 64 < cLine) (ho : PE X o td) (hi : PE X i ty) (hs : NoSl i) : PE X (.Subscript o i pos) (tNGet td ty X.K X.w) := by
  refine ⟨fun pins s σ H Q I h => ?_⟩
  refine subD_of PySem.F.slot_dict_getitem.lookup hs (thn (ho.run pins s σ H _ I h) fun u s1 ⟨x, H1, I1, rx, q1⟩ => thn (hi.run pins s1 σ H1 _ I1 q1) fun iv s2 ⟨y, H2, I2, ry, a, b, es, d, v, ex, ey, N, k, hv, q2⟩ => ?_)
  subst ex ey
  cases rx
  cases ry
  obtain ⟨xs, kx, dd⟩ := nd_raw I2 N
  have r := nd_val N kx d
  rw [hv] at r
  cases h2 : atKey xs (keyD d) with
  | none => rw [h2] at r; exact (show False from r).elim
  | some p =>
    rw [h2] at r
    exact ⟨dd.typeIs, wpAny_getItem_heap (room_in1 hu) (key_is I2 k) dd h2 ⟨v, H2, I2.tok _, r, q2⟩⟩
theorem ps_nput (hu : X.A.units + 64 < cLine) (ho : PE X o td) (hi : PE X i ty) (hv : PE X value tv) (hs : swapsWith value (some (.Subscript o i pos')) pos.line X.env = pure false) :
    PS X (.Assign [.Subscript o i pos'] value pos) (sNPut td ty tv X.K X.w) := by
  refine ⟨fun pins s σ H D I h => ?_⟩
  refine wpAny_Assign_Subscript (thn (hv.run pins s σ H _ I h) fun r s1 ⟨v, H1, I1, rv, q1⟩ => thn (ho.run pins s1 σ H1 _ I1 q1) fun u s2 ⟨x, H2, I2, rx, q2⟩ => thn (hi.run pins s2 σ H2 _ I2 q2) fun iv s3 ⟨y, H3, I3, ry, a, b, es, d, ex, ey, N, k, hn, hl, q3⟩ => ?_) hs
  subst ex ey
  cases rx
  cases ry
  obtain ⟨xs, kx, dd⟩ := nd_raw I3 N
  refine wpAny_setItem_heap (hsz := ?_) (room_in1 hu) (key_is I3 k) dd fun h' dd' hs' => ⟨σ, _, nd_put I3 N k hn hl rv kx dd' hs', q3 (nd_upd N k hn hl)⟩
  have := kx.length
  unfold kvs at this
  rw [List.length_map] at this
  omega
theorem pe_nset (hu : X.A.units + 64 < cLine) (ho : PE X o td) (he : PE X e ty) (hf : PE X f tz) (m : M2 X o "setdefault" apos e f cpos) : PE X (.Call (.Attribute o "setdefault" apos) [e, f] [] cpos) (tNSet td ty tz X.K X.w) := by
  refine ⟨fun pins s σ H Q I h => ?_⟩
  refine wpAny_Call_method m.base m.few m.line PySem.F.plainAttrs_dict PySem.F.slot_dict_setdefault PySem.F.type_dict_setdefault (thn (ho.run pins s σ H _ I h) fun u s1 ⟨x, H1, I1, rx, a, es, ex, N1, q1⟩ => ?_)
  subst ex
  cases rx
  obtain ⟨xs1, kx1, dd1⟩ := nd_raw I1 N1
  refine ⟨dd1.typeIs, fun b q => by cases q; obtain ⟨ob, _, _, h1, h2, _⟩ := dd1; exact ⟨ob, h1, h2.2.1⟩, ?_⟩
  rw [m.trees]
  refine Calls.callWith_builtin rfl (Calls.evalArgs_plain (Calls.spliced_cons (thn (he.run pins s1 σ H1 _ I1 q1) fun iv s2 ⟨y, H2, I2, ry, q2⟩ =>
    Calls.spliced_cons (thn (hf.run pins s2 σ H2 _ I2 q2) fun fv s3 ⟨z, H3, I3, rz, b, es', d, ey, N, k, hl, q3, q4⟩ => Calls.spliced_nil ?_))))
  subst ey
  cases ry
  obtain ⟨xs, kx, dd⟩ := nd_raw I3 N
  have r := nd_val N kx d
  refine call_setdefault_heap (hsz := ?_) (room_in1 hu) (key_is I3 k) N.sm dd (fun p hp => ?_) fun hp h' dd' hs' => ?_
  · rw [hp] at r
    cases h1 : valN es' d with
    | none => rw [h1] at r; exact (show False from r).elim
    | some v =>
      rw [h1] at r
      exact ⟨v, H3, I3.tok _, r, q3 v h1⟩
  · have hn : valN es' d = none := by
      cases h1 : valN es' d with
      | none => rfl
      | some v => rw [h1, hp] at r; exact (show False from r).elim
    exact ⟨z, _, nd_put I3 N k hn hl rz kx dd' hs', rz, q4 hn (nd_upd N k hn hl)⟩
  · have := kx.length
    unfold kvs at this
    rw [List.length_map] at this
    omega
theorem nd_empty {P : Program} {w : World} {H : Hp} (h : Heap) : ObjOk P w H (h.push { cls := .type "dict", data := .dict #[] }) h.objs.size (ndO w h.objs.size []) :=
  ⟨⟨[], .nil, _, #[], 0, Heap.get?_push_size _ rfl, ⟨rfl, rfl, rfl⟩, rfl, rfl⟩, ⟨_, Heap.get?_push_size _ rfl⟩, fun h1 h2 x hk => by
    obtain ⟨xs', kx', o', es', ep', ho', r'⟩ := x
    exact ⟨xs', kx', o', es', ep', hk _ ho', r'⟩⟩
theorem nd_new {K : PySem.W.Frag} {w : World} {H : Hp} {a : Addr} (h : (a == sysModules) = false) : NdAt K w (upd H a (ndO w a [])) a [] := ⟨upd_same, (fun _ z => nomatch z), List.nodup_nil, h, Nat.zero_le _⟩
/-- {} -/
def tNNew (K : PySem.W.Frag) (w : World) : TE := fun _ H Q => ∀ p, H p = none → NdAt K w (upd H p (ndO w p [])) p [] → Q (.ref p) (upd H p (ndO w p []))
theorem pe_nnew : PE X (.Dict [] [] pos) (tNNew X.K X.w) := ⟨fun pins s σ H Q I h =>
  wpAny_Dict_empty ⟨.ref s.heap.objs.size, _, I.laid (a := s.heap.objs.size) (o := ndO X.w s.heap.objs.size []) (t' := s.toks) (fun _ _ q => Heap.get?_push_of_some _ q) (Nat.le_refl _) (nd_empty s.heap), rfl, h _ (I.hok.fresh (Nat.le_refl _)) (nd_new (beq_eq_false_iff_ne.mpr (Ne.symm (Nat.ne_of_lt I.big))))⟩⟩
/-- {k: v}, k a tuple -/
def tNDisp (tk tv : TE) (K : PySem.W.Frag) (w : World) : TE := fun σ H Q => ∀ p, H p = none → NdAt K w (upd H p (ndO w p [])) p [] → tk σ (upd H p (ndO w p [])) fun y H1 => tv σ H1 fun z H2 => ∃ (b : Addr) (d : PyData), y = .ref b ∧ NdAt K w H2 p [] ∧ KeyOk K H2 b d ∧
  (NdAt K w (upd H2 p (ndO w p (kvs [(d, b, z)]))) p [(d, b, z)] → Q (.ref p) (upd H2 p (ndO w p (kvs [(d, b, z)]))))
theorem pe_ndisp {k v : Expr} (hu : X.A.units + 64 < cLine) (hk : PE X k ty) (hv : PE X v tz) : PE X (.Dict [some k] [v] pos) (tNDisp ty tz X.K X.w) := by
  refine ⟨fun pins s σ H Q I q => ?_⟩
  have hn := I.hok.fresh (Nat.le_refl s.heap.objs.size)
  have I1 := I.laid (a := s.heap.objs.size) (o := ndO X.w s.heap.objs.size []) (h' := s.heap.push { cls := .type "dict", data := .dict #[] }) (t' := s.toks) (fun _ _ q => Heap.get?_push_of_some _ q) (Nat.le_refl _) (nd_empty s.heap)
  rw [arm_eval_Dict, zip_pairTrees [some k] [v] X.env pos rfl rfl, dictDisplay_pairs (pairTrees [some k] [v] X.env pos) (by simp [pairTrees]) (by rw [pairTrees_length [some k] [v] X.env pos rfl rfl]; show 1 < 17; decide)]
  refine wpAny_bind (wpAny_standAt (wpAny_bind (wpAny_subDictH (knd := nestedKind X.prog X.w) (Q := fun d s' => wpAny (model X.prog X.w) X.A (pure (Value.ref d)) (EP X pins σ Q) X.xe s') (by show X.A.units + 8 < cLine; omega) (by rw [pairTrees_length [some k] [v] X.env pos rfl rfl]; show 1 ≤ 15; decide) ?_)))
  refine pairTrees_cons_walk (thn (hk.run pins _ σ _ _ I1 (q _ hn (nd_new (beq_eq_false_iff_ne.mpr (Ne.symm (Nat.ne_of_lt I.big)))))) fun kv s1 ⟨y, H1, I2, ry, q1⟩ => thn (hv.run pins s1 σ H1 _ I2 q1) fun vv s2 ⟨z, H2, I3, rz, b, d, ey, N, ko, q2⟩ => pairTrees_nil_walk ?_)
  subst ey
  cases ry
  obtain ⟨xs, kx, dd⟩ := nd_raw I3 N
  have ex : xs = [] := by
    cases kx
    rfl
  subst ex
  refine ⟨[(keyD d, b, vv)], ⟨rfl, rfl, key_is I3 ko, trivial⟩, dd, fun h' tk dd' hs => wpAny_pure ⟨.ref s.heap.objs.size, _, nd_put I3 N ko rfl (by rw [sizeLine_eq]; decide) rz kx (tk := tk) ?_ hs, rfl, q2 (nd_upd N ko rfl (by rw [sizeLine_eq]; decide))⟩⟩
  exact dd'
/-- the pairs that a dict's items make -/
def EntsAt (H : Hp) (us : List V) (es : List Ent) : Prop := us.length = es.length ∧ ∀ (j : Nat) (u : V), us[j]? = some u → ∃ (T : Addr) (e : Ent), u = .ref T ∧ es[j]? = some e ∧ H T = some (.tup [.ref e.2.1, e.2.2])
def tNItems (td : TE) (K : PySem.W.Frag) (w : World) : TE := fun σ H Q => td σ H fun x H1 => ∃ (a : Addr) (es : List Ent), x = .ref a ∧ NdAt K w H1 a es ∧ es.length < sizeLine ∧
  ∀ (S : Addr) (us : List V) (H2 : Hp), H1 S = none → Same H1 H2 → H2 S = none → EntsAt H2 us es → Q (.ref S) (upd H2 S (.lst us))
theorem take_all {h' : Heap} {tk : Nat} {pins : List (Addr × Obj)} {σ : L2.St} {H0 : Hp} {s : Shared} (I0 : Inv X pins σ H0 s) : ∀ (L : List (Addr × List V)) (H1 : Hp), Inv X pins σ H1 { s with heap := h', toks := tk } → (L.map (·.1)).Nodup →
    (∀ p ∈ L, s.heap.objs.size ≤ p.1 ∧ H1 p.1 = none ∧ ∀ H2, ObjOk X.prog X.w H2 h' p.1 (.tup p.2)) →
    ∃ H2, Inv X pins σ H2 { s with heap := h', toks := tk } ∧ Same H1 H2 ∧ (∀ p ∈ L, H2 p.1 = some (.tup p.2)) ∧ ∀ c, H1 c = none → c ∉ L.map (·.1) → H2 c = none
  | [], H1, I1, _, _ => ⟨H1, I1, Same.refl _, (fun _ z => nomatch z), fun _ z _ => z⟩
  | p :: L, H1, I1, nd, h => by
    obtain ⟨hb, hnone, ok⟩ := h p List.mem_cons_self
    have I2 : Inv X pins σ (upd H1 p.1 (.tup p.2)) { s with heap := h', toks := tk } := I1.take (h' := h') (t' := tk) (fun b ob _ e => e) (I0.fpOk hb hnone) (ok _)
    rw [List.map_cons, List.nodup_cons] at nd
    obtain ⟨H2, I3, g, q, n⟩ := take_all I0 L (upd H1 p.1 (.tup p.2)) I2 nd.2 fun c hc => by
      obtain ⟨c1, c2, c3⟩ := h c (List.mem_cons_of_mem _ hc)
      exact ⟨c1, by rw [upd_ne (fun z => nd.1 (by rw [← z]; exact List.mem_map.mpr ⟨c, hc, rfl⟩))]; exact c2, c3⟩
    refine ⟨H2, I3, (Zq.sUpd hnone).trans g, fun c hc => ?_, fun c hc hn => ?_⟩
    · rcases List.mem_cons.mp hc with rfl | hc
      · exact g _ _ upd_same
      · exact q c hc
    · rw [List.map_cons, List.mem_cons, not_or] at hn
      exact n c (by rw [upd_ne hn.1]; exact hc) hn.2
theorem pe_listItems {p q : Pos} (hg : Gl X "list") (hm : X.mg "list" = none) (hc : X.calm = true) (ho : PE X o td) (hbase : attributeBase o "items" X.env (eval o X.env) = eval o X.env := by rfl) (hline : (apos.endLine == q.line) = true := by rfl) :
    PE X (.Call (.Name "list" p) [.Call (.Attribute o "items" apos) [] [] q] [] pos) (tNItems td X.K X.w) := by
  constructor
  intro pins s σ H Q I0 h
  have bl : bootBuiltins "list" = some (.type "list") := by decide +kernel
  refine Call_ (ld_blt I0 hg hm bl (PyProof.Rows.callWith_type1 (PyProof.Rows.args_cons ?_ rfl) rfl rfl))
  refine wpAny_Call_method0_late hbase hline (thn (ho.run pins s σ H _ I0 h) fun v s1 ⟨x, H1, I1, r1, a, es, ex, N, hl, k⟩ => ?_)
  subst ex
  cases r1
  obtain ⟨xs, kx, oo, ees, ep, hoo, hex, hdat, hes, his, hnd⟩ := nd_raw I1 N
  have raw : DT.Raw s1.heap a ees ep := ⟨oo, hoo, hex, hdat⟩
  have lx : xs.length = es.length := by
    have := kx.length
    unfold kvs at this
    rw [List.length_map] at this
    exact this.symm
  have lz : ees.size = xs.length := size_of_entries hes
  refine ⟨"dict", "dict.items", PySem.F.plainAttrs_dict, PySem.F.slot_dict_items, PySem.F.type_dict_items, raw.typeIs, fun b q => by cases q; exact ⟨oo, hoo, hex.2.1⟩, Calls.callWith_builtin rfl (PySem.evalArgs_none ?_)⟩
  refine DT.callItems (es := ees) (ep := ep) N.sm raw (PyProof.Rows.args_nil ?_)
  have hh : X.A.handled = none := I1.ok.hd hc
  have lt0 : a < s1.heap.objs.size := Heap.lt_size hoo
  have view : (s1.heap.push { cls := .type "dict_items", data := .fields #[.ref a] }).IsItemsView s1.heap.objs.size a := ⟨_, Heap.get?_push_size _ rfl, rfl, rfl⟩
  have rg := raw.push { cls := .type "dict_items", data := .fields #[.ref a] }
  have kg : ∀ c o, s1.heap.get? c = some o → (s1.heap.push { cls := .type "dict_items", data := .fields #[.ref a] }).get? c = some o := fun c o e => Heap.get?_push_of_some _ e
  have gz : (s1.heap.push { cls := .type "dict_items", data := .fields #[.ref a] }).objs.size = s1.heap.objs.size + 1 := Heap.size_push ..
  generalize s1.heap.push { cls := .type "dict_items", data := .fields #[.ref a] } = g at *
  refine callType_codes (Q₁ := fun obj s₁ => obj = .ref g.objs.size ∧ s₁ = { s1 with heap := g.push { cls := .type "list", data := .seq #[] } }) PySem.F.called_list (PySem.F.typeCall_list_1 _) PySem.F.entry_list_init (code_list_new _ ⟨rfl, rfl⟩) fun obj s₁ h₁ => ?_
  obtain ⟨rfl, rfl⟩ := h₁
  have hS : (g.push { cls := .type "list", data := .seq #[] }).get? g.objs.size = some { cls := .type "list", data := .seq #[] } := Heap.get?_push_size _ rfl
  refine ⟨⟨_, hS, rfl⟩, PySem.F.args_list_init_2 _ _, ?_⟩
  have v1 : (g.push { cls := .type "list", data := .seq #[] }).IsItemsView s1.heap.objs.size a := by
    obtain ⟨o, e, r⟩ := view
    exact ⟨o, Heap.get?_push_of_some _ e, r⟩
  have r1 := rg.push { cls := .type "list", data := .seq #[] }
  have k1 : ∀ c o, s1.heap.get? c = some o → (g.push { cls := .type "list", data := .seq #[] }).get? c = some o := fun c o e => Heap.get?_push_of_some _ (kg c o e)
  have g1z : (g.push { cls := .type "list", data := .seq #[] }).objs.size = s1.heap.objs.size + 2 := by rw [Heap.size_push, gz]
  have Sne : g.objs.size ≠ s1.heap.objs.size := by omega
  have Sa : a ≠ g.objs.size := by rw [gz]; exact Nat.ne_of_lt (Nat.lt_succ_of_lt lt0)
  have Sb : s1.heap.objs.size ≤ g.objs.size := by omega
  generalize g.objs.size = S at *
  generalize g.push { cls := .type "list", data := .seq #[] } = g1 at *
  show wpAny _ _ (do let old ← Builtin.List.listItems (.ref S); Builtin.List.listUpdate (.ref S) (fun _ => #[]); letGo old.toList.reverse; Builtin.List.listExtendWith (.ref S) (.ref s1.heap.objs.size) .none) _ _ _
  refine wpAny_bind ?_
  unfold Builtin.List.listItems
  refine wpAny_bind (wpAny_seqItems hS rfl (wpAny_pure ?_))
  show wpAny _ _ (updateSeq S (fun _ => #[]) >>= fun _ => letGo (#[] : Array Value).toList.reverse >>= fun _ => Builtin.List.listExtendWith (.ref S) (.ref s1.heap.objs.size) .none) _ _ _
  refine wpAny_bind (wpAny_updateSeq hS rfl ?_)
  have hS2 := Heap.get?_update_self (Obj.mapSeq (fun _ => (#[] : Array Value))) hS rfl
  have oth : ∀ c o, c ≠ S → g1.get? c = some o → (g1.update S (Obj.mapSeq (fun _ => (#[] : Array Value)))).get? c = some o := fun c o hb e => (Heap.get?_update_other _ _ (Ne.symm hb)).trans e
  have uz : (g1.update S (Obj.mapSeq (fun _ => (#[] : Array Value)))).objs.size = s1.heap.objs.size + 2 := by rw [← g1z]; first | exact Heap.size_update .. | simp
  refine wpAny_bind (wpAny_letGo ?_)
  have v2 : (g1.update S (Obj.mapSeq (fun _ => (#[] : Array Value)))).IsItemsView s1.heap.objs.size a := by
    obtain ⟨o, e, r⟩ := v1
    exact ⟨o, oth _ _ (Ne.symm Sne) e, r⟩
  have r2 : DT.Raw (g1.update S (Obj.mapSeq (fun _ => (#[] : Array Value)))) a ees ep := r1.at' fun o e => oth _ o Sa e
  have k2 : ∀ c o, s1.heap.get? c = some o → (g1.update S (Obj.mapSeq (fun _ => (#[] : Array Value)))).get? c = some o := fun c o e => oth c o (Nat.ne_of_lt (Nat.lt_of_lt_of_le (Heap.lt_size e) Sb)) (k1 c o e)
  generalize g1.update S (Obj.mapSeq (fun _ => (#[] : Array Value))) = g2 at *
  refine DT.extI (A := X.A.in1) (s := { s1 with heap := g2 }) (es := ees) (ep := ep) hh v2 r2 S Sne Sa .none _ hS2 (fun h' tk acc c as hk hS' hl2 hG hacc => ?_) (by omega)
  have k3 : ∀ c o, s1.heap.get? c = some o → h'.get? c = some o := fun c o e => hk c o (Nat.ne_of_lt (Nat.lt_of_lt_of_le (Heap.lt_size e) Sb)) (k2 c o e)
  have I3 : Inv X pins σ H1 { s1 with heap := h', toks := tk } := I1.kept (t' := tk) k3
  have hab : ∀ b ∈ as, s1.heap.objs.size + 2 < b := fun b hb => by
    have := hG.above b hb
    rw [uz] at this
    exact this
  have las : as.length = es.length := by omega
  have pr : ∀ (j : Nat) (b : Addr), as[j]? = some b → ∃ e : Ent, es[j]? = some e ∧ ∀ H2, ObjOk X.prog X.w H2 h' b (.tup [.ref e.2.1, e.2.2]) := fun j b hj => by
    obtain ⟨en, he, hget⟩ := hG.pairs j b hj
    rw [entry_at (knd := nestedKind X.prog X.w) hes j] at he
    obtain ⟨x, hx, exn⟩ := Option.map_eq_some_iff.mp he
    obtain ⟨p, hp, p1, p2, p3⟩ := L2.DX.pget kx hx
    unfold kvs at hp
    rw [List.getElem?_map] at hp
    obtain ⟨e, hej, rfl⟩ := Option.map_eq_some_iff.mp hp
    refine ⟨e, hej, fun H2 => ⟨by show 2 ≤ sizeLine; rw [sizeLine_eq]; decide, [.ref x.2.1, x.2.2], .cons ?_ (.cons p3 .nil), _, hget, rfl, 0, ?_⟩⟩
    · show Value.ref x.2.1 = Value.ref e.2.1
      rw [← p2]
    · rw [← exn]
      rfl
  have nd : as.Nodup := List.Pairwise.imp (fun h => Nat.ne_of_lt h) hG.rise
  have mz : ((as.zip (es.map fun e => [V.ref e.2.1, e.2.2])).map (·.1)) = as := List.map_fst_zip (by rw [List.length_map, las]; exact Nat.le_refl _)
  obtain ⟨H2, I4, s12, tk2, no2⟩ := take_all I1 (as.zip (es.map fun e => [V.ref e.2.1, e.2.2])) H1 I3 (by rw [mz]; exact nd) fun p hp => by
    obtain ⟨j, hj⟩ := List.mem_iff_getElem?.mp hp
    rw [List.getElem?_zip_eq_some] at hj
    obtain ⟨e, he, ok⟩ := pr j p.1 hj.1
    have e2 := hj.2
    rw [List.getElem?_map, he] at e2
    have hle : s1.heap.objs.size ≤ p.1 := Nat.le_of_lt (Nat.lt_trans (by omega) (hab p.1 (List.mem_of_getElem? hj.1)))
    refine ⟨hle, I1.hok.fresh hle, fun H2 => ?_⟩
    rw [← Option.some.inj e2]
    exact ok H2
  have nS1 : H1 S = none := I1.hok.fresh Sb
  have nS2 : H2 S = none := no2 S nS1 (by
    rw [mz]
    exact fun z => by have := hab S z; have : S = s1.heap.objs.size + 1 := gz; omega)
  have fit : (as.map V.ref).length ≤ sizeLine := by rw [List.length_map]; omega
  have vals : Vals (as.map V.ref) acc.toList := by
    rw [hacc]
    exact vals_maps (fun b : Addr => V.ref b) (fun b => Value.ref b) as fun _ _ => rfl
  have I5 : Inv X pins σ (upd H2 S (.lst (as.map V.ref))) { s1 with heap := h', toks := tk } := by
    have fpS := I1.fpOk (H' := H2) Sb nS2
    exact I4.take (h' := h') (t' := tk) (fun b ob _ e => e) fpS ⟨fit, acc.toList, c, vals, hS'⟩
  refine ⟨rfl, .ref S, _, I5, rfl, k S (as.map V.ref) H2 nS1 s12 nS2 ⟨by rw [List.length_map]; exact las, fun j u hj => ?_⟩⟩
  rw [List.getElem?_map] at hj
  obtain ⟨b, hb, rfl⟩ := Option.map_eq_some_iff.mp hj
  obtain ⟨e, he, _⟩ := pr j b hb
  refine ⟨b, e, rfl, he, tk2 (b, [V.ref e.2.1, e.2.2]) (List.mem_iff_getElem?.mpr ⟨j, ?_⟩)⟩
  rw [List.getElem?_zip_eq_some]
  exact ⟨hb, by rw [List.getElem?_map, he]; rfl⟩
end
end Nd
namespace Ov
open PySem PySem.Spec PyProof.Rows L2
section
variable {X : Cx}
/-- in every block of a comprehension -/
abbrev Blk (X : Cx) (sc : Scope) (R : Cx → Prop) : Prop := ∀ (s : Shared) (H : Hp) (C : Addr) (cl : List (Str × Addr)) (fp : List Addr), R (X.blk s H sc (compEnvC sc cl C X.env) fp)
/-- a local name that is given a new dict by a comprehension on its own row -/
theorem ps_setDc {i : Nat} {y : Str} {py pos ps : Pos} {kx vx tg it : Expr} {ifs : List Expr} {sc : Scope} {own : List (Str × Nat)} {wi : TI} {g : TG} {tt : TT} {tk tv : TE} (hc : X.calm = true) (nd : X.N.Nodup) (hy : X.N[i]? = some y) (loc : X.env.scope.names.lookup y = some .local)
    (sw : swapsWith (.DictComp kx vx [⟨tg, it, ifs, 0⟩] sc pos) (some (.Name y py)) ps.line X.env = pure true) (hi : PI X tg it wi) (ok : BlkOk X.N X.env.scope sc own) (hg : Blk X sc fun Y => PG Y tg g) (ht : Blk X sc fun Y => PTs Y ifs tt)
    (hk : Blk X sc fun Y => PE Y kx tk) (hv : Blk X sc fun Y => PE Y vx tv) (fs : ∀ x, foldedSetIterable it X.env x = pure x := by intro _; rfl) :
    PS X (.Assign [.Name y py] (.DictComp kx vx [⟨tg, it, ifs, 0⟩] sc pos) ps) (tAsg (tDc wi g tt tk tv (own.map (·.2))) (gName i)) := by
  constructor
  intro pins s σ H D I h
  rw [exec_Assign_Name_used _ _ _ _ sw]
  have core := dc_core (pos := pos) (pos' := firstIterPos [⟨tg, it, ifs, 0⟩] pos) (use := some (assign (.Name y py) X.env)) (Qf := fun _ t => SP X pins D .next t) (Q := fun x H1 => gName i x σ H1 D.nx) hc nd I hi ok hg ht hk hv fs h ?key
  · exact wpAny_bind (wpAny_standAt (wpAny_bind (wpAny_bind (thn core fun _ _ z => wpAny_pure (wpAny_pure z)))))
  case key =>
    intro L C t m G J q ns fp
    obtain ⟨p0, p1, _, p3, p4, p5⟩ := fp
    refine wpAny_assign_Name (store_ok2 (v := V.ref L) J nd hy (Or.inl loc) rfl ?_ (Or.inr loc))
    rintro t2 J2 ⟨a, sb, ha⟩
    have away : C ≠ a := ha.elim (fun z => z ▸ p1) (fun z w => p4 y a z w.symm)
    exact ⟨m, ns.sameBut sb away, fun _ sb3 => ⟨_, G, J2.turned (t' := t2.toks) (fun b _ hb e => (sb3.2 b hb).trans e) p0 p1 p3 p4 p5, q⟩⟩
theorem sw_dict {kx vx : Expr} {gs : List Comprehension} {sc : Scope} {pos py : Pos} {y : Str} {l : Nat} {env : Env} (kd : env.scope.kind = .function) (loc : env.scope.names.lookup y = some .local) (row : (py.line == pos.line) = true)
    (no : (sc.names.any fun (n, k) => n == y && (k == .local || k == .cell)) = false) : swapsWith (.DictComp kx vx gs sc pos) (some (.Name y py)) l env = pure true := by
  have h1 : env.blockKind = .function := by rw [Env.blockKind, kd]; rfl
  have h2 : env.kindOf y = some .local := loc
  rw [swapsWith]
  simp only [h1, h2, no, Expr.pos, row]
  rfl
end
end Ov
namespace Ov
open PySem PySem.Spec PyProof.Rows L2
/-- an int that goes into the set at D -/
def PutI (w : World) (D : Addr) (y : V) (H : Hp) (N : Hp → Prop) : Prop := ∃ (c : Int) (S : Int → Bool) (n : Nat), y = .int c ∧ H D = some (SetO w D S n) ∧ n + 1 < scanBound ∧ N (upd H D (SetO w D (fun j => S j || decide (j = c)) (if S c = true then n else n + 1)))
/-- a turn: the item x, the test, the member -/
def TurnI (w : World) (D : Addr) (g : TG) (tt : TT) (te : TE) (σ0 : L2.St) (vs : List Nat) (x : V) (H : Hp) (N : Hp → Prop) : Prop := g x σ0 H fun σ2 H2 => wipe σ2 vs = σ0 ∧ tt σ2 H2 fun b H3 => if b = true then te σ2 H3 fun y H4 => PutI w D y H4 N else N H3
def tScI (w : World) (wi : TI) (g : TG) (tt : TT) (te : TE) (vs : List Nat) : TE := fun σ H Q => wi σ H fun J H1 => ∀ D, H1 D = none → ∃ W : Nat → Nat → Hp → Prop, (∃ m, W 0 m (upd H1 D (SetO w D (fun _ => false) 0))) ∧
  ∀ i m G, W i m G → (J.stop i G ∧ Q (.ref D) G) ∨ (J.go i G ∧ ∃ N : Hp → Prop, (∀ G', N G' → ∃ m', m' < m ∧ W (i + 1) m' G') ∧ ∀ x G', J.yld i G x G' → TurnI w D g tt te (wipe σ vs) vs x G' N)
section
variable {X : Cx}
theorem addI_ok {pins : List (Addr × Obj)} {σ : L2.St} {H : Hp} {s : Shared} {E : Value → Shared → Prop} {D : Addr} {S : Int → Bool} {n : Nat} {y : Int} {u : Value} {Q : Value → Shared → Prop} (I : Inv X pins σ H s) (hD : H D = some (SetO X.w D S n)) (room : n + 1 < scanBound) (ru : RelV (.int y) u)
    (h : ∀ t, Inv X pins σ (upd H D (SetO X.w D (fun j => S j || decide (j = y)) (if S y = true then n else n + 1))) t → Q .none t) : wpAny (model X.prog X.w) X.A (call (.builtin "set.add") [.ref D, u]) Q E s := by
  obtain ⟨tk, rfl⟩ := ru
  refine setR_add (setO_get I hD) room fun g sb nw => h _ ?_
  obtain ⟨o, _, _, _, ho, _⟩ := id nw
  exact I.write (e := D) (t' := s.toks + 1) (by rw [hD]; trivial) (.inl rfl) (fun b _ hb z => (sb.2 b hb).trans z) ⟨o, ho⟩ (setO_new nw)
/-- the object of a new set -/
abbrev set0 (w : World) : Obj := { cls := .type "set", dict := none, data := .set #[] 0 (.fresh 0 0 (!w.params.followText "set-order")) }
theorem pe_scI {el tg it : Expr} {ifs : List Expr} {sc : Scope} {own : List (Str × Nat)} {pos : Pos} {wi : TI} {g : TG} {tt : TT} {te : TE} (hc : X.calm = true) (nd : X.N.Nodup) (hi : PI X tg it wi) (ok : BlkOk X.N X.env.scope sc own)
    (hg : Blk X sc fun Y => PG Y tg g) (ht : Blk X sc fun Y => PTs Y ifs tt) (he : Blk X sc fun Y => PE Y el te) (fs : ∀ x, foldedSetIterable it X.env x = pure x := by intro _; rfl) :
    PE X (.SetComp el [⟨tg, it, ifs, 0⟩] sc pos) (tScI X.w wi g tt te (own.map (·.2))) := by
  constructor
  intro pins s σ H Q I h
  rw [PpSet.eval_SetComp]
  have cells : ∀ y ∈ sc.names, y.2 = .free → ∃ c, X.env.cells.lookup y.1 = some c := fun y hy e => (ok.free y hy e).elim (fun z => I.ok.has _ (Or.inl z)) (fun z => I.ok.has _ (Or.inr z))
  refine wpAny_comprehension_free (use := none) rfl fs (closure_ok cells) ok.kind (fun y hy e => by rw [ok.uniq y hy, e]) (thn (hi.run pins s σ H _ I h) fun _ _ z1 => thn z1 fun _ t2 z2 => ?_)
  obtain ⟨a, fp, tn, J, G2, rfl, I2, T, st2, f2, q⟩ := z2
  refine PpSet.newSet_ok (newEnv_comp ?_)
  obtain ⟨D, eD⟩ : ∃ D, D = t2.heap.objs.size := ⟨_, rfl⟩
  rw [← eD]
  obtain ⟨W, ⟨m0, w0⟩, turn⟩ := q D (I2.hok.fresh (Nat.le_of_eq eD.symm))
  obtain ⟨t3, e3⟩ : ∃ t3 : Shared, t3 = { t2 with heap := t2.heap.push (set0 X.w) } := ⟨_, rfl⟩
  have hp3 : t3.heap = t2.heap.push (set0 X.w) := by rw [e3]
  have I3 : Inv X pins σ (upd G2 D (SetO X.w D (fun _ => false) 0)) t3 := by
    rw [e3]
    refine I2.laid (t' := t2.toks) (fun _ _ z => Heap.get?_push_of_some _ z) (Nat.le_of_eq eD.symm) ?_
    rw [eD]
    exact setO_new (setR_fresh X.w)
  have low : ∀ b ∈ fp, b < t2.heap.objs.size := fun b hb => (T.obj _ _ st2 b hb).elim fun _ z => Heap.lt_size z.1
  have f3 : ∀ b ∈ fp, FpOk X pins (upd G2 D (SetO X.w D (fun _ => false) 0)) b ∧ b < t3.heap.objs.size := fun b hb =>
    ⟨⟨by rw [upd_ne (by rw [eD]; exact Nat.ne_of_lt (low b hb))]; exact (f2 b hb).1, (f2 b hb).2⟩, by rw [hp3, Heap.size_push]; exact Nat.lt_succ_of_lt (low b hb)⟩
  have st3 : tn 0 t3.heap := T.keep _ _ _ st2 fun _ _ _ z => by rw [hp3]; exact Heap.get?_push_of_some _ z
  have I4 := block_start I3 ok nd f3
  generalize hG3 : upd G2 D (SetO X.w D (fun _ => false) 0) = G3 at *
  obtain ⟨C, eC⟩ : ∃ C, C = t3.heap.objs.size := ⟨_, rfl⟩
  obtain ⟨ce, ece⟩ : ∃ ce, ce = compEnvC sc (cellsFrom (t3.heap.objs.size + 1) sc.names (cloFrom X.env.cells sc.names [])) t3.heap.objs.size X.env := ⟨_, rfl⟩
  have pg := hg t3 G3 t3.heap.objs.size (cellsFrom (t3.heap.objs.size + 1) sc.names (cloFrom X.env.cells sc.names [])) fp
  have pt := ht t3 G3 t3.heap.objs.size (cellsFrom (t3.heap.objs.size + 1) sc.names (cloFrom X.env.cells sc.names [])) fp
  have pe := he t3 G3 t3.heap.objs.size (cellsFrom (t3.heap.objs.size + 1) sc.names (cloFrom X.env.cells sc.names [])) fp
  rw [← ece] at pg pt pe I4
  have loc : ce.locals = C := by rw [ece, eC]; rfl
  obtain ⟨t4, e4⟩ : ∃ t4 : Shared, t4 = { t3 with heap := pushCells (t3.heap.push { cls := .type "dict", data := .dict #[] }) sc.names } := ⟨_, rfl⟩
  rw [← e4] at I4
  have st4 : tn 0 t4.heap := T.keep _ _ _ st3 fun _ _ _ z => by rw [e4]; exact pushCells_keeps _ _ _ _ (Heap.get?_push_of_some _ z)
  have nfp : ∀ b ∈ fp, G3 b = none := fun b hb => (f3 b hb).1.1
  have still : ∀ {σ' : L2.St} {G : Hp} {t : Shared}, Inv (X.blk t3 G3 sc ce fp) [] σ' G t → (∀ b ∈ fp, G b = none) → ∀ b ∈ fp, FpOk (X.blk t3 G3 sc ce fp) [] G b := fun {σ' G t} K hn b hb =>
    ⟨hn b hb, (K.ok.exf b hb).1, K.ok.exfs b hb, .inl hb, fun x c z => (K.ok.exf b hb).2 x c z, fun p hp => absurd (show p ∈ ([] : List (Addr × Obj)) ++ [] from hp) (by simp)⟩
  have loop : codeAny (model X.prog X.w) X.A (.compLoop (.SetComp el [⟨tg, it, ifs, 0⟩] sc pos) 0 (.ref a) (.ref D) ce) (compPost (model X.prog X.w) X.A X.xe none (EP X pins σ Q) (.ref D) C) t4 := by
    refine PpSet.compLoopS_any (fun n t => ∃ i G, Inv (X.blk t3 G3 sc ce fp) [] (wipe σ (own.map (·.2))) G t ∧ tn i t.heap ∧ (∀ b ∈ fp, G b = none) ∧ W i n G) ?_ m0 ⟨0, G3, I4, st4, nfp, w0⟩
    rintro n t5 ⟨i, G5, I5, st5, n5, w5⟩
    rcases turn i n G5 w5 with ⟨stop, qq⟩ | ⟨go, N, hN, step⟩
    · refine thnF (T.done (X.blk t3 G3 sc ce fp) rfl rfl rfl hc i [] t5 _ G5 (fun _ _ => False) I5 (still I5 n5) st5 stop) fun r t6 z => ?_
      obtain ⟨rfl, I6⟩ := z
      have I7 : Inv X pins σ G5 t6 := I3.call' (ch := fp) I6.os I6.base I6.hok I6.bare fun b hb => ⟨(f3 b hb).1.2.2.2.1, (f3 b hb).1.2.1, (f3 b hb).1.2.2.2.2.1, (f3 b hb).1.2.2.2.2.2⟩
      have nC : G5 C = none := by rw [← loc]; exact I6.free
      obtain ⟨m, ns, _⟩ := I6.loc
      replace ns : t6.heap.Ns C m := by rw [← loc]; exact ns
      obtain ⟨p0, p1, _, p3, p4, p5⟩ := I3.fpOk (Nat.le_of_eq eC.symm) nC
      exact ⟨m, ns, fun _ sb => ⟨.ref D, G5, I7.turned (t' := t6.toks) (fun b _ hb z => (sb.2 b hb).trans z) p0 p1 p3 p4 p5, rfl, qq⟩⟩
    · refine thnF (T.item (X.blk t3 G3 sc ce fp) rfl rfl rfl hc i [] t5 _ G5 (fun _ _ => False) I5 (still I5 n5) st5 go) fun r t6 z => ?_
      obtain ⟨u, rfl, z⟩ := z
      refine thnF z fun _ t7 ⟨x, G7, I7, r7, y7, st7, n7⟩ => ?_
      refine thnF (pg.run _ t7 _ G7 x u _ (I7.pinned (still I7 n7) (T.obj _ _ st7)) r7 (step x G7 y7)) fun _ t8 ⟨σ8, G8, I8, w8, q8⟩ => ?_
      refine thnF (pt.run _ t8 σ8 G8 _ I8 q8) fun b t9 ⟨G9, I9, q9⟩ => ?_
      have again : ∀ {t : Shared} {G : Hp}, Inv (X.blk t3 G3 sc ce fp) ([] ++ pinsAt fp t7.heap) σ8 G t → N G → ∃ m, m < n ∧ ∃ i G, Inv (X.blk t3 G3 sc ce fp) [] (wipe σ (own.map (·.2))) G t ∧ tn i t.heap ∧ (∀ b ∈ fp, G b = none) ∧ W i m G := fun {t G} K nx => by
        obtain ⟨m', lt, w'⟩ := hN G nx
        have pin : ∀ b ∈ fp, ∀ o, t7.heap.get? b = some o → t.heap.get? b = some o ∧ G b = none := fun b hb o z => by
          have y := K.pin (b, o) (List.mem_append_right _ (List.mem_append_right _ (mem_pinsAt hb z)))
          exact ⟨y.1, y.2.1⟩
        have len : (wipe σ (own.map (·.2))).length = σ8.length := by rw [← w8, wipe_length]
        exact ⟨m', lt, i + 1, G, (K.unpinned (pins := [])).weak len (fun _ _ z => by rw [← w8] at z; exact (wipe_some z).1), T.keep _ _ _ st7 fun b hb o z => (pin b hb o z).1, fun b hb => (T.obj _ _ st7 b hb).elim fun o z => (pin b hb o z.1).2, w'⟩
      cases b with
      | false => exact again I9 q9
      | true =>
        refine thnF (pe.run _ t9 σ8 G9 _ I9 q9) fun v t10 ⟨yv, G10, I10, r10, z⟩ => ?_
        obtain ⟨c, S, k, rfl, hD, room, nx⟩ := z
        exact addI_ok (X := X.blk t3 G3 sc ce fp) I10 hD room r10 fun t11 I11 => again I11 nx
  have start := PpSet.codeAny_compStart_set loop (T.self X.A 0 _ _ _ st4 loop)
  rw [ece, e4, e3] at start
  rw [eC, e3] at start
  exact start
end
end Ov
namespace Ov
open PySem PySem.Spec PyProof.Rows L2
end Ov
namespace Ov
open PySem PySem.Spec PyProof.Rows L2 HT
end Ov
namespace Ov
open PySem PySem.Spec PyProof.Rows L2 HT
end Ov
namespace Ov
open PySem PySem.Spec PyProof.Rows L2
end Ov
namespace Ov
open PySem PySem.Spec PyProof.Rows L2
end Ov
namespace Ov
open PySem PySem.Spec PyProof.Rows L2
def txt (l : List Nat) : Str := ⟨l.toArray⟩
theorem txt_inj {a b : List Nat} (h : txt a = txt b) : a = b := by
  have : a.toArray = b.toArray := congrArg Str.cps h
  simpa using congrArg Array.toList this
theorem txt_len (l : List Nat) : (txt l).length = l.length := by
  show l.toArray.size = _
  simp
section
variable {X : Cx}
/-- list(range(n)) -/
theorem pe_listRange {a : Expr} {ta : TE} {p p2 q pos : Pos} (hg : Gl X "list") (hm : X.mg "list" = none) (hg2 : Gl X "range") (hm2 : X.mg "range" = none) (ha : PE X a ta) (hc : X.calm = true := by rfl)
    (na : starEach [a] X.env = (false, eval a X.env) :: starEach [] X.env := by rfl) :
    PE X (.Call (.Name "list" p) [.Call (.Name "range" p2) [a] [] q] [] pos) (fun σ H Q => ta σ H fun x H1 => ∃ n : Nat, x = .int (n : Int) ∧ n ≤ 100000 ∧ ∀ l, H1 l = none → Q (.ref l) (upd H1 l (.lst ((List.range n).map fun i : Nat => V.int (i : Int))))) := by
  constructor
  intro pins s σ H Q I h
  have bl : bootBuiltins "list" = some (.type "list") := by decide +kernel
  refine Call_ (ld_blt I hg hm bl (PyProof.Rows.callWith_type1 (PyProof.Rows.args_cons ?_ rfl) rfl rfl))
  refine Call_ (ld_blt I hg2 hm2 boot_range (PyProof.Rows.callWith_type1 (PyProof.Rows.args_cons (thn (ha.run pins s σ H _ I h) ?_) na) na rfl))
  rintro v s1 ⟨x, H1, I1, r1, n, rfl, hn, q1⟩
  obtain ⟨t, rfl⟩ := r1
  refine PyProof.Rows.args_nil (call_range_1 (PyProof.Rows.args_nil ?_))
  have hsmall : Builtin.Range.small 0 (n : Int) 1 = true := small_one (by omega) (by omega) (by omega) (by omega)
  refine call_list_range (n := n) (I1.ok.hd hc) (Heap.get?_push_size _ rfl) hsmall ?_ (by omega) ?_
  · rw [rangeSize_nat]
    simp
  · intro h' tk acc c kp hat hit
    have vals : Vals ((List.range n).map fun i : Nat => V.int (i : Int)) acc.toList := by
      obtain ⟨hz, hv⟩ := hit
      have key : ∀ (l : List Value) (k : Nat), (∀ j v, l[j]? = some v → ∃ t, v = Value.int (0 + ((k + j : Nat) : Int) * 1) t) → Vals ((List.range' k l.length).map fun i : Nat => V.int (i : Int)) l := by
        intro l
        induction l with
        | nil => intro k _; exact .nil
        | cons v l ih =>
          intro k hk
          rw [List.length_cons, List.range'_succ, List.map_cons]
          refine .cons ?_ (ih (k + 1) fun j w hj => ?_)
          · obtain ⟨t, e⟩ := hk 0 v rfl
            exact ⟨t, by rw [e, show (0 + ((k + 0 : Nat) : Int) * 1) = (k : Int) by omega]⟩
          · obtain ⟨t, e⟩ := hk (j + 1) w hj
            exact ⟨t, by rw [e, show (0 + ((k + (j + 1) : Nat) : Int) * 1) = (0 + ((k + 1 + j : Nat) : Int) * 1) by omega]⟩
      have := key acc.toList 0 (fun j v hj => by
        obtain ⟨t, e⟩ := hv j v (by simpa using hj)
        exact ⟨t, by rw [e, show (0 + ((0 + j : Nat) : Int) * 1) = (0 + ((j : Nat) : Int) * 1) by omega]⟩)
      rw [Array.length_toList, hz, ← List.range_eq_range'] at this
      exact this
    have old : ∀ b o, s1.heap.get? b = some o → h'.get? b = some o := fun b o e => kp b o (Heap.get?_push_of_some _ e)
    have ez : ∀ (o : Obj), (s1.heap.push o).objs.size = s1.heap.objs.size + 1 := fun o => Heap.size_push _ _
    rw [ez] at hat ⊢
    have fit : ((List.range n).map fun i : Nat => V.int (i : Int)).length ≤ sizeLine := by
      rw [List.length_map, List.length_range, sizeLine_eq]
      omega
    exact ⟨.ref _, upd H1 (s1.heap.objs.size + 1) (.lst _), I1.laid (t' := tk) old (Nat.le_succ _) ⟨fit, acc.toList, c, vals, hat⟩, rfl, q1 _ (I1.hok.fresh (Nat.le_succ _))⟩
end
end Ov
namespace Ov
open PySem PySem.Spec PyProof.Rows L2
/-- the empty set as it is made -/
abbrev noText (led : Bool) : Obj := { cls := .type "set", dict := none, data := .set #[] 0 (.fresh 0 0 led) }
section
variable {prog : Program} {w : World} {A : Around} {R : Result → Shared → Prop} {it : Addr} {fp wr : List Addr} {G : Array GenState → Array GenState → Prop} {n : Nat} {P : Nat → Value → Prop} {St : Nat → Shared → Prop}
theorem has_next {xs : List Str} (nd : xs.Nodup) {i : Nat} (hi : i < xs.length) : (xs.take i).any (· == xs[i]) = false := by
  rw [List.any_eq_false]
  intro y hy e
  have ey : y = xs[i] := eq_of_beq e
  obtain ⟨j, hj, ej⟩ := List.mem_take_iff_getElem.mp hy
  have hlt : j < i := by omega
  exact (List.pairwise_iff_getElem.mp nd j i (by omega) hi hlt) (ej.trans ey)
/-- texts put into it, one behind another -/
theorem texts_in (W : WalksS prog w A.in1 it fp wr G n P St) (S : Addr) (out : S ∉ fp) {xs : List Str} (len : xs.length = n) (nd : xs.Nodup) (few : n + 1 < scanBound)
    (val : ∀ (i : Nat) (hi : i < xs.length) (v : Value), P i v → ∃ t, v = .str xs[i] t) :
    ∀ (left i : Nat) (s : Shared), i + left = n → St i s → s.heap.SetOf (PySem.strKind prog w) S (fun k => (xs.take i).any (· == k)) i →
      (∀ s', Moved (S :: wr) G s s' → s'.heap.SetOf (PySem.strKind prog w) S (fun k => xs.any (· == k)) n → R (.ok (.ret .none)) s') →
      codeAny (model prog w) A (.builtin "set.update.loop" ⟨[.ref S, .ref it], []⟩) R s := by
  have outw : S ∉ wr := fun z => out (W.sub _ z)
  have wide : ∀ b ∈ wr, b ∈ S :: wr := fun b z => List.mem_cons_of_mem _ z
  have carry : ∀ {s s' : Shared} {f : Str → Bool} {c : Nat}, Moved wr G s s' → s.heap.SetOf (PySem.strKind prog w) S f c → s'.heap.SetOf (PySem.strKind prog w) S f c := by
    rintro s s' f c mv ⟨o, es, ep, t, ho, more⟩
    exact ⟨o, es, ep, t, mv.heap S _ outw ho, more⟩
  intro left
  induction left with
  | zero =>
    intro i s e st hS fin
    obtain rfl : i = n := by omega
    refine codeAny_builtin PyProof.Rows.F.entry_set_update_loop ?_
    rw [Around.under_plainId PyProof.Rows.F.plain_set_update_loop _]
    refine wpAny_bind (W.done s _ _ st fun s' mv => wpAny_pure (fin s' (mv.mono wide) ?_))
    have := carry mv hS
    rwa [← len, List.take_length, len] at this
  | succ left ih =>
    intro i s e st hS fin
    have hi : i < xs.length := by omega
    refine codeAny_builtin PyProof.Rows.F.entry_set_update_loop ?_
    rw [Around.under_plainId PyProof.Rows.F.plain_set_update_loop _]
    refine wpAny_bind (W.item i s _ _ (by omega) st ?_)
    intro v s' pv st' mv
    obtain ⟨t, rfl⟩ := val i hi v pv
    refine wpAny_bind (wpAny_holding ?_)
    unfold setAdd
    refine wpAny_holding (wpAny_bind ((PySem.strKind prog w).pyHash (k := xs[i]) (strKind_is _ _ _ _) ?_))
    have held := carry mv hS
    refine wpAny_setAddHashed_of (knd := PySem.strKind prog w) (s := { s' with toks := s'.toks + 1 }) (strKind_is _ _ _ _) rfl held (by omega) ?_
    intro h' but hS2
    rw [has_next nd hi] at hS2
    have grown : h'.SetOf (PySem.strKind prog w) S (fun k => (xs.take (i + 1)).any (· == k)) (i + 1) := by
      refine SetOf_congr hS2 (fun k => ?_) rfl
      rw [List.take_add_one, List.getElem?_eq_getElem hi, List.any_append]
      congr 1
      show decide (k = xs[i]) = ([xs[i]].any (· == k))
      by_cases z : k = xs[i]
      · subst z; simp
      · have : (xs[i] == k) = false := beq_eq_false_iff_ne.mpr fun y => z y.symm
        simp [z, this]
    refine wpAny_pure ⟨plainId_quiet PyProof.Rows.F.plain_set_update_loop _, ih (i + 1) _ (by omega) (W.frame _ s' _ _ st' (Nat.le_succ _) ?_) grown ?_⟩
    · intro b hb o eb
      rw [but.2 b fun z => out (z ▸ hb)]
      exact eb
    · intro s'' mv'' hS''
      refine fin s'' (Moved.trans W.gtrans ((mv.mono wide).then_heap (Nat.le_succ _) ?_) mv'') hS''
      intro b o hb eb
      rw [but.2 b fun z => hb (z ▸ List.mem_cons_self)]
      exact eb
end
section
variable {prog : Program} {w : World} {A : Around} {E : Value → Shared → Prop} {s : Shared}
theorem set_texts {l : Addr} {items : Array Value} {xs : List Str} {Q : Value → Shared → Prop} (hh : A.handled = none) (hl : s.heap.IsList l items) (hi : StrsAre items.toList xs) (nd : xs.Nodup) (few : xs.length + 1 < scanBound)
    (h : ∀ (h' : Heap) (tk : Nat), h'.SetOf (PySem.strKind prog w) s.heap.objs.size (fun k => xs.any (· == k)) xs.length → (∀ b o, b < s.heap.objs.size → s.heap.get? b = some o → h'.get? b = some o) → Q (.ref s.heap.objs.size) { s with heap := h', toks := tk }) :
    wpAny (model prog w) A (call (.type "set") [.ref l]) Q E s := by
  obtain ⟨c, tl, hmro⟩ := PySem.F.called_set.mro
  have q1 := PySem.F.called_set.made
  have q2 := PySem.F.called_set.sub
  have q3 := PySem.F.called_set.notType
  have q4 := PySem.F.called_set.canCreate
  have q5 := PySem.F.typeCall_set_1 (.ref l)
  refine wpAny_call (codeAny_of_tree ?_)
  show wpAny _ _ (callAny (.type "set") _) _ _ _
  refine wpAny_pure ⟨Code.quiet_builtin _ (by decide +kernel), codeAny_builtin PySem.F.entry_type_call ?_⟩
  rw [Around.under_plain (weight_type_call_type "set" [.ref l] []) rfl]
  repeat (any_goals (first | assumption | wp_step))
  refine codeAny_mono (code_set_new_1 (.ref l) (E := E) (Q₁ := fun obj s₁ => ∃ led : Bool, obj = .ref s.heap.objs.size ∧ s₁ = { s with heap := s.heap.push (noText led) }) fun led => ⟨led, rfl, rfl⟩) ?_
  intro r s₁ hr
  match r, hr with
  | .error e, hr => exact hr
  | .ok .next, hr => exact hr.elim
  | .ok .brk, hr => exact hr.elim
  | .ok .cont, hr => exact hr.elim
  | .ok (.ret obj), ⟨led, e1, e2⟩ =>
    subst e1 e2
    have at_ : (s.heap.push (noText led)).get? s.heap.objs.size = some (noText led) := Heap.get?_push_size _ rfl
    have ty : Shared.TypeIs { s with heap := s.heap.push (noText led) } (.ref s.heap.objs.size) "set" := ⟨_, at_, rfl⟩
    have q6 := PySem.F.called_set.init.lookup
    have q7 := PySem.F.called_set.init.bind (.ref s.heap.objs.size)
    repeat (any_goals (first | assumption | wp_step))
    refine codeAny_mono (codeAny_call_builtin (R := wants (fun r s₂ => r = .none ∧ ∃ h' tk, s₂ = { s with heap := h', toks := tk } ∧ h'.SetOf (PySem.strKind prog w) s.heap.objs.size (fun k => xs.any (· == k)) xs.length ∧
        (∀ b o, b < s.heap.objs.size → s.heap.get? b = some o → h'.get? b = some o)) E) PySem.F.called_set.init.plain PySem.F.entry_set_init (check_set_init_1 ty ?_)) ?_
    · obtain ⟨⟨cl, dc, dt, sl⟩, hol, hcl, nl, hdl⟩ := hl
      dsimp only at hcl hdl
      subst hcl hdl
      have below := Heap.lt_size hol
      have hol' : (s.heap.push (noText led)).get? l = some { cls := .type "list", dict := dc, data := .seq items nl, slots := sl } := Heap.get?_push_of_some _ hol
      have hl1 : (s.heap.push (noText led)).IsList l items := ⟨_, hol', rfl, nl, rfl⟩
      have q8 := PySem.F.sub_list_set
      have q9 := PySem.F.sub_list_frozenset
      have q0 : (Value.type "list" == Value.type "dict") = false := by decide
      unfold Builtin.«set.__init__» noKeywords Builtin.Frozenset.updateFrom
      generalize hPI : pyIter = PI
      wp_walk
      subst hPI
      have sz : (s.heap.push (noText led)).objs.size = s.heap.objs.size + 1 := Heap.size_push _ _
      have calm3 : A.in1.in1.in1.handled = none := by simp [hh]
      have apart : l ≠ (s.heap.push (noText led)).objs.size := by rw [sz]; exact Nat.ne_of_lt (Nat.lt_succ_of_lt below)
      have far : s.heap.objs.size ∉ [(s.heap.push (noText led)).objs.size, l] := by
        rw [sz]
        simp only [List.mem_cons, List.not_mem_nil, or_false, not_or]
        exact ⟨Nat.ne_of_lt (Nat.lt_succ_self _), Nat.ne_of_gt below⟩
      have len : xs.length = items.size := by rw [← StrsAre.len_eq hi, Array.length_toList]
      refine wpAny_pyIter_list hl1 (wpAny_bind (wpAny_runValue ?_))
      refine texts_in ((Walks.list calm3 _ l apart items).toS) s.heap.objs.size far len nd (by rw [← len]; exact few) (fun i hlt v hv => ?_) items.size 0 _ (by omega) ⟨⟨_, Heap.get?_push_size _ rfl, rfl, rfl⟩, hl1.push _⟩ ?_ ?_
      · obtain ⟨t, e⟩ := SS.strs_at hi i v (by rw [Array.getElem?_toList]; exact hv)
        refine ⟨t, ?_⟩
        rw [e, List.getD_eq_getElem?_getD, List.getElem?_eq_getElem hlt]
        rfl
      · exact SetOf_congr ((setObjOf_fresh (knd := PySem.strKind prog w) led).setOf (Heap.get?_push_of_some _ at_) (by unfold scanBound; omega)) (fun _ => rfl) rfl
      · rintro ⟨h', g', d', tk', os'⟩ mv hS'
        have eg : g' = s.gens := mv.gens
        have ed : d' = s.drawn := mv.drawn
        have eo : os' = s.os := mv.os
        subst eg ed eo
        refine wpAny_pure (wpAny_pure ⟨rfl, h', tk', rfl, by rw [len]; exact hS', ?_⟩)
        intro b o hb eb
        refine mv.heap b o ?_ (Heap.get?_push_of_some _ (Heap.get?_push_of_some _ eb))
        rw [sz]
        simp only [List.mem_cons, List.not_mem_nil, or_false, not_or]
        exact ⟨Nat.ne_of_lt hb, Nat.ne_of_lt (Nat.lt_succ_of_lt hb)⟩
    · intro r₂ s₂ hr₂
      match r₂, hr₂ with
      | .error e, hr₂ => exact hr₂
      | .ok .next, hr₂ => exact hr₂.elim
      | .ok .brk, hr₂ => exact hr₂.elim
      | .ok .cont, hr₂ => exact hr₂.elim
      | .ok (.ret r), ⟨e1, h', tk, e2, hS', kp⟩ =>
        subst e1 e2
        repeat (any_goals (first | assumption | wp_step))
        exact h _ _ hS' kp
end
section
variable {X : Cx}
/-- len(set(xs)), xs a list of unlike texts -/
theorem pe_lenSetT {a : Expr} {ta : TE} {p p2 q pos : Pos} (hc : X.calm = true) (hg : Gl X "len") (hm : X.mg "len" = none) (hg2 : Gl X "set") (hm2 : X.mg "set" = none) (ha : PE X a ta)
    (na : starEach [a] X.env = (false, eval a X.env) :: starEach [] X.env := by rfl) :
    PE X (.Call (.Name "len" p) [.Call (.Name "set" p2) [a] [] q] [] pos) (fun σ H Q => ta σ H fun x H1 => ∃ (l : Addr) (xs : List Str), x = .ref l ∧ SqL X.K H1 l (xs.map V.str) ∧ xs.Nodup ∧ xs.length ≤ 4000 ∧ Q (.int (xs.length : Int)) H1) := by
  constructor
  intro pins s σ H Q I h
  refine Call_ (ld_blt I hg hm boot_len (PyProof.Rows.callWith_builtin1 (PyProof.Rows.args_cons ?_ rfl) rfl rfl))
  refine Call_ (ld_blt I hg2 hm2 boot_set (PyProof.Rows.callWith_type1 (PyProof.Rows.args_cons (thn (ha.run pins s σ H _ I h) ?_) na) na rfl))
  rintro v s1 ⟨x, H1, I1, r1, l, xs, rfl, hq, nd, few, q1⟩
  cases r1
  refine PyProof.Rows.args_nil ?_
  obtain ⟨its, r, pl, hz⟩ := I1.list hq
  refine set_texts (I1.ok.hd hc) pl.isList (by simpa using strsAre_of r) nd (by unfold scanBound; omega) ?_
  intro h' tk hS kp
  refine PyProof.Rows.args_nil ?_
  obtain ⟨o, es, ep, t, ho, hex, hd, _, _, _, hf, hn⟩ := hS
  have I2 : Inv X pins σ H1 { s1 with heap := h', toks := tk } := I1.kept fun b o e => kp b o (Heap.lt_size e) e
  exact call_len_set ho hex hd hf (by rw [hn]; omega) ⟨.int xs.length, H1, I2.tok _, ⟨_, by rw [hn]⟩, q1⟩
end
end Ov
namespace Ov
open PySem PySem.Spec PyProof.Rows L2
end Ov
namespace Ov
/-- a sum of the lengths -/
inductive Sum (ls : List Nat) : Nat → Prop
  | zero : Sum ls 0
  | add {l s : Nat} : l ∈ ls → Sum ls s → Sum ls (s + l)
theorem Sum.mono {ls ks : List Nat} (h : ∀ l ∈ ls, l ∈ ks) {s : Nat} (a : Sum ls s) : Sum ks s := by
  induction a with
  | zero => exact .zero
  | add hl _ ih => exact .add (h _ hl) ih
theorem Sum.plus {ls : List Nat} {s t : Nat} (a : Sum ls s) (b : Sum ls t) : Sum ls (s + t) := by
  induction b with
  | zero => exact a
  | add hl _ ih => rw [← Nat.add_assoc]; exact .add hl ih
theorem Sum.times {ls : List Nat} {l : Nat} (h : l ∈ ls) : ∀ (j : Nat), Sum ls (j * l)
  | 0 => by rw [Nat.zero_mul]; exact .zero
  | j + 1 => by rw [Nat.succ_mul]; exact .add h (Sum.times h j)
theorem Sum.step {ls : List Nat} {w : Nat} : Sum ls w ↔ w = 0 ∨ ∃ l ∈ ls, l ≤ w ∧ Sum ls (w - l) := by
  constructor
  · intro a
    cases a with
    | zero => exact .inl rfl
    | @add l s hl hs => exact .inr ⟨l, hl, Nat.le_add_left _ _, by rw [Nat.add_sub_cancel]; exact hs⟩
  · rintro (rfl | ⟨l, hl, hw, hs⟩)
    · exact .zero
    · have := Sum.add hl hs
      rwa [Nat.sub_add_cancel hw] at this
/-- one more length: a sum of the others and so many of it -/
theorem Sum.snoc {ls : List Nat} {L s : Nat} : Sum (ls ++ [L]) s ↔ ∃ j t, Sum ls t ∧ s = t + j * L := by
  constructor
  · intro a
    induction a with
    | zero => exact ⟨0, 0, .zero, by simp⟩
    | @add l s hl _ ih =>
      obtain ⟨j, t, ht, rfl⟩ := ih
      rcases List.mem_append.mp hl with h | h
      · exact ⟨j, t + l, .add h ht, by omega⟩
      · have : l = L := by simpa using h
        subst this
        exact ⟨j + 1, t, ht, by rw [Nat.succ_mul]; omega⟩
  · rintro ⟨j, t, ht, rfl⟩
    exact (ht.mono fun l h => List.mem_append_left _ h).plus (Sum.times (List.mem_append_right _ (List.mem_singleton.mpr rfl)) j)
theorem Sum.single {m s : Nat} : Sum [m] s ↔ ∃ j, s = j * m := by
  have := @Sum.snoc [] m s
  rw [List.nil_append] at this
  rw [this]
  constructor
  · rintro ⟨j, t, ht, rfl⟩
    have : t = 0 := by
      cases ht with
      | zero => rfl
      | add h _ => cases h
    exact ⟨j, by omega⟩
  · rintro ⟨j, rfl⟩
    exact ⟨j, 0, .zero, by omega⟩
/-- a is at most b, where none is above all -/
def leO (a b : Option Nat) : Prop := ∀ y, b = some y → ∃ x, a = some x ∧ x ≤ y
theorem leO.rfl {a : Option Nat} : leO a a := fun y h => ⟨y, h, Nat.le_refl _⟩
theorem leO.trans {a b c : Option Nat} (h : leO a b) (k : leO b c) : leO a c := fun z hz => by
  obtain ⟨y, hy, hyz⟩ := k z hz
  obtain ⟨x, hx, hxy⟩ := h y hy
  exact ⟨x, hx, Nat.le_trans hxy hyz⟩
def leL (a b : List (Option Nat)) : Prop := a.length = b.length ∧ ∀ r, leO (a.getD r none) (b.getD r none)
theorem leL.rfl {a : List (Option Nat)} : leL a a := ⟨_root_.rfl, fun _ => leO.rfl⟩
theorem leL.trans {a b c : List (Option Nat)} (h : leL a b) (k : leL b c) : leL a c := ⟨h.1.trans k.1, fun r => (h.2 r).trans (k.2 r)⟩
/-- one step of the walk: what is reached at r, and the length, at the remainder that follows -/
def relax (L r f : Nat) (a : List (Option Nat)) : List (Option Nat) :=
  match a.getD r none with
  | none => a
  | some x => match a.getD f none with
    | none => a.set f (some (x + L))
    | some y => if x + L < y then a.set f (some (x + L)) else a
theorem getD_set {α : Type} (a : List α) (f r : Nat) (v d : α) : (a.set f v).getD r d = if f = r ∧ r < a.length then v else a.getD r d := by
  simp only [List.getD_eq_getElem?_getD, List.getElem?_set]
  by_cases h : f = r
  · subst h
    by_cases h2 : f < a.length
    · simp [h2]
    · simp [h2, List.getElem?_eq_none (Nat.le_of_not_lt h2)]
  · simp [h]
theorem relax_len (L r f : Nat) (a : List (Option Nat)) : (relax L r f a).length = a.length := by
  unfold relax
  split
  · rfl
  · split
    · simp
    · split <;> simp
theorem relax_le (L r f : Nat) (a : List (Option Nat)) : leL (relax L r f a) a := by
  refine ⟨relax_len .., fun q => ?_⟩
  unfold relax
  split
  · exact leO.rfl
  · rename_i x _
    split
    · rename_i hf
      rw [getD_set]
      by_cases c : f = q ∧ q < a.length
      · rw [if_pos c, ← c.1, hf]
        intro y h; cases h
      · rw [if_neg c]; exact leO.rfl
    · rename_i y hf
      split
      · rename_i hlt
        rw [getD_set]
        by_cases c : f = q ∧ q < a.length
        · rw [if_pos c, ← c.1, hf]
          intro z h
          cases h
          exact ⟨_, rfl, Nat.le_of_lt hlt⟩
        · rw [if_neg c]; exact leO.rfl
      · exact leO.rfl
theorem relax_at (L r f : Nat) (a : List (Option Nat)) (hf : f < a.length) : leO ((relax L r f a).getD f none) ((a.getD r none).map (· + L)) := by
  unfold relax
  split
  · rename_i h
    rw [h]
    intro y h; cases h
  · rename_i x h
    rw [h]
    split
    · rw [getD_set, if_pos ⟨rfl, hf⟩]
      exact leO.rfl
    · rename_i y hy
      split
      · rw [getD_set, if_pos ⟨rfl, hf⟩]
        exact leO.rfl
      · rename_i hn
        rw [hy]
        intro z hz
        have : x + L = z := Option.some.inj hz
        exact ⟨y, rfl, by omega⟩
/-- every entry is of S and has its remainder -/
def Sound (S : Nat → Prop) (m : Nat) (a : List (Option Nat)) : Prop := ∀ r x, a.getD r none = some x → S x ∧ x % m = r
theorem relax_sound {S : Nat → Prop} {m L r : Nat} {a : List (Option Nat)} (hS : ∀ x, S x → S (x + L)) (h : Sound S m a) : Sound S m (relax L r ((r + L) % m) a) := by
  have key : ∀ x, a.getD r none = some x → S (x + L) ∧ (x + L) % m = (r + L) % m := fun x hx => by
    obtain ⟨h1, h2⟩ := h r x hx
    refine ⟨hS x h1, ?_⟩
    rw [← h2, Nat.add_mod (x % m), Nat.mod_mod, ← Nat.add_mod]
  intro q z hz
  unfold relax at hz
  split at hz
  · exact h q z hz
  · rename_i x hx
    obtain ⟨k1, k2⟩ := key x hx
    split at hz
    · rw [getD_set] at hz
      by_cases c : (r + L) % m = q ∧ q < a.length
      · rw [if_pos c] at hz
        cases hz
        exact ⟨k1, k2.trans c.1⟩
      · rw [if_neg c] at hz; exact h q z hz
    · split at hz
      · rw [getD_set] at hz
        by_cases c : (r + L) % m = q ∧ q < a.length
        · rw [if_pos c] at hz
          cases hz
          exact ⟨k1, k2.trans c.1⟩
        · rw [if_neg c] at hz; exact h q z hz
      · exact h q z hz
/-- so many steps from r on: the list, and where the walk stands -/
def steps (L m : Nat) : Nat → Nat → List (Option Nat) → List (Option Nat) × Nat
  | 0, r, a => (a, r)
  | t + 1, r, a => let q := steps L m t r a; (relax L q.2 ((q.2 + L) % m) q.1, (q.2 + L) % m)
theorem steps_at (L m : Nat) (r : Nat) (a : List (Option Nat)) (hr : r < m) : ∀ t, (steps L m t r a).2 = (r + t * L) % m
  | 0 => by simp [steps, Nat.mod_eq_of_lt hr]
  | t + 1 => by
    show ((steps L m t r a).2 + L) % m = _
    rw [steps_at L m r a hr t, Nat.add_mod ((r + t * L) % m), Nat.mod_mod, ← Nat.add_mod, Nat.succ_mul, Nat.add_assoc]
theorem steps_le (L m : Nat) (r : Nat) (a : List (Option Nat)) : ∀ t, leL (steps L m t r a).1 a
  | 0 => leL.rfl
  | t + 1 => (relax_le ..).trans (steps_le L m r a t)
theorem steps_le' (L m : Nat) (r : Nat) (a : List (Option Nat)) (t : Nat) : ∀ d, leL (steps L m (t + d) r a).1 (steps L m t r a).1
  | 0 => leL.rfl
  | d + 1 => (relax_le ..).trans (steps_le' L m r a t d)
theorem steps_sound {S : Nat → Prop} {m L : Nat} {r : Nat} {a : List (Option Nat)} (hS : ∀ x, S x → S (x + L)) (h : Sound S m a) : ∀ t, Sound S m (steps L m t r a).1
  | 0 => h
  | t + 1 => relax_sound hS (steps_sound hS h t)
/-- what stands at the p-th place goes j steps on -/
theorem steps_far {L m : Nat} {r : Nat} {a : List (Option Nat)} (hm : 0 < m) (hl : a.length = m) (hr : r < m) (p : Nat) {y : Nat} (hy : a.getD ((r + p * L) % m) none = some y) :
    ∀ j, ∃ x, ((steps L m (p + j) r a).1).getD ((r + (p + j) * L) % m) none = some x ∧ x ≤ y + j * L
  | 0 => by
    obtain ⟨x, hx, hxy⟩ := (steps_le L m r a p).2 _ y hy
    exact ⟨x, hx, by omega⟩
  | j + 1 => by
    obtain ⟨x, hx, hxy⟩ := steps_far hm hl hr p hy j
    have hp := steps_at L m r a hr (p + j)
    have hlen : (steps L m (p + j) r a).1.length = m := (steps_le L m r a (p + j)).1.trans hl
    have e : (r + (p + (j + 1)) * L) % m = ((steps L m (p + j) r a).2 + L) % m := by
      rw [hp, Nat.add_mod ((r + (p + j) * L) % m), Nat.mod_mod, ← Nat.add_mod, ← Nat.add_assoc p j 1, Nat.succ_mul, Nat.add_assoc]
    rw [e]
    show ∃ x', (relax L (steps L m (p + j) r a).2 (((steps L m (p + j) r a).2 + L) % m) (steps L m (p + j) r a).1).getD _ none = some x' ∧ _
    have := relax_at L (steps L m (p + j) r a).2 (((steps L m (p + j) r a).2 + L) % m) (steps L m (p + j) r a).1 (by rw [hlen]; exact Nat.mod_lt _ hm)
    obtain ⟨x', hx', h2⟩ := this (x + L) (by rw [hp, hx]; rfl)
    exact ⟨x', hx', by rw [Nat.succ_mul]; omega⟩
theorem bezout (a b : Nat) : ∃ x y : Int, x * a + y * b = (Nat.gcd a b : Int) := by
  induction a, b using Nat.gcd.induction with
  | H0 n => exact ⟨0, 1, by simp⟩
  | H1 m n hm ih =>
    obtain ⟨x, y, h⟩ := ih
    refine ⟨y - x * ((n / m : Nat) : Int), x, ?_⟩
    rw [Nat.gcd_rec m n, ← h]
    have e : (n : Int) = (m : Int) * ((n / m : Nat) : Int) + ((n % m : Nat) : Int) := by
      have := Nat.div_add_mod n m
      exact_mod_cast this.symm
    conv => lhs; rw [e]
    rw [Int.sub_mul, Int.mul_add, Int.mul_assoc x, Int.mul_comm (m : Int) ((n / m : Nat) : Int)]
    omega
theorem bezout_mod (m L : Nat) (hm : 0 < m) : ∃ u : Nat, (u * L) % m = Nat.gcd m L % m := by
  obtain ⟨x, y, h⟩ := bezout m L
  refine ⟨(y % m).toNat, ?_⟩
  have hm' : (m : Int) ≠ 0 := by omega
  have hy : 0 ≤ y % (m : Int) := Int.emod_nonneg _ hm'
  have e : ((((y % (m : Int)).toNat * L : Nat) : Int)) % (m : Int) = ((Nat.gcd m L : Nat) : Int) % (m : Int) := by
    rw [Int.natCast_mul, Int.toNat_of_nonneg hy, ← h, Int.mul_emod, Int.emod_emod_of_dvd _ (Int.dvd_refl _), ← Int.mul_emod, Int.add_comm, Int.add_mul_emod_self_right]
  exact_mod_cast e
/-- from the class of r the walk comes by r -/
theorem comes_by (m L r : Nat) (hm : 0 < m) (hr : r < m) : ∃ p, p < m / Nat.gcd m L ∧ (r % Nat.gcd m L + p * L) % m = r := by
  obtain ⟨u, hu⟩ := bezout_mod m L hm
  have hg : 0 < Nat.gcd m L := Nat.gcd_pos_of_pos_left _ hm
  obtain ⟨c, hc⟩ := Nat.gcd_dvd_left m L
  obtain ⟨k, hk⟩ := Nat.gcd_dvd_right m L
  generalize hgg : Nat.gcd m L = g at *
  have hcd : m / g = c := by rw [hc]; exact Nat.mul_div_cancel_left _ hg
  have hcpos : 0 < c := by
    rcases Nat.eq_zero_or_pos c with h | h
    · rw [h] at hc; omega
    · exact h
  refine ⟨(u * (r / g)) % c, by rw [hcd]; exact Nat.mod_lt _ hcpos, ?_⟩
  -- ((u (r/g)) % c) L ≡ u (r/g) L
  have e1 : ((u * (r / g)) % c * L) % m = (u * (r / g) * L) % m := by
    have d := Nat.div_add_mod (u * (r / g)) c
    have : u * (r / g) * L = (u * (r / g)) % c * L + m * ((u * (r / g)) / c * k) := by
      calc u * (r / g) * L = (c * (u * (r / g) / c) + u * (r / g) % c) * L := by rw [d]
        _ = (u * (r / g)) % c * L + c * (u * (r / g) / c) * L := by rw [Nat.add_mul, Nat.add_comm]
        _ = (u * (r / g)) % c * L + m * ((u * (r / g)) / c * k) := by
          congr 1
          conv => lhs; rw [hk]
          conv => rhs; rw [hc]
          simp only [Nat.mul_comm, Nat.mul_left_comm]
    rw [this, Nat.add_mul_mod_self_left]
  have e2 : (u * (r / g) * L) % m = (g * (r / g)) % m := by
    rw [Nat.mul_right_comm, Nat.mul_mod, hu, ← Nat.mul_mod]
  rw [Nat.add_mod, e1, e2, ← Nat.add_mod, Nat.mod_add_div, Nat.mod_eq_of_lt hr]
end Ov
namespace Ov
/-- the walks from the first k places, one behind another -/
def walks (L m T : Nat) : Nat → List (Option Nat) → List (Option Nat)
  | 0, a => a
  | k + 1, a => (steps L m T k (walks L m T k a)).1
def withLen (L : Nat) (a : List (Option Nat)) : List (Option Nat) :=
  walks L a.length (2 * (a.length / Nat.gcd a.length L)) (Nat.gcd a.length L) a
theorem walks_le (L m T : Nat) (a : List (Option Nat)) : ∀ k, leL (walks L m T k a) a
  | 0 => leL.rfl
  | k + 1 => (steps_le ..).trans (walks_le L m T a k)
theorem walks_le' (L m T : Nat) (a : List (Option Nat)) (k : Nat) : ∀ d, leL (walks L m T (k + d) a) (walks L m T k a)
  | 0 => leL.rfl
  | d + 1 => (steps_le ..).trans (walks_le' L m T a k d)
theorem walks_sound {S : Nat → Prop} {m L T : Nat} {a : List (Option Nat)} (hS : ∀ x, S x → S (x + L)) (h : Sound S m a) : ∀ k, Sound S m (walks L m T k a)
  | 0 => h
  | k + 1 => steps_sound hS (walks_sound hS h k) T
theorem withLen_len (L : Nat) (a : List (Option Nat)) : (withLen L a).length = a.length := (walks_le ..).1
/-- what stands at r goes j steps on, j less than a whole round -/
theorem withLen_far {L : Nat} {a : List (Option Nat)} (hm : 0 < a.length) {r y j : Nat} (hr : r < a.length) (hy : a.getD r none = some y) (hj : j < a.length / Nat.gcd a.length L) :
    ∃ x, (withLen L a).getD ((r + j * L) % a.length) none = some x ∧ x ≤ y + j * L := by
  obtain ⟨p, hp, e⟩ := comes_by a.length L r hm hr
  have hg : 0 < Nat.gcd a.length L := Nat.gcd_pos_of_pos_left _ hm
  unfold withLen
  generalize hT : 2 * (a.length / Nat.gcd a.length L) = T
  have hk : r % Nat.gcd a.length L < Nat.gcd a.length L := Nat.mod_lt _ hg
  generalize hk0 : r % Nat.gcd a.length L = k at *
  obtain ⟨d, hd⟩ : ∃ d, Nat.gcd a.length L = (k + 1) + d := ⟨Nat.gcd a.length L - (k + 1), by omega⟩
  have hkm : k < a.length := Nat.lt_of_lt_of_le hk (Nat.le_of_dvd hm (Nat.gcd_dvd_left _ _))
  have hb : (walks L a.length T k a).length = a.length := (walks_le ..).1
  obtain ⟨y', hy', hle⟩ := (walks_le L a.length T a k).2 r y hy
  obtain ⟨x, hx, hxy⟩ := steps_far (L := L) (m := a.length) (r := k) (a := walks L a.length T k a) hm hb hkm p (y := y') (by rw [e]; exact hy') j
  have ej : (k + (p + j) * L) % a.length = (r + j * L) % a.length := by
    rw [Nat.add_mul, ← Nat.add_assoc, Nat.add_mod, e]
    conv => rhs; rw [Nat.add_mod, Nat.mod_eq_of_lt hr]
  rw [ej] at hx
  have l1 := steps_le' L a.length k (walks L a.length T k a) (p + j) (T - (p + j))
  rw [show p + j + (T - (p + j)) = T by omega] at l1
  have l2 := walks_le' L a.length T a (k + 1) d
  rw [← hd] at l2
  obtain ⟨x2, h2, h2'⟩ := (l2.trans l1).2 _ x hx
  exact ⟨x2, h2, by omega⟩
/-- a list tells the least members of S by their remainders -/
structure Rep (S : Nat → Prop) (a : List (Option Nat)) : Prop where
  pos : 0 < a.length
  sound : Sound S a.length a
  least : ∀ s, S s → ∃ x, a.getD (s % a.length) none = some x ∧ x ≤ s
theorem Rep.one {m : Nat} (hm : 0 < m) : Rep (Sum [m]) (some 0 :: List.replicate (m - 1) none) := by
  have hl : (some 0 :: List.replicate (m - 1) (none : Option Nat)).length = m := by simp; omega
  refine ⟨by simp, fun r x h => ?_, fun s hs => ?_⟩
  · rw [hl]
    cases r with
    | zero =>
      have : some 0 = some x := h
      cases this
      exact ⟨.zero, Nat.zero_mod _⟩
    | succ r =>
      exfalso
      rw [List.getD_eq_getElem?_getD, List.getElem?_cons_succ, List.getElem?_replicate] at h
      split at h <;> simp at h
  · obtain ⟨j, rfl⟩ := Sum.single.mp hs
    rw [hl, Nat.mul_mod_left]
    exact ⟨0, rfl, Nat.zero_le _⟩
theorem Rep.more {ls : List Nat} {L m : Nat} {a : List (Option Nat)} (h : Rep (Sum ls) a) (hm : a.length = m) (hin : m ∈ ls) : Rep (Sum (ls ++ [L])) (withLen L a) := by
  have hl := withLen_len L a
  have hp := h.pos
  refine ⟨by rw [hl]; exact hp, ?_, fun s hs => ?_⟩
  · rw [hl]
    refine walks_sound (fun x hx => .add (List.mem_append_right _ (List.mem_singleton.mpr rfl)) hx) (fun r x e => ?_) _
    obtain ⟨h1, h2⟩ := h.sound r x e
    exact ⟨h1.mono fun l hl => List.mem_append_left _ hl, h2⟩
  · rw [hl]
    obtain ⟨j, t, ht, rfl⟩ := Sum.snoc.mp hs
    -- less than a whole round of L's
    have hg : 0 < Nat.gcd a.length L := Nat.gcd_pos_of_pos_left _ hp
    obtain ⟨c, hc⟩ := Nat.gcd_dvd_left a.length L
    obtain ⟨k, hk⟩ := Nat.gcd_dvd_right a.length L
    have hcd : a.length / Nat.gcd a.length L = c := by
      generalize Nat.gcd a.length L = g at *
      rw [hc]
      exact Nat.mul_div_cancel_left _ hg
    have hcpos : 0 < c := by
      rcases Nat.eq_zero_or_pos c with h | h
      · rw [h] at hc; omega
      · exact h
    have ecL : c * L = k * a.length := by
      generalize Nat.gcd a.length L = g at *
      rw [hk, hc]
      simp only [Nat.mul_comm, Nat.mul_left_comm]
    have e : t + j * L = (t + (j / c * k) * a.length) + (j % c) * L := by
      have d := Nat.div_add_mod j c
      calc t + j * L = t + (c * (j / c) + j % c) * L := by rw [d]
        _ = t + (j / c * (c * L) + j % c * L) := by
          rw [Nat.add_mul]; congr 2; rw [Nat.mul_comm c, Nat.mul_assoc]
        _ = _ := by rw [ecL]; rw [Nat.mul_assoc]; omega
    have ht' : Sum ls (t + (j / c * k) * a.length) := ht.plus (by rw [hm]; exact Sum.times hin _)
    obtain ⟨y, hy, hyt⟩ := h.least _ ht'
    obtain ⟨x, hx, hxy⟩ := withLen_far (L := L) hp (Nat.mod_lt _ hp) hy (j := j % c) (by rw [hcd]; exact Nat.mod_lt _ hcpos)
    refine ⟨x, ?_, by rw [e]; omega⟩
    rw [e]
    rw [Nat.add_mod, Nat.mod_mod, ← Nat.add_mod] at hx
    exact hx
end Ov
namespace Ov
/-- an entry below x -/
def below (x : Nat) : Option Nat → Bool
  | some y => decide (y < x)
  | none => false
end Ov
namespace Ov
/-- so many below N, of those with remainder r, are below x -/
def cnt (m N r x : Nat) : Nat := (min N x + (m - 1 - r)) / m
theorem sum_zero : ∀ {l : List Nat}, (∀ x ∈ l, x = 0) → l.sum = 0
  | [], _ => rfl
  | x :: l, h => by
    rw [List.sum_cons, h x List.mem_cons_self, sum_zero fun y hy => h y (List.mem_cons_of_mem _ hy)]
theorem sum_one (j y : Nat) (f : Nat → Bool) : ∀ n, j < n → ((List.range n).map fun r => if j = r ∧ f r = true then 1 else 0).sum = if f j = true then 1 else 0
  | 0, h => by omega
  | n + 1, h => by
    rw [List.range_succ, List.map_append, List.sum_append]
    by_cases e : j = n
    · subst e
      have z : ((List.range j).map fun r => if j = r ∧ f r = true then 1 else 0).sum = 0 := by
        apply sum_zero
        intro x hx
        obtain ⟨r, hr, rfl⟩ := List.mem_map.mp hx
        have := List.mem_range.mp hr
        rw [if_neg (fun z => by omega)]
      rw [z]
      by_cases c : f j = true <;> simp [c]
    · rw [sum_one j y f n (by omega)]
      simp [e]
end Ov
namespace Ov
section
variable (la : Int → Nat)
/-- what a byte makes of a countdown -/
def cdStep : Option Nat → Int → Option Nat
  | none, _ => none
  | some 0, b => if la b = 0 then none else some (la b - 1)
  | some (l + 1), _ => some l
def cdEnd (s : Option Nat) (bs : List Int) : Option Nat := bs.foldl (cdStep la) s
def stF (k : Nat) (s : Option Nat) : List Int → List Nat
  | [] => []
  | b :: bs => (if s = some 0 ∧ 0 < la b then [k] else []) ++ stF (k + 1) (cdStep la s b) bs
/-- the offset of the invalid byte -/
def spF (k : Nat) (s : Option Nat) : List Int → Option Nat
  | [] => none
  | b :: bs => if s = some 0 ∧ la b = 0 then some k else spF (k + 1) (cdStep la s b) bs
variable {la}
theorem cdEnd_cons (s : Option Nat) (b : Int) (bs : List Int) : cdEnd la s (b :: bs) = cdEnd la (cdStep la s b) bs := rfl
/-- bytes of an instruction that is being read -/
theorem cdEnd_pass (m : Nat) (pre post : List Int) : cdEnd la (some (pre.length + m)) (pre ++ post) = cdEnd la (some m) post := by
  induction pre with
  | nil => rw [List.length_nil, Nat.zero_add]; rfl
  | cons a pre ih =>
    rw [List.length_cons, show pre.length + 1 + m = pre.length + m + 1 by omega]
    show cdEnd la (some (pre.length + m)) (pre ++ post) = _
    exact ih
theorem stF_pass (k m : Nat) (pre post : List Int) : stF la k (some (pre.length + m)) (pre ++ post) = stF la (k + pre.length) (some m) post := by
  induction pre generalizing k with
  | nil => rw [List.length_nil, Nat.zero_add]; rfl
  | cons a pre ih =>
    rw [List.length_cons, show pre.length + 1 + m = pre.length + m + 1 by omega]
    show (if some (pre.length + m + 1) = some 0 ∧ 0 < la a then [k] else []) ++ stF la (k + 1) (some (pre.length + m)) (pre ++ post) = _
    rw [if_neg (by rintro ⟨e, _⟩; cases e), List.nil_append, ih, show k + 1 + pre.length = k + (pre.length + 1) by omega]
theorem cdEnd_none (bs : List Int) : cdEnd la none bs = none := by
  induction bs with
  | nil => rfl
  | cons b bs ih => exact ih
theorem stF_none (k : Nat) (bs : List Int) : stF la k none bs = [] := by
  induction bs generalizing k with
  | nil => rfl
  | cons b bs ih =>
    show (if (none : Option Nat) = some 0 ∧ 0 < la b then [k] else []) ++ stF la (k + 1) none bs = []
    rw [if_neg (by rintro ⟨e, _⟩; cases e), List.nil_append, ih]
theorem cd_over {o : Nat} {bs : List Int} (h : bs.length ≤ o) : cdEnd la (some o) bs = some (o - bs.length) := by
  have := cdEnd_pass (la := la) (o - bs.length) bs []
  rw [List.append_nil, show bs.length + (o - bs.length) = o by omega] at this
  exact this
theorem st_over {k o : Nat} {bs : List Int} (h : bs.length ≤ o) : stF la k (some o) bs = [] := by
  have := stF_pass (la := la) k (o - bs.length) bs []
  rw [List.append_nil, show bs.length + (o - bs.length) = o by omega] at this
  exact this
theorem split_at {bs : List Int} {o : Nat} {b : Int} (h : bs[o]? = some b) : bs = bs.take o ++ b :: bs.drop (o + 1) ∧ (bs.take o).length = o := by
  obtain ⟨hl, e⟩ := List.getElem?_eq_some_iff.mp h
  refine ⟨?_, by rw [List.length_take]; omega⟩
  rw [← e, List.getElem_cons_drop, List.take_append_drop]
theorem cd_step {bs : List Int} {o : Nat} {b : Int} (h : bs[o]? = some b) (hl : 0 < la b) : cdEnd la (some o) bs = cdEnd la (some (o + la b)) bs := by
  obtain ⟨e, l⟩ := split_at h
  have h1 := cdEnd_pass (la := la) 0 (bs.take o) (b :: bs.drop (o + 1))
  have h2 := cdEnd_pass (la := la) (la b) (bs.take o) (b :: bs.drop (o + 1))
  rw [← e, l] at h1 h2
  rw [h2, show o + 0 = o from rfl] at *
  rw [h1]
  obtain ⟨n, en⟩ : ∃ n, la b = n + 1 := ⟨la b - 1, by omega⟩
  rw [cdEnd_cons, cdEnd_cons, en]
  show cdEnd la (if la b = 0 then none else some (la b - 1)) _ = cdEnd la (some n) _
  rw [if_neg (by omega), en]
  rfl
theorem st_step {bs : List Int} {k o : Nat} {b : Int} (h : bs[o]? = some b) (hl : 0 < la b) : stF la k (some o) bs = (k + o) :: stF la k (some (o + la b)) bs := by
  obtain ⟨e, l⟩ := split_at h
  have h1 := stF_pass (la := la) k 0 (bs.take o) (b :: bs.drop (o + 1))
  have h2 := stF_pass (la := la) k (la b) (bs.take o) (b :: bs.drop (o + 1))
  rw [← e, l] at h1 h2
  rw [show o + 0 = o from rfl] at h1
  rw [h1, h2]
  obtain ⟨n, en⟩ : ∃ n, la b = n + 1 := ⟨la b - 1, by omega⟩
  show (if some 0 = some 0 ∧ 0 < la b then [k + o] else []) ++ stF la (k + o + 1) (if la b = 0 then none else some (la b - 1)) _ = (k + o) :: ((if some (la b) = some 0 ∧ 0 < la b then [k + o] else []) ++ stF la (k + o + 1) (cdStep la (some (la b)) b) _)
  rw [if_pos ⟨rfl, hl⟩, if_neg (by omega), if_neg (by rintro ⟨e, _⟩; rw [en] at e; cases e), en]
  rfl
theorem cd_stop {bs : List Int} {o : Nat} {b : Int} (h : bs[o]? = some b) (hl : la b = 0) : cdEnd la (some o) bs = none := by
  obtain ⟨e, l⟩ := split_at h
  have h1 := cdEnd_pass (la := la) 0 (bs.take o) (b :: bs.drop (o + 1))
  rw [← e, l, show o + 0 = o from rfl] at h1
  rw [h1, cdEnd_cons]
  show cdEnd la (if la b = 0 then none else some (la b - 1)) _ = none
  rw [if_pos hl, cdEnd_none]
theorem st_stop {bs : List Int} {k o : Nat} {b : Int} (h : bs[o]? = some b) (hl : la b = 0) : stF la k (some o) bs = [] := by
  obtain ⟨e, l⟩ := split_at h
  have h1 := stF_pass (la := la) k 0 (bs.take o) (b :: bs.drop (o + 1))
  rw [← e, l, show o + 0 = o from rfl] at h1
  rw [h1]
  show (if some 0 = some 0 ∧ 0 < la b then [k + o] else []) ++ stF la (k + o + 1) (if la b = 0 then none else some (la b - 1)) _ = []
  rw [if_neg (by omega), if_pos hl, stF_none]
  rfl
theorem spF_pass (k m : Nat) (pre post : List Int) : spF la k (some (pre.length + m)) (pre ++ post) = spF la (k + pre.length) (some m) post := by
  induction pre generalizing k with
  | nil => rw [List.length_nil, Nat.zero_add]; rfl
  | cons a pre ih =>
    rw [List.length_cons, show pre.length + 1 + m = pre.length + m + 1 by omega]
    show (if some (pre.length + m + 1) = some 0 ∧ la a = 0 then some k else spF la (k + 1) (some (pre.length + m)) (pre ++ post)) = _
    rw [if_neg (by rintro ⟨e, _⟩; cases e), ih, show k + 1 + pre.length = k + (pre.length + 1) by omega]
theorem sp_step {bs : List Int} {k o : Nat} {b : Int} (h : bs[o]? = some b) (hl : 0 < la b) : spF la k (some o) bs = spF la k (some (o + la b)) bs := by
  obtain ⟨e, l⟩ := split_at h
  have h1 := spF_pass (la := la) k 0 (bs.take o) (b :: bs.drop (o + 1))
  have h2 := spF_pass (la := la) k (la b) (bs.take o) (b :: bs.drop (o + 1))
  rw [← e, l] at h1 h2
  rw [show o + 0 = o from rfl] at h1
  rw [h1, h2]
  obtain ⟨n, en⟩ : ∃ n, la b = n + 1 := ⟨la b - 1, by omega⟩
  show (if some 0 = some 0 ∧ la b = 0 then some (k + o) else spF la (k + o + 1) (if la b = 0 then none else some (la b - 1)) _) = (if some (la b) = some 0 ∧ la b = 0 then some (k + o) else spF la (k + o + 1) (cdStep la (some (la b)) b) _)
  rw [if_neg (by omega), if_neg (by omega), if_neg (by rintro ⟨e, _⟩; rw [en] at e; cases e), en]
  rfl
theorem sp_stop {bs : List Int} {k o : Nat} {b : Int} (h : bs[o]? = some b) (hl : la b = 0) : spF la k (some o) bs = some (k + o) := by
  obtain ⟨e, l⟩ := split_at h
  have h1 := spF_pass (la := la) k 0 (bs.take o) (b :: bs.drop (o + 1))
  rw [← e, l, show o + 0 = o from rfl] at h1
  rw [h1]
  show (if some 0 = some 0 ∧ la b = 0 then some (k + o) else _) = _
  rw [if_pos ⟨rfl, hl⟩]
/-- how a walk ends -/
structure Ended (la : Int → Nat) (bs : List Int) (e : Nat) (begun : List Nat) (fol : Nat) : Prop where
  st : begun = stF la 0 (some e) bs
  cd : cdEnd la (some e) bs = if fol < bs.length then none else some (fol - bs.length)
  stop : fol < bs.length → ∃ b, bs[fol]? = some b ∧ la b = 0
  last : bs.length < fol → e ≤ bs.length → ∃ o b, begun.getLast? = some o ∧ bs[o]? = some b ∧ fol = o + la b
  lt : ∀ o ∈ begun, o < bs.length ∧ ∃ b, bs[o]? = some b ∧ 0 < la b
  sp : fol < bs.length → spF la 0 (some e) bs = some fol
/-- a walk under way -/
structure Going (la : Int → Nat) (bs : List Int) (e : Nat) (begun : List Nat) (o : Nat) : Prop where
  st : stF la 0 (some e) bs = begun ++ stF la 0 (some o) bs
  cd : cdEnd la (some e) bs = cdEnd la (some o) bs
  last : bs.length < o → e ≤ bs.length → ∃ q b, begun.getLast? = some q ∧ bs[q]? = some b ∧ o = q + la b
  lt : ∀ q ∈ begun, q < bs.length ∧ ∃ b, bs[q]? = some b ∧ 0 < la b
  few : begun.length ≤ bs.length - e ∧ (bs.length - o) + begun.length ≤ bs.length - e
  sp : spF la 0 (some e) bs = spF la 0 (some o) bs
theorem Going.start (bs : List Int) (e : Nat) : Going la bs e [] e :=
  ⟨rfl, rfl, fun h1 h2 => absurd h1 (by omega), (fun _ h => nomatch h), by simp, rfl⟩
theorem Going.step {bs : List Int} {e o : Nat} {begun : List Nat} (g : Going la bs e begun o) {b : Int} (h : bs[o]? = some b) (hl : 0 < la b) : Going la bs e (begun ++ [o]) (o + la b) := by
  have ho := (List.getElem?_eq_some_iff.mp h).1
  refine ⟨?_, ?_, fun _ _ => ⟨o, b, by simp, h, rfl⟩, fun q hq => ?_, ?_, by rw [g.sp, sp_step h hl]⟩
  · rw [g.st, st_step h hl, Nat.zero_add, List.append_assoc]; rfl
  · rw [g.cd, cd_step h hl]
  · rcases List.mem_append.mp hq with hq | hq
    · exact g.lt q hq
    · rw [List.mem_singleton.mp hq]
      exact ⟨ho, b, h, hl⟩
  · have := g.few
    rw [List.length_append, List.length_singleton]
    omega
theorem Going.over {bs : List Int} {e o : Nat} {begun : List Nat} (g : Going la bs e begun o) (h : bs.length ≤ o) : Ended la bs e begun o :=
  ⟨by rw [g.st, st_over h, List.append_nil], by rw [g.cd, cd_over h, if_neg (by omega)], fun z => absurd z (by omega), g.last, g.lt, fun z => absurd z (by omega)⟩
theorem Going.stop {bs : List Int} {e o : Nat} {begun : List Nat} (g : Going la bs e begun o) {b : Int} (h : bs[o]? = some b) (hl : la b = 0) : Ended la bs e begun o := by
  have ho := (List.getElem?_eq_some_iff.mp h).1
  exact ⟨by rw [g.st, st_stop h hl, List.append_nil], by rw [g.cd, cd_stop h hl, if_pos ho], fun _ => ⟨b, h, hl⟩, g.last, g.lt, fun _ => by rw [g.sp, sp_stop h hl, Nat.zero_add]⟩
theorem Ended.same {bs : List Int} {e : Nat} {b1 b2 : List Nat} {f1 f2 : Nat} (h1 : Ended la bs e b1 f1) (h2 : Ended la bs e b2 f2) : b1 = b2 ∧ f1 = f2 := by
  refine ⟨h1.st.trans h2.st.symm, ?_⟩
  have c := h1.cd.symm.trans h2.cd
  by_cases p1 : f1 < bs.length
  · by_cases p2 : f2 < bs.length
    · exact Option.some.inj ((h1.sp p1).symm.trans (h2.sp p2))
    · rw [if_pos p1, if_neg p2] at c; cases c
  · by_cases p2 : f2 < bs.length
    · rw [if_neg p1, if_pos p2] at c; cases c
    · rw [if_neg p1, if_neg p2] at c
      have := Option.some.inj c
      omega
variable (la)
variable {la}
end
end Ov
namespace Ov
open PySem PySem.Spec PyProof.Rows L2
def top (i : Nat) : Stmt := PySem.Challenge.pw_overlapcode_k59_by_names.main.body.getD i (.Pass ⟨0, 0, 0, 0⟩)
abbrev sIsInt : Stmt := top 1
abbrev sBetween : Stmt := top 2
abbrev sAscending : Stmt := top 3
abbrev cInstructionSet : Stmt := top 17
abbrev sAreInstr : Stmt := top 18
abbrev sIsInstr : Stmt := top 19
abbrev sIsName : Stmt := top 20
abbrev sIsCode : Stmt := top 21
abbrev sDecode : Stmt := top 23
abbrev sCheckEntry : Stmt := top 24
abbrev sWalk : Stmt := top 25
abbrev sEnding : Stmt := top 26
abbrev sReadI : Stmt := top 27
abbrev s_is_program : Stmt := top 30
abbrev s_executed : Stmt := top 31
abbrev s_runs : Stmt := top 32
abbrev s_check_program : Stmt := top 33
abbrev s_step_lengths : Stmt := top 34
abbrev s_is_step : Stmt := top 35
abbrev s_is_match : Stmt := top 36
abbrev cStateMachine : Stmt := top 38
abbrev s_padding_by_opcode : Stmt := top 39
abbrev s_opcode_steps : Stmt := top 40
abbrev s_decoder_behind : Stmt := top 41
abbrev s_padding_decoder : Stmt := top 42
abbrev s_step_decoder : Stmt := top 43
abbrev s_decoder_bytes : Stmt := top 44
abbrev s_explore : Stmt := top 45
abbrev s_distances_to_final : Stmt := top 46
abbrev s_state_count : Stmt := top 51
abbrev s_is_overlay : Stmt := top 52
abbrev s_check_overlay : Stmt := top 53
abbrev s_check_programs : Stmt := top 54
abbrev s_check_entries : Stmt := top 55
abbrev s_are_entries : Stmt := top 56
abbrev s_decoder_count : Stmt := top 57
abbrev s_longest_rest : Stmt := top 58
abbrev s_next_state : Stmt := top 60
abbrev s_overlay_count : Stmt := top 62
abbrev s_overlay_at : Stmt := top 63
abbrev s_overlay_number : Stmt := top 64
abbrev cOverlayGraph : Stmt := top 65
abbrev s_chosen_move : Stmt := top 66
abbrev sBox : Stmt := top 68
abbrev sTake : Stmt := top 69
abbrev sMachine : Stmt := top 70
abbrev sLaw : Stmt := top 71
end Ov
namespace Ov
open PySem PySem.Spec PyProof.Rows L2
section
variable {P : Program} {w : World} {K : PySem.W.Frag} {mg : Str → Option Value} {base : Heap}
def spIsInt : Sp := fun vs H Q _ => ∃ (v : Int), vs = [.int v] ∧ Q (.bl true) H
theorem scIsInt : FnScope ["value"] ["value"] (defScope sIsInt) := ⟨rfl, rfl, rfl, by decide +kernel, rfl, by decide +kernel, by decide +kernel⟩
theorem ok_isInt {f : Addr} {fd : FuncData} {k : Nat} (F : Fun K "is_integer" "is_integer" sIsInt f fd) (T : Bi mg) : FnOk P w K mg base CX0 (k + 1) f fd ["value"] spIsInt := by
  refine F.ok scIsInt (fun vs H Q E h => ?_) (fun cdv A outer s H vs Q E hr h => ?_)
  · obtain ⟨v, rfl, _⟩ := h
    rfl
  · obtain ⟨v, rfl, q⟩ := h
    refine ⟨_, pss_one (ps_ret (pe_and (pe_callB call_isi (by rfl) T.isi (by decide +kernel) (pa_cons (pv 0) (pa_cons (pe_bltn (v := .ty "int") (u := .type "int") (by rfl) T.int (by decide +kernel) rfl) pa_nil)))
      (pe_one (pe_not (pe_callB call_isi (by rfl) T.isi (by decide +kernel) (pa_cons (pv 0) (pa_cons (pe_bltn (v := .ty "bool") (u := .type "bool") (by rfl) T.bool (by decide +kernel) rfl) pa_nil))))))), ?_⟩
    refine ⟨_, rfl, _, _, _, _, _, rfl, .ty _, .base (.int _), kit_ty (by decide +kernel : kitB "int" "int" = some true), _, rfl, iteT ?_⟩
    exact ⟨_, rfl, _, _, _, _, _, rfl, .ty _, .base (.int _), kit_ty (by decide +kernel : kitB "int" "bool" = some false), _, rfl, q⟩
def spBetween : Sp := fun vs H Q _ => ∃ (v lo hi : Int), vs = [.int v, .int lo, .int hi] ∧ lo ≤ v ∧ v ≤ hi ∧ Q (.bl true) H
theorem scBetween : FnScope ["value", "least", "most"] ["value", "least", "most"] (defScope sBetween) := ⟨rfl, rfl, rfl, by decide +kernel, rfl, by decide +kernel, by decide +kernel⟩
theorem ok_between {f fI : Addr} {fd fdI : FuncData} {k : Nat} (F : Fun K "is_integer_between" "is_integer_between" sBetween f fd) (T : Bi mg) (I : Def K mg "is_integer" sIsInt fI fdI ["value"]) : FnOk P w K mg base CX0 (k + 2) f fd ["value", "least", "most"] spBetween := by
  have GI : FnOk P w K mg base CX0 (k + 1) fI fdI ["value"] spIsInt := ok_isInt I.fn T
  refine F.ok scBetween (fun vs H Q E h => ?_) (fun cdv A outer s H vs Q E hr h => ?_)
  · obtain ⟨v, lo, hi, rfl, _⟩ := h
    rfl
  · obtain ⟨v, lo, hi, rfl, h1, h2, q⟩ := h
    refine ⟨_, pss_one (ps_ret (pe_and (pe_call GI hr (by rfl) I.gl I.fn.kp I.bi .nil pass0 (pa_cons (pv 0) pa_nil))
        (pe_one (pe_chain op_le op_le (pv 1) (pv 0) (pv 2))))), ?_⟩
    refine ⟨_, rfl, v, rfl, _, rfl, iteT ?_⟩
    refine ⟨_, rfl, _, rfl, _, _, rfl, rfl, _, rfl, ?_⟩
    rw [decide_eq_true h1]
    refine iteT ⟨_, rfl, _, _, rfl, rfl, ?_⟩
    show Q (.bl (decide (v ≤ hi))) H
    rw [decide_eq_true h2]
    exact q
def spAscending (K : PySem.W.Frag) : Sp := fun vs H Q _ => ∃ (a : Addr) (ns : List Int), vs = [.ref a] ∧ SqT K H a (ns.map V.int) ∧ ns.length ≤ 1000 ∧ ns.Pairwise (· < ·) ∧ ∀ H', Same H H' → Q (.bl true) H'
theorem scAscending : FnScope ["numbers", "low", "high"] ["numbers"] (defScope sAscending) := ⟨rfl, rfl, rfl, by decide +kernel, rfl, by decide +kernel, by decide +kernel⟩
theorem ok_ascending {f : Addr} {fd : FuncData} {k : Nat} (F : Fun K "is_ascending" "is_ascending" sAscending f fd) (T : Bi mg) : FnOk P w K mg base CX0 (k + 1) f fd ["numbers"] (spAscending K) := by
  refine F.ok scAscending (fun vs H Q E h => ?_) (fun cdv A outer s H vs Q E hr h => ?_)
  · obtain ⟨a, ns, rfl, _⟩ := h
    rfl
  · obtain ⟨a, ns, rfl, hS, hlen, hasc, q⟩ := h
    refine ⟨_, pss_one (ps_ret (pe_callB (cr_all rfl) (by rfl) T.all (by decide +kernel) (pa_cons
      (pe_lc (own := [("low", 1), ("high", 2)]) (g := gTup K 2 (gCons (gName 1) (gCons (gName 2) gNil))) (tt := tYes) (by rfl) scAscending.nd (RZ.pi_zipA (by rfl) T.zip (pa_cons (pv 0) (pa_cons (pe_slice sl_tupA (pv 0) (po_some pe_int) po_none) pa_nil)))
        (blkOk_by (own := [("low", 1), ("high", 2)]) (N := ["numbers", "low", "high"]) (sc := defScope sAscending) (by decide +kernel))
        (fun _ _ _ _ _ => pg_tup rfl (pgs_cons (pg_name (i := 1) scAscending.nd rfl (Or.inl rfl)) (pgs_cons (pg_name (i := 2) scAscending.nd rfl (Or.inl rfl)) pgs_nil)))
        (fun _ _ _ _ _ => pts_nil) (fun _ _ _ _ _ => pe_cmpR op_lt (pv 1) (pv 2) (nomark _))) pa_nil))), ?_⟩
    -- zip(numbers, numbers[1:])
    refine ⟨_, rfl, _, rfl, 1, rfl, a, ns.map V.int, rfl, hS, fun hw => ?_, fun hw c nc => ?_⟩
    · have e0 : ns = [] := List.map_eq_nil_iff.mp (cut1_whole hw)
      subst e0
      refine ⟨a, a, [], [], rfl, .inr ⟨hS, hS, fun D nD => lc_it (walk_zipT (xs := []) (ys := []) rfl) (fun i H2 => i = 0 ∧ Mk H H2 D []) ⟨rfl, .start nD⟩ (fun i H2 _ p => ⟨p.2.same.tup hS, p.2.same.tup hS⟩) (fun i x H2 H3 hi => absurd hi (by show ¬ i < 0; omega)) (fun H2 p => ?_)⟩⟩
      exact ⟨D, [], rfl, .inl (.inl p.2.at_), q H2 p.2.same⟩
    · have s1 : Same H (upd H c (.tup (cutV (ns.map V.int) (some 1) none))) := same_upd nc
      have hc : SqT K (upd H c (.tup (cutV (ns.map V.int) (some 1) none))) c ((ns.drop 1).map V.int) := .inl (.inl (by rw [upd_same, cut1, List.map_drop]))
      refine ⟨a, c, ns.map V.int, (ns.drop 1).map V.int, rfl, .inr ⟨s1.tup hS, hc, fun D nD => lc_it (walk_zipT (xs := ns.map V.int) (ys := (ns.drop 1).map V.int) rfl)
        (fun i H2 => Mk (upd H c (.tup (cutV (ns.map V.int) (some 1) none))) H2 D ((List.replicate i true).map V.bl)) (.start nD) (fun i H2 _ p => ⟨p.same.tup (s1.tup hS), p.same.tup hc⟩) (fun i x H2 H3 hi p y => ?_) (fun H2 p => ?_)⟩⟩
      · obtain ⟨t, x1, x2, rfl, nt, rfl, f1, f2⟩ := y
        have hi' : i < min ns.length (ns.length - 1) := by simpa using hi
        have h1 : i < ns.length := by omega
        have h2 : i + 1 < ns.length := by omega
        have e1 : x1 = .int ns[i] := by
          have : (ns.map V.int)[i]? = some x1 := f1
          rw [List.getElem?_map, List.getElem?_eq_getElem h1] at this
          exact (Option.some.inj this).symm
        have e2 : x2 = .int ns[i + 1] := by
          have : ((ns.drop 1).map V.int)[i]? = some x2 := f2
          rw [List.getElem?_map, List.getElem?_drop, Nat.add_comm 1 i, List.getElem?_eq_getElem h2] at this
          exact (Option.some.inj this).symm
        have hlt : ns[i] < ns[i + 1] := List.pairwise_iff_getElem.mp hasc i (i + 1) h1 h2 (by omega)
        refine ⟨t, [x1, x2], rfl, .inl (.inl upd_same), rfl, x1, [x2], rfl, x2, [], rfl, rfl, rfl, x1, rfl, x2, rfl, _, _, e1, e2, _, (by rw [upd_ne (ne_of_none p.at_ nt)]; exact p.at_), (by rw [List.length_map, List.length_replicate]; exact small1000 (by omega)), ?_⟩
        show Mk _ (upd _ D (.lst (_ ++ [V.bl (decide (ns[i] < ns[i + 1]))]))) D _
        rw [decide_eq_true hlt, List.replicate_succ', List.map_append]
        exact p.put (same_upd nt)
      · refine ⟨D, _, rfl, .inl (.inl p.at_), ?_⟩
        rw [all_true]
        exact q H2 (s1.trans p.same)
end
end Ov
namespace Ov
open PySem PySem.Spec PyProof.Rows L2
/-- a box of numbers: what is left of its own digits, a number, and how many were mixed -/
def BoxAt (H : Hp) (p : Addr) (n : Nat) : Prop := ∃ a b c : Int, H p = some (.lst [.int a, .int b, .int c]) ∧ 0 ≤ a ∧ a < 2 ^ 800 ∧ 0 ≤ b ∧ b < 2 ^ 62 ∧ 0 ≤ c ∧ c ≤ n
theorem BoxAt.mono {H : Hp} {p : Addr} {n m : Nat} (h : BoxAt H p n) (l : n ≤ m) : BoxAt H p m := by
  obtain ⟨a, b, c, e, h1, h2, h3, h4, h5, h6⟩ := h
  exact ⟨a, b, c, e, h1, h2, h3, h4, h5, by omega⟩
theorem BoxAt.same {H H' : Hp} {p : Addr} {n : Nat} (h : BoxAt H p n) (s : Same H H') : BoxAt H' p n := by
  obtain ⟨a, b, c, e, r⟩ := h
  exact ⟨a, b, c, s _ _ e, r⟩
/-- all that stood, but at p, stands -/
def But (p : Addr) (H H' : Hp) : Prop := ∀ b o, H b = some o → b ≠ p → H' b = some o
theorem But.refl (p : Addr) (H : Hp) : But p H H := fun _ _ e _ => e
theorem But.trans {p : Addr} {H H1 H2 : Hp} (a : But p H H1) (b : But p H1 H2) : But p H H2 := fun c o e n => b c o (a c o e n) n
theorem But.of {p : Addr} {H H1 : Hp} (a : Same H H1) : But p H H1 := fun c o e _ => a c o e
theorem But.free {p l : Addr} {H H' : Hp} (e : But p H H') (hp : H p ≠ none) (h : H' l = none) (hp' : H' p ≠ none) : H l = none := by
  cases q : H l with
  | none => rfl
  | some o =>
    by_cases hl : l = p
    · subst hl; exact absurd h hp'
    · rw [e l o q hl] at h; cases h
theorem BoxAt.ne {H : Hp} {p : Addr} {n : Nat} (h : BoxAt H p n) : H p ≠ none := by
  obtain ⟨a, b, c, e, _⟩ := h
  rw [e]; exact fun z => nomatch z
section
variable {P : Program} {w : World} {K : PySem.W.Frag} {mg : Str → Option Value} {base : Heap}
def spBox (K : PySem.W.Frag) : Sp := fun vs H Q _ => ∃ (a : Addr) (ns : List Int) (j : Nat), vs = [.ref a, .int j] ∧ SqL K H a (ns.map V.int) ∧ j ≤ 63 ∧ ∀ H' p, Same H H' → H p = none → BoxAt H' p 0 → Q (.ref p) H'
theorem scBox : FnScope ["_law_script", "_law_k", "_law_cell", "_law_own"] ["_law_script", "_law_k"] (defScope sBox) := ⟨rfl, rfl, rfl, by decide +kernel, rfl, by decide +kernel, by decide +kernel⟩
theorem big_pos : (0 : Int) < 10 ^ (60 : Int).toNat * 10 ^ (60 : Int).toNat * 10 ^ (60 : Int).toNat * 10 ^ (60 : Int).toNat := by decide +kernel
theorem big_lt : (10 : Int) ^ (60 : Int).toNat * 10 ^ (60 : Int).toNat * 10 ^ (60 : Int).toNat * 10 ^ (60 : Int).toNat ≤ 2 ^ 800 := by decide +kernel
/-- what is left of the text behind the cell -/
def tBoxRest : TS := tSeq (tAsg (tOp (rI CMul fun i j => .int (i * j)) (tOp (rI (fun _ j => 0 < j) fun i j => .int (i % j)) (tCB (fun xs H Q => ∃ i, xs = [.int i] ∧ Q (.int (if i < 0 then -i else i)) H) (tCons (tVar 2) tNil))
    (tOp (rI CMulW fun i j => .int (i * j)) (tOp (rI CMulW fun i j => .int (i * j)) (tOp (rI CMulW fun i j => .int (i * j)) (tOp (rI CPow fun i j => .int (i ^ j.toNat)) (tC (.int 10)) (tC (.int 60))) (tOp (rI CPow fun i j => .int (i ^ j.toNat)) (tC (.int 10)) (tC (.int 60)))) (tOp (rI CPow fun i j => .int (i ^ j.toNat)) (tC (.int 10)) (tC (.int 60)))) (tOp (rI CPow fun i j => .int (i ^ j.toNat)) (tC (.int 10)) (tC (.int 60)))))
    (tCB (fun xs H Q => (∃ i, xs = [.int i] ∧ Q (.int i) H) ∨ ∃ k, xs = [.bl k] ∧ Q (.int (if k then 1 else 0)) H) (tCons (tOp (rI0 fun i j => .bl (decide (j ≤ i))) (tCB (fun xs H Q => ∃ i, xs = [.int i] ∧ Q (.int (if i < 0 then -i else i)) H) (tCons (tVar 2) tNil)) (tOp (rI CPow fun i j => .int (i ^ j.toNat)) (tC (.int 10)) (tC (.int 18)))) tNil))) (gName 3))
  (tRet (tLst (tCons (tVar 3) (tCons (tOp (rI (fun _ j => 0 < j) fun i j => .int (i % j)) (tOp (rI CMul fun i j => .int (i * j)) (tOp (rI0 fun i j => .int (i + j)) (tOp (rI0 fun i j => .int (i + j)) (tOp (rI (fun _ j => 0 < j) fun i j => .int (i % j)) (tVar 2) (tC (.int 2305843009213693951))) (tOp (rI CMul fun i j => .int (i * j)) (tOp (rI CMul fun i j => .int (i * j)) (tC (.int 7919)) (tVar 1)) (tVar 1))) (tC (.int 43))) (tC (.int 48271))) (tC (.int 2305843009213693921))) (tCons (tC (.int 0)) tNil)))))
theorem own_ok {x : Int} (h0 : 0 ≤ x) (h1 : x < 2 ^ 800) (c : Bool) : 0 ≤ x * (if c = true then 1 else 0) ∧ x * (if c = true then 1 else 0) < 2 ^ 800 := by
  cases c
  · rw [if_neg (by decide), Int.mul_zero]
    exact ⟨by decide, by decide +kernel⟩
  · rw [if_pos rfl, Int.mul_one]
    exact ⟨h0, h1⟩
theorem bit_ok (c : Bool) : -(2 ^ 64) < (if c = true then (1 : Int) else 0) ∧ (if c = true then (1 : Int) else 0) < 2 ^ 64 := by
  cases c <;> exact ⟨by decide, by decide⟩
theorem box_rest {H : Hp} {D : Ends} {a : Addr} {j : Nat} {cell : Int} {y : Option V} (hj : j ≤ 63) (q : ∀ (H' : Hp) (p : Addr), Same H H' → H p = none → BoxAt H' p 0 → D.rt (V.ref p) H') : tBoxRest D [some (.ref a), some (.int j), some (.int cell), y] H := by
  have h60 : ((10 : Int) ^ (60 : Int).toNat).natAbs < 2 ^ 200 := by decide +kernel
  have h120 : ((10 : Int) ^ (60 : Int).toNat * 10 ^ (60 : Int).toNat).natAbs < 2 ^ 400 := by decide +kernel
  have h180 : ((10 : Int) ^ (60 : Int).toNat * 10 ^ (60 : Int).toNat * 10 ^ (60 : Int).toNat).natAbs < 2 ^ 600 := by decide +kernel
  have hp : CPow 10 60 := ⟨by decide, by decide, by decide⟩
  have hp2 : CPow 10 18 := ⟨by decide, by decide, by decide⟩
  refine ⟨_, rfl, _, rfl, _, _, rfl, rfl, hp, _, _, rfl, rfl, hp, _, _, rfl, rfl, wide_mul h60 h60 (by decide) (by decide) (by decide), _, _, rfl, rfl, hp, _, _, rfl, rfl, wide_mul h120 h60 (by decide) (by decide) (by decide), _, _, rfl, rfl, hp, _, _, rfl, rfl, wide_mul h180 h60 (by decide) (by decide) (by decide), _, _, rfl, rfl, big_pos, ?_⟩
  have hm0 : 0 ≤ (if cell < 0 then -cell else cell) % (10 ^ (60 : Int).toNat * 10 ^ (60 : Int).toNat * 10 ^ (60 : Int).toNat * 10 ^ (60 : Int).toNat) := Int.emod_nonneg _ (Int.ne_of_gt big_pos)
  have hm1 : (if cell < 0 then -cell else cell) % (10 ^ (60 : Int).toNat * 10 ^ (60 : Int).toNat * 10 ^ (60 : Int).toNat * 10 ^ (60 : Int).toNat) < 2 ^ 800 := Int.lt_of_lt_of_le (Int.emod_lt_of_pos _ big_pos) big_lt
  dsimp only
  generalize (if cell < 0 then -cell else cell) % (10 ^ (60 : Int).toNat * 10 ^ (60 : Int).toNat * 10 ^ (60 : Int).toNat * 10 ^ (60 : Int).toNat) = own at *
  refine ⟨_, rfl, _, rfl, _, _, rfl, rfl, hp2, _, _, rfl, rfl, .inr ⟨_, rfl, _, _, rfl, rfl, ?_, ?_⟩⟩
  · exact .inr (bit_ok _)
  dsimp only
  generalize decide ((10 : Int) ^ (18 : Int).toNat ≤ if cell < 0 then -cell else cell) = bb
  obtain ⟨ho0, ho1⟩ := own_ok hm0 hm1 bb
  generalize own * (if bb = true then 1 else 0) = o2 at *
  have hc0 : 0 ≤ cell % 2305843009213693951 := Int.emod_nonneg _ (by decide)
  have hc1 : cell % 2305843009213693951 < 2305843009213693951 := Int.emod_lt_of_pos _ (by decide)
  have hkk : (0 : Int) ≤ 7919 * (j : Int) * (j : Int) := Int.mul_nonneg (Int.mul_nonneg (by decide) (by omega)) (by omega)
  refine ⟨_, rfl, _, rfl, _, _, rfl, rfl, (show (0 : Int) < 2305843009213693951 by decide), _, rfl, _, _, rfl, rfl, .inl ⟨by decide, by decide⟩, _, rfl, _, _, rfl, rfl, .inr ⟨by omega, by omega⟩, _, _, rfl, rfl, _, _, rfl, rfl, _, _, rfl, rfl, .inr ⟨by decide, by decide⟩, _, _, rfl, rfl, (show (0 : Int) < 2305843009213693921 by decide), by show 3 ≤ sizeLine; decide, fun p np => ?_⟩
  exact q _ p (same_upd np) np ⟨_, _, _, upd_same, ho0, ho1, Int.emod_nonneg _ (by decide), Int.lt_of_lt_of_le (Int.emod_lt_of_pos _ (by decide)) (by decide), by decide, by decide⟩
theorem ok_box {f : Addr} {fd : FuncData} {k : Nat} (F : Fun K "_law_box" "_law_box" sBox f fd) (T : Bi mg) : FnOk P w K mg base CX0 (k + 1) f fd ["_law_script", "_law_k"] (spBox K) := by
  refine F.ok scBox (fun vs H Q E h => ?_) (fun cdv A' outer s H vs Q E hr h => ?_)
  · obtain ⟨a, ns, j, rfl, _⟩ := h
    rfl
  · obtain ⟨a, ns, j, rfl, hS, hj, q⟩ := h
    refine ⟨_, pss_cons (ps_set (i := 2) scBox.nd rfl (.inl rfl) (pe_ifExp (pt_cmpR op_lt (pv 1) (pe_callB call_len_seq (by rfl) T.len PySem.boot_len (pa_cons (pv 0) pa_nil)) (nomark _)) (pe_ix ix_list (pv 0) (pv 1) (fun _ _ => rfl)) pe_int))
      (pss_cons (ps_set (i := 3) scBox.nd rfl (.inl rfl) (pe_op op_mul (pe_op op_mod (pe_callB call_abs (by rfl) T.abs (by decide +kernel) (pa_cons (pv 2) pa_nil))
          (pe_op op_mulW (pe_op op_mulW (pe_op op_mulW (pe_op op_pow pe_int pe_int) (pe_op op_pow pe_int pe_int)) (pe_op op_pow pe_int pe_int)) (pe_op op_pow pe_int pe_int)))
        (pe_callTy call_int1 (by rfl) T.int (by decide +kernel) (pa_cons (pe_cmpR op_ge (pe_callB call_abs (by rfl) T.abs (by decide +kernel) (pa_cons (pv 2) pa_nil)) (pe_op op_pow pe_int pe_int) (nomark _)) pa_nil))))
      (pss_one (ps_ret (pe_lst (pa_cons (pv 3) (pa_cons (pe_op op_mod (pe_op op_mul (pe_op op_add (pe_op op_add (pe_op op_mod (pv 2) pe_int) (pe_op op_mul (pe_op op_mul pe_int (pv 1)) (pv 1))) pe_int) pe_int) pe_int) (pa_cons pe_int pa_nil))))))), ?_⟩
    refine ⟨_, rfl, _, rfl, a, _, rfl, .inl hS, _, _, rfl, rfl, _, rfl, ite2 (fun c => ?_) (fun c => ?_)⟩
    · have hj' : j < ns.length := by
        have := of_decide_eq_true c
        rw [List.length_map] at this
        omega
      refine ⟨_, rfl, _, rfl, a, _, _, _, rfl, rfl, hS, atI_nat (v := .int ns[j]) (by rw [List.getElem?_map, List.getElem?_eq_getElem hj']; rfl), ?_⟩
      exact box_rest (D := { nx := fun _ H' => Q .non H', rt := Q }) (y := none) hj q
    · exact box_rest (D := { nx := fun _ H' => Q .non H', rt := Q }) (y := none) hj q
end
end Ov
namespace Ov
open PySem PySem.Spec PyProof.Rows L2
section
variable {P : Program} {w : World} {K : PySem.W.Frag} {mg : Str → Option Value} {base : Heap}
def spTake : Sp := fun vs H Q _ => ∃ (p : Addr) (m : Int) (n : Nat), vs = [.ref p, .int m] ∧ BoxAt H p n ∧ n ≤ 2 ^ 40 ∧ 0 < m ∧ m < 2 ^ 200 ∧ ∀ H' (d : Int), But p H H' → BoxAt H' p (n + 1) → 0 ≤ d → d < m → (∀ b, H b = none → H' b = none) → Q (.int d) H'
theorem scTake : FnScope ["_law_box_here", "_law_many", "_law_digit", "_law_mixed"] ["_law_box_here", "_law_many"] (defScope sTake) := ⟨rfl, rfl, rfl, by decide +kernel, rfl, by decide +kernel, by decide +kernel⟩
theorem ok_take {f : Addr} {fd : FuncData} {k : Nat} (F : Fun K "_law_take" "_law_take" sTake f fd) : FnOk P w K mg base CX0 (k + 1) f fd ["_law_box_here", "_law_many"] spTake := by
  refine F.ok scTake (fun vs H Q E h => ?_) (fun cdv A' outer s H vs Q E hr h => ?_)
  · obtain ⟨p, m, n, rfl, _⟩ := h
    rfl
  · obtain ⟨p, m, n, rfl, ⟨a, b, c, hp, a0, a1, b0, b1, c0, c1⟩, hn, m0, m1, q⟩ := h
    refine ⟨_, pss_cons (ps_if (pt_cmpR op_gt (pe_ix ix_list (pv 0) pe_int (fun _ _ => rfl)) pe_int (nomark _))
        (pss_cons (ps_set (i := 2) scTake.nd rfl (.inl rfl) (pe_op op_mod (pe_ix ix_list (pv 0) pe_int (fun _ _ => rfl)) (pv 1)))
        (pss_cons (ps_asg (pe_op op_fdivW (pe_ix ix_list (pv 0) pe_int (fun _ _ => rfl)) (pv 1)) (pg_sub (pv 0) pe_int set_list))
        (pss_one (ps_ret (pv 2))))) pss_nil)
      (pss_cons (ps_asg (pe_op op_add (pe_ix ix_list (pv 0) pe_int (fun _ _ => rfl)) pe_int) (pg_sub (pv 0) pe_int set_list))
      (pss_cons (ps_set (i := 3) scTake.nd rfl (.inl rfl) (pe_op op_mod (pe_op op_mul (pe_op op_add (pe_op op_add (pe_ix ix_list (pv 0) pe_int (fun _ _ => rfl)) (pe_op op_mul (pe_op op_mul pe_int (pe_ix ix_list (pv 0) pe_int (fun _ _ => rfl))) (pe_ix ix_list (pv 0) pe_int (fun _ _ => rfl)))) pe_int) pe_int) pe_int))
      (pss_cons (ps_set (i := 3) scTake.nd rfl (.inl rfl) (pe_op op_mod (pe_op op_mul (pv 3) (pe_op op_add (pe_op op_mod (pv 3) pe_int) (pe_op op_mul pe_int (pe_ix ix_list (pv 0) pe_int (fun _ _ => rfl))))) pe_int))
      (pss_one (ps_ret (pe_op op_mod (pe_op op_add (pe_op op_fdiv (pv 3) pe_int) (pe_op op_fdiv (pv 3) pe_int)) (pv 1))))))), ?_⟩
    have i0 : ∀ x y z : V, atI [x, y, z] 0 = some x := fun x y z => atI_nat (j := 0) rfl
    have i1 : ∀ x y z : V, atI [x, y, z] 1 = some y := fun x y z => atI_nat (j := 1) rfl
    have i2 : ∀ x y z : V, atI [x, y, z] 2 = some z := fun x y z => atI_nat (j := 2) rfl
    refine ⟨_, rfl, p, _, _, _, rfl, rfl, SqL.of hp, i0 _ _ _, _, _, rfl, rfl, _, rfl, ?_⟩
    by_cases ha : 0 < a
    · rw [decide_eq_true ha]
      refine iteT ?_
      refine ⟨_, rfl, p, _, _, _, rfl, rfl, SqL.of hp, i0 _ _ _, _, rfl, _, _, rfl, rfl, m0, ?_⟩
      refine ⟨_, rfl, p, _, _, _, rfl, rfl, SqL.of hp, i0 _ _ _, _, rfl, _, _, rfl, rfl, wide_div (b := 200) m0 (by omega) (by decide) (by decide), _, rfl, p, _, _, 0, rfl, rfl, hp, rfl, _, rfl, ?_⟩
      refine q _ _ (fun x o e hx => by rw [upd_ne hx]; exact e) ⟨a / m, b, c, upd_same, ?_, ?_, b0, b1, c0, by omega⟩ (Int.emod_nonneg _ (by omega)) (Int.emod_lt_of_pos _ m0) (fun x e => by rw [upd_ne (fun z => by rw [z, hp] at e; cases e)]; exact e)
      · exact Int.ediv_nonneg a0 (by omega)
      · exact Int.lt_of_le_of_lt (Int.ediv_le_self _ a0) a1
    · rw [decide_eq_false ha]
      refine iteF ?_
      refine ⟨_, rfl, p, _, _, _, rfl, rfl, SqL.of hp, i2 _ _ _, _, _, rfl, rfl, _, rfl, p, _, _, 2, rfl, rfl, hp, rfl, ?_⟩
      have hp2 : (upd H p (.lst (([V.int a, V.int b, V.int c] : List V).set 2 (V.int (c + 1))))) p = some (.lst [V.int a, V.int b, V.int (c + 1)]) := upd_same
      have s2 : But p H (upd H p (.lst (([V.int a, V.int b, V.int c] : List V).set 2 (V.int (c + 1))))) := fun x o e hx => by rw [upd_ne hx]; exact e
      have f2 : ∀ x, H x = none → (upd H p (.lst (([V.int a, V.int b, V.int c] : List V).set 2 (V.int (c + 1))))) x = none := fun x e => by rw [upd_ne (fun z => by rw [z, hp] at e; cases e)]; exact e
      generalize upd H p (.lst (([V.int a, V.int b, V.int c] : List V).set 2 (V.int (c + 1)))) = H2 at *
      have hc2 : c + 1 ≤ 2 ^ 40 + 1 := by omega
      refine ⟨_, rfl, p, _, _, _, rfl, rfl, SqL.of hp2, i1 _ _ _, _, rfl, p, _, _, _, rfl, rfl, SqL.of hp2, i2 _ _ _, _, _, rfl, rfl, .inl ⟨by decide, by decide⟩, _, rfl, p, _, _, _, rfl, rfl, SqL.of hp2, i2 _ _ _, _, _, rfl, rfl, .inr ⟨by omega, by omega⟩, _, _, rfl, rfl, _, _, rfl, rfl, _, _, rfl, rfl, .inr ⟨by decide, by decide⟩, _, _, rfl, rfl, (show (0 : Int) < 2305843009213693921 by decide), ?_⟩
      dsimp only
      have x0 : 0 ≤ (b + 65537 * (c + 1) * (c + 1) + 11) * 48271 % 2305843009213693921 := Int.emod_nonneg _ (by decide)
      have x1 : (b + 65537 * (c + 1) * (c + 1) + 11) * 48271 % 2305843009213693921 < 2305843009213693921 := Int.emod_lt_of_pos _ (by decide)
      generalize (b + 65537 * (c + 1) * (c + 1) + 11) * 48271 % 2305843009213693921 = x at *
      refine ⟨_, rfl, _, rfl, _, _, rfl, rfl, (show (0 : Int) < 1000003 by decide), _, rfl, p, _, _, _, rfl, rfl, SqL.of hp2, i2 _ _ _, _, _, rfl, rfl, .inl ⟨by decide, by decide⟩, _, _, rfl, rfl, _, _, rfl, rfl, .inl ⟨by omega, by omega⟩, _, _, rfl, rfl, (show (0 : Int) < 2305843009213693907 by decide), ?_⟩
      dsimp only
      generalize x * (x % 1000003 + 99991 * (c + 1)) % 2305843009213693907 = y at *
      refine ⟨_, rfl, _, _, rfl, rfl, ⟨by decide, by decide⟩, _, rfl, _, _, rfl, rfl, ⟨by decide, by decide⟩, _, _, rfl, rfl, _, rfl, _, _, rfl, rfl, m0, ?_⟩
      exact q _ _ s2 ⟨a, b, c + 1, hp2, a0, a1, b0, b1, by omega, by omega⟩ (Int.emod_nonneg _ (by omega)) (Int.emod_lt_of_pos _ m0) f2
end
end Ov
namespace Ov
open PySem PySem.Spec PyProof.Rows L2
/-- an instruction -/
structure I4 where
  op : Nat
  nm : List Nat
  ln : Nat
  pad : Bool
/-- a valid table of instructions -/
structure TabOk (cnt lg : Nat) (is : List I4) : Prop where
  cb : 2 ≤ cnt ∧ cnt ≤ 256
  lb : lg ≤ 12
  ne : is ≠ []
  few : is.length ≤ 71
  asc : (is.map I4.op).Pairwise (· < ·)
  ops : ∀ x ∈ is, x.op < cnt
  len : ∀ x ∈ is, 1 ≤ x.ln ∧ x.ln ≤ lg
  nms : ∀ x ∈ is, 1 ≤ x.nm.length ∧ x.nm.length ≤ 8 ∧ ∀ c ∈ x.nm, 97 ≤ c ∧ c ≤ 122
  nd : (is.map I4.nm).Nodup
/-- an instruction as it stands -/
def I4.vs (x : I4) : List V := [.int (x.op : Int), .str (txt x.nm), .int (x.ln : Int), .bl x.pad]
/-- instructions, each a tuple of its own, in a tuple (or list) -/
def Rows (H : Hp) (rs : List Addr) (is : List I4) : Prop := rs.length = is.length ∧ ∀ (i : Nat) (r : Addr) (x : I4), rs[i]? = some r → is[i]? = some x → H r = some (.tup x.vs)
theorem Rows.same {H H' : Hp} {rs : List Addr} {is : List I4} (h : Rows H rs is) (s : Same H H') : Rows H' rs is := ⟨h.1, fun i r x h1 h2 => s _ _ (h.2 i r x h1 h2)⟩
theorem Rows.more {H : Hp} {rs : List Addr} {is : List I4} {r : Addr} {x : I4} (h : Rows H rs is) (hr : H r = some (.tup x.vs)) : Rows H (rs ++ [r]) (is ++ [x]) := by
  refine ⟨by rw [List.length_append, List.length_append, h.1]; rfl, fun i r' x' h1 h2 => ?_⟩
  by_cases c : i < rs.length
  · rw [List.getElem?_append_left c] at h1
    rw [List.getElem?_append_left (by rw [← h.1]; exact c)] at h2
    exact h.2 i r' x' h1 h2
  · have hl := (List.getElem?_eq_some_iff.mp h1).1
    rw [List.length_append] at hl
    have e : i = rs.length := by
      have : ([r] : List Addr).length = 1 := rfl
      omega
    subst e
    rw [List.getElem?_append_right (Nat.le_refl _), Nat.sub_self] at h1
    rw [h.1, List.getElem?_append_right (Nat.le_refl _), Nat.sub_self] at h2
    have e1 : r = r' := Option.some.inj h1
    have e2 : x = x' := Option.some.inj h2
    subst e1 e2
    exact hr
/-- a table: (byte count, instructions) -/
structure Tab (H : Hp) (t : Addr) (cnt lg : Nat) (is : List I4) (it : Addr) (rs : List Addr) : Prop where
  at_ : H t = some (.tup [.int (cnt : Int), .ref it])
  its : H it = some (.tup (rs.map V.ref))
  rows : Rows H rs is
  ok : TabOk cnt lg is
theorem Tab.same {H H' : Hp} {t : Addr} {cnt lg : Nat} {is : List I4} {it : Addr} {rs : List Addr} (h : Tab H t cnt lg is it rs) (s : Same H H') : Tab H' t cnt lg is it rs := ⟨s _ _ h.at_, s _ _ h.its, h.rows.same s, h.ok⟩
/-- how long the list at l is -/
def lenAt (H : Hp) (l : Addr) : Nat := match H l with
  | some (.lst xs) => xs.length
  | _ => 0
theorem lenAt_of {H : Hp} {l : Addr} {xs : List V} (h : H l = some (.lst xs)) : lenAt H l = xs.length := by
  unfold lenAt
  rw [h]
end Ov
namespace Ov
open PySem PySem.Spec PyProof.Rows L2
theorem nlt_sign {a b : Nat} (h : a ≤ b) : decide (([b] : List Nat) < [a]) = false := by
  refine decide_eq_false ?_
  rw [List.cons_lt_cons_iff]
  rintro (z | ⟨_, z⟩)
  · omega
  · exact absurd z (by simp)
section
variable {P : Program} {w : World} {K : PySem.W.Frag} {mg : Str → Option Value} {base : Heap}
def spAscL (K : PySem.W.Frag) : Sp := fun vs H Q _ => ∃ (a : Addr) (ns : List Int), vs = [.ref a] ∧ SqL K H a (ns.map V.int) ∧ ns.length ≤ 1000 ∧ ns.Pairwise (· < ·) ∧ ∀ H', Same H H' → Q (.bl true) H'
theorem ok_ascL {f : Addr} {fd : FuncData} {k : Nat} (F : Fun K "is_ascending" "is_ascending" sAscending f fd) (T : Bi mg) : FnOk P w K mg base CX0 (k + 1) f fd ["numbers"] (spAscL K) := by
  refine F.ok scAscending (fun vs H Q E h => ?_) (fun cdv A outer s H vs Q E hr h => ?_)
  · obtain ⟨a, ns, rfl, _⟩ := h
    rfl
  · obtain ⟨a, ns, rfl, hS, hlen, hasc, q⟩ := h
    refine ⟨_, pss_one (ps_ret (pe_callB (cr_all rfl) (by rfl) T.all (by decide +kernel) (pa_cons
      (pe_lc (own := [("low", 1), ("high", 2)]) (g := gTup K 2 (gCons (gName 1) (gCons (gName 2) gNil))) (tt := tYes) (by rfl) scAscending.nd (RZ.pi_zipA (by rfl) T.zip (pa_cons (pv 0) (pa_cons (pe_slice sl_list (pv 0) (po_some pe_int) po_none) pa_nil)))
        (blkOk_by (own := [("low", 1), ("high", 2)]) (N := ["numbers", "low", "high"]) (sc := defScope sAscending) (by decide +kernel))
        (fun _ _ _ _ _ => pg_tup rfl (pgs_cons (pg_name (i := 1) scAscending.nd rfl (Or.inl rfl)) (pgs_cons (pg_name (i := 2) scAscending.nd rfl (Or.inl rfl)) pgs_nil)))
        (fun _ _ _ _ _ => pts_nil) (fun _ _ _ _ _ => pe_cmpR op_lt (pv 1) (pv 2) (nomark _))) pa_nil))), ?_⟩
    refine ⟨_, rfl, _, rfl, 1, rfl, a, ns.map V.int, rfl, hS, fun c nc => ?_⟩
    have s1 : Same H (upd H c (.lst (cutV (ns.map V.int) (some 1) none))) := same_upd nc
    have hc : SqL K (upd H c (.lst (cutV (ns.map V.int) (some 1) none))) c ((ns.drop 1).map V.int) := .inl (.inl (by rw [upd_same, cut1, List.map_drop]))
    refine ⟨a, c, ns.map V.int, (ns.drop 1).map V.int, rfl, .inl ⟨s1.seq hS, hc, fun D nD => lc_it (walk_zip (xs := ns.map V.int) (ys := (ns.drop 1).map V.int) rfl)
      (fun i H2 => Mk (upd H c (.lst (cutV (ns.map V.int) (some 1) none))) H2 D ((List.replicate i true).map V.bl)) (.start nD) (fun i H2 _ p => ⟨p.same.seq (s1.seq hS), p.same.seq hc⟩) (fun i x H2 H3 hi p y => ?_) (fun H2 p => ?_)⟩⟩
    · obtain ⟨t, x1, x2, rfl, nt, rfl, f1, f2⟩ := y
      have hi' : i < min ns.length (ns.length - 1) := by simpa using hi
      have h1 : i < ns.length := by omega
      have h2 : i + 1 < ns.length := by omega
      have e1 : x1 = .int ns[i] := by
        have : (ns.map V.int)[i]? = some x1 := f1
        rw [List.getElem?_map, List.getElem?_eq_getElem h1] at this
        exact (Option.some.inj this).symm
      have e2 : x2 = .int ns[i + 1] := by
        have : ((ns.drop 1).map V.int)[i]? = some x2 := f2
        rw [List.getElem?_map, List.getElem?_drop, Nat.add_comm 1 i, List.getElem?_eq_getElem h2] at this
        exact (Option.some.inj this).symm
      have hlt : ns[i] < ns[i + 1] := List.pairwise_iff_getElem.mp hasc i (i + 1) h1 h2 (by omega)
      refine ⟨t, [x1, x2], rfl, .inl (.inl upd_same), rfl, x1, [x2], rfl, x2, [], rfl, rfl, rfl, x1, rfl, x2, rfl, _, _, e1, e2, _, (by rw [upd_ne (ne_of_none p.at_ nt)]; exact p.at_), (by rw [List.length_map, List.length_replicate]; exact small1000 (by omega)), ?_⟩
      show Mk _ (upd _ D (.lst (_ ++ [V.bl (decide (ns[i] < ns[i + 1]))]))) D _
      rw [decide_eq_true hlt, List.replicate_succ', List.map_append]
      exact p.put (same_upd nt)
    · refine ⟨D, _, rfl, .inl (.inl p.at_), ?_⟩
      rw [all_true]
      exact q H2 (s1.trans p.same)
def spName : Sp := fun vs H Q _ => ∃ nm : List Nat, vs = [.str (txt nm)] ∧ 1 ≤ nm.length ∧ nm.length ≤ 8 ∧ (∀ c ∈ nm, 97 ≤ c ∧ c ≤ 122) ∧ ∀ H', Same H H' → Q (.bl true) H'
theorem scName : FnScope ["value", "letter"] ["value"] (defScope sIsName) := ⟨rfl, rfl, rfl, by decide +kernel, rfl, by decide +kernel, by decide +kernel⟩
theorem ok_name {f : Addr} {fd : FuncData} {k : Nat} (F : Fun K "is_name" "is_name" sIsName f fd) (T : Bi mg) (m8 : ∃ t, mg "MOST_LETTERS" = some (.int 8 t)) : FnOk P w K mg base CX0 (k + 1) f fd ["value"] spName := by
  obtain ⟨t8, m8⟩ := m8
  refine F.ok scName (fun vs H Q E h => ?_) (fun cdv A outer s H vs Q E hr h => ?_)
  · obtain ⟨nm, rfl, _⟩ := h
    rfl
  · obtain ⟨nm, rfl, h1, h2, low, q⟩ := h
    refine ⟨_, pss_cons (ps_if (PW.pt (pw_or (pt_not (pt_val (pe_callB call_isi (by rfl) T.isi (by decide +kernel) (pa_cons (pv 0) (pa_cons (pe_bltn (v := .ty "str") (u := .type "str") (by rfl) T.str (by decide +kernel) rfl) pa_nil)))))
        (pw_or1 (pt_not (pt_chain op_le op_le pe_int (pe_callB call_len_str (by rfl) T.len PySem.boot_len (pa_cons (pv 0) pa_nil)) (pe_glob (v := .int 8) (by rfl) m8 ⟨_, rfl⟩)))))) (pss_one (ps_ret pe_bl)) pss_nil)
      (pss_one (ps_ret (pe_callB (cr_all rfl) (by rfl) T.all (by decide +kernel) (pa_cons
        (pe_lc (own := [("letter", 1)]) (g := gName 1) (tt := tYes) (by rfl) scName.nd (pi_str (pv 0)) (blkOk_by (own := [("letter", 1)]) (N := ["value", "letter"]) (sc := defScope sIsName) (by decide +kernel))
          (fun _ _ _ _ _ => pg_name (i := 1) scName.nd rfl (Or.inl rfl)) (fun _ _ _ _ _ => pts_nil) (fun _ _ _ _ _ => pe_chain op_le_str op_le_str pe_str (pv 1) pe_str)) pa_nil)))), ?_⟩
    have hsz : (txt nm).length ≤ sizeLine := by rw [txt_len]; exact Nat.le_of_lt (small1000 (by omega))
    refine ⟨_, rfl, _, _, _, _, _, rfl, .ty _, .base (.str _), kit_ty (by decide +kernel : kitB "str" "str" = some true), _, rfl, ?_⟩
    refine iteF ⟨_, rfl, _, rfl, hsz, _, _, rfl, rfl, _, rfl, ?_⟩
    rw [txt_len, decide_eq_true (show (1 : Int) ≤ (nm.length : Int) by omega)]
    refine iteT ⟨_, _, rfl, rfl, _, rfl, ?_⟩
    rw [decide_eq_true (show (nm.length : Int) ≤ 8 by omega)]
    refine iteF ?_
    refine ⟨_, rfl, txt nm, rfl, fun D nD => lc_it (walk_str (z := txt nm)) (fun i H2 => Mk H H2 D ((List.replicate i true).map V.bl)) (.start nD) (fun _ _ _ _ => trivial) ?_ ?_⟩
    · rintro i x H2 H3 hi mk ⟨rfl, c, hc, rfl⟩
      have hcm : c ∈ nm := by
        have : nm[i]? = some c := by simpa [txt] using hc
        exact List.mem_of_getElem? this
      obtain ⟨c1, c2⟩ := low c hcm
      have hi' : i < nm.length := by
        have : i < (txt nm).cps.size := hi
        simpa [txt] using this
      refine ⟨rfl, _, rfl, Str.ofString "a", _, rfl, rfl, _, rfl, ?_⟩
      have ea : (Str.ofString "a").cps.toList = [97] := by decide +kernel
      have ez : (Str.ofString "z").cps.toList = [122] := by decide +kernel
      rw [ea, show decide (((⟨#[c]⟩ : Str).cps.toList) < ([97] : List Nat)) = false from nlt_sign c1]
      refine iteT ⟨_, Str.ofString "z", rfl, rfl, ?_⟩
      rw [ez, show decide (([122] : List Nat) < ((⟨#[c]⟩ : Str).cps.toList)) = false from nlt_sign c2]
      refine ⟨_, mk.at_, (by rw [List.length_map, List.length_replicate]; exact small1000 (by omega)), ?_⟩
      rw [List.replicate_succ', List.map_append]
      exact mk.put (Same.refl _)
    · intro H2 mk
      refine ⟨D, _, rfl, SqL.of mk.at_, ?_⟩
      rw [all_true]
      exact q H2 mk.same
/-- a valid instruction for this byte count -/
structure InsOk (cnt : Nat) (x : I4) : Prop where
  op : x.op < cnt
  nm : 1 ≤ x.nm.length ∧ x.nm.length ≤ 8 ∧ ∀ c ∈ x.nm, 97 ≤ c ∧ c ≤ 122
  ln : 1 ≤ x.ln ∧ x.ln ≤ 12
theorem TabOk.ins {cnt lg : Nat} {is : List I4} (h : TabOk cnt lg is) {x : I4} (hx : x ∈ is) : InsOk cnt x := ⟨h.ops x hx, h.nms x hx, (h.len x hx).1, Nat.le_trans (h.len x hx).2 h.lb⟩
def spInstr : Sp := fun vs H Q _ => ∃ (cnt : Nat) (r : Addr) (x : I4), vs = [.int (cnt : Int), .ref r] ∧ H r = some (.tup x.vs) ∧ InsOk cnt x ∧ ∀ H', Same H H' → Q (.bl true) H'
theorem scInstr : FnScope ["byte_count", "value", "opcode", "name", "length", "is_padding"] ["byte_count", "value"] (defScope sIsInstr) := ⟨rfl, rfl, rfl, by decide +kernel, rfl, by decide +kernel, by decide +kernel⟩
theorem ok_instr {f fB fN : Addr} {fd fdB fdN : FuncData} {k : Nat} (F : Fun K "is_instruction" "is_instruction" sIsInstr f fd) (T : Bi mg)
    (B : Def K mg "is_integer_between" sBetween fB fdB ["value", "least", "most"]) (GB : FnOk P w K mg base CX0 (k + 1) fB fdB ["value", "least", "most"] spBetween) (Nm : Def K mg "is_name" sIsName fN fdN ["value"]) (m8 : ∃ t, mg "MOST_LETTERS" = some (.int 8 t)) (m12 : ∃ t, mg "MOST_LENGTH" = some (.int 12 t)) :
    FnOk P w K mg base CX0 (k + 2) f fd ["byte_count", "value"] spInstr := by
  have GN : FnOk P w K mg base CX0 (k + 1) fN fdN ["value"] spName := ok_name Nm.fn T m8
  obtain ⟨t12, m12⟩ := m12
  refine F.ok scInstr (fun vs H Q E h => ?_) (fun cdv A outer s H vs Q E hr h => ?_)
  · obtain ⟨cnt, r, x, rfl, _⟩ := h
    rfl
  · obtain ⟨cnt, r, x, rfl, hx, ok, q⟩ := h
    refine ⟨_, pss_cons (ps_if (PW.pt (pw_or (pt_not (pt_val (pe_callB call_isi (by rfl) T.isi (by decide +kernel) (pa_cons (pv 1) (pa_cons (pe_bltn (v := .ty "tuple") (u := .type "tuple") (by rfl) T.tuple (by decide +kernel) rfl) pa_nil)))))
        (pw_or1 (pt_cmpR op_ne (pe_callB call_len_seq (by rfl) T.len PySem.boot_len (pa_cons (pv 1) pa_nil)) pe_int (nomark _))))) (pss_one (ps_ret pe_bl)) pss_nil)
      (pss_cons (ps_asg (pv 1) (pg_tup rfl (pgs_cons (pg_name (i := 2) scInstr.nd rfl (.inl rfl)) (pgs_cons (pg_name (i := 3) scInstr.nd rfl (.inl rfl)) (pgs_cons (pg_name (i := 4) scInstr.nd rfl (.inl rfl)) (pgs_cons (pg_name (i := 5) scInstr.nd rfl (.inl rfl)) pgs_nil))))))
      (pss_one (ps_ret (pe_and (pe_call GB hr (by rfl) B.gl B.fn.kp B.bi .nil pass0 (pa_cons (pv 2) (pa_cons pe_int (pa_cons (pe_op op_sub (pv 0) pe_int) pa_nil))))
        (pe_and (pe_call GN hr (by rfl) Nm.gl Nm.fn.kp Nm.bi .nil pass0 (pa_cons (pv 3) pa_nil))
        (pe_and (pe_call GB hr (by rfl) B.gl B.fn.kp B.bi .nil pass0 (pa_cons (pv 4) (pa_cons pe_int (pa_cons (pe_glob (v := .int 12) (by rfl) m12 ⟨_, rfl⟩) pa_nil))))
        (pe_one (pe_callB call_isi (by rfl) T.isi (by decide +kernel) (pa_cons (pv 5) (pa_cons (pe_bltn (v := .ty "bool") (u := .type "bool") (by rfl) T.bool (by decide +kernel) rfl) pa_nil)))))))))), ?_⟩
    refine ⟨_, rfl, _, _, _, _, _, rfl, .ty _, .base (.tup hx), kit_ty (by decide +kernel : kitB "tuple" "tuple" = some true), _, rfl, ?_⟩
    refine iteF ⟨_, rfl, r, _, rfl, .inr (SqT.of hx), rfl, _, rfl, ?_⟩
    refine iteNS rfl ?_
    refine ⟨_, rfl, r, _, rfl, SqT.of hx, rfl, _, _, rfl, _, _, rfl, _, _, rfl, _, _, rfl, rfl, ?_⟩
    have o1 := ok.op
    have o2 := ok.ln
    refine ⟨_, rfl, _, rfl, _, _, rfl, rfl, _, _, _, rfl, by omega, by omega, _, rfl, iteT ?_⟩
    refine ⟨_, rfl, x.nm, rfl, ok.nm.1, ok.nm.2.1, ok.nm.2.2, fun H1 s1 => ⟨_, rfl, iteT ?_⟩⟩
    refine ⟨_, rfl, _, _, _, rfl, by omega, by omega, _, rfl, iteT ?_⟩
    exact ⟨_, rfl, _, _, _, _, _, rfl, .ty _, .base (.bl _), kit_ty (by decide +kernel : kitB "bool" "bool" = some true), q H1 s1⟩
def spAreI : Sp := fun vs H Q _ => ∃ (cnt lg : Nat) (it : Addr) (rs : List Addr) (is : List I4), vs = [.int (cnt : Int), .ref it] ∧ H it = some (.tup (rs.map V.ref)) ∧ Rows H rs is ∧ TabOk cnt lg is ∧ ∀ H', Same H H' → Q (.bl true) H'
theorem scAreI : FnScope ["byte_count", "value", "opcodes", "names", "item", "opcode", "name", "length", "is_padding"] ["byte_count", "value"] (defScope sAreInstr) := ⟨rfl, rfl, rfl, by decide +kernel, rfl, by decide +kernel, by decide +kernel⟩
theorem rows_at {H : Hp} {rs : List Addr} {is : List I4} (h : Rows H rs is) {i : Nat} {x : V} (hx : (rs.map V.ref)[i]? = some x) : ∃ (hi : i < is.length) (r : Addr), x = .ref r ∧ H r = some (.tup is[i].vs) ∧ rs[i]? = some r := by
  have hi : i < rs.length := by
    have := (List.getElem?_eq_some_iff.mp hx).1
    rwa [List.length_map] at this
  have hi2 : i < is.length := by rw [← h.1]; exact hi
  rw [List.getElem?_map, List.getElem?_eq_getElem hi] at hx
  exact ⟨hi2, rs[i], (Option.some.inj hx).symm, h.2 i _ _ (List.getElem?_eq_getElem hi) (List.getElem?_eq_getElem hi2), List.getElem?_eq_getElem hi⟩
theorem ok_areI {f fI fA : Addr} {fd fdI fdA : FuncData} {k : Nat} (F : Fun K "are_instructions" "are_instructions" sAreInstr f fd) (T : Bi mg)
    (Ii : Def K mg "is_instruction" sIsInstr fI fdI ["byte_count", "value"]) (GI : FnOk P w K mg base CX0 k fI fdI ["byte_count", "value"] spInstr) (A : Def K mg "is_ascending" sAscending fA fdA ["numbers"]) (GA : FnOk P w K mg base CX0 k fA fdA ["numbers"] (spAscL K)) :
    FnOk P w K mg base CX0 (k + 1) f fd ["byte_count", "value"] spAreI := by
  refine F.ok scAreI (fun vs H Q E h => ?_) (fun cdv A' outer s H vs Q E hr h => ?_)
  · obtain ⟨cnt, lg, it, rs, is, rfl, _⟩ := h
    rfl
  · obtain ⟨cnt, lg, it, rs, is, rfl, hit, R, ok, q⟩ := h
    refine ⟨_, pss_cons (ps_if (PW.pt (pw_or (pt_not (pt_val (pe_callB call_isi (by rfl) T.isi (by decide +kernel) (pa_cons (pv 1) (pa_cons (pe_bltn (v := .ty "tuple") (u := .type "tuple") (by rfl) T.tuple (by decide +kernel) rfl) pa_nil)))))
        (pw_or1 (pt_cmpR op_eq (pe_callB call_len_seq (by rfl) T.len PySem.boot_len (pa_cons (pv 1) pa_nil)) pe_int (nomark _))))) (pss_one (ps_ret pe_bl)) pss_nil)
      (pss_cons (ps_if (pt_not (pt_val (pe_callB (cr_all rfl) (by rfl) T.all (by decide +kernel) (pa_cons
        (pe_lc (own := [("item", 4)]) (g := gName 4) (tt := tYes) (by rfl) scAreI.nd (pi_tup (pv 1)) (blkOk_by (own := [("item", 4)]) (N := ["byte_count", "value", "opcodes", "names", "item", "opcode", "name", "length", "is_padding"]) (sc := defScope sAreInstr) (by decide +kernel))
          (fun _ _ _ _ _ => pg_name (i := 4) scAreI.nd rfl (Or.inl rfl)) (fun _ _ _ _ _ => pts_nil)
          (fun _ _ _ _ _ => pe_call GI hr (by rfl) Ii.gl Ii.fn.kp Ii.bi .nil pass0 (pa_cons (pv 0) (pa_cons (pv 4) pa_nil)))) pa_nil)))) (pss_one (ps_ret pe_bl)) pss_nil)
      (pss_cons (ps_setLc (i := 2) (own := [("opcode", 5), ("name", 6), ("length", 7), ("is_padding", 8)]) (g := gTup K 4 (gCons (gName 5) (gCons (gName 6) (gCons (gName 7) (gCons (gName 8) gNil))))) (tt := tYes) (by rfl) scAreI.nd rfl rfl (sw_true rfl rfl rfl (by decide +kernel)) (pi_tup (pv 1))
          (blkOk_by (own := [("opcode", 5), ("name", 6), ("length", 7), ("is_padding", 8)]) (N := ["byte_count", "value", "opcodes", "names", "item", "opcode", "name", "length", "is_padding"]) (sc := defScope sAreInstr) (by decide +kernel))
          (fun _ _ _ _ _ => pg_tup rfl (pgs_cons (pg_name (i := 5) scAreI.nd rfl (Or.inl rfl)) (pgs_cons (pg_name (i := 6) scAreI.nd rfl (Or.inl rfl)) (pgs_cons (pg_name (i := 7) scAreI.nd rfl (Or.inl rfl)) (pgs_cons (pg_name (i := 8) scAreI.nd rfl (Or.inl rfl)) pgs_nil)))))
          (fun _ _ _ _ _ => pts_nil) (fun _ _ _ _ _ => pv 5))
      (pss_cons (ps_setLc (i := 3) (own := [("opcode", 5), ("name", 6), ("length", 7), ("is_padding", 8)]) (g := gTup K 4 (gCons (gName 5) (gCons (gName 6) (gCons (gName 7) (gCons (gName 8) gNil))))) (tt := tYes) (by rfl) scAreI.nd rfl rfl (sw_true rfl rfl rfl (by decide +kernel)) (pi_tup (pv 1))
          (blkOk_by (own := [("opcode", 5), ("name", 6), ("length", 7), ("is_padding", 8)]) (N := ["byte_count", "value", "opcodes", "names", "item", "opcode", "name", "length", "is_padding"]) (sc := defScope sAreInstr) (by decide +kernel))
          (fun _ _ _ _ _ => pg_tup rfl (pgs_cons (pg_name (i := 5) scAreI.nd rfl (Or.inl rfl)) (pgs_cons (pg_name (i := 6) scAreI.nd rfl (Or.inl rfl)) (pgs_cons (pg_name (i := 7) scAreI.nd rfl (Or.inl rfl)) (pgs_cons (pg_name (i := 8) scAreI.nd rfl (Or.inl rfl)) pgs_nil)))))
          (fun _ _ _ _ _ => pts_nil) (fun _ _ _ _ _ => pv 6))
      (pss_one (ps_ret (pe_and (pe_call GA hr (by rfl) A.gl A.fn.kp A.bi .nil pass0 (pa_cons (pv 2) pa_nil))
        (pe_one (pe_cmpR op_eq (pe_lenSetT (by rfl) (by rfl) T.len (by rfl) T.set (pv 3)) (pe_callB call_len_seq (by rfl) T.len PySem.boot_len (pa_cons (pv 3) pa_nil)) (nomark _))))))))), ?_⟩
    have few := ok.few
    have rl := R.1
    refine ⟨_, rfl, _, _, _, _, _, rfl, .ty _, .base (.tup hit), kit_ty (by decide +kernel : kitB "tuple" "tuple" = some true), _, rfl, ?_⟩
    refine iteF ⟨_, rfl, it, _, rfl, .inr (SqT.of hit), rfl, _, rfl, ?_⟩
    rw [decide_eq_false (fun z => ok.ne (List.eq_nil_of_length_eq_zero (by have := V.int.inj z; rw [List.length_map] at this; omega)))]
    refine iteF ?_
    -- all are instructions
    refine ⟨_, rfl, it, rfl, ⟨_, SqT.of hit⟩, fun D nD => lc_tup (K := K) (a := it) (xs := rs.map V.ref) (fun i H2 => Mk H H2 D ((List.replicate i true).map V.bl)) (.start nD) (fun i H2 _ p => p.same.tup (SqT.of hit)) ?_ ?_⟩
    · intro i x H2 hx mk
      obtain ⟨hi, r, rfl, hr2, _⟩ := rows_at R hx
      refine ⟨rfl, _, rfl, _, rfl, cnt, r, is[i], rfl, mk.same _ _ hr2, ok.ins (List.getElem_mem hi), fun H3 s3 => ⟨_, s3 _ _ mk.at_, (by rw [List.length_map, List.length_replicate]; exact small1000 (by omega)), ?_⟩⟩
      rw [List.replicate_succ', List.map_append]
      exact mk.put s3
    intro H2 mk
    refine ⟨D, _, rfl, SqL.of mk.at_, _, rfl, ?_⟩
    rw [all_true]
    refine iteF ?_
    have s2 := mk.same
    have hit2 := s2 _ _ hit
    have R2 := R.same s2
    clear mk
    -- opcodes
    refine ⟨_, rfl, it, rfl, ⟨_, SqT.of hit2⟩, fun D3 nD3 => lc_tup (K := K) (a := it) (xs := rs.map V.ref) (fun i H3 => Mk H2 H3 D3 (((is.take i).map fun x => (x.op : Int)).map V.int)) (.start nD3) (fun i H3 _ p => p.same.tup (SqT.of hit2)) ?_ ?_⟩
    · intro i x H3 hx mk
      obtain ⟨hi, r, rfl, hr2, _⟩ := rows_at R2 hx
      refine ⟨r, _, rfl, SqT.of (mk.same _ _ hr2), rfl, _, _, rfl, _, _, rfl, _, _, rfl, _, _, rfl, rfl, rfl, _, rfl, _, mk.at_, (by rw [List.length_map, List.length_map, List.length_take]; exact small1000 (by omega)), ?_⟩
      rw [take_more (List.getElem?_eq_getElem hi), List.map_append, List.map_append]
      exact mk.put (Same.refl _)
    intro H3 m3
    rw [List.length_map, rl, List.take_length] at m3
    have s3 := s2.trans m3.same
    have hit3 := s3 _ _ hit
    have R3 := R.same s3
    -- names
    refine ⟨_, rfl, it, rfl, ⟨_, SqT.of hit3⟩, fun D4 nD4 => lc_tup (K := K) (a := it) (xs := rs.map V.ref) (fun i H4 => Mk H3 H4 D4 (((is.take i).map fun x => txt x.nm).map V.str)) (.start nD4) (fun i H4 _ p => p.same.tup (SqT.of hit3)) ?_ ?_⟩
    · intro i x H4 hx mk
      obtain ⟨hi, r, rfl, hr2, _⟩ := rows_at R3 hx
      refine ⟨r, _, rfl, SqT.of (mk.same _ _ hr2), rfl, _, _, rfl, _, _, rfl, _, _, rfl, _, _, rfl, rfl, rfl, _, rfl, _, mk.at_, (by rw [List.length_map, List.length_map, List.length_take]; exact small1000 (by omega)), ?_⟩
      rw [take_more (List.getElem?_eq_getElem hi), List.map_append, List.map_append]
      exact mk.put (Same.refl _)
    intro H4 m4
    rw [List.length_map, rl, List.take_length] at m4
    have h43 := m4.same _ _ m3.at_
    refine ⟨_, rfl, D3, is.map fun x => (x.op : Int), rfl, SqL.of h43, by rw [List.length_map]; omega, ?_, fun H5 s5 => ⟨_, rfl, iteT ?_⟩⟩
    · have := ok.asc
      rw [List.pairwise_map] at this ⊢
      exact this.imp fun z => by omega
    have h54 := s5 _ _ m4.at_
    refine ⟨_, rfl, D4, is.map fun x => txt x.nm, rfl, SqL.of h54, ?_, by rw [List.length_map]; omega, _, rfl, D4, _, rfl, .inl (SqL.of h54), rfl, ?_⟩
    · have := ok.nd
      rw [List.nodup_iff_pairwise_ne, List.pairwise_map] at this ⊢
      exact this.imp fun z y => z (txt_inj y)
    rw [decide_eq_true (by rw [List.length_map, List.length_map, List.length_map])]
    exact q H5 ((s3.trans m4.same).trans s5)
end
end Ov
namespace Ov
open PySem PySem.Spec PyProof.Rows L2
abbrev sInitI : Stmt := inClass cInstructionSet 0
def lenKV (is : List I4) : List (Key × V) := is.map fun x => ((Sum.inl (x.op : Int) : Key), V.int (x.ln : Int))
def nameKV (is : List I4) : List (Key × V) := is.map fun x => ((Sum.inr (txt x.nm) : Key), V.int (x.op : Int))
def flds (cnt : Nat) (it d1 d2 : Addr) : List (Str × V) := putF "opcode_of_name" (.ref d2) (putF "length_of_opcode" (.ref d1) (putF "instructions" (.ref it) (putF "byte_count" (.int (cnt : Int)) [])))
theorem n01 : ¬ (("byte_count" : Str) = "opcode_of_name") := by decide +kernel
theorem n02 : ¬ (("byte_count" : Str) = "length_of_opcode") := by decide +kernel
theorem n03 : ¬ (("byte_count" : Str) = "instructions") := by decide +kernel
theorem n11 : ¬ (("instructions" : Str) = "opcode_of_name") := by decide +kernel
theorem n12 : ¬ (("instructions" : Str) = "length_of_opcode") := by decide +kernel
theorem n21 : ¬ (("length_of_opcode" : Str) = "opcode_of_name") := by decide +kernel
theorem flds_cnt (cnt : Nat) (it d1 d2 : Addr) : (flds cnt it d1 d2).lookup ("byte_count" : Str) = some (.int (cnt : Int)) := by
  unfold flds
  rw [lookup_putF, if_neg n01, lookup_putF, if_neg n02, lookup_putF, if_neg n03, lookup_putF, if_pos rfl]
theorem flds_its (cnt : Nat) (it d1 d2 : Addr) : (flds cnt it d1 d2).lookup ("instructions" : Str) = some (.ref it) := by
  unfold flds
  rw [lookup_putF, if_neg n11, lookup_putF, if_neg n12, lookup_putF, if_pos rfl]
theorem flds_len (cnt : Nat) (it d1 d2 : Addr) : (flds cnt it d1 d2).lookup ("length_of_opcode" : Str) = some (.ref d1) := by
  unfold flds
  rw [lookup_putF, if_neg n21, lookup_putF, if_pos rfl]
theorem flds_nms (cnt : Nat) (it d1 d2 : Addr) : (flds cnt it d1 d2).lookup ("opcode_of_name" : Str) = some (.ref d2) := by
  unfold flds
  rw [lookup_putF, if_pos rfl]
theorem put_fresh {kvs : List (Key × V)} {k : Key} {v : V} (h : k ∉ kvs.map (·.1)) : putK kvs k v = kvs ++ [(k, v)] := by
  unfold putK
  refine if_neg fun z => h ?_
  obtain ⟨q, hq, e⟩ := List.any_eq_true.mp z
  exact List.mem_map.mpr ⟨q, hq, of_decide_eq_true e⟩
/-- an instruction set as it stands -/
structure SetAt (C : Addr) (H : Hp) (p : Addr) (cnt : Nat) (it : Addr) (is : List I4) : Prop where
  ob : ∃ dx d1 d2, H p = some (.ins C dx (flds cnt it d1 d2)) ∧ H d1 = some (.dK (lenKV is)) ∧ H d2 = some (.dK (nameKV is))
theorem SetAt.same {C : Addr} {H H' : Hp} {p : Addr} {cnt : Nat} {it : Addr} {is : List I4} (h : SetAt C H p cnt it is) (s : Same H H') : SetAt C H' p cnt it is := by
  obtain ⟨dx, d1, d2, h1, h2, h3⟩ := h.ob
  exact ⟨dx, d1, d2, s _ _ h1, s _ _ h2, s _ _ h3⟩
/-- what the top says of the class -/
structure SetTxt (K : PySem.W.Frag) (mg : Str → Option Value) (C : Addr) : Prop where
  cl : Cls K C
  nB : NoAttr K C "byte_count"
  nI : NoAttr K C "instructions"
  nL : NoAttr K C "length_of_opcode"
  nO : NoAttr K C "opcode_of_name"
  mgC : mg "InstructionSet" = some (.ref C)
section
variable {P : Program} {w : World} {K : PySem.W.Frag} {mg : Str → Option Value} {base : Heap}
def spInitI (C : Addr) : Sp := fun vs H Q _ => ∃ (p dx : Addr) (cnt lg : Nat) (it : Addr) (rs : List Addr) (is : List I4), vs = [.ref p, .int (cnt : Int), .ref it] ∧ H p = some (.ins C dx []) ∧ H it = some (.tup (rs.map V.ref)) ∧ Rows H rs is ∧ TabOk cnt lg is ∧
  ∀ H', SetAt C H' p cnt it is → (∀ b o, H b = some o → b ≠ p → H' b = some o) → Q .non H'
theorem scInitI : FnScope ["self", "byte_count", "instructions", "opcode", "name", "length", "is_padding"] ["self", "byte_count", "instructions"] (defScope sInitI) := ⟨rfl, rfl, rfl, by decide +kernel, rfl, by decide +kernel, by decide +kernel⟩
theorem ok_initI {f fB fA C : Addr} {fd fdB fdA : FuncData} {k : Nat} (F : Fun K "__init__" "InstructionSet.__init__" sInitI f fd) (T : Bi mg) (S : SetTxt K mg C)
    (B : Def K mg "is_integer_between" sBetween fB fdB ["value", "least", "most"]) (GB : FnOk P w K mg base CX0 k fB fdB ["value", "least", "most"] spBetween)
    (A : Def K mg "are_instructions" sAreInstr fA fdA ["byte_count", "value"]) (GA : FnOk P w K mg base CX0 k fA fdA ["byte_count", "value"] spAreI)
    (m2 : ∃ t, mg "LEAST_BYTE_COUNT" = some (.int 2 t)) (m256 : ∃ t, mg "MOST_BYTE_COUNT" = some (.int 256 t)) : FnOk P w K mg base CX0 (k + 1) f fd ["self", "byte_count", "instructions"] (spInitI C) := by
  obtain ⟨t2, m2⟩ := m2
  obtain ⟨t256, m256⟩ := m256
  refine F.ok scInitI (fun vs H Q E h => ?_) (fun cdv A' outer s H vs Q E hr h => ?_)
  · obtain ⟨p, dx, cnt, lg, it, rs, is, rfl, _⟩ := h
    rfl
  · obtain ⟨p, dx, cnt, lg, it, rs, is, rfl, hp, hit, R, ok, q⟩ := h
    refine ⟨_, pss_cons (ps_if (pt_not (pt_val (pe_call GB hr (by rfl) B.gl B.fn.kp B.bi .nil pass0 (pa_cons (pv 1) (pa_cons (pe_glob (v := .int 2) (by rfl) m2 ⟨_, rfl⟩) (pa_cons (pe_glob (v := .int 256) (by rfl) m256 ⟨_, rfl⟩) pa_nil)))))) (pss_one ps_never) pss_nil)
      (pss_cons (ps_if (pt_not (pt_val (pe_call GA hr (by rfl) A.gl A.fn.kp A.bi .nil pass0 (pa_cons (pv 1) (pa_cons (pv 2) pa_nil))))) (pss_one ps_never) pss_nil)
      (pss_cons (ps_fld (pv 0) (pv 1) rfl)
      (pss_cons (ps_fld (pv 0) (pv 2) rfl)
      (pss_cons (ps_fld (pv 0) (pe_dc (own := [("opcode", 3), ("name", 4), ("length", 5), ("is_padding", 6)]) (g := gTup K 4 (gCons (gName 3) (gCons (gName 4) (gCons (gName 5) (gCons (gName 6) gNil))))) (tt := tYes) (by rfl) scInitI.nd (pi_tup (pv 2))
          (blkOk_by (own := [("opcode", 3), ("name", 4), ("length", 5), ("is_padding", 6)]) (N := ["self", "byte_count", "instructions", "opcode", "name", "length", "is_padding"]) (sc := defScope sInitI) (by decide +kernel))
          (fun _ _ _ _ _ => pg_tup rfl (pgs_cons (pg_name (i := 3) scInitI.nd rfl (Or.inl rfl)) (pgs_cons (pg_name (i := 4) scInitI.nd rfl (Or.inl rfl)) (pgs_cons (pg_name (i := 5) scInitI.nd rfl (Or.inl rfl)) (pgs_cons (pg_name (i := 6) scInitI.nd rfl (Or.inl rfl)) pgs_nil)))))
          (fun _ _ _ _ _ => pts_nil) (fun _ _ _ _ _ => pv 3) (fun _ _ _ _ _ => pv 5)) rfl)
      (pss_one (ps_fld (pv 0) (pe_dc (own := [("opcode", 3), ("name", 4), ("length", 5), ("is_padding", 6)]) (g := gTup K 4 (gCons (gName 3) (gCons (gName 4) (gCons (gName 5) (gCons (gName 6) gNil))))) (tt := tYes) (by rfl) scInitI.nd (pi_tup (pv 2))
          (blkOk_by (own := [("opcode", 3), ("name", 4), ("length", 5), ("is_padding", 6)]) (N := ["self", "byte_count", "instructions", "opcode", "name", "length", "is_padding"]) (sc := defScope sInitI) (by decide +kernel))
          (fun _ _ _ _ _ => pg_tup rfl (pgs_cons (pg_name (i := 3) scInitI.nd rfl (Or.inl rfl)) (pgs_cons (pg_name (i := 4) scInitI.nd rfl (Or.inl rfl)) (pgs_cons (pg_name (i := 5) scInitI.nd rfl (Or.inl rfl)) (pgs_cons (pg_name (i := 6) scInitI.nd rfl (Or.inl rfl)) pgs_nil)))))
          (fun _ _ _ _ _ => pts_nil) (fun _ _ _ _ _ => pv 4) (fun _ _ _ _ _ => pv 3)) rfl)))))), ?_⟩
    have cb := ok.cb
    have few := ok.few
    have rl := R.1
    refine ⟨_, rfl, _, _, _, rfl, by omega, by omega, _, rfl, iteF ?_⟩
    refine ⟨_, rfl, _, rfl, cnt, lg, it, rs, is, rfl, hit, R, ok, fun H1 s1 => ⟨_, rfl, iteF ?_⟩⟩
    have hp1 := s1 _ _ hp
    -- byte_count, instructions
    refine ⟨_, rfl, _, rfl, p, C, dx, [], rfl, hp1, S.cl, S.nB, (by show 0 < 1000; decide), ?_⟩
    refine ⟨_, rfl, _, rfl, p, C, dx, _, rfl, upd_same, S.cl, S.nI, (by show 1 < 1000; decide), ?_⟩
    generalize hH3 : upd (upd H1 p (HO.ins C dx (putF "byte_count" (V.int (cnt : Int)) []))) p (HO.ins C dx (putF "instructions" (V.ref it) (putF "byte_count" (V.int (cnt : Int)) []))) = H3
    have hp3 : H3 p = some (.ins C dx (putF "instructions" (V.ref it) (putF "byte_count" (V.int (cnt : Int)) []))) := by rw [← hH3]; exact upd_same
    have s3 : ∀ b o, H1 b = some o → b ≠ p → H3 b = some o := fun b o e n => by rw [← hH3, upd_ne n, upd_ne n]; exact e
    have itp : it ≠ p := fun z => by rw [z, hp] at hit; cases hit
    have hit3 := s3 _ _ (s1 _ _ hit) itp
    have R3 : Rows H3 rs is := ⟨R.1, fun i r x h1 h2 => s3 _ _ (s1 _ _ (R.2 i r x h1 h2)) fun z => by have := R.2 i r x h1 h2; rw [z, hp] at this; cases this⟩
    clear hH3
    -- lengths by opcodes
    have fresh1 : ∀ (i : Nat) (hi : i < is.length), (Sum.inl ((is[i]).op : Int) : Key) ∉ (lenKV (is.take i)).map (·.1) := fun i hi z => by
      unfold lenKV at z
      rw [List.map_map] at z
      obtain ⟨y, hy, e⟩ := List.mem_map.mp z
      obtain ⟨j, hj, ej⟩ := List.mem_take_iff_getElem.mp hy
      have e' : (y.op : Int) = ((is[i]).op : Int) := Sum.inl.inj e
      have h1 := List.pairwise_iff_getElem.mp ok.asc j i (by rw [List.length_map]; omega) (by rw [List.length_map]; exact hi) (by omega)
      rw [List.getElem_map, List.getElem_map, ej] at h1
      omega
    have fresh2 : ∀ (i : Nat) (hi : i < is.length), (Sum.inr (txt (is[i]).nm) : Key) ∉ (nameKV (is.take i)).map (·.1) := fun i hi z => by
      unfold nameKV at z
      rw [List.map_map] at z
      obtain ⟨y, hy, e⟩ := List.mem_map.mp z
      obtain ⟨j, hj, ej⟩ := List.mem_take_iff_getElem.mp hy
      have e' : txt y.nm = txt (is[i]).nm := Sum.inr.inj e
      have h1 := List.pairwise_iff_getElem.mp (List.nodup_iff_pairwise_ne.mp ok.nd) j i (by rw [List.length_map]; omega) (by rw [List.length_map]; exact hi) (by omega)
      rw [List.getElem_map, List.getElem_map, ej] at h1
      exact h1 (txt_inj e')
    refine ⟨_, rfl, it, rfl, ⟨_, SqT.of hit3⟩, fun D nD => dc_tup (K := K) (a := it) (xs := rs.map V.ref) (fun i H4 => Same H3 H4 ∧ H4 D = some (.dK (lenKV (is.take i)))) ⟨same_upd nD, upd_same⟩ (fun i H4 _ p => p.1.tup (SqT.of hit3)) ?_ ?_⟩
    · rintro i x H4 hx ⟨s4, hD⟩
      obtain ⟨hi, r, rfl, hr2, _⟩ := rows_at R3 hx
      refine ⟨r, _, rfl, SqT.of (s4 _ _ hr2), rfl, _, _, rfl, _, _, rfl, _, _, rfl, _, _, rfl, rfl, rfl, _, rfl, _, rfl, _, Sum.inl ((is[i]).op : Int), rfl, hD, ?_, fun b o e => ?_, ?_⟩
      · unfold lenKV
        rw [List.length_map, List.length_take]
        exact small1000 (by omega)
      · rw [upd_ne (ne_of_none e nD)]
        exact s4 b o e
      · rw [upd_same, put_fresh (fresh1 i hi), take_more (List.getElem?_eq_getElem hi)]
        unfold lenKV
        rw [List.map_append]
        rfl
    rintro H4 ⟨s4, hD⟩
    rw [List.length_map, rl, List.take_length] at hD
    have hDp : D ≠ p := (ne_of_none hp3 nD).symm
    refine ⟨_, rfl, p, C, dx, _, rfl, s4 _ _ hp3, S.cl, S.nL, (by show 2 < 1000; decide), ?_⟩
    generalize hH5 : upd H4 p (HO.ins C dx (putF "length_of_opcode" (V.ref D) (putF "instructions" (V.ref it) (putF "byte_count" (V.int (cnt : Int)) [])))) = H5
    have hp5 : H5 p = some (.ins C dx (putF "length_of_opcode" (V.ref D) (putF "instructions" (V.ref it) (putF "byte_count" (V.int (cnt : Int)) [])))) := by rw [← hH5]; exact upd_same
    have s5 : ∀ b o, H4 b = some o → b ≠ p → H5 b = some o := fun b o e n => by rw [← hH5, upd_ne n]; exact e
    have hD5 := s5 _ _ hD hDp
    have hit5 := s5 _ _ (s4 _ _ hit3) itp
    have R5 : Rows H5 rs is := ⟨R.1, fun i r x h1 h2 => s5 _ _ (s4 _ _ (R3.2 i r x h1 h2)) fun z => by have := R3.2 i r x h1 h2; rw [z, hp3] at this; cases this⟩
    clear hH5
    -- opcodes by names
    refine ⟨_, rfl, it, rfl, ⟨_, SqT.of hit5⟩, fun E2 nE => dc_tup (K := K) (a := it) (xs := rs.map V.ref) (fun i H6 => Same H5 H6 ∧ H6 E2 = some (.dK (nameKV (is.take i)))) ⟨same_upd nE, upd_same⟩ (fun i H6 _ p => p.1.tup (SqT.of hit5)) ?_ ?_⟩
    · rintro i x H6 hx ⟨s6, hE⟩
      obtain ⟨hi, r, rfl, hr2, _⟩ := rows_at R5 hx
      refine ⟨r, _, rfl, SqT.of (s6 _ _ hr2), rfl, _, _, rfl, _, _, rfl, _, _, rfl, _, _, rfl, rfl, rfl, _, rfl, _, rfl, _, Sum.inr (txt (is[i]).nm), rfl, hE, ?_, fun b o e => ?_, ?_⟩
      · unfold nameKV
        rw [List.length_map, List.length_take]
        exact small1000 (by omega)
      · rw [upd_ne (ne_of_none e nE)]
        exact s6 b o e
      · rw [upd_same, put_fresh (fresh2 i hi), take_more (List.getElem?_eq_getElem hi)]
        unfold nameKV
        rw [List.map_append]
        rfl
    rintro H6 ⟨s6, hE⟩
    rw [List.length_map, rl, List.take_length] at hE
    have hEp : E2 ≠ p := (ne_of_none hp5 nE).symm
    refine ⟨_, rfl, p, C, dx, _, rfl, s6 _ _ hp5, S.cl, S.nO, (by show 3 < 1000; decide), ?_⟩
    refine q _ ⟨dx, D, E2, upd_same, ?_, ?_⟩ fun b o e n => ?_
    · rw [upd_ne hDp]; exact s6 _ _ hD5
    · rw [upd_ne hEp]; exact hE
    · rw [upd_ne n]
      exact s6 _ _ (s5 _ _ (s4 _ _ (s3 _ _ (s1 _ _ e) n)) n)
end
end Ov
namespace Ov
open PySem PySem.Spec PyProof.Rows L2
/-- a part of the heap, and what was laid beside it -/
structure Grow (T H T' H' : Hp) : Prop where
  hh : Same H H'
  tt : Same T T'
  th : Same T' H'
  new : ∀ b, T b = none → H b ≠ none → T' b = none
theorem Grow.refl {T H : Hp} (h : Same T H) : Grow T H T H := ⟨Same.refl _, Same.refl _, h, fun _ e _ => e⟩
theorem Grow.put {T H T' H' : Hp} (g : Grow T H T' H') {p : Addr} (o : HO) (n : H' p = none) : Grow T H (upd T' p o) (upd H' p o) := by
  refine ⟨g.hh.trans (same_upd n), g.tt.trans (same_upd ?_), fun b x e => ?_, fun b e h => ?_⟩
  · cases q : T' p with
    | none => rfl
    | some x => rw [g.th _ _ q] at n; cases n
  · by_cases hb : b = p
    · subst hb
      rw [upd_same] at e ⊢
      exact e
    · rw [upd_ne hb] at e ⊢
      exact g.th _ _ e
  · by_cases hb : b = p
    · subst hb
      cases q : H b with
      | none => exact absurd q h
      | some x => rw [g.hh _ _ q] at n; cases n
    · rw [upd_ne hb]
      exact g.new b e h
theorem Grow.trans {T H T1 H1 T2 H2 : Hp} (a : Grow T H T1 H1) (b : Grow T1 H1 T2 H2) : Grow T H T2 H2 :=
  ⟨a.hh.trans b.hh, a.tt.trans b.tt, b.th, fun c e h => b.new c (a.new c e h) fun z => by
    cases q : H c with
    | none => exact h q
    | some x => rw [a.hh _ _ q] at z; cases z⟩
theorem none_of {T H : Hp} {l : Addr} (s : Same T H) (n : H l = none) : T l = none := by
  cases z : T l with
  | none => rfl
  | some x => rw [s _ _ z] at n; cases n
end Ov
namespace Ov
open PySem PySem.Spec PyProof.Rows L2
theorem showableAll_app : ∀ a b : List PyData, PyData.showableAll (a ++ b) = (PyData.showableAll a && PyData.showableAll b)
  | [], b => by simp [PyData.showableAll]
  | x :: a, b => by simp [PyData.showableAll, showableAll_app a b, Bool.and_assoc]
theorem depthAll_app : ∀ a b : List PyData, PyData.depthAll (a ++ b) = max (PyData.depthAll a) (PyData.depthAll b)
  | [], b => by simp [PyData.depthAll]
  | x :: a, b => by simp [PyData.depthAll, depthAll_app a b] <;> omega
theorem nodesAll_app : ∀ a b : List PyData, nodesAll (a ++ b) = nodesAll a + nodesAll b
  | [], b => by simp [nodesAll]
  | x :: a, b => by simp [nodesAll, nodesAll_app a b] <;> omega
/-- what can be shown as a part -/
structure ShowsAll (ds : List PyData) (n : Nat) : Prop where
  sh : PyData.showableAll ds = true
  nl : PyData.hasDictAll ds = true → noListAll ds = true
  dep : PyData.depthAll ds ≤ 50
  nd : nodesAll ds ≤ n
theorem ShowsAll.tup {ds : List PyData} {n : Nat} (h : ShowsAll ds n) (hn : n ≤ 7999) : Shows (.tuple ds) :=
  ⟨by simp only [PyData.showable]; exact h.sh, fun z => by simp only [noList]; exact h.nl (by simpa only [PyData.hasDict] using z), by simp only [PyData.depth]; have := h.dep; omega, by simp only [nodes]; have := h.nd; omega⟩
theorem cut_to (k : Nat) (xs : List V) : cutV xs none (some (k : Int)) = xs.take k := by
  unfold cutV
  rw [show HT.sIx xs.length xs.length (some (k : Int)) = min k xs.length from HT.sIx_nat xs.length xs.length k, HT.sIx_none, List.drop_zero, Nat.sub_zero]
  rcases Nat.le_total k xs.length with c | c
  · rw [Nat.min_eq_left c]
  · rw [Nat.min_eq_right c, List.take_length, List.take_of_length_le c]
theorem cut_all {xs : List V} {lo hi : Option Int} (h : HT.sIx xs.length 0 lo = 0 ∧ HT.sIx xs.length xs.length hi = xs.length) : cutV xs lo hi = xs := by
  unfold cutV
  rw [h.1, h.2, List.drop_zero, Nat.sub_zero, List.take_length]
section
variable {K : PySem.W.Frag} {T H : Hp} {Q : VK}
theorem cut_x {a : Addr} {xs : List V} {lo hi : Option Int} (st : Same T H) (ha : SqT K T a xs) (q : ∀ l H' T', Grow T H T' H' → SqT K T' l (cutV xs lo hi) → Q (.ref l) H') : rSlA K (.ref a) lo hi H Q := by
  refine ⟨a, xs, rfl, st.tup ha, fun e => ?_, fun _ p np => ?_⟩
  · exact q a H T (.refl st) (by rw [cut_all e]; exact ha)
  · exact q p _ _ ((Grow.refl st).put _ np) (SqT.of upd_same)
end
end Ov
namespace Ov
open PySem PySem.Spec PyProof.Rows L2
def btw (lo hi : Int) : PyData → Bool
  | .int i => decide (lo ≤ i) && decide (i ≤ hi)
  | _ => false
section
variable {P : Program} {w : World} {K : PySem.W.Frag} {mg : Str → Option Value} {base : Heap}
def isInt : PyData → Bool
  | .int _ => true
  | _ => false
def spIsIntX (K : PySem.W.Frag) : Sp := fun vs H Q _ => ∃ (v : V) (d : PyData), vs = [v] ∧ Dx K H v d ∧ Q (.bl (isInt d)) H
theorem ok_isIntX {f : Addr} {fd : FuncData} {k : Nat} (F : Fun K "is_integer" "is_integer" sIsInt f fd) (T : Bi mg) : FnOk P w K mg base CX0 (k + 1) f fd ["value"] (spIsIntX K) := by
  refine F.ok scIsInt (fun vs H Q E h => ?_) (fun cdv A outer s H vs Q E hr h => ?_)
  · obtain ⟨v, d, rfl, _⟩ := h
    rfl
  · obtain ⟨v, d, rfl, D, q⟩ := h
    refine ⟨_, pss_one (ps_ret (pe_and (pe_callB call_isi (by rfl) T.isi (by decide +kernel) (pa_cons (pv 0) (pa_cons (pe_bltn (v := .ty "int") (u := .type "int") (by rfl) T.int (by decide +kernel) rfl) pa_nil)))
      (pe_one (pe_not (pe_callB call_isi (by rfl) T.isi (by decide +kernel) (pa_cons (pv 0) (pa_cons (pe_bltn (v := .ty "bool") (u := .type "bool") (by rfl) T.bool (by decide +kernel) rfl) pa_nil))))))), ?_⟩
    refine ⟨_, rfl, _, _, _, _, _, rfl, .ty _, D.ty, kit_ty (kit_i d), _, rfl, ?_⟩
    have D0 := D
    cases D with
    | non => exact iteF q
    | str x => exact iteF q
    | dct h => exact iteF q
    | lst h a => exact iteF q
    | tup h a => exact iteF q
    | bl b => exact iteT ⟨_, rfl, _, _, _, _, _, rfl, .ty _, D0.ty, kit_ty (kit_b _), _, rfl, q⟩
    | int i => exact iteT ⟨_, rfl, _, _, _, _, _, rfl, .ty _, D0.ty, kit_ty (kit_b _), _, rfl, q⟩
def spBetweenX (K : PySem.W.Frag) : Sp := fun vs H Q _ => ∃ (v : V) (d : PyData) (lo hi : Int), vs = [v, .int lo, .int hi] ∧ Dx K H v d ∧ Q (.bl (btw lo hi d)) H
theorem ok_betweenX {f fI : Addr} {fd fdI : FuncData} {k : Nat} (F : Fun K "is_integer_between" "is_integer_between" sBetween f fd) (T : Bi mg) (I : Def K mg "is_integer" sIsInt fI fdI ["value"]) : FnOk P w K mg base CX0 (k + 2) f fd ["value", "least", "most"] (spBetweenX K) := by
  have GI : FnOk P w K mg base CX0 (k + 1) fI fdI ["value"] (spIsIntX K) := ok_isIntX I.fn T
  refine F.ok scBetween (fun vs H Q E h => ?_) (fun cdv A outer s H vs Q E hr h => ?_)
  · obtain ⟨v, d, lo, hi, rfl, _⟩ := h
    rfl
  · obtain ⟨v, d, lo, hi, rfl, D, q⟩ := h
    refine ⟨_, pss_one (ps_ret (pe_and (pe_call GI hr (by rfl) I.gl I.fn.kp I.bi .nil pass0 (pa_cons (pv 0) pa_nil))
        (pe_one (pe_chain op_le op_le (pv 1) (pv 0) (pv 2))))), ?_⟩
    refine ⟨_, rfl, v, d, rfl, D, _, rfl, ?_⟩
    cases D with
    | non => exact iteF q
    | str x => exact iteF q
    | dct h => exact iteF q
    | lst h a => exact iteF q
    | tup h a => exact iteF q
    | bl b => exact iteF q
    | int i =>
      refine iteT ?_
      refine ⟨_, rfl, _, rfl, _, _, rfl, rfl, _, rfl, ?_⟩
      have q' : Q (.bl (decide (lo ≤ i) && decide (i ≤ hi))) H := q
      by_cases h1 : lo ≤ i
      · rw [decide_eq_true h1] at q' ⊢
        refine iteT ⟨_, rfl, _, _, rfl, rfl, ?_⟩
        rw [Bool.true_and] at q'
        exact q'
      · rw [decide_eq_false h1] at q' ⊢
        rw [Bool.false_and] at q'
        exact iteF q'
end
end Ov
namespace Ov
open PySem PySem.Spec PyProof.Rows L2
end Ov
namespace Ov
open PySem PySem.Spec PyProof.Rows L2
abbrev sLenAt : Stmt := inClass cInstructionSet 4
def laOf (is : List I4) (b : Int) : Nat := match is.find? (fun x => decide ((x.op : Int) = b)) with
  | some x => x.ln
  | none => 0
theorem val_len (is : List I4) (b : Int) : (valV (lenKV is) (Sum.inl b : Key)).getD (V.int 0) = V.int (laOf is b : Int) := by
  unfold valV lenKV laOf
  induction is with
  | nil => rfl
  | cons x is ih =>
    rw [List.map_cons, List.find?_cons, List.find?_cons]
    by_cases h : (x.op : Int) = b
    · subst h; simp
    · rw [decide_eq_false h, decide_eq_false (fun z => h (Sum.inl.inj z))]
      exact ih
def natV (n : Nat) : V := .int (n : Int)
section
variable {P : Program} {w : World} {K : PySem.W.Frag} {mg : Str → Option Value} {base : Heap}
def spLenAt (C : Addr) : Sp := fun vs H Q _ => ∃ (p it : Addr) (cnt : Nat) (is : List I4) (b : Int), vs = [.ref p, .int b] ∧ SetAt C H p cnt it is ∧ Q (.int (laOf is b : Int)) H
theorem scLenAt : FnScope ["self", "byte"] ["self", "byte"] (defScope sLenAt) := ⟨rfl, rfl, rfl, by decide +kernel, rfl, by decide +kernel, by decide +kernel⟩
theorem ok_lenAt {f C : Addr} {fd : FuncData} {k : Nat} (F : Fun K "length_at" "InstructionSet.length_at" sLenAt f fd) (S : SetTxt K mg C) : FnOk P w K mg base CX0 (k + 1) f fd ["self", "byte"] (spLenAt C) := by
  refine F.ok scLenAt (fun vs H Q E h => ?_) (fun cdv A' outer s H vs Q E hr h => ?_)
  · obtain ⟨p, it, cnt, is, b, rfl, _⟩ := h
    rfl
  · obtain ⟨p, it, cnt, is, b, rfl, SA, q⟩ := h
    refine ⟨_, pss_one (ps_ret (pe_dget2 (hu_of hr) (pe_fld (pv 0) rfl) (pv 1) pe_int ⟨rfl, rfl, rfl, rfl⟩)), ?_⟩
    obtain ⟨dx, d1, d2, hp, h1, h2⟩ := SA.ob
    refine ⟨_, rfl, p, C, dx, _, _, rfl, hp, S.cl, S.nL, flds_len _ _ _ _, d1, rfl, .inl ⟨_, .inl h1⟩, _, rfl, _, DGet.k (k := Sum.inl b) h1, ?_⟩
    rw [val_len]
    exact q
def spWalk (K : PySem.W.Frag) (C : Addr) : Sp := fun vs H Q _ => ∃ (p it c : Addr) (cnt : Nat) (is : List I4) (bs : List Int) (e : Nat), vs = [.ref p, .ref c, .int (e : Int)] ∧ SetAt C H p cnt it is ∧ SqT K H c (bs.map V.int) ∧ bs.length ≤ 100000 ∧
  ∀ H' r l begun fol, Same H H' → Ended (laOf is) bs e begun fol → H r = none → H' r = some (.tup [.ref l, .int (fol : Int)]) → H' l = some (.lst (begun.map natV)) → begun.length ≤ bs.length → Q (.ref r) H'
theorem scWalk : FnScope ["instruction_set", "code", "entry", "begun", "offset"] ["instruction_set", "code", "entry"] (defScope sWalk) := ⟨rfl, rfl, rfl, by decide +kernel, rfl, by decide +kernel, by decide +kernel⟩
def offOf (n : Nat) (σ : L2.St) : Nat := match σ with
  | [_, _, _, _, some (.int o)] => n - o.toNat
  | _ => 0
theorem no_meth (cnt : Nat) (it d1 d2 : Addr) : (flds cnt it d1 d2).lookup ("length_at" : Str) = none := by
  unfold flds
  rw [lookup_putF, if_neg (by decide +kernel), lookup_putF, if_neg (by decide +kernel), lookup_putF, if_neg (by decide +kernel), lookup_putF, if_neg (by decide +kernel)]
  rfl
theorem ok_walk {f fL C : Addr} {fd fdL : FuncData} {k : Nat} (F : Fun K "walk" "walk" sWalk f fd) (T : Bi mg) (S : SetTxt K mg C)
    (ML : Meth K C "length_at" fL) (bL : Binds K fdL ["self", "byte"] []) (GL : FnOk P w K mg base CX0 k fL fdL ["self", "byte"] (spLenAt C)) :
    FnOk P w K mg base CX0 (k + 1) f fd ["instruction_set", "code", "entry"] (spWalk K C) := by
  refine F.ok scWalk (fun vs H Q E h => ?_) (fun cdv A' outer s H vs Q E hr h => ?_)
  · obtain ⟨p, it, c, cnt, is, bs, e, rfl, _⟩ := h
    rfl
  · obtain ⟨p, it, c, cnt, is, bs, e, rfl, SA, hc, hb, q⟩ := h
    refine ⟨_, pss_cons (ps_set (i := 3) scWalk.nd rfl (.inl rfl) (pe_lst pa_nil))
      (pss_cons (ps_set (i := 4) scWalk.nd rfl (.inl rfl) (pv 2))
      (pss_cons (ps_while PassesOwn.never (PW.pt (pw_and (pt_cmpR op_lt (pv 4) (pe_callB call_len_seq (by rfl) T.len PySem.boot_len (pa_cons (pv 1) pa_nil)) (nomark _))
          (pw_and1 (pt_cmpR op_gt (pe_meth (pv 0) S.cl ML GL hr bL .nil pass0 (pa_cons (pe_ix ix_tup (pv 1) (pv 4) (fun _ _ => rfl)) pa_nil)) pe_int (nomark _)))))
        (pss_cons (ps_expr (pe_bm PySem.F.plainAttrs_list PySem.F.slot_list_append PySem.F.type_list_append mt_append (pv 3) (pa_cons (pv 4) pa_nil)))
        (pss_one (ps_aug (i := 4) scWalk.nd rfl (.inl rfl) (pe_meth (pv 0) S.cl ML GL hr bL .nil pass0 (pa_cons (pe_ix ix_tup (pv 1) (pv 4) (fun _ _ => rfl)) pa_nil)) ip_add))))
      (pss_one (ps_ret (pe_tup (pa_cons (pv 3) (pa_cons (pv 4) pa_nil))))))), ?_⟩
    refine ⟨Nat.zero_le _, fun l nl => ⟨_, rfl, ?_⟩⟩
    refine while_by (fun σ H2 => ∃ (begun : List Nat) (o : Nat), σ = [some (.ref p), some (.ref c), some (.int (e : Int)), some (.ref l), some (.int (o : Int))] ∧ Mk H H2 l (begun.map natV) ∧ Going (laOf is) bs e begun o) (fun σ _ => offOf bs.length σ)
      ⟨[], e, rfl, .start nl, Going.start bs e⟩ ?_ ?_
    · rintro σ H2 ⟨begun, o, rfl, mk, g⟩
      have c2 := mk.same.tup hc
      have SA2 := SA.same mk.same
      obtain ⟨dx, d1, d2, hp, _, _⟩ := SA2.ob
      have few := g.few
      have bl : begun.length ≤ bs.length := by omega
      refine ⟨_, rfl, _, rfl, c, _, rfl, .inr c2, _, _, rfl, rfl, _, rfl, ?_⟩
      rw [List.length_map]
      have fin : Ended (laOf is) bs e begun o → ∀ r, H2 r = none → Q (.ref r) (upd H2 r (.tup [.ref l, .int (o : Int)])) := fun en r nr => by
        have s := same_upd (o := HO.tup [.ref l, .int (o : Int)]) nr
        exact q _ r l begun o (mk.same.trans s) en (mk.same.free nr) upd_same (s _ _ mk.at_) bl
      by_cases h1 : (o : Int) < (bs.length : Int)
      · rw [decide_eq_true h1]
        have ho : o < bs.length := by omega
        have hb' : bs[o]? = some bs[o] := List.getElem?_eq_getElem ho
        have iv : atI (bs.map V.int) (o : Int) = some (.int bs[o]) := atI_nat (by rw [List.getElem?_map, hb']; rfl)
        refine iteT ⟨_, rfl, p, dx, _, rfl, hp, no_meth _ _ _ _, _, rfl, _, rfl, c, _, _, _, rfl, rfl, c2, iv, p, it, cnt, is, bs[o], rfl, SA2, _, _, rfl, rfl, _, rfl, ?_⟩
        by_cases h2 : (0 : Int) < (laOf is bs[o] : Int)
        · rw [decide_eq_true h2]
          refine iteT ⟨_, rfl, .inl ⟨rfl, _, SqL.of mk.at_⟩, _, rfl, l, _, _, rfl, rfl, mk.at_, by rw [List.length_map, sizeLine_eq]; omega, ?_⟩
          have mk3 := mk.put (acc' := begun.map natV ++ [V.int (o : Int)]) (Same.refl _)
          obtain ⟨dx3, d13, d23, hp3, _, _⟩ := (SA.same mk3.same).ob
          refine ⟨_, rfl, _, rfl, p, dx3, _, rfl, hp3, no_meth _ _ _ _, _, rfl, _, rfl, c, _, _, _, rfl, rfl, mk3.same.tup hc, iv, p, it, cnt, is, bs[o], rfl, SA.same mk3.same, _, _, rfl, rfl, ⟨begun ++ [o], o + laOf is bs[o], rfl, by rw [List.map_append]; exact mk3, g.step hb' (by omega)⟩, ?_⟩
          show bs.length - ((o : Int) + (laOf is bs[o] : Int)).toNat < bs.length - (o : Int).toNat
          omega
        · rw [decide_eq_false h2]
          exact iteF ⟨_, rfl, _, rfl, by show 2 ≤ sizeLine; decide, fun r nr => fin (g.stop hb' (by omega)) r nr⟩
      · rw [decide_eq_false h1]
        exact iteF (iteF ⟨_, rfl, _, rfl, by show 2 ≤ sizeLine; decide, fun r nr => fin (g.over (by omega)) r nr⟩)
    · rintro σ H2 Q1 Q2 hQ ⟨v, h1, v2, h2, a, xs, h3, h4, i, j, h5, h6, b, h7, h8⟩
      refine ⟨v, h1, v2, h2, a, xs, h3, h4, i, j, h5, h6, b, h7, ?_⟩
      revert h8
      cases b with
      | false => exact fun h8 => hQ _ _ h8
      | true =>
        rintro ⟨x1, e1, a1, dx1, f1, e2, e3, e4, x2, e5, x3, e6, c1, y1, y2, y3, e7, e8, e9, e10, p1, it1, cnt1, is1, b1, e11, e12, i1, j1, e13, e14, b2, e15, h9⟩
        exact ⟨x1, e1, a1, dx1, f1, e2, e3, e4, x2, e5, x3, e6, c1, y1, y2, y3, e7, e8, e9, e10, p1, it1, cnt1, is1, b1, e11, e12, i1, j1, e13, e14, b2, e15, hQ _ _ h9⟩
end
end Ov
namespace Ov
open PySem PySem.Spec PyProof.Rows L2
structure GB (p : Addr) (T H T' H' : Hp) : Prop where
  hh : But p H H'
  tt : Same T T'
  th : Same T' H'
  new : ∀ b, T b = none → H b ≠ none → T' b = none
  up : ∀ b, H b ≠ none → H' b ≠ none
section
variable {p : Addr} {T H T' H' T2 H2 : Hp}
theorem GB.refl (st : Same T H) : GB p T H T H := ⟨But.refl _ _, Same.refl _, st, fun _ e _ => e, fun _ e => e⟩
theorem GB.of (g : Grow T H T' H') : GB p T H T' H' := ⟨But.of g.hh, g.tt, g.th, g.new, fun b e => by
  cases h : H b with
  | none => exact absurd h e
  | some o => rw [g.hh b o h]; exact fun z => nomatch z⟩
theorem GB.trans (g : GB p T H T' H') (g2 : GB p T' H' T2 H2) : GB p T H T2 H2 := ⟨g.hh.trans g2.hh, g.tt.trans g2.tt, g2.th, fun b e n => g2.new b (g.new b e n) (g.up b n), fun b n => g2.up b (g.up b n)⟩
theorem GB.box {n : Nat} (st : Same T H) (tp : T p = none) (b : But p H H') (B : BoxAt H' p n) : GB p T H T H' := ⟨b, Same.refl _, fun c o e => b _ _ (st _ _ e) (ne_of_none e tp), fun _ e _ => e, fun c e => by
  by_cases z : c = p
  · rw [z]; exact B.ne
  · cases h : H c with
    | none => exact absurd h e
    | some o => rw [b c o h z]; exact fun y => nomatch y⟩
theorem GB.put (g : GB p T H T' H') {a : Addr} (o : HO) (n : H' a = none) : GB p T H (upd T' a o) (upd H' a o) := g.trans (.of ((Grow.refl g.th).put o n))
end
end Ov
namespace Ov
open PySem PySem.Spec PyProof.Rows L2
theorem GB.set {p : Addr} {T H T' H' : Hp} (g : GB p T H T' H') {L : Addr} (o : HO) (nH : H L = none) (nT : T' L = none) : GB p T H T' (upd H' L o) :=
  ⟨fun b x e n => by rw [upd_ne (ne_of_none e nH)]; exact g.hh b x e n, g.tt, fun b x e => by rw [upd_ne (ne_of_none e nT)]; exact g.th b x e, g.new, fun b e => by
    by_cases y : b = L
    · rw [y, upd_same]; exact fun w => nomatch w
    · rw [upd_ne y]; exact g.up b e⟩
/-- things in a list in the making, beside the box -/
structure HoldZ (T0 T H : Hp) (p D : Addr) (n : Nat) (vs : List V) (ds : List PyData) : Prop where
  tt : Same T0 T
  ht : Same T H
  tp : T p = none
  tD : T D = none
  ne : D ≠ p
  at_ : H D = some (.lst vs)
  all : DzAll T vs ds
  box : BoxAt H p n
theorem HoldZ.mono {T0 T H : Hp} {p D : Addr} {n m : Nat} {vs : List V} {ds : List PyData} (h : HoldZ T0 T H p D n vs ds) (l : n ≤ m) : HoldZ T0 T H p D m vs ds := { h with box := h.box.mono l }
theorem HoldZ.gb {T0 T H T' G : Hp} {p D : Addr} {n m : Nat} {vs : List V} {ds : List PyData} (h : HoldZ T0 T H p D n vs ds) (g : GB p T H T' G) (B : BoxAt G p m) : HoldZ T0 T' G p D m vs ds :=
  ⟨h.tt.trans g.tt, g.th, g.new _ h.tp h.box.ne, g.new _ h.tD (by rw [h.at_]; exact fun z => nomatch z), h.ne, g.hh _ _ h.at_ h.ne, h.all.same g.tt, B⟩
theorem HoldZ.grow {T0 T H T' G : Hp} {p D : Addr} {n : Nat} {vs : List V} {ds : List PyData} (h : HoldZ T0 T H p D n vs ds) (g : Grow T H T' G) : HoldZ T0 T' G p D n vs ds := h.gb (.of g) (h.box.same g.hh)
theorem BoxAt.upd {H : Hp} {p D : Addr} {n : Nat} {o : HO} (B : BoxAt H p n) (ne : D ≠ p) : BoxAt (L2.upd H D o) p n := by
  obtain ⟨z1, z2, z3, e, r⟩ := B
  exact ⟨z1, z2, z3, by rw [upd_ne (Ne.symm ne)]; exact e, r⟩
theorem HoldZ.push {T0 T H : Hp} {p D : Addr} {n : Nat} {vs us : List V} {ds es : List PyData} (h : HoldZ T0 T H p D n vs ds) (A : DzAll T us es) : HoldZ T0 T (upd H D (.lst (vs ++ us))) p D n (vs ++ us) (ds ++ es) :=
  ⟨h.tt, fun b o e => by rw [upd_ne (ne_of_none e h.tD)]; exact h.ht _ _ e, h.tp, h.tD, h.ne, upd_same, h.all.app A, h.box.upd h.ne⟩
theorem HoldZ.start {T H : Hp} {p D : Addr} {n : Nat} (st : Same T H) (tp : T p = none) (B : BoxAt H p n) (nD : H D = none) : HoldZ T T (upd H D (.lst [])) p D n [] [] :=
  ⟨Same.refl _, st.trans (same_upd nD), tp, st.free nD, fun z => B.ne (z ▸ nD), upd_same, .nil, B.same (same_upd nD)⟩
/-- a heap without p -/
def hide (p : Addr) (H : Hp) : Hp := fun b => if b = p then none else H b
theorem hide_same {p : Addr} {H : Hp} : Same (hide p H) H := fun b o e => by
  unfold hide at e
  by_cases h : b = p
  · rw [if_pos h] at e; cases e
  · rw [if_neg h] at e; exact e
theorem hide_at {p b : Addr} {H : Hp} {o : HO} (e : H b = some o) (h : b ≠ p) : hide p H b = some o := by
  unfold hide
  rw [if_neg h]
  exact e
theorem hide_none {p : Addr} {H : Hp} : hide p H p = none := if_pos rfl
theorem but_hide {p : Addr} {H : Hp} : But p H (hide p H) := fun _ _ e h => hide_at e h
end Ov
namespace Ov
open PySem PySem.Spec PyProof.Rows L2
end Ov
namespace Ov
open PySem PySem.Spec PyProof.Rows L2
/-- an instruction set with its rows -/
structure Mach (C : Addr) (H : Hp) (p : Addr) (cnt lg : Nat) (it : Addr) (is : List I4) (rs : List Addr) : Prop where
  at_ : SetAt C H p cnt it is
  its : H it = some (.tup (rs.map V.ref))
  rows : Rows H rs is
  ok : TabOk cnt lg is
theorem Mach.same {C : Addr} {H H' : Hp} {p : Addr} {cnt lg : Nat} {it : Addr} {is : List I4} {rs : List Addr} (h : Mach C H p cnt lg it is rs) (s : Same H H') : Mach C H' p cnt lg it is rs := ⟨h.at_.same s, s _ _ h.its, h.rows.same s, h.ok⟩
end Ov
namespace Ov
open PySem PySem.Spec PyProof.Rows L2
def stepKV (is : List I4) : List (Key × V) := (is.filter fun x => !x.pad).map fun x => ((Sum.inr (txt x.nm) : Key), V.int (x.ln : Int))
def stepI (is : List I4) (nm : Str) : Option I4 := (is.filter fun x => !x.pad).find? fun x => decide (txt x.nm = nm)
theorem stepI_in {is : List I4} {nm : Str} {x : I4} (h : stepI is nm = some x) : x ∈ is ∧ x.pad = false ∧ txt x.nm = nm := by
  have m := List.mem_filter.mp (List.mem_of_find?_eq_some h)
  refine ⟨m.1, ?_, ?_⟩
  · have := m.2
    revert this
    cases x.pad <;> simp
  · have := List.find?_some h
    exact of_decide_eq_true this
theorem stepKV_more (is : List I4) (x : I4) : stepKV (is ++ [x]) = stepKV is ++ (if x.pad = true then [] else [((Sum.inr (txt x.nm) : Key), V.int (x.ln : Int))]) := by
  unfold stepKV
  rw [List.filter_append, List.map_append]
  cases h : x.pad <;> simp [List.filter_cons, h]
theorem val_step (is : List I4) (nm : Str) : valV (stepKV is) (Sum.inr nm : Key) = (stepI is nm).map fun x => V.int (x.ln : Int) := by
  unfold valV stepKV stepI
  induction (is.filter fun x => !x.pad) with
  | nil => rfl
  | cons x l ih =>
    rw [List.map_cons, List.find?_cons, List.find?_cons]
    by_cases e : txt x.nm = nm
    · subst e; simp
    · rw [decide_eq_false e, decide_eq_false (fun z => e (Sum.inr.inj z))]
      exact ih
def opOk (cnt : Nat) : PyData → Bool
  | .none => true
  | d => btw 0 ((cnt : Int) - 1) d
def isOps (cnt l : Nat) : PyData → Bool
  | .tuple os => decide (os.length + 1 = l) && os.all (opOk cnt)
  | _ => false
def isNm (is : List I4) (f : Nat → Bool) : PyData → Bool
  | .str nm => match stepI is nm with
    | some x => f x.ln
    | none => false
  | _ => false
def isStepD (cnt : Nat) (is : List I4) : PyData → Bool
  | .tuple [a, b] => isNm is (fun l => isOps cnt l b) a
  | _ => false
def isProgD (cnt : Nat) (is : List I4) : PyData → Bool
  | .tuple ds => decide (ds.length ≤ 12) && ds.all (isStepD cnt is)
  | _ => false
theorem isStepD_len {cnt : Nat} {is : List I4} {ds : List PyData} (h : ds.length ≠ 2) : isStepD cnt is (.tuple ds) = false := by
  match ds, h with
  | [], _ => rfl
  | [_], _ => rfl
  | [_, _], h => exact absurd rfl h
  | _ :: _ :: _ :: _, _ => rfl
theorem two_of {ds : List PyData} (h : ds.length = 2) : ∃ a b, ds = [a, b] := by
  match ds, h with
  | [a, b], _ => exact ⟨a, b, rfl⟩
section
variable {P : Program} {w : World} {K : PySem.W.Frag} {mg : Str → Option Value} {base : Heap}
def spStepL (C : Addr) : Sp := fun vs H Q _ => ∃ (p it : Addr) (cnt lg : Nat) (is : List I4) (rs : List Addr), vs = [.ref p] ∧ Mach C H p cnt lg it is rs ∧ ∀ H' d, Same H H' → H d = none → H' d = some (.dK (stepKV is)) → Q (.ref d) H'
theorem scStepL : FnScope ["instruction_set", "opcode", "name", "length", "is_padding"] ["instruction_set"] (defScope s_step_lengths) := ⟨rfl, rfl, rfl, by decide +kernel, rfl, by decide +kernel, by decide +kernel⟩
theorem ok_stepL {f C : Addr} {fd : FuncData} {k : Nat} (F : Fun K "step_lengths" "step_lengths" s_step_lengths f fd) (S : SetTxt K mg C) : FnOk P w K mg base CX0 (k + 1) f fd ["instruction_set"] (spStepL C) := by
  refine F.ok scStepL (fun vs H Q E h => ?_) (fun cdv A' outer s H vs Q E hr h => ?_)
  · obtain ⟨p, it, cnt, lg, is, rs, rfl, _⟩ := h
    rfl
  · obtain ⟨p, it, cnt, lg, is, rs, rfl, M, q⟩ := h
    refine ⟨_, pss_one (ps_ret (pe_dc (own := [("opcode", 1), ("name", 2), ("length", 3), ("is_padding", 4)]) (g := gTup K 4 (gCons (gName 1) (gCons (gName 2) (gCons (gName 3) (gCons (gName 4) gNil))))) (by rfl) scStepL.nd (pi_tup (pe_fld (pv 0) rfl))
          (blkOk_by (own := [("opcode", 1), ("name", 2), ("length", 3), ("is_padding", 4)]) (N := ["instruction_set", "opcode", "name", "length", "is_padding"]) (sc := defScope s_step_lengths) (by decide +kernel))
          (fun _ _ _ _ _ => pg_tup rfl (pgs_cons (pg_name (i := 1) scStepL.nd rfl (Or.inl rfl)) (pgs_cons (pg_name (i := 2) scStepL.nd rfl (Or.inl rfl)) (pgs_cons (pg_name (i := 3) scStepL.nd rfl (Or.inl rfl)) (pgs_cons (pg_name (i := 4) scStepL.nd rfl (Or.inl rfl)) pgs_nil)))))
          (fun _ _ _ _ _ => pts_one (pt_not (pt_val (pv 4)))) (fun _ _ _ _ _ => pv 2) (fun _ _ _ _ _ => pv 3))), ?_⟩
    obtain ⟨dx, d1, d2, hp, _⟩ := M.at_.ob
    have few := M.ok.few
    have rl := M.rows.1
    refine ⟨_, rfl, p, C, dx, _, _, rfl, hp, S.cl, S.nI, flds_its _ _ _ _, it, rfl, ⟨_, SqT.of M.its⟩, fun D nD => dc_tup (K := K) (a := it) (xs := rs.map V.ref) (fun i G => Same H G ∧ G D = some (.dK (stepKV (is.take i)))) ⟨same_upd nD, upd_same⟩ (fun i G _ p => p.1.tup (SqT.of M.its)) ?_ ?_⟩
    · rintro i x G hx ⟨sG, hD⟩
      obtain ⟨hi, r, rfl, hr2, _⟩ := rows_at M.rows hx
      refine ⟨r, _, rfl, SqT.of (sG _ _ hr2), rfl, _, _, rfl, _, _, rfl, _, _, rfl, _, _, rfl, rfl, rfl, _, rfl, _, rfl, ?_⟩
      rw [take_more (List.getElem?_eq_getElem hi), stepKV_more]
      cases hpad : (is[i]).pad with
      | true =>
        refine iteF ?_
        rw [if_pos rfl, List.append_nil]
        exact ⟨sG, hD⟩
      | false =>
        refine iteT ⟨_, rfl, _, rfl, _, Sum.inr (txt (is[i]).nm), rfl, hD, ?_, fun b o e => ?_, ?_⟩
        · unfold stepKV
          rw [List.length_map]
          have := List.length_filter_le (fun x : I4 => !x.pad) (is.take i)
          rw [List.length_take] at this
          exact small1000 (by omega)
        · rw [upd_ne (ne_of_none e nD)]
          exact sG b o e
        · rw [upd_same, if_neg Bool.false_ne_true, put_fresh]
          intro z
          unfold stepKV at z
          rw [List.map_map] at z
          obtain ⟨y, hy, e⟩ := List.mem_map.mp z
          obtain ⟨j, hj, ej⟩ := List.mem_take_iff_getElem.mp (List.mem_filter.mp hy).1
          have e' : txt y.nm = txt (is[i]).nm := Sum.inr.inj e
          have h1 := List.pairwise_iff_getElem.mp (List.nodup_iff_pairwise_ne.mp M.ok.nd) j i (by rw [List.length_map]; omega) (by rw [List.length_map]; exact hi) (by omega)
          rw [List.getElem_map, List.getElem_map, ej] at h1
          exact h1 (txt_inj e')
    · rintro G ⟨sG, hD⟩
      rw [List.length_map, rl, List.take_length] at hD
      exact q G D sG nD hD
def spStep (K : PySem.W.Frag) (C : Addr) : Sp := fun vs H Q _ => ∃ (p it L : Addr) (cnt lg : Nat) (is : List I4) (v : V) (d : PyData), vs = [.ref p, .ref L, v] ∧ SetAt C H p cnt it is ∧ TabOk cnt lg is ∧ H L = some (.dK (stepKV is)) ∧ Dx K H v d ∧ ∀ H', Same H H' → Q (.bl (isStepD cnt is d)) H'
theorem scStep : FnScope ["instruction_set", "lengths", "value", "name", "operands", "greatest", "item"] ["instruction_set", "lengths", "value"] (defScope s_is_step) := ⟨rfl, rfl, rfl, by decide +kernel, rfl, by decide +kernel, by decide +kernel⟩
theorem ok_step {f fB C : Addr} {fd fdB : FuncData} {k : Nat} (F : Fun K "is_step" "is_step" s_is_step f fd) (T : Bi mg) (S : SetTxt K mg C)
    (B : Def K mg "is_integer_between" sBetween fB fdB ["value", "least", "most"]) (GB : FnOk P w K mg base CX0 k fB fdB ["value", "least", "most"] (spBetweenX K)) : FnOk P w K mg base CX0 (k + 1) f fd ["instruction_set", "lengths", "value"] (spStep K C) := by
  refine F.ok scStep (fun vs H Q E h => ?_) (fun cdv A' outer s H vs Q E hr h => ?_)
  · obtain ⟨p, it, L, cnt, lg, is, v, d, rfl, _⟩ := h
    rfl
  · obtain ⟨p, it, L, cnt, lg, is, v, d, rfl, SA, ok, hL, D, q⟩ := h
    have hu := hu_of hr
    refine ⟨_, pss_cons (ps_if (PW.pt (pw_or (pt_not (pt_val (pe_callB call_isi (by rfl) T.isi (by decide +kernel) (pa_cons (pv 2) (pa_cons (pe_bltn (v := .ty "tuple") (u := .type "tuple") (by rfl) T.tuple (by decide +kernel) rfl) pa_nil)))))
        (pw_or1 (pt_cmpR op_ne (pe_callB call_len_seq (by rfl) T.len PySem.boot_len (pa_cons (pv 2) pa_nil)) pe_int (nomark _))))) (pss_one (ps_ret pe_bl)) pss_nil)
      (pss_cons (ps_asg (pv 2) (pg_tup rfl (pgs_cons (pg_name (i := 3) scStep.nd rfl (.inl rfl)) (pgs_cons (pg_name (i := 4) scStep.nd rfl (.inl rfl)) pgs_nil))))
      (pss_cons (ps_if (PW.pt (pw_or (pt_not (pt_val (pe_callB call_isi (by rfl) T.isi (by decide +kernel) (pa_cons (pv 3) (pa_cons (pe_bltn (v := .ty "str") (u := .type "str") (by rfl) T.str (by decide +kernel) rfl) pa_nil)))))
        (pw_or1 (pt_cmp (pc_dnotin hu (pv 3) (pv 1)))))) (pss_one (ps_ret pe_bl)) pss_nil)
      (pss_cons (ps_if (PW.pt (pw_or (pt_not (pt_val (pe_callB call_isi (by rfl) T.isi (by decide +kernel) (pa_cons (pv 4) (pa_cons (pe_bltn (v := .ty "tuple") (u := .type "tuple") (by rfl) T.tuple (by decide +kernel) rfl) pa_nil)))))
        (pw_or1 (pt_cmpR op_ne (pe_callB call_len_seq (by rfl) T.len PySem.boot_len (pa_cons (pv 4) pa_nil)) (pe_op op_sub (pe_dget hu (pv 1) (pv 3) (fun _ _ => rfl)) pe_int) (nomark _))))) (pss_one (ps_ret pe_bl)) pss_nil)
      (pss_cons (ps_set (i := 5) scStep.nd rfl (.inr rfl) (pe_op op_sub (pe_fld (pv 0) rfl) pe_int))
      (pss_one (ps_ret (pe_callB (cr_all rfl) (by rfl) T.all (by decide +kernel) (pa_cons
        (pe_lc (own := [("item", 6)]) (g := gName 6) (tt := tYes) (by rfl) scStep.nd (pi_tup (pv 4)) (blkOk_by (own := [("item", 6)]) (N := ["instruction_set", "lengths", "value", "name", "operands", "greatest", "item"]) (sc := defScope s_is_step) (by decide +kernel))
          (fun _ _ _ _ _ => pg_name (i := 6) scStep.nd rfl (Or.inl rfl)) (fun _ _ _ _ _ => pts_nil)
          (fun _ _ _ _ _ => pe_or (pe_cmpR op_isN (pv 6) pe_non (nomark _)) (pe_one (pe_call GB hr (by rfl) B.gl B.fn.kp B.bi .nil pass0 (pa_cons (pv 6) (pa_cons pe_int (pa_cons (pv 5) pa_nil))))))) pa_nil)))))))), ?_⟩
    have q0 := q H (Same.refl _)
    refine ⟨_, rfl, _, _, _, _, _, rfl, .ty _, D.ty, kit_ty (kit_t d), _, rfl, ?_⟩
    cases D with
    | non => exact iteT q0
    | str x => exact iteT q0
    | dct h => exact iteT q0
    | lst h a => exact iteT q0
    | bl b => exact iteT q0
    | int i => exact iteT q0
    | @tup a xs ds hs ha =>
      have el := ha.len
      refine iteF ⟨_, rfl, a, _, rfl, .inr hs, rfl, _, rfl, ?_⟩
      by_cases h2 : ds.length = 2
      · rw [show decide (V.int ((xs.length : Nat) : Int) = V.int 2) = true from decide_eq_true (by rw [el, h2]; rfl)]
        obtain ⟨d1, d2, rfl⟩ := two_of h2
        cases ha with
        | @cons v1 _ _ _ D1 ha =>
          cases ha with
          | @cons v2 _ _ _ D2 ha =>
            cases ha
            refine iteF ⟨_, rfl, a, _, rfl, hs, rfl, _, _, rfl, _, _, rfl, rfl, ?_⟩
            refine ⟨_, rfl, _, _, _, _, _, rfl, .ty _, D1.ty, kit_ty (kit_s d1), _, rfl, ?_⟩
            cases D1 with
            | non => exact iteT q0
            | tup h a => exact iteT q0
            | dct h => exact iteT q0
            | lst h a => exact iteT q0
            | bl b => exact iteT q0
            | int i => exact iteT q0
            | str nm =>
              refine iteF ⟨_, rfl, _, rfl, L, _, rfl, DGet.k (k := Sum.inr nm) hL, _, rfl, ?_⟩
              have vs := val_step is nm
              rw [vs]
              cases hst : stepI is nm with
              | none =>
                refine iteT ?_
                have e : isStepD cnt is (.tuple [.str nm, d2]) = false := by simp [isStepD, isNm, hst]
                rw [e] at q0
                exact q0
              | some x =>
                obtain ⟨xin, _, _⟩ := stepI_in hst
                have xl := ok.len x xin
                have lb := ok.lb
                have e : isStepD cnt is (.tuple [.str nm, d2]) = isOps cnt x.ln d2 := by simp [isStepD, isNm, hst]
                rw [e] at q q0
                refine iteF ⟨_, rfl, _, _, _, _, _, rfl, .ty _, D2.ty, kit_ty (kit_t d2), _, rfl, ?_⟩
                cases D2 with
                | non => exact iteT q0
                | str x => exact iteT q0
                | dct h => exact iteT q0
                | lst h a => exact iteT q0
                | bl b => exact iteT q0
                | int i => exact iteT q0
                | @tup c ys os hc hys =>
                  have ol := hys.len
                  have g : DGet H L (.str nm) (some (V.int (x.ln : Int))) := by
                    have z := DGet.k (k := Sum.inr nm) hL
                    rw [vs, hst] at z
                    exact z
                  refine iteF ⟨_, rfl, c, _, rfl, .inr hc, _, rfl, _, rfl, L, _, rfl, g, _, _, rfl, rfl, rfl, _, rfl, ?_⟩
                  by_cases hl : os.length + 1 = x.ln
                  · rw [decide_eq_true (show V.int (ys.length : Int) = V.int ((x.ln : Int) - 1) by congr 1; omega)]
                    obtain ⟨dx, e1, e2, hp, _⟩ := SA.ob
                    refine iteF ⟨_, rfl, p, C, dx, _, _, rfl, hp, S.cl, S.nB, flds_cnt _ _ _ _, _, _, rfl, rfl, ?_⟩
                    refine ⟨_, rfl, c, rfl, ⟨_, hc⟩, fun D nD => lc_tup (K := K) (a := c) (xs := ys) (fun i G => Mk H G D (((os.take i).map (opOk cnt)).map V.bl)) (.start nD) (fun i G _ p => p.same.tup hc) ?_ ?_⟩
                    · intro i y G hy mk
                      obtain ⟨dy, hdy, Dy⟩ := hys.at hy
                      rw [take_more hdy, List.map_append, List.map_append]
                      have sz : (((os.take i).map (opOk cnt)).map V.bl).length < sizeLine := by rw [List.length_map, List.length_map, List.length_take]; exact small1000 (by omega)
                      refine ⟨rfl, _, rfl, rfl, _, rfl, ?_⟩
                      have two : (y = .non ∧ dy = .none) ∨ (y ≠ .non ∧ opOk cnt dy = btw 0 ((cnt : Int) - 1) dy) := by
                        cases Dy with
                        | non => exact .inl ⟨rfl, rfl⟩
                        | tup h a => exact .inr ⟨fun z => (nomatch z), rfl⟩
                        | str h => exact .inr ⟨fun z => (nomatch z), rfl⟩
                        | dct h => exact .inr ⟨fun z => (nomatch z), rfl⟩
                        | lst h a => exact .inr ⟨fun z => (nomatch z), rfl⟩
                        | bl b => exact .inr ⟨fun z => (nomatch z), rfl⟩
                        | int i => exact .inr ⟨fun z => (nomatch z), rfl⟩
                      rcases two with ⟨rfl, rfl⟩ | ⟨hn, ho⟩
                      · exact iteT ⟨_, mk.at_, sz, mk.put (Same.refl _)⟩
                      · rw [decide_eq_false hn]
                        refine iteF ⟨_, rfl, _, rfl, y, dy, 0, (cnt : Int) - 1, rfl, Dy.same mk.same, _, mk.at_, sz, ?_⟩
                        rw [← ho]
                        exact mk.put (Same.refl _)
                    intro G mk
                    refine ⟨D, _, rfl, SqL.of mk.at_, ?_⟩
                    rw [ol, List.take_length, List.all_map]
                    have z := q G mk.same
                    have e : isOps cnt x.ln (.tuple os) = os.all (opOk cnt) := by simp [isOps, hl]
                    rw [e] at z
                    exact z
                  · rw [decide_eq_false (fun z => hl (by have := V.int.inj z; omega))]
                    refine iteT ?_
                    have e : isOps cnt x.ln (.tuple os) = false := by simp [isOps, hl]
                    rw [e] at q0
                    exact q0
      · rw [show decide (V.int ((xs.length : Nat) : Int) = V.int 2) = false from decide_eq_false (fun z => h2 (by have := V.int.inj z; omega))]
        refine iteT ?_
        rw [isStepD_len h2] at q0
        exact q0
def spProg (K : PySem.W.Frag) (C : Addr) : Sp := fun vs H Q _ => ∃ (p it : Addr) (cnt lg : Nat) (is : List I4) (rs : List Addr) (v : V) (d : PyData), vs = [.ref p, v] ∧ Mach C H p cnt lg it is rs ∧ Dx K H v d ∧ ∀ H', Same H H' → Q (.bl (isProgD cnt is d)) H'
theorem scProg : FnScope ["instruction_set", "value", "lengths", "item"] ["instruction_set", "value"] (defScope s_is_program) := ⟨rfl, rfl, rfl, by decide +kernel, rfl, by decide +kernel, by decide +kernel⟩
theorem ok_prog {f fL fS C : Addr} {fd fdL fdS : FuncData} {k : Nat} (F : Fun K "is_program" "is_program" s_is_program f fd) (T : Bi mg) (ms : ∃ t, mg "MOST_STEPS" = some (.int 12 t))
    (Sl : Def K mg "step_lengths" s_step_lengths fL fdL ["instruction_set"]) (GSl : FnOk P w K mg base CX0 k fL fdL ["instruction_set"] (spStepL C))
    (St : Def K mg "is_step" s_is_step fS fdS ["instruction_set", "lengths", "value"]) (GSt : FnOk P w K mg base CX0 k fS fdS ["instruction_set", "lengths", "value"] (spStep K C)) : FnOk P w K mg base CX0 (k + 1) f fd ["instruction_set", "value"] (spProg K C) := by
  obtain ⟨tm, ms⟩ := ms
  refine F.ok scProg (fun vs H Q E h => ?_) (fun cdv A' outer s H vs Q E hr h => ?_)
  · obtain ⟨p, it, cnt, lg, is, rs, v, d, rfl, _⟩ := h
    rfl
  · obtain ⟨p, it, cnt, lg, is, rs, v, d, rfl, M, D, q⟩ := h
    refine ⟨_, pss_cons (ps_if (PW.pt (pw_or (pt_not (pt_val (pe_callB call_isi (by rfl) T.isi (by decide +kernel) (pa_cons (pv 1) (pa_cons (pe_bltn (v := .ty "tuple") (u := .type "tuple") (by rfl) T.tuple (by decide +kernel) rfl) pa_nil)))))
        (pw_or1 (pt_cmpR op_gt (pe_callB call_len_seq (by rfl) T.len PySem.boot_len (pa_cons (pv 1) pa_nil)) (pe_glob (v := .int 12) (by rfl) ms ⟨_, rfl⟩) (nomark _))))) (pss_one (ps_ret pe_bl)) pss_nil)
      (pss_cons (ps_set (i := 2) scProg.nd rfl (.inr rfl) (pe_call GSl hr (by rfl) Sl.gl Sl.fn.kp Sl.bi .nil pass0 (pa_cons (pv 0) pa_nil)))
      (pss_one (ps_ret (pe_callB (cr_all rfl) (by rfl) T.all (by decide +kernel) (pa_cons
        (pe_lc (own := [("item", 3)]) (g := gName 3) (tt := tYes) (by rfl) scProg.nd (pi_tup (pv 1)) (blkOk_by (own := [("item", 3)]) (N := ["instruction_set", "value", "lengths", "item"]) (sc := defScope s_is_program) (by decide +kernel))
          (fun _ _ _ _ _ => pg_name (i := 3) scProg.nd rfl (Or.inl rfl)) (fun _ _ _ _ _ => pts_nil)
          (fun _ _ _ _ _ => pe_call GSt hr (by rfl) St.gl St.fn.kp St.bi .nil pass0 (pa_cons (pv 0) (pa_cons (pv 2) (pa_cons (pv 3) pa_nil))))) pa_nil))))), ?_⟩
    have q0 := q H (Same.refl _)
    refine ⟨_, rfl, _, _, _, _, _, rfl, .ty _, D.ty, kit_ty (kit_t d), _, rfl, ?_⟩
    cases D with
    | non => exact iteT q0
    | str x => exact iteT q0
    | dct h => exact iteT q0
    | lst h a => exact iteT q0
    | bl b => exact iteT q0
    | int i => exact iteT q0
    | @tup a xs ds hs ha =>
      have el := ha.len
      refine iteF ⟨_, rfl, a, _, rfl, .inr hs, _, _, rfl, rfl, _, rfl, ?_⟩
      by_cases h12 : ds.length ≤ 12
      · rw [el, decide_eq_false (show ¬ (12 : Int) < (ds.length : Int) by omega)]
        refine iteF ⟨_, rfl, p, it, cnt, lg, is, rs, rfl, M, fun G L sG nL hL => ?_⟩
        have hs1 := sG.tup hs
        have M1 := M.same sG
        have ha1 := ha.same sG
        refine ⟨_, rfl, a, rfl, ⟨_, hs1⟩, fun D nD => lc_tup (K := K) (a := a) (xs := xs) (fun i G2 => Mk G G2 D (((ds.take i).map (isStepD cnt is)).map V.bl)) (.start nD) (fun i G2 _ p => p.same.tup hs1) ?_ ?_⟩
        · intro i y G2 hy mk
          obtain ⟨dy, hdy, Dy⟩ := ha1.at hy
          rw [take_more hdy, List.map_append, List.map_append]
          refine ⟨rfl, _, rfl, _, rfl, _, rfl, p, it, L, cnt, lg, is, y, dy, rfl, M1.at_.same mk.same, M.ok, mk.same _ _ hL, Dy.same mk.same, fun G3 s3 => ⟨_, s3 _ _ mk.at_, ?_, mk.put s3⟩⟩
          rw [List.length_map, List.length_map, List.length_take]
          exact small1000 (by omega)
        intro G2 mk
        refine ⟨D, _, rfl, SqL.of mk.at_, ?_⟩
        rw [el, List.take_length, List.all_map]
        have z := q G2 (sG.trans mk.same)
        have e : isProgD cnt is (.tuple ds) = ds.all (isStepD cnt is) := by simp [isProgD, h12]
        rw [e] at z
        exact z
      · rw [el, decide_eq_true (show (12 : Int) < (ds.length : Int) by omega)]
        refine iteT ?_
        have e : isProgD cnt is (.tuple ds) = false := by simp [isProgD, h12]
        rw [e] at q0
        exact q0
end
end Ov
namespace Ov
open PySem PySem.Spec PyProof.Rows L2
def oV : Option Int → V
  | none => .non
  | some b => .int b
def oD : Option Int → PyData
  | none => .none
  | some b => .int b
theorem dz_opts {H : Hp} : ∀ os : List (Option Int), DzAll H (os.map oV) (os.map oD)
  | [] => .nil
  | none :: os => .cons .non (dz_opts os)
  | some b :: os => .cons (.int b) (dz_opts os)
abbrev PStep := I4 × List (Option Int)
def stepD (x : PStep) : PyData := .tuple [.str (txt x.1.nm), .tuple (x.2.map oD)]
structure StepOk (cnt : Nat) (is : List I4) (x : PStep) : Prop where
  mem : x.1 ∈ is
  pad : x.1.pad = false
  len : x.2.length + 1 = x.1.ln
  low : ∀ b, some b ∈ x.2 → 0 ≤ b ∧ b < (cnt : Int)
end Ov
namespace Ov
open PySem PySem.Spec PyProof.Rows L2
section
variable {P : Program} {w : World} {K : PySem.W.Frag} {mg : Str → Option Value} {base : Heap}
def spCkE (K : PySem.W.Frag) : Sp := fun vs H Q _ => ∃ (c : Addr) (xs : List V) (e : Nat), vs = [.ref c, .int (e : Int)] ∧ SqT K H c xs ∧ e ≤ xs.length ∧ Q .non H
theorem scCkE : FnScope ["code", "entry"] ["code", "entry"] (defScope sCheckEntry) := ⟨rfl, rfl, rfl, by decide +kernel, rfl, by decide +kernel, by decide +kernel⟩
theorem ok_ckE {f fB : Addr} {fd fdB : FuncData} {k : Nat} (F : Fun K "check_entry" "check_entry" sCheckEntry f fd) (T : Bi mg)
    (B : Def K mg "is_integer_between" sBetween fB fdB ["value", "least", "most"]) (GB : FnOk P w K mg base CX0 k fB fdB ["value", "least", "most"] spBetween) : FnOk P w K mg base CX0 (k + 1) f fd ["code", "entry"] (spCkE K) := by
  refine F.ok scCkE (fun vs H Q E h => ?_) (fun cdv A' outer s H vs Q E hr h => ?_)
  · obtain ⟨c, xs, e, rfl, _⟩ := h
    rfl
  · obtain ⟨c, xs, e, rfl, hc, he, q⟩ := h
    refine ⟨_, pss_one (ps_if (pt_not (pt_val (pe_call GB hr (by rfl) B.gl B.fn.kp B.bi .nil pass0 (pa_cons (pv 1) (pa_cons pe_int (pa_cons (pe_callB call_len_seq (by rfl) T.len PySem.boot_len (pa_cons (pv 0) pa_nil)) pa_nil)))))) (pss_one ps_never) pss_nil), ?_⟩
    exact ⟨_, rfl, _, rfl, c, _, rfl, .inr hc, _, _, _, rfl, by omega, by omega, _, rfl, iteF q⟩
end
end Ov
namespace Ov
open PySem PySem.Spec PyProof.Rows L2
def nmOf (is : List I4) (b : Int) : List Nat := match is.find? (fun x => decide ((x.op : Int) = b)) with
  | some x => x.nm
  | none => []
def nmKV (is : List I4) : List (Key × V) := is.map fun x => ((Sum.inl (x.op : Int) : Key), V.str (txt x.nm))
theorem val_nm {is : List I4} {b : Int} (h : 0 < laOf is b) : valV (nmKV is) (Sum.inl b : Key) = some (.str (txt (nmOf is b))) := by
  unfold valV nmKV nmOf
  unfold laOf at h
  induction is with
  | nil => cases h
  | cons x is ih =>
    rw [List.map_cons, List.find?_cons, List.find?_cons]
    rw [List.find?_cons] at h
    by_cases e : (x.op : Int) = b
    · subst e; simp
    · rw [decide_eq_false e] at h ⊢
      rw [decide_eq_false (fun z => e (Sum.inl.inj z))]
      exact ih h
def opsOf (bs : List Int) (o l : Nat) : List Int := (bs.drop (o + 1)).take (l - 1)
def rowD (is : List I4) (bs : List Int) (o : Nat) : PyData := .tuple [.int (o : Int), .str (txt (nmOf is (bs.getD o 0))), .tuple ((opsOf bs o (laOf is (bs.getD o 0))).map PyData.int)]
def endD (n : Nat) (begun : List Nat) (fol : Nat) : PyData :=
  if fol < n then .tuple [.str "stopped", .int (fol : Int)] else if n < fol then .tuple [.str "cut", .int ((begun.getLast?.getD 0 : Nat) : Int), .int ((fol - n : Nat) : Int)] else .tuple [.str "complete"]
def compOf (n : Nat) (begun : List Nat) (fol : Nat) : List Nat := if n < fol then begun.dropLast else begun
def decD (is : List I4) (bs : List Int) (begun : List Nat) (fol : Nat) : PyData := .tuple [.tuple ((compOf bs.length begun fol).map (rowD is bs)), endD bs.length begun fol]
theorem cut_mid (a b : Nat) (xs : List V) (h : a ≤ b) : cutV xs (some (a : Int)) (some (b : Int)) = (xs.drop a).take (b - a) := by
  unfold cutV
  rw [show HT.sIx xs.length 0 (some (a : Int)) = min a xs.length from HT.sIx_nat xs.length 0 a, show HT.sIx xs.length xs.length (some (b : Int)) = min b xs.length from HT.sIx_nat xs.length xs.length b]
  rcases Nat.le_total xs.length a with c | c
  · rw [Nat.min_eq_right c, List.drop_of_length_le c, List.drop_of_length_le (Nat.le_refl _), List.take_nil, List.take_nil]
  · rw [Nat.min_eq_left c]
    rcases Nat.le_total xs.length b with d | d
    · rw [Nat.min_eq_right d, List.take_of_length_le (by rw [List.length_drop]; exact Nat.le_refl _), List.take_of_length_le (by rw [List.length_drop]; omega)]
    · rw [Nat.min_eq_left d]
theorem cut_but (xs : List V) : cutV xs none (some (-1)) = xs.dropLast := by
  unfold cutV
  rw [HT.sIx_none, List.drop_zero, Nat.sub_zero, List.dropLast_eq_take]
  congr 1
  show (if (-1 : Int) < 0 then ((-1 : Int) + (xs.length : Int)).toNat else min (-1 : Int).toNat xs.length) = xs.length - 1
  rw [if_pos (by decide)]
  omega
/-- a list of things in the making: they live in the part T of the heap, the list itself does not -/
structure Coll (K : PySem.W.Frag) (T H : Hp) (D : Addr) (vs : List V) (ds : List PyData) : Prop where
  th : Same T H
  td : T D = none
  at_ : H D = some (.lst vs)
  all : DxAll K T vs ds
theorem Coll.grow {K : PySem.W.Frag} {T H T' H' : Hp} {D : Addr} {vs : List V} {ds : List PyData} (h : Coll K T H D vs ds) (g : Grow T H T' H') : Coll K T' H' D vs ds :=
  ⟨g.th, g.new _ h.td (by rw [h.at_]; exact fun z => nomatch z), g.hh _ _ h.at_, h.all.same g.tt⟩
theorem Coll.push {K : PySem.W.Frag} {T H : Hp} {D : Addr} {vs : List V} {ds : List PyData} {v : V} {d : PyData} (h : Coll K T H D vs ds) (x : Dx K T v d) : Coll K T (upd H D (.lst (vs ++ [v]))) D (vs ++ [v]) (ds ++ [d]) :=
  ⟨fun b o e => by rw [upd_ne (ne_of_none e h.td)]; exact h.th _ _ e, h.td, upd_same, h.all.app (.cons x .nil)⟩
section
variable {P : Program} {w : World} {K : PySem.W.Frag} {mg : Str → Option Value} {base : Heap}
def spReadI (K : PySem.W.Frag) (C : Addr) : Sp := fun vs H Q _ => ∃ (p it c lo : Addr) (cnt lg : Nat) (is : List I4) (rs : List Addr) (bs : List Int) (os : List Nat), vs = [.ref p, .ref c, .ref lo] ∧ Mach C H p cnt lg it is rs ∧ SqT K H c (bs.map V.int) ∧ H lo = some (.lst (os.map natV)) ∧ os.length ≤ 100000 ∧ (∀ o ∈ os, ∃ b, bs[o]? = some b ∧ 0 < laOf is b) ∧
  ∀ H' r, Same H H' → H r = none → Dx K H' (.ref r) (.tuple (os.map (rowD is bs))) → Q (.ref r) H'
theorem scReadI : FnScope ["instruction_set", "code", "offsets", "names", "rows", "offset", "length", "opcode", "name", "is_padding"] ["instruction_set", "code", "offsets"] (defScope sReadI) := ⟨rfl, rfl, rfl, by decide +kernel, rfl, by decide +kernel, by decide +kernel⟩
theorem ok_readI {f fL C : Addr} {fd fdL : FuncData} {k : Nat} (F : Fun K "read_instructions" "read_instructions" sReadI f fd) (T : Bi mg) (S : SetTxt K mg C)
    (ML : Meth K C "length_at" fL) (bL : Binds K fdL ["self", "byte"] []) (GL : FnOk P w K mg base CX0 k fL fdL ["self", "byte"] (spLenAt C)) :
    FnOk P w K mg base CX0 (k + 1) f fd ["instruction_set", "code", "offsets"] (spReadI K C) := by
  refine F.ok scReadI (fun vs H Q E h => ?_) (fun cdv A' outer s H vs Q E hr h => ?_)
  · obtain ⟨p, it, c, lo, cnt, lg, is, rs, bs, os, rfl, _⟩ := h
    rfl
  · obtain ⟨p, it, c, lo, cnt, lg, is, rs, bs, os, rfl, M, hc, hlo, hos, ho, q⟩ := h
    refine ⟨_, pss_cons (ps_setDc (i := 3) (own := [("opcode", 7), ("name", 8), ("length", 6), ("is_padding", 9)]) (g := gTup K 4 (gCons (gName 7) (gCons (gName 8) (gCons (gName 6) (gCons (gName 9) gNil))))) (tt := tYes) (by rfl) scReadI.nd rfl rfl (sw_dict rfl rfl rfl (by decide +kernel)) (pi_tup (pe_fld (pv 0) rfl))
          (blkOk_by (own := [("opcode", 7), ("name", 8), ("length", 6), ("is_padding", 9)]) (N := ["instruction_set", "code", "offsets", "names", "rows", "offset", "length", "opcode", "name", "is_padding"]) (sc := defScope sReadI) (by decide +kernel))
          (fun _ _ _ _ _ => pg_tup rfl (pgs_cons (pg_name (i := 7) scReadI.nd rfl (Or.inl rfl)) (pgs_cons (pg_name (i := 8) scReadI.nd rfl (Or.inl rfl)) (pgs_cons (pg_name (i := 6) scReadI.nd rfl (Or.inl rfl)) (pgs_cons (pg_name (i := 9) scReadI.nd rfl (Or.inl rfl)) pgs_nil)))))
          (fun _ _ _ _ _ => pts_nil) (fun _ _ _ _ _ => pv 7) (fun _ _ _ _ _ => pv 8))
      (pss_cons (ps_set (i := 4) scReadI.nd rfl (.inl rfl) (pe_lst pa_nil))
      (pss_cons (ps_for PassesOwn.never rfl (pi_list (pv 2)) (pg_name (i := 5) scReadI.nd rfl (.inl rfl))
        (pss_cons (ps_set (i := 6) scReadI.nd rfl (.inl rfl) (pe_meth (pv 0) S.cl ML GL hr bL .nil pass0 (pa_cons (pe_ix ix_tup (pv 1) (pv 5) (fun _ _ => rfl)) pa_nil)))
        (pss_one (ps_expr (pe_bm PySem.F.plainAttrs_list PySem.F.slot_list_append PySem.F.type_list_append mt_append (pv 4) (pa_cons (pe_tup (pa_cons (pv 5) (pa_cons (pe_dget (hu_of hr) (pv 3) (pe_ix ix_tup (pv 1) (pv 5) (fun _ _ => rfl)) (fun _ _ => rfl))
          (pa_cons (pe_slice sl_tupA (pv 1) (po_some (pe_op op_add (pv 5) pe_int)) (po_some (pe_op op_add (pv 5) (pv 6)))) pa_nil)))) pa_nil))))))
      (pss_one (ps_ret (pe_callTy call_tuple_of (by rfl) T.tuple (by decide +kernel) (pa_cons (pv 4) pa_nil)))))), ?_⟩
    obtain ⟨dx, d1, d2, hp, _, _⟩ := M.at_.ob
    have hit := M.its
    have rl := M.rows.1
    have few := M.ok.few
    have fresh1 : ∀ (i : Nat) (hi : i < is.length), (Sum.inl ((is[i]).op : Int) : Key) ∉ (nmKV (is.take i)).map (·.1) := fun i hi z => by
      unfold nmKV at z
      rw [List.map_map] at z
      obtain ⟨y, hy, e⟩ := List.mem_map.mp z
      obtain ⟨j, hj, ej⟩ := List.mem_take_iff_getElem.mp hy
      have e' : (y.op : Int) = ((is[i]).op : Int) := Sum.inl.inj e
      have h1 := List.pairwise_iff_getElem.mp M.ok.asc j i (by rw [List.length_map]; omega) (by rw [List.length_map]; exact hi) (by omega)
      rw [List.getElem_map, List.getElem_map, ej] at h1
      omega
    -- the names
    refine ⟨_, rfl, p, C, dx, _, _, rfl, hp, S.cl, S.nI, flds_its _ _ _ _, it, rfl, ⟨_, SqT.of hit⟩, fun dn ndn => dc_tup (K := K) (a := it) (xs := rs.map V.ref) (fun i H4 => Same H H4 ∧ H4 dn = some (.dK (nmKV (is.take i)))) ⟨same_upd ndn, upd_same⟩ (fun i H4 _ p => p.1.tup (SqT.of hit)) ?_ ?_⟩
    · rintro i x H4 hx ⟨s4, hD⟩
      obtain ⟨hi, r, rfl, hr2, _⟩ := rows_at M.rows hx
      refine ⟨r, _, rfl, SqT.of (s4 _ _ hr2), rfl, _, _, rfl, _, _, rfl, _, _, rfl, _, _, rfl, rfl, rfl, _, rfl, _, rfl, _, Sum.inl ((is[i]).op : Int), rfl, hD, ?_, fun b o e => ?_, ?_⟩
      · unfold nmKV
        rw [List.length_map, List.length_take]
        exact small1000 (by omega)
      · rw [upd_ne (ne_of_none e ndn)]
        exact s4 b o e
      · rw [upd_same, put_fresh (fresh1 i hi), take_more (List.getElem?_eq_getElem hi)]
        unfold nmKV
        rw [List.map_append]
        rfl
    rintro H1 ⟨s1, hdn⟩
    rw [List.length_map, rl, List.take_length] at hdn
    -- the rows
    refine ⟨Nat.zero_le _, fun D nD => ?_⟩
    have sD := same_upd (o := HO.lst []) nD
    have C0 : Coll K H1 (upd H1 D (HO.lst [])) D [] (([] : List Nat).map (rowD is bs)) := ⟨sD, nD, upd_same, .nil⟩
    generalize upd H1 D (HO.lst []) = H2 at *
    have lo2 : ∀ {T H' : Hp}, Same H1 T → Same T H' → SqL K H' lo (os.map natV) := fun a b => SqL.of (b _ _ (a _ _ (s1 _ _ hlo)))
    refine ⟨_, rfl, lo, rfl, ⟨_, SqL.of (sD _ _ (s1 _ _ hlo))⟩, for_list (K := K) (a := lo) (xs := os.map natV) (fun i σ H' => ∃ T' vs, Same H1 T' ∧ Coll K T' H' D vs ((os.take i).map (rowD is bs)) ∧ ∃ y5 y6 y7 y8 y9, σ = [some (.ref p), some (.ref c), some (.ref lo), some (.ref dn), some (.ref D), y5, y6, y7, y8, y9])
      ⟨H1, [], Same.refl _, C0, _, _, _, _, _, rfl⟩ (fun i σ H' _ ⟨T', _, st, cl, _⟩ => lo2 st cl.th) ?_ ?_⟩
    · rintro i x σ H' hx ⟨T', vs, st, cl, y5, y6, y7, y8, y9, rfl⟩
      obtain ⟨o, hoi, rfl⟩ : ∃ o, os[i]? = some o ∧ natV o = x := by
        rw [List.getElem?_map] at hx
        exact Option.map_eq_some_iff.mp hx
      have hi := (List.getElem?_eq_some_iff.mp hoi).1
      obtain ⟨b, hb, hl⟩ := ho o (List.mem_of_getElem? hoi)
      have iv : atI (bs.map V.int) (o : Int) = some (.int b) := atI_nat (by rw [List.getElem?_map, hb]; rfl)
      have s0T := s1.trans st
      have s0H := s0T.trans cl.th
      have cT := s0T.tup hc
      have SA' := M.at_.same s0H
      obtain ⟨dx', d1', d2', hp', _, _⟩ := SA'.ob
      have dg : DGet H' dn (.int b) (some (.str (txt (nmOf is b)))) := by
        have z := DGet.k (k := (Sum.inl b : Key)) (cl.th _ _ (st _ _ hdn))
        rw [val_nm hl] at z
        exact z
      refine ⟨_, rfl, p, dx', _, rfl, hp', no_meth _ _ _ _, _, rfl, _, rfl, c, _, _, _, rfl, rfl, s0H.tup hc, iv, p, it, cnt, is, b, rfl, SA', ?_⟩
      refine ⟨_, rfl, .inl ⟨rfl, _, SqL.of cl.at_⟩, _, rfl, _, rfl, _, rfl, _, rfl, c, _, _, _, rfl, rfl, s0H.tup hc, iv, dn, _, rfl, dg, ?_⟩
      refine ⟨_, rfl, _, rfl, _, _, rfl, rfl, _, rfl, _, rfl, _, rfl, _, _, rfl, rfl, _, rfl, cut_x cl.th cT fun l3 H3 T3 g S3 => ?_⟩
      have e3 : cutV (bs.map V.int) (some ((o : Int) + 1)) (some ((o : Int) + (laOf is b : Int))) = (opsOf bs o (laOf is b)).map V.int := by
        rw [show (o : Int) + 1 = ((o + 1 : Nat) : Int) by omega, show (o : Int) + (laOf is b : Int) = ((o + laOf is b : Nat) : Int) by omega, cut_mid _ _ _ (by omega)]
        unfold opsOf
        rw [← List.map_drop, ← List.map_take, show o + laOf is b - (o + 1) = laOf is b - 1 by omega]
      rw [e3] at S3
      refine ⟨by show 3 ≤ sizeLine; decide, fun r nr => ?_⟩
      have g2 := g.put (HO.tup [natV o, V.str (txt (nmOf is b)), V.ref l3]) nr
      have cl2 := cl.grow g2
      have gd : bs.getD o 0 = b := by rw [List.getD_eq_getElem?_getD, hb]; rfl
      have D2 : Dx K (upd T3 r (HO.tup [natV o, V.str (txt (nmOf is b)), V.ref l3])) (.ref r) (rowD is bs o) := by
        unfold rowD
        rw [gd]
        have sr := same_upd (o := HO.tup [natV o, V.str (txt (nmOf is b)), V.ref l3]) (none_of g.th nr)
        exact .tup (SqT.of upd_same) (.cons (.int _) (.cons (.str _) (.cons (.tup (sr.tup S3) (dx_ints _)) .nil)))
      refine ⟨D, _, _, rfl, rfl, cl2.at_, ?_, _, vs ++ [V.ref r], st.trans g2.tt, ?_, _, _, _, _, _, rfl⟩
      · rw [cl.all.len, List.length_map, List.length_take, sizeLine_eq]; omega
      · rw [take_more hoi, List.map_append]
        exact cl2.push D2
    · rintro σ H' ⟨T', vs, st, cl, y5, y6, y7, y8, y9, rfl⟩
      rw [List.length_map, List.take_length] at cl
      refine ⟨_, rfl, D, _, rfl, .inl ⟨SqL.of cl.at_, fun r nr => ?_⟩⟩
      have s3 := same_upd (o := HO.tup vs) nr
      have s0 := s1.trans (st.trans cl.th)
      exact q _ r (s0.trans s3) (s0.free nr) (.tup (SqT.of upd_same) (cl.all.same (cl.th.trans s3)))
def spEnding (K : PySem.W.Frag) : Sp := fun vs H Q _ => ∃ (c l : Addr) (xs : List V) (begun : List Nat) (fol : Nat), vs = [.ref c, .ref l, .int (fol : Int)] ∧ SqT K H c xs ∧ H l = some (.lst (begun.map natV)) ∧ (xs.length < fol → begun ≠ []) ∧
  ∀ H' r, Same H H' → H r = none → Dx K H' (.ref r) (endD xs.length begun fol) → Q (.ref r) H'
theorem scEnding : FnScope ["code", "begun", "following"] ["code", "begun", "following"] (defScope sEnding) := ⟨rfl, rfl, rfl, by decide +kernel, rfl, by decide +kernel, by decide +kernel⟩
theorem ok_ending {f : Addr} {fd : FuncData} {k : Nat} (F : Fun K "ending" "ending" sEnding f fd) (T : Bi mg) : FnOk P w K mg base CX0 (k + 1) f fd ["code", "begun", "following"] (spEnding K) := by
  refine F.ok scEnding (fun vs H Q E h => ?_) (fun cdv A' outer s H vs Q E hr h => ?_)
  · obtain ⟨c, l, xs, begun, fol, rfl, _⟩ := h
    rfl
  · obtain ⟨c, l, xs, begun, fol, rfl, hc, hl, hne, q⟩ := h
    refine ⟨_, pss_cons (ps_if (pt_cmpR op_lt (pv 2) (pe_callB call_len_seq (by rfl) T.len PySem.boot_len (pa_cons (pv 0) pa_nil)) (nomark _)) (pss_one (ps_ret (pe_tup (pa_cons pe_str (pa_cons (pv 2) pa_nil))))) pss_nil)
      (pss_cons (ps_if (pt_cmpR op_gt (pv 2) (pe_callB call_len_seq (by rfl) T.len PySem.boot_len (pa_cons (pv 0) pa_nil)) (nomark _)) (pss_one (ps_ret (pe_tup (pa_cons pe_str (pa_cons (pe_ix ix_list (pv 1) (pe_un un_neg pe_int) (fun _ _ => rfl)) (pa_cons (pe_op op_sub (pv 2) (pe_callB call_len_seq (by rfl) T.len PySem.boot_len (pa_cons (pv 0) pa_nil))) pa_nil)))))) pss_nil)
      (pss_one (ps_ret (pe_tup (pa_cons pe_str pa_nil))))), ?_⟩
    refine ⟨_, rfl, _, rfl, c, _, rfl, .inr hc, _, _, rfl, rfl, _, rfl, ?_⟩
    by_cases h1 : (fol : Int) < (xs.length : Int)
    · rw [decide_eq_true h1]
      refine iteT ⟨_, rfl, by show 2 ≤ sizeLine; decide, fun r nr => q _ r (same_upd nr) nr ?_⟩
      unfold endD
      rw [if_pos (by omega)]
      exact .tup (SqT.of upd_same) (.cons (.str _) (.cons (.int _) .nil))
    · rw [decide_eq_false h1]
      refine iteF ⟨_, rfl, _, rfl, c, _, rfl, .inr hc, _, _, rfl, rfl, _, rfl, ?_⟩
      by_cases h2 : (xs.length : Int) < (fol : Int)
      · rw [decide_eq_true h2]
        obtain ⟨bi, la, rfl⟩ : ∃ bi la, begun = bi ++ [la] := ⟨begun.dropLast, begun.getLast (hne (by omega)), (List.dropLast_concat_getLast _).symm⟩
        have iv : atI ((bi ++ [la]).map natV) (-1) = some (natV la) := by rw [List.map_append]; exact atI_last _ _
        refine iteT ⟨_, rfl, _, rfl, l, _, _, _, rfl, rfl, SqL.of hl, iv, ?_⟩
        refine ⟨_, rfl, _, rfl, c, _, rfl, .inr hc, _, _, rfl, rfl, by show 3 ≤ sizeLine; decide, fun r nr => q _ r (same_upd nr) nr ?_⟩
        unfold endD
        rw [if_neg (by omega), if_pos (by omega), List.getLast?_concat, show (((fol - xs.length : Nat)) : Int) = (fol : Int) - (xs.length : Int) by omega]
        exact .tup (SqT.of upd_same) (.cons (.str _) (.cons (.int _) (.cons (.int _) .nil)))
      · rw [decide_eq_false h2]
        refine iteF ⟨by show 1 ≤ sizeLine; decide, fun r nr => q _ r (same_upd nr) nr ?_⟩
        unfold endD
        rw [if_neg (by omega), if_neg (by omega)]
        exact .tup (SqT.of upd_same) (.cons (.str _) .nil)
def spDecode (K : PySem.W.Frag) (C : Addr) : Sp := fun vs H Q _ => ∃ (p it c : Addr) (cnt lg : Nat) (is : List I4) (rs : List Addr) (bs : List Int) (e : Nat), vs = [.ref p, .ref c, .int (e : Int)] ∧ Mach C H p cnt lg it is rs ∧ SqT K H c (bs.map V.int) ∧ bs.length ≤ 100000 ∧ e ≤ bs.length ∧
  ∀ H' r begun fol, Same H H' → H r = none → Ended (laOf is) bs e begun fol → begun.length ≤ bs.length → Dx K H' (.ref r) (decD is bs begun fol) → Q (.ref r) H'
theorem scDecode : FnScope ["instruction_set", "code", "entry", "begun", "following", "complete"] ["instruction_set", "code", "entry"] (defScope sDecode) := ⟨rfl, rfl, rfl, by decide +kernel, rfl, by decide +kernel, by decide +kernel⟩
theorem ok_decode {f fC fW fR fE C : Addr} {fd fdC fdW fdR fdE : FuncData} {k : Nat} (F : FunD K "decode" "decode" (defArgs sDecode) (defBody sDecode) (defScope sDecode) [.int 0] [] f fd) (T : Bi mg)
    (Ce : Def K mg "check_entry" sCheckEntry fC fdC ["code", "entry"]) (GC : FnOk P w K mg base CX0 k fC fdC ["code", "entry"] (spCkE K))
    (Wa : Def K mg "walk" sWalk fW fdW ["instruction_set", "code", "entry"]) (GW : FnOk P w K mg base CX0 k fW fdW ["instruction_set", "code", "entry"] (spWalk K C))
    (Re : Def K mg "read_instructions" sReadI fR fdR ["instruction_set", "code", "offsets"]) (GR : FnOk P w K mg base CX0 k fR fdR ["instruction_set", "code", "offsets"] (spReadI K C))
    (En : Def K mg "ending" sEnding fE fdE ["code", "begun", "following"]) (GE : FnOk P w K mg base CX0 k fE fdE ["code", "begun", "following"] (spEnding K)) :
    FnOk P w K mg base CX0 (k + 1) f fd ["instruction_set", "code", "entry"] (spDecode K C) := by
  refine F.ok scDecode (fun vs H Q E h => ?_) (fun cdv A' outer s H vs Q E hr h => ?_)
  · obtain ⟨p, it, c, cnt, lg, is, rs, bs, e, rfl, _⟩ := h
    rfl
  · obtain ⟨p, it, c, cnt, lg, is, rs, bs, e, rfl, M, hc, hb, he, q⟩ := h
    refine ⟨_, pss_cons (ps_expr (pe_call GC hr (by rfl) Ce.gl Ce.fn.kp Ce.bi .nil pass0 (pa_cons (pv 1) (pa_cons (pv 2) pa_nil))))
      (pss_cons (ps_asg (pe_call GW hr (by rfl) Wa.gl Wa.fn.kp Wa.bi .nil pass0 (pa_cons (pv 0) (pa_cons (pv 1) (pa_cons (pv 2) pa_nil)))) (pg_tup rfl (pgs_cons (pg_name (i := 3) scDecode.nd rfl (.inl rfl)) (pgs_cons (pg_name (i := 4) scDecode.nd rfl (.inl rfl)) pgs_nil))))
      (pss_cons (ps_set (i := 5) scDecode.nd rfl (.inl rfl) (pe_ifExp (pt_cmpR op_gt (pv 4) (pe_callB call_len_seq (by rfl) T.len PySem.boot_len (pa_cons (pv 1) pa_nil)) (nomark _)) (pe_slice sl_list (pv 3) po_none (po_some (pe_un un_neg pe_int))) (pv 3)))
      (pss_one (ps_ret (pe_tup (pa_cons (pe_call GR hr (by rfl) Re.gl Re.fn.kp Re.bi .nil pass0 (pa_cons (pv 0) (pa_cons (pv 1) (pa_cons (pv 5) pa_nil)))) (pa_cons (pe_call GE hr (by rfl) En.gl En.fn.kp En.bi .nil pass0 (pa_cons (pv 1) (pa_cons (pv 3) (pa_cons (pv 4) pa_nil)))) pa_nil))))))), ?_⟩
    refine ⟨_, rfl, _, rfl, c, _, e, rfl, hc, by rw [List.length_map]; exact he, ?_⟩
    refine ⟨_, rfl, _, rfl, _, rfl, p, it, c, cnt, is, bs, e, rfl, M.at_, hc, hb, fun H1 r1 l begun fol s1 en nr1 hr1 hl bl => ?_⟩
    refine ⟨r1, _, rfl, SqT.of hr1, rfl, _, _, rfl, _, _, rfl, rfl, ?_⟩
    have hc1 := s1.tup hc
    have ne : bs.length < fol → begun ≠ [] := fun z => by
      obtain ⟨o, b, h1, _⟩ := en.last z he
      intro e
      rw [e] at h1
      cases h1
    -- what follows the choice of complete instructions
    have rest : ∀ (H2 : Hp) (lc : Addr), Same H1 H2 → H2 lc = some (.lst ((compOf bs.length begun fol).map natV)) →
        (tRet (tTup (tCons (tCall (spReadI K C) [] E0 (tCons (tVar 0) (tCons (tVar 1) (tCons (tVar 5) tNil)))) (tCons (tCall (spEnding K) [] E0 (tCons (tVar 1) (tCons (tVar 3) (tCons (tVar 4) tNil)))) tNil)))) { nx := fun _ H' => Q .non H', rt := Q } [some (.ref p), some (.ref c), some (.int (e : Int)), some (.ref l), some (.int (fol : Int)), some (.ref lc)] H2 := by
      intro H2 lc s2 hlc
      have cm : ∀ o ∈ compOf bs.length begun fol, o ∈ begun := fun o ho => by
        unfold compOf at ho
        split at ho
        · exact List.dropLast_subset _ ho
        · exact ho
      have cl : (compOf bs.length begun fol).length ≤ begun.length := by
        unfold compOf
        split
        · rw [List.length_dropLast]; omega
        · exact Nat.le_refl _
      refine ⟨_, rfl, _, rfl, _, rfl, p, it, c, lc, cnt, lg, is, rs, bs, compOf bs.length begun fol, rfl, M.same (s1.trans s2), s2.tup hc1, hlc, by omega, fun o ho => (en.lt o (cm o ho)).2, fun H3 r3 s3 nr3 D3 => ?_⟩
      refine ⟨_, rfl, _, rfl, _, rfl, c, l, _, begun, fol, rfl, s3.tup (s2.tup hc1), s3 _ _ (s2 _ _ hl), by rw [List.length_map]; exact ne, fun H4 r4 s4 nr4 D4 => ?_⟩
      rw [List.length_map] at D4
      refine ⟨by show 2 ≤ sizeLine; decide, fun r nr => ?_⟩
      have s5 := same_upd (o := HO.tup [V.ref r3, V.ref r4]) nr
      have s05 := s1.trans (s2.trans (s3.trans (s4.trans s5)))
      refine q _ r begun fol s05 ((s1.trans (s2.trans (s3.trans s4))).free nr) en bl ?_
      exact .tup (SqT.of upd_same) (.cons ((D3.same s4).same s5) (.cons (D4.same s5) .nil))
    refine ⟨_, rfl, _, rfl, c, _, rfl, .inr hc1, _, _, rfl, rfl, _, rfl, ?_⟩
    rw [List.length_map]
    by_cases h : (bs.length : Int) < (fol : Int)
    · rw [decide_eq_true h]
      refine iteT ⟨_, rfl, _, rfl, _, rfl, l, _, rfl, SqL.of hl, fun lc nlc => ?_⟩
      refine rest _ lc (same_upd nlc) ?_
      rw [upd_same, cut_but]
      unfold compOf
      rw [if_pos (by omega), List.map_dropLast]
    · rw [decide_eq_false h]
      refine iteF ⟨_, rfl, ?_⟩
      refine rest _ l (Same.refl _) ?_
      unfold compOf
      rw [if_neg (by omega)]
      exact hl
end
end Ov
namespace Ov
open PySem PySem.Spec PyProof.Rows L2
mutual
theorem Dx.dp {K : PySem.W.Frag} {H : Hp} : ∀ {v : V} {d : PyData}, Dx K H v d → d.hasDict = false → Dp K H v d
  | _, _, .non, _ => .non
  | _, _, .bl b, _ => .bl b
  | _, _, .int i, _ => .int i
  | _, _, .str x, _ => .str x
  | _, _, .dct h, z => by simp [PyData.hasDict] at z
  | _, _, .lst h a, z => .lst h (DxAll.dp a (by simpa only [PyData.hasDict] using z))
  | _, _, .tup h a, z => .tup h (DxAll.dp a (by simpa only [PyData.hasDict] using z))
theorem DxAll.dp {K : PySem.W.Frag} {H : Hp} : ∀ {vs : List V} {ds : List PyData}, DxAll K H vs ds → PyData.hasDictAll ds = false → DpAll K H vs ds
  | _, _, .nil, _ => .nil
  | _, _, .cons (ds := ds) h a, z => by
    simp only [PyData.hasDictAll, Bool.or_eq_false_iff] at z
    exact .cons (Dx.dp h z.1) (DxAll.dp a z.2)
end
theorem dx_str {K : PySem.W.Frag} {H : Hp} {v : V} {x : Str} (h : Dx K H v (.str x)) : v = .str x := by cases h; rfl
theorem dx_int {K : PySem.W.Frag} {H : Hp} {v : V} {x : Int} (h : Dx K H v (.int x)) : v = .int x := by cases h; rfl
theorem dx_oD {K : PySem.W.Frag} {H : Hp} {v : V} {o : Option Int} (h : Dx K H v (oD o)) : v = oV o := by
  cases o with
  | none => cases h; rfl
  | some b => cases h; rfl
theorem dx_opts {K : PySem.W.Frag} {H : Hp} : ∀ {os : List (Option Int)} {vs : List V}, DxAll K H vs (os.map oD) → vs = os.map oV
  | [], _, h => by cases h; rfl
  | o :: os, _, h => by
    cases h with
    | cons h a => rw [dx_oD h, dx_opts a]; rfl
theorem dx_intsI {K : PySem.W.Frag} {H : Hp} : ∀ {os : List Int} {vs : List V}, DxAll K H vs (os.map PyData.int) → vs = os.map V.int
  | [], _, h => by cases h; rfl
  | o :: os, _, h => by
    cases h with
    | cons h a => rw [dx_int h, dx_intsI a]; rfl
theorem dx_tup {K : PySem.W.Frag} {H : Hp} {v : V} {ds : List PyData} (h : Dx K H v (.tuple ds)) : ∃ a xs, v = .ref a ∧ SqT K H a xs ∧ DxAll K H xs ds := by
  cases h with
  | tup h a => exact ⟨_, _, rfl, h, a⟩
theorem dx_step {K : PySem.W.Frag} {H : Hp} {v : V} {x : PStep} (h : Dx K H v (stepD x)) : ∃ a b, v = .ref a ∧ SqT K H a [.str (txt x.1.nm), .ref b] ∧ SqT K H b (x.2.map oV) := by
  obtain ⟨a, xs, rfl, h1, a1⟩ := dx_tup h
  cases a1 with
  | cons d1 a1 =>
    cases a1 with
    | cons d2 a1 =>
      cases a1
      obtain ⟨b, ys, rfl, h2, a2⟩ := dx_tup d2
      rw [dx_str d1] at h1
      rw [dx_opts a2] at h2
      exact ⟨a, b, rfl, h1, h2⟩
theorem dx_rowD {K : PySem.W.Frag} {H : Hp} {v : V} {is : List I4} {bs : List Int} {o : Nat} (h : Dx K H v (rowD is bs o)) : ∃ a b, v = .ref a ∧ SqT K H a [natV o, .str (txt (nmOf is (bs.getD o 0))), .ref b] ∧ SqT K H b ((opsOf bs o (laOf is (bs.getD o 0))).map V.int) := by
  obtain ⟨a, xs, rfl, h1, a1⟩ := dx_tup h
  cases a1 with
  | cons d1 a1 =>
    cases a1 with
    | cons d2 a1 =>
      cases a1 with
      | cons d3 a1 =>
        cases a1
        obtain ⟨b, ys, rfl, h2, a2⟩ := dx_tup d3
        rw [dx_int d1, dx_str d2] at h1
        rw [dx_intsI a2] at h2
        exact ⟨a, b, rfl, h1, h2⟩
def stepAt (is : List I4) (bs : List Int) (o : Nat) : Option PStep := match is.find? (fun x => decide ((x.op : Int) = bs.getD o 0)) with
  | some x => if x.pad = true then none else some (x, (opsOf bs o x.ln).map some)
  | none => none
def stepsOf (is : List I4) (bs : List Int) (begun : List Nat) : List PStep := begun.filterMap (stepAt is bs)
def foundOf (is : List I4) (bs : List Int) (begun : List Nat) (fol : Nat) : Option (List PStep) := if fol = bs.length then some (stepsOf is bs begun) else none
def foundD : Option (List PStep) → PyData
  | none => .none
  | some gs => .tuple (gs.map stepD)
theorem nm_inj {is : List I4} (nd : (is.map I4.nm).Nodup) {x y : I4} (hx : x ∈ is) (hy : y ∈ is) (e : x.nm = y.nm) : x = y := by
  induction is with
  | nil => cases hx
  | cons z is ih =>
    rw [List.map_cons, List.nodup_cons] at nd
    rcases List.mem_cons.mp hx with rfl | hx'
    · rcases List.mem_cons.mp hy with rfl | hy'
      · rfl
      · exact absurd (List.mem_map.mpr ⟨y, hy', e.symm⟩) nd.1
    · rcases List.mem_cons.mp hy with rfl | hy'
      · exact absurd (List.mem_map.mpr ⟨x, hx', e⟩) nd.1
      · exact ih nd.2 hx' hy'
theorem step_of {is : List I4} (nd : (is.map I4.nm).Nodup) {x : I4} (hx : x ∈ is) : stepI is (txt x.nm) = if x.pad = true then none else some x := by
  cases hp : x.pad with
  | true =>
    rw [if_pos rfl]
    cases h : stepI is (txt x.nm) with
    | none => rfl
    | some y =>
      obtain ⟨y1, y2, y3⟩ := stepI_in h
      have e := nm_inj nd y1 hx (txt_inj y3)
      rw [e, hp] at y2
      cases y2
  | false =>
    rw [if_neg (by decide)]
    cases h : stepI is (txt x.nm) with
    | none =>
      unfold stepI at h
      have z := List.find?_eq_none.mp h x (List.mem_filter.mpr ⟨hx, by rw [hp]; rfl⟩)
      exact absurd (decide_eq_true rfl) z
    | some y =>
      obtain ⟨y1, y2, y3⟩ := stepI_in h
      rw [nm_inj nd y1 hx (txt_inj y3)]
theorem at_of {is : List I4} {b : Int} (h : 0 < laOf is b) : ∃ x, x ∈ is ∧ is.find? (fun x => decide ((x.op : Int) = b)) = some x ∧ laOf is b = x.ln ∧ nmOf is b = x.nm := by
  unfold laOf at h
  cases e : is.find? (fun x => decide ((x.op : Int) = b)) with
  | none => rw [e] at h; cases h
  | some x =>
    refine ⟨x, List.mem_of_find?_eq_some e, rfl, ?_, ?_⟩
    · unfold laOf; rw [e]
    · unfold nmOf; rw [e]
theorem stepAt_of {is : List I4} {bs : List Int} {o : Nat} {x : I4} (h : is.find? (fun x => decide ((x.op : Int) = bs.getD o 0)) = some x) : stepAt is bs o = if x.pad = true then none else some (x, (opsOf bs o x.ln).map some) := by
  unfold stepAt
  rw [h]
theorem opts_some (os : List Int) : (os.map some).map oD = os.map PyData.int := by rw [List.map_map]; rfl
theorem optv_some (os : List Int) : (os.map some).map oV = os.map V.int := by rw [List.map_map]; rfl
section
variable {P : Program} {w : World} {K : PySem.W.Frag} {mg : Str → Option Value} {base : Heap}
def endComplete : PyData := .tuple [.str "complete"]
theorem end_ne (n : Nat) (begun : List Nat) (fol : Nat) : PyData.eqv (endD n begun fol) endComplete = decide (fol = n) := by
  unfold endD endComplete
  by_cases h1 : fol < n
  · rw [if_pos h1, decide_eq_false (by omega)]
    simp [PyData.eqv, PyData.eqvAll]
  · rw [if_neg h1]
    by_cases h2 : n < fol
    · rw [if_pos h2, decide_eq_false (by omega)]
      simp [PyData.eqv, PyData.eqvAll]
    · rw [if_neg h2, decide_eq_true (by omega)]
      simp [PyData.eqv, PyData.eqvAll]
theorem end_shaped (n : Nat) (begun : List Nat) (fol : Nat) : SeqAt.shaped (endD n begun fol) = true ∧ (endD n begun fol).hasDict = false := by
  have sh : ∀ (x : Str) (ds : List PyData), PyData.strOk x = true → PyData.canLayAll0 ds = true → PyData.depthAll ds ≤ 1 → SeqAt.shaped (.tuple (.str x :: ds)) = true := fun x ds h1 h2 h3 => by
    refine Bool.and_eq_true_iff.mpr ⟨?_, decide_eq_true ?_⟩
    · simp only [PyData.canLay0, PyData.canLayAll0]
      rw [h1, h2]
      rfl
    · simp only [PyData.depth, PyData.depthAll]
      omega
  unfold endD
  split
  · exact ⟨sh _ _ (by decide +kernel) (by simp [PyData.canLayAll0, PyData.canLay0]) (by simp [PyData.depthAll, PyData.depth]), rfl⟩
  · split
    · exact ⟨sh _ _ (by decide +kernel) (by simp [PyData.canLayAll0, PyData.canLay0]) (by simp [PyData.depthAll, PyData.depth]), rfl⟩
    · exact ⟨sh _ _ (by decide +kernel) (by simp [PyData.canLayAll0, PyData.canLay0]) (by simp [PyData.depthAll, PyData.depth]), rfl⟩
def spExec (K : PySem.W.Frag) (C : Addr) : Sp := fun vs H Q _ => ∃ (p it c : Addr) (cnt lg : Nat) (is : List I4) (rs : List Addr) (bs : List Int) (e : Nat), vs = [.ref p, .ref c, .int (e : Int)] ∧ Mach C H p cnt lg it is rs ∧ SqT K H c (bs.map V.int) ∧ bs.length ≤ 100000 ∧ e ≤ bs.length ∧
  ∀ H' v begun fol, Same H H' → Ended (laOf is) bs e begun fol → begun.length ≤ bs.length → Dx K H' v (foundD (foundOf is bs begun fol)) → Q v H'
abbrev nExec : List Str := ["instruction_set", "code", "entry", "read", "ending", "lengths", "offset", "name", "operands"]
theorem scExec : FnScope nExec ["instruction_set", "code", "entry"] (defScope s_executed) := ⟨rfl, rfl, rfl, by decide +kernel, rfl, by decide +kernel, by decide +kernel⟩
theorem ok_exec {f fD fL C : Addr} {fdD fdL : FuncData} {fd : FuncData} {k : Nat} (F : FunD K "executed" "executed" (defArgs s_executed) (defBody s_executed) (defScope s_executed) [.int 0] [] f fd) (T : Bi mg)
    (gD : mg "decode" = some (.ref fD)) (kD : PySem.W.keepIn K (.ref fD) = true) (bD : Binds K fdD ["instruction_set", "code", "entry"] []) (GD : FnOk P w K mg base CX0 k fD fdD ["instruction_set", "code", "entry"] (spDecode K C))
    (Sl : Def K mg "step_lengths" s_step_lengths fL fdL ["instruction_set"]) (GSl : FnOk P w K mg base CX0 k fL fdL ["instruction_set"] (spStepL C)) :
    FnOk P w K mg base CX0 (k + 1) f fd ["instruction_set", "code", "entry"] (spExec K C) := by
  refine F.ok scExec (fun vs H Q E h => ?_) (fun cdv A' outer s H vs Q E hr h => ?_)
  · obtain ⟨p, it, c, cnt, lg, is, rs, bs, e, rfl, _⟩ := h
    rfl
  · obtain ⟨p, it, c, cnt, lg, is, rs, bs, e, rfl, M, hc, hb, he, q⟩ := h
    refine ⟨_, pss_cons (ps_asg (pe_call GD hr (by rfl) gD kD bD .nil pass0 (pa_cons (pv 0) (pa_cons (pv 1) (pa_cons (pv 2) pa_nil)))) (pg_tup rfl (pgs_cons (pg_name (i := 3) scExec.nd rfl (.inl rfl)) (pgs_cons (pg_name (i := 4) scExec.nd rfl (.inl rfl)) pgs_nil))))
      (pss_cons (ps_if (pt_cmpR (op_neD hr.units) (pv 4) (pe_tup (pa_cons pe_str pa_nil)) (nomark _)) (pss_one (ps_ret pe_non)) pss_nil)
      (pss_cons (ps_set (i := 5) scExec.nd rfl (.inr rfl) (pe_call GSl hr (by rfl) Sl.gl Sl.fn.kp Sl.bi .nil pass0 (pa_cons (pv 0) pa_nil)))
      (pss_one (ps_ret (pe_callTy call_tuple_of (by rfl) T.tuple (by decide +kernel) (pa_cons
        (pe_lc (own := [("offset", 6), ("name", 7), ("operands", 8)]) (g := gTup K 3 (gCons (gName 6) (gCons (gName 7) (gCons (gName 8) gNil)))) (by rfl) scExec.nd (pi_tup (pv 3))
          (blkOk_by (own := [("offset", 6), ("name", 7), ("operands", 8)]) (N := nExec) (sc := defScope s_executed) (by decide +kernel))
          (fun _ _ _ _ _ => pg_tup rfl (pgs_cons (pg_name (i := 6) scExec.nd rfl (Or.inl rfl)) (pgs_cons (pg_name (i := 7) scExec.nd rfl (Or.inl rfl)) (pgs_cons (pg_name (i := 8) scExec.nd rfl (Or.inl rfl)) pgs_nil))))
          (fun _ _ _ _ _ => pts_one (pt_cmp (pc_din (hu_of hr) (pv 7) (pv 5)))) (fun _ _ _ _ _ => pe_tup (pa_cons (pv 7) (pa_cons (pv 8) pa_nil)))) pa_nil)))))), ?_⟩
    have few := M.ok.few
    refine ⟨_, rfl, _, rfl, _, rfl, p, it, c, cnt, lg, is, rs, bs, e, rfl, M, hc, hb, he, fun H1 r begun fol s1 nr en bl D => ?_⟩
    obtain ⟨a, xs, ea, ha, Da⟩ := dx_tup D
    cases ea
    cases Da with
    | @cons v1 _ _ _ d1 Da =>
    cases Da with
    | @cons v2 _ _ _ d2 Da =>
    cases Da
    obtain ⟨a1, rws, rfl, h1, A1⟩ := dx_tup d1
    refine ⟨r, _, rfl, ha, rfl, _, _, rfl, _, _, rfl, rfl, ?_⟩
    have es := end_shaped bs.length begun fol
    refine ⟨_, rfl, by show 1 ≤ sizeLine; decide, fun l nl => ?_⟩
    have s2 := same_upd (o := HO.tup [V.str "complete"]) nl
    refine ⟨_, endComplete, (d2.same s2).dp es.2, .tup (SqT.of upd_same) (.cons (.str _) .nil), es.1, (end_shaped 0 [] 0).1, _, rfl, ?_⟩
    rw [end_ne]
    generalize upd H1 l (HO.tup [V.str "complete"]) = H2 at *
    have s02 := s1.trans s2
    by_cases hf : fol = bs.length
    · rw [decide_eq_true hf]
      have ec : compOf bs.length begun fol = begun := by unfold compOf; rw [if_neg (by omega)]
      rw [ec] at A1
      have ef : foundOf is bs begun fol = some (stepsOf is bs begun) := if_pos hf
      refine iteF ⟨_, rfl, p, it, cnt, lg, is, rs, rfl, M.same s02, fun H3 L s3 nL hL => ?_⟩
      have h13 := (s2.trans s3).tup h1
      have A13 := A1.same (s2.trans s3)
      refine ⟨_, rfl, a1, rfl, ⟨_, h13⟩, fun D nD => lc_tup (K := K) (a := a1) (xs := rws) (fun i G => ∃ T' vs, Same H3 T' ∧ Coll K T' G D vs (((begun.take i).filterMap (stepAt is bs)).map stepD)) ?_ (fun i G _ ⟨T', vs, st, cl⟩ => (st.trans cl.th).tup h13) ?_ ?_⟩
      · exact ⟨H3, [], Same.refl _, ⟨same_upd nD, nD, upd_same, .nil⟩⟩
      · rintro i x G hx ⟨T', vs, st, cl⟩
        obtain ⟨d, hd, Dd⟩ := A13.at hx
        rw [List.getElem?_map] at hd
        obtain ⟨o, ho, rfl⟩ := Option.map_eq_some_iff.mp hd
        obtain ⟨_, b, hbo, hlb⟩ := en.lt o (List.mem_of_getElem? ho)
        have gd : bs.getD o 0 = b := by rw [List.getD_eq_getElem?_getD, hbo]; rfl
        obtain ⟨y, yin, hy, ely, eny⟩ := at_of hlb
        have sA := stepAt_of (bs := bs) (o := o) (x := y) (by rw [gd]; exact hy)
        obtain ⟨a2, b2, rfl, q1, q2⟩ := dx_rowD (Dd.same st)
        rw [gd, eny] at q1
        rw [gd, ely] at q2
        refine ⟨a2, _, rfl, cl.th.tup q1, rfl, _, _, rfl, _, _, rfl, _, _, rfl, rfl, rfl, _, rfl, _, rfl, L, _, rfl, DGet.k (k := Sum.inr (txt y.nm)) (cl.th _ _ (st _ _ hL)), _, rfl, ?_⟩
        rw [take_more ho, List.filterMap_append, List.filterMap_cons, List.filterMap_nil, sA, val_step, step_of M.ok.nd yin]
        have vl : vs.length ≤ 100000 := by
          rw [cl.all.len, List.length_map]
          refine Nat.le_trans (List.length_filterMap_le _ _) ?_
          rw [List.length_take]
          omega
        cases hp : y.pad with
        | true =>
          rw [if_pos rfl]
          refine iteF ⟨T', vs, st, ?_⟩
          rw [List.append_nil]
          exact cl
        | false =>
          rw [if_neg (by decide)]
          refine iteT ⟨_, rfl, _, rfl, by show 2 ≤ sizeLine; decide, fun t nt => ?_⟩
          have g := (Grow.refl cl.th).put (HO.tup [V.str (txt y.nm), V.ref b2]) nt
          have cl2 := cl.grow g
          refine ⟨vs, cl2.at_, by rw [sizeLine_eq]; omega, _, vs ++ [V.ref t], st.trans g.tt, ?_⟩
          rw [List.map_append]
          refine cl2.push (.tup (SqT.of upd_same) (.cons (.str _) (.cons (.tup (g.tt.tup q2) ?_) .nil)))
          rw [opts_some]
          exact dx_ints _
      · rintro G ⟨T', vs, st, cl⟩
        have rl : rws.length = begun.length := by rw [A1.len, List.length_map]
        rw [rl, List.take_length] at cl
        refine ⟨D, _, rfl, .inl ⟨SqL.of cl.at_, fun r2 nr2 => ?_⟩⟩
        have s5 := same_upd (o := HO.tup vs) nr2
        refine q _ _ begun fol (s02.trans (s3.trans (st.trans (cl.th.trans s5)))) en bl ?_
        rw [ef]
        exact .tup (SqT.of upd_same) (cl.all.same (cl.th.trans s5))
    · rw [decide_eq_false hf]
      refine iteT (q H2 _ begun fol s02 en bl ?_)
      unfold foundOf
      rw [if_neg hf]
      exact .non
end
end Ov
namespace Ov
open PySem PySem.Spec PyProof.Rows L2
def optFit : Option Int → Option Int → Bool
  | none, _ => true
  | some b, g => decide (some b = g)
def stepFit (w g : PStep) : Bool := decide (txt g.1.nm = txt w.1.nm) && (g.2.zip w.2).all fun q => optFit q.2 q.1
def fits : Option (List PStep) → List PStep → Bool
  | none, _ => false
  | some gs, ps => decide (gs.length = ps.length) && (gs.zip ps).all fun q => stepFit q.2 q.1
theorem optFit_some (b : Int) (g : Option Int) : optFit (some b) g = decide (some b = g) := rfl
theorem fits_some (gs ps : List PStep) : fits (some gs) ps = (decide (gs.length = ps.length) && (gs.zip ps).all fun q => stepFit q.2 q.1) := rfl
theorem opt_fit {b : Int} {o : Int} : decide (V.int b = V.int o) = optFit (some b) (some o) := by
  rw [optFit_some]
  by_cases h : b = o
  · subst h; simp
  · rw [decide_eq_false (fun z => h (V.int.inj z)), decide_eq_false (fun z => h (Option.some.inj z))]
theorem stepOk_prog {cnt lg : Nat} {is : List I4} (ok : TabOk cnt lg is) {x : PStep} (h : StepOk cnt is x) : isStepD cnt is (stepD x) = true := by
  have e : isStepD cnt is (stepD x) = isOps cnt x.1.ln (.tuple (x.2.map oD)) := by
    have z := step_of ok.nd h.mem
    rw [h.pad, if_neg (by decide)] at z
    simp [stepD, isStepD, isNm, z]
  have e2 : isOps cnt x.1.ln (.tuple (x.2.map oD)) = (decide ((x.2.map oD).length + 1 = x.1.ln) && (x.2.map oD).all (opOk cnt)) := by simp [isOps]
  rw [e, e2, List.length_map, decide_eq_true h.len, Bool.true_and, List.all_eq_true]
  intro d hd
  obtain ⟨o, ho, rfl⟩ := List.mem_map.mp hd
  cases o with
  | none => rfl
  | some b =>
    have := h.low b ho
    show btw 0 ((cnt : Int) - 1) (.int b) = true
    unfold btw
    simp only [Bool.and_eq_true, decide_eq_true_eq]
    omega
theorem plan_prog {cnt lg : Nat} {is : List I4} (ok : TabOk cnt lg is) {ps : List PStep} (h : ∀ x ∈ ps, StepOk cnt is x) (l : ps.length ≤ 12) : isProgD cnt is (.tuple (ps.map stepD)) = true := by
  have e : isProgD cnt is (.tuple (ps.map stepD)) = (decide ((ps.map stepD).length ≤ 12) && (ps.map stepD).all (isStepD cnt is)) := by simp [isProgD]
  rw [e, List.length_map, decide_eq_true l, Bool.true_and, List.all_eq_true]
  intro d hd
  obtain ⟨x, hx, rfl⟩ := List.mem_map.mp hd
  exact stepOk_prog ok (h x hx)
theorem steps_some {is : List I4} {bs : List Int} {begun : List Nat} {g : PStep} (h : g ∈ stepsOf is bs begun) : ∃ os : List Int, g.2 = os.map some := by
  obtain ⟨o, _, e⟩ := List.mem_filterMap.mp h
  unfold stepAt at e
  split at e
  · split at e
    · cases e
    · cases e
      exact ⟨_, rfl⟩
  · cases e
section
variable {P : Program} {w : World} {K : PySem.W.Frag} {mg : Str → Option Value} {base : Heap}
def spMatch (K : PySem.W.Frag) : Sp := fun vs H Q _ => ∃ (v1 v2 : V) (x : I4) (os : List Int) (y : PStep), vs = [v1, v2] ∧ Dx K H v1 (stepD (x, os.map some)) ∧ Dx K H v2 (stepD y) ∧ os.length ≤ 1000 ∧ ∀ H', Same H H' → Q (.bl (stepFit y (x, os.map some))) H'
abbrev nMatch : List Str := ["step", "wanted", "name", "operands", "wanted_name", "wanted_operands", "byte", "item"]
theorem scMatch : FnScope nMatch ["step", "wanted"] (defScope s_is_match) := ⟨rfl, rfl, rfl, by decide +kernel, rfl, by decide +kernel, by decide +kernel⟩
theorem ok_match {f : Addr} {fd : FuncData} {k : Nat} (F : Fun K "is_match" "is_match" s_is_match f fd) (T : Bi mg) : FnOk P w K mg base CX0 (k + 1) f fd ["step", "wanted"] (spMatch K) := by
  refine F.ok scMatch (fun vs H Q E h => ?_) (fun cdv A' outer s H vs Q E hr h => ?_)
  · obtain ⟨v1, v2, x, os, y, rfl, _⟩ := h
    rfl
  · obtain ⟨v1, v2, x, os, y, rfl, D1, D2, ol, q⟩ := h
    refine ⟨_, pss_cons (ps_asg (pv 0) (pg_tup rfl (pgs_cons (pg_name (i := 2) scMatch.nd rfl (.inl rfl)) (pgs_cons (pg_name (i := 3) scMatch.nd rfl (.inl rfl)) pgs_nil))))
      (pss_cons (ps_asg (pv 1) (pg_tup rfl (pgs_cons (pg_name (i := 4) scMatch.nd rfl (.inl rfl)) (pgs_cons (pg_name (i := 5) scMatch.nd rfl (.inl rfl)) pgs_nil))))
      (pss_cons (ps_if (pt_cmpR op_ne (pv 2) (pv 4) (nomark _)) (pss_one (ps_ret pe_bl)) pss_nil)
      (pss_one (ps_ret (pe_callB (cr_all rfl) (by rfl) T.all (by decide +kernel) (pa_cons
        (pe_lc (own := [("byte", 6), ("item", 7)]) (g := gTup K 2 (gCons (gName 6) (gCons (gName 7) gNil))) (tt := tYes) (by rfl) scMatch.nd (RZ.pi_zipA (by rfl) T.zip (pa_cons (pv 3) (pa_cons (pv 5) pa_nil)))
          (blkOk_by (own := [("byte", 6), ("item", 7)]) (N := nMatch) (sc := defScope s_is_match) (by decide +kernel))
          (fun _ _ _ _ _ => pg_tup rfl (pgs_cons (pg_name (i := 6) scMatch.nd rfl (Or.inl rfl)) (pgs_cons (pg_name (i := 7) scMatch.nd rfl (Or.inl rfl)) pgs_nil)))
          (fun _ _ _ _ _ => pts_nil) (fun _ _ _ _ _ => pe_or (pe_cmpR op_isN (pv 7) pe_non (nomark _)) (pe_one (pe_cmpR op_eq (pv 7) (pv 6) (nomark _))))) pa_nil)))))), ?_⟩
    obtain ⟨a1, b1, rfl, h1, g1⟩ := dx_step D1
    obtain ⟨a2, b2, rfl, h2, g2⟩ := dx_step D2
    rw [optv_some] at g1
    refine ⟨_, rfl, a1, _, rfl, h1, rfl, _, _, rfl, _, _, rfl, rfl, _, rfl, a2, _, rfl, h2, rfl, _, _, rfl, _, _, rfl, rfl, ?_⟩
    refine ⟨_, rfl, _, rfl, rfl, _, rfl, ?_⟩
    have q0 := q H (Same.refl _)
    by_cases hn : txt x.nm = txt y.1.nm
    · rw [decide_eq_true (congrArg V.str hn)]
      refine iteF ⟨_, rfl, _, rfl, b1, b2, _, _, rfl, .inr ⟨g1, g2, fun D nD => lc_it (walk_zipT (xs := os.map V.int) (ys := y.2.map oV) rfl) (fun i G => Mk H G D (((((os.map some).zip y.2).take i).map fun q => optFit q.2 q.1).map V.bl)) (.start nD) (fun i G _ p => ⟨p.same.tup g1, p.same.tup g2⟩) (fun i v G G' hi p yy => ?_) (fun G p => ?_)⟩⟩
      · obtain ⟨t, x1, x2, rfl, nt, rfl, f1, f2⟩ := yy
        have f1' : (os.map V.int)[i]? = some x1 := f1
        have f2' : (y.2.map oV)[i]? = some x2 := f2
        rw [List.getElem?_map] at f1' f2'
        obtain ⟨b, hb, rfl⟩ := Option.map_eq_some_iff.mp f1'
        obtain ⟨o, ho, rfl⟩ := Option.map_eq_some_iff.mp f2'
        have hz : ((os.map some).zip y.2)[i]? = some (some b, o) := by
          rw [List.getElem?_zip_eq_some]
          exact ⟨by rw [List.getElem?_map, hb]; rfl, ho⟩
        have i1 : i < os.length := (List.getElem?_eq_some_iff.mp hb).1
        have st := same_upd (o := HO.tup [V.int b, oV o]) nt
        have fin : ∀ bb : Bool, bb = optFit o (some b) → ∃ acc, upd G t (HO.tup [V.int b, oV o]) D = some (.lst acc) ∧ acc.length < sizeLine ∧ Mk H (upd (upd G t (HO.tup [V.int b, oV o])) D (.lst (acc ++ [V.bl bb]))) D (((((os.map some).zip y.2).take (i + 1)).map fun q => optFit q.2 q.1).map V.bl) := fun bb e => by
          subst e
          refine ⟨_, st _ _ p.at_, by rw [List.length_map, List.length_map, List.length_take]; exact small1000 (by omega), ?_⟩
          rw [take_more hz, List.map_append, List.map_append]
          exact p.put st
        refine ⟨t, _, rfl, SqT.of upd_same, rfl, _, _, rfl, _, _, rfl, rfl, rfl, _, rfl, rfl, _, rfl, ?_⟩
        cases o with
        | none => exact iteT (fin true rfl)
        | some z =>
          refine iteF ⟨_, rfl, _, rfl, rfl, ?_⟩
          exact fin _ opt_fit
      · refine ⟨D, _, rfl, .inl (.inl p.at_), ?_⟩
        have z := q G p.same
        unfold stepFit at z
        rw [decide_eq_true hn, Bool.true_and] at z
        rw [show min (os.map V.int).length (y.2.map oV).length = ((os.map some).zip y.2).length by rw [List.length_zip, List.length_map, List.length_map, List.length_map], List.take_length, List.all_map]
        exact z
    · rw [decide_eq_false (fun z => hn (V.str.inj z))]
      refine iteT ?_
      unfold stepFit at q0
      rw [decide_eq_false hn, Bool.false_and] at q0
      exact q0
def spCkP (K : PySem.W.Frag) (C : Addr) : Sp := fun vs H Q _ => ∃ (p it : Addr) (cnt lg : Nat) (is : List I4) (rs : List Addr) (v : V) (d : PyData), vs = [.ref p, v] ∧ Mach C H p cnt lg it is rs ∧ Dx K H v d ∧ isProgD cnt is d = true ∧ ∀ H', Same H H' → Q .non H'
theorem scCkP : FnScope ["instruction_set", "program"] ["instruction_set", "program"] (defScope s_check_program) := ⟨rfl, rfl, rfl, by decide +kernel, rfl, by decide +kernel, by decide +kernel⟩
theorem ok_ckP {f fP C : Addr} {fd fdP : FuncData} {k : Nat} (F : Fun K "check_program" "check_program" s_check_program f fd)
    (Pr : Def K mg "is_program" s_is_program fP fdP ["instruction_set", "value"]) (GP : FnOk P w K mg base CX0 k fP fdP ["instruction_set", "value"] (spProg K C)) : FnOk P w K mg base CX0 (k + 1) f fd ["instruction_set", "program"] (spCkP K C) := by
  refine F.ok scCkP (fun vs H Q E h => ?_) (fun cdv A' outer s H vs Q E hr h => ?_)
  · obtain ⟨p, it, cnt, lg, is, rs, v, d, rfl, _⟩ := h
    rfl
  · obtain ⟨p, it, cnt, lg, is, rs, v, d, rfl, M, D, ok, q⟩ := h
    refine ⟨_, pss_one (ps_if (pt_not (pt_val (pe_call GP hr (by rfl) Pr.gl Pr.fn.kp Pr.bi .nil pass0 (pa_cons (pv 0) (pa_cons (pv 1) pa_nil))))) (pss_one ps_never) pss_nil), ?_⟩
    refine ⟨_, rfl, _, rfl, p, it, cnt, lg, is, rs, v, d, rfl, M, D, fun H' s' => ?_⟩
    rw [ok]
    exact ⟨_, rfl, iteF (q H' s')⟩
def spRuns (K : PySem.W.Frag) (C : Addr) : Sp := fun vs H Q _ => ∃ (p it c : Addr) (cnt lg : Nat) (is : List I4) (rs : List Addr) (bs : List Int) (e : Nat) (v : V) (ps : List PStep), vs = [.ref p, .ref c, .int (e : Int), v] ∧ Mach C H p cnt lg it is rs ∧ SqT K H c (bs.map V.int) ∧ bs.length ≤ 1000 ∧ e ≤ bs.length ∧
  Dx K H v (.tuple (ps.map stepD)) ∧ (∀ x ∈ ps, StepOk cnt is x) ∧ ps.length ≤ 12 ∧ ∀ H' begun fol, Same H H' → Ended (laOf is) bs e begun fol → begun.length ≤ bs.length → Q (.bl (fits (foundOf is bs begun fol) ps)) H'
abbrev nRuns : List Str := ["instruction_set", "code", "entry", "program", "steps", "step", "wanted"]
theorem scRuns : FnScope nRuns ["instruction_set", "code", "entry", "program"] (defScope s_runs) := ⟨rfl, rfl, rfl, by decide +kernel, rfl, by decide +kernel, by decide +kernel⟩
theorem ok_runs {f fC fP fE fM C : Addr} {fd fdC fdP fdE fdM : FuncData} {k : Nat} (F : Fun K "runs" "runs" s_runs f fd) (T : Bi mg)
    (Ce : Def K mg "check_entry" sCheckEntry fC fdC ["code", "entry"]) (GC : FnOk P w K mg base CX0 k fC fdC ["code", "entry"] (spCkE K))
    (Cp : Def K mg "check_program" s_check_program fP fdP ["instruction_set", "program"]) (GP : FnOk P w K mg base CX0 k fP fdP ["instruction_set", "program"] (spCkP K C))
    (gE : mg "executed" = some (.ref fE)) (kE : PySem.W.keepIn K (.ref fE) = true) (bE : Binds K fdE ["instruction_set", "code", "entry"] []) (GE : FnOk P w K mg base CX0 k fE fdE ["instruction_set", "code", "entry"] (spExec K C))
    (Ma : Def K mg "is_match" s_is_match fM fdM ["step", "wanted"]) (GM : FnOk P w K mg base CX0 k fM fdM ["step", "wanted"] (spMatch K)) :
    FnOk P w K mg base CX0 (k + 1) f fd ["instruction_set", "code", "entry", "program"] (spRuns K C) := by
  refine F.ok scRuns (fun vs H Q E h => ?_) (fun cdv A' outer s H vs Q E hr h => ?_)
  · obtain ⟨p, it, c, cnt, lg, is, rs, bs, e, v, ps, rfl, _⟩ := h
    rfl
  · obtain ⟨p, it, c, cnt, lg, is, rs, bs, e, v, ps, rfl, M, hc, hb, he, D, pok, pl, q⟩ := h
    refine ⟨_, pss_cons (ps_expr (pe_call GC hr (by rfl) Ce.gl Ce.fn.kp Ce.bi .nil pass0 (pa_cons (pv 1) (pa_cons (pv 2) pa_nil))))
      (pss_cons (ps_expr (pe_call GP hr (by rfl) Cp.gl Cp.fn.kp Cp.bi .nil pass0 (pa_cons (pv 0) (pa_cons (pv 3) pa_nil))))
      (pss_cons (ps_set (i := 4) scRuns.nd rfl (.inl rfl) (pe_call GE hr (by rfl) gE kE bE .nil pass0 (pa_cons (pv 0) (pa_cons (pv 1) (pa_cons (pv 2) pa_nil)))))
      (pss_cons (ps_if (PW.pt (pw_or (pt_cmpR op_isN (pv 4) pe_non (nomark _)) (pw_or1 (pt_cmpR op_ne (pe_callB call_len_seq (by rfl) T.len PySem.boot_len (pa_cons (pv 4) pa_nil)) (pe_callB call_len_seq (by rfl) T.len PySem.boot_len (pa_cons (pv 3) pa_nil)) (nomark _))))) (pss_one (ps_ret pe_bl)) pss_nil)
      (pss_one (ps_ret (pe_callB (cr_all rfl) (by rfl) T.all (by decide +kernel) (pa_cons
        (pe_lc (own := [("step", 5), ("wanted", 6)]) (g := gTup K 2 (gCons (gName 5) (gCons (gName 6) gNil))) (tt := tYes) (by rfl) scRuns.nd (RZ.pi_zipA (by rfl) T.zip (pa_cons (pv 4) (pa_cons (pv 3) pa_nil)))
          (blkOk_by (own := [("step", 5), ("wanted", 6)]) (N := nRuns) (sc := defScope s_runs) (by decide +kernel))
          (fun _ _ _ _ _ => pg_tup rfl (pgs_cons (pg_name (i := 5) scRuns.nd rfl (Or.inl rfl)) (pgs_cons (pg_name (i := 6) scRuns.nd rfl (Or.inl rfl)) pgs_nil)))
          (fun _ _ _ _ _ => pts_nil) (fun _ _ _ _ _ => pe_call GM hr (by rfl) Ma.gl Ma.fn.kp Ma.bi .nil pass0 (pa_cons (pv 5) (pa_cons (pv 6) pa_nil)))) pa_nil))))))), ?_⟩
    refine ⟨_, rfl, _, rfl, c, _, e, rfl, hc, by rw [List.length_map]; exact he, ?_⟩
    refine ⟨_, rfl, _, rfl, p, it, cnt, lg, is, rs, v, _, rfl, M, D, plan_prog M.ok pok pl, fun H1 s1 => ?_⟩
    refine ⟨_, rfl, _, rfl, _, rfl, p, it, c, cnt, lg, is, rs, bs, e, rfl, M.same s1, s1.tup hc, by omega, he, fun H2 u begun fol s2 en bl Du => ?_⟩
    have s02 := s1.trans s2
    obtain ⟨a, xs, rfl, ha, Da⟩ := dx_tup (D.same s02)
    refine ⟨_, rfl, rfl, _, rfl, ?_⟩
    have q2 := q H2 begun fol s02 en bl
    cases hf : foundOf is bs begun fol with
    | none =>
      rw [hf] at Du q2
      cases Du
      exact iteT q2
    | some gs =>
      rw [hf] at Du
      have gsome : ∀ g ∈ gs, ∃ os : List Int, g.2 = os.map some := fun g hg => by
        unfold foundOf at hf
        split at hf
        · cases hf
          exact steps_some hg
        · cases hf
      have gshort : ∀ g ∈ gs, g.2.length ≤ 1000 := fun g hg => by
        unfold foundOf at hf
        split at hf
        · cases hf
          obtain ⟨o, _, e⟩ := List.mem_filterMap.mp hg
          unfold stepAt at e
          split at e
          · split at e
            · cases e
            · cases e
              show ((opsOf bs o _).map some).length ≤ 1000
              unfold opsOf
              rw [List.length_map, List.length_take, List.length_drop]
              omega
          · cases e
        · cases hf
      obtain ⟨b, ys, rfl, hb2, Db⟩ := dx_tup Du
      refine iteF ⟨_, rfl, b, _, rfl, .inr hb2, _, rfl, a, _, rfl, .inr ha, rfl, _, rfl, ?_⟩
      have ly : ys.length = gs.length := by rw [Db.len, List.length_map]
      have lx : xs.length = ps.length := by rw [Da.len, List.length_map]
      by_cases hl : gs.length = ps.length
      · rw [decide_eq_true (show V.int (ys.length : Int) = V.int (xs.length : Int) by rw [ly, lx, hl])]
        refine iteF ⟨_, rfl, _, rfl, b, a, _, _, rfl, .inr ⟨hb2, ha, fun D nD => lc_it (walk_zipT (xs := ys) (ys := xs) rfl) (fun i G => Mk H2 G D ((((gs.zip ps).take i).map fun q => stepFit q.2 q.1).map V.bl)) (.start nD) (fun i G _ p => ⟨p.same.tup hb2, p.same.tup ha⟩) (fun i v G G' hi p yy => ?_) (fun G p => ?_)⟩⟩
        · obtain ⟨t, x1, x2, rfl, nt, rfl, f1, f2⟩ := yy
          have f1' : ys[i]? = some x1 := f1
          have f2' : xs[i]? = some x2 := f2
          obtain ⟨d1, hd1, D1⟩ := Db.at f1'
          obtain ⟨d2, hd2, D2⟩ := Da.at f2'
          rw [List.getElem?_map] at hd1 hd2
          obtain ⟨g, hg, rfl⟩ := Option.map_eq_some_iff.mp hd1
          obtain ⟨y, hy, rfl⟩ := Option.map_eq_some_iff.mp hd2
          have hz : (gs.zip ps)[i]? = some (g, y) := by
            rw [List.getElem?_zip_eq_some]
            exact ⟨hg, hy⟩
          have gm := List.mem_of_getElem? hg
          obtain ⟨os, eos⟩ := gsome g gm
          have ol := gshort g gm
          have eg : g = (g.1, os.map some) := by rw [← eos]
          rw [eos, List.length_map] at ol
          have i1 : i < ps.length := (List.getElem?_eq_some_iff.mp hy).1
          have st := same_upd (o := HO.tup [x1, x2]) nt
          have sp := p.same.trans st
          refine ⟨t, _, rfl, SqT.of upd_same, rfl, _, _, rfl, _, _, rfl, rfl, rfl, _, rfl, _, rfl, x1, x2, g.1, os, y, rfl, eg ▸ D1.same sp, D2.same sp, ol, fun G3 s3 => ?_⟩
          refine ⟨_, s3 _ _ (st _ _ p.at_), by rw [List.length_map, List.length_map, List.length_take]; exact small1000 (by omega), ?_⟩
          rw [take_more hz, List.map_append, List.map_append, ← eg]
          exact p.put (st.trans s3)
        · refine ⟨D, _, rfl, .inl (.inl p.at_), ?_⟩
          have z := q G begun fol (s02.trans p.same) en bl
          rw [hf] at z
          rw [fits_some, decide_eq_true hl, Bool.true_and] at z
          rw [show min ys.length xs.length = (gs.zip ps).length by rw [List.length_zip, ly, lx], List.take_length, List.all_map]
          exact z
      · rw [decide_eq_false (show ¬ V.int (ys.length : Int) = V.int (xs.length : Int) from fun z => hl (by have := V.int.inj z; omega))]
        refine iteT ?_
        rw [hf] at q2
        rw [fits_some, decide_eq_false hl, Bool.false_and] at q2
        exact q2
end
end Ov
namespace Ov
open PySem PySem.Spec PyProof.Rows L2
def planD (ps : List PStep) : PyData := .tuple (ps.map stepD)
/-- so many programs, each of so many steps that the set knows -/
structure Plns (cnt : Nat) (is : List I4) (pss : List (List PStep)) : Prop where
  one : 1 ≤ pss.length
  few : pss.length ≤ 3
  ok : ∀ ps ∈ pss, ps.length ≤ 12 ∧ ∀ x ∈ ps, StepOk cnt is x
section
variable {P : Program} {w : World} {K : PySem.W.Frag} {mg : Str → Option Value} {base : Heap}
def spCkPs (K : PySem.W.Frag) (C : Addr) : Sp := fun vs H Q _ => ∃ (p it l : Addr) (cnt lg : Nat) (is : List I4) (rs : List Addr) (xs : List V) (pss : List (List PStep)), vs = [.ref p, .ref l] ∧ Mach C H p cnt lg it is rs ∧ SqT K H l xs ∧ DxAll K H xs (pss.map planD) ∧ Plns cnt is pss ∧ ∀ H', Same H H' → Q .non H'
theorem scCkPs : FnScope ["instruction_set", "programs", "program"] ["instruction_set", "programs"] (defScope s_check_programs) := ⟨rfl, rfl, rfl, by decide +kernel, rfl, by decide +kernel, by decide +kernel⟩
theorem ok_ckPs {f fP C : Addr} {fd fdP : FuncData} {k : Nat} (F : Fun K "check_programs" "check_programs" s_check_programs f fd) (T : Bi mg) (mP : ∃ t, mg "MOST_PROGRAMS" = some (.int 3 t))
    (Cp : Def K mg "check_program" s_check_program fP fdP ["instruction_set", "program"]) (GP : FnOk P w K mg base CX0 k fP fdP ["instruction_set", "program"] (spCkP K C)) :
    FnOk P w K mg base CX0 (k + 1) f fd ["instruction_set", "programs"] (spCkPs K C) := by
  obtain ⟨tP, mP⟩ := mP
  refine F.ok scCkPs (fun vs H Q E h => ?_) (fun cdv A' outer s H vs Q E hr h => ?_)
  · obtain ⟨p, it, l, cnt, lg, is, rs, xs, pss, rfl, _⟩ := h
    rfl
  · obtain ⟨p, it, l, cnt, lg, is, rs, xs, pss, rfl, M, hl, D, ok, q⟩ := h
    refine ⟨_, pss_cons (ps_if (PW.pt (pw_or (pt_not (pt_val (pe_callB call_isi (by rfl) T.isi (by decide +kernel) (pa_cons (pv 1) (pa_cons (pe_bltn (v := .ty "tuple") (u := .type "tuple") (by rfl) T.tuple (by decide +kernel) rfl) pa_nil)))))
        (pw_or1 (pt_not (pt_chain op_le op_le pe_int (pe_callB call_len_seq (by rfl) T.len PySem.boot_len (pa_cons (pv 1) pa_nil)) (pe_glob (v := .int 3) (by rfl) mP ⟨_, rfl⟩)))))) (pss_one ps_never) pss_nil)
      (pss_one (ps_for PassesOwn.never rfl (pi_tup (pv 1)) (pg_name (i := 2) scCkPs.nd rfl (.inl rfl))
        (pss_one (ps_expr (pe_call GP hr (by rfl) Cp.gl Cp.fn.kp Cp.bi .nil pass0 (pa_cons (pv 0) (pa_cons (pv 2) pa_nil))))))), ?_⟩
    have xl : xs.length = pss.length := by rw [D.len, List.length_map]
    have one := ok.one
    have few := ok.few
    refine ⟨_, rfl, _, _, _, _, _, rfl, .ty _, (Dx.tup hl D).ty, kit_ty (by decide +kernel : kitB "tuple" "tuple" = some true), _, rfl, iteF ?_⟩
    refine ⟨_, rfl, l, _, rfl, .inr hl, _, _, rfl, rfl, _, rfl, ?_⟩
    rw [xl, decide_eq_true (show (1 : Int) ≤ (pss.length : Int) by omega)]
    refine iteT ⟨_, _, rfl, rfl, _, rfl, ?_⟩
    rw [decide_eq_true (show (pss.length : Int) ≤ 3 by omega)]
    refine iteF ?_
    refine ⟨_, rfl, l, rfl, ⟨_, hl⟩, for_tup (K := K) (a := l) (xs := xs) (fun i σ G => ∃ y2, σ = [some (.ref p), some (.ref l), y2] ∧ Same H G) ⟨_, rfl, Same.refl _⟩ (fun i σ G _ ⟨_, _, s⟩ => s.tup hl) ?_ ?_⟩
    · rintro i v σ G hv ⟨y2, rfl, s1⟩
      obtain ⟨d, hd, Dv⟩ := D.at hv
      rw [List.getElem?_map] at hd
      obtain ⟨ps, hps, rfl⟩ := Option.map_eq_some_iff.mp hd
      obtain ⟨l12, sok⟩ := ok.ok ps (List.mem_of_getElem? hps)
      refine ⟨_, rfl, _, rfl, p, it, cnt, lg, is, rs, v, _, rfl, M.same s1, Dv.same s1, plan_prog M.ok sok l12, fun G2 s2 => ⟨_, rfl, s1.trans s2⟩⟩
    · rintro σ G ⟨y2, rfl, s1⟩
      exact q _ s1
/-- entries: the first is 0, each behind the one in front, none above 12 -/
structure Ents (gs : List Nat) : Prop where
  hd : gs.head? = some 0
  asc : (gs.map fun n : Nat => (n : Int)).Pairwise (· < ·)
  low : ∀ g ∈ gs, g ≤ 12
  few : gs.length ≤ 13
abbrev entV (gs : List Nat) : List V := (gs.map fun n : Nat => (n : Int)).map V.int
def spAreE (K : PySem.W.Frag) : Sp := fun vs H Q _ => ∃ (g : Addr) (gs : List Nat), vs = [.ref g] ∧ SqT K H g (entV gs) ∧ Ents gs ∧ ∀ H', Same H H' → Q (.bl true) H'
theorem scAreE : FnScope ["value", "item"] ["value"] (defScope s_are_entries) := ⟨rfl, rfl, rfl, by decide +kernel, rfl, by decide +kernel, by decide +kernel⟩
theorem ok_areE {f fB fA : Addr} {fd fdB fdA : FuncData} {k : Nat} (F : Fun K "are_entries" "are_entries" s_are_entries f fd) (T : Bi mg) (mE : ∃ t, mg "GREATEST_ENTRY" = some (.int 12 t))
    (Bt : Def K mg "is_integer_between" sBetween fB fdB ["value", "least", "most"]) (GB : FnOk P w K mg base CX0 k fB fdB ["value", "least", "most"] spBetween)
    (As : Def K mg "is_ascending" sAscending fA fdA ["numbers"]) (GA : FnOk P w K mg base CX0 k fA fdA ["numbers"] (spAscending K)) :
    FnOk P w K mg base CX0 (k + 1) f fd ["value"] (spAreE K) := by
  obtain ⟨tE, mE⟩ := mE
  refine F.ok scAreE (fun vs H Q E h => ?_) (fun cdv A' outer s H vs Q E hr h => ?_)
  · obtain ⟨g, gs, rfl, _⟩ := h
    rfl
  · obtain ⟨g, gs, rfl, hg, ok, q⟩ := h
    refine ⟨_, pss_cons (ps_if (PW.pt (pw_or (pt_not (pt_val (pe_callB call_isi (by rfl) T.isi (by decide +kernel) (pa_cons (pv 0) (pa_cons (pe_bltn (v := .ty "tuple") (u := .type "tuple") (by rfl) T.tuple (by decide +kernel) rfl) pa_nil)))))
        (pw_or1 (pt_not (pt_val (pe_callB (cr_all rfl) (by rfl) T.all (by decide +kernel) (pa_cons (pe_lc (own := [("item", 1)]) (g := gName 1) (tt := tYes) (by rfl) scAreE.nd (pi_tup (pv 0))
          (blkOk_by (own := [("item", 1)]) (N := ["value", "item"]) (sc := defScope s_are_entries) (by decide +kernel))
          (fun _ _ _ _ _ => pg_name (i := 1) scAreE.nd rfl (Or.inl rfl)) (fun _ _ _ _ _ => pts_nil)
          (fun _ _ _ _ _ => pe_call GB hr (by rfl) Bt.gl Bt.fn.kp Bt.bi .nil pass0 (pa_cons (pv 1) (pa_cons pe_int (pa_cons (pe_glob (v := .int 12) (by rfl) mE ⟨_, rfl⟩) pa_nil))))) pa_nil))))))) (pss_one (ps_ret pe_bl)) pss_nil)
      (pss_one (ps_ret (pe_and (pe_cmpR op_gt (pe_callB call_len_seq (by rfl) T.len PySem.boot_len (pa_cons (pv 0) pa_nil)) pe_int (nomark _)) (pe_and (pe_cmpR op_eq (pe_ix ix_tup (pv 0) pe_int (fun _ _ => rfl)) pe_int (nomark _)) (pe_one (pe_call GA hr (by rfl) As.gl As.fn.kp As.bi .nil pass0 (pa_cons (pv 0) pa_nil))))))), ?_⟩
    obtain ⟨g0, gr, rfl⟩ : ∃ g0 gr, gs = g0 :: gr := by
      cases gs with
      | nil => exact absurd ok.hd (by simp)
      | cons a r => exact ⟨a, r, rfl⟩
    obtain rfl : g0 = 0 := by simpa using ok.hd
    have D : DxAll K H (entV (0 :: gr)) (((0 :: gr).map fun n : Nat => (n : Int)).map PyData.int) := dx_ints _
    refine ⟨_, rfl, _, _, _, _, _, rfl, .ty _, (Dx.tup hg D).ty, kit_ty (by decide +kernel : kitB "tuple" "tuple" = some true), _, rfl, iteF ?_⟩
    refine ⟨_, rfl, g, rfl, ⟨_, hg⟩, fun L nL => lc_tup (K := K) (a := g) (xs := entV (0 :: gr)) (fun i G => Mk H G L ((List.replicate i true).map V.bl)) (.start nL) (fun i G _ mk => mk.same.tup hg) ?_ ?_⟩
    · intro i v G hv mk
      rw [List.getElem?_map, List.getElem?_map] at hv
      obtain ⟨z, hz, rfl⟩ := Option.map_eq_some_iff.mp hv
      obtain ⟨gn, hgn, rfl⟩ := Option.map_eq_some_iff.mp hz
      have l12 := ok.low gn (List.mem_of_getElem? hgn)
      have il := (List.getElem?_eq_some_iff.mp hgn).1
      have few := ok.few
      refine ⟨rfl, _, rfl, (gn : Int), 0, 12, rfl, by omega, by omega, ?_⟩
      refine ⟨_, mk.at_, by rw [List.length_map, List.length_replicate, sizeLine_eq]; omega, ?_⟩
      rw [List.replicate_succ', List.map_append]
      exact mk.put (Same.refl _)
    intro G mk
    refine ⟨L, _, rfl, SqL.of mk.at_, ?_⟩
    rw [all_true]
    have hgG := mk.same.tup hg
    refine ⟨_, rfl, iteF ?_⟩
    refine ⟨_, rfl, g, _, rfl, .inr hgG, _, _, rfl, rfl, _, rfl, ?_⟩
    rw [decide_eq_true (show (0 : Int) < ((entV (0 :: gr)).length : Int) by rw [List.length_map, List.length_map, List.length_cons]; omega)]
    refine iteT ⟨_, rfl, g, _, _, _, rfl, rfl, hgG, atI_nat (j := 0) (v := .int 0) rfl, rfl, _, rfl, ?_⟩
    rw [decide_eq_true rfl]
    refine iteT ⟨_, rfl, g, _, rfl, hgG, by have := ok.few; rw [List.length_map]; omega, ok.asc, fun G2 s2 => ?_⟩
    exact q _ (mk.same.trans s2)
def spCkEs (K : PySem.W.Frag) : Sp := fun vs H Q _ => ∃ (l g : Addr) (xs : List V) (gs : List Nat), vs = [.ref l, .ref g] ∧ SqT K H l xs ∧ SqT K H g (entV gs) ∧ Ents gs ∧ gs.length = xs.length ∧ ∀ H', Same H H' → Q .non H'
theorem scCkEs : FnScope ["programs", "entries"] ["programs", "entries"] (defScope s_check_entries) := ⟨rfl, rfl, rfl, by decide +kernel, rfl, by decide +kernel, by decide +kernel⟩
theorem ok_ckEs {f fA : Addr} {fd fdA : FuncData} {k : Nat} (F : Fun K "check_entries" "check_entries" s_check_entries f fd) (T : Bi mg)
    (Ar : Def K mg "are_entries" s_are_entries fA fdA ["value"]) (GA : FnOk P w K mg base CX0 k fA fdA ["value"] (spAreE K)) :
    FnOk P w K mg base CX0 (k + 1) f fd ["programs", "entries"] (spCkEs K) := by
  refine F.ok scCkEs (fun vs H Q E h => ?_) (fun cdv A' outer s H vs Q E hr h => ?_)
  · obtain ⟨l, g, xs, gs, rfl, _⟩ := h
    rfl
  · obtain ⟨l, g, xs, gs, rfl, hl, hg, ok, le, q⟩ := h
    refine ⟨_, pss_one (ps_if (PW.pt (pw_or (pt_not (pt_val (pe_call GA hr (by rfl) Ar.gl Ar.fn.kp Ar.bi .nil pass0 (pa_cons (pv 1) pa_nil))))
        (pw_or1 (pt_cmpR op_ne (pe_callB call_len_seq (by rfl) T.len PySem.boot_len (pa_cons (pv 1) pa_nil)) (pe_callB call_len_seq (by rfl) T.len PySem.boot_len (pa_cons (pv 0) pa_nil)) (nomark _))))) (pss_one ps_never) pss_nil), ?_⟩
    refine ⟨_, rfl, g, gs, rfl, hg, ok, fun H1 s1 => ⟨_, rfl, iteF ?_⟩⟩
    refine ⟨_, rfl, g, _, rfl, .inr (s1.tup hg), _, rfl, l, _, rfl, .inr (s1.tup hl), rfl, _, rfl, ?_⟩
    rw [List.length_map, List.length_map, le, decide_eq_true rfl]
    exact iteF (q _ s1)
end
end Ov
namespace Ov
open PySem PySem.Spec PyProof.Rows L2
def rLenV (K : PySem.W.Frag) : List V → Hp → VK → Prop := fun args G R => ∃ a items, args = [.ref a] ∧ (SqL K G a items ∨ SqT K G a items) ∧ R (.int items.length) G
theorem cr_lenV {X : Cx} : CallR X (.builtin "len") (rLenV X.K) := call_len_seq
/-- the longest rest of a padding instruction -/
def lrOf (is : List I4) : Nat := ((is.filter (·.pad)).map fun x => x.ln - 1).foldl max 0
def opsN (ps : List PStep) : Nat := (ps.map fun x => x.2.length).sum
/-- the states of one decoder -/
def dcnt (is : List I4) (ps : List PStep) : Nat := 1 + ps.length + opsN ps + (ps.length + 1) * lrOf is
theorem sum_take (ps : List PStep) : ((ps.map fun x => ((x.2.length : Nat) : Int))).sum = ((opsN ps : Nat) : Int) := by
  unfold opsN
  induction ps with
  | nil => rfl
  | cons a r ih => rw [List.map_cons, List.sum_cons, List.map_cons, List.sum_cons, ih, Int.natCast_add]
section
variable {P : Program} {w : World} {K : PySem.W.Frag} {mg : Str → Option Value} {base : Heap}
def spLRest (C : Addr) : Sp := fun vs H Q _ => ∃ (p it : Addr) (cnt lg : Nat) (is : List I4) (rs : List Addr), vs = [.ref p] ∧ Mach C H p cnt lg it is rs ∧ ∀ H', Same H H' → Q (.int (lrOf is : Int)) H'
def spDcnt (K : PySem.W.Frag) (C : Addr) : Sp := fun vs H Q _ => ∃ (p it : Addr) (cnt lg : Nat) (is : List I4) (rs : List Addr) (v : V) (ps : List PStep), vs = [.ref p, v] ∧ Mach C H p cnt lg it is rs ∧ Dx K H v (planD ps) ∧ ps.length ≤ 12 ∧ ∀ H', Same H H' → Q (.int (dcnt is ps : Int)) H'
abbrev nDcnt : List Str := ["instruction_set", "program", "operand_count", "name", "operands"]
theorem scDcnt : FnScope nDcnt ["instruction_set", "program"] (defScope s_decoder_count) := ⟨rfl, rfl, rfl, by decide +kernel, rfl, by decide +kernel, by decide +kernel⟩
theorem ok_dcnt {f fL C : Addr} {fd fdL : FuncData} {k : Nat} (F : Fun K "decoder_count" "decoder_count" s_decoder_count f fd) (T : Bi mg)
    (Lr : Def K mg "longest_rest" s_longest_rest fL fdL ["instruction_set"]) (GL : FnOk P w K mg base CX0 k fL fdL ["instruction_set"] (spLRest C)) :
    FnOk P w K mg base CX0 (k + 1) f fd ["instruction_set", "program"] (spDcnt K C) := by
  refine F.ok scDcnt (fun vs H Q E h => ?_) (fun cdv A' outer s H vs Q E hr h => ?_)
  · obtain ⟨p, it, cnt, lg, is, rs, v, ps, rfl, _⟩ := h
    rfl
  · obtain ⟨p, it, cnt, lg, is, rs, v, ps, rfl, M, D, l12, q⟩ := h
    refine ⟨_, pss_cons (ps_set (i := 2) scDcnt.nd rfl (.inl rfl) (pe_callB (cr_sum rfl) (by rfl) T.sum (by decide +kernel) (pa_cons (pe_lc (own := [("name", 3), ("operands", 4)]) (g := gTup K 2 (gCons (gName 3) (gCons (gName 4) gNil))) (tt := tYes) (te := tCB (rLenV K) (tCons (tVar 4) tNil)) (by rfl) scDcnt.nd (pi_tup (pv 1))
          (blkOk_by (own := [("name", 3), ("operands", 4)]) (N := nDcnt) (sc := defScope s_decoder_count) (by decide +kernel))
          (fun _ _ _ _ _ => pg_tup rfl (pgs_cons (pg_name (i := 3) scDcnt.nd rfl (Or.inl rfl)) (pgs_cons (pg_name (i := 4) scDcnt.nd rfl (Or.inl rfl)) pgs_nil)))
          (fun _ _ _ _ _ => pts_nil) (fun _ _ _ _ _ => pe_callB (r := rLenV K) cr_lenV (by rfl) T.len PySem.boot_len (pa_cons (pv 4) pa_nil))) pa_nil)))
      (pss_one (ps_ret (pe_op op_add (pe_op op_add (pe_op op_add pe_int (pe_callB call_len_seq (by rfl) T.len PySem.boot_len (pa_cons (pv 1) pa_nil))) (pv 2)) (pe_op op_mul (pe_op op_add (pe_callB call_len_seq (by rfl) T.len PySem.boot_len (pa_cons (pv 1) pa_nil)) pe_int) (pe_call GL hr (by rfl) Lr.gl Lr.fn.kp Lr.bi .nil pass0 (pa_cons (pv 0) pa_nil)))))), ?_⟩
    cases D with
    | @tup a ys _ ha DA =>
      have yl : ys.length = ps.length := by rw [DA.len, List.length_map]
      refine ⟨_, rfl, a, rfl, ⟨_, ha⟩, fun D nD => lc_tup (K := K) (a := a) (xs := ys) (fun i G => Mk H G D (((ps.take i).map fun x => ((x.2.length : Nat) : Int)).map V.int)) (.start nD) (fun i G _ mk => mk.same.tup ha) ?_ ?_⟩
      · intro i v G hv mk
        obtain ⟨d, hd, Dv⟩ := DA.at hv
        rw [List.getElem?_map] at hd
        obtain ⟨y, hy, rfl⟩ := Option.map_eq_some_iff.mp hd
        have hi := (List.getElem?_eq_some_iff.mp hy).1
        cases Dv with
        | @tup b us _ hb Ub =>
          cases Ub with
          | @cons u0 _ r0 _ h0 t0 =>
            cases t0 with
            | @cons u1 _ r1 _ h1 t1 =>
              cases t1
              cases h1 with
              | @tup c zs _ hc Uc =>
                have zl : zs.length = y.2.length := by rw [Uc.len, List.length_map]
                refine ⟨b, _, rfl, mk.same.tup hb, rfl, _, _, rfl, _, _, rfl, rfl, rfl, _, rfl, c, zs, rfl, .inr (mk.same.tup hc), _, mk.at_, by rw [List.length_map, List.length_map, List.length_take, sizeLine_eq]; omega, ?_⟩
                rw [zl, take_more hy, List.map_append, List.map_append]
                exact mk.put (Same.refl _)
      · intro G mk
        rw [yl, List.take_length] at mk
        refine ⟨D, _, rfl, SqL.of mk.at_, ?_⟩
        rw [sum_take]
        have haG := mk.same.tup ha
        refine ⟨_, rfl, a, _, rfl, .inr haG, _, _, rfl, rfl, _, rfl, _, _, rfl, rfl, _, rfl, a, _, rfl, .inr haG, _, _, rfl, rfl, _, rfl, p, it, cnt, lg, is, rs, rfl, M.same mk.same, fun G2 s2 => ?_⟩
        have e : (1 : Int) + (ys.length : Int) + ((opsN ps : Nat) : Int) + ((ys.length : Int) + 1) * ((lrOf is : Nat) : Int) = ((dcnt is ps : Nat) : Int) := by
          rw [yl]
          unfold dcnt
          rw [Int.natCast_add, Int.natCast_mul, Int.natCast_add, Int.natCast_add, Int.natCast_add]
          rfl
        refine ⟨_, _, rfl, rfl, .inl ⟨by omega, by omega⟩, _, _, rfl, rfl, ?_⟩
        show Q (V.int ((1 : Int) + (ys.length : Int) + ((opsN ps : Nat) : Int) + ((ys.length : Int) + 1) * ((lrOf is : Nat) : Int))) G2
        rw [e]
        exact q _ (mk.same.trans s2)
end
end Ov
namespace Ov
open PySem PySem.Spec PyProof.Rows L2
section
variable {P : Program} {w : World} {K : PySem.W.Frag} {mg : Str → Option Value} {base : Heap}
def stcN (is : List I4) (pss : List (List PStep)) (gs : List Nat) : Nat := pss.foldl (fun n ps => n * dcnt is ps) (gs.getLast?.getD 0 + 1)
def spStc (K : PySem.W.Frag) (C : Addr) : Sp := fun vs H Q _ => ∃ (p it l g : Addr) (cnt lg : Nat) (is : List I4) (rs : List Addr) (xs : List V) (pss : List (List PStep)) (gs : List Nat), vs = [.ref p, .ref l, .ref g] ∧ Mach C H p cnt lg it is rs ∧ SqT K H l xs ∧ DxAll K H xs (pss.map planD) ∧ Plns cnt is pss ∧ SqT K H g (entV gs) ∧ Ents gs ∧ gs.length = pss.length ∧ (∀ ps ∈ pss, dcnt is ps ≤ 1000) ∧ ∀ H', Same H H' → Q (.int (stcN is pss gs : Int)) H'
abbrev nStc : List Str := ["instruction_set", "programs", "entries", "count", "program"]
theorem scStc : FnScope nStc ["instruction_set", "programs", "entries"] (defScope s_state_count) := ⟨rfl, rfl, rfl, by decide +kernel, rfl, by decide +kernel, by decide +kernel⟩
theorem ok_stc {f fP fE fD C : Addr} {fd fdP fdE fdD : FuncData} {k : Nat} (F : Fun K "state_count" "state_count" s_state_count f fd) (T : Bi mg)
    (Cp : Def K mg "check_programs" s_check_programs fP fdP ["instruction_set", "programs"]) (GP : FnOk P w K mg base CX0 k fP fdP ["instruction_set", "programs"] (spCkPs K C))
    (Ce : Def K mg "check_entries" s_check_entries fE fdE ["programs", "entries"]) (GE : FnOk P w K mg base CX0 k fE fdE ["programs", "entries"] (spCkEs K))
    (Dc : Def K mg "decoder_count" s_decoder_count fD fdD ["instruction_set", "program"]) (GD : FnOk P w K mg base CX0 k fD fdD ["instruction_set", "program"] (spDcnt K C)) :
    FnOk P w K mg base CX0 (k + 1) f fd ["instruction_set", "programs", "entries"] (spStc K C) := by
  refine F.ok scStc (fun vs H Q E h => ?_) (fun cdv A' outer s H vs Q E hr h => ?_)
  · obtain ⟨p, it, l, g, cnt, lg, is, rs, xs, pss, gs, rfl, _⟩ := h
    rfl
  · obtain ⟨p, it, l, g, cnt, lg, is, rs, xs, pss, gs, rfl, M, hl, D, ok, hg, oe, le, small, q⟩ := h
    refine ⟨_, pss_cons (ps_expr (pe_call GP hr (by rfl) Cp.gl Cp.fn.kp Cp.bi .nil pass0 (pa_cons (pv 0) (pa_cons (pv 1) pa_nil))))
      (pss_cons (ps_expr (pe_call GE hr (by rfl) Ce.gl Ce.fn.kp Ce.bi .nil pass0 (pa_cons (pv 1) (pa_cons (pv 2) pa_nil))))
      (pss_cons (ps_set (i := 3) scStc.nd rfl (.inl rfl) (pe_op op_add (pe_ix ix_tup (pv 2) (pe_un un_neg pe_int) (fun _ _ => rfl)) pe_int))
      (pss_cons (ps_for PassesOwn.never rfl (pi_tup (pv 1)) (pg_name (i := 4) scStc.nd rfl (.inl rfl))
        (pss_one (ps_aug (i := 3) scStc.nd rfl (.inl rfl) (pe_call GD hr (by rfl) Dc.gl Dc.fn.kp Dc.bi .nil pass0 (pa_cons (pv 0) (pa_cons (pv 4) pa_nil))) iop_mul)))
      (pss_one (ps_ret (pv 3)))))), ?_⟩
    have xl : xs.length = pss.length := by rw [D.len, List.length_map]
    refine ⟨_, rfl, _, rfl, p, it, l, cnt, lg, is, rs, xs, pss, rfl, M, hl, D, ok, fun H1 s1 => ?_⟩
    refine ⟨_, rfl, _, rfl, l, g, xs, gs, rfl, s1.tup hl, s1.tup hg, oe, by rw [le, xl], fun H2 s2 => ?_⟩
    have s02 := s1.trans s2
    obtain ⟨gr, z, rfl⟩ : ∃ (gr : List Nat) (z : Nat), gs = gr ++ [z] := by
      rcases List.eq_nil_or_concat gs with e0 | ⟨gr, z, e0⟩
      · rw [e0] at oe
        exact absurd oe.hd (by simp)
      · exact ⟨gr, z, by rw [e0, List.concat_eq_append]⟩
    have hg' : SqT K H g (entV gr ++ [V.int (z : Int)]) := by
      have e : entV (gr ++ [z]) = entV gr ++ [V.int (z : Int)] := by
        show ((gr ++ [z]).map fun n : Nat => (n : Int)).map V.int = _
        rw [List.map_append, List.map_append]
        rfl
      rw [← e]
      exact hg
    have q' : ∀ H', Same H H' → Q (.int ((pss.foldl (fun n ps => n * dcnt is ps) (z + 1) : Nat) : Int)) H' := fun H' s => by
      have := q H' s
      unfold stcN at this
      rw [show (gr ++ [z]).getLast?.getD 0 = z by simp] at this
      exact this
    refine ⟨_, rfl, _, rfl, g, _, _, _, rfl, rfl, s02.tup hg', atI_last _ _, _, _, rfl, rfl, ?_⟩
    refine ⟨_, rfl, l, rfl, ⟨_, s02.tup hl⟩, for_tup (K := K) (a := l) (xs := xs) (fun i σ G => ∃ y4, σ = [some (.ref p), some (.ref l), some (.ref g), some (.int (((pss.take i).foldl (fun n ps => n * dcnt is ps) (z + 1) : Nat) : Int)), y4] ∧ Same H G) ⟨_, rfl, s02⟩ (fun i σ G _ ⟨_, _, s⟩ => s.tup hl) ?_ ?_⟩
    · rintro i v σ G hv ⟨y4, rfl, sG⟩
      obtain ⟨d, hd, Dv⟩ := D.at hv
      rw [List.getElem?_map] at hd
      obtain ⟨ps, hps, rfl⟩ := Option.map_eq_some_iff.mp hd
      obtain ⟨l12, _⟩ := ok.ok ps (List.mem_of_getElem? hps)
      have sd := small ps (List.mem_of_getElem? hps)
      refine ⟨_, rfl, _, rfl, _, rfl, p, it, cnt, lg, is, rs, v, ps, rfl, M.same sG, Dv.same sG, l12, fun G2 s2 => ⟨_, _, rfl, rfl, .inr ⟨by omega, by omega⟩, ?_⟩⟩
      rw [take_more hps, List.foldl_append]
      exact ⟨_, rfl, sG.trans s2⟩
    · rintro σ G ⟨y4, rfl, sG⟩
      rw [xl, List.take_length]
      exact ⟨_, rfl, q' _ sG⟩
end
end Ov
namespace Ov
open PySem PySem.Spec PyProof.Rows L2
section
variable {P : Program} {w : World} {K : PySem.W.Frag} {mg : Str → Option Value} {base : Heap}
def spCkO (K : PySem.W.Frag) (C : Addr) : Sp := fun vs H Q _ => ∃ (p it l g : Addr) (cnt lg : Nat) (is : List I4) (rs : List Addr) (xs : List V) (pss : List (List PStep)) (gs : List Nat), vs = [.ref p, .ref l, .ref g] ∧ Mach C H p cnt lg it is rs ∧ SqT K H l xs ∧ DxAll K H xs (pss.map planD) ∧ Plns cnt is pss ∧ SqT K H g (entV gs) ∧ Ents gs ∧ gs.length = pss.length ∧ (∀ ps ∈ pss, dcnt is ps ≤ 1000) ∧ stcN is pss gs ≤ 5000 ∧ ∀ H', Same H H' → Q .non H'
theorem scCkO : FnScope ["instruction_set", "programs", "entries", "count"] ["instruction_set", "programs", "entries"] (defScope s_check_overlay) := ⟨rfl, rfl, rfl, by decide +kernel, rfl, by decide +kernel, by decide +kernel⟩
theorem ok_ckO {f fS C : Addr} {fd fdS : FuncData} {k : Nat} (F : Fun K "check_overlay" "check_overlay" s_check_overlay f fd) (mS : ∃ t, mg "MOST_STATES" = some (.int 5000 t))
    (Sc : Def K mg "state_count" s_state_count fS fdS ["instruction_set", "programs", "entries"]) (GS : FnOk P w K mg base CX0 k fS fdS ["instruction_set", "programs", "entries"] (spStc K C)) :
    FnOk P w K mg base CX0 (k + 1) f fd ["instruction_set", "programs", "entries"] (spCkO K C) := by
  obtain ⟨tS, mS⟩ := mS
  refine F.ok scCkO (fun vs H Q E h => ?_) (fun cdv A' outer s H vs Q E hr h => ?_)
  · obtain ⟨p, it, l, g, cnt, lg, is, rs, xs, pss, gs, rfl, _⟩ := h
    rfl
  · obtain ⟨p, it, l, g, cnt, lg, is, rs, xs, pss, gs, rfl, M, hl, D, ok, hg, oe, le, small, few, q⟩ := h
    refine ⟨_, pss_cons (ps_set (i := 3) scCkO.nd rfl (.inl rfl) (pe_call GS hr (by rfl) Sc.gl Sc.fn.kp Sc.bi .nil pass0 (pa_cons (pv 0) (pa_cons (pv 1) (pa_cons (pv 2) pa_nil)))))
      (pss_one (ps_if (pt_cmpR op_gt (pv 3) (pe_glob (v := .int 5000) (by rfl) mS ⟨_, rfl⟩) (nomark _)) (pss_one ps_never) pss_nil)), ?_⟩
    refine ⟨_, rfl, _, rfl, _, rfl, p, it, l, g, cnt, lg, is, rs, xs, pss, gs, rfl, M, hl, D, ok, hg, oe, le, small, fun H1 s1 => ?_⟩
    refine ⟨_, rfl, _, _, rfl, rfl, _, rfl, ?_⟩
    rw [decide_eq_false (show ¬ ((5000 : Int) < (stcN is pss gs : Int)) by omega)]
    exact iteF (q _ s1)
end
end Ov
namespace Ov
open PySem PySem.Spec PyProof.Rows L2
abbrev sPadLens : Stmt := inClass cInstructionSet 3
theorem sc_tupI {w : World} {K : PySem.W.Frag} {a : Addr} {xs : List V} {g : TG} {tt : TT} {te : TE} {vs : List Nat} {σ : L2.St} {H1 : Hp} {D : Addr} {Qd : Hp → Prop} (Pv : Nat → Hp → Prop) (h0 : Pv 0 (upd H1 D (SetO w D (fun _ => false) 0))) (stays : ∀ i G, i ≤ xs.length → Pv i G → SqT K G a xs)
    (turn : ∀ i x G, xs[i]? = some x → Pv i G → TurnI w D g tt te (wipe σ vs) vs x G (Pv (i + 1))) (done : ∀ G, Pv xs.length G → Qd G) :
    ∃ W : Nat → Nat → Hp → Prop, (∃ m, W 0 m (upd H1 D (SetO w D (fun _ => false) 0))) ∧ ∀ i m G, W i m G → ((Itt K a).stop i G ∧ Qd G) ∨ ((Itt K a).go i G ∧ ∃ N : Hp → Prop, (∀ G', N G' → ∃ m', m' < m ∧ W (i + 1) m' G') ∧ ∀ x G', (Itt K a).yld i G x G' → TurnI w D g tt te (wipe σ vs) vs x G' N) := by
  refine ⟨fun i m G => m + i = xs.length ∧ Pv i G, ⟨xs.length, rfl, h0⟩, ?_⟩
  rintro i m G ⟨e, p⟩
  have st := stays i G (by omega) p
  rcases Nat.lt_or_ge i xs.length with lt | ge
  · refine .inr ⟨⟨xs, xs[i], st, List.getElem?_eq_getElem lt⟩, Pv (i + 1), fun G' p' => ⟨m - 1, by omega, by omega, p'⟩, ?_⟩
    rintro x G' ⟨rfl, y⟩
    exact turn i x _ (y xs st) p
  · obtain rfl : i = xs.length := by omega
    exact .inl ⟨⟨xs, st, Nat.le_refl _⟩, done G p⟩
structure PadL (is : List I4) (ns : List Int) : Prop where
  asc : ns.Pairwise (· < ·)
  mem : ∀ k : Int, k ∈ ns ↔ ∃ x ∈ is, x.pad = true ∧ (x.ln : Int) = k
theorem nodup_lenF : ∀ (L : Nat) (hs : List Nat), hs.Nodup → (∀ h ∈ hs, h < L) → hs.length ≤ L
  | 0, [], _, _ => Nat.le_refl _
  | 0, h :: _, _, b => absurd (b h List.mem_cons_self) (Nat.not_lt_zero _)
  | L + 1, hs, nd, b => by
    have ih := nodup_lenF L (hs.erase L) (nd.erase L) fun h hh => by
      have z := (nd.mem_erase_iff).mp hh
      have := b h z.2
      have := z.1
      omega
    by_cases m : L ∈ hs
    · rw [List.length_erase_of_mem m] at ih
      omega
    · rw [List.erase_of_not_mem m] at ih
      omega
section
variable {P : Program} {w : World} {K : PySem.W.Frag} {mg : Str → Option Value} {base : Heap}
def spPadLens (C : Addr) : Sp := fun vs H Q _ => ∃ (p it : Addr) (cnt lg : Nat) (is : List I4) (rs : List Addr), vs = [.ref p] ∧ Mach C H p cnt lg it is rs ∧ ∀ H' r ns, Same H H' → H r = none → PadL is ns → ns.length ≤ 50 → H' r = some (.tup (ns.map V.int)) → Q (.ref r) H'
theorem scPadLens : FnScope ["self", "opcode", "name", "length", "is_padding"] ["self"] (defScope sPadLens) := ⟨rfl, rfl, rfl, by decide +kernel, rfl, by decide +kernel, by decide +kernel⟩
theorem ok_padLens {f C : Addr} {fd : FuncData} {k : Nat} (F : Fun K "padding_lengths" "InstructionSet.padding_lengths" sPadLens f fd) (T : Bi mg) (S : SetTxt K mg C) : FnOk P w K mg base CX0 (k + 1) f fd ["self"] (spPadLens C) := by
  refine F.ok scPadLens (fun vs H Q E h => ?_) (fun cdv A' outer s H vs Q E hr h => ?_)
  · obtain ⟨p, it, cnt, lg, is, rs, rfl, _⟩ := h
    rfl
  · obtain ⟨p, it, cnt, lg, is, rs, rfl, M, q⟩ := h
    refine ⟨_, pss_one (ps_ret (pe_callTy call_tuple_of (by rfl) T.tuple (by decide +kernel) (pa_cons (pe_callB (cr_sortedSet rfl) (by rfl) T.sorted (by decide +kernel) (pa_cons (pe_scI (own := [("opcode", 1), ("name", 2), ("length", 3), ("is_padding", 4)]) (g := gTup K 4 (gCons (gName 1) (gCons (gName 2) (gCons (gName 3) (gCons (gName 4) gNil))))) (by rfl) scPadLens.nd (pi_tup (pe_fld (pv 0) rfl))
          (blkOk_by (own := [("opcode", 1), ("name", 2), ("length", 3), ("is_padding", 4)]) (N := ["self", "opcode", "name", "length", "is_padding"]) (sc := defScope sPadLens) (by decide +kernel))
          (fun _ _ _ _ _ => pg_tup rfl (pgs_cons (pg_name (i := 1) scPadLens.nd rfl (Or.inl rfl)) (pgs_cons (pg_name (i := 2) scPadLens.nd rfl (Or.inl rfl)) (pgs_cons (pg_name (i := 3) scPadLens.nd rfl (Or.inl rfl)) (pgs_cons (pg_name (i := 4) scPadLens.nd rfl (Or.inl rfl)) pgs_nil)))))
          (fun _ _ _ _ _ => pts_one (pt_val (pv 4))) (fun _ _ _ _ _ => pv 3)) pa_nil)) pa_nil))), ?_⟩
    obtain ⟨dx, d1, d2, hp, h1, h2⟩ := M.at_.ob
    have hit := M.its
    have rl := M.rows.1
    have few := M.ok.few
    refine ⟨_, rfl, p, C, dx, _, _, rfl, hp, S.cl, S.nI, flds_its _ _ _ _, it, rfl, ⟨_, SqT.of hit⟩, fun D nD => sc_tupI (K := K) (a := it) (xs := rs.map V.ref) (fun i G => Same H G ∧ ∃ (Sx : Int → Bool) (ds : List Nat), G D = some (SetO w D Sx ds.length) ∧ ds.Nodup ∧ (∀ d ∈ ds, d < 13 ∧ Sx (d : Int) = true) ∧ ∀ k : Int, Sx k = true ↔ ∃ x ∈ is.take i, x.pad = true ∧ (x.ln : Int) = k) ?_ (fun i G _ p => p.1.tup (SqT.of hit)) ?_ ?_⟩
    · exact ⟨same_upd nD, fun _ => false, [], upd_same, List.nodup_nil, (fun _ z => nomatch z), fun k => ⟨fun z => (nomatch z), fun ⟨x, hx, _⟩ => by simp at hx⟩⟩
    · rintro i x G hx ⟨sG, Sx, ds, hD, nd, lt, mem⟩
      obtain ⟨hi, r, rfl, hr2, _⟩ := rows_at M.rows hx
      have dl : ds.length ≤ 13 := nodup_lenF 13 ds nd fun d hd => (lt d hd).1
      refine ⟨r, _, rfl, SqT.of (sG _ _ hr2), rfl, _, _, rfl, _, _, rfl, _, _, rfl, _, _, rfl, rfl, rfl, _, rfl, _, rfl, ?_⟩
      have more : ∀ y, y ∈ is.take (i + 1) ↔ y ∈ is.take i ∨ y = is[i] := fun y => by rw [take_more (List.getElem?_eq_getElem hi), List.mem_append, List.mem_singleton]
      have ln12 : (is[i]).ln < 13 := by
        have := M.ok.len _ (List.getElem_mem hi)
        have := M.ok.lb
        omega
      by_cases pd : (is[i]).pad = true
      · rw [pd]
        refine iteT ⟨_, rfl, ((is[i]).ln : Int), Sx, ds.length, rfl, hD, by show ds.length + 1 < 4096; omega, fun b o e => by rw [upd_ne (ne_of_none e nD)]; exact sG b o e, ?_⟩
        have mem2 : ∀ k : Int, (Sx k || decide (k = ((is[i]).ln : Int))) = true ↔ ∃ x ∈ is.take (i + 1), x.pad = true ∧ (x.ln : Int) = k := fun k => by
          rw [Bool.or_eq_true, mem k, decide_eq_true_eq]
          constructor
          · rintro (⟨x, h1, h2, h3⟩ | rfl)
            · exact ⟨x, (more x).mpr (.inl h1), h2, h3⟩
            · exact ⟨_, (more _).mpr (.inr rfl), pd, rfl⟩
          · rintro ⟨x, h1, h2, h3⟩
            rcases (more x).mp h1 with h | rfl
            · exact .inl ⟨x, h, h2, h3⟩
            · exact .inr h3.symm
        by_cases inS : Sx ((is[i]).ln : Int) = true
        · exact ⟨fun j => Sx j || decide (j = ((is[i]).ln : Int)), ds, by rw [upd_same, if_pos inS]; rfl, nd, fun d hd => ⟨(lt d hd).1, Bool.or_eq_true_iff.mpr (.inl (lt d hd).2)⟩, mem2⟩
        · have fresh : (is[i]).ln ∉ ds := fun z => inS (lt _ z).2
          refine ⟨fun j => Sx j || decide (j = ((is[i]).ln : Int)), ds ++ [(is[i]).ln], by rw [upd_same, if_neg inS, List.length_append]; rfl, ?_, fun d hd => ?_, mem2⟩
          · rw [List.nodup_append]
            exact ⟨nd, by simp, fun x hx y hy z => by rw [List.mem_singleton.mp hy] at z; exact fresh (z ▸ hx)⟩
          · rcases List.mem_append.mp hd with h | h
            · exact ⟨(lt d h).1, Bool.or_eq_true_iff.mpr (.inl (lt d h).2)⟩
            · rw [List.mem_singleton.mp h]
              exact ⟨ln12, Bool.or_eq_true_iff.mpr (.inr (decide_eq_true rfl))⟩
      · rw [Bool.not_eq_true] at pd
        rw [pd]
        refine iteF ⟨sG, Sx, ds, hD, nd, lt, fun k => ?_⟩
        rw [mem k]
        constructor
        · rintro ⟨x, h1, h2, h3⟩
          exact ⟨x, (more x).mpr (.inl h1), h2, h3⟩
        · rintro ⟨x, h1, h2, h3⟩
          rcases (more x).mp h1 with h | rfl
          · exact ⟨x, h, h2, h3⟩
          · rw [pd] at h2; cases h2
    · rintro G ⟨sG, Sx, ds, hD, nd, lt, mem⟩
      rw [List.length_map, rl, List.take_length] at mem
      have dl : ds.length ≤ 13 := nodup_lenF 13 ds nd fun d hd => (lt d hd).1
      refine ⟨D, Sx, ds.length, rfl, hD, by omega, fun ns lp asc mem' len np => ?_⟩
      refine ⟨lp, _, rfl, .inl ⟨SqL.of upd_same, fun r nr => ?_⟩⟩
      have s1 := same_upd (o := HO.lst (ns.map V.int)) np
      have s2 := same_upd (o := HO.tup (ns.map V.int)) nr
      have s12 := sG.trans s1
      exact q _ r ns (s12.trans s2) (s12.free nr) ⟨asc, fun k => (mem' k).trans (mem k)⟩ (by omega) upd_same
end
end Ov
namespace Ov
open PySem PySem.Spec PyProof.Rows L2
theorem fmax_ge : ∀ (l : List Nat) (a : Nat), a ≤ l.foldl max a ∧ ∀ x ∈ l, x ≤ l.foldl max a
  | [], a => ⟨Nat.le_refl _, fun _ h => nomatch h⟩
  | b :: l, a => by
    obtain ⟨h1, h2⟩ := fmax_ge l (max a b)
    refine ⟨Nat.le_trans (Nat.le_max_left a b) h1, fun x hx => ?_⟩
    rcases List.mem_cons.mp hx with rfl | hx
    · exact Nat.le_trans (Nat.le_max_right a x) h1
    · exact h2 x hx
theorem fmax_le : ∀ (l : List Nat) (a m : Nat), a ≤ m → (∀ x ∈ l, x ≤ m) → l.foldl max a ≤ m
  | [], _, _, h, _ => h
  | b :: l, a, m, h, k => fmax_le l (max a b) m (Nat.max_le.mpr ⟨h, k b List.mem_cons_self⟩) fun x hx => k x (List.mem_cons_of_mem _ hx)
theorem lr_last {is : List I4} {ns : List Int} {n : Int} (pos : ∀ x ∈ is, 1 ≤ x.ln) (PL : PadL is (ns ++ [n])) : ((lrOf is : Nat) : Int) = n - 1 := by
  obtain ⟨x, hx, xp, xn⟩ := (PL.mem n).mp (List.mem_append_right _ List.mem_cons_self)
  have up : ∀ y ∈ is, y.pad = true → (y.ln : Int) ≤ n := fun y hy yp => by
    have hm := (PL.mem (y.ln : Int)).mpr ⟨y, hy, yp, rfl⟩
    rcases List.mem_append.mp hm with h | h
    · have := (List.pairwise_append.mp PL.asc).2.2 _ h n List.mem_cons_self
      omega
    · rw [List.mem_singleton.mp h]
      exact Int.le_refl _
  have x1 := pos x hx
  have g := (fmax_ge ((is.filter (·.pad)).map fun x => x.ln - 1) 0).2 (x.ln - 1) (List.mem_map.mpr ⟨x, List.mem_filter.mpr ⟨hx, xp⟩, rfl⟩)
  have l := fmax_le ((is.filter (·.pad)).map fun x => x.ln - 1) 0 (x.ln - 1) (Nat.zero_le _) fun z hz => by
    obtain ⟨y, hy, rfl⟩ := List.mem_map.mp hz
    obtain ⟨hy1, hy2⟩ := List.mem_filter.mp hy
    have := up y hy1 hy2
    omega
  have e : lrOf is = x.ln - 1 := Nat.le_antisymm l g
  rw [e]
  omega
theorem lr_none {is : List I4} (PL : PadL is []) : lrOf is = 0 := by
  have e : is.filter (·.pad) = [] := List.filter_eq_nil_iff.mpr fun x hx xp => by
    have := (PL.mem (x.ln : Int)).mpr ⟨x, hx, xp, rfl⟩
    cases this
  unfold lrOf
  rw [e]
  rfl
end Ov
namespace Ov
open PySem PySem.Spec PyProof.Rows L2
abbrev sOpc : Stmt := inClass cInstructionSet 5
def opV (is : List I4) : PyData → V
  | .str x => (valV (nameKV is) (Sum.inr x : Key)).getD .non
  | _ => .non
theorem op_hit {is : List I4} (nd : (is.map I4.nm).Nodup) {x : I4} (hx : x ∈ is) : opV is (.str (txt x.nm)) = .int (x.op : Int) := by
  show (valV (nameKV is) (Sum.inr (txt x.nm) : Key)).getD .non = _
  induction is with
  | nil => cases hx
  | cons y is ih =>
    rw [List.map_cons, List.nodup_cons] at nd
    have e : nameKV (y :: is) = ((Sum.inr (txt y.nm) : Key), V.int (y.op : Int)) :: nameKV is := rfl
    rw [e]
    rcases List.mem_cons.mp hx with rfl | hx
    · rw [valV_pos rfl]; rfl
    · rw [valV_neg, ih nd.2 hx]
      intro z
      have z1 : txt y.nm = txt x.nm := Sum.inr.inj z
      have z2 : y.nm = x.nm := by
        have := congrArg (fun s : Str => s.cps.toList) z1
        simpa [txt] using this
      exact nd.1 (by rw [z2]; exact List.mem_map.mpr ⟨x, hx, rfl⟩)
section
variable {P : Program} {w : World} {K : PySem.W.Frag} {mg : Str → Option Value} {base : Heap}
def spOpc (K : PySem.W.Frag) (C : Addr) : Sp := fun vs H Q _ => ∃ (p it : Addr) (cnt : Nat) (is : List I4) (v : V) (d : PyData), vs = [.ref p, v] ∧ SetAt C H p cnt it is ∧ Dx K H v d ∧ Q (opV is d) H
theorem scOpc : FnScope ["self", "name"] ["self", "name"] (defScope sOpc) := ⟨rfl, rfl, rfl, by decide +kernel, rfl, by decide +kernel, by decide +kernel⟩
theorem ok_opc {f C : Addr} {fd : FuncData} {k : Nat} (F : Fun K "opcode" "InstructionSet.opcode" sOpc f fd) (T : Bi mg) (S : SetTxt K mg C) : FnOk P w K mg base CX0 (k + 1) f fd ["self", "name"] (spOpc K C) := by
  refine F.ok scOpc (fun vs H Q E h => ?_) (fun cdv A' outer s H vs Q E hr h => ?_)
  · obtain ⟨p, it, cnt, is, v, d, rfl, _⟩ := h
    rfl
  · obtain ⟨p, it, cnt, is, v, d, rfl, SA, D, q⟩ := h
    refine ⟨_, pss_cons (ps_if (pt_not (pt_val (pe_callB call_isi (by rfl) T.isi (by decide +kernel) (pa_cons (pv 1) (pa_cons (pe_bltn (v := .ty "str") (u := .type "str") (by rfl) T.str (by decide +kernel) rfl) pa_nil))))) (pss_one (ps_ret pe_non)) pss_nil)
      (pss_one (ps_ret (pe_dget1 (hu_of hr) (pe_fld (pv 0) rfl) (pv 1) ⟨rfl, rfl, rfl, rfl⟩))), ?_⟩
    refine ⟨_, rfl, _, _, _, _, _, rfl, .ty _, D.ty, kit_ty (kit_s d), _, rfl, ?_⟩
    obtain ⟨dx, d1, d2, hp, h1, h2⟩ := SA.ob
    cases D with
    | non => exact iteT q
    | bl b => exact iteT q
    | int i => exact iteT q
    | dct h => exact iteT q
    | lst h a => exact iteT q
    | tup h a => exact iteT q
    | str x => exact iteF ⟨_, rfl, p, C, dx, _, _, rfl, hp, S.cl, S.nO, flds_nms _ _ _ _, d2, rfl, .inl ⟨_, .inl h2⟩, _, rfl, _, DGet.k (k := Sum.inr x) h2, q⟩
end
theorem no_methO (cnt : Nat) (it d1 d2 : Addr) : (flds cnt it d1 d2).lookup ("opcode" : Str) = none := by
  unfold flds
  rw [lookup_putF, if_neg (by decide +kernel), lookup_putF, if_neg (by decide +kernel), lookup_putF, if_neg (by decide +kernel), lookup_putF, if_neg (by decide +kernel)]
  rfl
end Ov
namespace Ov
open PySem PySem.Spec PyProof.Rows L2
section
variable {P : Program} {w : World} {K : PySem.W.Frag} {mg : Str → Option Value} {base : Heap}
def isCode (cnt : Nat) : PyData → Bool
  | .tuple ds => ds.all (btw 0 ((cnt : Int) - 1))
  | _ => false
def spIsCode (K : PySem.W.Frag) (C : Addr) : Sp := fun vs H Q _ => ∃ (p it : Addr) (cnt : Nat) (is : List I4) (v : V) (d : PyData), vs = [.ref p, v] ∧ SetAt C H p cnt it is ∧ Dx K H v d ∧ (∀ ds, d = .tuple ds → ds.length ≤ 1000) ∧ ∀ H', Same H H' → Q (.bl (isCode cnt d)) H'
theorem scIsCode : FnScope ["instruction_set", "value", "greatest", "byte"] ["instruction_set", "value"] (defScope sIsCode) := ⟨rfl, rfl, rfl, by decide +kernel, rfl, by decide +kernel, by decide +kernel⟩
theorem ok_isCode {f fB C : Addr} {fd fdB : FuncData} {k : Nat} (F : Fun K "is_code" "is_code" sIsCode f fd) (T : Bi mg) (S : SetTxt K mg C)
    (B : Def K mg "is_integer_between" sBetween fB fdB ["value", "least", "most"]) (GB : FnOk P w K mg base CX0 k fB fdB ["value", "least", "most"] (spBetweenX K)) : FnOk P w K mg base CX0 (k + 1) f fd ["instruction_set", "value"] (spIsCode K C) := by
  refine F.ok scIsCode (fun vs H Q E h => ?_) (fun cdv A' outer s H vs Q E hr h => ?_)
  · obtain ⟨p, it, cnt, is, v, d, rfl, _⟩ := h
    rfl
  · obtain ⟨p, it, cnt, is, v, d, rfl, SA, D, hl, q⟩ := h
    refine ⟨_, pss_cons (ps_if (pt_not (pt_val (pe_callB call_isi (by rfl) T.isi (by decide +kernel) (pa_cons (pv 1) (pa_cons (pe_bltn (v := .ty "tuple") (u := .type "tuple") (by rfl) T.tuple (by decide +kernel) rfl) pa_nil))))) (pss_one (ps_ret pe_bl)) pss_nil)
      (pss_cons (ps_set (i := 2) scIsCode.nd rfl (.inr rfl) (pe_op op_sub (pe_fld (pv 0) rfl) pe_int))
      (pss_one (ps_ret (pe_callB (cr_all rfl) (by rfl) T.all (by decide +kernel) (pa_cons
        (pe_lc (own := [("byte", 3)]) (g := gName 3) (tt := tYes) (by rfl) scIsCode.nd (pi_tup (pv 1)) (blkOk_by (own := [("byte", 3)]) (N := ["instruction_set", "value", "greatest", "byte"]) (sc := defScope sIsCode) (by decide +kernel))
          (fun _ _ _ _ _ => pg_name (i := 3) scIsCode.nd rfl (Or.inl rfl)) (fun _ _ _ _ _ => pts_nil)
          (fun _ _ _ _ _ => pe_call GB hr (by rfl) B.gl B.fn.kp B.bi .nil pass0 (pa_cons (pv 3) (pa_cons pe_int (pa_cons (pv 2) pa_nil))))) pa_nil))))), ?_⟩
    refine ⟨_, rfl, _, _, _, _, _, rfl, .ty _, D.ty, kit_ty (kit_t d), _, rfl, ?_⟩
    cases D with
    | non => exact iteT (q H (Same.refl _))
    | str x => exact iteT (q H (Same.refl _))
    | dct h => exact iteT (q H (Same.refl _))
    | lst h a => exact iteT (q H (Same.refl _))
    | bl b => exact iteT (q H (Same.refl _))
    | int i => exact iteT (q H (Same.refl _))
    | @tup a xs ds hs ha =>
      have h1000 := hl ds rfl
      have el := ha.len
      obtain ⟨dx, d1, d2, hp, _⟩ := SA.ob
      refine iteF ⟨_, rfl, p, C, dx, _, _, rfl, hp, S.cl, S.nB, flds_cnt _ _ _ _, _, _, rfl, rfl, ?_⟩
      refine ⟨_, rfl, a, rfl, ⟨_, hs⟩, fun D nD => lc_tup (K := K) (a := a) (xs := xs) (fun i H2 => Mk H H2 D (((ds.take i).map (btw 0 ((cnt : Int) - 1))).map V.bl)) (.start nD) (fun i H2 _ p => p.same.tup hs) ?_ ?_⟩
      · intro i x H2 hx mk
        obtain ⟨d, hd, D2⟩ := ha.at hx
        refine ⟨rfl, _, rfl, _, rfl, x, d, 0, (cnt : Int) - 1, rfl, D2.same mk.same, _, mk.at_, (by rw [List.length_map, List.length_map, List.length_take]; exact small1000 (by omega)), ?_⟩
        rw [take_more hd, List.map_append, List.map_append]
        exact mk.put (Same.refl _)
      intro H2 mk
      refine ⟨D, _, rfl, SqL.of mk.at_, ?_⟩
      rw [el, List.take_length, List.all_map]
      exact q H2 mk.same
end
end Ov
namespace Ov
open PySem PySem.Spec PyProof.Rows L2
theorem no_methP (cnt : Nat) (it d1 d2 : Addr) : (flds cnt it d1 d2).lookup ("padding_lengths" : Str) = none := by
  unfold flds
  rw [lookup_putF, if_neg (by decide +kernel), lookup_putF, if_neg (by decide +kernel), lookup_putF, if_neg (by decide +kernel), lookup_putF, if_neg (by decide +kernel)]
  rfl
section
variable {P : Program} {w : World} {K : PySem.W.Frag} {mg : Str → Option Value} {base : Heap}
abbrev nLrest : List Str := ["instruction_set", "lengths"]
theorem scLrest : FnScope nLrest ["instruction_set"] (defScope s_longest_rest) := ⟨rfl, rfl, rfl, by decide +kernel, rfl, by decide +kernel, by decide +kernel⟩
theorem ok_lrest {f C fIPl : Addr} {fd fdIPl : FuncData} {k : Nat} (F : Fun K "longest_rest" "longest_rest" s_longest_rest f fd) (T : Bi mg) (S : SetTxt K mg C) (MIPl : Meth K C "padding_lengths" fIPl) (bIPl : Binds K fdIPl ["self"] []) (GIPl : FnOk P w K mg base CX0 k fIPl fdIPl ["self"] (spPadLens C)) :
    FnOk P w K mg base CX0 (k + 1) f fd ["instruction_set"] (spLRest C) := by
  refine F.ok scLrest (fun vs H Q E h => ?_) (fun cdv A' outer s H vs Q E hr h => ?_)
  · obtain ⟨p, it, cnt, lg, is, rs, rfl, _⟩ := h
    rfl
  · obtain ⟨p, it, cnt, lg, is, rs, rfl, M, q⟩ := h
    refine ⟨_, pss_cons (ps_set (i := 1) scLrest.nd rfl (.inl rfl) (pe_meth0 (pv 0) S.cl MIPl GIPl hr bIPl .nil pass0))
      (pss_one (ps_ret (pe_ifExp (pt_cmpR op_gt (pe_callB call_len_seq (by rfl) T.len PySem.boot_len (pa_cons (pv 1) pa_nil)) pe_int (nomark _)) (pe_op op_sub (pe_ix ix_tup (pv 1) (pe_un un_neg pe_int) (fun _ _ => rfl)) pe_int) pe_int))), ?_⟩
    have pos : ∀ x ∈ is, 1 ≤ x.ln := fun x hx => (M.ok.len x hx).1
    obtain ⟨dx, d1, d2, hp, _⟩ := M.at_.ob
    refine ⟨_, rfl, p, dx, _, rfl, hp, no_methP _ _ _ _, p, it, cnt, lg, is, rs, rfl, M, fun H2 r2 ns s2 nr2 PL few hr2 => ?_⟩
    refine ⟨_, rfl, r2, _, rfl, .inr (SqT.of hr2), _, _, rfl, rfl, _, rfl, ?_⟩
    rw [List.length_map]
    rcases List.eq_nil_or_concat ns with e0 | ⟨mr, z, e0⟩
    · subst e0
      rw [decide_eq_false (show ¬ ((0 : Int) < (([] : List Int).length : Int)) by decide)]
      have z := q H2 s2
      rw [lr_none PL] at z
      exact iteF z
    · rw [List.concat_eq_append] at e0
      subst e0
      rw [decide_eq_true (show (0 : Int) < ((mr ++ [z]).length : Int) by rw [List.length_append, List.length_singleton]; omega)]
      have hz := q H2 s2
      rw [lr_last pos PL] at hz
      rw [List.map_append] at hr2
      exact iteT ⟨_, rfl, _, rfl, r2, _, _, _, rfl, rfl, SqT.of hr2, atI_last _ _, _, _, rfl, rfl, hz⟩
/-- what a decoder from e finds, told by the code alone -/
def foundAt (is : List I4) (bs : List Int) (e : Nat) : Option (List PStep) := if cdEnd (laOf is) (some e) bs = some 0 then some (stepsOf is bs (stF (laOf is) 0 (some e) bs)) else none
theorem found_at {is : List I4} {bs : List Int} {e : Nat} {begun : List Nat} {fol : Nat} (en : Ended (laOf is) bs e begun fol) : foundOf is bs begun fol = foundAt is bs e := by
  unfold foundOf foundAt
  rw [en.cd, en.st]
  by_cases h : fol = bs.length
  · subst h
    rw [if_pos rfl, if_neg (Nat.lt_irrefl _), Nat.sub_self, if_pos rfl]
  · rw [if_neg h]
    by_cases h2 : fol < bs.length
    · rw [if_pos h2, if_neg (fun z => nomatch z)]
    · rw [if_neg h2, if_neg (fun z => by have := Option.some.inj z; omega)]
def ovB (is : List I4) (bs : List Int) (pss : List (List PStep)) (gs : List Nat) : Bool := decide (gs.getLast?.getD 0 ≤ bs.length) && (gs.zip pss).all fun q => fits (foundAt is bs q.1) q.2
def intD : PyData → Int
  | .int i => i
  | _ => 0
def bsD : PyData → List Int
  | .tuple ds => ds.map intD
  | _ => []
def isOvD (cnt : Nat) (is : List I4) (pss : List (List PStep)) (gs : List Nat) (d : PyData) : Bool := isCode cnt d && ovB is (bsD d) pss gs
theorem code_ints {cnt : Nat} {d : PyData} (h : isCode cnt d = true) : d = .tuple ((bsD d).map PyData.int) ∧ ∀ b ∈ bsD d, 0 ≤ b ∧ b < (cnt : Int) := by
  cases d with
  | tuple ds =>
    have h' : ∀ x ∈ ds, btw 0 ((cnt : Int) - 1) x = true := List.all_eq_true.mp h
    have one : ∀ x ∈ ds, PyData.int (intD x) = x ∧ 0 ≤ intD x ∧ intD x < (cnt : Int) := fun x hx => by
      have z := h' x hx
      cases x with
      | int i =>
        have z' := Bool.and_eq_true_iff.mp z
        have a := of_decide_eq_true z'.1
        have b := of_decide_eq_true z'.2
        exact ⟨rfl, a, by show i < _; omega⟩
      | _ => cases z
    refine ⟨?_, fun b hb => ?_⟩
    · show PyData.tuple ds = .tuple ((ds.map intD).map PyData.int)
      rw [List.map_map]
      congr 1
      exact (List.map_id ds).symm.trans (List.map_congr_left fun x hx => (one x hx).1.symm)
    · obtain ⟨x, hx, rfl⟩ := List.mem_map.mp hb
      exact (one x hx).2
  | _ => cases h
theorem ents_le {gs : List Nat} (oe : Ents gs) {z : Nat} (hz : gs.getLast? = some z) : ∀ g ∈ gs, g ≤ z := fun g hg => by
  obtain ⟨gr, rfl⟩ : ∃ gr, gs = gr ++ [z] := by
    rcases List.eq_nil_or_concat gs with e | ⟨gr, y, e⟩
    · rw [e] at hz; cases hz
    · rw [List.concat_eq_append] at e
      rw [e] at hz
      simp at hz
      exact ⟨gr, by rw [e, hz]⟩
  rcases List.mem_append.mp hg with h | h
  · have a := oe.asc
    rw [List.map_append] at a
    have := (List.pairwise_append.mp a).2.2 (g : Int) (List.mem_map.mpr ⟨g, h, rfl⟩) (z : Int) (by simp)
    omega
  · rw [List.mem_singleton.mp h]; exact Nat.le_refl _
def spIsOv (K : PySem.W.Frag) (C : Addr) : Sp := fun vs H Q _ => ∃ (p it l g : Addr) (cnt lg : Nat) (is : List I4) (rs : List Addr) (xs : List V) (pss : List (List PStep)) (gs : List Nat) (v : V) (d : PyData), vs = [.ref p, .ref l, .ref g, v] ∧ Mach C H p cnt lg it is rs ∧ SqT K H l xs ∧ DxAll K H xs (pss.map planD) ∧ Plns cnt is pss ∧ SqT K H g (entV gs) ∧ Ents gs ∧ gs.length = pss.length ∧ (∀ ps ∈ pss, dcnt is ps ≤ 1000) ∧ stcN is pss gs ≤ 5000 ∧
  Dx K H v d ∧ (∀ ds, d = .tuple ds → ds.length ≤ 1000) ∧ ∀ H', Same H H' → Q (.bl (isOvD cnt is pss gs d)) H'
abbrev nIsOv : List Str := ["instruction_set", "programs", "entries", "value", "entry", "program"]
theorem scIsOv : FnScope nIsOv ["instruction_set", "programs", "entries", "value"] (defScope s_is_overlay) := ⟨rfl, rfl, rfl, by decide +kernel, rfl, by decide +kernel, by decide +kernel⟩
theorem ok_isOv {f C fRu fIc fCkO : Addr} {fd fdRu fdIc fdCkO : FuncData} {k : Nat} (F : Fun K "is_overlay" "is_overlay" s_is_overlay f fd) (T : Bi mg) (Ru : Def K mg "runs" s_runs fRu fdRu ["instruction_set", "code", "entry", "program"]) (GRu : FnOk P w K mg base CX0 k fRu fdRu ["instruction_set", "code", "entry", "program"] (spRuns K C)) (Ic : Def K mg "is_code" sIsCode fIc fdIc ["instruction_set", "value"]) (GIc : FnOk P w K mg base CX0 k fIc fdIc ["instruction_set", "value"] (spIsCode K C)) (CkO : Def K mg "check_overlay" s_check_overlay fCkO fdCkO ["instruction_set", "programs", "entries"]) (GCkO : FnOk P w K mg base CX0 k fCkO fdCkO ["instruction_set", "programs", "entries"] (spCkO K C)) :
    FnOk P w K mg base CX0 (k + 1) f fd ["instruction_set", "programs", "entries", "value"] (spIsOv K C) := by
  refine F.ok scIsOv (fun vs H Q E h => ?_) (fun cdv A' outer s H vs Q E hr h => ?_)
  · obtain ⟨p, it, l, g, cnt, lg, is, rs, xs, pss, gs, v, d, rfl, _⟩ := h
    rfl
  · obtain ⟨p, it, l, g, cnt, lg, is, rs, xs, pss, gs, v, d, rfl, M, hl, D, ok, hg, oe, le, small, few, Dv, d1000, q⟩ := h
    refine ⟨_, pss_cons (ps_expr (pe_call GCkO hr (by rfl) CkO.gl CkO.fn.kp CkO.bi .nil pass0 (pa_cons (pv 0) (pa_cons (pv 1) (pa_cons (pv 2) pa_nil)))))
      (pss_cons (ps_if (PW.pt (pw_or (pt_not (pt_val (pe_call GIc hr (by rfl) Ic.gl Ic.fn.kp Ic.bi .nil pass0 (pa_cons (pv 0) (pa_cons (pv 3) pa_nil))))) (pw_or1 (pt_cmpR op_lt (pe_callB call_len_seq (by rfl) T.len PySem.boot_len (pa_cons (pv 3) pa_nil)) (pe_ix ix_tup (pv 2) (pe_un un_neg pe_int) (fun _ _ => rfl)) (nomark _))))) (pss_one (ps_ret pe_bl)) pss_nil)
      (pss_one (ps_ret (pe_callB (cr_all rfl) (by rfl) T.all (by decide +kernel) (pa_cons (pe_lc (own := [("entry", 4), ("program", 5)]) (g := (gTup K 2 (gCons (gName 4) (gCons (gName 5) gNil)))) (tt := tYes) (by rfl) scIsOv.nd (RZ.pi_zipA (by rfl) T.zip (pa_cons (pv 2) (pa_cons (pv 1) pa_nil))) (blkOk_by (own := [("entry", 4), ("program", 5)]) (N := nIsOv) (sc := defScope s_is_overlay) (by decide +kernel)) (fun _ _ _ _ _ => (pg_tup rfl (pgs_cons (pg_name (i := 4) scIsOv.nd rfl (Or.inl rfl)) (pgs_cons (pg_name (i := 5) scIsOv.nd rfl (Or.inl rfl)) pgs_nil)))) (fun _ _ _ _ _ => pts_nil) (fun _ _ _ _ _ => (pe_call GRu hr (by rfl) Ru.gl Ru.fn.kp Ru.bi .nil pass0 (pa_cons (pv 0) (pa_cons (pv 3) (pa_cons (pv 4) (pa_cons (pv 5) pa_nil))))))) pa_nil))))), ?_⟩
    have xl : xs.length = pss.length := by rw [D.len, List.length_map]
    obtain ⟨gr, z, rfl⟩ : ∃ (gr : List Nat) (z : Nat), gs = gr ++ [z] := by
      rcases List.eq_nil_or_concat gs with e0 | ⟨gr, z, e0⟩
      · rw [e0] at oe
        exact absurd oe.hd (by simp)
      · exact ⟨gr, z, by rw [e0, List.concat_eq_append]⟩
    have ez : (gr ++ [z]).getLast?.getD 0 = z := by simp
    have hg' : SqT K H g (entV gr ++ [V.int (z : Int)]) := by
      have e : entV (gr ++ [z]) = entV gr ++ [V.int (z : Int)] := by
        show ((gr ++ [z]).map fun n : Nat => (n : Int)).map V.int = _
        rw [List.map_append, List.map_append]
        rfl
      rw [← e]
      exact hg
    refine ⟨_, rfl, _, rfl, _, rfl, p, it, l, g, cnt, lg, is, rs, xs, pss, _, rfl, M, hl, D, ok, hg, oe, le, small, few, fun H1 s1 => ?_⟩
    refine ⟨_, rfl, _, rfl, p, it, cnt, is, v, d, rfl, M.at_.same s1, Dv.same s1, d1000, fun H2 s2 => ?_⟩
    have s02 := s1.trans s2
    cases hc : isCode cnt d with
    | false =>
      have z := q H2 s02
      unfold isOvD at z
      rw [hc, Bool.false_and] at z
      exact ⟨_, rfl, iteT z⟩
    | true =>
      have q' : ∀ H', Same H H' → Q (.bl (ovB is (bsD d) pss (gr ++ [z]))) H' := fun H' s => by
        have y := q H' s
        unfold isOvD at y
        rw [hc, Bool.true_and] at y
        exact y
      obtain ⟨ed, bb⟩ := code_ints hc
      generalize bsD d = bs at *
      subst ed
      have bl : bs.length ≤ 1000 := by have := d1000 _ rfl; rw [List.length_map] at this; exact this
      obtain ⟨c, ys, rfl, hcd, Dc⟩ := dx_tup Dv
      have ey := dx_intsI Dc
      subst ey
      refine ⟨_, rfl, iteF ?_⟩
      refine ⟨_, rfl, c, _, rfl, .inr (s02.tup hcd), _, rfl, _, rfl, g, _, _, _, rfl, rfl, s02.tup hg', atI_last _ _, _, _, rfl, rfl, _, rfl, ?_⟩
      rw [List.length_map]
      unfold ovB at q'
      rw [ez] at q'
      by_cases h1 : z ≤ bs.length
      · rw [decide_eq_false (show ¬ (bs.length : Int) < (z : Int) by omega)]
        rw [decide_eq_true h1, Bool.true_and] at q'
        refine iteF ?_
        have hgz : ∀ e ∈ gr ++ [z], e ≤ bs.length := fun e he => Nat.le_trans (ents_le oe (by simp) e he) h1
        generalize gr ++ [z] = gs at *
        refine ⟨_, rfl, _, rfl, g, l, _, _, rfl, .inr ⟨s02.tup hg, s02.tup hl, fun L nL => lc_it (walk_zipT (K := K) (a := g) (b := l) (xs := entV gs) (ys := xs) rfl) (fun i G => Mk H2 G L ((((gs.zip pss).take i).map fun q => fits (foundAt is bs q.1) q.2).map V.bl)) (.start nL) (fun i G _ mk => ⟨(s02.trans mk.same).tup hg, (s02.trans mk.same).tup hl⟩) (fun j u G G5 hi mk yy => ?_) (fun G mk => ?_)⟩⟩
        · obtain ⟨t, x1, x2, rfl, nt, rfl, f1, f2⟩ := yy
          have f1' : (entV gs)[j]? = some x1 := f1
          have f2' : xs[j]? = some x2 := f2
          rw [List.getElem?_map, List.getElem?_map] at f1'
          obtain ⟨e1, he1, rfl⟩ := Option.map_eq_some_iff.mp f1'
          obtain ⟨e, he, rfl⟩ := Option.map_eq_some_iff.mp he1
          obtain ⟨d2, hd2, D2⟩ := D.at f2'
          rw [List.getElem?_map] at hd2
          obtain ⟨ps, hps, rfl⟩ := Option.map_eq_some_iff.mp hd2
          obtain ⟨l12, sok⟩ := ok.ok ps (List.mem_of_getElem? hps)
          have st := same_upd (o := HO.tup [V.int (e : Int), x2]) nt
          have s3 := (s02.trans mk.same).trans st
          have jl := (List.getElem?_eq_some_iff.mp he).1
          have hz : (gs.zip pss)[j]? = some (e, ps) := by
            rw [List.getElem?_zip_eq_some]
            exact ⟨he, hps⟩
          refine ⟨t, _, rfl, SqT.of upd_same, rfl, _, _, rfl, _, _, rfl, rfl, rfl, _, rfl, _, rfl, _, rfl, _, rfl, p, it, c, cnt, lg, is, rs, bs, e, x2, ps, rfl, M.same s3, s3.tup hcd, bl, hgz e (List.mem_of_getElem? he), D2.same s3, sok, l12, fun G6 begun fol s6 en bl6 => ?_⟩
          rw [found_at en]
          refine ⟨_, s6 _ _ (st _ _ mk.at_), ?_, ?_⟩
          · rw [List.length_map, List.length_map, List.length_take, List.length_zip]
            have := oe.few
            exact small1000 (by omega)
          · rw [take_more hz, List.map_append, List.map_append]
            exact mk.put (st.trans s6)
        · have el : min (entV gs).length xs.length = (gs.zip pss).length := by rw [List.length_zip, List.length_map, List.length_map, xl]
          rw [el, List.take_length] at mk
          refine ⟨L, _, rfl, SqL.of mk.at_, ?_⟩
          rw [List.all_map]
          exact q' G (s02.trans mk.same)
      · rw [decide_eq_true (show (bs.length : Int) < (z : Int) by omega)]
        rw [decide_eq_false h1, Bool.false_and] at q'
        exact iteT (q' H2 s02)
end
end Ov
namespace Ov
open PySem PySem.Spec PyProof.Rows L2
def rLen (K : PySem.W.Frag) : List V → Hp → VK → Prop := fun args G R => ∃ a items, args = [.ref a] ∧ (SqL K G a items ∨ SqT K G a items) ∧ R (.int items.length) G
theorem cr_len {X : Cx} : CallR X (.builtin "len") (rLen X.K) := call_len_seq
end Ov
namespace Ov
open PySem PySem.Spec PyProof.Rows L2
def Chg : HO → Prop
  | .lst _ => True
  | .dK _ => True
  | .dT _ => True
  | .set _ _ => True
  | .ins _ _ _ => True
  | .own _ => True
  | _ => False
structure Wd (p : Addr) (T M H : Hp) (f : Nat) : Prop where
  th : Same T H
  mh : Same M H
  dis : ∀ b, M b ≠ none → T b = none
  nt : ∀ b u, M b = some u → Chg u
  tp : T p = none
  mp : M p = none
  box : ∃ n, BoxAt H p n ∧ n + f ≤ 2 ^ 37
/-- all of a heap but the box and what changes -/
def rest (p : Addr) (M H : Hp) : Hp := fun b => if b = p then none else match M b with
  | some _ => none
  | none => H b
section
variable {p : Addr} {T T' M H H' : Hp} {f : Nat} {L : Addr} {o : HO}
theorem Wd.mono (W : Wd p T M H f) {f' : Nat} (h : f' ≤ f) : Wd p T M H f' := { W with box := by obtain ⟨n, B, l⟩ := W.box; exact ⟨n, B, by omega⟩ }
theorem Wd.pne (W : Wd p T M H f) : H p ≠ none := by obtain ⟨n, B, _⟩ := W.box; exact B.ne
theorem Wd.free (W : Wd p T M H f) {a : Addr} (n : H a = none) : T a = none ∧ M a = none ∧ a ≠ p := ⟨W.th.free n, W.mh.free n, fun z => W.pne (z ▸ n)⟩
theorem Wd.put (W : Wd p T M H f) {a : Addr} (o : HO) (n : H a = none) : Wd p (upd T a o) M (upd H a o) f := by
  obtain ⟨t0, m0, ap⟩ := W.free n
  refine ⟨fun b x e => ?_, W.mh.trans (same_upd n), fun b e => ?_, W.nt, by rw [upd_ne (Ne.symm ap)]; exact W.tp, W.mp, ?_⟩
  · by_cases h : b = a
    · subst h; rw [upd_same] at e ⊢; exact e
    · rw [upd_ne h] at e ⊢; exact W.th _ _ e
  · rw [upd_ne (show b ≠ a from fun z => e (by rw [z]; exact m0))]; exact W.dis b e
  · obtain ⟨k, B, l⟩ := W.box
    exact ⟨k, B.same (same_upd n), l⟩
theorem Wd.putT (W : Wd p T M H f) {a : Addr} (o : HO) (n : H a = none) : Same T (upd T a o) := same_upd (W.free n).1
theorem Wd.newM (W : Wd p T M H f) {L : Addr} (o : HO) (n : H L = none) (ho : Chg o) : Wd p T (upd M L o) (upd H L o) f := by
  obtain ⟨t0, m0, ap⟩ := W.free n
  refine ⟨W.th.trans (same_upd n), fun b x e => ?_, fun b e => ?_, fun b xs e => ?_, W.tp, by rw [upd_ne (Ne.symm ap)]; exact W.mp, ?_⟩
  · by_cases h : b = L
    · subst h; rw [upd_same] at e ⊢; exact e
    · rw [upd_ne h] at e ⊢; exact W.mh _ _ e
  · by_cases h : b = L
    · subst h; exact t0
    · rw [upd_ne h] at e; exact W.dis b e
  · by_cases h : b = L
    · subst h; rw [upd_same] at e; cases e; exact ho
    · rw [upd_ne h] at e; exact W.nt b xs e
  · obtain ⟨k, B, l⟩ := W.box
    exact ⟨k, B.same (same_upd n), l⟩
theorem Wd.setM (W : Wd p T M H f) {L : Addr} (o : HO) (n : M L ≠ none) (ho : Chg o) : Wd p T (upd M L o) (upd H L o) f := by
  have t0 := W.dis L n
  have ap : L ≠ p := fun z => n (z ▸ W.mp)
  refine ⟨fun b x e => ?_, fun b x e => ?_, fun b e => ?_, fun b xs e => ?_, W.tp, by rw [upd_ne (Ne.symm ap)]; exact W.mp, ?_⟩
  · rw [upd_ne (ne_of_none e t0)]; exact W.th _ _ e
  · by_cases h : b = L
    · subst h; rw [upd_same] at e ⊢; exact e
    · rw [upd_ne h] at e ⊢; exact W.mh _ _ e
  · by_cases h : b = L
    · subst h; exact t0
    · rw [upd_ne h] at e; exact W.dis b e
  · by_cases h : b = L
    · subst h; rw [upd_same] at e; cases e; exact ho
    · rw [upd_ne h] at e; exact W.nt b xs e
  · obtain ⟨k, ⟨a, b, c, e, r⟩, l⟩ := W.box
    exact ⟨k, ⟨a, b, c, by rw [upd_ne (Ne.symm ap)]; exact e, r⟩, l⟩
theorem Wd.setL (W : Wd p T (upd M L o) H f) (o' : HO) (ho : Chg o') : Wd p T (upd M L o') (upd H L o') f := by
  have z := W.setM (L := L) o' (by rw [upd_same]; exact fun z => nomatch z) ho
  rwa [upd_upd] at z
theorem Wd.at (W : Wd p T (upd M L o) H f) : H L = some o := W.mh _ _ upd_same
theorem Wd.less (W : Wd p T M H f) {M' : Hp} (s : Same M' M) : Wd p T M' H f :=
  ⟨W.th, fun b o e => W.mh _ _ (s _ _ e), fun b e => W.dis b (fun z => by
    cases h : M' b with
    | none => exact e h
    | some o => rw [s _ _ h] at z; cases z), fun b xs e => W.nt b xs (s _ _ e), W.tp, s.free W.mp, W.box⟩
theorem Wd.drop (W : Wd p T (upd M L o) H f) (n : M L = none) : Wd p T M H f := W.less (same_upd n)
theorem Wd.freeze (W : Wd p T (upd M L o) H f) (n : M L = none) : Wd p (upd T L o) M H f := by
  have t0 := W.dis L (by rw [upd_same]; exact fun z => nomatch z)
  have lp : p ≠ L := fun z => by have := W.mp; rw [z, upd_same] at this; cases this
  have W2 := W.drop n
  refine ⟨fun b x e => ?_, W2.mh, fun b e => ?_, W2.nt, by rw [upd_ne lp]; exact W.tp, W2.mp, W.box⟩
  · by_cases h : b = L
    · subst h; rw [upd_same] at e; cases e; exact W.at
    · rw [upd_ne h] at e; exact W.th _ _ e
  · rw [upd_ne (show b ≠ L from fun z => e (by rw [z]; exact n))]; exact W2.dis b e
theorem Wd.frT (W : Wd p T (upd M L o) H f) : Same T (upd T L o) := same_upd (W.dis L (by rw [upd_same]; exact fun z => nomatch z))
theorem Wd.pure (W : Wd p T M H f) (s : Same H H') : Wd p T M H' f := ⟨W.th.trans s, W.mh.trans s, W.dis, W.nt, W.tp, W.mp, by obtain ⟨n, B, l⟩ := W.box; exact ⟨n, B.same s, l⟩⟩
theorem rest_same : Same (rest p M H) H := fun b o e => by
  unfold rest at e
  by_cases h : b = p
  · rw [if_pos h] at e; cases e
  · rw [if_neg h] at e
    cases q : M b with
    | some x => rw [q] at e; cases e
    | none => rw [q] at e; exact e
theorem Wd.restT (W : Wd p T M H f) : Same T (rest p M H) := fun b o e => by
  unfold rest
  rw [if_neg (ne_of_none e W.tp)]
  cases q : M b with
  | some x => rw [W.dis b (by rw [q]; exact fun z => nomatch z)] at e; cases e
  | none => exact W.th _ _ e
theorem Wd.rest (W : Wd p T M H f) : Wd p (rest p M H) M H f := ⟨rest_same, W.mh, (fun b e => by
    unfold Ov.rest
    by_cases h : b = p
    · rw [if_pos h]
    · rw [if_neg h]
      cases q : M b with
      | some x => rfl
      | none => exact absurd q e), W.nt, by unfold Ov.rest; rw [if_pos rfl], W.mp, W.box⟩
theorem Wd.tup (W : Wd p T M H f) {a : Addr} {xs : List V} (h : H a = some (.tup xs)) : Ov.rest p M H a = some (.tup xs) := by
  unfold Ov.rest
  rw [if_neg (fun z => by obtain ⟨n, ⟨_, _, _, e, _⟩, _⟩ := W.box; rw [z, e] at h; cases h)]
  cases q : M a with
  | some x => have := W.mh _ _ q; rw [h] at this; cases this; exact (W.nt a _ q).elim
  | none => exact h
theorem Wd.sqT (W : Wd p T M H f) {K : PySem.W.Frag} {a : Addr} {xs : List V} (h : SqT K H a xs) : SqT K (Ov.rest p M H) a xs := by
  rcases h with (h | ⟨o, h⟩) | h
  · exact .inl (.inl (W.tup h))
  · refine .inl (.inr ⟨o, ?_⟩)
    unfold Ov.rest
    rw [if_neg (fun z => by obtain ⟨n, ⟨_, _, _, e, _⟩, _⟩ := W.box; rw [z, e] at h; cases h)]
    cases q : M a with
    | some x => have := W.mh _ _ q; rw [h] at this; cases this; exact (W.nt a _ q).elim
    | none => exact h
  · exact .inr h
/-- a number is drawn -/
theorem Wd.take (W : Wd p T M H (f + 1)) {m : Int} {Q : VK} (m0 : 0 < m) (m1 : m < 2 ^ 200) (k : ∀ H' d, Wd p T M H' f → 0 ≤ d → d < m → (∀ b, H b = none → H' b = none) → Q (.int d) H') : spTake [.ref p, .int m] H Q E0 := by
  obtain ⟨n, B, l⟩ := W.box
  refine ⟨p, m, n, rfl, B, by omega, m0, m1, fun H' d b B' d0 d1 fr => k H' d ⟨fun c o e => b _ _ (W.th _ _ e) (ne_of_none e W.tp), fun c o e => b _ _ (W.mh _ _ e) (ne_of_none e W.mp), W.dis, W.nt, W.tp, W.mp, n + 1, B', by omega⟩ d0 d1 fr⟩
theorem Wd.tk (W : Wd p T M H (f + 1)) : ∃ n, BoxAt H p n ∧ n ≤ 2 ^ 37 ∧ ∀ {H'}, But p H H' → BoxAt H' p (n + 1) → Wd p T M H' f := by
  obtain ⟨n, B, l⟩ := W.box
  exact ⟨n, B, by omega, fun b B' => ⟨fun c o e => b _ _ (W.th _ _ e) (ne_of_none e W.tp), fun c o e => b _ _ (W.mh _ _ e) (ne_of_none e W.mp), W.dis, W.nt, W.tp, W.mp, n + 1, B', by omega⟩⟩
theorem Wd.gb (W : Wd p T M H f) {n f' : Nat} (g : GB p T H T' H') (B : BoxAt H' p n) (l : n + f' ≤ 2 ^ 37) : Wd p T' M H' f' :=
  ⟨g.th, fun c o e => g.hh _ _ (W.mh _ _ e) (ne_of_none e W.mp), fun b e => g.new b (W.dis b e) (fun z => by
    cases q : M b with
    | none => exact e q
    | some x => rw [W.mh _ _ q] at z; cases z), W.nt, g.new p W.tp W.pne, W.mp, n, B, l⟩
end
end Ov
namespace Ov
open PySem PySem.Spec PyProof.Rows L2
def Ev (p : Addr) (M : Hp) (c : Nat) (t : TE) (σ : L2.St) (T : Hp) (R : Hp → V → Prop) : Prop :=
  ∀ T1 H f Q, Same T T1 → Wd p T1 M H (f + c) → (∀ T' H' v, Same T1 T' → Wd p T' M H' f → R T' v → Q v H') → t σ H Q
section
variable {K : PySem.W.Frag} {p : Addr} {T T' M H H' : Hp} {σ : L2.St} {c c1 c2 : Nat} {ta tb te : TE} {R R1 R2 : Hp → V → Prop}
theorem Ev.imp (e : Ev p M c te σ T R1) (h : ∀ T' v, Same T T' → R1 T' v → R T' v) : Ev p M c te σ T R := fun T1 H f Q s W k => e T1 H f Q s W fun T' H' v s' W' r => k T' H' v s' W' (h T' v (s.trans s') r)
theorem Ev.mono (e : Ev p M c1 te σ T R) (h : c1 ≤ c) : Ev p M c te σ T R := fun T1 H f Q s W k => e T1 H (f + (c - c1)) Q s (W.mono (by omega)) fun T' H' v s' W' r => k T' H' v s' (W'.mono (by omega)) r
end
end Ov
namespace Ov
open PySem PySem.Spec PyProof.Rows L2
theorem But.tup {K : PySem.W.Frag} {H H' : Hp} {l d : Addr} {xs ys : List V} (b : But l H H') (hl : H l = some (.lst xs)) (h : SqT K H d ys) : SqT K H' d ys := by
  rcases h with (h | ⟨o, h⟩) | h
  · exact .inl (.inl (b _ _ h (fun z => by rw [z, hl] at h; cases h)))
  · exact .inl (.inr ⟨o, b _ _ h (fun z => by rw [z, hl] at h; cases h)⟩)
  · exact .inr h
end Ov
namespace Ov
open PySem PySem.Spec PyProof.Rows L2
theorem dx_bool {K : PySem.W.Frag} {H : Hp} {v : V} {x : Bool} (h : Dx K H v (.bool x)) : v = .bl x := by cases h; rfl
theorem dx_two {K : PySem.W.Frag} {H : Hp} {v : V} {d e : PyData} (h : Dx K H v (.tuple [d, e])) : ∃ a x y, v = .ref a ∧ SqT K H a [x, y] ∧ Dx K H x d ∧ Dx K H y e := by
  obtain ⟨a, xs, rfl, h1, a1⟩ := dx_tup h
  cases a1 with
  | cons d1 a1 =>
    cases a1 with
    | cons d2 a1 =>
      cases a1
      exact ⟨a, _, _, rfl, h1, d1, d2⟩
end Ov
namespace Ov
open PySem PySem.Spec PyProof.Rows L2
end Ov
namespace Ov
open PySem PySem.Spec PyProof.Rows L2
structure Fine (D N : Nat) (d : PyData) : Prop where
  sh : d.showable = true
  dep : d.depth ≤ D
  nd : nodes d ≤ N
theorem Fine.mono {D N D' N' : Nat} {d : PyData} (h : Fine D N d) (a : D ≤ D') (b : N ≤ N') : Fine D' N' d := ⟨h.sh, Nat.le_trans h.dep a, Nat.le_trans h.nd b⟩
structure FineA (D N : Nat) (ds : List PyData) : Prop where
  sh : PyData.showableAll ds = true
  dep : PyData.depthAll ds ≤ D
  nd : nodesAll ds ≤ N
theorem FineA.nil : FineA 0 0 [] := ⟨by simp [PyData.showableAll], by simp [PyData.depthAll], by simp [nodesAll]⟩
theorem FineA.cons {D N M : Nat} {d : PyData} {ds : List PyData} (h : Fine D N d) (t : FineA D M ds) : FineA D (N + M) (d :: ds) := by
  refine ⟨?_, ?_, ?_⟩
  · simp only [PyData.showableAll]; rw [h.sh, t.sh]; rfl
  · simp only [PyData.depthAll]; exact Nat.max_le.mpr ⟨h.dep, t.dep⟩
  · simp only [nodesAll]; exact Nat.add_le_add h.nd t.nd
theorem FineA.app {D N M : Nat} {a b : List PyData} (h : FineA D N a) (t : FineA D M b) : FineA D (N + M) (a ++ b) := by
  refine ⟨by rw [showableAll_app, h.sh, t.sh]; rfl, ?_, by rw [nodesAll_app]; exact Nat.add_le_add h.nd t.nd⟩
  rw [depthAll_app]
  exact Nat.max_le.mpr ⟨h.dep, t.dep⟩
theorem FineA.mono {D N D' N' : Nat} {d : List PyData} (h : FineA D N d) (a : D ≤ D') (b : N ≤ N') : FineA D' N' d := ⟨h.sh, Nat.le_trans h.dep a, Nat.le_trans h.nd b⟩
theorem FineA.tup {D N : Nat} {ds : List PyData} (h : FineA D N ds) : Fine (D + 1) (N + 1) (.tuple ds) := ⟨by simp only [PyData.showable]; exact h.sh, by simp only [PyData.depth]; have := h.dep; omega, by simp only [nodes]; have := h.nd; omega⟩
theorem FineA.lst {D N : Nat} {ds : List PyData} (h : FineA D N ds) : Fine (D + 1) (N + 1) (.list ds) := ⟨by simp only [PyData.showable]; exact h.sh, by simp only [PyData.depth]; have := h.dep; omega, by simp only [nodes]; have := h.nd; omega⟩
theorem FineA.all {D N : Nat} {ds : List PyData} (h : ∀ d ∈ ds, Fine D N d) : FineA D (ds.length * N) ds := by
  induction ds with
  | nil => exact FineA.nil.mono (Nat.zero_le _) (Nat.zero_le _)
  | cons d ds ih =>
    have := FineA.cons (h d List.mem_cons_self) (ih fun x hx => h x (List.mem_cons_of_mem _ hx))
    exact this.mono (Nat.le_refl _) (by rw [List.length_cons, Nat.succ_mul]; omega)
theorem DzAll.mem {H : Hp} : ∀ {vs : List V} {ds : List PyData}, DzAll H vs ds → ∀ {v : V}, v ∈ vs → ∃ d, d ∈ ds ∧ Dz H v d
  | _, _, .nil, v, h => by cases h
  | _, _, .cons a t, v, h => by
    rcases List.mem_cons.mp h with rfl | h
    · exact ⟨_, List.mem_cons_self, a⟩
    · obtain ⟨d, hd, D⟩ := t.mem h
      exact ⟨d, List.mem_cons_of_mem _ hd, D⟩
theorem Grow.set {T H T' H' : Hp} (g : Grow T H T' H') {L : Addr} (o : HO) (nH : H L = none) (nT : T' L = none) : Grow T H T' (upd H' L o) :=
  ⟨fun b x e => by rw [upd_ne (ne_of_none e nH)]; exact g.hh b x e, g.tt, fun b x e => by rw [upd_ne (ne_of_none e nT)]; exact g.th b x e, g.new⟩
end Ov
namespace Ov
open PySem PySem.Spec PyProof.Rows L2
theorem DxAll.take {K : PySem.W.Frag} {H : Hp} : ∀ {vs : List V} {ds : List PyData} (n : Nat), DxAll K H vs ds → DxAll K H (vs.take n) (ds.take n)
  | _, _, 0, _ => .nil
  | _, _, n + 1, .nil => .nil
  | _, _, n + 1, .cons h a => .cons h (a.take n)
mutual
theorem Dx.hide {K : PySem.W.Frag} {H : Hp} {p : Addr} {ys : List V} (hp : H p = some (.lst ys)) : ∀ {v : V} {d : PyData}, Dx K H v d → noList d = true → Dx K (hide p H) v d
  | _, _, .non, _ => .non
  | _, _, .bl b, _ => .bl b
  | _, _, .int i, _ => .int i
  | _, _, .str x, _ => .str x
  | _, _, .dct h, _ => .dct (hide_at h (fun z => by rw [z, hp] at h; cases h))
  | _, _, .lst h a, z => by simp [noList] at z
  | _, _, .tup h a, z => .tup (But.tup (l := p) (but_hide) hp h) (DxAll.hide hp a (by simpa only [noList] using z))
theorem DxAll.hide {K : PySem.W.Frag} {H : Hp} {p : Addr} {ys : List V} (hp : H p = some (.lst ys)) : ∀ {vs : List V} {ds : List PyData}, DxAll K H vs ds → noListAll ds = true → DxAll K (hide p H) vs ds
  | _, _, .nil, _ => .nil
  | _, _, .cons h a, z => by
    simp only [noListAll, Bool.and_eq_true] at z
    exact .cons (Dx.hide hp h z.1) (DxAll.hide hp a z.2)
end
/-- a plan that stands in T -/
def PlanZ (cnt : Nat) (is : List I4) (T : Hp) (m : Nat) (v : V) : Prop := ∃ ps : List PStep, Dz T v (.tuple (ps.map stepD)) ∧ ps.length ≤ m ∧ ∀ x ∈ ps, StepOk cnt is x
theorem PlanZ.same {cnt : Nat} {is : List I4} {T T' : Hp} {m : Nat} {v : V} (h : PlanZ cnt is T m v) (s : Same T T') : PlanZ cnt is T' m v := by
  obtain ⟨ps, a, b, c⟩ := h
  exact ⟨ps, a.same s, b, c⟩
/-- plans in a list in the making, beside the box -/
structure HoldP (cnt : Nat) (is : List I4) (T H : Hp) (p D : Addr) (n : Nat) (vs : List V) : Prop where
  ht : Same T H
  tp : T p = none
  tD : T D = none
  ne : D ≠ p
  at_ : H D = some (.lst vs)
  all : ∀ v ∈ vs, PlanZ cnt is T 13 v
  box : BoxAt H p n
theorem HoldP.gb {cnt : Nat} {is : List I4} {T H T' G : Hp} {p D : Addr} {n m : Nat} {vs : List V} (h : HoldP cnt is T H p D n vs) (g : GB p T H T' G) (B : BoxAt G p m) : HoldP cnt is T' G p D m vs :=
  ⟨g.th, g.new _ h.tp h.box.ne, g.new _ h.tD (by rw [h.at_]; exact fun z => nomatch z), h.ne, g.hh _ _ h.at_ h.ne, fun v hv => (h.all v hv).same g.tt, B⟩
theorem HoldP.put {cnt : Nat} {is : List I4} {T H : Hp} {p D : Addr} {n : Nat} {vs us : List V} (h : HoldP cnt is T H p D n vs) (A : ∀ v ∈ us, PlanZ cnt is T 13 v) : HoldP cnt is T (upd H D (.lst us)) p D n us :=
  ⟨fun b o e => by rw [upd_ne (ne_of_none e h.tD)]; exact h.ht _ _ e, h.tp, h.tD, h.ne, upd_same, A, h.box.upd h.ne⟩
end Ov
namespace Ov
open PySem PySem.Spec PyProof.Rows L2
def none0 : Hp := fun _ => none
section
variable {p : Addr} {T M H H' : Hp} {f : Nat} {K : PySem.W.Frag}
theorem Wd.init (s : Same H H') (n : H p = none) (B : BoxAt H' p 0) : Wd p H none0 H' (2 ^ 37) :=
  ⟨s, (fun _ _ e => nomatch e), fun b e => absurd rfl e, (fun _ _ e => nomatch e), n, rfl, 0, B, by omega⟩
theorem nd0 : ∀ b, none0 b ≠ some (.dK []) := fun _ z => nomatch z
theorem rest0 {T H : Hp} (W : Wd p T none0 H f) {a : Addr} {o : HO} (h : H a = some o) (l : ∀ xs, o ≠ .lst xs) : rest p none0 H a = some o := by
  unfold rest
  rw [if_neg (fun z => by obtain ⟨n, ⟨_, _, _, e, _⟩, _⟩ := W.box; rw [z, e] at h; cases h; exact l _ rfl)]
  exact h
theorem Mach.rest0 {C : Addr} (W : Wd p T none0 H f) {x : Addr} {cnt lg : Nat} {is : List I4} {it : Addr} {rs : List Addr} (h : Mach C H x cnt lg it is rs) : Mach C (rest p none0 H) x cnt lg it is rs := by
  obtain ⟨dx, d1, d2, h1, h2, h3⟩ := h.at_.ob
  exact ⟨⟨dx, d1, d2, Ov.rest0 W h1 (fun _ z => nomatch z), Ov.rest0 W h2 (fun _ z => nomatch z), Ov.rest0 W h3 (fun _ z => nomatch z)⟩, W.tup h.its, ⟨h.rows.1, fun i r x h1 h2 => W.tup (h.rows.2 i r x h1 h2)⟩, h.ok⟩
/-- a new instruction set -/
theorem Wd.mach {C : Addr} (W : Wd p T none0 H f) {x dx cnt lg : Nat} {is : List I4} {it : Addr} {rs : List Addr} {H5 : Hp} (its : T it = some (.tup (rs.map V.ref))) (rows : Rows T rs is) (ok : TabOk cnt lg is) (nx : H x = none) (ndx : H dx = none)
    (SA : SetAt C H5 x cnt it is) (kp : ∀ b o, (upd (upd H dx (.own x)) x (.ins C dx [])) b = some o → b ≠ x → H5 b = some o) : Wd p T none0 H5 f ∧ Mach C H5 x cnt lg it is rs := by
  have s4x : Same H (upd (upd H dx (.own x)) x (.ins C dx [])) := fun b o e => by
    rw [upd_ne (ne_of_none e nx), upd_ne (ne_of_none e ndx)]
    exact e
  have s45 : Same H H5 := fun b o e => kp b o (s4x b o e) (ne_of_none e nx)
  have W5 := W.pure s45
  exact ⟨W5, SA, W5.th _ _ its, rows.same W5.th, ok⟩
theorem Wd.grow (W : Wd p T M H f) {T' : Hp} (g : Grow T H T' H') : Wd p T' M H' f := by
  obtain ⟨n, B, l⟩ := W.box
  exact W.gb (.of g) (B.same g.hh) l
variable {σ : L2.St} {c c1 c2 : Nat} {ta tb te : TE} {R : Hp → V → Prop}
end
end Ov
namespace Ov
open PySem PySem.Spec PyProof.Rows L2
/-- four values by keywords, in the turned order -/
def rev4 {α : Type} : List α → List α → List α
  | [], [a, b, c, d] => [d, c, b, a]
  | _, _ => []
theorem rev4_len {α : Type} {us ws : List α} (h : (rev4 us ws).length = 4) : ∃ a b c d, us = [] ∧ ws = [a, b, c, d] := by
  match us, ws, h with
  | [], [a, b, c, d], _ => exact ⟨a, b, c, d, rfl, rfl⟩
  | [], [], h => cases h
  | [], [_], h => cases h
  | [], [_, _], h => cases h
  | [], [_, _, _], h => cases h
  | [], _ :: _ :: _ :: _ :: _ :: _, h => cases h
  | _ :: _, _, h => cases h
theorem rev4_rel {vs : List V} {us : List Value} {zs : List V} {ws : List Value} (r : Vals vs us) (rz : Vals zs ws) : Vals (rev4 vs zs) (rev4 us ws) := by
  cases r with
  | nil =>
    cases rz with
    | nil => exact .nil
    | cons r1 rz =>
      cases rz with
      | nil => exact .nil
      | cons r2 rz =>
        cases rz with
        | nil => exact .nil
        | cons r3 rz =>
          cases rz with
          | nil => exact .nil
          | cons r4 rz =>
            cases rz with
            | nil => exact .cons r4 (.cons r3 (.cons r2 (.cons r1 .nil)))
            | cons r5 rz => exact .nil
  | cons r1 r => exact .nil
end Ov
namespace Ov
open PySem PySem.Spec PyProof.Rows L2
end Ov
namespace Ov
open PySem PySem.Spec PyProof.Rows L2
abbrev Dst := Nat × Bool × Nat
def dstD (d : Dst) : PyData := .tuple [.int (d.1 : Int), .bool d.2.1, .int (d.2.2 : Int)]
def odD : Option Dst → PyData
  | none => .none
  | some d => dstD d
abbrev Sta := Nat × List (Option Dst)
def stD (s : Sta) : PyData := .tuple [.int (s.1 : Int), .tuple (s.2.map odD)]
def taskD (x : PStep) : PyData := .tuple [.int (x.1.op : Int), .tuple (x.2.map oD)]
def padKV (is : List I4) : List (Key × V) := (is.filter fun x : I4 => x.pad).map fun x => ((Sum.inl (x.op : Int) : Key), V.int (x.ln : Int))
def padI (is : List I4) (b : Int) : Option I4 := (is.filter fun x : I4 => x.pad).find? fun x => decide ((x.op : Int) = b)
theorem padKV_more (is : List I4) (x : I4) : padKV (is ++ [x]) = padKV is ++ (if x.pad = true then [((Sum.inl (x.op : Int) : Key), V.int (x.ln : Int))] else []) := by
  unfold padKV
  rw [List.filter_append, List.map_append]
  cases h : x.pad <;> simp [List.filter_cons, h]
theorem val_pad (is : List I4) (b : Int) : valV (padKV is) (Sum.inl b : Key) = (padI is b).map fun x => V.int (x.ln : Int) := by
  unfold valV padKV padI
  induction (is.filter fun x : I4 => x.pad) with
  | nil => rfl
  | cons x l ih =>
    rw [List.map_cons, List.find?_cons, List.find?_cons]
    by_cases e : (x.op : Int) = b
    · subst e; simp
    · rw [decide_eq_false e, decide_eq_false (fun z => e (Sum.inl.inj z))]
      exact ih
theorem padI_in {is : List I4} {b : Int} {x : I4} (h : padI is b = some x) : x ∈ is ∧ x.pad = true ∧ (x.op : Int) = b := by
  have m := List.mem_filter.mp (List.mem_of_find?_eq_some h)
  have z : decide ((x.op : Int) = b) = true := List.find?_some (p := fun x : I4 => decide ((x.op : Int) = b)) h
  exact ⟨m.1, m.2, of_decide_eq_true z⟩
/-- so many bytes left of padding, of a step -/
def padDec (d l : Nat) : Dst := (d, decide (0 < l), l)
def stepDec (d l : Nat) : Dst := if 0 < l then (d, false, l) else (d + 1, false, 0)
/-- a decoder behind one more byte -/
def decB (is : List I4) (ps : List PStep) (d : Dst) (b : Int) : Option Dst :=
  if d.2.1 = true then some (padDec d.1 (d.2.2 - 1))
  else if 0 < d.2.2 then match ps[d.1]? with
    | some x => match x.2[x.2.length - d.2.2]? with
      | some o => if o = none ∨ o = some b then some (stepDec d.1 (d.2.2 - 1)) else none
      | none => none
    | none => none
  else match padI is b with
    | some x => some (padDec d.1 (x.ln - 1))
    | none => match ps[d.1]? with
      | some x => if (x.1.op : Int) = b then some (stepDec d.1 x.2.length) else none
      | none => none
/-- what a decoder can be -/
def DecOk (ps : List PStep) (d : Dst) : Prop := d.1 ≤ ps.length ∧ (d.2.1 = true → 0 < d.2.2) ∧ d.2.2 ≤ 12 ∧ (d.2.1 = false → 0 < d.2.2 → ∃ x, ps[d.1]? = some x ∧ d.2.2 ≤ x.2.length)
theorem decB_ok {cnt lg : Nat} {is : List I4} (ok : TabOk cnt lg is) {ps : List PStep} (pok : ∀ x ∈ ps, StepOk cnt is x) {d : Dst} (h : DecOk ps d) {b : Int} {d' : Dst} (e : decB is ps d b = some d') : DecOk ps d' := by
  have lb := ok.lb
  have sd : ∀ {d l : Nat} {x : PStep}, ps[d]? = some x → l ≤ x.2.length → l ≤ 12 → DecOk ps (stepDec d l) := fun {d l x} hx hl l12 => by
    have il := (List.getElem?_eq_some_iff.mp hx).1
    unfold stepDec
    by_cases z : 0 < l
    · rw [if_pos z]
      exact ⟨Nat.le_of_lt il, (fun z => nomatch z), l12, fun _ _ => ⟨x, hx, hl⟩⟩
    · rw [if_neg z]
      exact ⟨il, (fun z => nomatch z), Nat.zero_le _, fun _ z => absurd z (Nat.lt_irrefl 0)⟩
  have pd : ∀ {d l : Nat}, d ≤ ps.length → l ≤ 12 → DecOk ps (padDec d l) := fun {d l} h1 h2 =>
    ⟨h1, fun z => of_decide_eq_true z, h2, fun z z2 => by
      have : decide (0 < l) = false := z
      have := of_decide_eq_false this
      exact absurd z2 this⟩
  obtain ⟨h1, h2, h3, h4⟩ := h
  unfold decB at e
  by_cases c1 : d.2.1 = true
  · rw [if_pos c1] at e
    cases e
    exact pd h1 (by omega)
  · rw [if_neg c1] at e
    have c1' : d.2.1 = false := by cases z : d.2.1; rfl; exact absurd z c1
    by_cases c2 : 0 < d.2.2
    · rw [if_pos c2] at e
      obtain ⟨x, hx, hl⟩ := h4 c1' c2
      rw [hx] at e
      dsimp only at e
      cases ho : x.2[x.2.length - d.2.2]? with
      | none => rw [ho] at e; cases e
      | some o =>
        rw [ho] at e
        dsimp only at e
        split at e
        · cases e; exact sd hx (by omega) (by omega)
        · cases e
    · rw [if_neg c2] at e
      cases hp : padI is b with
      | some x =>
        rw [hp] at e
        cases e
        have := ok.len x (padI_in hp).1
        exact pd h1 (by omega)
      | none =>
        rw [hp] at e
        dsimp only at e
        cases hx : ps[d.1]? with
        | none => rw [hx] at e; cases e
        | some x =>
          rw [hx] at e
          dsimp only at e
          split at e
          · cases e
            have sx := pok x (List.mem_of_getElem? hx)
            have := sx.len
            have := ok.len x.1 sx.mem
            exact sd hx (Nat.le_refl _) (by omega)
          · cases e
section
variable {P : Program} {w : World} {K : PySem.W.Frag} {mg : Str → Option Value} {base : Heap}
def spPadBy (C : Addr) : Sp := fun vs H Q _ => ∃ (p it : Addr) (cnt lg : Nat) (is : List I4) (rs : List Addr), vs = [.ref p] ∧ Mach C H p cnt lg it is rs ∧ ∀ H' d, Same H H' → H d = none → H' d = some (.dK (padKV is)) → Q (.ref d) H'
abbrev nPadBy : List Str := ["instruction_set", "opcode", "name", "length", "is_padding"]
theorem scPadBy : FnScope nPadBy ["instruction_set"] (defScope s_padding_by_opcode) := ⟨rfl, rfl, rfl, by decide +kernel, rfl, by decide +kernel, by decide +kernel⟩
theorem ok_padBy {f C : Addr} {fd : FuncData} {k : Nat} (F : Fun K "padding_by_opcode" "padding_by_opcode" s_padding_by_opcode f fd) (S : SetTxt K mg C) :
    FnOk P w K mg base CX0 (k + 1) f fd ["instruction_set"] (spPadBy C) := by
  refine F.ok scPadBy (fun vs H Q E h => ?_) (fun cdv A' outer s H vs Q E hr h => ?_)
  · obtain ⟨p, it, cnt, lg, is, rs, rfl, _⟩ := h
    rfl
  · obtain ⟨p, it, cnt, lg, is, rs, rfl, M, q⟩ := h
    refine ⟨_, pss_one (ps_ret (pe_dc (own := [("opcode", 1), ("name", 2), ("length", 3), ("is_padding", 4)]) (g := (gTup K 4 (gCons (gName 1) (gCons (gName 2) (gCons (gName 3) (gCons (gName 4) gNil)))))) (by rfl) scPadBy.nd (pi_tup (pe_fld (pv 0) rfl)) (blkOk_by (own := [("opcode", 1), ("name", 2), ("length", 3), ("is_padding", 4)]) (N := nPadBy) (sc := defScope s_padding_by_opcode) (by decide +kernel)) (fun _ _ _ _ _ => (pg_tup rfl (pgs_cons (pg_name (i := 1) scPadBy.nd rfl (Or.inl rfl)) (pgs_cons (pg_name (i := 2) scPadBy.nd rfl (Or.inl rfl)) (pgs_cons (pg_name (i := 3) scPadBy.nd rfl (Or.inl rfl)) (pgs_cons (pg_name (i := 4) scPadBy.nd rfl (Or.inl rfl)) pgs_nil)))))) (fun _ _ _ _ _ => pts_one (pt_val (pv 4))) (fun _ _ _ _ _ => (pv 1)) (fun _ _ _ _ _ => (pv 3)))), ?_⟩
    obtain ⟨dx, d1, d2, hp, _⟩ := M.at_.ob
    have few := M.ok.few
    have rl := M.rows.1
    refine ⟨_, rfl, p, C, dx, _, _, rfl, hp, S.cl, S.nI, flds_its _ _ _ _, it, rfl, ⟨_, SqT.of M.its⟩, fun D nD => dc_tup (K := K) (a := it) (xs := rs.map V.ref) (fun i G => Same H G ∧ G D = some (.dK (padKV (is.take i)))) ⟨same_upd nD, upd_same⟩ (fun i G _ p => p.1.tup (SqT.of M.its)) ?_ ?_⟩
    · rintro i x G hx ⟨sG, hD⟩
      obtain ⟨hi, r, rfl, hr2, _⟩ := rows_at M.rows hx
      refine ⟨r, _, rfl, SqT.of (sG _ _ hr2), rfl, _, _, rfl, _, _, rfl, _, _, rfl, _, _, rfl, rfl, rfl, _, rfl, _, rfl, ?_⟩
      rw [take_more (List.getElem?_eq_getElem hi), padKV_more]
      cases hpad : (is[i]).pad with
      | false =>
        refine iteF ?_
        rw [if_neg Bool.false_ne_true, List.append_nil]
        exact ⟨sG, hD⟩
      | true =>
        refine iteT ⟨_, rfl, _, rfl, _, Sum.inl ((is[i]).op : Int), rfl, hD, ?_, fun b o e => ?_, ?_⟩
        · unfold padKV
          rw [List.length_map]
          have := List.length_filter_le (fun x : I4 => x.pad) (is.take i)
          rw [List.length_take] at this
          exact small1000 (by omega)
        · rw [upd_ne (ne_of_none e nD)]
          exact sG b o e
        · rw [upd_same, if_pos rfl, put_fresh]
          intro z
          unfold padKV at z
          rw [List.map_map] at z
          obtain ⟨y, hy, e⟩ := List.mem_map.mp z
          obtain ⟨j, hj, ej⟩ := List.mem_take_iff_getElem.mp (List.mem_filter.mp hy).1
          have e' : (y.op : Int) = ((is[i]).op : Int) := Sum.inl.inj e
          have h1 := List.pairwise_iff_getElem.mp M.ok.asc j i (by rw [List.length_map]; omega) (by rw [List.length_map]; exact hi) (by omega)
          rw [List.getElem_map, List.getElem_map, ej] at h1
          omega
    · rintro G ⟨sG, hD⟩
      rw [List.length_map, rl, List.take_length] at hD
      exact q G D sG nD hD
def spOpSteps (K : PySem.W.Frag) (C : Addr) : Sp := fun vs H Q _ => ∃ (p it : Addr) (cnt lg : Nat) (is : List I4) (rs : List Addr) (v : V) (ps : List PStep) (T0 : Hp), vs = [.ref p, v] ∧ Mach C H p cnt lg it is rs ∧ Same T0 H ∧ Dx K T0 v (planD ps) ∧ ps.length ≤ 12 ∧ (∀ x ∈ ps, StepOk cnt is x) ∧
  ∀ H' T' l us, Grow T0 H T' H' → T' l = none → H' l = some (.lst us) → DxAll K T' us (ps.map taskD) → H l = none → Q (.ref l) H'
abbrev nOpSteps : List Str := ["instruction_set", "program", "name", "operands"]
theorem scOpSteps : FnScope nOpSteps ["instruction_set", "program"] (defScope s_opcode_steps) := ⟨rfl, rfl, rfl, by decide +kernel, rfl, by decide +kernel, by decide +kernel⟩
theorem ok_opSteps {f C fIOp : Addr} {fd fdIOp : FuncData} {k : Nat} (F : Fun K "opcode_steps" "opcode_steps" s_opcode_steps f fd) (S : SetTxt K mg C) (MIOp : Meth K C "opcode" fIOp) (bIOp : Binds K fdIOp ["self", "name"] []) (GIOp : FnOk P w K mg base CX0 k fIOp fdIOp ["self", "name"] (spOpc K C)) :
    FnOk P w K mg base CX0 (k + 1) f fd ["instruction_set", "program"] (spOpSteps K C) := by
  refine F.ok scOpSteps (fun vs H Q E h => ?_) (fun cdv A' outer s H vs Q E hr h => ?_)
  · obtain ⟨p, it, cnt, lg, is, rs, v, ps, T0, rfl, _⟩ := h
    rfl
  · obtain ⟨p, it, cnt, lg, is, rs, v, ps, T0, rfl, M, s0, D, l12, pok, q⟩ := h
    refine ⟨_, pss_one (ps_ret (pe_lc (own := [("name", 2), ("operands", 3)]) (g := (gTup K 2 (gCons (gName 2) (gCons (gName 3) gNil)))) (tt := tYes) (by rfl) scOpSteps.nd (pi_tup (pv 1)) (blkOk_by (own := [("name", 2), ("operands", 3)]) (N := nOpSteps) (sc := defScope s_opcode_steps) (by decide +kernel)) (fun _ _ _ _ _ => (pg_tup rfl (pgs_cons (pg_name (i := 2) scOpSteps.nd rfl (Or.inl rfl)) (pgs_cons (pg_name (i := 3) scOpSteps.nd rfl (Or.inl rfl)) pgs_nil)))) (fun _ _ _ _ _ => pts_nil) (fun _ _ _ _ _ => (pe_tup (pa_cons (pe_meth (pv 0) S.cl MIOp GIOp hr bIOp .nil pass0 (pa_cons (pv 2) pa_nil)) (pa_cons (pv 3) pa_nil)))))), ?_⟩
    obtain ⟨a, xs, rfl, ha, DA⟩ := dx_tup D
    have xl : xs.length = ps.length := by rw [DA.len, List.length_map]
    obtain ⟨dx, d1, d2, hp, _⟩ := M.at_.ob
    refine ⟨_, rfl, a, rfl, ⟨_, s0.tup ha⟩, fun L nL => lc_tup (K := K) (a := a) (xs := xs) (fun i G => ∃ T' us, Same H G ∧ Same T0 T' ∧ Coll K T' G L us ((ps.take i).map taskD) ∧ (∀ b, T0 b = none → H b ≠ none → T' b = none)) ⟨T0, [], same_upd nL, Same.refl _, ⟨s0.trans (same_upd nL), s0.free nL, upd_same, .nil⟩, fun _ h _ => h⟩ (fun i G _ ⟨T', us, sG, st, c, _⟩ => (st.trans c.th).tup ha) ?_ ?_⟩
    · rintro i y G hy ⟨T', us, sG, st, c, nw⟩
      obtain ⟨d, hd, Dy⟩ := DA.at hy
      rw [List.getElem?_map] at hd
      obtain ⟨x, hx, rfl⟩ := Option.map_eq_some_iff.mp hd
      have il := (List.getElem?_eq_some_iff.mp hx).1
      have sx := pok x (List.mem_of_getElem? hx)
      obtain ⟨a1, b1, rfl, h1', h2'⟩ := dx_step (Dy.same st)
      have h1 := c.th.tup h1'
      have MG := M.same sG
      refine ⟨a1, _, rfl, h1, rfl, _, _, rfl, _, _, rfl, rfl, rfl, _, rfl, p, dx, _, rfl, sG _ _ hp, no_methO _ _ _ _, _, rfl, p, it, cnt, is, .str (txt x.1.nm), .str (txt x.1.nm), rfl, MG.at_, .str _, ?_⟩
      rw [op_hit M.ok.nd sx.mem]
      refine ⟨_, rfl, by show 2 ≤ sizeLine; decide, fun u nu => ?_⟩
      have g := (Grow.refl c.th).put (HO.tup [V.int (x.1.op : Int), V.ref b1]) nu
      have c2 := c.grow g
      have sG2 := sG.trans g.hh
      refine ⟨us, c2.at_, ?_, _, us ++ [V.ref u], fun b o e => by rw [upd_ne (ne_of_none e nL)]; exact sG2 b o e, st.trans g.tt, ?_, fun b h1 h2 => g.new b (nw b h1 h2) (fun z => h2 (by
        cases q : H b with
        | none => rfl
        | some o => rw [sG _ _ q] at z; cases z))⟩
      · rw [c.all.len, List.length_map, List.length_take, sizeLine_eq]; omega
      · rw [take_more hx, List.map_append]
        exact c2.push (.tup (SqT.of upd_same) (.cons (.int _) (.cons (.tup (g.tt.tup h2') (dz_opts x.2).dx) .nil)))
    · rintro G ⟨T', us, sG, st, c, nw⟩
      rw [xl, List.take_length] at c
      exact q G T' L us ⟨sG, st, c.th, nw⟩ c.td c.at_ c.all nL
end
end Ov
namespace Ov
open PySem PySem.Spec PyProof.Rows L2
section
variable {P : Program} {w : World} {K : PySem.W.Frag} {mg : Str → Option Value} {base : Heap}
theorem dx_dst {K : PySem.W.Frag} {H : Hp} {a : Addr} {d : Dst} (h : SqT K H a [.int (d.1 : Int), .bl d.2.1, .int (d.2.2 : Int)]) : Dx K H (.ref a) (dstD d) := .tup h (.cons (.int _) (.cons (.bl _) (.cons (.int _) .nil)))
theorem dst_at {K : PySem.W.Frag} {H : Hp} {v : V} {d : Dst} (h : Dx K H v (dstD d)) : ∃ a, v = .ref a ∧ SqT K H a [.int (d.1 : Int), .bl d.2.1, .int (d.2.2 : Int)] := by
  obtain ⟨a, xs, rfl, h1, a1⟩ := dx_tup h
  cases a1 with
  | cons q1 a1 =>
    cases a1 with
    | cons q2 a1 =>
      cases a1 with
      | cons q3 a1 =>
        cases a1
        rw [dx_int q1, dx_bool q2, dx_int q3] at h1
        exact ⟨a, rfl, h1⟩
def spPadDec (K : PySem.W.Frag) : Sp := fun vs H Q _ => ∃ (d l : Nat), vs = [.int (d : Int), .int (l : Int)] ∧ ∀ H' v, Same H H' → Dx K H' v (dstD (padDec d l)) → Q v H'
abbrev nPadDec : List Str := ["done", "left"]
theorem scPadDec : FnScope nPadDec ["done", "left"] (defScope s_padding_decoder) := ⟨rfl, rfl, rfl, by decide +kernel, rfl, by decide +kernel, by decide +kernel⟩
theorem ok_padDec {f : Addr} {fd : FuncData} {k : Nat} (F : Fun K "padding_decoder" "padding_decoder" s_padding_decoder f fd) :
    FnOk P w K mg base CX0 (k + 1) f fd ["done", "left"] (spPadDec K) := by
  refine F.ok scPadDec (fun vs H Q E h => ?_) (fun cdv A' outer s H vs Q E hr h => ?_)
  · obtain ⟨d, l, rfl, _⟩ := h
    rfl
  · obtain ⟨d, l, rfl, q⟩ := h
    refine ⟨_, pss_one (ps_ret (pe_tup (pa_cons (pv 0) (pa_cons (pe_cmpR op_gt (pv 1) pe_int (nomark _)) (pa_cons (pv 1) pa_nil))))), ?_⟩
    refine ⟨_, rfl, _, rfl, _, _, rfl, rfl, _, rfl, by show 3 ≤ sizeLine; decide, fun r nr => q _ _ (same_upd nr) (dx_dst ?_)⟩
    have e : decide ((0 : Int) < (l : Int)) = decide (0 < l) := decide_eq_decide.mpr (by omega)
    have z := SqT.of (K := K) (@upd_same H r (HO.tup [V.int (d : Int), V.bl (decide ((0 : Int) < (l : Int))), V.int (l : Int)]))
    unfold padDec
    rw [← e]
    exact z
def spStepDec (K : PySem.W.Frag) : Sp := fun vs H Q _ => ∃ (d l : Nat), vs = [.int (d : Int), .int (l : Int)] ∧ ∀ H' v, Same H H' → Dx K H' v (dstD (stepDec d l)) → Q v H'
abbrev nStepDec : List Str := ["done", "left"]
theorem scStepDec : FnScope nStepDec ["done", "left"] (defScope s_step_decoder) := ⟨rfl, rfl, rfl, by decide +kernel, rfl, by decide +kernel, by decide +kernel⟩
theorem ok_stepDec {f : Addr} {fd : FuncData} {k : Nat} (F : Fun K "step_decoder" "step_decoder" s_step_decoder f fd) :
    FnOk P w K mg base CX0 (k + 1) f fd ["done", "left"] (spStepDec K) := by
  refine F.ok scStepDec (fun vs H Q E h => ?_) (fun cdv A' outer s H vs Q E hr h => ?_)
  · obtain ⟨d, l, rfl, _⟩ := h
    rfl
  · obtain ⟨d, l, rfl, q⟩ := h
    refine ⟨_, pss_one (ps_ret (pe_ifExp (pt_cmpR op_gt (pv 1) pe_int (nomark _)) (pe_tup (pa_cons (pv 0) (pa_cons pe_bl (pa_cons (pv 1) pa_nil)))) (pe_tup (pa_cons (pe_op op_add (pv 0) pe_int) (pa_cons pe_bl (pa_cons pe_int pa_nil)))))), ?_⟩
    refine ⟨_, rfl, _, _, rfl, rfl, _, rfl, ?_⟩
    by_cases h : 0 < l
    · rw [decide_eq_true (show (0 : Int) < (l : Int) by omega)]
      refine iteT ⟨_, rfl, _, rfl, by show 3 ≤ sizeLine; decide, fun r nr => q _ _ (same_upd nr) ?_⟩
      unfold stepDec
      rw [if_pos h]
      exact dx_dst (SqT.of upd_same)
    · rw [decide_eq_false (show ¬ (0 : Int) < (l : Int) by omega)]
      refine iteF ⟨_, rfl, _, _, rfl, rfl, by show 3 ≤ sizeLine; decide, fun r nr => q _ _ (same_upd nr) ?_⟩
      unfold stepDec
      rw [if_neg h]
      have z := SqT.of (K := K) (@upd_same H r (HO.tup [V.int ((d : Int) + 1), V.bl false, V.int 0]))
      exact dx_dst (d := (d + 1, false, 0)) z
def spDecB (K : PySem.W.Frag) : Sp := fun vs H Q _ => ∃ (Pd l : Addr) (cnt lg : Nat) (is : List I4) (us : List V) (ps : List PStep) (v : V) (d : Dst) (b : Int), vs = [.ref Pd, .ref l, v, .int b] ∧ H Pd = some (.dK (padKV is)) ∧ H l = some (.lst us) ∧ DxAll K H us (ps.map taskD) ∧ Dx K H v (dstD d) ∧ DecOk ps d ∧ TabOk cnt lg is ∧ (∀ x ∈ ps, StepOk cnt is x) ∧ ps.length ≤ 12 ∧
  ∀ H' v', Same H H' → Dx K H' v' (odD (decB is ps d b)) → Q v' H'
abbrev nDecB : List Str := ["padding", "steps", "decoder", "byte", "done", "is_padding", "left", "operands", "wanted"]
theorem scDecB : FnScope nDecB ["padding", "steps", "decoder", "byte"] (defScope s_decoder_behind) := ⟨rfl, rfl, rfl, by decide +kernel, rfl, by decide +kernel, by decide +kernel⟩
theorem ok_decB {f fStepDecoder fPaddingDecoder : Addr} {fd fdStepDecoder fdPaddingDecoder : FuncData} {k : Nat} (F : Fun K "decoder_behind" "decoder_behind" s_decoder_behind f fd) (T : Bi mg) (StepDecoder : Def K mg "step_decoder" s_step_decoder fStepDecoder fdStepDecoder ["done", "left"]) (GStepDecoder : FnOk P w K mg base CX0 k fStepDecoder fdStepDecoder ["done", "left"] (spStepDec K)) (PaddingDecoder : Def K mg "padding_decoder" s_padding_decoder fPaddingDecoder fdPaddingDecoder ["done", "left"]) (GPaddingDecoder : FnOk P w K mg base CX0 k fPaddingDecoder fdPaddingDecoder ["done", "left"] (spPadDec K)) :
    FnOk P w K mg base CX0 (k + 1) f fd ["padding", "steps", "decoder", "byte"] (spDecB K) := by
  refine F.ok scDecB (fun vs H Q E h => ?_) (fun cdv A' outer s H vs Q E hr h => ?_)
  · obtain ⟨Pd, l, cnt, lg, is, us, ps, v, d, b, rfl, _⟩ := h
    rfl
  · obtain ⟨Pd, l, cnt, lg, is, us, ps, v, d, b, rfl, hP, hl, Du, Dv, dok, ok, pok, p12, q⟩ := h
    have hu := hu_of hr
    refine ⟨_, pss_cons (ps_asg (pv 2) (pg_tup rfl (pgs_cons (pg_name (i := 4) scDecB.nd rfl (.inl rfl)) (pgs_cons (pg_name (i := 5) scDecB.nd rfl (.inl rfl)) (pgs_cons (pg_name (i := 6) scDecB.nd rfl (.inl rfl)) pgs_nil)))))
      (pss_cons (ps_if (pt_val (pv 5)) (pss_one (ps_ret (pe_call GPaddingDecoder hr (by rfl) PaddingDecoder.gl PaddingDecoder.fn.kp PaddingDecoder.bi .nil pass0 (pa_cons (pv 4) (pa_cons (pe_op op_sub (pv 6) pe_int) pa_nil))))) pss_nil)
      (pss_cons (ps_if (pt_cmpR op_gt (pv 6) pe_int (nomark _)) (pss_cons (ps_set (i := 7) scDecB.nd rfl (.inl rfl) (pe_ix ix_tup (pe_ix ix_list (pv 1) (pv 4) (fun _ _ => rfl)) pe_int (fun _ _ => rfl)))
      (pss_cons (ps_set (i := 8) scDecB.nd rfl (.inl rfl) (pe_ix ix_tup (pv 7) (pe_op op_sub (pe_callB call_len_seq (by rfl) T.len PySem.boot_len (pa_cons (pv 7) pa_nil)) (pv 6)) (fun _ _ => rfl)))
      (pss_one (ps_ret (pe_ifExp (PW.pt (pw_or (pt_cmpR op_isN (pv 8) pe_non (nomark _)) (pw_or1 (pt_cmpR op_eq (pv 8) (pv 3) (nomark _))))) (pe_call GStepDecoder hr (by rfl) StepDecoder.gl StepDecoder.fn.kp StepDecoder.bi .nil pass0 (pa_cons (pv 4) (pa_cons (pe_op op_sub (pv 6) pe_int) pa_nil))) pe_non))))) pss_nil)
      (pss_cons (ps_if (pt_cmp (pc_din hu (pv 3) (pv 0))) (pss_one (ps_ret (pe_call GPaddingDecoder hr (by rfl) PaddingDecoder.gl PaddingDecoder.fn.kp PaddingDecoder.bi .nil pass0 (pa_cons (pv 4) (pa_cons (pe_op op_sub (pe_dget hu (pv 0) (pv 3) (fun _ _ => rfl)) pe_int) pa_nil))))) pss_nil)
      (pss_cons (ps_if (PW.pt (pw_and (pt_cmpR op_lt (pv 4) (pe_callB call_len_seq (by rfl) T.len PySem.boot_len (pa_cons (pv 1) pa_nil)) (nomark _)) (pw_and1 (pt_cmpR op_eq (pe_ix ix_tup (pe_ix ix_list (pv 1) (pv 4) (fun _ _ => rfl)) pe_int (fun _ _ => rfl)) (pv 3) (nomark _))))) (pss_one (ps_ret (pe_call GStepDecoder hr (by rfl) StepDecoder.gl StepDecoder.fn.kp StepDecoder.bi .nil pass0 (pa_cons (pv 4) (pa_cons (pe_callB call_len_seq (by rfl) T.len PySem.boot_len (pa_cons (pe_ix ix_tup (pe_ix ix_list (pv 1) (pv 4) (fun _ _ => rfl)) pe_int (fun _ _ => rfl)) pa_nil)) pa_nil))))) pss_nil)
      (pss_one (ps_ret pe_non)))))), ?_⟩
    obtain ⟨a, rfl, ha⟩ := dst_at Dv
    obtain ⟨dn, pd, lf⟩ := d
    obtain ⟨h1, h2, h3, h4⟩ := dok
    dsimp only at h1 h2 h3 h4
    have ul : us.length = ps.length := by rw [Du.len, List.length_map]
    refine ⟨_, rfl, a, _, rfl, ha, rfl, _, _, rfl, _, _, rfl, _, _, rfl, rfl, _, rfl, _, rfl, ?_⟩
    cases pd with
    | true =>
      have l0 : 0 < lf := h2 rfl
      have em : ((lf - 1 : Nat) : Int) = (lf : Int) - 1 := by omega
      refine iteT ⟨_, rfl, _, rfl, _, _, rfl, rfl, dn, lf - 1, (by rw [em]; rfl), fun H' v' s' D' => q H' v' s' D'⟩
    | false =>
      refine iteF ⟨_, rfl, _, _, rfl, rfl, _, rfl, ?_⟩
      by_cases l0 : 0 < lf
      · rw [decide_eq_true (show (0 : Int) < (lf : Int) by omega)]
        obtain ⟨x, hx, lx⟩ := h4 rfl l0
        have em : ((lf - 1 : Nat) : Int) = (lf : Int) - 1 := by omega
        have il := (List.getElem?_eq_some_iff.mp hx).1
        obtain ⟨u, hu'⟩ : ∃ u, us[dn]? = some u := ⟨us[dn]'(by rw [ul]; exact il), List.getElem?_eq_getElem _⟩
        obtain ⟨dd, hdd, Dd⟩ := Du.at hu'
        rw [List.getElem?_map, hx] at hdd
        cases hdd
        obtain ⟨t1, y1, y2, rfl, ht1, D1, D2⟩ := dx_two Dd
        obtain ⟨op, os, rfl, hop, Dop⟩ := dx_tup D2
        have eos := dx_opts Dop
        subst eos
        have at1 : atI [y1, V.ref op] 1 = some (.ref op) := atI_nat (j := 1) rfl
        have at2 : atI us (dn : Int) = some (.ref t1) := atI_nat hu'
        have io : x.2.length - lf < x.2.length := by omega
        obtain ⟨o, ho⟩ : ∃ o, x.2[x.2.length - lf]? = some o := ⟨x.2[x.2.length - lf], List.getElem?_eq_getElem io⟩
        have at3 : atI (x.2.map oV) (((x.2.map oV).length : Int) - (lf : Int)) = some (oV o) := by
          rw [List.length_map, show ((x.2.length : Int) - (lf : Int)) = ((x.2.length - lf : Nat) : Int) by omega]
          exact atI_nat (by rw [List.getElem?_map, ho]; rfl)
        have eq1 : decB is ps (dn, false, lf) b = if o = none ∨ o = some b then some (stepDec dn (lf - 1)) else none := by
          unfold decB
          rw [if_neg (show ¬ (false = true) by decide), if_pos l0]
          show (match ps[dn]? with | some x => (match x.2[x.2.length - lf]? with | some o => if o = none ∨ o = some b then some (stepDec dn (lf - 1)) else none | none => none) | none => none) = _
          rw [hx]
          dsimp only
          rw [ho]
        rw [eq1] at q
        refine iteT ⟨_, rfl, _, rfl, l, _, _, _, rfl, rfl, SqL.of hl, at2, t1, _, _, _, rfl, rfl, ht1, at1, ?_⟩
        refine ⟨_, rfl, _, rfl, op, _, rfl, .inr hop, _, rfl, _, _, rfl, rfl, op, _, _, _, rfl, rfl, hop, at3, ?_⟩
        have yes : (o = none ∨ o = some b) → spStepDec K [V.int (dn : Int), V.int ((lf : Int) - 1)] H Q E0 := fun c =>
          ⟨dn, lf - 1, (by rw [em]), fun H' v' s' D' => q H' v' s' (by rw [if_pos c]; exact D')⟩
        cases o with
        | none =>
          refine ⟨_, rfl, rfl, _, rfl, iteT ⟨_, rfl, _, rfl, _, _, rfl, rfl, ?_⟩⟩
          exact yes (.inl rfl)
        | some z =>
          refine ⟨_, rfl, rfl, _, rfl, iteF ⟨_, rfl, _, rfl, rfl, _, rfl, ?_⟩⟩
          by_cases e : z = b
          · subst e
            rw [decide_eq_true (show oV (some z) = V.int z from rfl)]
            refine iteT ⟨_, rfl, _, rfl, _, _, rfl, rfl, ?_⟩
            exact yes (.inr rfl)
          · rw [decide_eq_false (show ¬ oV (some z) = V.int b from fun w => e (V.int.inj w))]
            refine iteF (q H .non (Same.refl _) ?_)
            rw [if_neg (by rintro (w | w); cases w; exact e (Option.some.inj w))]
            exact .non
      · rw [decide_eq_false (show ¬ (0 : Int) < (lf : Int) by omega)]
        obtain rfl : lf = 0 := by omega
        have vp := val_pad is b
        refine iteF ⟨_, rfl, _, rfl, Pd, _, rfl, DGet.k (k := Sum.inl b) hP, _, rfl, ?_⟩
        rw [vp]
        cases hp : padI is b with
        | some x =>
          have eq2 : decB is ps (dn, false, 0) b = some (padDec dn (x.ln - 1)) := by
            unfold decB
            rw [if_neg (show ¬ (false = true) by decide), if_neg (Nat.lt_irrefl 0), hp]
          rw [eq2] at q
          rw [hp] at vp
          have xl := (ok.len x (padI_in hp).1).1
          have g : DGet H Pd (.int b) (some (V.int (x.ln : Int))) := by
            have z := DGet.k (k := Sum.inl b) hP
            rw [vp] at z
            exact z
          refine iteT ⟨_, rfl, _, rfl, _, rfl, Pd, _, rfl, g, _, _, rfl, rfl, dn, x.ln - 1, (by rw [show ((x.ln - 1 : Nat) : Int) = (x.ln : Int) - 1 by omega]; rfl), fun H' v' s' D' => q H' v' s' D'⟩
        | none =>
          have eq3 : decB is ps (dn, false, 0) b = match ps[dn]? with | some x => if (x.1.op : Int) = b then some (stepDec dn x.2.length) else none | none => none := by
            unfold decB
            rw [if_neg (show ¬ (false = true) by decide), if_neg (Nat.lt_irrefl 0), hp]
            all_goals rfl
          rw [eq3] at q
          refine iteF ⟨_, rfl, _, rfl, l, _, rfl, .inl (SqL.of hl), _, _, rfl, rfl, _, rfl, ?_⟩
          by_cases hd : dn < ps.length
          · rw [decide_eq_true (show (dn : Int) < (us.length : Int) by omega)]
            have hx : ps[dn]? = some ps[dn] := List.getElem?_eq_getElem hd
            obtain ⟨u, hu'⟩ : ∃ u, us[dn]? = some u := ⟨us[dn]'(by rw [ul]; exact hd), List.getElem?_eq_getElem _⟩
            obtain ⟨dd, hdd, Dd⟩ := Du.at hu'
            rw [List.getElem?_map, hx] at hdd
            cases hdd
            rw [hx] at q
            dsimp only at q
            generalize ps[dn] = x at *
            obtain ⟨t1, y1, y2, rfl, ht1, D1, D2⟩ := dx_two Dd
            obtain ⟨op, os, rfl, hop, Dop⟩ := dx_tup D2
            have eos := dx_opts Dop
            subst eos
            have ey := dx_int D1
            subst ey
            have at1 : atI [V.int (x.1.op : Int), V.ref op] 1 = some (.ref op) := atI_nat (j := 1) rfl
            have at0 : atI [V.int (x.1.op : Int), V.ref op] 0 = some (.int (x.1.op : Int)) := atI_nat (j := 0) rfl
            have at2 : atI us (dn : Int) = some (.ref t1) := atI_nat hu'
            refine iteT ⟨_, rfl, _, rfl, l, _, _, _, rfl, rfl, SqL.of hl, at2, t1, _, _, _, rfl, rfl, ht1, at0, _, rfl, rfl, _, rfl, ?_⟩
            by_cases e : (x.1.op : Int) = b
            · rw [decide_eq_true (congrArg V.int e)]
              rw [if_pos e] at q
              refine iteT ⟨_, rfl, _, rfl, _, rfl, l, _, _, _, rfl, rfl, SqL.of hl, at2, t1, _, _, _, rfl, rfl, ht1, at1, op, _, rfl, .inr hop, dn, x.2.length, (show [V.int (dn : Int), V.int ((x.2.map oV).length : Int)] = _ by rw [List.length_map]), fun H' v' s' D' => q H' v' s' D'⟩
            · rw [decide_eq_false (fun w => e (V.int.inj w))]
              rw [if_neg e] at q
              exact iteF (q H .non (Same.refl _) .non)
          · rw [decide_eq_false (show ¬ (dn : Int) < (us.length : Int) by omega)]
            rw [List.getElem?_eq_none (by omega)] at q
            exact iteF (q H .non (Same.refl _) .non)
end
end Ov
namespace Ov
open PySem PySem.Spec PyProof.Rows L2
structure MacTxt (K : PySem.W.Frag) (mg : Str → Option Value) (C : Addr) : Prop where
  cl : Cls K C
  nE : NoAttr K C "entries"
  nP : NoAttr K C "padding"
  nT : NoAttr K C "tasks"
  nD : NoAttr K C "ends"
  nB : NoAttr K C "every_byte"
  mgC : mg "StateMachine" = some (.ref C)
def mf1 (E : Addr) : List (Str × V) := putF "entries" (.ref E) []
def mf2 (E Pd : Addr) : List (Str × V) := putF "padding" (.ref Pd) (mf1 E)
def mf3 (E Pd Tk : Addr) : List (Str × V) := putF "tasks" (.ref Tk) (mf2 E Pd)
def mf4 (E Pd Tk D : Addr) : List (Str × V) := putF "ends" (.ref D) (mf3 E Pd Tk)
def mf5 (E Pd Tk D B : Addr) : List (Str × V) := putF "every_byte" (.ref B) (mf4 E Pd Tk D)
section
variable (E Pd Tk D B : Addr)
theorem mf_E : (mf5 E Pd Tk D B).lookup ("entries" : Str) = some (.ref E) := by
  unfold mf5 mf4 mf3 mf2 mf1
  rw [lookup_putF, if_neg (by decide +kernel), lookup_putF, if_neg (by decide +kernel), lookup_putF, if_neg (by decide +kernel), lookup_putF, if_neg (by decide +kernel), lookup_putF, if_pos rfl]
theorem mf_P : (mf5 E Pd Tk D B).lookup ("padding" : Str) = some (.ref Pd) := by
  unfold mf5 mf4 mf3 mf2
  rw [lookup_putF, if_neg (by decide +kernel), lookup_putF, if_neg (by decide +kernel), lookup_putF, if_neg (by decide +kernel), lookup_putF, if_pos rfl]
theorem mf_T : (mf5 E Pd Tk D B).lookup ("tasks" : Str) = some (.ref Tk) := by
  unfold mf5 mf4 mf3
  rw [lookup_putF, if_neg (by decide +kernel), lookup_putF, if_neg (by decide +kernel), lookup_putF, if_pos rfl]
theorem mf_D : (mf5 E Pd Tk D B).lookup ("ends" : Str) = some (.ref D) := by
  unfold mf5 mf4
  rw [lookup_putF, if_neg (by decide +kernel), lookup_putF, if_pos rfl]
theorem mf_B : (mf5 E Pd Tk D B).lookup ("every_byte" : Str) = some (.ref B) := by
  unfold mf5
  rw [lookup_putF, if_pos rfl]
theorem mf_no {m : Str} (h : m ∉ (["entries", "padding", "tasks", "ends", "every_byte"] : List Str)) : (mf5 E Pd Tk D B).lookup m = none := by
  simp only [List.mem_cons, List.not_mem_nil, or_false, not_or] at h
  unfold mf5 mf4 mf3 mf2 mf1
  rw [lookup_putF, if_neg h.2.2.2.2, lookup_putF, if_neg h.2.2.2.1, lookup_putF, if_neg h.2.2.1, lookup_putF, if_neg h.2.1, lookup_putF, if_neg h.1]
  rfl
end
/-- what each decoder is to run: lists of (opcode, operands) -/
def TasksAt (K : PySem.W.Frag) (H : Hp) (tvs : List V) (pss : List (List PStep)) : Prop := tvs.length = pss.length ∧ ∀ (i : Nat) (v : V) (ps : List PStep), tvs[i]? = some v → pss[i]? = some ps → ∃ (l : Addr) (us : List V), v = .ref l ∧ H l = some (.lst us) ∧ DxAll K H us (ps.map taskD)
theorem TasksAt.same {K : PySem.W.Frag} {H H' : Hp} {tvs : List V} {pss : List (List PStep)} (h : TasksAt K H tvs pss) (s : Same H H') : TasksAt K H' tvs pss := ⟨h.1, fun i v ps h1 h2 => by
  obtain ⟨l, us, e, h3, h4⟩ := h.2 i v ps h1 h2
  exact ⟨l, us, e, s _ _ h3, h4.same s⟩⟩
def endD2 (ps : List PStep) : PyData := dstD (ps.length, false, 0)
structure MacAt (K : PySem.W.Frag) (Cm : Addr) (H : Hp) (m : Addr) (cnt : Nat) (is : List I4) (pss : List (List PStep)) (gs : List Nat) : Prop where
  ob : ∃ (dx E Pd Tk D B : Addr) (tvs : List V), H m = some (.ins Cm dx (mf5 E Pd Tk D B)) ∧ SqT K H E (entV gs) ∧ H Pd = some (.dK (padKV is)) ∧ H Tk = some (.lst tvs) ∧ TasksAt K H tvs pss ∧ Dx K H (.ref D) (.tuple (pss.map endD2)) ∧ H B = some (.lst ((List.range cnt).map natV))
theorem MacAt.same {K : PySem.W.Frag} {Cm : Addr} {H H' : Hp} {m : Addr} {cnt : Nat} {is : List I4} {pss : List (List PStep)} {gs : List Nat} (h : MacAt K Cm H m cnt is pss gs) (s : Same H H') : MacAt K Cm H' m cnt is pss gs := by
  obtain ⟨dx, E, Pd, Tk, D, B, tvs, h1, h2, h3, h4, h5, h6, h7⟩ := h.ob
  exact ⟨dx, E, Pd, Tk, D, B, tvs, s _ _ h1, s.tup h2, s _ _ h3, s _ _ h4, h5.same s, h6.same s, s _ _ h7⟩
section
variable {K : PySem.W.Frag} {m : Addr} {H H' : Hp} {C dx : Addr} {fs : List (Str × V)}
theorem sqT_but (hm : H m = some (.ins C dx fs)) (b : But m H H') {a : Addr} {xs : List V} (h : SqT K H a xs) : SqT K H' a xs := by
  rcases h with (h | ⟨o, h⟩) | h
  · exact .inl (.inl (b _ _ h fun z => by rw [z, hm] at h; cases h))
  · exact .inl (.inr ⟨o, b _ _ h fun z => by rw [z, hm] at h; cases h⟩)
  · exact .inr h
mutual
theorem Dx.butI (hm : H m = some (.ins C dx fs)) (b : But m H H') : ∀ {v : V} {d : PyData}, Dx K H v d → Dx K H' v d
  | _, _, .non => .non
  | _, _, .bl b => .bl b
  | _, _, .int i => .int i
  | _, _, .str x => .str x
  | _, _, .dct h => .dct (b _ _ h fun z => by rw [z, hm] at h; cases h)
  | _, _, .lst h a => .lst (by
      rcases h with (h | ⟨o, h⟩) | h
      · exact .inl (.inl (b _ _ h fun z => by rw [z, hm] at h; cases h))
      · exact .inl (.inr ⟨o, b _ _ h fun z => by rw [z, hm] at h; cases h⟩)
      · exact .inr h) (DxAll.butI hm b a)
  | _, _, .tup h a => .tup (sqT_but hm b h) (DxAll.butI hm b a)
theorem DxAll.butI (hm : H m = some (.ins C dx fs)) (b : But m H H') : ∀ {vs : List V} {ds : List PyData}, DxAll K H vs ds → DxAll K H' vs ds
  | _, _, .nil => .nil
  | _, _, .cons h a => .cons (Dx.butI hm b h) (DxAll.butI hm b a)
end
theorem But.updI (o : HO) : But m H (upd H m o) := fun b x e n => by rw [upd_ne n]; exact e
end
section
variable {P : Program} {w : World} {K : PySem.W.Frag} {mg : Str → Option Value} {base : Heap}
abbrev sStateMachine_init : Stmt := inClass cStateMachine 0
def spInitM (K : PySem.W.Frag) (C Cm : Addr) : Sp := fun vs H Q _ => ∃ (m p l g dx it : Addr) (cnt lg : Nat) (is : List I4) (rs : List Addr) (xs : List V) (pss : List (List PStep)) (gs : List Nat), vs = [.ref m, .ref p, .ref l, .ref g] ∧ H m = some (.ins Cm dx []) ∧ Mach C H p cnt lg it is rs ∧ SqT K H l xs ∧ DxAll K H xs (pss.map planD) ∧ Plns cnt is pss ∧ SqT K H g (entV gs) ∧
  ∀ H', MacAt K Cm H' m cnt is pss gs → (∀ b o, H b = some o → b ≠ m → H' b = some o) → Q .non H'
abbrev nInitM : List Str := ["self", "instruction_set", "programs", "entries", "program"]
theorem scInitM : FnScope nInitM ["self", "instruction_set", "programs", "entries"] (defScope sStateMachine_init) := ⟨rfl, rfl, rfl, by decide +kernel, rfl, by decide +kernel, by decide +kernel⟩
theorem ok_initM {f C Cm fOpcodeSteps fPaddingByOpcode : Addr} {fd fdOpcodeSteps fdPaddingByOpcode : FuncData} {k : Nat} (F : Fun K "__init__" "StateMachine.__init__" sStateMachine_init f fd) (T : Bi mg) (S : SetTxt K mg C) (Sm : MacTxt K mg Cm) (OpcodeSteps : Def K mg "opcode_steps" s_opcode_steps fOpcodeSteps fdOpcodeSteps ["instruction_set", "program"]) (GOpcodeSteps : FnOk P w K mg base CX0 k fOpcodeSteps fdOpcodeSteps ["instruction_set", "program"] (spOpSteps K C)) (PaddingByOpcode : Def K mg "padding_by_opcode" s_padding_by_opcode fPaddingByOpcode fdPaddingByOpcode ["instruction_set"]) (GPaddingByOpcode : FnOk P w K mg base CX0 k fPaddingByOpcode fdPaddingByOpcode ["instruction_set"] (spPadBy C)) :
    FnOk P w K mg base CX0 (k + 1) f fd ["self", "instruction_set", "programs", "entries"] (spInitM K C Cm) := by
  refine F.ok scInitM (fun vs H Q E h => ?_) (fun cdv A' outer s H vs Q E hr h => ?_)
  · obtain ⟨m, p, l, g, dx, it, cnt, lg, is, rs, xs, pss, gs, rfl, _⟩ := h
    rfl
  · obtain ⟨m, p, l, g, dx, it, cnt, lg, is, rs, xs, pss, gs, rfl, hm, M, hl, Dl, ok, hg, q⟩ := h
    refine ⟨_, pss_cons (ps_fld (pv 0) (pv 3) rfl)
      (pss_cons (ps_fld (pv 0) (pe_call GPaddingByOpcode hr (by rfl) PaddingByOpcode.gl PaddingByOpcode.fn.kp PaddingByOpcode.bi .nil pass0 (pa_cons (pv 1) pa_nil)) rfl)
      (pss_cons (ps_fld (pv 0) (pe_lc (own := [("program", 4)]) (g := (gName 4)) (tt := tYes) (by rfl) scInitM.nd (pi_tup (pv 2)) (blkOk_by (own := [("program", 4)]) (N := nInitM) (sc := defScope sStateMachine_init) (by decide +kernel)) (fun _ _ _ _ _ => (pg_name (i := 4) scInitM.nd rfl (Or.inl rfl))) (fun _ _ _ _ _ => pts_nil) (fun _ _ _ _ _ => (pe_call GOpcodeSteps hr (by rfl) OpcodeSteps.gl OpcodeSteps.fn.kp OpcodeSteps.bi .nil pass0 (pa_cons (pv 1) (pa_cons (pv 4) pa_nil))))) rfl)
      (pss_cons (ps_fld (pv 0) (pe_callTy call_tuple_of (by rfl) T.tuple (by decide +kernel) (pa_cons (pe_lc (own := [("program", 4)]) (g := (gName 4)) (tt := tYes) (by rfl) scInitM.nd (pi_tup (pv 2)) (blkOk_by (own := [("program", 4)]) (N := nInitM) (sc := defScope sStateMachine_init) (by decide +kernel)) (fun _ _ _ _ _ => (pg_name (i := 4) scInitM.nd rfl (Or.inl rfl))) (fun _ _ _ _ _ => pts_nil) (fun _ _ _ _ _ => (pe_tup (pa_cons (pe_callB (r := rLen K) cr_len (by rfl) T.len PySem.boot_len (pa_cons (pv 4) pa_nil)) (pa_cons pe_bl (pa_cons pe_int pa_nil)))))) pa_nil)) rfl)
      (pss_one (ps_fld (pv 0) (pe_listRange (by rfl) T.list (by rfl) T.range (pe_fld (pv 1) rfl)) rfl))))), ?_⟩
    have xl : xs.length = pss.length := by rw [Dl.len, List.length_map]
    have few := ok.few
    obtain ⟨px, p1, p2, hp, hp1, hp2⟩ := M.at_.ob
    have pm : p ≠ m := fun z => by rw [z, hm] at hp; cases hp
    -- entries
    refine ⟨_, rfl, _, rfl, m, Cm, dx, [], rfl, hm, Sm.cl, Sm.nE, (by show 0 < 1000; decide), ?_⟩
    have b1 : But m H (upd H m (.ins Cm dx (mf1 g))) := But.updI _
    have m1 : upd H m (.ins Cm dx (mf1 g)) m = some (.ins Cm dx (mf1 g)) := upd_same
    show tSeq _ _ _ _ (upd H m (.ins Cm dx (mf1 g)))
    generalize upd H m (.ins Cm dx (mf1 g)) = H1 at *
    have machB : ∀ {G : Hp}, But m H G → Mach C G p cnt lg it is rs := fun {G} b => ⟨⟨px, p1, p2, b _ _ hp pm, b _ _ hp1 (fun z => by rw [z, hm] at hp1; cases hp1), b _ _ hp2 (fun z => by rw [z, hm] at hp2; cases hp2)⟩, b _ _ M.its (fun z => by have h := M.its; rw [z, hm] at h; cases h), ⟨M.rows.1, fun i r x h1 h2 => b _ _ (M.rows.2 i r x h1 h2) fun z => by have h := M.rows.2 i r x h1 h2; rw [z, hm] at h; cases h⟩, M.ok⟩
    -- padding
    refine ⟨_, rfl, p, it, cnt, lg, is, rs, rfl, machB b1, fun H2 Pd s2 nPd hPd => ?_⟩
    have m2 := s2 _ _ m1
    have b2 := b1.trans (But.of s2)
    have Pm : Pd ≠ m := fun z => by rw [z, m2] at hPd; cases hPd
    refine ⟨_, rfl, m, Cm, dx, _, rfl, m2, Sm.cl, Sm.nP, (by show 1 < 1000; decide), ?_⟩
    have b3 := b2.trans (But.updI (.ins Cm dx (mf2 g Pd)))
    have b23 : But m H2 (upd H2 m (.ins Cm dx (mf2 g Pd))) := But.updI _
    have m3 : upd H2 m (.ins Cm dx (mf2 g Pd)) m = some (.ins Cm dx (mf2 g Pd)) := upd_same
    show tSeq _ _ _ _ (upd H2 m (.ins Cm dx (mf2 g Pd)))
    generalize upd H2 m (.ins Cm dx (mf2 g Pd)) = H3 at *
    have hPd3 := b23 _ _ hPd Pm
    have hl3 := sqT_but hm b3 hl
    have Dl3 := Dl.butI hm b3
    -- tasks
    refine ⟨_, rfl, l, rfl, ⟨_, hl3⟩, fun L nL => lc_tup (K := K) (a := l) (xs := xs) (fun i G => ∃ T' tvs, Same H3 G ∧ Same H3 T' ∧ Same T' G ∧ T' L = none ∧ G L = some (.lst tvs) ∧ TasksAt K T' tvs (pss.take i)) ⟨H3, [], same_upd nL, Same.refl _, same_upd nL, nL, upd_same, rfl, fun i v ps h => by simp at h⟩ (fun i G _ ⟨T', tvs, sG, _⟩ => sG.tup hl3) ?_ ?_⟩
    · rintro i y G hy ⟨T', tvs, sG, st, tg, tL, hL, TA⟩
      obtain ⟨d, hd, Dy⟩ := Dl3.at hy
      rw [List.getElem?_map] at hd
      obtain ⟨ps, hps, rfl⟩ := Option.map_eq_some_iff.mp hd
      have il := (List.getElem?_eq_some_iff.mp hps).1
      obtain ⟨l12, sok⟩ := ok.ok ps (List.mem_of_getElem? hps)
      refine ⟨rfl, _, rfl, _, rfl, p, it, cnt, lg, is, rs, y, ps, T', rfl, machB (b3.trans (But.of sG)), tg, Dy.same st, l12, sok, fun H' T2 u us g2 nu hu Du nuG => ?_⟩
      have uL : u ≠ L := fun z => by rw [z, hL] at nuG; cases nuG
      have s3 : Same T2 (upd T2 u (.lst us)) := same_upd nu
      have tvl : tvs.length = i := by rw [TA.1, List.length_take]; omega
      refine ⟨tvs, g2.hh _ _ hL, by rw [sizeLine_eq]; omega, upd T2 u (.lst us), tvs ++ [.ref u], fun b o e => ?_, st.trans (g2.tt.trans s3), fun b o e => ?_, ?_, upd_same, ?_⟩
      · rw [upd_ne (ne_of_none e nL)]; exact g2.hh _ _ (sG _ _ e)
      · by_cases z : b = u
        · subst z
          rw [upd_same] at e
          cases e
          rw [upd_ne uL]
          exact hu
        · rw [upd_ne z] at e
          rw [upd_ne (fun w => by rw [w, g2.new L tL (by rw [hL]; exact fun z => nomatch z)] at e; cases e)]
          exact g2.th _ _ e
      · rw [upd_ne (Ne.symm uL)]
        exact g2.new L tL (by rw [hL]; exact fun z => nomatch z)
      · rw [take_more hps]
        refine ⟨by rw [List.length_append, List.length_append, TA.1]; rfl, fun j v ps' h1 h2 => ?_⟩
        rw [List.getElem?_append] at h1 h2
        have lt : (pss.take i).length = i := by rw [List.length_take]; omega
        rw [lt] at h2
        rw [tvl] at h1
        by_cases hj : j < i
        · rw [if_pos hj] at h1 h2
          obtain ⟨l', us', e1, e2, e3⟩ := (TA.same (g2.tt.trans s3)).2 j v ps' h1 h2
          exact ⟨l', us', e1, e2, e3⟩
        · rw [if_neg hj] at h1 h2
          have j0 : j - i = 0 := by
            cases hji : j - i with
            | zero => rfl
            | succ k => rw [hji] at h1; simp at h1
          rw [j0] at h1 h2
          cases h1
          cases h2
          exact ⟨u, us, rfl, upd_same, Du.same s3⟩
    rintro H4 ⟨T4, tvs, s34, st4, t4, tL, hTk, TA⟩
    rw [xl, List.take_length] at TA
    have TA := TA.same t4
    have m4 := s34 _ _ m3
    have b4 := b3.trans (But.of s34)
    have Tm : L ≠ m := fun z => by rw [z, m4] at hTk; cases hTk
    refine ⟨_, rfl, m, Cm, dx, _, rfl, m4, Sm.cl, Sm.nT, (by show 2 < 1000; decide), ?_⟩
    have b5 := b4.trans (But.updI (.ins Cm dx (mf3 g Pd L)))
    have b45 : But m H4 (upd H4 m (.ins Cm dx (mf3 g Pd L))) := But.updI _
    have m5 : upd H4 m (.ins Cm dx (mf3 g Pd L)) m = some (.ins Cm dx (mf3 g Pd L)) := upd_same
    show tSeq _ _ _ _ (upd H4 m (.ins Cm dx (mf3 g Pd L)))
    generalize upd H4 m (.ins Cm dx (mf3 g Pd L)) = H5 at *
    have tab : ∀ {G : Hp}, But m H4 G → TasksAt K G tvs pss := fun {G} b => ⟨TA.1, fun i v ps h1 h2 => by
      obtain ⟨l', us', e1, e2, e3⟩ := TA.2 i v ps h1 h2
      exact ⟨l', us', e1, b _ _ e2 (fun z => by rw [z, m4] at e2; cases e2), e3.butI m4 b⟩⟩
    have hl5 := sqT_but hm b5 hl
    have Dl5 := Dl.butI hm b5
    -- ends
    refine ⟨_, rfl, l, rfl, ⟨_, hl5⟩, fun L2 nL2 => lc_tup (K := K) (a := l) (xs := xs) (fun i G => ∃ T' us, Same H5 T' ∧ Coll K T' G L2 us ((pss.take i).map endD2)) ⟨H5, [], Same.refl _, ⟨same_upd nL2, nL2, upd_same, .nil⟩⟩ (fun i G _ ⟨T', us, st, c⟩ => (st.trans c.th).tup hl5) ?_ ?_⟩
    · rintro i y G hy ⟨T', us, st, c⟩
      obtain ⟨d, hd, Dy⟩ := Dl5.at hy
      rw [List.getElem?_map] at hd
      obtain ⟨ps, hps, rfl⟩ := Option.map_eq_some_iff.mp hd
      have il := (List.getElem?_eq_some_iff.mp hps).1
      obtain ⟨a, zs, rfl, ha, DA⟩ := dx_tup (Dy.same (st.trans c.th))
      have zl : zs.length = ps.length := by rw [DA.len, List.length_map]
      refine ⟨rfl, _, rfl, a, _, rfl, .inr ha, by show 3 ≤ sizeLine; decide, fun u nu => ?_⟩
      have g2 := (Grow.refl c.th).put (HO.tup [V.int (zs.length : Int), V.bl false, V.int 0]) nu
      have c2 := c.grow g2
      refine ⟨us, c2.at_, by rw [c.all.len, List.length_map, List.length_take, sizeLine_eq]; omega, _, us ++ [.ref u], st.trans g2.tt, ?_⟩
      rw [take_more hps, List.map_append]
      refine c2.push (dx_dst (d := (ps.length, false, 0)) ?_)
      have z := SqT.of (K := K) (@upd_same T' u (HO.tup [V.int (zs.length : Int), V.bl false, V.int 0]))
      rw [zl] at z ⊢
      exact z
    rintro H6 ⟨T6, us, st6, c6⟩
    rw [xl, List.take_length] at c6
    refine ⟨L2, _, rfl, .inl ⟨SqL.of c6.at_, fun D nD => ?_⟩⟩
    have s7 : Same H5 (upd H6 D (.tup us)) := (st6.trans c6.th).trans (same_upd nD)
    have hD7 : Dx K (upd H6 D (.tup us)) (.ref D) (.tuple (pss.map endD2)) := .tup (SqT.of upd_same) (c6.all.same (c6.th.trans (same_upd nD)))
    generalize upd H6 D (.tup us) = H7 at *
    have m7 := s7 _ _ m5
    have b7 := b5.trans (But.of s7)
    refine ⟨_, rfl, m, Cm, dx, _, rfl, m7, Sm.cl, Sm.nD, (by show 3 < 1000; decide), ?_⟩
    have b8 := b7.trans (But.updI (.ins Cm dx (mf4 g Pd L D)))
    have b78 : But m H7 (upd H7 m (.ins Cm dx (mf4 g Pd L D))) := But.updI _
    have m8 : upd H7 m (.ins Cm dx (mf4 g Pd L D)) m = some (.ins Cm dx (mf4 g Pd L D)) := upd_same
    show Ends.nx _ _ (upd H7 m (.ins Cm dx (mf4 g Pd L D)))
    generalize upd H7 m (.ins Cm dx (mf4 g Pd L D)) = H8 at *
    -- every byte
    have M8 := machB b8
    obtain ⟨px', q1, q2, hp8, _⟩ := M8.at_.ob
    have cb := M.ok.cb
    refine ⟨_, rfl, p, C, px', _, _, rfl, hp8, S.cl, S.nB, flds_cnt _ _ _ _, cnt, rfl, by omega, fun B nB => ?_⟩
    have s9 := same_upd (o := HO.lst ((List.range cnt).map fun i : Nat => V.int (i : Int))) nB
    have hB : upd H8 B (HO.lst ((List.range cnt).map fun i : Nat => V.int (i : Int))) B = some (.lst ((List.range cnt).map natV)) := upd_same
    generalize upd H8 B (HO.lst ((List.range cnt).map fun i : Nat => V.int (i : Int))) = H9 at *
    have m9 := s9 _ _ m8
    refine ⟨_, rfl, m, Cm, dx, _, rfl, m9, Sm.cl, Sm.nB, (by show 4 < 1000; decide), ?_⟩
    have b10 := (b8.trans (But.of s9)).trans (But.updI (.ins Cm dx (mf5 g Pd L D B)))
    have b9 : But m H9 (upd H9 m (.ins Cm dx (mf5 g Pd L D B))) := But.updI _
    have Bm : B ≠ m := fun z => by rw [z, m9] at hB; cases hB
    refine q (upd H9 m (.ins Cm dx (mf5 g Pd L D B))) ⟨dx, g, Pd, L, D, B, tvs, upd_same, sqT_but hm b10 hg, ?_, ?_, tab ?_, ?_, b9 _ _ hB Bm⟩ b10
    · exact b9 _ _ (s9 _ _ (b78 _ _ (s7 _ _ (b45 _ _ (s34 _ _ hPd3) Pm)) Pm)) Pm
    · exact b9 _ _ (s9 _ _ (b78 _ _ (s7 _ _ (b45 _ _ hTk Tm)) Tm)) Tm
    · exact ((((b45.trans (But.of s7)).trans b78).trans (But.of s9)).trans b9)
    · exact ((hD7.butI m7 b78).same s9).butI m9 b9
end
end Ov
namespace Ov
open PySem PySem.Spec PyProof.Rows L2
def first0 (gs : List Nat) : Sta := (0, gs.map fun g => if g = 0 then some (0, false, 0) else none)
def movB (is : List I4) (r : Nat) (b : Int) (q : Option Dst × Nat × List PStep) : Option (Option Dst) := match q.1 with
  | some d => (decB is q.2.2 d b).map some
  | none => some (if q.2.1 = r then some (0, false, 0) else none)
def movs (is : List I4) (r : Nat) (b : Int) (zs : List (Option Dst × Nat × List PStep)) : Option (List (Option Dst)) := zs.foldlM (fun acc q => (movB is r b q).map fun x => acc ++ [x]) []
theorem movs_more {is : List I4} {r : Nat} {b : Int} (zs : List (Option Dst × Nat × List PStep)) (q : Option Dst × Nat × List PStep) : movs is r b (zs ++ [q]) = (movs is r b zs).bind fun acc => (movB is r b q).map fun x => acc ++ [x] := by
  unfold movs
  rw [List.foldlM_append]
  show (List.foldlM _ [] zs >>= fun acc => List.foldlM _ acc [q]) = _
  congr 1
  funext acc
  simp [List.foldlM]
theorem movs_none {is : List I4} {r : Nat} {b : Int} {zs : List (Option Dst × Nat × List PStep)} : ∀ (ws : List (Option Dst × Nat × List PStep)), movs is r b zs = none → movs is r b (zs ++ ws) = none
  | [], h => by rw [List.append_nil]; exact h
  | w :: ws, h => by
    rw [show zs ++ w :: ws = (zs ++ [w]) ++ ws by simp]
    exact movs_none ws (by rw [movs_more, h]; rfl)
def zips (s : Sta) (gs : List Nat) (pss : List (List PStep)) : List (Option Dst × Nat × List PStep) := s.2.zip (gs.zip pss)
def lastG (gs : List Nat) : Nat := gs.getLast?.getD 0
def behind (is : List I4) (pss : List (List PStep)) (gs : List Nat) (s : Sta) (b : Int) : Option Sta := (movs is (min (s.1 + 1) (lastG gs)) b (zips s gs pss)).map fun ds => (min (s.1 + 1) (lastG gs), ds)
def ostD : Option Sta → PyData
  | none => .none
  | some s => stD s
/-- a state that can be -/
structure StaOk (pss : List (List PStep)) (gs : List Nat) (s : Sta) : Prop where
  len : s.2.length = pss.length
  dec : ∀ (i : Nat) (d : Dst) (ps : List PStep), s.2[i]? = some (some d) → pss[i]? = some ps → DecOk ps d
  few : s.1 ≤ 1000
theorem dx_st {K : PySem.W.Frag} {H : Hp} {v : V} {s : Sta} (h : Dx K H v (stD s)) : ∃ a b xs, v = .ref a ∧ SqT K H a [.int (s.1 : Int), .ref b] ∧ SqT K H b xs ∧ DxAll K H xs (s.2.map odD) := by
  obtain ⟨a, x, y, rfl, h1, D1, D2⟩ := dx_two h
  obtain ⟨b, xs, rfl, h2, DA⟩ := dx_tup D2
  rw [dx_int D1] at h1
  exact ⟨a, b, xs, rfl, h1, h2, DA⟩
section
variable {P : Program} {w : World} {K : PySem.W.Frag} {mg : Str → Option Value} {base : Heap}
abbrev sStateMachine_first_state : Stmt := inClass cStateMachine 1
abbrev sStateMachine_state_behind : Stmt := inClass cStateMachine 3
def spFirst (K : PySem.W.Frag) (Cm : Addr) : Sp := fun vs H Q _ => ∃ (m : Addr) (cnt : Nat) (is : List I4) (pss : List (List PStep)) (gs : List Nat), vs = [.ref m] ∧ MacAt K Cm H m cnt is pss gs ∧ gs.length ≤ 13 ∧ ∀ H' v, Same H H' → Dx K H' v (stD (first0 gs)) → Q v H'
abbrev nFirstM : List Str := ["self", "entry"]
theorem scFirstM : FnScope nFirstM ["self"] (defScope sStateMachine_first_state) := ⟨rfl, rfl, rfl, by decide +kernel, rfl, by decide +kernel, by decide +kernel⟩
theorem ok_firstM {f Cm : Addr} {fd : FuncData} {k : Nat} (F : Fun K "first_state" "StateMachine.first_state" sStateMachine_first_state f fd) (T : Bi mg) (Sm : MacTxt K mg Cm) :
    FnOk P w K mg base CX0 (k + 1) f fd ["self"] (spFirst K Cm) := by
  refine F.ok scFirstM (fun vs H Q E h => ?_) (fun cdv A' outer s H vs Q E hr h => ?_)
  · obtain ⟨m, cnt, is, pss, gs, rfl, _⟩ := h
    rfl
  · obtain ⟨m, cnt, is, pss, gs, rfl, MA, few, q⟩ := h
    refine ⟨_, pss_one (ps_ret (pe_tup (pa_cons pe_int (pa_cons (pe_callTy call_tuple_of (by rfl) T.tuple (by decide +kernel) (pa_cons (pe_lc (own := [("entry", 1)]) (g := (gName 1)) (tt := tYes) (by rfl) scFirstM.nd (pi_tup (pe_fld (pv 0) rfl)) (blkOk_by (own := [("entry", 1)]) (N := nFirstM) (sc := defScope sStateMachine_first_state) (by decide +kernel)) (fun _ _ _ _ _ => (pg_name (i := 1) scFirstM.nd rfl (Or.inl rfl))) (fun _ _ _ _ _ => pts_nil) (fun _ _ _ _ _ => (pe_ifExp (pt_cmpR op_eq (pv 1) pe_int (nomark _)) (pe_tup (pa_cons pe_int (pa_cons pe_bl (pa_cons pe_int pa_nil)))) pe_non))) pa_nil)) pa_nil)))), ?_⟩
    obtain ⟨dx, E, Pd, Tk, D, B, tvs, hm, hE, _⟩ := MA.ob
    refine ⟨_, rfl, m, Cm, dx, _, _, rfl, hm, Sm.cl, Sm.nE, mf_E _ _ _ _ _, E, rfl, ⟨_, hE⟩, fun L nL => lc_tup (K := K) (a := E) (xs := entV gs) (fun i G => ∃ T' us, Same H T' ∧ Coll K T' G L us (((gs.take i).map fun g => if g = 0 then some (0, false, 0) else none).map odD)) ⟨H, [], Same.refl _, ⟨same_upd nL, nL, upd_same, .nil⟩⟩ (fun i G _ ⟨T', us, st, c⟩ => (st.trans c.th).tup hE) ?_ ?_⟩
    · rintro i y G hy ⟨T', us, st, c⟩
      rw [List.getElem?_map, List.getElem?_map] at hy
      obtain ⟨z, hz, rfl⟩ := Option.map_eq_some_iff.mp hy
      obtain ⟨g, hg, rfl⟩ := Option.map_eq_some_iff.mp hz
      have il := (List.getElem?_eq_some_iff.mp hg).1
      have sz : us.length < sizeLine := by rw [c.all.len, List.length_map, List.length_map, List.length_take, sizeLine_eq]; omega
      refine ⟨rfl, _, rfl, rfl, _, rfl, ?_⟩
      rw [take_more hg, List.map_append, List.map_append]
      by_cases g0 : g = 0
      · subst g0
        rw [decide_eq_true (show V.int ((0 : Nat) : Int) = V.int 0 from rfl)]
        refine iteT ⟨by show 3 ≤ sizeLine; decide, fun u nu => ?_⟩
        have g2 := (Grow.refl c.th).put (HO.tup [V.int 0, V.bl false, V.int 0]) nu
        have c2 := c.grow g2
        exact ⟨us, c2.at_, sz, _, us ++ [.ref u], st.trans g2.tt, c2.push (dx_dst (d := (0, false, 0)) (SqT.of upd_same))⟩
      · rw [decide_eq_false (show ¬ V.int (g : Int) = V.int 0 from fun z => g0 (by have := V.int.inj z; omega))]
        refine iteF ⟨us, c.at_, sz, T', us ++ [.non], st, ?_⟩
        have e : ([g].map fun g => if g = 0 then some ((0, false, 0) : Dst) else none).map odD = [.none] := by
          show [odD (if g = 0 then some (0, false, 0) else none)] = _
          rw [if_neg g0]
          rfl
        rw [e]
        exact c.push .non
    · rintro G ⟨T', us, st, c⟩
      rw [List.length_map, List.length_map, List.take_length] at c
      refine ⟨L, _, rfl, .inl ⟨SqL.of c.at_, fun r nr => ⟨by show 2 ≤ sizeLine; decide, fun u nu => ?_⟩⟩⟩
      have s1 := same_upd (o := HO.tup us) nr
      have s2 := same_upd (o := HO.tup [V.int 0, V.ref r]) nu
      refine q _ _ ((st.trans c.th).trans (s1.trans s2)) (.tup (SqT.of upd_same) (.cons (.int _) (.cons (.tup (SqT.of (s2 _ _ upd_same)) ?_) .nil)))
      exact c.all.same (c.th.trans (s1.trans s2))
def spBehindM (K : PySem.W.Frag) (Cm : Addr) : Sp := fun vs H Q _ => ∃ (m : Addr) (cnt lg : Nat) (is : List I4) (pss : List (List PStep)) (gs : List Nat) (v : V) (s : Sta) (b : Int), vs = [.ref m, v, .int b] ∧ MacAt K Cm H m cnt is pss gs ∧ TabOk cnt lg is ∧ Plns cnt is pss ∧ gs ≠ [] ∧ gs.length = pss.length ∧ Dx K H v (stD s) ∧ StaOk pss gs s ∧
  ∀ H' v', Same H H' → Dx K H' v' (ostD (behind is pss gs s b)) → Q v' H'
abbrev nBehindM : List Str := ["self", "state", "byte", "offset", "decoders", "reached", "moved", "decoder", "entry", "steps", "behind"]
theorem scBehindM : FnScope nBehindM ["self", "state", "byte"] (defScope sStateMachine_state_behind) := ⟨rfl, rfl, rfl, by decide +kernel, rfl, by decide +kernel, by decide +kernel⟩
theorem ok_behindM {f Cm fDecoderBehind : Addr} {fd fdDecoderBehind : FuncData} {k : Nat} (F : Fun K "state_behind" "StateMachine.state_behind" sStateMachine_state_behind f fd) (T : Bi mg) (Sm : MacTxt K mg Cm) (DecoderBehind : Def K mg "decoder_behind" s_decoder_behind fDecoderBehind fdDecoderBehind ["padding", "steps", "decoder", "byte"]) (GDecoderBehind : FnOk P w K mg base CX0 k fDecoderBehind fdDecoderBehind ["padding", "steps", "decoder", "byte"] (spDecB K)) :
    FnOk P w K mg base CX0 (k + 1) f fd ["self", "state", "byte"] (spBehindM K Cm) := by
  refine F.ok scBehindM (fun vs H Q E h => ?_) (fun cdv A' outer s H vs Q E hr h => ?_)
  · obtain ⟨m, cnt, lg, is, pss, gs, v, s, b, rfl, _⟩ := h
    rfl
  · obtain ⟨m, cnt, lg, is, pss, gs, v, s, b, rfl, MA, ok, pl, gne, lgp, Dv, sok, q⟩ := h
    refine ⟨_, pss_cons (ps_asg (pv 1) (pg_tup rfl (pgs_cons (pg_name (i := 3) scBehindM.nd rfl (.inl rfl)) (pgs_cons (pg_name (i := 4) scBehindM.nd rfl (.inl rfl)) pgs_nil))))
      (pss_cons (ps_set (i := 5) scBehindM.nd rfl (.inl rfl) (pe_callB (call_min2 rfl) (by rfl) T.min (by decide +kernel) (pa_cons (pe_op op_add (pv 3) pe_int) (pa_cons (pe_ix ix_tup (pe_fld (pv 0) rfl) (pe_un un_neg pe_int) (fun _ _ => rfl)) pa_nil))))
      (pss_cons (ps_set (i := 6) scBehindM.nd rfl (.inl rfl) (pe_lst pa_nil))
      (pss_cons (ps_for PassesOwn.never rfl (Zq.pi_zip3 (by rfl) T.zip (pa_cons (pv 4) (pa_cons (pe_fld (pv 0) rfl) (pa_cons (pe_fld (pv 0) rfl) pa_nil)))) (pg_tup rfl (pgs_cons (pg_name (i := 7) scBehindM.nd rfl (.inl rfl)) (pgs_cons (pg_name (i := 8) scBehindM.nd rfl (.inl rfl)) (pgs_cons (pg_name (i := 9) scBehindM.nd rfl (.inl rfl)) pgs_nil)))) (pss_one (ps_if (pt_cmpR op_notN (pv 7) pe_non (nomark _)) (pss_cons (ps_set (i := 10) scBehindM.nd rfl (.inl rfl) (pe_call GDecoderBehind hr (by rfl) DecoderBehind.gl DecoderBehind.fn.kp DecoderBehind.bi .nil pass0 (pa_cons (pe_fld (pv 0) rfl) (pa_cons (pv 9) (pa_cons (pv 7) (pa_cons (pv 2) pa_nil))))))
      (pss_cons (ps_if (pt_cmpR op_isN (pv 10) pe_non (nomark _)) (pss_one (ps_ret pe_non)) pss_nil)
      (pss_one (ps_expr (pe_bm PySem.F.plainAttrs_list PySem.F.slot_list_append PySem.F.type_list_append mt_append (pv 6) (pa_cons (pv 10) pa_nil)))))) (pss_one (ps_expr (pe_bm PySem.F.plainAttrs_list PySem.F.slot_list_append PySem.F.type_list_append mt_append (pv 6) (pa_cons (pe_ifExp (pt_cmpR op_eq (pv 8) (pv 5) (nomark _)) (pe_tup (pa_cons pe_int (pa_cons pe_bl (pa_cons pe_int pa_nil)))) pe_non) pa_nil)))))))
      (pss_one (ps_ret (pe_tup (pa_cons (pv 5) (pa_cons (pe_callTy call_tuple_of (by rfl) T.tuple (by decide +kernel) (pa_cons (pv 6) pa_nil)) pa_nil)))))))), ?_⟩
    obtain ⟨dx, E, Pd, Tk, D, B, tvs, hm, hE, hPd, hTk, TA, _⟩ := MA.ob
    obtain ⟨a, c, xs, rfl, ha, hc, DA⟩ := dx_st Dv
    have l3 := pl.few
    have sl := sok.len
    have sf := sok.few
    have xl : xs.length = pss.length := by rw [DA.len, List.length_map, sl]
    obtain ⟨gr, z, eg⟩ : ∃ (gr : List Nat) (z : Nat), gs = gr ++ [z] := by
      rcases List.eq_nil_or_concat gs with e0 | ⟨gr, z, e0⟩
      · exact absurd e0 gne
      · exact ⟨gr, z, by rw [e0, List.concat_eq_append]⟩
    have ez : lastG gs = z := by rw [eg]; unfold lastG; simp
    have hEz : atI (entV gs) (-1) = some (V.int (z : Int)) := by
      have e : entV gs = entV gr ++ [V.int (z : Int)] := by
        rw [eg]
        show ((gr ++ [z]).map fun n : Nat => (n : Int)).map V.int = _
        rw [List.map_append, List.map_append]
        rfl
      rw [e]
      exact atI_last _ _
    refine ⟨_, rfl, a, _, rfl, ha, rfl, _, _, rfl, _, _, rfl, rfl, ?_⟩
    refine ⟨_, rfl, _, _, rfl, rfl, _, rfl, m, Cm, dx, _, _, rfl, hm, Sm.cl, Sm.nE, mf_E _ _ _ _ _, _, rfl, E, _, _, _, rfl, rfl, hE, hEz, _, _, rfl, ?_⟩
    have er : (if (z : Int) < (s.1 : Int) + 1 then (z : Int) else (s.1 : Int) + 1) = ((min (s.1 + 1) (lastG gs) : Nat) : Int) := by
      rw [ez]
      split <;> omega
    show tSeq _ _ _ [some (V.ref m), some (V.ref a), some (V.int b), some (V.int (s.1 : Int)), some (V.ref c), some (V.int (if (z : Int) < (s.1 : Int) + 1 then (z : Int) else (s.1 : Int) + 1)), none, none, none, none, none] H
    rw [er]
    unfold behind at q
    generalize hr' : min (s.1 + 1) (lastG gs) = r at *
    have r1 : r ≤ 1001 := by omega
    refine ⟨Nat.zero_le _, fun L nL => ?_⟩
    have zl : (zips s gs pss).length = xs.length := by unfold zips; rw [List.length_zip, List.length_zip, lgp, sl, xl]; omega
    refine ⟨_, rfl, _, rfl, m, Cm, dx, _, _, rfl, (same_upd nL) _ _ hm, Sm.cl, Sm.nE, mf_E _ _ _ _ _, _, rfl, m, Cm, dx, _, _, rfl, (same_upd nL) _ _ hm, Sm.cl, Sm.nT, mf_T _ _ _ _ _, c, E, Tk, xs, entV gs, tvs, rfl, (same_upd nL).tup hc, (same_upd nL).tup hE, SqL.of ((same_upd nL) _ _ hTk),
      for_it (Zq.walk_zip3 (K := K) (a := c) (b := E) (c := Tk) (xs := xs) (ys := entV gs) (zs := tvs) (by rw [List.length_map, List.length_map, lgp, xl]) (by rw [TA.1, xl]))
        (fun i σ G => ∃ (T' : Hp) (us : List V) (ds : List (Option Dst)) (y7 y8 y9 y10 : Option V), σ = [some (V.ref m), some (V.ref a), some (V.int b), some (V.int (s.1 : Int)), some (V.ref c), some (V.int (r : Int)), some (V.ref L), y7, y8, y9, y10] ∧ Same H T' ∧ Coll K T' G L us (ds.map odD) ∧ movs is r b ((zips s gs pss).take i) = some ds ∧ ds.length ≤ i)
        ⟨H, [], [], _, _, _, _, rfl, Same.refl _, ⟨same_upd nL, nL, upd_same, .nil⟩, rfl, Nat.le_refl _⟩ (fun i σ G _ ⟨T', us, ds, _, _, _, _, _, st, cl, _⟩ => ⟨(st.trans cl.th).tup hc, (st.trans cl.th).tup hE, SqL.of ((st.trans cl.th) _ _ hTk)⟩) ?_ ?_⟩
    · rintro i u σ G G' hi ⟨T', us, ds, y7, y8, y9, y10, rfl, st, cl, mv, dl⟩ ⟨T, x1, x2, x3, rfl, nT, rfl, f1, f2, f3⟩
      obtain ⟨d1, hd1, D1⟩ := DA.at f1
      rw [List.getElem?_map] at hd1
      obtain ⟨o, ho, rfl⟩ := Option.map_eq_some_iff.mp hd1
      rw [List.getElem?_map, List.getElem?_map] at f2
      obtain ⟨z2, hz2, rfl⟩ := Option.map_eq_some_iff.mp f2
      obtain ⟨g, hg, rfl⟩ := Option.map_eq_some_iff.mp hz2
      obtain ⟨ps, hps⟩ : ∃ ps, pss[i]? = some ps := ⟨pss[i]'(by omega), List.getElem?_eq_getElem _⟩
      obtain ⟨l12, sokp⟩ := pl.ok ps (List.mem_of_getElem? hps)
      have hz : (zips s gs pss)[i]? = some (o, g, ps) := by
        unfold zips
        rw [List.getElem?_zip_eq_some, List.getElem?_zip_eq_some]
        exact ⟨ho, hg, hps⟩
      have g1 := (Grow.refl cl.th).put (HO.tup [x1, V.int (g : Int), x3]) nT
      have c1 := cl.grow g1
      have st1 := st.trans g1.tt
      have hT : SqT K (upd G T (HO.tup [x1, V.int (g : Int), x3])) T [x1, V.int (g : Int), x3] := SqT.of upd_same
      generalize upd T' T (HO.tup [x1, V.int (g : Int), x3]) = T1, upd G T (HO.tup [x1, V.int (g : Int), x3]) = G1 at *
      have sH1 := st1.trans c1.th
      have D1' := D1.same sH1
      have ul : us.length ≤ 1000 := by rw [cl.all.len, List.length_map]; omega
      have mvi : movs is r b ((zips s gs pss).take (i + 1)) = (movB is r b (o, g, ps)).map fun x => ds ++ [x] := by rw [take_more hz, movs_more, mv]; rfl
      refine ⟨T, _, rfl, hT, rfl, _, _, rfl, _, _, rfl, _, _, rfl, rfl, ?_⟩
      refine ⟨_, rfl, rfl, _, rfl, ?_⟩
      cases o with
      | none =>
        cases D1'
        refine iteF ⟨_, rfl, .inl ⟨rfl, _, SqL.of c1.at_⟩, _, rfl, _, rfl, rfl, _, rfl, ?_⟩
        by_cases eg' : g = r
        · subst eg'
          rw [decide_eq_true rfl]
          refine iteT ⟨by show 3 ≤ sizeLine; decide, fun u nu => ?_⟩
          have g2 := (Grow.refl c1.th).put (HO.tup [V.int 0, V.bl false, V.int 0]) nu
          have c2 := c1.grow g2
          refine ⟨L, _, _, rfl, rfl, c2.at_, by rw [sizeLine_eq]; omega, _, us ++ [.ref u], ds ++ [some (0, false, 0)], _, _, _, _, rfl, st1.trans g2.tt, ?_, ?_, by rw [List.length_append]; show _ + 1 ≤ _; omega⟩
          · rw [List.map_append]
            exact c2.push (dx_dst (d := (0, false, 0)) (SqT.of upd_same))
          · rw [mvi]
            unfold movB
            dsimp only
            rw [if_pos rfl]
            rfl
        · rw [decide_eq_false (show ¬ V.int (g : Int) = V.int (r : Int) from fun z => eg' (by have := V.int.inj z; omega))]
          refine iteF ⟨L, _, _, rfl, rfl, c1.at_, by rw [sizeLine_eq]; omega, T1, us ++ [.non], ds ++ [none], _, _, _, _, rfl, st1, ?_, ?_, by rw [List.length_append]; show _ + 1 ≤ _; omega⟩
          · rw [List.map_append]
            exact c1.push .non
          · rw [mvi]
            unfold movB
            dsimp only
            rw [if_neg eg']
            rfl
      | some d =>
        obtain ⟨ad, rfl, had⟩ := dst_at (show Dx K G1 x1 (dstD d) from D1')
        obtain ⟨lt, lus, rfl, hlt, Dlt⟩ := (TA.same sH1).2 i x3 ps f3 hps
        have hPd1 := sH1 _ _ hPd
        refine iteT ⟨_, rfl, m, Cm, dx, _, _, rfl, sH1 _ _ hm, Sm.cl, Sm.nP, mf_P _ _ _ _ _, _, rfl, _, rfl, _, rfl, Pd, lt, cnt, lg, is, lus, ps, .ref ad, d, b, rfl, hPd1, hlt, Dlt, D1', sok.dec i d ps ho hps, ok, sokp, l12, fun H' v' s' D' => ?_⟩
        refine ⟨_, rfl, rfl, _, rfl, ?_⟩
        have mB : movB is r b (some d, g, ps) = (decB is ps d b).map some := rfl
        rw [mB] at mvi
        cases hdb : decB is ps d b with
        | none =>
          rw [hdb] at D' mvi
          cases D'
          refine iteT (q _ .non (sH1.trans s') ?_)
          have nn := movs_none ((zips s gs pss).drop (i + 1)) mvi
          rw [List.take_append_drop] at nn
          rw [nn]
          exact .non
        | some d' =>
          rw [hdb] at D' mvi
          obtain ⟨ad', rfl, had'⟩ := dst_at (show Dx K H' v' (dstD d') from D')
          refine iteF ⟨_, rfl, .inl ⟨rfl, _, SqL.of (s' _ _ c1.at_)⟩, _, rfl, L, _, _, rfl, rfl, s' _ _ c1.at_, by rw [sizeLine_eq]; omega, ?_⟩
          have hL : H' L = some (.lst us) := s' _ _ c1.at_
          have sl2 : Same T1 (hide L H') := fun b o e => hide_at ((c1.th.trans s') b o e) (ne_of_none e c1.td)
          have ht : SqT K (hide L H') ad' [.int (d'.1 : Int), .bl d'.2.1, .int (d'.2.2 : Int)] := by
            rcases had' with (h | ⟨o, h⟩) | h
            · exact .inl (.inl (hide_at h (fun z => by rw [z, hL] at h; cases h)))
            · exact .inl (.inr ⟨o, hide_at h (fun z => by rw [z, hL] at h; cases h)⟩)
            · exact .inr h
          refine ⟨hide L H', us ++ [.ref ad'], ds ++ [some d'], _, _, _, _, rfl, st1.trans sl2, ?_, ?_, by rw [List.length_append]; show _ + 1 ≤ _; omega⟩
          · rw [List.map_append]
            exact Coll.push ⟨hide_same, hide_none, hL, c1.all.same sl2⟩ (dx_dst (d := d') ht)
          · rw [mvi]
            rfl
    · rintro σ G ⟨T', us, ds, y7, y8, y9, y10, rfl, st, cl, mv, dl⟩
      rw [← zl, List.take_length] at mv
      rw [mv] at q
      refine ⟨_, rfl, _, rfl, L, _, rfl, .inl ⟨SqL.of cl.at_, fun u nu => ⟨by show 2 ≤ sizeLine; decide, fun u2 nu2 => ?_⟩⟩⟩
      have s1 := same_upd (o := HO.tup us) nu
      have s2 := same_upd (o := HO.tup [V.int (r : Int), V.ref u]) nu2
      refine q _ _ ((st.trans cl.th).trans (s1.trans s2)) (.tup (SqT.of upd_same) (.cons (.int _) (.cons (.tup (SqT.of (s2 _ _ upd_same)) ?_) .nil)))
      exact cl.all.same (cl.th.trans (s1.trans s2))
end
end Ov
namespace Ov
open PySem PySem.Spec PyProof.Rows L2
section
variable {P : Program} {w : World} {K : PySem.W.Frag} {mg : Str → Option Value} {base : Heap}
structure Asked (K : PySem.W.Frag) (C : Addr) (H : Hp) (p l g cnt lg : Nat) (it : Addr) (is : List I4) (rs : List Addr) (xs : List V) (pss : List (List PStep)) (gs : List Nat) : Prop where
  ma : Mach C H p cnt lg it is rs
  hl : SqT K H l xs
  dl : DxAll K H xs (pss.map planD)
  pl : Plns cnt is pss
  hg : SqT K H g (entV gs)
  en : Ents gs
  len : gs.length = pss.length
  dc : ∀ ps ∈ pss, dcnt is ps ≤ 1000
  few : stcN is pss gs ≤ 5000
theorem Asked.same {C : Addr} {H H' : Hp} {p l g cnt lg : Nat} {it : Addr} {is : List I4} {rs : List Addr} {xs : List V} {pss : List (List PStep)} {gs : List Nat} (h : Asked K C H p l g cnt lg it is rs xs pss gs) (s : Same H H') : Asked K C H' p l g cnt lg it is rs xs pss gs :=
  ⟨h.ma.same s, s.tup h.hl, h.dl.same s, h.pl, s.tup h.hg, h.en, h.len, h.dc, h.few⟩
def spNext (K : PySem.W.Frag) (C Cm : Addr) : Sp := fun vs H Q _ => ∃ (p l g cnt lg : Nat) (it : Addr) (is : List I4) (rs : List Addr) (xs : List V) (pss : List (List PStep)) (gs : List Nat) (v : V) (s : Sta) (b : Int), vs = [.ref p, .ref l, .ref g, v, .int b] ∧ Asked K C H p l g cnt lg it is rs xs pss gs ∧ Dx K H v (stD s) ∧ StaOk pss gs s ∧
  ∀ H' v', Same H H' → Dx K H' v' (ostD (behind is pss gs s b)) → Q v' H'
abbrev nNextst : List Str := ["instruction_set", "programs", "entries", "state", "byte"]
theorem scNextst : FnScope nNextst ["instruction_set", "programs", "entries", "state", "byte"] (defScope s_next_state) := ⟨rfl, rfl, rfl, by decide +kernel, rfl, by decide +kernel, by decide +kernel⟩
theorem ok_nextst {f C Cm fStatemachine fCkO fMcSb : Addr} {fd fdStatemachine fdCkO fdMcSb : FuncData} {k : Nat} (F : Fun K "next_state" "next_state" s_next_state f fd) (S : SetTxt K mg C) (Sm : MacTxt K mg Cm) (MStatemachine : L2.Mk K Cm fStatemachine) (bStatemachine : Binds K fdStatemachine ["self", "instruction_set", "programs", "entries"] []) (GStatemachine : FnOk P w K mg base CX0 k fStatemachine fdStatemachine ["self", "instruction_set", "programs", "entries"] (spInitM K C Cm)) (CkO : Def K mg "check_overlay" s_check_overlay fCkO fdCkO ["instruction_set", "programs", "entries"]) (GCkO : FnOk P w K mg base CX0 (k + 1) fCkO fdCkO ["instruction_set", "programs", "entries"] (spCkO K C)) (MMcSb : Meth K Cm "state_behind" fMcSb) (bMcSb : Binds K fdMcSb ["self", "state", "byte"] []) (GMcSb : FnOk P w K mg base CX0 (k + 1) fMcSb fdMcSb ["self", "state", "byte"] (spBehindM K Cm)) :
    FnOk P w K mg base CX0 (k + 2) f fd ["instruction_set", "programs", "entries", "state", "byte"] (spNext K C Cm) := by
  refine F.ok scNextst (fun vs H Q E h => ?_) (fun cdv A' outer s H vs Q E hr h => ?_)
  · obtain ⟨p, l, g, cnt, lg, it, is, rs, xs, pss, gs, v, s, b, rfl, _⟩ := h
    rfl
  · obtain ⟨p, l, g, cnt, lg, it, is, rs, xs, pss, gs, v, s, b, rfl, A, Dv, so, q⟩ := h
    refine ⟨_, pss_cons (ps_expr (pe_call GCkO hr (by rfl) CkO.gl CkO.fn.kp CkO.bi .nil pass0 (pa_cons (pv 0) (pa_cons (pv 1) (pa_cons (pv 2) pa_nil)))))
      (pss_one (ps_ret (pe_meth (pe_make MStatemachine GStatemachine hr (by rfl) Sm.mgC bStatemachine .nil pass0 (pa_cons (pv 0) (pa_cons (pv 1) (pa_cons (pv 2) pa_nil)))) Sm.cl MMcSb GMcSb hr bMcSb .nil pass0 (pa_cons (pv 3) (pa_cons (pv 4) pa_nil))))), ?_⟩
    refine ⟨_, rfl, _, rfl, _, rfl, p, it, l, g, cnt, lg, is, rs, xs, pss, gs, rfl, A.ma, A.hl, A.dl, A.pl, A.hg, A.en, A.len, A.dc, A.few, fun H1 s1 => ?_⟩
    have A1 := A.same s1
    refine ⟨_, rfl, _, rfl, _, rfl, fun m dx nm ndx hne => ?_⟩
    have s4 : Same H1 (upd (upd H1 dx (.own m)) m (.ins Cm dx [])) := fun b o e => by
      rw [upd_ne (ne_of_none e nm), upd_ne (ne_of_none e ndx)]
      exact e
    have A2 := A1.same s4
    refine ⟨m, p, l, g, dx, it, cnt, lg, is, rs, xs, pss, gs, rfl, upd_same, A2.ma, A2.hl, A2.dl, A2.pl, A2.hg, fun H3 MA kp => ⟨rfl, ?_⟩⟩
    have s3 : Same H1 H3 := fun b o e => kp b o (s4 b o e) (ne_of_none e nm)
    obtain ⟨dx', E', Pd, Tk, D, B, tvs, hm, _⟩ := MA.ob
    exact ⟨m, dx', _, rfl, hm, mf_no _ _ _ _ _ (by decide +kernel), _, rfl, _, rfl, m, cnt, lg, is, pss, gs, v, s, b, rfl, MA, A.ma.ok, A.pl, (fun z => by have := A.en.hd; rw [z] at this; cases this), A.len, Dv.same (s1.trans s3), so, fun H4 v s5 Dv => q H4 v (s1.trans (s3.trans s5)) Dv⟩
end
end Ov
namespace Ov
open PySem PySem.Spec PyProof.Rows L2
theorem op_inj {is : List I4} (asc : (is.map I4.op).Pairwise (· < ·)) {x y : I4} (hx : x ∈ is) (hy : y ∈ is) (e : x.op = y.op) : x = y := by
  obtain ⟨i, il, rfl⟩ := List.mem_iff_getElem.mp hx
  obtain ⟨j, jl, rfl⟩ := List.mem_iff_getElem.mp hy
  have lt : ∀ i j (hi : i < is.length) (hj : j < is.length), i < j → (is[i]).op < (is[j]).op := fun i j hi hj h => by
    have := List.pairwise_iff_getElem.mp asc i j (by simpa using hi) (by simpa using hj) h
    simpa using this
  rcases Nat.lt_trichotomy i j with h | h | h
  · have := lt i j il jl h; omega
  · subst h; rfl
  · have := lt j i jl il h; omega
def fitsL (os : List (Option Int)) (bs : List Int) : Bool := (os.zip bs).all fun q => decide (q.1 = none ∨ q.1 = some q.2)
section
variable {is : List I4} {ps : List PStep}
theorem fold_pad (d : Nat) : ∀ (bs : List Int) (l : Nat), bs.length ≤ l → bs.foldlM (decB is ps) (padDec d l) = some (padDec d (l - bs.length))
  | [], l, _ => by rfl
  | b :: bs, l, h => by
    have h1 : bs.length + 1 ≤ l := h
    rw [List.foldlM_cons]
    have e : decB is ps (padDec d l) b = some (padDec d (l - 1)) := by
      unfold decB
      rw [if_pos (by show decide (0 < l) = true; exact decide_eq_true (by omega))]
      rfl
    rw [e]
    show List.foldlM _ (padDec d (l - 1)) bs = _
    rw [fold_pad d bs (l - 1) (by omega), show l - 1 - bs.length = l - (b :: bs).length by rw [List.length_cons]; omega]
theorem fold_step {d : Nat} {x : PStep} (hx : ps[d]? = some x) : ∀ (bs : List Int) (l : Nat), bs.length ≤ l → l ≤ x.2.length →
    bs.foldlM (decB is ps) (stepDec d l) = if fitsL (x.2.drop (x.2.length - l)) bs = true then some (stepDec d (l - bs.length)) else none
  | [], l, _, _ => by
    have e : fitsL (x.2.drop (x.2.length - l)) [] = true := by unfold fitsL; rw [List.zip_nil_right]; rfl
    rw [if_pos e]
    rfl
  | b :: bs, l, h, hl => by
    have h1 : bs.length + 1 ≤ l := h
    have il : x.2.length - l < x.2.length := by omega
    have ho : x.2[x.2.length - l]? = some (x.2[x.2.length - l]) := List.getElem?_eq_getElem il
    have dr : x.2.drop (x.2.length - l) = x.2[x.2.length - l] :: x.2.drop (x.2.length - (l - 1)) := by
      rw [List.drop_eq_getElem_cons il, show x.2.length - l + 1 = x.2.length - (l - 1) by omega]
    rw [List.foldlM_cons]
    have e : decB is ps (stepDec d l) b = if x.2[x.2.length - l] = none ∨ x.2[x.2.length - l] = some b then some (stepDec d (l - 1)) else none := by
      unfold stepDec
      rw [if_pos (show 0 < l by omega)]
      unfold decB
      rw [if_neg Bool.false_ne_true, if_pos (show 0 < l by omega)]
      show (match ps[d]? with
        | some x => match x.2[x.2.length - l]? with
          | some o => if o = none ∨ o = some b then some (stepDec d (l - 1)) else none
          | none => none
        | none => none) = _
      rw [hx]
      dsimp only
      rw [ho]
      rfl
    rw [e, dr]
    have fz : fitsL (x.2[x.2.length - l] :: x.2.drop (x.2.length - (l - 1))) (b :: bs) = (decide (x.2[x.2.length - l] = none ∨ x.2[x.2.length - l] = some b) && fitsL (x.2.drop (x.2.length - (l - 1))) bs) := by
      unfold fitsL
      rw [List.zip_cons_cons, List.all_cons]
    rw [fz]
    by_cases c : x.2[x.2.length - l] = none ∨ x.2[x.2.length - l] = some b
    · rw [if_pos c, decide_eq_true c, Bool.true_and]
      show List.foldlM _ (stepDec d (l - 1)) bs = _
      rw [fold_step hx bs (l - 1) (by omega) (by omega), show l - 1 - bs.length = l - (b :: bs).length by rw [List.length_cons]; omega]
    · rw [if_neg c, decide_eq_false c, Bool.false_and, if_neg (by decide)]
      rfl
variable {cnt lg : Nat}
/-- the instruction of an opcode -/
abbrev opI (is : List I4) (b : Int) : Option I4 := is.find? fun x => decide ((x.op : Int) = b)
theorem la_opI {b : Int} : laOf is b = match opI is b with
    | some x => x.ln
    | none => 0 := rfl
theorem opI_in {b : Int} {y : I4} (h : opI is b = some y) : y ∈ is ∧ (y.op : Int) = b := by
  have z : decide ((y.op : Int) = b) = true := List.find?_some (p := fun x : I4 => decide ((x.op : Int) = b)) h
  exact ⟨List.mem_of_find?_eq_some h, of_decide_eq_true z⟩
theorem opI_none {b : Int} (h : opI is b = none) : ∀ x ∈ is, (x.op : Int) ≠ b := fun x hx e => by
  have := List.find?_eq_none.mp h x hx
  exact this (decide_eq_true e)
theorem padI_some (ok : TabOk cnt lg is) {b : Int} {y : I4} (h : opI is b = some y) (p : y.pad = true) : padI is b = some y := by
  obtain ⟨h1, h2⟩ := opI_in h
  cases e : padI is b with
  | none =>
    unfold padI at e
    have := List.find?_eq_none.mp e y (List.mem_filter.mpr ⟨h1, p⟩)
    exact absurd (decide_eq_true h2) this
  | some z =>
    obtain ⟨z1, _, z3⟩ := padI_in e
    rw [op_inj ok.asc z1 h1 (by omega)]
theorem padI_none (ok : TabOk cnt lg is) {b : Int} (h : ∀ y, opI is b = some y → y.pad = false) : padI is b = none := by
  cases e : padI is b with
  | none => rfl
  | some z =>
    obtain ⟨z1, z2, z3⟩ := padI_in e
    cases o : opI is b with
    | none => exact absurd z3 (opI_none o z z1)
    | some y =>
      obtain ⟨y1, y2⟩ := opI_in o
      have := op_inj ok.asc z1 y1 (by omega)
      subst this
      rw [h z o] at z2
      cases z2
theorem decB_at (d : Nat) (b : Int) : decB is ps (d, false, 0) b = match padI is b with
    | some x => some (padDec d (x.ln - 1))
    | none => match ps[d]? with
      | some x => if (x.1.op : Int) = b then some (stepDec d x.2.length) else none
      | none => none := by
  unfold decB
  rw [if_neg Bool.false_ne_true, if_neg (Nat.lt_irrefl 0)]
  all_goals rfl
theorem decB_unknown (ok : TabOk cnt lg is) (sok : ∀ x ∈ ps, StepOk cnt is x) (d : Nat) {b : Int} (h : opI is b = none) : decB is ps (d, false, 0) b = none := by
  rw [decB_at, padI_none ok (fun y e => by rw [h] at e; cases e)]
  cases e : ps[d]? with
  | none => rfl
  | some x =>
    have := opI_none h x.1 (sok x (List.mem_of_getElem? e)).mem
    show (if (x.1.op : Int) = b then _ else none) = none
    rw [if_neg this]
/-- padding, whole or cut off -/
theorem decs_pad (ok : TabOk cnt lg is) (d : Nat) {b : Int} {y : I4} (h : opI is b = some y) (p : y.pad = true) (tl : List Int) :
    (b :: tl).foldlM (decB is ps) (d, false, 0) = if tl.length < y.ln - 1 then some (d, true, y.ln - 1 - tl.length) else (tl.drop (y.ln - 1)).foldlM (decB is ps) (d, false, 0) := by
  rw [List.foldlM_cons, decB_at, padI_some ok h p]
  show List.foldlM _ (padDec d (y.ln - 1)) tl = _
  by_cases c : tl.length < y.ln - 1
  · rw [if_pos c, fold_pad d tl _ (by omega)]
    unfold padDec
    rw [decide_eq_true (show 0 < y.ln - 1 - tl.length by omega)]
  · rw [if_neg c]
    conv => lhs; rw [← List.take_append_drop (y.ln - 1) tl]
    rw [List.foldlM_append, fold_pad d _ _ (by rw [List.length_take]; omega)]
    show List.foldlM _ (padDec d (y.ln - 1 - (tl.take (y.ln - 1)).length)) _ = _
    rw [List.length_take, show y.ln - 1 - min (y.ln - 1) tl.length = 0 by omega]
    rfl
/-- a step, whole or cut off -/
theorem decs_step (ok : TabOk cnt lg is) (sok : ∀ x ∈ ps, StepOk cnt is x) (d : Nat) {b : Int} {y : I4} (h : opI is b = some y) (p : y.pad = false) (tl : List Int) :
    (b :: tl).foldlM (decB is ps) (d, false, 0) = match ps[d]? with
      | some x => if x.1.nm = y.nm then (if fitsL x.2 (tl.take (y.ln - 1)) = true then (if tl.length < y.ln - 1 then some (d, false, y.ln - 1 - tl.length) else (tl.drop (y.ln - 1)).foldlM (decB is ps) (d + 1, false, 0)) else none) else none
      | none => none := by
  obtain ⟨y1, y2⟩ := opI_in h
  rw [List.foldlM_cons, decB_at, padI_none ok (fun z e => by rw [h] at e; cases e; exact p)]
  dsimp only
  cases e : ps[d]? with
  | none => rfl
  | some x =>
    have so := sok x (List.mem_of_getElem? e)
    have sl := so.len
    dsimp only
    by_cases c : x.1.nm = y.nm
    · have c := nm_inj ok.nd so.mem y1 c
      subst c
      rw [if_pos y2, if_pos rfl]
      show List.foldlM _ (stepDec d x.2.length) tl = _
      have e0 : x.2.drop (x.2.length - x.2.length) = x.2 := by rw [Nat.sub_self]; rfl
      have el : x.1.ln - 1 = x.2.length := by omega
      rw [el]
      by_cases c : tl.length < x.2.length
      · rw [if_pos c, fold_step e tl _ (by omega) (Nat.le_refl _), e0, List.take_of_length_le (by omega)]
        unfold stepDec
        rw [if_pos (show 0 < x.2.length - tl.length by omega)]
      · rw [if_neg c]
        conv => lhs; rw [← List.take_append_drop x.2.length tl]
        rw [List.foldlM_append, fold_step e _ _ (by rw [List.length_take]; omega) (Nat.le_refl _), e0]
        by_cases f : fitsL x.2 (tl.take x.2.length) = true
        · rw [if_pos f, if_pos f]
          show List.foldlM _ (stepDec d (x.2.length - (tl.take x.2.length).length)) _ = _
          rw [List.length_take, show x.2.length - min x.2.length tl.length = 0 by omega]
          rfl
        · rw [if_neg f, if_neg f]
          rfl
    · have nb : ¬ (x.1.op : Int) = b := fun z => c (by rw [op_inj ok.asc so.mem y1 (by omega)])
      rw [if_neg nb, if_neg c]
      rfl
end
end Ov
namespace Ov
open PySem PySem.Spec PyProof.Rows L2
section
variable {P : Program} {w : World} {K : PySem.W.Frag} {mg : Str → Option Value} {base : Heap}
def decs (is : List I4) (ps : List PStep) (row : List Int) : Option Dst := row.foldlM (decB is ps) (0, false, 0)
end
end Ov
namespace Ov
open PySem PySem.Spec PyProof.Rows L2
/-- what f gives for all, or nothing -/
def gfold {α β : Type} (f : α → Option β) (l : List α) : Option (List β) := l.foldlM (fun acc q => (f q).map fun x => acc ++ [x]) []
theorem gfold_to {α β : Type} {f : α → Option β} : ∀ (l : List α) (acc : List β), (∃ ds, l.foldlM (fun acc q => (f q).map fun x => acc ++ [x]) acc = some (acc ++ ds) ∧ l.map f = ds.map some) ∨ (l.foldlM (fun acc q => (f q).map fun x => acc ++ [x]) acc = none ∧ none ∈ l.map f)
  | [], acc => .inl ⟨[], by rw [List.append_nil]; rfl, rfl⟩
  | q :: l, acc => by
    rw [List.foldlM_cons]
    cases h : f q with
    | none => exact .inr ⟨rfl, by rw [List.map_cons, h]; exact List.mem_cons_self⟩
    | some x =>
      rcases gfold_to l (acc ++ [x]) with ⟨ds, e, m⟩ | ⟨e, m⟩
      · exact .inl ⟨x :: ds, by show List.foldlM _ (acc ++ [x]) l = _; rw [e]; simp, by rw [List.map_cons, h, m]; rfl⟩
      · exact .inr ⟨e, List.mem_cons_of_mem _ m⟩
theorem gfold_at {α β : Type} {f : α → Option β} (l : List α) : (∃ ds, gfold f l = some ds ∧ l.map f = ds.map some) ∨ (gfold f l = none ∧ none ∈ l.map f) := gfold_to l []
theorem gfold_some {α β : Type} {f : α → Option β} {l : List α} {ds : List β} (h : gfold f l = some ds) : l.map f = ds.map some := by
  rcases gfold_at (f := f) l with ⟨es, e, m⟩ | ⟨e, _⟩
  · rw [h] at e; cases e; exact m
  · rw [h] at e; cases e
theorem gfold_congr {α γ β : Type} {f : α → Option β} {g : γ → Option β} {l : List α} {m : List γ} (h : l.map f = m.map g) : gfold f l = gfold g m := by
  have e : ∀ {δ : Type} (g : δ → Option β) (m : List δ), gfold g m = (m.map g).foldlM (fun acc x => x.map fun x => acc ++ [x]) [] := fun g m => by
    unfold gfold
    rw [List.foldlM_map]
  rw [e f l, e g m, h]
def rowIt (is : List I4) (row : List Int) (q : List PStep × Nat) : Option (Option Dst) := if row.length < q.2 then some none else (decs is q.1 (row.drop q.2)).map some
def rowSt (is : List I4) (pss : List (List PStep)) (gs : List Nat) (row : List Int) : Option Sta := (gfold (rowIt is row) (pss.zip gs)).map fun ds => (min row.length (lastG gs), ds)
end Ov
namespace Ov
open PySem PySem.Spec PyProof.Rows L2
theorem gfold_mk {α β : Type} {f : α → Option β} {l : List α} {ds : List β} (h : l.map f = ds.map some) : gfold f l = some ds := by
  rcases gfold_at (f := f) l with ⟨es, e, m⟩ | ⟨e, m⟩
  · rw [e]
    rw [h] at m
    have : ds = es := by
      have z := congrArg (List.filterMap id) m
      rw [List.filterMap_map, List.filterMap_map] at z
      simpa using z
    rw [this]
  · rw [h] at m
    obtain ⟨x, _, e2⟩ := List.mem_map.mp m
    cases e2
theorem last_le {gs : List Nat} (asc : (gs.map fun n : Nat => (n : Int)).Pairwise (· < ·)) : ∀ g ∈ gs, g ≤ lastG gs := by
  intro g hg
  rcases List.eq_nil_or_concat gs with e0 | ⟨gr, z, e0⟩
  · rw [e0] at hg; cases hg
  · rw [List.concat_eq_append] at e0
    subst e0
    have ez : lastG (gr ++ [z]) = z := by unfold lastG; simp
    rw [ez]
    rcases List.mem_append.mp hg with h | h
    · rw [List.map_append] at asc
      have := (List.pairwise_append.mp asc).2.2 (g : Int) (List.mem_map.mpr ⟨g, h, rfl⟩) (z : Int) (by simp)
      omega
    · rw [List.mem_singleton.mp h]; exact Nat.le_refl _
section
variable {is : List I4} {pss : List (List PStep)} {gs : List Nat}
theorem rowSt_at {row : List Int} {s : Sta} (h : rowSt is pss gs row = some s) : s.1 = min row.length (lastG gs) ∧ (pss.zip gs).map (rowIt is row) = s.2.map some := by
  unfold rowSt at h
  obtain ⟨ds, h1, rfl⟩ := Option.map_eq_some_iff.mp h
  exact ⟨rfl, gfold_some h1⟩
theorem rowSt_nil (lgp : gs.length = pss.length) : rowSt is pss gs [] = some (first0 gs) := by
  unfold rowSt
  rw [gfold_mk (ds := gs.map fun g => if g = 0 then some (0, false, 0) else none)]
  · show some (min 0 (lastG gs), _) = _
    rw [Nat.zero_min]
    rfl
  · rw [List.map_map]
    have e : gs = (pss.zip gs).map (·.2) := by
      rw [List.map_snd_zip]
      omega
    conv => rhs; rw [e]
    rw [List.map_map]
    refine List.map_congr_left fun q _ => ?_
    show (if 0 < q.2 then some none else (decs is q.1 ([].drop q.2)).map some) = some (if q.2 = 0 then some (0, false, 0) else none)
    rw [List.drop_nil]
    by_cases h : q.2 = 0
    · rw [if_neg (by omega), if_pos h]; rfl
    · rw [if_pos (by omega), if_neg h]
theorem decs_more {ps : List PStep} (row : List Int) (b : Int) : decs is ps (row ++ [b]) = (decs is ps row).bind fun d => decB is ps d b := by
  unfold decs
  rw [List.foldlM_append]
  show (List.foldlM _ _ row >>= fun d => List.foldlM _ d [b]) = _
  congr 1
  funext d
  rw [List.foldlM_cons]
  show (decB is ps d b >>= fun x => pure x) = _
  exact bind_pure _
theorem rowSt_more (lgp : gs.length = pss.length) (asc : (gs.map fun n : Nat => (n : Int)).Pairwise (· < ·)) {row : List Int} {s : Sta} (h : rowSt is pss gs row = some s) (b : Int) : rowSt is pss gs (row ++ [b]) = behind is pss gs s b := by
  obtain ⟨h1, h2⟩ := rowSt_at h
  have sl : s.2.length = pss.length := by
    have := congrArg List.length h2
    rw [List.length_map, List.length_map, List.length_zip] at this
    omega
  unfold rowSt behind
  have lr : (row ++ [b]).length = row.length + 1 := by rw [List.length_append]; rfl
  have er : min (row ++ [b]).length (lastG gs) = min (s.1 + 1) (lastG gs) := by rw [lr, h1]; omega
  have key : gfold (rowIt is (row ++ [b])) (pss.zip gs) = movs is (min (s.1 + 1) (lastG gs)) b (zips s gs pss) := by
    show gfold _ _ = gfold (movB is (min (s.1 + 1) (lastG gs)) b) (zips s gs pss)
    refine gfold_congr (List.ext_getElem? fun i => ?_)
    rw [List.getElem?_map, List.getElem?_map]
    by_cases il : i < pss.length
    · obtain ⟨ps, hps⟩ : ∃ ps, pss[i]? = some ps := ⟨_, List.getElem?_eq_getElem il⟩
      obtain ⟨g, hg⟩ : ∃ g, gs[i]? = some g := ⟨gs[i]'(by omega), List.getElem?_eq_getElem _⟩
      obtain ⟨o, ho⟩ : ∃ o, s.2[i]? = some o := ⟨s.2[i]'(by omega), List.getElem?_eq_getElem _⟩
      have z1 : (pss.zip gs)[i]? = some (ps, g) := by rw [List.getElem?_zip_eq_some]; exact ⟨hps, hg⟩
      have z2 : (zips s gs pss)[i]? = some (o, g, ps) := by
        unfold zips
        rw [List.getElem?_zip_eq_some, List.getElem?_zip_eq_some]
        exact ⟨ho, hg, hps⟩
      have z3 : rowIt is row (ps, g) = some o := by
        have := congrArg (fun l => l[i]?) h2
        rw [List.getElem?_map, List.getElem?_map, z1, ho] at this
        exact Option.some.inj this
      rw [z1, z2]
      show some (rowIt is (row ++ [b]) (ps, g)) = some (movB is (min (s.1 + 1) (lastG gs)) b (o, g, ps))
      congr 1
      have gz := last_le asc g (List.mem_of_getElem? hg)
      unfold rowIt at z3 ⊢
      rw [lr]
      dsimp only at z3 ⊢
      by_cases c : row.length < g
      · rw [if_pos c] at z3
        cases z3
        show _ = some (if g = min (s.1 + 1) (lastG gs) then some (0, false, 0) else none)
        by_cases c2 : row.length + 1 < g
        · rw [if_pos c2, if_neg (by rw [h1]; omega)]
        · rw [if_neg c2, if_pos (by rw [h1]; omega), List.drop_of_length_le (by rw [lr]; omega)]
          rfl
      · rw [if_neg c] at z3
        obtain ⟨d, hd, rfl⟩ := Option.map_eq_some_iff.mp z3
        show _ = (decB is ps d b).map some
        rw [if_neg (by omega), List.drop_append_of_le_length (by omega), decs_more, hd]
        rfl
    · rw [List.getElem?_eq_none (by rw [List.length_zip]; omega), List.getElem?_eq_none (by unfold zips; rw [List.length_zip, List.length_zip]; omega)]
      rfl
  rw [key, er]
variable {cnt lg : Nat}
theorem fold_ok (ok : TabOk cnt lg is) {ps : List PStep} (pok : ∀ x ∈ ps, StepOk cnt is x) (row : List Int) : ∀ (d d' : Dst), DecOk ps d → row.foldlM (decB is ps) d = some d' → DecOk ps d' := by
  induction row with
  | nil =>
    intro d d' h e
    cases e
    exact h
  | cons b row ih =>
    intro d d' h e
    rw [List.foldlM_cons] at e
    cases hb : decB is ps d b with
    | none => rw [hb] at e; cases e
    | some d2 =>
      rw [hb] at e
      exact ih d2 d' (decB_ok ok pok h hb) e
theorem rowSt_ok (ok : TabOk cnt lg is) (pl : Plns cnt is pss) (oe : Ents gs) (lgp : gs.length = pss.length) {row : List Int} {s : Sta} (h : rowSt is pss gs row = some s) : StaOk pss gs s := by
  obtain ⟨h1, h2⟩ := rowSt_at h
  have sl : s.2.length = pss.length := by
    have := congrArg List.length h2
    rw [List.length_map, List.length_map, List.length_zip] at this
    omega
  refine ⟨sl, fun i d ps hd hps => ?_, ?_⟩
  · obtain ⟨g, hg⟩ : ∃ g, gs[i]? = some g := ⟨gs[i]'(by have := (List.getElem?_eq_some_iff.mp hps).1; omega), List.getElem?_eq_getElem _⟩
    have z1 : (pss.zip gs)[i]? = some (ps, g) := by rw [List.getElem?_zip_eq_some]; exact ⟨hps, hg⟩
    have z3 : rowIt is row (ps, g) = some (some d) := by
      have := congrArg (fun l => l[i]?) h2
      rw [List.getElem?_map, List.getElem?_map, z1, hd] at this
      exact Option.some.inj this
    unfold rowIt at z3
    by_cases c : row.length < g
    · rw [if_pos c] at z3; cases z3
    · rw [if_neg c] at z3
      obtain ⟨d2, hd2, e⟩ := Option.map_eq_some_iff.mp z3
      cases e
      exact fold_ok ok (pl.ok ps (List.mem_of_getElem? hps)).2 _ _ _ ⟨Nat.zero_le _, (fun z => absurd z Bool.false_ne_true), Nat.zero_le _, fun _ z => absurd z (Nat.lt_irrefl 0)⟩ hd2
  · have gne : gs ≠ [] := fun z => by
      have := pl.one
      rw [z] at lgp
      simp at lgp
      omega
    have : lastG gs ∈ gs := by
      unfold lastG
      rw [List.getLast?_eq_some_getLast gne]
      exact List.getLast_mem gne
    have := oe.low _ this
    omega
end
end Ov
namespace Ov
open PySem PySem.Spec PyProof.Rows L2
theorem rowSt_none {is : List I4} {pss : List (List PStep)} {gs : List Nat} {row : List Int} (h : rowSt is pss gs row = none) (b : Int) : rowSt is pss gs (row ++ [b]) = none := by
  unfold rowSt at h ⊢
  have h1 : gfold (rowIt is row) (pss.zip gs) = none := by
    cases e : gfold (rowIt is row) (pss.zip gs) with
    | none => rfl
    | some d => rw [e] at h; cases h
  rcases gfold_at (f := rowIt is row) (pss.zip gs) with ⟨ds, e, _⟩ | ⟨_, m⟩
  · rw [h1] at e; cases e
  · obtain ⟨q, hq, e⟩ := List.mem_map.mp m
    have e2 : rowIt is (row ++ [b]) q = none := by
      unfold rowIt at e ⊢
      by_cases c : row.length < q.2
      · rw [if_pos c] at e; cases e
      · rw [if_neg c] at e
        have d0 : decs is q.1 (row.drop q.2) = none := by
          cases z : decs is q.1 (row.drop q.2) with
          | none => rfl
          | some d => rw [z] at e; cases e
        rw [if_neg (by rw [List.length_append]; show ¬ row.length + 1 < q.2; omega), List.drop_append_of_le_length (by omega), decs_more, d0]
        rfl
    rcases gfold_at (f := rowIt is (row ++ [b])) (pss.zip gs) with ⟨ds, _, m2⟩ | ⟨e3, _⟩
    · have : none ∈ (pss.zip gs).map (rowIt is (row ++ [b])) := List.mem_map.mpr ⟨q, hq, e2⟩
      rw [m2] at this
      obtain ⟨x, _, z⟩ := List.mem_map.mp this
      cases z
    · rw [e3]; rfl
abbrev stepS (is : List I4) (pss : List (List PStep)) (gs : List Nat) : Sta → Int → Option Sta := fun s b => behind is pss gs s b
theorem run_row {is : List I4} {pss : List (List PStep)} {gs : List Nat} (lgp : gs.length = pss.length) (asc : (gs.map fun n : Nat => (n : Int)).Pairwise (· < ·)) : ∀ (n : Nat) (row : List Int), row.length ≤ n → Bf.runB (stepS is pss gs) (first0 gs) row = rowSt is pss gs row
  | 0, row, h => by
    have : row = [] := List.length_eq_zero_iff.mp (by omega)
    subst this
    rw [rowSt_nil lgp]
    rfl
  | n + 1, row, h => by
    rcases Bf.eq_snoc row with e | ⟨r, b, rfl⟩
    · subst e
      rw [rowSt_nil lgp]
      rfl
    · rw [List.length_append, List.length_singleton] at h
      rw [Bf.runB_snoc, run_row lgp asc n r (by omega)]
      cases e : rowSt is pss gs r with
      | none => rw [rowSt_none e]; rfl
      | some s => rw [rowSt_more lgp asc e]; rfl
/-- what a decoder can be, told exactly -/
def DecIn (is : List I4) (ps : List PStep) (d : Dst) : Prop := d.1 ≤ ps.length ∧ (d.2.1 = true → 0 < d.2.2 ∧ d.2.2 ≤ lrOf is) ∧ (d.2.1 = false → 0 < d.2.2 → ∃ x, ps[d.1]? = some x ∧ d.2.2 ≤ x.2.length)
theorem lr_ge {is : List I4} {x : I4} (h : x ∈ is) (p : x.pad = true) : x.ln - 1 ≤ lrOf is := by
  unfold lrOf
  exact (fmax_ge ((is.filter fun x : I4 => x.pad).map fun x => x.ln - 1) 0).2 (x.ln - 1) (List.mem_map.mpr ⟨x, List.mem_filter.mpr ⟨h, p⟩, rfl⟩)
theorem decIn_pad {is : List I4} {ps : List PStep} {d l : Nat} (h1 : d ≤ ps.length) (h2 : l ≤ lrOf is) : DecIn is ps (padDec d l) := by
  unfold padDec
  refine ⟨h1, fun h => ⟨of_decide_eq_true h, h2⟩, fun h h3 => ?_⟩
  exact absurd h3 (of_decide_eq_false h)
theorem decIn_step {is : List I4} {ps : List PStep} {d l : Nat} {x : PStep} (hx : ps[d]? = some x) (h2 : l ≤ x.2.length) : DecIn is ps (stepDec d l) := by
  have il := (List.getElem?_eq_some_iff.mp hx).1
  unfold stepDec
  by_cases z : 0 < l
  · rw [if_pos z]
    exact ⟨Nat.le_of_lt il, (fun z => absurd z Bool.false_ne_true), fun _ _ => ⟨x, hx, h2⟩⟩
  · rw [if_neg z]
    exact ⟨il, (fun z => absurd z Bool.false_ne_true), fun _ z => absurd z (Nat.lt_irrefl 0)⟩
theorem decIn_b {is : List I4} {ps : List PStep} {d : Dst} (h : DecIn is ps d) {b : Int} {d' : Dst} (e : decB is ps d b = some d') : DecIn is ps d' := by
  obtain ⟨dn, p, l⟩ := d
  obtain ⟨h1, h2, h3⟩ := h
  unfold decB at e
  by_cases hp : p = true
  · rw [if_pos hp] at e
    cases e
    exact decIn_pad h1 (by have : l ≤ lrOf is := (h2 hp).2; show l - 1 ≤ _; omega)
  · have hp' : p = false := by simpa using hp
    rw [if_neg hp] at e
    by_cases hl : 0 < l
    · rw [if_pos hl] at e
      obtain ⟨x, hx, hle⟩ := h3 hp' hl
      have hx : ps[dn]? = some x := hx
      have hle : l ≤ x.2.length := hle
      dsimp only at e
      rw [hx] at e
      dsimp only at e
      cases ho : x.2[x.2.length - l]? with
      | none => rw [ho] at e; cases e
      | some o =>
        rw [ho] at e
        dsimp only at e
        by_cases c : o = none ∨ o = some b
        · rw [if_pos c] at e
          cases e
          exact decIn_step hx (by omega)
        · rw [if_neg c] at e; cases e
    · rw [if_neg hl] at e
      cases hpi : padI is b with
      | some x =>
        rw [hpi] at e
        cases e
        obtain ⟨m, pp, _⟩ := padI_in hpi
        exact decIn_pad h1 (lr_ge m pp)
      | none =>
        rw [hpi] at e
        dsimp only at e
        cases hx : ps[dn]? with
        | none => rw [hx] at e; cases e
        | some x =>
          rw [hx] at e
          dsimp only at e
          by_cases c : (x.1.op : Int) = b
          · rw [if_pos c] at e
            cases e
            exact decIn_step hx (Nat.le_refl _)
          · rw [if_neg c] at e; cases e
theorem decIn_row {is : List I4} {ps : List PStep} (row : List Int) : ∀ (d d' : Dst), DecIn is ps d → row.foldlM (decB is ps) d = some d' → DecIn is ps d' := by
  induction row with
  | nil =>
    intro d d' h e
    cases e
    exact h
  | cons b row ih =>
    intro d d' h e
    rw [List.foldlM_cons] at e
    cases hb : decB is ps d b with
    | none => rw [hb] at e; cases e
    | some d2 =>
      rw [hb] at e
      exact ih d2 d' (decIn_b h hb) e
theorem decIn_0 {is : List I4} {ps : List PStep} : DecIn is ps (0, false, 0) := ⟨Nat.zero_le _, (fun z => absurd z Bool.false_ne_true), fun _ z => absurd z (Nat.lt_irrefl 0)⟩
/-- all decoders of a program -/
def dsts (is : List I4) (ps : List PStep) : List Dst := (List.range (ps.length + 1)).map (fun d => ((d, false, 0) : Dst)) ++ (((List.range ps.length).map fun d => (List.range ((ps[d]?.map fun x => x.2.length).getD 0)).map fun l => ((d, false, l + 1) : Dst)).flatten ++ ((List.range (ps.length + 1)).map fun d => (List.range (lrOf is)).map fun l => ((d, true, l + 1) : Dst)).flatten)
theorem dsts_mem {is : List I4} {ps : List PStep} {d : Dst} (h : DecIn is ps d) : d ∈ dsts is ps := by
  obtain ⟨dn, p, l⟩ := d
  obtain ⟨h1, h2, h3⟩ := h
  unfold dsts
  cases p with
  | true =>
    obtain ⟨g1, g2⟩ := h2 rfl
    refine List.mem_append_right _ (List.mem_append_right _ (List.mem_flatten.mpr ⟨_, List.mem_map.mpr ⟨dn, List.mem_range.mpr (Nat.lt_succ_of_le h1), rfl⟩, List.mem_map.mpr ⟨l - 1, List.mem_range.mpr (by show l - 1 < _; have : 0 < l := g1; have : l ≤ lrOf is := g2; omega), ?_⟩⟩))
    have : 0 < l := g1
    rw [show l - 1 + 1 = l by omega]
  | false =>
    by_cases hl : 0 < l
    · obtain ⟨x, hx, hle⟩ := h3 rfl hl
      have hx : ps[dn]? = some x := hx
      have hle : l ≤ x.2.length := hle
      have il := (List.getElem?_eq_some_iff.mp hx).1
      refine List.mem_append_right _ (List.mem_append_left _ (List.mem_flatten.mpr ⟨_, List.mem_map.mpr ⟨dn, List.mem_range.mpr il, rfl⟩, List.mem_map.mpr ⟨l - 1, List.mem_range.mpr (by rw [hx]; show l - 1 < x.2.length; omega), ?_⟩⟩))
      rw [show l - 1 + 1 = l by omega]
    · have : l = 0 := by omega
      subst this
      exact List.mem_append_left _ (List.mem_map.mpr ⟨dn, List.mem_range.mpr (Nat.lt_succ_of_le h1), rfl⟩)
theorem sum_const (n k : Nat) : ((List.range n).map fun _ => k).sum = n * k := by
  induction n with
  | zero => simp
  | succ n ih => rw [List.range_succ, List.map_append, List.sum_append, ih]; simp [Nat.succ_mul]
theorem sum_ops (ps : List PStep) : ((List.range ps.length).map fun d => (ps[d]?.map fun x => x.2.length).getD 0).sum = opsN ps := by
  unfold opsN
  congr 1
  refine List.ext_getElem? fun i => ?_
  rw [List.getElem?_map, List.getElem?_map]
  by_cases h : i < ps.length
  · rw [List.getElem?_range h, List.getElem?_eq_getElem h]
    simp [h]
  · rw [List.getElem?_eq_none (by rw [List.length_range]; omega), List.getElem?_eq_none (by omega)]
    rfl
theorem dsts_len (is : List I4) (ps : List PStep) : (dsts is ps).length = dcnt is ps := by
  unfold dsts dcnt
  rw [List.length_append, List.length_append, List.length_flatten, List.length_flatten, List.length_map, List.length_range, List.map_map, List.map_map]
  have e1 : (List.length ∘ fun d => (List.range ((ps[d]?.map fun x : PStep => x.2.length).getD 0)).map fun l => ((d, false, l + 1) : Dst)) = fun d => (ps[d]?.map fun x : PStep => x.2.length).getD 0 := by
    funext d
    simp
  have e2 : (List.length ∘ fun d => (List.range (lrOf is)).map fun l => ((d, true, l + 1) : Dst)) = fun _ : Nat => lrOf is := by
    funext d
    simp
  rw [e1, e2, sum_ops, sum_const]
  omega
/-- all rows of decoders at an offset -/
def prods (is : List I4) (o : Nat) : List (List PStep × Nat) → List (List (Option Dst))
  | [] => [[]]
  | q :: r => if o < q.2 then (prods is o r).map (none :: ·) else ((dsts is q.1).map fun d => (prods is o r).map (some d :: ·)).flatten
theorem prods_len (is : List I4) (o : Nat) : ∀ qs : List (List PStep × Nat), (prods is o qs).length ≤ (qs.map fun q => dcnt is q.1).foldl (· * ·) 1
  | [] => Nat.le_refl _
  | q :: r => by
    have ih := prods_len is o r
    have fm : ∀ (l : List Nat) (a : Nat), l.foldl (· * ·) a = a * l.foldl (· * ·) 1 := by
      intro l
      induction l with
      | nil => intro a; simp
      | cons x l ih => intro a; rw [List.foldl_cons, List.foldl_cons, ih, ih (1 * x), Nat.one_mul, Nat.mul_assoc]
    rw [List.map_cons, List.foldl_cons, fm, Nat.one_mul]
    have d1 : 1 ≤ dcnt is q.1 := by unfold dcnt; omega
    unfold prods
    by_cases h : o < q.2
    · rw [if_pos h, List.length_map]
      exact Nat.le_trans ih (Nat.le_mul_of_pos_left _ d1)
    · rw [if_neg h, List.length_flatten, List.map_map]
      have e : (List.length ∘ fun d => (prods is o r).map (some d :: ·)) = fun _ : Dst => (prods is o r).length := by
        funext d
        simp
      rw [e]
      have s : ∀ l : List Dst, (l.map fun _ => (prods is o r).length).sum = l.length * (prods is o r).length := by
        intro l
        induction l with
        | nil => simp
        | cons x l ih => rw [List.map_cons, List.sum_cons, ih, List.length_cons, Nat.succ_mul]; omega
      rw [s, dsts_len]
      exact Nat.mul_le_mul (Nat.le_refl _) ih
theorem prods_mem {is : List I4} {o : Nat} : ∀ {qs : List (List PStep × Nat)} {ds : List (Option Dst)}, ds.length = qs.length → (∀ (i : Nat) q x, qs[i]? = some q → ds[i]? = some x → if o < q.2 then x = none else ∃ d, x = some d ∧ DecIn is q.1 d) → ds ∈ prods is o qs
  | [], ds, hl, _ => by
    have : ds = [] := List.length_eq_zero_iff.mp hl
    subst this
    exact List.mem_singleton.mpr rfl
  | q :: r, [], hl, _ => by simp at hl
  | q :: r, x :: ds, hl, h => by
    have ih := prods_mem (o := o) (qs := r) (ds := ds) (by simpa using hl) fun i q' x' h1 h2 => h (i + 1) q' x' (by rw [List.getElem?_cons_succ]; exact h1) (by rw [List.getElem?_cons_succ]; exact h2)
    have h0 := h 0 q x rfl rfl
    unfold prods
    by_cases c : o < q.2
    · rw [if_pos c] at h0 ⊢
      rw [h0]
      exact List.mem_map.mpr ⟨ds, ih, rfl⟩
    · rw [if_neg c] at h0 ⊢
      obtain ⟨d, rfl, hd⟩ := h0
      exact List.mem_flatten.mpr ⟨_, List.mem_map.mpr ⟨d, dsts_mem hd, rfl⟩, List.mem_map.mpr ⟨ds, ih, rfl⟩⟩
def allSta (is : List I4) (pss : List (List PStep)) (gs : List Nat) : List Sta := ((List.range (lastG gs + 1)).map fun o => (prods is o (pss.zip gs)).map fun ds => ((o, ds) : Sta)).flatten
theorem allSta_len (is : List I4) {pss : List (List PStep)} {gs : List Nat} (lgp : gs.length = pss.length) : (allSta is pss gs).length ≤ stcN is pss gs := by
  unfold allSta stcN
  rw [List.length_flatten, List.map_map]
  have fm : ∀ (l : List (List PStep)) (a : Nat), l.foldl (fun n ps => n * dcnt is ps) a = a * (l.map fun ps => dcnt is ps).foldl (· * ·) 1 := by
    intro l
    induction l with
    | nil => intro a; simp
    | cons x l ih =>
      intro a
      have f2 : ∀ (l : List Nat) (a : Nat), l.foldl (· * ·) a = a * l.foldl (· * ·) 1 := by
        intro l
        induction l with
        | nil => intro a; simp
        | cons x l ih => intro a; rw [List.foldl_cons, List.foldl_cons, ih, ih (1 * x), Nat.one_mul, Nat.mul_assoc]
      rw [List.foldl_cons, ih, List.map_cons, List.foldl_cons, f2 _ (1 * dcnt is x), Nat.one_mul, Nat.mul_assoc]
  rw [fm]
  have ez : ((pss.zip gs).map fun q => dcnt is q.1) = pss.map fun ps => dcnt is ps := by
    have : pss.map (fun ps => dcnt is ps) = ((pss.zip gs).map (·.1)).map fun ps => dcnt is ps := by rw [List.map_fst_zip (by omega)]
    rw [this, List.map_map]
    rfl
  have up : ∀ l : List Nat, (l.map (List.length ∘ fun o => (prods is o (pss.zip gs)).map fun ds => ((o, ds) : Sta))).sum ≤ l.length * (pss.map fun ps => dcnt is ps).foldl (· * ·) 1 := by
    intro l
    induction l with
    | nil => simp
    | cons o l ih =>
      rw [List.map_cons, List.sum_cons, List.length_cons, Nat.succ_mul]
      have := prods_len is o (pss.zip gs)
      rw [ez] at this
      have e : (List.length ∘ fun o => (prods is o (pss.zip gs)).map fun ds => ((o, ds) : Sta)) o = (prods is o (pss.zip gs)).length := by simp
      rw [e]
      omega
  have := up (List.range (lastG gs + 1))
  rw [List.length_range] at this
  exact this
theorem rowSt_all {is : List I4} {pss : List (List PStep)} {gs : List Nat} (lgp : gs.length = pss.length) (asc : (gs.map fun n : Nat => (n : Int)).Pairwise (· < ·)) {row : List Int} {s : Sta} (h : rowSt is pss gs row = some s) : s ∈ allSta is pss gs := by
  obtain ⟨h1, h2⟩ := rowSt_at h
  have sl : s.2.length = (pss.zip gs).length := by
    have := congrArg List.length h2
    rw [List.length_map, List.length_map] at this
    exact this.symm
  unfold allSta
  refine List.mem_flatten.mpr ⟨_, List.mem_map.mpr ⟨s.1, List.mem_range.mpr (by rw [h1]; omega), rfl⟩, List.mem_map.mpr ⟨s.2, prods_mem sl fun i q x hq hx => ?_, rfl⟩⟩
  have z3 : rowIt is row q = some x := by
    have := congrArg (fun l => l[i]?) h2
    rw [List.getElem?_map, List.getElem?_map, hq, hx] at this
    exact Option.some.inj this
  have gz := last_le asc q.2 (by
    obtain ⟨_, hg⟩ := List.getElem?_zip_eq_some.mp (show (pss.zip gs)[i]? = some (q.1, q.2) from hq)
    exact List.mem_of_getElem? hg)
  unfold rowIt at z3
  by_cases c : row.length < q.2
  · rw [if_pos c] at z3
    cases z3
    rw [if_pos (by rw [h1]; omega)]
  · rw [if_neg c] at z3
    rw [if_neg (by rw [h1]; omega)]
    obtain ⟨d, hd, rfl⟩ := Option.map_eq_some_iff.mp z3
    exact ⟨d, rfl, decIn_row _ _ _ decIn_0 hd⟩
end Ov
namespace Ov
open PySem PySem.Spec PyProof.Rows L2
def ChgM : HO → Prop
  | .lst _ => True
  | .ext _ => True
  | _ => False
structure Md (T M H : Hp) : Prop where
  th : Same T H
  mh : Same M H
  dis : ∀ b, M b ≠ none → T b = none
  nt : ∀ b u, M b = some u → ChgM u
def none1 : Hp := fun _ => none
/-- all of a heap but what changes -/
def restM (M H : Hp) : Hp := fun b => match M b with
  | some _ => none
  | none => H b
section
variable {T T' M H H' : Hp} {L : Addr} {o : HO} {K : PySem.W.Frag}
theorem Md.start (H : Hp) : Md H none1 H := ⟨Same.refl _, (fun _ _ e => nomatch e), fun b e => absurd rfl e, (fun _ _ e => nomatch e)⟩
theorem Md.free (W : Md T M H) {a : Addr} (n : H a = none) : T a = none ∧ M a = none := ⟨W.th.free n, W.mh.free n⟩
theorem Md.put (W : Md T M H) {a : Addr} (o : HO) (n : H a = none) : Md (upd T a o) M (upd H a o) := by
  obtain ⟨t0, m0⟩ := W.free n
  refine ⟨fun b x e => ?_, W.mh.trans (same_upd n), fun b e => ?_, W.nt⟩
  · by_cases h : b = a
    · subst h; rw [upd_same] at e ⊢; exact e
    · rw [upd_ne h] at e ⊢; exact W.th _ _ e
  · rw [upd_ne (show b ≠ a from fun z => e (by rw [z]; exact m0))]; exact W.dis b e
theorem Md.putT (W : Md T M H) {a : Addr} (o : HO) (n : H a = none) : Same T (upd T a o) := same_upd (W.free n).1
theorem Md.newM (W : Md T M H) {L : Addr} (o : HO) (n : H L = none) (ho : ChgM o) : Md T (upd M L o) (upd H L o) := by
  obtain ⟨t0, m0⟩ := W.free n
  refine ⟨W.th.trans (same_upd n), fun b x e => ?_, fun b e => ?_, fun b xs e => ?_⟩
  · by_cases h : b = L
    · subst h; rw [upd_same] at e ⊢; exact e
    · rw [upd_ne h] at e ⊢; exact W.mh _ _ e
  · by_cases h : b = L
    · subst h; exact t0
    · rw [upd_ne h] at e; exact W.dis b e
  · by_cases h : b = L
    · subst h; rw [upd_same] at e; cases e; exact ho
    · rw [upd_ne h] at e; exact W.nt b xs e
theorem Md.setM (W : Md T M H) {L : Addr} (o : HO) (n : M L ≠ none) (ho : ChgM o) : Md T (upd M L o) (upd H L o) := by
  have t0 := W.dis L n
  refine ⟨fun b x e => ?_, fun b x e => ?_, fun b e => ?_, fun b xs e => ?_⟩
  · rw [upd_ne (ne_of_none e t0)]; exact W.th _ _ e
  · by_cases h : b = L
    · subst h; rw [upd_same] at e ⊢; exact e
    · rw [upd_ne h] at e ⊢; exact W.mh _ _ e
  · by_cases h : b = L
    · subst h; exact t0
    · rw [upd_ne h] at e; exact W.dis b e
  · by_cases h : b = L
    · subst h; rw [upd_same] at e; cases e; exact ho
    · rw [upd_ne h] at e; exact W.nt b xs e
theorem Md.at (W : Md T M H) (h : M L = some o) : H L = some o := W.mh _ _ h
theorem Md.less (W : Md T M H) {M' : Hp} (s : Same M' M) : Md T M' H :=
  ⟨W.th, fun b o e => W.mh _ _ (s _ _ e), fun b e => W.dis b (fun z => by
    cases h : M' b with
    | none => exact e h
    | some o => rw [s _ _ h] at z; cases z), fun b xs e => W.nt b xs (s _ _ e)⟩
theorem Md.pure (W : Md T M H) (s : Same H H') : Md T M H' := ⟨W.th.trans s, W.mh.trans s, W.dis, W.nt⟩
theorem restM_same : Same (restM M H) H := fun b o e => by
  unfold restM at e
  cases q : M b with
  | some x => rw [q] at e; cases e
  | none => rw [q] at e; exact e
theorem Md.restT (W : Md T M H) : Same T (restM M H) := fun b o e => by
  unfold restM
  cases q : M b with
  | some x => rw [W.dis b (by rw [q]; exact fun z => nomatch z)] at e; cases e
  | none => exact W.th _ _ e
theorem Md.rest (W : Md T M H) : Md (restM M H) M H := ⟨restM_same, W.mh, (fun b e => by
    unfold restM
    cases q : M b with
    | some x => rfl
    | none => exact absurd q e), W.nt⟩
theorem Md.restAt (W : Md T M H) {a : Addr} {o : HO} (h : H a = some o) (c : M a = none) : restM M H a = some o := by
  unfold restM
  rw [c]
  exact h
theorem Md.tupAt (W : Md T M H) {a : Addr} {xs : List V} (h : H a = some (.tup xs)) : restM M H a = some (.tup xs) := by
  unfold restM
  cases q : M a with
  | some x => have := W.mh _ _ q; rw [h] at this; cases this; exact (W.nt a _ q).elim
  | none => exact h
theorem Md.sqT (W : Md T M H) {a : Addr} {xs : List V} (h : SqT K H a xs) : SqT K (restM M H) a xs := by
  rcases h with (h | ⟨o, h⟩) | h
  · exact .inl (.inl (W.tupAt h))
  · refine .inl (.inr ⟨o, ?_⟩)
    unfold restM
    cases q : M a with
    | some x => have := W.mh _ _ q; rw [h] at this; cases this; exact (W.nt a _ q).elim
    | none => exact h
  · exact .inr h
mutual
theorem Dx.restM (W : Md T M H) : ∀ {v : V} {d : PyData}, Dx K H v d → noList d = true → Dx K (restM M H) v d
  | _, _, .non, _ => .non
  | _, _, .bl b, _ => .bl b
  | _, _, .int i, _ => .int i
  | _, _, .str x, _ => .str x
  | _, _, .dct (a := a) h, _ => .dct (by
      unfold Ov.restM
      cases q : M a with
      | some x => have := W.mh _ _ q; rw [h] at this; cases this; exact (W.nt a _ q).elim
      | none => exact h)
  | _, _, .lst _ _, z => by simp [noList] at z
  | _, _, .tup h a, z => .tup (W.sqT h) (DxAll.restM W a (by simpa [noList] using z))
theorem DxAll.restM (W : Md T M H) : ∀ {vs : List V} {ds : List PyData}, DxAll K H vs ds → noListAll ds = true → DxAll K (restM M H) vs ds
  | _, _, .nil, _ => .nil
  | _, _, .cons h a, z => by
    have z' := Bool.and_eq_true_iff.mp (show (noList _ && noListAll _) = true by simpa only [noListAll] using z)
    exact .cons (Dx.restM W h z'.1) (DxAll.restM W a z'.2)
end
end
end Ov
namespace Ov
open PySem PySem.Spec PyProof.Rows L2
def finS (pss : List (List PStep)) (gs : List Nat) : Sta := (lastG gs, pss.map fun ps => some (ps.length, false, 0))
theorem eqv_dst (o : Option Dst) (d : Dst) : PyData.eqv (odD o) (dstD d) = decide (o = some d) := by
  cases o with
  | none => rfl
  | some x =>
    obtain ⟨a, b, c⟩ := x
    obtain ⟨a', b', c'⟩ := d
    show (((a : Int) == (a' : Int)) && ((b == b') && (((c : Int) == (c' : Int)) && true))) = _
    rw [Bool.and_true]
    by_cases h : (some (a, b, c) : Option Dst) = some (a', b', c')
    · cases h
      simp
    · rw [decide_eq_false h]
      cases e1 : ((a : Int) == (a' : Int)) with
      | false => rfl
      | true =>
        cases e2 : (b == b') with
        | false => rfl
        | true =>
          cases e3 : ((c : Int) == (c' : Int)) with
          | false => rfl
          | true =>
            refine absurd ?_ h
            have h1 : (a : Int) = a' := eq_of_beq e1
            have h2 : b = b' := eq_of_beq e2
            have h3 : (c : Int) = c' := eq_of_beq e3
            rw [show a = a' by omega, h2, show c = c' by omega]
theorem eqv_ends : ∀ (os : List (Option Dst)) (ps : List (List PStep)), PyData.eqvAll (os.map odD) (ps.map endD2) = decide (os = ps.map fun p => some (p.length, false, 0))
  | [], [] => rfl
  | [], _ :: _ => rfl
  | _ :: _, [] => rfl
  | o :: os, p :: ps => by
    show (PyData.eqv (odD o) (dstD (p.length, false, 0)) && PyData.eqvAll (os.map odD) (ps.map endD2)) = _
    rw [eqv_dst, eqv_ends os ps]
    show _ = decide (o :: os = some (p.length, false, 0) :: ps.map fun p => some (p.length, false, 0))
    by_cases h1 : o = some (p.length, false, 0)
    · by_cases h2 : os = ps.map fun p => some (p.length, false, 0)
      · rw [decide_eq_true h1, decide_eq_true h2, h1, h2]
        simp
      · rw [decide_eq_true h1, decide_eq_false h2, decide_eq_false (fun z => h2 (List.cons.inj z).2)]
        rfl
    · rw [decide_eq_false h1, decide_eq_false (fun z => h1 (List.cons.inj z).1)]
      rfl
theorem nd_dsts : ∀ os : List (Option Dst), PyData.hasDictAll (os.map odD) = false
  | [] => rfl
  | o :: os => by
    rw [List.map_cons]
    simp only [PyData.hasDictAll]
    rw [nd_dsts os]
    cases o <;> rfl
theorem dsts_shape (os : List (Option Dst)) : PyData.canLayAll0 (os.map odD) = true ∧ PyData.depthAll (os.map odD) ≤ 1 := by
  induction os with
  | nil => exact ⟨rfl, Nat.zero_le _⟩
  | cons o os ih =>
    have h : (odD o).canLay0 = true ∧ (odD o).depth ≤ 1 := by
      cases o with
      | none => exact ⟨rfl, Nat.zero_le _⟩
      | some d => exact ⟨rfl, by show PyData.depthAll _ + 1 ≤ 1; simp [PyData.depthAll, PyData.depth]⟩
    rw [List.map_cons]
    refine ⟨by simp only [PyData.canLayAll0, h.1, ih.1]; rfl, ?_⟩
    show max _ _ ≤ 1
    exact Nat.max_le.mpr ⟨h.2, ih.2⟩
theorem dsts_shaped (os : List (Option Dst)) : SeqAt.shaped (.tuple (os.map odD)) = true := by
  obtain ⟨h1, h2⟩ := dsts_shape os
  unfold SeqAt.shaped
  rw [Bool.and_eq_true]
  exact ⟨h1, decide_eq_true (by show PyData.depthAll _ + 1 ≤ 64; omega)⟩
theorem ends_as (pss : List (List PStep)) : pss.map endD2 = (pss.map fun ps => (some (ps.length, false, 0) : Option Dst)).map odD := by
  rw [List.map_map]
  rfl
section
variable {P : Program} {w : World} {K : PySem.W.Frag} {mg : Str → Option Value} {base : Heap}
abbrev sStateMachine_is_final : Stmt := inClass cStateMachine 2
def spFinal (K : PySem.W.Frag) (Cm : Addr) : Sp := fun vs H Q _ => ∃ (m : Addr) (cnt : Nat) (is : List I4) (pss : List (List PStep)) (gs : List Nat) (v : V) (s : Sta), vs = [.ref m, v] ∧ MacAt K Cm H m cnt is pss gs ∧ gs ≠ [] ∧ Dx K H v (stD s) ∧ Q (.bl (decide (s = finS pss gs))) H
abbrev nFinalM : List Str := ["self", "state", "offset", "decoders"]
theorem scFinalM : FnScope nFinalM ["self", "state"] (defScope sStateMachine_is_final) := ⟨rfl, rfl, rfl, by decide +kernel, rfl, by decide +kernel, by decide +kernel⟩
theorem ok_finalM {f Cm : Addr} {fd : FuncData} {k : Nat} (F : Fun K "is_final" "StateMachine.is_final" sStateMachine_is_final f fd) (Sm : MacTxt K mg Cm) :
    FnOk P w K mg base CX0 (k + 1) f fd ["self", "state"] (spFinal K Cm) := by
  refine F.ok scFinalM (fun vs H Q E h => ?_) (fun cdv A' outer s H vs Q E hr h => ?_)
  · obtain ⟨m, cnt, is, pss, gs, v, s, rfl, _⟩ := h
    rfl
  · obtain ⟨m, cnt, is, pss, gs, v, s, rfl, MA, gne, Dv, q⟩ := h
    refine ⟨_, pss_cons (ps_asg (pv 1) (pg_tup rfl (pgs_cons (pg_name (i := 2) scFinalM.nd rfl (.inl rfl)) (pgs_cons (pg_name (i := 3) scFinalM.nd rfl (.inl rfl)) pgs_nil))))
      (pss_one (ps_ret (pe_and (pe_cmpR op_eq (pv 2) (pe_ix ix_tup (pe_fld (pv 0) rfl) (pe_un un_neg pe_int) (fun _ _ => rfl)) (nomark _)) (pe_one (pe_cmpR (op_eqD hr.units) (pv 3) (pe_fld (pv 0) rfl) (nomark _)))))), ?_⟩
    obtain ⟨dx, E, Pd, Tk, D, B, tvs, hm, hE, hPd, hTk, TA, DD, _⟩ := MA.ob
    obtain ⟨a, c, xs, rfl, ha, hc, DA⟩ := dx_st Dv
    obtain ⟨gr, z, eg⟩ : ∃ (gr : List Nat) (z : Nat), gs = gr ++ [z] := by
      rcases List.eq_nil_or_concat gs with e0 | ⟨gr, z, e0⟩
      · exact absurd e0 gne
      · exact ⟨gr, z, by rw [e0, List.concat_eq_append]⟩
    have ez : lastG gs = z := by rw [eg]; unfold lastG; simp
    have hEz : atI (entV gs) (-1) = some (V.int (z : Int)) := by
      have e : entV gs = entV gr ++ [V.int (z : Int)] := by
        rw [eg]
        show ((gr ++ [z]).map fun n : Nat => (n : Int)).map V.int = _
        rw [List.map_append, List.map_append]
        rfl
      rw [e]
      exact atI_last _ _
    refine ⟨_, rfl, a, _, rfl, ha, rfl, _, _, rfl, _, _, rfl, rfl, ?_⟩
    refine ⟨_, rfl, _, rfl, m, Cm, dx, _, _, rfl, hm, Sm.cl, Sm.nE, mf_E _ _ _ _ _, _, rfl, E, _, _, _, rfl, rfl, hE, hEz, rfl, _, rfl, ?_⟩
    have e0 : decide (s = finS pss gs) = (decide (s.1 = z) && decide (s.2 = pss.map fun ps => some (ps.length, false, 0))) := by
      unfold finS
      rw [ez]
      obtain ⟨s1, s2⟩ := s
      by_cases h1 : s1 = z
      · by_cases h2 : s2 = pss.map fun ps => some (ps.length, false, 0)
        · rw [decide_eq_true h1, decide_eq_true h2, h1, h2]; simp
        · rw [decide_eq_true h1, decide_eq_false h2, decide_eq_false (fun q => h2 (Prod.mk.inj q).2)]; rfl
      · rw [decide_eq_false h1, decide_eq_false (fun q => h1 (Prod.mk.inj q).1)]; rfl
    rw [e0] at q
    by_cases h1 : s.1 = z
    · rw [decide_eq_true (show V.int (s.1 : Int) = V.int (z : Int) by rw [h1])]
      rw [decide_eq_true h1, Bool.true_and, ← eqv_ends] at q
      have Dd : Dx K H (.ref c) (.tuple (s.2.map odD)) := .tup hc DA
      refine iteT ⟨_, rfl, _, rfl, m, Cm, dx, _, _, rfl, hm, Sm.cl, Sm.nD, mf_D _ _ _ _ _, _, _, Dd.dp (by show PyData.hasDictAll _ = false; exact nd_dsts _), DD.dp (by show PyData.hasDictAll _ = false; rw [ends_as]; exact nd_dsts _), dsts_shaped _, by rw [ends_as]; exact dsts_shaped _, q⟩
    · rw [decide_eq_false (show ¬ V.int (s.1 : Int) = V.int (z : Int) from fun q => h1 (by have := V.int.inj q; omega))]
      rw [decide_eq_false h1, Bool.false_and] at q
      exact iteF q
end
end Ov
namespace Ov
open PySem PySem.Spec PyProof.Rows L2
/-- each byte leads on alike -/
def FreeD (is : List I4) (ps : List PStep) (d : Dst) : Prop := ∃ d', ∀ b, decB is ps d b = some d'
/-- bytes, ascending, with all that lead on -/
def FitD (cnt : Nat) (is : List I4) (ps : List PStep) (d : Dst) (bs : List Int) : Prop := bs.Pairwise (· < ·) ∧ (∀ b ∈ bs, 0 ≤ b ∧ b < (cnt : Int)) ∧ (∀ b, (decB is ps d b).isSome = true → b ∈ bs) ∧ bs.length ≤ 100
def padOps (is : List I4) : List Int := (is.filter fun x : I4 => x.pad).map fun x => (x.op : Int)
theorem padKV_ops (is : List I4) : ((padKV is).map fun kv => kV kv.1) = (padOps is).map V.int := by
  unfold padKV padOps
  rw [List.map_map, List.map_map]
  rfl
theorem padOps_mem {is : List I4} {b : Int} : b ∈ padOps is ↔ ∃ x ∈ is, x.pad = true ∧ (x.op : Int) = b := by
  unfold padOps
  rw [List.mem_map]
  exact ⟨fun ⟨x, h, e⟩ => ⟨x, (List.mem_filter.mp h).1, (List.mem_filter.mp h).2, e⟩, fun ⟨x, h, p, e⟩ => ⟨x, List.mem_filter.mpr ⟨h, p⟩, e⟩⟩
theorem padOps_nd {cnt lg : Nat} {is : List I4} (ok : TabOk cnt lg is) : (padOps is).Nodup := by
  unfold padOps
  have a := ok.asc
  rw [List.pairwise_map] at a
  have f : (is.filter fun x : I4 => x.pad).Pairwise fun x y => x.op < y.op := a.sublist List.filter_sublist
  unfold List.Nodup
  rw [List.pairwise_map]
  exact f.imp fun h => by omega
/-- the opcodes that fit between steps -/
def boundOps (is : List I4) (ps : List PStep) (d : Nat) : List Int := padOps is ++ (match ps[d]? with
  | some x => [(x.1.op : Int)]
  | none => [])
theorem fit_bound {cnt lg : Nat} {is : List I4} (ok : TabOk cnt lg is) {ps : List PStep} (pok : ∀ x ∈ ps, StepOk cnt is x) {d : Nat} {bs : List Int} (hp : bs.Perm (boundOps is ps d)) (hs : bs.Pairwise (· ≤ ·)) : FitD cnt is ps (d, false, 0) bs := by
  have nd : (boundOps is ps d).Nodup := by
    unfold boundOps
    cases e : ps[d]? with
    | none => rw [List.append_nil]; exact padOps_nd ok
    | some x =>
      have so := pok x (List.mem_of_getElem? e)
      refine List.nodup_append.mpr ⟨padOps_nd ok, by simp, fun a ha b hb z => ?_⟩
      obtain ⟨y, hy, py, ey⟩ := padOps_mem.mp ha
      have eb : b = (x.1.op : Int) := by simpa using hb
      have : y = x.1 := op_inj ok.asc hy so.mem (by omega)
      rw [this, so.pad] at py
      cases py
  have len : (boundOps is ps d).length ≤ 72 := by
    unfold boundOps padOps
    rw [List.length_append, List.length_map]
    have h1 := List.length_filter_le (fun x : I4 => x.pad) is
    have h2 := ok.few
    cases ps[d]? with
    | none => simp; omega
    | some x => simp; omega
  refine ⟨?_, fun b hb => ?_, fun b hb => ?_, by rw [hp.length_eq]; omega⟩
  · have nb : bs.Nodup := hp.nodup_iff.mpr nd
    refine List.Pairwise.imp₂ (fun a b h1 h2 => ?_) hs nb
    have : a ≠ b := h2
    omega
  · have h := hp.mem_iff.mp hb
    unfold boundOps at h
    rcases List.mem_append.mp h with h | h
    · obtain ⟨y, hy, _, ey⟩ := padOps_mem.mp h
      have := ok.ops y hy
      omega
    · cases e : ps[d]? with
      | none => rw [e] at h; cases h
      | some x =>
        rw [e] at h
        have so := pok x (List.mem_of_getElem? e)
        have := ok.ops x.1 so.mem
        have eb : b = (x.1.op : Int) := by simpa using h
        omega
  · refine hp.mem_iff.mpr ?_
    rw [decB_at] at hb
    unfold boundOps
    cases e1 : padI is b with
    | some x =>
      obtain ⟨h1, h2, h3⟩ := padI_in e1
      exact List.mem_append_left _ (padOps_mem.mpr ⟨x, h1, h2, h3⟩)
    | none =>
      rw [e1] at hb
      dsimp only at hb
      cases e2 : ps[d]? with
      | none => rw [e2] at hb; cases hb
      | some x =>
        rw [e2] at hb
        dsimp only at hb
        by_cases c : (x.1.op : Int) = b
        · exact List.mem_append_right _ (List.mem_singleton.mpr c.symm)
        · rw [if_neg c] at hb; cases hb
section
variable {P : Program} {w : World} {K : PySem.W.Frag} {mg : Str → Option Value} {base : Heap}
def spDby (K : PySem.W.Frag) : Sp := fun vs H Q _ => ∃ (Pd l : Addr) (cnt lg : Nat) (is : List I4) (us : List V) (ps : List PStep) (v : V) (d : Dst), vs = [.ref Pd, .ref l, v] ∧ H Pd = some (.dK (padKV is)) ∧ H l = some (.lst us) ∧ DxAll K H us (ps.map taskD) ∧ Dx K H v (dstD d) ∧ DecOk ps d ∧ TabOk cnt lg is ∧ (∀ x ∈ ps, StepOk cnt is x) ∧ ps.length ≤ 12 ∧
  (∀ H', Same H H' → FreeD is ps d → Q .non H') ∧ ∀ H' r bs, Same H H' → H' r = some (.lst (bs.map V.int)) → FitD cnt is ps d bs → Q (.ref r) H'
abbrev nDby : List Str := ["padding", "steps", "decoder", "done", "is_padding", "left", "operands", "wanted", "opcodes"]
theorem scDby : FnScope nDby ["padding", "steps", "decoder"] (defScope s_decoder_bytes) := ⟨rfl, rfl, rfl, by decide +kernel, rfl, by decide +kernel, by decide +kernel⟩
theorem ok_dby {f : Addr} {fd : FuncData} {k : Nat} (F : Fun K "decoder_bytes" "decoder_bytes" s_decoder_bytes f fd) (T : Bi mg) :
    FnOk P w K mg base CX0 (k + 1) f fd ["padding", "steps", "decoder"] (spDby K) := by
  refine F.ok scDby (fun vs H Q E h => ?_) (fun cdv A' outer s H vs Q E hr h => ?_)
  · obtain ⟨Pd, l, cnt, lg, is, us, ps, v, d, rfl, _⟩ := h
    rfl
  · obtain ⟨Pd, l, cnt, lg, is, us, ps, v, d, rfl, hP, hl, Du, Dv, dok, ok, pok, p12, qn, ql⟩ := h
    refine ⟨_, pss_cons (ps_asg (pv 2) (pg_tup rfl (pgs_cons (pg_name (i := 3) scDby.nd rfl (.inl rfl)) (pgs_cons (pg_name (i := 4) scDby.nd rfl (.inl rfl)) (pgs_cons (pg_name (i := 5) scDby.nd rfl (.inl rfl)) pgs_nil)))))
      (pss_cons (ps_if (pt_val (pv 4)) (pss_one (ps_ret pe_non)) pss_nil)
      (pss_cons (ps_if (pt_cmpR op_gt (pv 5) pe_int (nomark _)) (pss_cons (ps_set (i := 6) scDby.nd rfl (.inl rfl) (pe_ix ix_tup (pe_ix ix_list (pv 1) (pv 3) (fun _ _ => rfl)) pe_int (fun _ _ => rfl)))
      (pss_cons (ps_set (i := 7) scDby.nd rfl (.inl rfl) (pe_ix ix_tup (pv 6) (pe_op op_sub (pe_callB call_len_seq (by rfl) T.len PySem.boot_len (pa_cons (pv 6) pa_nil)) (pv 5)) (fun _ _ => rfl)))
      (pss_one (ps_ret (pe_ifExp (pt_cmpR op_isN (pv 7) pe_non (nomark _)) pe_non (pe_lst (pa_cons (pv 7) pa_nil))))))) pss_nil)
      (pss_cons (ps_set (i := 8) scDby.nd rfl (.inl rfl) (pe_callTy (call_list_dK (by rfl)) (by rfl) T.list (by decide +kernel) (pa_cons (pv 0) pa_nil)))
      (pss_cons (ps_if (pt_cmpR op_lt (pv 3) (pe_callB call_len_seq (by rfl) T.len PySem.boot_len (pa_cons (pv 1) pa_nil)) (nomark _)) (pss_one (ps_expr (pe_bm PySem.F.plainAttrs_list PySem.F.slot_list_append PySem.F.type_list_append mt_append (pv 8) (pa_cons (pe_ix ix_tup (pe_ix ix_list (pv 1) (pv 3) (fun _ _ => rfl)) pe_int (fun _ _ => rfl)) pa_nil)))) pss_nil)
      (pss_one (ps_ret (pe_callB cr_sortedI (by rfl) T.sorted (by decide +kernel) (pa_cons (pv 8) pa_nil)))))))), ?_⟩
    obtain ⟨a, rfl, ha⟩ := dst_at Dv
    obtain ⟨dn, pd, lf⟩ := d
    obtain ⟨h1, h2, h3, h4⟩ := dok
    dsimp only at h1 h2 h3 h4
    have ul : us.length = ps.length := by rw [Du.len, List.length_map]
    refine ⟨_, rfl, a, _, rfl, ha, rfl, _, _, rfl, _, _, rfl, _, _, rfl, rfl, _, rfl, _, rfl, ?_⟩
    cases pd with
    | true => exact iteT (qn H (Same.refl _) ⟨padDec dn (lf - 1), fun b => by unfold decB; rw [if_pos rfl]⟩)
    | false =>
      refine iteF ⟨_, rfl, _, _, rfl, rfl, _, rfl, ?_⟩
      by_cases l0 : 0 < lf
      · rw [decide_eq_true (show (0 : Int) < (lf : Int) by omega)]
        obtain ⟨x, hx, lx⟩ := h4 rfl l0
        have il := (List.getElem?_eq_some_iff.mp hx).1
        obtain ⟨u, hu'⟩ : ∃ u, us[dn]? = some u := ⟨us[dn]'(by rw [ul]; exact il), List.getElem?_eq_getElem _⟩
        obtain ⟨dd, hdd, Dd⟩ := Du.at hu'
        rw [List.getElem?_map, hx] at hdd
        cases hdd
        obtain ⟨t1, y1, y2, rfl, ht1, D1, D2⟩ := dx_two Dd
        obtain ⟨op, os, rfl, hop, Dop⟩ := dx_tup D2
        have eos := dx_opts Dop
        subst eos
        have at1 : atI [y1, V.ref op] 1 = some (.ref op) := atI_nat (j := 1) rfl
        have at2 : atI us (dn : Int) = some (.ref t1) := atI_nat hu'
        have io : x.2.length - lf < x.2.length := by omega
        obtain ⟨o, ho⟩ : ∃ o, x.2[x.2.length - lf]? = some o := ⟨x.2[x.2.length - lf], List.getElem?_eq_getElem io⟩
        have at3 : atI (x.2.map oV) (((x.2.map oV).length : Int) - (lf : Int)) = some (oV o) := by
          rw [List.length_map, show ((x.2.length : Int) - (lf : Int)) = ((x.2.length - lf : Nat) : Int) by omega]
          exact atI_nat (by rw [List.getElem?_map, ho]; rfl)
        have eq1 : ∀ b, decB is ps (dn, false, lf) b = if o = none ∨ o = some b then some (stepDec dn (lf - 1)) else none := fun b => by
          unfold decB
          rw [if_neg Bool.false_ne_true, if_pos l0]
          show (match ps[dn]? with | some x => (match x.2[x.2.length - lf]? with | some o => if o = none ∨ o = some b then some (stepDec dn (lf - 1)) else none | none => none) | none => none) = _
          rw [hx]
          dsimp only
          rw [ho]
        refine iteT ⟨_, rfl, _, rfl, l, _, _, _, rfl, rfl, SqL.of hl, at2, t1, _, _, _, rfl, rfl, ht1, at1, ?_⟩
        refine ⟨_, rfl, _, rfl, op, _, rfl, .inr hop, _, rfl, _, _, rfl, rfl, op, _, _, _, rfl, rfl, hop, at3, ?_⟩
        cases o with
        | none =>
          refine ⟨_, rfl, rfl, _, rfl, iteT (qn H (Same.refl _) ⟨stepDec dn (lf - 1), fun b => ?_⟩)⟩
          rw [eq1, if_pos (.inl rfl)]
        | some z =>
          refine ⟨_, rfl, rfl, _, rfl, iteF ⟨_, rfl, by show 1 ≤ sizeLine; decide, fun r nr => ql _ r [z] (same_upd nr) upd_same ⟨by simp, fun b hb => ?_, fun b hb => ?_, by show 1 ≤ 100; decide⟩⟩⟩
          · rw [List.mem_singleton.mp hb]
            exact (pok x (List.mem_of_getElem? hx)).low z (List.mem_of_getElem? ho)
          · rw [eq1] at hb
            by_cases c : (some z : Option Int) = none ∨ some z = some b
            · rcases c with c | c
              · cases c
              · cases c; exact List.mem_cons_self
            · rw [if_neg c] at hb; cases hb
      · rw [decide_eq_false (show ¬ (0 : Int) < (lf : Int) by omega)]
        obtain rfl : lf = 0 := by omega
        refine iteF ⟨_, rfl, Pd, _, rfl, hP, fun q nq => ?_⟩
        have s1 := same_upd (o := HO.lst ((padKV is).map fun kv => kV kv.1)) nq
        have hq : upd H q (HO.lst ((padKV is).map fun kv => kV kv.1)) q = some (.lst ((padOps is).map V.int)) := by rw [upd_same, padKV_ops]
        show tSeq _ _ _ _ (upd H q (HO.lst ((padKV is).map fun kv => kV kv.1)))
        have nlq : ∀ {b o}, H b = some o → b ≠ q := fun e => ne_of_none e nq
        generalize upd H q (HO.lst ((padKV is).map fun kv => kV kv.1)) = H1 at *
        refine ⟨_, rfl, _, rfl, l, _, rfl, .inl (SqL.of (s1 _ _ hl)), _, _, rfl, rfl, _, rfl, ?_⟩
        have fin : ∀ (H2 : Hp), Same H H2 → H2 q = some (.lst ((boundOps is ps dn).map V.int)) → ∀ (ns' : List Int) (p : Addr), ns'.Perm (boundOps is ps dn) → ns'.Pairwise (· ≤ ·) → H2 p = none → Q (.ref p) (upd H2 p (.lst (ns'.map V.int))) := fun H2 s2 h2 ns' p hp hs np =>
          ql _ p ns' (s2.trans (same_upd np)) upd_same (fit_bound ok pok hp hs)
        by_cases hd : dn < ps.length
        · rw [decide_eq_true (show (dn : Int) < (us.length : Int) by omega)]
          have hx : ps[dn]? = some ps[dn] := List.getElem?_eq_getElem hd
          obtain ⟨u, hu'⟩ : ∃ u, us[dn]? = some u := ⟨us[dn]'(by rw [ul]; exact hd), List.getElem?_eq_getElem _⟩
          obtain ⟨dd, hdd, Dd⟩ := Du.at hu'
          rw [List.getElem?_map, hx] at hdd
          cases hdd
          obtain ⟨t1, y1, y2, rfl, ht1, D1, D2⟩ := dx_two Dd
          rw [dx_int D1] at ht1
          have at1 : atI [V.int ((ps[dn]).1.op : Int), y2] 0 = some (V.int ((ps[dn]).1.op : Int)) := atI_nat (j := 0) rfl
          have at2 : atI us (dn : Int) = some (.ref t1) := atI_nat hu'
          have eb : boundOps is ps dn = padOps is ++ [((ps[dn]).1.op : Int)] := by unfold boundOps; rw [hx]
          have pl : (padOps is).length ≤ 72 := by
            unfold padOps
            rw [List.length_map]
            have h1 := List.length_filter_le (fun x : I4 => x.pad) is
            have h2 := ok.few
            omega
          refine iteT ⟨_, rfl, .inl ⟨rfl, _, SqL.of hq⟩, _, rfl, _, rfl, l, _, _, _, rfl, rfl, SqL.of (s1 _ _ hl), at2, t1, _, _, _, rfl, rfl, s1.tup ht1, at1, q, _, _, rfl, rfl, hq, by rw [List.length_map, sizeLine_eq]; omega, ?_⟩
          have em : ((padOps is).map V.int ++ [V.int ((ps[dn]).1.op : Int)]) = (boundOps is ps dn).map V.int := by rw [eb, List.map_append]; rfl
          rw [em]
          refine ⟨_, rfl, q, boundOps is ps dn, rfl, SqL.of upd_same, fin _ (fun b o e => by rw [upd_ne (nlq e)]; exact s1 b o e) upd_same⟩
        · rw [decide_eq_false (show ¬ (dn : Int) < (us.length : Int) by omega)]
          have eb : boundOps is ps dn = padOps is := by unfold boundOps; rw [List.getElem?_eq_none (by omega), List.append_nil]
          exact iteF ⟨_, rfl, q, boundOps is ps dn, rfl, SqL.of (by rw [eb]; exact hq), fin H1 s1 (by rw [eb]; exact hq)⟩
end
end Ov
namespace Ov
open PySem PySem.Spec PyProof.Rows L2
/-- no decoder looks at the byte -/
def AllFree (is : List I4) (pss : List (List PStep)) (s : Sta) (n : Nat) : Prop := ∀ (i : Nat) (d : Dst) (ps : List PStep), i < n → s.2[i]? = some (some d) → pss[i]? = some ps → FreeD is ps d
/-- the bytes of one decoder -/
def OneFits (cnt : Nat) (is : List I4) (pss : List (List PStep)) (s : Sta) (bs : List Int) : Prop := ∃ (i : Nat) (d : Dst) (ps : List PStep), s.2[i]? = some (some d) ∧ pss[i]? = some ps ∧ FitD cnt is ps d bs
section
variable {P : Program} {w : World} {K : PySem.W.Frag} {mg : Str → Option Value} {base : Heap}
abbrev sStateMachine_fitting_bytes : Stmt := inClass cStateMachine 5
def spFitB (K : PySem.W.Frag) (Cm : Addr) : Sp := fun vs H Q _ => ∃ (m : Addr) (cnt lg : Nat) (is : List I4) (pss : List (List PStep)) (gs : List Nat) (v : V) (s : Sta), vs = [.ref m, v] ∧ MacAt K Cm H m cnt is pss gs ∧ TabOk cnt lg is ∧ Plns cnt is pss ∧ Dx K H v (stD s) ∧ StaOk pss gs s ∧
  (∀ H', Same H H' → AllFree is pss s s.2.length → Q .non H') ∧ ∀ H' r bs, Same H H' → H' r = some (.lst (bs.map V.int)) → OneFits cnt is pss s bs → Q (.ref r) H'
abbrev nFitB : List Str := ["self", "state", "offset", "decoders", "fitting", "decoder", "steps", "row"]
theorem scFitB : FnScope nFitB ["self", "state"] (defScope sStateMachine_fitting_bytes) := ⟨rfl, rfl, rfl, by decide +kernel, rfl, by decide +kernel, by decide +kernel⟩
theorem ok_fitB {f Cm fDecoderBytes : Addr} {fd fdDecoderBytes : FuncData} {k : Nat} (F : Fun K "fitting_bytes" "StateMachine.fitting_bytes" sStateMachine_fitting_bytes f fd) (T : Bi mg) (Sm : MacTxt K mg Cm) (DecoderBytes : Def K mg "decoder_bytes" s_decoder_bytes fDecoderBytes fdDecoderBytes ["padding", "steps", "decoder"]) (GDecoderBytes : FnOk P w K mg base CX0 k fDecoderBytes fdDecoderBytes ["padding", "steps", "decoder"] (spDby K)) :
    FnOk P w K mg base CX0 (k + 1) f fd ["self", "state"] (spFitB K Cm) := by
  refine F.ok scFitB (fun vs H Q E h => ?_) (fun cdv A' outer s H vs Q E hr h => ?_)
  · obtain ⟨m, cnt, lg, is, pss, gs, v, s, rfl, _⟩ := h
    rfl
  · obtain ⟨m, cnt, lg, is, pss, gs, v, s, rfl, MA, ok, pl, Dv, sok, qn, ql⟩ := h
    refine ⟨_, pss_cons (ps_asg (pv 1) (pg_tup rfl (pgs_cons (pg_name (i := 2) scFitB.nd rfl (.inl rfl)) (pgs_cons (pg_name (i := 3) scFitB.nd rfl (.inl rfl)) pgs_nil))))
      (pss_cons (ps_set (i := 4) scFitB.nd rfl (.inl rfl) pe_non)
      (pss_cons (ps_for PassesOwn.never rfl (Zq.pi_zipTL (by rfl) T.zip (pa_cons (pv 3) (pa_cons (pe_fld (pv 0) rfl) pa_nil))) (pg_tup rfl (pgs_cons (pg_name (i := 5) scFitB.nd rfl (.inl rfl)) (pgs_cons (pg_name (i := 6) scFitB.nd rfl (.inl rfl)) pgs_nil))) (pss_cons (ps_set (i := 7) scFitB.nd rfl (.inl rfl) (pe_ifExp (pt_cmpR op_isN (pv 5) pe_non (nomark _)) pe_non (pe_call GDecoderBytes hr (by rfl) DecoderBytes.gl DecoderBytes.fn.kp DecoderBytes.bi .nil pass0 (pa_cons (pe_fld (pv 0) rfl) (pa_cons (pv 6) (pa_cons (pv 5) pa_nil))))))
      (pss_one (ps_if (PW.pt (pw_and (pt_cmpR op_notN (pv 7) pe_non (nomark _)) (pw_and1 (PW.pt (pw_or (pt_cmpR op_isN (pv 4) pe_non (nomark _)) (pw_or1 (pt_cmpR op_lt (pe_callB call_len_seq (by rfl) T.len PySem.boot_len (pa_cons (pv 7) pa_nil)) (pe_callB call_len_seq (by rfl) T.len PySem.boot_len (pa_cons (pv 4) pa_nil)) (nomark _)))))))) (pss_one (ps_set (i := 4) scFitB.nd rfl (.inl rfl) (pv 7))) pss_nil))))
      (pss_one (ps_ret (pv 4))))), ?_⟩
    obtain ⟨dx, E, Pd, Tk, D, B, tvs, hm, hE, hPd, hTk, TA, _⟩ := MA.ob
    obtain ⟨a, c, xs, rfl, ha, hc, DA⟩ := dx_st Dv
    have l3 := pl.few
    have sl := sok.len
    have xl : xs.length = pss.length := by rw [DA.len, List.length_map, sl]
    refine ⟨_, rfl, a, _, rfl, ha, rfl, _, _, rfl, _, _, rfl, rfl, ?_⟩
    refine ⟨_, rfl, _, rfl, m, Cm, dx, _, _, rfl, hm, Sm.cl, Sm.nT, mf_T _ _ _ _ _, c, Tk, xs, tvs, rfl, hc, SqL.of hTk,
      for_it (Zq.walk_zipTL (K := K) (a := c) (b := Tk) (xs := xs) (ys := tvs) (by rw [TA.1, xl])) (fun i σ G => ∃ (fv : V) (y5 y6 y7 : Option V), σ = [some (.ref m), some (.ref a), some (.int (s.1 : Int)), some (.ref c), some fv, y5, y6, y7] ∧ Same H G ∧ ((fv = .non ∧ AllFree is pss s i) ∨ ∃ r bs, fv = .ref r ∧ G r = some (.lst (bs.map V.int)) ∧ OneFits cnt is pss s bs))
        ⟨.non, _, _, _, rfl, Same.refl _, .inl ⟨rfl, fun i d ps h => absurd h (Nat.not_lt_zero _)⟩⟩ (fun i σ G _ ⟨fv, _, _, _, _, sG, _⟩ => ⟨sG.tup hc, SqL.of (sG _ _ hTk)⟩) ?_ ?_⟩
    · rintro i u σ G G' hi ⟨fv, y5, y6, y7, rfl, sG, inv⟩ ⟨T, x1, x3, rfl, nT, rfl, f1, f3⟩
      obtain ⟨d1, hd1, D1⟩ := DA.at f1
      rw [List.getElem?_map] at hd1
      obtain ⟨o, ho, rfl⟩ := Option.map_eq_some_iff.mp hd1
      obtain ⟨ps, hps⟩ : ∃ ps, pss[i]? = some ps := ⟨pss[i]'(by omega), List.getElem?_eq_getElem _⟩
      obtain ⟨l12, sokp⟩ := pl.ok ps (List.mem_of_getElem? hps)
      have s1 := same_upd (o := HO.tup [x1, x3]) nT
      have hT : SqT K (upd G T (HO.tup [x1, x3])) T [x1, x3] := SqT.of upd_same
      have sG1 := sG.trans s1
      generalize upd G T (HO.tup [x1, x3]) = G1 at *
      have inv1 : (fv = .non ∧ AllFree is pss s i) ∨ ∃ r bs, fv = .ref r ∧ G1 r = some (.lst (bs.map V.int)) ∧ OneFits cnt is pss s bs := inv.elim .inl fun ⟨r, bs, e1, e2, e3⟩ => .inr ⟨r, bs, e1, s1 _ _ e2, e3⟩
      have D1' := D1.same sG1
      have free : (∀ d, o = some d → FreeD is ps d) → AllFree is pss s i → AllFree is pss s (i + 1) := fun hf ha j d ps' hj h1 h2 => by
        rcases Nat.lt_succ_iff_lt_or_eq.mp hj with h | h
        · exact ha j d ps' h h1 h2
        · subst h
          rw [ho] at h1
          rw [hps] at h2
          cases h1; cases h2
          exact hf d rfl
      refine ⟨T, _, rfl, hT, rfl, _, _, rfl, _, _, rfl, rfl, ?_⟩
      refine ⟨_, rfl, rfl, _, rfl, ?_⟩
      cases o with
      | none =>
        cases D1'
        refine iteT ⟨_, rfl, rfl, _, rfl, iteF ⟨fv, _, _, _, rfl, sG1, ?_⟩⟩
        rcases inv1 with ⟨e, af⟩ | h
        · exact .inl ⟨e, free (fun d e => nomatch e) af⟩
        · exact .inr h
      | some d =>
        obtain ⟨ad, rfl, had⟩ := dst_at (show Dx K G1 x1 (dstD d) from D1')
        obtain ⟨lt, lus, rfl, hlt, Dlt⟩ := (TA.same sG1).2 i x3 ps f3 hps
        refine iteF ⟨_, rfl, m, Cm, dx, _, _, rfl, sG1 _ _ hm, Sm.cl, Sm.nP, mf_P _ _ _ _ _, _, rfl, _, rfl, Pd, lt, cnt, lg, is, lus, ps, .ref ad, d, rfl, sG1 _ _ hPd, hlt, Dlt, D1', sok.dec i d ps ho hps, ok, sokp, l12, fun H' s' fr => ?_, fun H' r bs s' hr ft => ?_⟩
        · refine ⟨_, rfl, rfl, _, rfl, iteF ⟨fv, _, _, _, rfl, sG1.trans s', ?_⟩⟩
          rcases inv1 with ⟨e, af⟩ | ⟨r, bs, e1, e2, e3⟩
          · exact .inl ⟨e, free (fun d' e => by cases e; exact fr) af⟩
          · exact .inr ⟨r, bs, e1, s' _ _ e2, e3⟩
        · have one : OneFits cnt is pss s bs := ⟨i, d, ps, ho, hps, ft⟩
          refine ⟨_, rfl, rfl, _, rfl, iteT ⟨_, rfl, rfl, _, rfl, ?_⟩⟩
          rcases inv1 with ⟨e, af⟩ | ⟨r2, bs2, e1, e2, e3⟩
          · subst e
            exact iteT (iteT ⟨_, rfl, .ref r, _, _, _, rfl, sG1.trans s', .inr ⟨r, bs, rfl, hr, one⟩⟩)
          · subst e1
            refine iteF ⟨_, rfl, r, _, rfl, .inl (SqL.of hr), _, rfl, r2, _, rfl, .inl (SqL.of (s' _ _ e2)), _, _, rfl, rfl, _, rfl, ?_⟩
            by_cases lt' : (((bs.map V.int).length : Nat) : Int) < (((bs2.map V.int).length : Nat) : Int)
            · rw [decide_eq_true lt']
              exact iteT ⟨_, rfl, .ref r, _, _, _, rfl, sG1.trans s', .inr ⟨r, bs, rfl, hr, one⟩⟩
            · rw [decide_eq_false lt']
              exact iteF ⟨.ref r2, _, _, _, rfl, sG1.trans s', .inr ⟨r2, bs2, rfl, s' _ _ e2, e3⟩⟩
    · rintro σ G ⟨fv, y5, y6, y7, rfl, sG, inv⟩
      rcases inv with ⟨rfl, af⟩ | ⟨r, bs, rfl, e2, e3⟩
      · exact ⟨_, rfl, qn G sG (by rw [sl, ← xl]; exact af)⟩
      · exact ⟨_, rfl, ql G r bs sG e2 e3⟩
end
end Ov
namespace Ov
open PySem PySem.Spec PyProof.Rows L2
theorem key_od {a b : Option Dst} (h : Nd.keyD (odD a) = Nd.keyD (odD b)) : a = b := by
  cases a with
  | none =>
    cases b with
    | none => rfl
    | some d => simp [odD, dstD, Nd.keyD, Nd.keyDs] at h
  | some c =>
    cases b with
    | none => simp [odD, dstD, Nd.keyD, Nd.keyDs] at h
    | some d =>
      obtain ⟨c1, c2, c3⟩ := c
      obtain ⟨d1, d2, d3⟩ := d
      simp only [odD, dstD, Nd.keyD, Nd.keyDs, NestedKey.tup.injEq, List.cons.injEq, NestedKey.num.injEq, and_true] at h
      obtain ⟨h1, h2, h3⟩ := h
      have e1 : c1 = d1 := by omega
      have e3 : c3 = d3 := by omega
      have e2 : c2 = d2 := by
        cases c2 <;> cases d2 <;> simp at h2 <;> rfl
      rw [e1, e2, e3]
theorem key_ods : ∀ {l m : List (Option Dst)}, Nd.keyDs (l.map odD) = Nd.keyDs (m.map odD) → l = m
  | [], [], _ => rfl
  | [], b :: m, h => by simp [Nd.keyDs] at h
  | a :: l, [], h => by simp [Nd.keyDs] at h
  | a :: l, b :: m, h => by
    rw [List.map_cons, List.map_cons] at h
    have h' : Nd.keyD (odD a) :: Nd.keyDs (l.map odD) = Nd.keyD (odD b) :: Nd.keyDs (m.map odD) := h
    rw [List.cons.injEq] at h'
    rw [key_od h'.1, key_ods h'.2]
theorem key_st {s t : Sta} (h : Nd.keyD (stD s) = Nd.keyD (stD t)) : s = t := by
  obtain ⟨s1, s2⟩ := s
  obtain ⟨t1, t2⟩ := t
  simp only [stD, Nd.keyD, Nd.keyDs, NestedKey.tup.injEq, List.cons.injEq, NestedKey.num.injEq, and_true] at h
  have e1 : s1 = t1 := by omega
  rw [e1, key_ods h.2]
theorem canKey_ods : ∀ l : List (Option Dst), Nd.canKeys (l.map odD) = true
  | [] => rfl
  | none :: l => by
    show (Nd.canKey .none && Nd.canKeys (l.map odD)) = true
    rw [canKey_ods l]; rfl
  | some d :: l => by
    show (Nd.canKey (dstD d) && Nd.canKeys (l.map odD)) = true
    rw [canKey_ods l]; rfl
theorem canKey_st (s : Sta) : Nd.canKey (stD s) = true := by
  show (Nd.canKey (.int (s.1 : Int)) && (Nd.canKeys (s.2.map odD) && true)) = true
  rw [canKey_ods]; rfl
theorem noList_ods : ∀ l : List (Option Dst), noListAll (l.map odD) = true
  | [] => by simp [noListAll]
  | none :: l => by
    have := noList_ods l
    simp [noListAll, odD, noList, this]
  | some d :: l => by
    have := noList_ods l
    simp [noListAll, odD, dstD, noList, this]
theorem noList_st (s : Sta) : noList (stD s) = true := by
  simp [stD, noList, noListAll, noList_ods]
theorem depth_od (a : Option Dst) : (Nd.keyD (odD a)).depth ≤ 2 := by
  cases a with
  | none => simp [odD, Nd.keyD, NestedKey.depth]
  | some d => simp [odD, dstD, Nd.keyD, Nd.keyDs, NestedKey.depth, NestedKey.depthAll]
theorem depth_ods : ∀ l : List (Option Dst), NestedKey.depthAll (Nd.keyDs (l.map odD)) ≤ 2
  | [] => by simp [Nd.keyDs, NestedKey.depthAll]
  | a :: l => by
    have h1 := depth_od a
    have h2 := depth_ods l
    rw [List.map_cons]
    show NestedKey.depthAll (Nd.keyD (odD a) :: Nd.keyDs (l.map odD)) ≤ 2
    simp only [NestedKey.depthAll]
    omega
theorem depth_st (s : Sta) : (Nd.keyD (stD s)).depth ≤ 8 := by
  have h := depth_ods s.2
  simp only [stD, Nd.keyD, Nd.keyDs, NestedKey.depth, NestedKey.depthAll]
  omega
theorem keyOk_st {K : PySem.W.Frag} {H : Hp} {b : Addr} {s : Sta} (h : Dx K H (.ref b) (stD s)) : Nd.KeyOk K H b (stD s) := ⟨h, canKey_st s, depth_st s⟩
/-- a dict of states that changes -/
structure DictM (K : PySem.W.Frag) (w : World) (T M : Hp) (p : Addr) (es : List Nd.Ent) : Prop where
  at_ : M p = some (Nd.ndO w p (Nd.kvs es))
  ks : ∀ e ∈ es, Nd.KeyOk K T e.2.1 e.1
  nd : (es.map fun e => Nd.keyD e.1).Nodup
  sm : (p == sysModules) = false
  len : es.length ≤ sizeLine
section
variable {K : PySem.W.Frag} {w : World} {T T' M M' G : Hp} {p : Addr} {es : List Nd.Ent}
theorem DictM.get (D : DictM K w T M p es) (W : Md T M G) : Nd.NdAt K w G p es := ⟨W.at D.at_, fun e he => (D.ks e he).same W.th, D.nd, D.sm, D.len⟩
theorem DictM.to (D : DictM K w T M p es) (s : Same T T') (h : M' p = M p) : DictM K w T' M' p es := ⟨h.trans D.at_, fun e he => (D.ks e he).same s, D.nd, D.sm, D.len⟩
theorem DictM.more {b : Addr} {v : V} {t : Sta} {G' : Hp} (D : DictM K w T M p es) (N : Nd.NdAt K w G' p (es ++ [(stD t, b, v)])) (k : Dx K T (.ref b) (stD t)) : DictM K w T (upd M p (Nd.ndO w p (Nd.kvs (es ++ [(stD t, b, v)])))) p (es ++ [(stD t, b, v)]) :=
  ⟨upd_same, fun e he => by
    rcases List.mem_append.mp he with h | h
    · exact D.ks e h
    · rw [List.mem_singleton.mp h]; exact keyOk_st k, N.nd, N.sm, N.len⟩
theorem valN_at {es : List Nd.Ent} (nd : (es.map fun e => Nd.keyD e.1).Nodup) {e : Nd.Ent} {d : PyData} (h : e ∈ es) (k : Nd.keyD e.1 = Nd.keyD d) : Nd.valN es d = some e.2.2 := by
  unfold Nd.valN
  induction es with
  | nil => cases h
  | cons x es ih =>
    rw [List.map_cons, List.nodup_cons] at nd
    rw [List.find?_cons]
    by_cases c : Nd.keyD x.1 = Nd.keyD d
    · rw [decide_eq_true c]
      rcases List.mem_cons.mp h with e1 | e1
      · rw [e1]; rfl
      · exact absurd (List.mem_map.mpr ⟨e, e1, k.trans c.symm⟩) nd.1
    · rw [decide_eq_false c]
      rcases List.mem_cons.mp h with e1 | e1
      · rw [e1] at k; exact absurd k c
      · exact ih nd.2 e1
theorem valN_no {es : List Nd.Ent} {d : PyData} (h : ∀ e ∈ es, Nd.keyD e.1 ≠ Nd.keyD d) : Nd.valN es d = none := by
  unfold Nd.valN
  rw [List.find?_eq_none.mpr fun e he => by simpa using h e he]
  rfl
/-- what changed becomes what stands -/
def less1 (M : Hp) (L : Addr) : Hp := fun b => if b = L then none else M b
theorem Md.freeze (W : Md T M G) {L : Addr} {o : HO} (h : M L = some o) : Md (upd T L o) (less1 M L) G := by
  have t0 := W.dis L (by rw [h]; exact fun z => nomatch z)
  refine ⟨fun b x e => ?_, fun b x e => ?_, fun b e => ?_, fun b u e => ?_⟩
  · by_cases c : b = L
    · subst c; rw [upd_same] at e; cases e; exact W.at h
    · rw [upd_ne c] at e; exact W.th _ _ e
  · unfold less1 at e
    by_cases c : b = L
    · rw [if_pos c] at e; cases e
    · rw [if_neg c] at e; exact W.mh _ _ e
  · unfold less1 at e
    by_cases c : b = L
    · rw [if_pos c] at e; exact absurd rfl e
    · rw [if_neg c] at e; rw [upd_ne c]; exact W.dis b e
  · unfold less1 at e
    by_cases c : b = L
    · rw [if_pos c] at e; cases e
    · rw [if_neg c] at e; exact W.nt b u e
theorem Md.freezeT (W : Md T M G) {L : Addr} {o : HO} (h : M L = some o) : Same T (upd T L o) := same_upd (W.dis L (by rw [h]; exact fun z => nomatch z))
theorem less1_ne {M : Hp} {L b : Addr} (h : b ≠ L) : less1 M L b = M b := if_neg h
/-- what a state is, in the part that stands -/
theorem Md.state (W : Md T M G) {v : V} {t : Sta} (D : Dx K G v (stD t)) : Dx K (restM M G) v (stD t) := Dx.restM W D (noList_st t)
end
end Ov
namespace Ov
open PySem PySem.Spec PyProof.Rows L2
/-- next states with the bytes that lead to them, in a list -/
structure MvAt (K : PySem.W.Frag) (H0 H : Hp) (B r : Addr) (g : List (Sta × List Int)) : Prop where
  nr : H0 r = none
  ob : ∃ us : List V, H r = some (.lst us) ∧ us.length = g.length ∧ ∀ (j : Nat) (t : Sta) (bs : List Int), g[j]? = some (t, bs) → ∃ (T st bl : Addr), us[j]? = some (.ref T) ∧ H T = some (.tup [.ref st, .ref bl]) ∧ Dx K H (.ref st) (stD t) ∧ H bl = some (.lst (bs.map V.int)) ∧ (H0 bl = none ∨ bl = B)
theorem zips_at {s : Sta} {gs : List Nat} {pss : List (List PStep)} {i : Nat} {o : Option Dst} {g : Nat} {ps : List PStep} (h : (zips s gs pss)[i]? = some (o, g, ps)) : s.2[i]? = some o ∧ gs[i]? = some g ∧ pss[i]? = some ps := by
  unfold zips at h
  rw [List.getElem?_zip_eq_some, List.getElem?_zip_eq_some] at h
  exact h
theorem zips_mk {s : Sta} {gs : List Nat} {pss : List (List PStep)} {i : Nat} {o : Option Dst} {g : Nat} {ps : List PStep} (h1 : s.2[i]? = some o) (h2 : gs[i]? = some g) (h3 : pss[i]? = some ps) : (zips s gs pss)[i]? = some (o, g, ps) := by
  unfold zips
  rw [List.getElem?_zip_eq_some, List.getElem?_zip_eq_some]
  exact ⟨h1, h2, h3⟩
theorem Bf.firsts_len {S : Type} [DecidableEq S] (f : Int → Option S) : ∀ (n : Nat) (l : List Int), l.length ≤ n → (Bf.firsts f l).length ≤ l.length
  | 0, l, h => by
    have : l = [] := List.length_eq_zero_iff.mp (by omega)
    subst this; exact Nat.le_refl _
  | n + 1, l, h => by
    rcases Bf.eq_snoc l with e | ⟨r, b, rfl⟩
    · subst e; exact Nat.le_refl _
    · rw [List.length_append, List.length_singleton] at h ⊢
      have ih := Bf.firsts_len f n r (by omega)
      rw [Bf.firsts_snoc]
      cases hb : f b with
      | none => dsimp only; omega
      | some u =>
        dsimp only
        split
        · omega
        · rw [List.length_append, List.length_singleton]; omega
/-- no decoder looks: all bytes lead to one state -/
theorem free_one {is : List I4} {pss : List (List PStep)} {gs : List Nat} {s : Sta} (sl : s.2.length = pss.length) (af : AllFree is pss s s.2.length) : ∃ t, ∀ b, stepS is pss gs s b = some t := by
  have key : ∃ ds, ∀ b, movs is (min (s.1 + 1) (lastG gs)) b (zips s gs pss) = some ds := by
    have one : ∀ q ∈ zips s gs pss, ∃ x, ∀ b, movB is (min (s.1 + 1) (lastG gs)) b q = some x := fun q hq => by
      obtain ⟨o, g, ps⟩ := q
      obtain ⟨i, hi⟩ := List.mem_iff_getElem?.mp hq
      obtain ⟨h1, h2, h3⟩ := zips_at hi
      cases o with
      | none => exact ⟨_, fun b => rfl⟩
      | some d =>
        obtain ⟨d', hd'⟩ := af i d ps (List.getElem?_eq_some_iff.mp h1).1 h1 h3
        exact ⟨some d', fun b => by show (decB is ps d b).map some = _; rw [hd' b]; rfl⟩
    have all : ∀ zs : List (Option Dst × Nat × List PStep), (∀ q ∈ zs, ∃ x, ∀ b, movB is (min (s.1 + 1) (lastG gs)) b q = some x) → ∃ ds : List (Option Dst), ∀ b, zs.map (movB is (min (s.1 + 1) (lastG gs)) b) = ds.map some := by
      intro zs
      induction zs with
      | nil => intro _; exact ⟨[], fun b => rfl⟩
      | cons q zs ih =>
        intro h
        obtain ⟨x, hx⟩ := h q List.mem_cons_self
        obtain ⟨ds, hds⟩ := ih fun q' h' => h q' (List.mem_cons_of_mem _ h')
        exact ⟨x :: ds, fun b => by rw [List.map_cons, List.map_cons, hx b, hds b]⟩
    obtain ⟨ds, hds⟩ := all _ one
    exact ⟨ds, fun b => gfold_mk (hds b)⟩
  obtain ⟨ds, hds⟩ := key
  refine ⟨(min (s.1 + 1) (lastG gs), ds), fun b => ?_⟩
  show (movs is (min (s.1 + 1) (lastG gs)) b (zips s gs pss)).map _ = _
  rw [hds b]
  rfl
/-- bytes that lead on are among those of any decoder -/
theorem fits_in {cnt : Nat} {is : List I4} {pss : List (List PStep)} {gs : List Nat} {s : Sta} {bs : List Int} (lgp : gs.length = pss.length) (one : OneFits cnt is pss s bs) {b : Int} (h : (stepS is pss gs s b).isSome = true) : b ∈ bs := by
  obtain ⟨i, d, ps, h1, h2, ft⟩ := one
  obtain ⟨g, hg⟩ : ∃ g, gs[i]? = some g := ⟨gs[i]'(by have := (List.getElem?_eq_some_iff.mp h2).1; omega), List.getElem?_eq_getElem _⟩
  have hz := zips_mk (s := s) h1 hg h2
  refine ft.2.2.1 b ?_
  cases e : movs is (min (s.1 + 1) (lastG gs)) b (zips s gs pss) with
  | none =>
    have : stepS is pss gs s b = none := by
      show (movs is (min (s.1 + 1) (lastG gs)) b (zips s gs pss)).map _ = _
      rw [e]; rfl
    rw [this] at h; cases h
  | some ds =>
    have m := gfold_some (show gfold (movB is (min (s.1 + 1) (lastG gs)) b) (zips s gs pss) = some ds from e)
    have := congrArg (fun l => l[i]?) m
    rw [List.getElem?_map, List.getElem?_map, hz] at this
    cases hd : decB is ps d b with
    | some d' => rfl
    | none =>
      have e2 : movB is (min (s.1 + 1) (lastG gs)) b (some d, g, ps) = none := by show (decB is ps d b).map some = none; rw [hd]; rfl
      rw [Option.map_some, e2] at this
      cases hds : ds[i]? with
      | none => rw [hds] at this; cases this
      | some z => rw [hds] at this; cases this
theorem fits_grp {cnt : Nat} {is : List I4} {pss : List (List PStep)} {gs : List Nat} {s : Sta} {bs : List Int} (lgp : gs.length = pss.length) (one : OneFits cnt is pss s bs) : Bf.grp (stepS is pss gs s) bs = Bf.grp (stepS is pss gs s) (Bf.rng cnt) := by
  refine Bf.grp_filter _ (Bf.asc_ext ?_ ?_ fun x => ?_)
  · obtain ⟨_, _, _, _, _, ft⟩ := one
    exact ft.1.sublist List.filter_sublist
  · exact (Bf.rng_asc cnt).sublist List.filter_sublist
  · rw [List.mem_filter, List.mem_filter]
    constructor
    · rintro ⟨h1, h2⟩
      obtain ⟨_, _, _, _, _, ft⟩ := one
      exact ⟨Bf.rng_mem.mpr (ft.2.1 x h1), h2⟩
    · rintro ⟨_, h2⟩
      exact ⟨fits_in lgp one h2, h2⟩
section
variable {P : Program} {w : World} {K : PySem.W.Frag} {mg : Str → Option Value} {base : Heap}
/-- the lists of bytes by next states, amid the bytes -/
structure Found (K : PySem.W.Frag) (w : World) (T M : Hp) (p : Addr) (H0 : Hp) (es : List Nd.Ent) (f : Int → Option Sta) (l : List Int) : Prop where
  dm : DictM K w T M p es
  len : es.length = (Bf.firsts f l).length
  at_ : ∀ (j : Nat) (t : Sta), (Bf.firsts f l)[j]? = some t → ∃ b L, es[j]? = some (stD t, b, .ref L) ∧ Dx K T (.ref b) (stD t) ∧ M L = some (.lst ((Bf.leads f l t).map V.int)) ∧ L ≠ p ∧ H0 L = none
  inj : ∀ (i j : Nat) (e1 e2 : Nd.Ent), es[i]? = some e1 → es[j]? = some e2 → e1.2.2 = e2.2.2 → i = j
section
variable {K : PySem.W.Frag} {w : World} {T T1 M : Hp} {p : Addr} {H0 : Hp} {es : List Nd.Ent} {f : Int → Option Sta} {bs : List Int} {i : Nat} {b : Int} {t : Sta}
theorem Found.skip (F : Found K w T M p H0 es f (bs.take i)) (hb : bs[i]? = some b) (h : f b = none) : Found K w T M p H0 es f (bs.take (i + 1)) := by
  have e1 : Bf.firsts f (bs.take (i + 1)) = Bf.firsts f (bs.take i) := by rw [take_more hb, Bf.firsts_snoc, h]
  refine ⟨F.dm, by rw [e1]; exact F.len, fun j t' hj => ?_, F.inj⟩
  rw [e1] at hj
  obtain ⟨x, L, h1, h2, h3, h4, h5⟩ := F.at_ j t' hj
  exact ⟨x, L, h1, h2, by rw [h3, take_more hb, Bf.leads_snoc, if_neg (by rw [h]; exact fun z => nomatch z), List.append_nil], h4, h5⟩
theorem Found.no (F : Found K w T M p H0 es f (bs.take i)) (h : t ∉ Bf.firsts f (bs.take i)) : Nd.valN es (stD t) = none := valN_no fun e he z => by
  obtain ⟨j, hj⟩ := List.mem_iff_getElem?.mp he
  have jl := (List.getElem?_eq_some_iff.mp hj).1
  obtain ⟨t', ht'⟩ : ∃ t', (Bf.firsts f (bs.take i))[j]? = some t' := ⟨_, List.getElem?_eq_getElem (by rw [← F.len]; exact jl)⟩
  obtain ⟨x, L, h1, _⟩ := F.at_ j t' ht'
  rw [hj] at h1
  cases h1
  rw [← key_st z] at h
  exact h (List.mem_of_getElem? ht')
theorem Found.again (F : Found K w T M p H0 es f (bs.take i)) (sT : Same T T1) (hb : bs[i]? = some b) (h : f b = some t) {j : Nat} (hj : (Bf.firsts f (bs.take i))[j]? = some t) {x L : Addr} (he : es[j]? = some (stD t, x, .ref L)) :
    Found K w T1 (upd M L (.lst ((Bf.leads f (bs.take i) t).map V.int ++ [V.int b]))) p H0 es f (bs.take (i + 1)) := by
  have e1 : Bf.firsts f (bs.take (i + 1)) = Bf.firsts f (bs.take i) := by rw [take_more hb, Bf.firsts_snoc, h]; dsimp only; rw [if_pos (List.mem_of_getElem? hj)]
  obtain ⟨x0, L0, g1, g2, g3, g4, g5⟩ := F.at_ j t hj
  rw [he] at g1
  cases g1
  refine ⟨F.dm.to sT (upd_ne (Ne.symm g4)), by rw [e1]; exact F.len, fun j' t' hj' => ?_, F.inj⟩
  rw [e1] at hj'
  obtain ⟨x', L', h1, h2, h3, h4, h5⟩ := F.at_ j' t' hj'
  by_cases c : t' = t
  · subst c
    have jj : j' = j := by
      have nd := (Bf.frs f (bs.take i)).nd
      have l1 := (List.getElem?_eq_some_iff.mp hj').1
      have l2 := (List.getElem?_eq_some_iff.mp hj).1
      exact (List.getElem?_inj l1 nd).mp (hj'.trans hj.symm)
    subst jj
    rw [he] at h1
    cases h1
    refine ⟨x, L, he, h2.same sT, ?_, h4, h5⟩
    rw [upd_same, take_more hb, Bf.leads_snoc, if_pos h, List.map_append]
    rfl
  · have ne : L' ≠ L := fun z => by
      subst z
      have jj := F.inj j' j _ _ h1 he rfl
      subst jj
      rw [hj] at hj'
      exact c (Option.some.inj hj').symm
    refine ⟨x', L', h1, h2.same sT, ?_, h4, h5⟩
    rw [upd_ne ne, h3, take_more hb, Bf.leads_snoc, if_neg (by rw [h]; exact fun z => c (Option.some.inj z).symm), List.append_nil]
theorem Found.new (F : Found K w T M p H0 es f (bs.take i)) (sT : Same T T1) (hb : bs[i]? = some b) (h : f b = some t) (hin : t ∉ Bf.firsts f (bs.take i)) {a L : Addr} {G' : Hp} (N : Nd.NdAt K w G' p (es ++ [(stD t, a, V.ref L)])) (Da : Dx K T1 (.ref a) (stD t)) (Lp : L ≠ p) (h0 : H0 L = none) (hM : M L = none) :
    Found K w T1 (upd (upd (upd M L (.lst [])) p (Nd.ndO w p (Nd.kvs (es ++ [(stD t, a, V.ref L)])))) L (.lst ([] ++ [V.int b]))) p H0 (es ++ [(stD t, a, V.ref L)]) f (bs.take (i + 1)) := by
  have e1 : Bf.firsts f (bs.take (i + 1)) = Bf.firsts f (bs.take i) ++ [t] := by rw [take_more hb, Bf.firsts_snoc, h]; dsimp only; rw [if_neg hin]
  have old : ∀ (j : Nat) t', (Bf.firsts f (bs.take i))[j]? = some t' → ∃ x' L', es[j]? = some (stD t', x', .ref L') ∧ Dx K T1 (.ref x') (stD t') ∧ M L' = some (.lst ((Bf.leads f (bs.take i) t').map V.int)) ∧ L' ≠ p ∧ H0 L' = none ∧ L' ≠ L ∧ t' ≠ t := fun j t' hj => by
    obtain ⟨x', L', h1, h2, h3, h4, h5⟩ := F.at_ j t' hj
    exact ⟨x', L', h1, h2.same sT, h3, h4, h5, (fun z => by rw [z, hM] at h3; cases h3), fun z => hin (z ▸ List.mem_of_getElem? hj)⟩
  refine ⟨((F.dm.to sT (upd_ne (Ne.symm Lp))).more N Da).to (Same.refl _) (upd_ne (Ne.symm Lp)), by rw [e1, List.length_append, List.length_append, F.len]; rfl, fun j t' hj => ?_, fun i' j' e2 e3 hi hj z => ?_⟩
  · rw [e1] at hj
    rcases Bf.get_cases hj with g | ⟨g, rfl⟩
    · obtain ⟨x', L', h1, h2, h3, h4, h5, h6, h7⟩ := old j t' g
      refine ⟨x', L', Bf.get_app h1, h2, ?_, h4, h5⟩
      rw [upd_ne h6, upd_ne h4, upd_ne h6, h3, take_more hb, Bf.leads_snoc, if_neg (by rw [h]; exact fun z => h7 (Option.some.inj z).symm), List.append_nil]
    · refine ⟨a, L, by rw [g, ← F.len]; exact Bf.get_last, Da, ?_, Lp, h0⟩
      rw [upd_same, take_more hb, Bf.leads_snoc, if_pos h]
      have : Bf.leads f (bs.take i) t' = [] := by
        unfold Bf.leads
        refine List.filter_eq_nil_iff.mpr fun c hc z => hin (((Bf.frs f (bs.take i)).mem t').mpr ⟨c, hc, of_decide_eq_true z⟩)
      rw [this]
      rfl
  · have fresh : ∀ (k : Nat) e, es[k]? = some e → e.2.2 ≠ V.ref L := fun k e hk => by
      have kl := (List.getElem?_eq_some_iff.mp hk).1
      obtain ⟨t', ht'⟩ : ∃ t', (Bf.firsts f (bs.take i))[k]? = some t' := ⟨_, List.getElem?_eq_getElem (by rw [← F.len]; exact kl)⟩
      obtain ⟨x', L', h1, _, _, _, _, h6, _⟩ := old k t' ht'
      rw [hk] at h1
      cases h1
      exact fun z => h6 (V.ref.inj z)
    rcases Bf.get_cases hi with g | ⟨g, rfl⟩
    · rcases Bf.get_cases hj with g2 | ⟨g2, rfl⟩
      · exact F.inj i' j' e2 e3 g g2 z
      · exact absurd z (fresh _ _ g)
    · rcases Bf.get_cases hj with g2 | ⟨g2, rfl⟩
      · exact absurd z.symm (fresh _ _ g2)
      · rw [g, g2]
end
abbrev sStateMachine_moves : Stmt := inClass cStateMachine 4
def spMoves (K : PySem.W.Frag) (Cm : Addr) : Sp := fun vs H Q _ => ∃ (m : Addr) (cnt lg : Nat) (is : List I4) (pss : List (List PStep)) (gs : List Nat) (v : V) (s : Sta), vs = [.ref m, v] ∧ MacAt K Cm H m cnt is pss gs ∧ TabOk cnt lg is ∧ Plns cnt is pss ∧ gs ≠ [] ∧ gs.length = pss.length ∧ Dx K H v (stD s) ∧ StaOk pss gs s ∧
  ∀ H' r B, Same H H' → (∃ dx E Pd Tk D, H m = some (.ins Cm dx (mf5 E Pd Tk D B))) → MvAt K H H' B r (Bf.grp (stepS is pss gs s) (Bf.rng cnt)) → Q (.ref r) H'
abbrev nMovesM : List Str := ["self", "state", "fitting", "found", "byte", "behind"]
theorem scMovesM : FnScope nMovesM ["self", "state"] (defScope sStateMachine_moves) := ⟨rfl, rfl, rfl, by decide +kernel, rfl, by decide +kernel, by decide +kernel⟩
theorem ok_movesM {f Cm fMcSb fMcFb : Addr} {fd fdMcSb fdMcFb : FuncData} {k : Nat} (F : Fun K "moves" "StateMachine.moves" sStateMachine_moves f fd) (T : Bi mg) (Sm : MacTxt K mg Cm) (MMcSb : Meth K Cm "state_behind" fMcSb) (bMcSb : Binds K fdMcSb ["self", "state", "byte"] []) (GMcSb : FnOk P w K mg base CX0 k fMcSb fdMcSb ["self", "state", "byte"] (spBehindM K Cm)) (MMcFb : Meth K Cm "fitting_bytes" fMcFb) (bMcFb : Binds K fdMcFb ["self", "state"] []) (GMcFb : FnOk P w K mg base CX0 k fMcFb fdMcFb ["self", "state"] (spFitB K Cm)) :
    FnOk P w K mg base CX0 (k + 1) f fd ["self", "state"] (spMoves K Cm) := by
  refine F.ok scMovesM (fun vs H Q E h => ?_) (fun cdv A' outer s H vs Q E hr h => ?_)
  · obtain ⟨m, cnt, lg, is, pss, gs, v, s, rfl, _⟩ := h
    rfl
  · obtain ⟨m, cnt, lg, is, pss, gs, v, s, rfl, MA, ok, pl, gne, lgp, Dv, sok, q⟩ := h
    refine ⟨_, pss_cons (ps_set (i := 2) scMovesM.nd rfl (.inl rfl) (pe_meth (pv 0) Sm.cl MMcFb GMcFb hr bMcFb .nil pass0 (pa_cons (pv 1) pa_nil)))
      (pss_cons (ps_if (pt_cmpR op_isN (pv 2) pe_non (nomark _)) (pss_one (ps_ret (pe_lst (pa_cons (pe_tup (pa_cons (pe_meth (pv 0) Sm.cl MMcSb GMcSb hr bMcSb .nil pass0 (pa_cons (pv 1) (pa_cons pe_int pa_nil))) (pa_cons (pe_fld (pv 0) rfl) pa_nil))) pa_nil)))) pss_nil)
      (pss_cons (ps_set (i := 3) scMovesM.nd rfl (.inl rfl) Nd.pe_nnew)
      (pss_cons (ps_for PassesOwn.never rfl (pi_list (pv 2)) (pg_name (i := 4) scMovesM.nd rfl (.inl rfl)) (pss_cons (ps_set (i := 5) scMovesM.nd rfl (.inl rfl) (pe_meth (pv 0) Sm.cl MMcSb GMcSb hr bMcSb .nil pass0 (pa_cons (pv 1) (pa_cons (pv 4) pa_nil))))
      (pss_one (ps_if (pt_cmpR op_notN (pv 5) pe_non (nomark _)) (pss_one (ps_expr (pe_bm PySem.F.plainAttrs_list PySem.F.slot_list_append PySem.F.type_list_append mt_append (Nd.pe_nset hr.units (pv 3) (pv 5) (pe_lst pa_nil) ⟨rfl, rfl, rfl, rfl⟩) (pa_cons (pv 4) pa_nil)))) pss_nil))))
      (pss_one (ps_ret (Nd.pe_listItems (by rfl) T.list (by rfl) (pv 3))))))), ?_⟩
    obtain ⟨dx, E, Pd, Tk, D, B, tvs, hm, hE, hPd, hTk, TA, hD, hB⟩ := MA.ob
    have sl := sok.len
    have c2 := ok.cb
    refine ⟨_, rfl, m, dx, _, rfl, hm, mf_no _ _ _ _ _ (by decide), _, rfl, m, cnt, lg, is, pss, gs, v, s, rfl, MA, ok, pl, Dv, sok, fun H1 s1 af => ?_, fun H1 r bs s1 hr1 one => ?_⟩
    · refine ⟨_, rfl, rfl, _, rfl, iteT ⟨_, rfl, m, dx, _, rfl, s1 _ _ hm, mf_no _ _ _ _ _ (by decide), _, rfl, m, cnt, lg, is, pss, gs, v, s, 0, rfl, MA.same s1, ok, pl, gne, lgp, Dv.same s1, sok, fun H2 v2 s2 D2 => ?_⟩⟩
      obtain ⟨t, ht⟩ := free_one (gs := gs) sl af
      have e0 : behind is pss gs s 0 = some t := ht 0
      rw [e0] at D2
      obtain ⟨a, b, xs, rfl, _⟩ := dx_st (show Dx K H2 v2 (stD t) from D2)
      have s12 := s1.trans s2
      refine ⟨_, rfl, m, Cm, dx, _, _, rfl, s12 _ _ hm, Sm.cl, Sm.nB, mf_B _ _ _ _ _, by show 2 ≤ sizeLine; decide, fun u nu => ⟨by show 1 ≤ sizeLine; decide, fun r nr => q _ r B ((s12.trans (same_upd nu)).trans (same_upd nr)) ⟨dx, E, Pd, Tk, D, hm⟩ ?_⟩⟩
      have s3 := (same_upd (o := HO.tup [V.ref a, V.ref B]) nu).trans (same_upd (o := HO.lst [V.ref u]) nr)
      rw [Bf.grp_const _ t _ _ (Nat.le_refl _) (fun z => by have := congrArg List.length z; unfold Bf.rng at this; simp at this; omega) (fun b _ => ht b)]
      refine ⟨(s12.trans (same_upd nu)).free nr, _, upd_same, rfl, fun j t' bs' hj => ?_⟩
      cases j with
      | succ j => simp at hj
      | zero =>
        cases hj
        exact ⟨u, a, B, rfl, (same_upd nr) _ _ upd_same, D2.same s3, (s12.trans s3) _ _ (by rw [hB]; unfold Bf.rng; rw [List.map_map]; rfl), .inr rfl⟩
    · refine ⟨_, rfl, rfl, _, rfl, iteF ?_⟩
      intro p np N0
      generalize hf : stepS is pss gs s = f at *
      have W0 : Md H1 (upd none1 p (Nd.ndO w p [])) (upd H1 p (Nd.ndO w p [])) := (Md.start H1).newM _ np trivial
      refine ⟨_, rfl, r, rfl, ⟨_, SqL.of ((same_upd np) _ _ hr1)⟩, for_list (xs := bs.map V.int)
        (fun i σ G => ∃ (T M : Hp) (es : List Nd.Ent) (y4 y5 : Option V), σ = [some (.ref m), some v, some (.ref r), some (.ref p), y4, y5] ∧ Md T M G ∧ Same H1 T ∧ Found K w T M p H1 es f (bs.take i))
        ⟨H1, _, [], _, _, rfl, W0, Same.refl _, ⟨⟨upd_same, (fun _ z => nomatch z), List.nodup_nil, N0.sm, Nat.zero_le _⟩, rfl, (fun j t z => by simp [Bf.firsts] at z), fun i j e1 e2 z => by simp at z⟩⟩
        (fun i σ G _ ⟨T, M, es, y4, y5, _, W, sT, _⟩ => SqL.of ((sT.trans W.th) _ _ hr1)) ?_ ?_⟩
      · rintro i x σ G hx ⟨T, M, es, y4, y5, rfl, W, sT, Fd⟩
        rw [List.getElem?_map] at hx
        obtain ⟨b, hb, rfl⟩ := Option.map_eq_some_iff.mp hx
        have sHG := (s1.trans sT).trans W.th
        have fl : es.length ≤ 100 := by
          have h1 := Bf.firsts_len f _ (bs.take i) (Nat.le_refl _)
          rw [List.length_take] at h1
          obtain ⟨_, _, _, _, _, ft⟩ := one
          have := ft.2.2.2
          rw [Fd.len]; omega
        refine ⟨_, rfl, m, dx, _, rfl, sHG _ _ hm, mf_no _ _ _ _ _ (by decide), _, rfl, _, rfl, m, cnt, lg, is, pss, gs, v, s, b, rfl, MA.same sHG, ok, pl, gne, lgp, Dv.same sHG, sok, fun G1 v1 sG D1 => ?_⟩
        have eb : behind is pss gs s b = f b := congrFun hf b
        rw [eb] at D1
        have W1 := W.pure sG
        refine ⟨_, rfl, rfl, _, rfl, ?_⟩
        cases hfb : f b with
        | none =>
          rw [hfb] at D1
          cases D1
          exact iteF ⟨T, M, es, _, _, rfl, W1, sT, Fd.skip hb hfb⟩
        | some t =>
          rw [hfb] at D1
          have sT1 := W1.restT
          have W1r := W1.rest
          have Da := W1.state (show Dx K G1 v1 (stD t) from D1)
          obtain ⟨a, _, _, rfl, _⟩ := dx_st (show Dx K G1 v1 (stD t) from D1)
          generalize restM M G1 = T1 at *
          refine iteT ⟨_, rfl, p, es, rfl, Fd.dm.get W1, _, rfl, Nat.zero_le _, fun L nL => ⟨a, es, stD t, rfl, (Fd.dm.to sT1 rfl).get (W1r.pure (same_upd nL)), keyOk_st (Da.same (W1r.pure (same_upd nL)).th), by rw [sizeLine_eq]; omega, fun v2 hv => ?_, fun hn N => ?_⟩⟩
          · by_cases hin : t ∈ Bf.firsts f (bs.take i)
            · obtain ⟨j, hj⟩ := List.mem_iff_getElem?.mp hin
              obtain ⟨b', L', e1, e2, e3, e4, e5⟩ := Fd.at_ j t hj
              rw [valN_at Fd.dm.nd (List.mem_of_getElem? e1) rfl] at hv
              cases hv
              have W2 := W1r.pure (same_upd (o := HO.lst []) nL)
              have hL' := W2.at e3
              have ll : ((Bf.leads f (bs.take i) t).map V.int).length ≤ 100 := by
                rw [List.length_map]
                have h1 : (Bf.leads f (bs.take i) t).length ≤ (bs.take i).length := by unfold Bf.leads; exact List.length_filter_le _ _
                rw [List.length_take] at h1
                obtain ⟨_, _, _, _, _, ft⟩ := one
                have := ft.2.2.2
                omega
              refine ⟨.inl ⟨rfl, _, SqL.of hL'⟩, _, rfl, L', _, _, rfl, rfl, hL', by rw [sizeLine_eq]; omega, T1, _, es, _, _, rfl, W2.setM _ (by rw [e3]; exact fun z => nomatch z) trivial, sT.trans sT1, ?_⟩
              exact Fd.again sT1 hb hfb hj e1
            · exact absurd hv (by rw [Fd.no hin]; exact fun z => nomatch z)
          · have hin : t ∉ Bf.firsts f (bs.take i) := fun hin => by
              obtain ⟨j, hj⟩ := List.mem_iff_getElem?.mp hin
              obtain ⟨b', L', e1, _⟩ := Fd.at_ j t hj
              rw [valN_at Fd.dm.nd (List.mem_of_getElem? e1) rfl] at hn
              cases hn
            have W2 := W1r.newM (L := L) (HO.lst []) nL trivial
            have Lp : L ≠ p := fun z => by
              have := W1.at Fd.dm.at_
              rw [← z, nL] at this
              cases this
            have W3 := W2.setM (L := p) (Nd.ndO w p (Nd.kvs (es ++ [(stD t, a, V.ref L)]))) (by rw [upd_ne (Ne.symm Lp), Fd.dm.at_]; exact fun z => nomatch z) trivial
            have hL3 : upd (upd G1 L (HO.lst [])) p (Nd.ndO w p (Nd.kvs (es ++ [(stD t, a, V.ref L)]))) L = some (.lst []) := by rw [upd_ne Lp]; exact upd_same
            refine ⟨.inl ⟨rfl, _, SqL.of hL3⟩, _, rfl, L, _, _, rfl, rfl, hL3, by rw [sizeLine_eq]; decide, T1, _, es ++ [(stD t, a, V.ref L)], _, _, rfl, W3.setM _ (by rw [upd_ne Lp, upd_same]; exact fun z => nomatch z) trivial, sT.trans sT1, ?_⟩
            exact Fd.new sT1 hb hfb hin N Da Lp ((sT.trans W.th).trans sG |>.free nL) (W1r.free nL).2
      · rintro σ G ⟨T, M, es, y4, y5, rfl, W, sT, Fd⟩
        rw [List.length_map, List.take_length] at Fd
        have fl : es.length ≤ 100 := by
          have h1 := Bf.firsts_len f _ bs (Nat.le_refl _)
          obtain ⟨_, _, _, _, _, ft⟩ := one
          have := ft.2.2.2
          rw [Fd.len]; omega
        refine ⟨_, rfl, p, es, rfl, Fd.dm.get W, by rw [sizeLine_eq]; omega, fun S us H2 hS sS nS ea => ?_⟩
        have sH2 := ((s1.trans sT).trans W.th).trans sS
        have eg : Bf.grp f bs = Bf.grp f (Bf.rng cnt) := by rw [← hf]; exact fits_grp lgp one
        refine q _ S B (sH2.trans (same_upd nS)) ⟨dx, E, Pd, Tk, D, hm⟩ ⟨sH2.free nS, us, upd_same, ?_, fun j t bs' hj => ?_⟩
        · rw [← eg]
          unfold Bf.grp
          rw [List.length_map, ea.1, Fd.len]
        · rw [← eg] at hj
          unfold Bf.grp at hj
          rw [List.getElem?_map] at hj
          obtain ⟨t', ht', e0⟩ := Option.map_eq_some_iff.mp hj
          cases e0
          obtain ⟨b', L', e1, e2, e3, e4, e5⟩ := Fd.at_ j t ht'
          have jl := (List.getElem?_eq_some_iff.mp e1).1
          obtain ⟨u, hu'⟩ : ∃ u, us[j]? = some u := ⟨us[j]'(by rw [ea.1]; exact jl), List.getElem?_eq_getElem _⟩
          obtain ⟨U, e, rfl, he, hU⟩ := ea.2 j u hu'
          rw [e1] at he
          cases he
          exact ⟨U, b', L', hu', (same_upd nS) _ _ hU, e2.same ((W.th.trans sS).trans (same_upd nS)), (same_upd nS) _ _ (sS _ _ (W.at e3)), .inl (s1.free e5)⟩
end
end Ov
namespace Ov
open PySem PySem.Spec PyProof.Rows L2
def orgD : Option (Nat × Int) → PyData
  | none => .none
  | some o => .tuple [.int (o.1 : Int), .int o.2]
def LstAt (K : PySem.W.Frag) (H : Hp) (l : Addr) (ds : List PyData) : Prop := ∃ us, H l = some (.lst us) ∧ DxAll K H us ds
/-- (number of the next state, its bytes), in a list -/
def RowPart (T : Hp) (rs : List V) (ss : List Sta) (g : List (Sta × List Int)) : Prop := rs.length = g.length ∧ ∀ (j : Nat) (t : Sta) (bs : List Int), g[j]? = some (t, bs) → ∃ (U : Addr) (k : Nat) (bl : Addr), rs[j]? = some (.ref U) ∧ T U = some (.tup [.int (k : Int), .ref bl]) ∧ ss[k]? = some t ∧ T bl = some (.lst (bs.map V.int))
def RowsAt (T : Hp) (ms : List V) (ss : List Sta) (step : Sta → Int → Option Sta) (cnt : Nat) : Prop := ∀ (i : Nat) (s : Sta), i < ms.length → ss[i]? = some s → ∃ R rs, ms[i]? = some (.ref R) ∧ T R = some (.lst rs) ∧ RowPart T rs ss (Bf.grp (step s) (Bf.rng cnt))
theorem RowPart.to {T T' : Hp} {rs : List V} {ss ss' : List Sta} {g : List (Sta × List Int)} (h : RowPart T rs ss g) (s : Same T T') (m : ∀ (k : Nat) t, ss[k]? = some t → ss'[k]? = some t) : RowPart T' rs ss' g :=
  ⟨h.1, fun j t bs hj => by
    obtain ⟨U, k, bl, h1, h2, h3, h4⟩ := h.2 j t bs hj
    exact ⟨U, k, bl, h1, s _ _ h2, m k t h3, s _ _ h4⟩⟩
theorem RowsAt.to {T T' : Hp} {ms : List V} {ss ss' : List Sta} {step : Sta → Int → Option Sta} {cnt : Nat} (h : RowsAt T ms ss step cnt) (s : Same T T') (m : ∀ (k : Nat) t, ss[k]? = some t → ss'[k]? = some t) (ml : ms.length ≤ ss.length) : RowsAt T' ms ss' step cnt := fun i t hi ht => by
  have h0 : ss[i]? = some t := by
    obtain ⟨t', ht'⟩ : ∃ t', ss[i]? = some t' := ⟨_, List.getElem?_eq_getElem (by omega)⟩
    have := m i t' ht'
    rw [ht] at this
    rw [ht', Option.some.inj this]
  obtain ⟨R, rs, h1, h2, h3⟩ := h i t hi h0
  exact ⟨R, rs, h1, s _ _ h2, h3.to s m⟩
theorem RowPart.more {T : Hp} {rs : List V} {ss : List Sta} {g : List (Sta × List Int)} (h : RowPart T rs ss g) {U bl : Addr} {k : Nat} {t : Sta} {bs : List Int} (hU : T U = some (.tup [.int (k : Int), .ref bl])) (hk : ss[k]? = some t) (hb : T bl = some (.lst (bs.map V.int))) : RowPart T (rs ++ [.ref U]) ss (g ++ [(t, bs)]) :=
  ⟨by rw [List.length_append, List.length_append, h.1]; rfl, fun j t' bs' hj => by
    rcases Bf.get_cases hj with e | ⟨e, e2⟩
    · obtain ⟨U', k', bl', h1, h2⟩ := h.2 j t' bs' e
      exact ⟨U', k', bl', Bf.get_app h1, h2⟩
    · cases e2
      exact ⟨U, k, bl, by rw [e, ← h.1]; exact Bf.get_last, hU, hk, hb⟩⟩
/-- the states, the dict of their numbers, their origins -/
structure ExM (K : PySem.W.Frag) (w : World) (T M : Hp) (S D O : Addr) (ss : List Sta) (os : List (Option (Nat × Int))) : Prop where
  sAt : ∃ us, M S = some (.lst us) ∧ DxAll K T us (ss.map stD)
  dAt : ∃ es, DictM K w T M D es ∧ es.length = ss.length ∧ ∀ (i : Nat) (s : Sta), ss[i]? = some s → ∃ b, es[i]? = some (stD s, b, .int (i : Int))
  oAt : ∃ vs, M O = some (.lst vs) ∧ DxAll K T vs (os.map orgD)
  sd : S ≠ D
  so : S ≠ O
  od : O ≠ D
/-- what machine.moves returned, in the part that stands -/
def MvT (K : PySem.W.Frag) (T : Hp) (r : Addr) (g : List (Sta × List Int)) : Prop := ∃ us : List V, T r = some (.lst us) ∧ us.length = g.length ∧ ∀ (j : Nat) (t : Sta) (bs : List Int), g[j]? = some (t, bs) → ∃ (U st bl : Addr), us[j]? = some (.ref U) ∧ T U = some (.tup [.ref st, .ref bl]) ∧ Dx K T (.ref st) (stD t) ∧ T bl = some (.lst (bs.map V.int))
section
variable {K : PySem.W.Frag} {w : World} {T T' M M' G G1 : Hp} {S D O : Addr} {ss : List Sta} {os : List (Option (Nat × Int))}
theorem ExM.to (E : ExM K w T M S D O ss os) (s : Same T T') (h : ∀ b, b = S ∨ b = D ∨ b = O → M' b = M b) : ExM K w T' M' S D O ss os := by
  obtain ⟨⟨us, a1, a2⟩, ⟨es, d1, d2, d3⟩, ⟨vs, o1, o2⟩, n1, n2, n3⟩ := E
  exact ⟨⟨us, (h S (.inl rfl)).trans a1, a2.same s⟩, ⟨es, d1.to s (h D (.inr (.inl rfl))), d2, d3⟩, ⟨vs, (h O (.inr (.inr rfl))).trans o1, o2.same s⟩, n1, n2, n3⟩
theorem MvAt.rest {B r : Addr} {g : List (Sta × List Int)} (h : MvAt K G G1 B r g) (W : Md T M G) (sG : Same G G1) (hB : T B ≠ none) : MvT K (restM M G1) r g := by
  have W1 := W.pure sG
  obtain ⟨us, h1, h2, h3⟩ := h.ob
  have fresh : ∀ {b}, G b = none → M b = none := fun n => (W.free n).2
  refine ⟨us, W1.restAt h1 (fresh h.nr), h2, fun j t bs hj => ?_⟩
  obtain ⟨U, st, bl, g1, g2, g3, g4, g5⟩ := h3 j t bs hj
  refine ⟨U, st, bl, g1, W1.tupAt g2, W1.state g3, W1.restAt g4 ?_⟩
  rcases g5 with n | e
  · exact fresh n
  · cases q : M bl with
    | none => rfl
    | some o => exact absurd (W.dis bl (by rw [q]; exact fun z => nomatch z)) (by rw [e]; exact hB)
theorem dx_org {T : Hp} {U : Addr} {n : Nat} {b : Int} (h : T U = some (.tup [.int (n : Int), .int b])) : Dx K T (.ref U) (orgD (some (n, b))) := .tup (SqT.of h) (.cons (.int _) (.cons (.int _) .nil))
end
theorem Md.ne {T M G : Hp} (W : Md T M G) {a b : Addr} {o : HO} (h : M a = some o) (n : G b = none) : a ≠ b := fun z => by
  have := W.at h
  rw [z, n] at this
  cases this
theorem ifY {b : Bool} {A B : Prop} (hb : b = true) (h : A) : if b = true then A else B := by rw [if_pos hb]; exact h
theorem ifN {b : Bool} {A B : Prop} (hb : b = false) (h : B) : if b = true then A else B := by rw [if_neg (by rw [hb]; exact Bool.false_ne_true)]; exact h
/-- no more states than there can be -/
theorem bfs_row {is : List I4} {pss : List (List PStep)} {gs : List Nat} (lgp : gs.length = pss.length) (asc : (gs.map fun n : Nat => (n : Int)).Pairwise (· < ·)) {cnt n : Nat} {ss : List Sta} {cs : List (List Int)} {os : List (Option (Nat × Int))} (B : Bf.Bfs (stepS is pss gs) (first0 gs) cnt n ss cs os) {s : Sta} (h : s ∈ ss) : ∃ row, rowSt is pss gs row = some s := by
  obtain ⟨i, hi⟩ := List.mem_iff_getElem?.mp h
  have il := (List.getElem?_eq_some_iff.mp hi).1
  obtain ⟨c, hc⟩ : ∃ c, cs[i]? = some c := ⟨cs[i]'(by rw [B.lc]; exact il), List.getElem?_eq_getElem _⟩
  have r := B.run i c s hc hi
  rw [run_row lgp asc c.length c (Nat.le_refl _)] at r
  exact ⟨c, r⟩
theorem bfs_few {is : List I4} {pss : List (List PStep)} {gs : List Nat} (lgp : gs.length = pss.length) (asc : (gs.map fun n : Nat => (n : Int)).Pairwise (· < ·)) {cnt n : Nat} {ss : List Sta} {cs : List (List Int)} {os : List (Option (Nat × Int))} (B : Bf.Bfs (stepS is pss gs) (first0 gs) cnt n ss cs os) : ss.length ≤ stcN is pss gs := by
  refine Nat.le_trans (Bf.nodup_le ss (allSta is pss gs) B.nd fun s hs => ?_) (allSta_len is lgp)
  obtain ⟨row, hr⟩ := bfs_row lgp asc B hs
  exact rowSt_all lgp asc hr
/-- what explore returns -/
structure Expd (K : PySem.W.Frag) (H' : Hp) (Tr : Addr) (fin : Bool) (step : Sta → Int → Option Sta) (s0 sf : Sta) (cnt n : Nat) (ss : List Sta) (cs : List (List Int)) (os : List (Option (Nat × Int))) : Prop where
  bf : Bf.Bfs step s0 cnt n ss cs os
  no : ∀ (i : Nat) s, i < n → ss[i]? = some s → fin = true → s ≠ sf
  ob : ∃ S O Mv ms, H' Tr = some (.tup [.ref S, .ref O, .ref Mv]) ∧ H' Mv = some (.lst ms) ∧ ms.length = n ∧ RowsAt H' ms ss step cnt ∧
    ((n = ss.length ∧ LstAt K H' S (ss.map stD) ∧ LstAt K H' O (os.map orgD)) ∨ (fin = true ∧ ss[n]? = some sf ∧ LstAt K H' S ((ss.take (n + 1)).map stD) ∧ LstAt K H' O ((os.take (n + 1)).map orgD)))
section
variable {P : Program} {w : World} {K : PySem.W.Frag} {mg : Str → Option Value} {base : Heap} {T M : Hp} {S D O : Addr} {ss : List Sta} {os : List (Option (Nat × Int))}
/-- amid the walk -/
structure Expl (K : PySem.W.Frag) (w : World) (H0 T M G : Hp) (S D O Mv : Addr) (fin : Bool) (step : Sta → Int → Option Sta) (s0 sf : Sta) (cnt n : Nat) (ss : List Sta) (cs : List (List Int)) (os : List (Option (Nat × Int))) : Prop where
  md : Md T M G
  sT : Same H0 T
  ex : ExM K w T M S D O ss os
  mAt : ∃ ms, M Mv = some (.lst ms) ∧ ms.length = n ∧ RowsAt T ms ss step cnt
  ms : Mv ≠ S
  mD : Mv ≠ D
  mO : Mv ≠ O
  bf : Bf.Bfs step s0 cnt n ss cs os
  low : Bf.Low n cs
  no : ∀ (i : Nat) s, i < n → ss[i]? = some s → fin = true → s ≠ sf
/-- amid the next states of one state -/
structure Inn (K : PySem.W.Frag) (w : World) (T1 T M G : Hp) (S D O Mv R : Addr) (ms : List V) (step : Sta → Int → Option Sta) (s0 : Sta) (cnt n k kr : Nat) (s : Sta) (c : List Int) (ss0 ss : List Sta) (cs : List (List Int)) (os : List (Option (Nat × Int))) : Prop where
  md : Md T M G
  sT : Same T1 T
  ex : ExM K w T M S D O ss os
  mv : M Mv = some (.lst ms)
  ra : RowsAt T ms ss step cnt
  rr : ∃ rs, M R = some (.lst rs) ∧ RowPart T rs ss ((Bf.grp (step s) (Bf.rng cnt)).take kr)
  am : Bf.Amid step s0 cnt n k s c ss cs os
  sub : ∀ (i : Nat) t, ss0[i]? = some t → ss[i]? = some t
theorem leads_hd {f : Int → Option Sta} {l : List Int} {t : Sta} (h : t ∈ Bf.firsts f l) : (Bf.leads f l t)[0]? = some (Bf.hd f l t) := by
  obtain ⟨b, hb, e⟩ := ((Bf.frs f l).mem t).mp h
  have hm : b ∈ Bf.leads f l t := Bf.leads_mem.mpr ⟨hb, e⟩
  unfold Bf.hd
  cases q : Bf.leads f l t with
  | nil => rw [q] at hm; cases hm
  | cons x r => rfl
theorem grp_at {f : Int → Option Sta} {l : List Int} {k : Nat} {t : Sta} {bs : List Int} (h : (Bf.grp f l)[k]? = some (t, bs)) : (Bf.firsts f l)[k]? = some t ∧ bs = Bf.leads f l t := by
  unfold Bf.grp at h
  rw [List.getElem?_map] at h
  obtain ⟨t', ht', e0⟩ := Option.map_eq_some_iff.mp h
  cases e0
  exact ⟨ht', rfl⟩
theorem ExM.no (E : ExM K w T M S D O ss os) {es : List Nd.Ent} (el : es.length = ss.length) (ea : ∀ (i : Nat) (s : Sta), ss[i]? = some s → ∃ b, es[i]? = some (stD s, b, .int (i : Int))) {t : Sta} (h : t ∉ ss) : Nd.valN es (stD t) = none := valN_no fun e he z => by
  obtain ⟨j, hj⟩ := List.mem_iff_getElem?.mp he
  have jl := (List.getElem?_eq_some_iff.mp hj).1
  obtain ⟨t', ht'⟩ : ∃ t', ss[j]? = some t' := ⟨_, List.getElem?_eq_getElem (by rw [← el]; exact jl)⟩
  obtain ⟨x, h1⟩ := ea j t' ht'
  rw [hj] at h1
  cases h1
  rw [← key_st z] at h
  exact h (List.mem_of_getElem? ht')
def spExplore (K : PySem.W.Frag) (Cm : Addr) : Sp := fun vs H Q _ => ∃ (m : Addr) (fin : Bool) (cnt lg : Nat) (is : List I4) (pss : List (List PStep)) (gs : List Nat), vs = [.ref m, .bl fin] ∧ MacAt K Cm H m cnt is pss gs ∧ TabOk cnt lg is ∧ Plns cnt is pss ∧ Ents gs ∧ gs.length = pss.length ∧ stcN is pss gs ≤ 100000 ∧
  ∀ H' Tr n ss cs os, Same H H' → Expd K H' Tr fin (stepS is pss gs) (first0 gs) (finS pss gs) cnt n ss cs os → Q (.ref Tr) H'
abbrev nExplore : List Str := ["machine", "ends_at_final", "states", "number_of", "origins", "moves", "at", "row", "found", "behind", "fitting"]
theorem scExplore : FnScope nExplore ["machine", "ends_at_final"] (defScope s_explore) := ⟨rfl, rfl, rfl, by decide +kernel, rfl, by decide +kernel, by decide +kernel⟩
theorem ok_explore {f Cm fMcMo fMcFi fMcFs : Addr} {fd fdMcMo fdMcFi fdMcFs : FuncData} {k : Nat} (F : Fun K "explore" "explore" s_explore f fd) (T : Bi mg) (Sm : MacTxt K mg Cm) (MMcMo : Meth K Cm "moves" fMcMo) (bMcMo : Binds K fdMcMo ["self", "state"] []) (GMcMo : FnOk P w K mg base CX0 k fMcMo fdMcMo ["self", "state"] (spMoves K Cm)) (MMcFi : Meth K Cm "is_final" fMcFi) (bMcFi : Binds K fdMcFi ["self", "state"] []) (GMcFi : FnOk P w K mg base CX0 k fMcFi fdMcFi ["self", "state"] (spFinal K Cm)) (MMcFs : Meth K Cm "first_state" fMcFs) (bMcFs : Binds K fdMcFs ["self"] []) (GMcFs : FnOk P w K mg base CX0 k fMcFs fdMcFs ["self"] (spFirst K Cm)) :
    FnOk P w K mg base CX0 (k + 1) f fd ["machine", "ends_at_final"] (spExplore K Cm) := by
  refine F.ok scExplore (fun vs H Q E h => ?_) (fun cdv A' outer s H vs Q E hr h => ?_)
  · obtain ⟨m, fin, cnt, lg, is, pss, gs, rfl, _⟩ := h
    rfl
  · obtain ⟨m, fin, cnt, lg, is, pss, gs, rfl, MA, ok, pl, oe, lgp, few, q⟩ := h
    refine ⟨_, pss_cons (ps_set (i := 2) scExplore.nd rfl (.inl rfl) (pe_lst (pa_cons (pe_meth0 (pv 0) Sm.cl MMcFs GMcFs hr bMcFs .nil pass0) pa_nil)))
      (pss_cons (ps_set (i := 3) scExplore.nd rfl (.inl rfl) (Nd.pe_ndisp hr.units (pe_ix ix_list (pv 2) pe_int (fun _ _ => rfl)) pe_int))
      (pss_cons (ps_set (i := 4) scExplore.nd rfl (.inl rfl) (pe_lst (pa_cons pe_non pa_nil)))
      (pss_cons (ps_set (i := 5) scExplore.nd rfl (.inl rfl) (pe_lst pa_nil))
      (pss_cons (ps_while PassesOwn.never (pt_cmpR op_lt (pe_callB call_len_seq (by rfl) T.len PySem.boot_len (pa_cons (pv 5) pa_nil)) (pe_callB call_len_seq (by rfl) T.len PySem.boot_len (pa_cons (pv 2) pa_nil)) (nomark _)) (pss_cons (ps_set (i := 6) scExplore.nd rfl (.inl rfl) (pe_callB call_len_seq (by rfl) T.len PySem.boot_len (pa_cons (pv 5) pa_nil)))
      (C8.pss_cut (ps_if (PW.pt (pw_and (pt_val (pv 1)) (pw_and1 (pt_val (pe_meth (pv 0) Sm.cl MMcFi GMcFi hr bMcFi .nil pass0 (pa_cons (pe_ix ix_list (pv 2) (pv 6) (fun _ _ => rfl)) pa_nil)))))) (pss_one (ps_ret (pe_tup (pa_cons (pe_slice sl_list (pv 2) po_none (po_some (pe_op op_add (pv 6) pe_int))) (pa_cons (pe_slice sl_list (pv 4) po_none (po_some (pe_op op_add (pv 6) pe_int))) (pa_cons (pv 5) pa_nil)))))) pss_nil)
      (pss_cons (ps_set (i := 7) scExplore.nd rfl (.inl rfl) (pe_lst pa_nil))
      (pss_cons (ps_set (i := 8) scExplore.nd rfl (.inl rfl) (pe_meth (pv 0) Sm.cl MMcMo GMcMo hr bMcMo .nil pass0 (pa_cons (pe_ix ix_list (pv 2) (pv 6) (fun _ _ => rfl)) pa_nil)))
      (pss_cons (ps_for PassesOwn.never rfl (pi_list (pv 8)) (pg_tup rfl (pgs_cons (pg_name (i := 9) scExplore.nd rfl (.inl rfl)) (pgs_cons (pg_name (i := 10) scExplore.nd rfl (.inl rfl)) pgs_nil))) (C8.pss_cut (ps_if (pt_cmp (Nd.pc_nnotin hr.units (pv 9) (pv 3))) (pss_cons (Nd.ps_nput hr.units (pv 3) (pv 9) (pe_callB call_len_seq (by rfl) T.len PySem.boot_len (pa_cons (pv 2) pa_nil)) rfl)
      (pss_cons (ps_expr (pe_bm PySem.F.plainAttrs_list PySem.F.slot_list_append PySem.F.type_list_append mt_append (pv 2) (pa_cons (pv 9) pa_nil)))
      (pss_one (ps_expr (pe_bm PySem.F.plainAttrs_list PySem.F.slot_list_append PySem.F.type_list_append mt_append (pv 4) (pa_cons (pe_tup (pa_cons (pv 6) (pa_cons (pe_ix ix_list (pv 10) pe_int (fun _ _ => rfl)) pa_nil))) pa_nil)))))) pss_nil)
      (pss_one (ps_expr (pe_bm PySem.F.plainAttrs_list PySem.F.slot_list_append PySem.F.type_list_append mt_append (pv 7) (pa_cons (pe_tup (pa_cons (Nd.pe_nget hr.units (pv 3) (pv 9) (fun _ _ => rfl)) (pa_cons (pv 10) pa_nil))) pa_nil))))))
      (pss_one (ps_expr (pe_bm PySem.F.plainAttrs_list PySem.F.slot_list_append PySem.F.type_list_append mt_append (pv 5) (pa_cons (pv 7) pa_nil))))))))))
      (pss_one (ps_ret (pe_tup (pa_cons (pv 2) (pa_cons (pv 4) (pa_cons (pv 5) pa_nil)))))))))), ?_⟩
    obtain ⟨dx, E, Pd, Tk, D0, B, tvs, hm, hE, hPd, hTk, TA, hD0, hB⟩ := MA.ob
    have gne : gs ≠ [] := fun z => by rw [z] at lgp; have := pl.one; simp at lgp; omega
    have c2 := ok.cb
    refine ⟨_, rfl, m, dx, _, rfl, hm, mf_no _ _ _ _ _ (by decide), m, cnt, is, pss, gs, rfl, MA, oe.few, fun H1 v1 s1 D1 => ⟨by show 1 ≤ sizeLine; decide, fun S nS => ?_⟩⟩
    obtain ⟨a0, _, _, rfl, _⟩ := dx_st D1
    have W1 : Md H1 (upd none1 S (.lst [.ref a0])) (upd H1 S (.lst [.ref a0])) := (Md.start H1).newM _ nS trivial
    generalize hM1 : upd none1 S (HO.lst [V.ref a0]) = M1 at W1
    have hS1 : M1 S = some (.lst [.ref a0]) := by rw [← hM1]; exact upd_same
    generalize upd H1 S (HO.lst [V.ref a0]) = G1 at *
    intro D nD N0
    have W2 := W1.newM (L := D) (Nd.ndO w D []) nD trivial
    have SD : S ≠ D := W1.ne hS1 nD
    have hS2 := W2.at (show upd M1 D (Nd.ndO w D []) S = some (.lst [.ref a0]) by rw [upd_ne SD]; exact hS1)
    refine ⟨_, rfl, S, _, _, _, rfl, rfl, SqL.of hS2, atI_nat (j := 0) rfl, a0, stD (first0 gs), rfl, N0, keyOk_st (D1.same W2.th), fun N1 => ⟨by show 1 ≤ sizeLine; decide, fun O nO => ⟨Nat.zero_le _, fun Mv nMv => ?_⟩⟩⟩
    have W3 := W2.setM (L := D) (Nd.ndO w D (Nd.kvs [(stD (first0 gs), a0, V.int 0)])) (by rw [upd_same]; exact fun z => nomatch z) trivial
    have hS3 : upd (upd M1 D (Nd.ndO w D [])) D (Nd.ndO w D (Nd.kvs [(stD (first0 gs), a0, V.int 0)])) S = some (.lst [.ref a0]) := by rw [upd_ne SD, upd_ne SD]; exact hS1
    have dm3 : DictM K w H1 (upd (upd M1 D (Nd.ndO w D [])) D (Nd.ndO w D (Nd.kvs [(stD (first0 gs), a0, V.int 0)]))) D [(stD (first0 gs), a0, V.int 0)] := ⟨upd_same, fun e he => by rw [List.mem_singleton.mp he]; exact keyOk_st D1, N1.nd, N1.sm, N1.len⟩
    generalize upd (upd M1 D (Nd.ndO w D [])) D (Nd.ndO w D (Nd.kvs [(stD (first0 gs), a0, V.int 0)])) = M3 at *
    generalize hG3 : upd (upd G1 D (Nd.ndO w D [])) D (Nd.ndO w D (Nd.kvs [(stD (first0 gs), a0, V.int 0)])) = G3 at *
    have nO : G3 O = none := by rw [← hG3]; exact nO
    have nMv : upd G3 O (.lst [.non]) Mv = none := by rw [← hG3]; exact nMv
    have SO : S ≠ O := W3.ne hS3 nO
    have DO : D ≠ O := W3.ne dm3.at_ nO
    have W4 := W3.newM (L := O) (.lst [.non]) nO trivial
    have MO : Mv ≠ O := Ne.symm (W4.ne upd_same nMv)
    have MS : Mv ≠ S := Ne.symm (W4.ne (by rw [upd_ne SO]; exact hS3) nMv)
    have MD : Mv ≠ D := Ne.symm (W4.ne (by rw [upd_ne DO]; exact dm3.at_) nMv)
    have W5 := W4.newM (L := Mv) (.lst []) nMv trivial
    have X0 : Expl K w H (H1) (upd (upd M3 O (.lst [.non])) Mv (.lst [])) (upd (upd G3 O (.lst [.non])) Mv (.lst [])) S D O Mv fin (stepS is pss gs) (first0 gs) (finS pss gs) cnt 0 [first0 gs] [[]] [none] :=
      ⟨W5, s1, ⟨⟨_, by rw [upd_ne (Ne.symm MS), upd_ne SO]; exact hS3, .cons D1 .nil⟩, ⟨_, dm3.to (Same.refl _) (by rw [upd_ne (Ne.symm MD), upd_ne DO]), rfl, fun i s hi => by
        cases i with
        | zero => cases hi; exact ⟨a0, rfl⟩
        | succ i => simp at hi⟩, ⟨_, by rw [upd_ne (Ne.symm MO)]; exact upd_same, .cons .non .nil⟩, SD, SO, Ne.symm DO⟩, ⟨[], upd_same, rfl, fun i s h => absurd h (Nat.not_lt_zero _)⟩, MS, MD, MO, Bf.Bfs.start _ _ _, Bf.Low.start, fun i s h => absurd h (Nat.not_lt_zero _)⟩
    generalize upd (upd M3 O (.lst [.non])) Mv (.lst []) = M5 at *
    clear dm3 hS3 hS2 nMv nO W3 W4 W5
    subst hG3
    refine while_by (fun σ G => ∃ (T M : Hp) (n : Nat) (ss : List Sta) (cs : List (List Int)) (os : List (Option (Nat × Int))) (y6 y7 y8 y9 y10 : Option V), σ = [some (.ref m), some (.bl fin), some (.ref S), some (.ref D), some (.ref O), some (.ref Mv), y6, y7, y8, y9, y10] ∧ Expl K w H T M G S D O Mv fin (stepS is pss gs) (first0 gs) (finS pss gs) cnt n ss cs os) (fun _ G => 100001 - lenAt G Mv)
      ⟨_, _, _, _, _, _, _, _, _, _, _, rfl, X0⟩ ?_ ?_
    · rintro σ G ⟨T, M, n, ss, cs, os, y6, y7, y8, y9, y10, rfl, X⟩
      obtain ⟨us, hS, DS⟩ := X.ex.sAt
      obtain ⟨ms, hMv, ml, RA⟩ := X.mAt
      have usl : us.length = ss.length := by rw [DS.len, List.length_map]
      have fw := bfs_few lgp oe.asc X.bf
      have GS := X.md.at hS
      have GM := X.md.at hMv
      have sHT := X.sT
      have sHG := sHT.trans X.md.th
      refine ⟨_, rfl, Mv, _, rfl, .inl (SqL.of GM), _, rfl, S, _, rfl, .inl (SqL.of GS), _, _, rfl, rfl, _, rfl, ?_⟩
      by_cases lt : (ms.length : Int) < (us.length : Int)
      · rw [decide_eq_true lt]
        have nl : n < ss.length := by omega
        obtain ⟨s, hs⟩ : ∃ s, ss[n]? = some s := ⟨_, List.getElem?_eq_getElem nl⟩
        obtain ⟨u, hu'⟩ : ∃ u, us[n]? = some u := ⟨us[n]'(by omega), List.getElem?_eq_getElem _⟩
        obtain ⟨c, hc⟩ : ∃ c, cs[n]? = some c := ⟨cs[n]'(by rw [X.bf.lc]; omega), List.getElem?_eq_getElem _⟩
        obtain ⟨ds, hds, Du⟩ := DS.at hu'
        rw [List.getElem?_map, hs] at hds
        cases hds
        obtain ⟨row, hrow⟩ := bfs_row lgp oe.asc X.bf (List.mem_of_getElem? hs)
        have sok := rowSt_ok ok pl oe lgp hrow
        have atn : atI us ((ms.length : Nat) : Int) = some u := by rw [ml]; exact atI_nat hu'
        refine iteT ⟨_, rfl, Mv, _, rfl, .inl (SqL.of GM), ⟨fun σ' H' => σ' = [some (.ref m), some (.bl fin), some (.ref S), some (.ref D), some (.ref O), some (.ref Mv), some (.int (n : Int)), y7, y8, y9, y10] ∧ H' = G ∧ (fin = true → s ≠ finS pss gs), ?_, ?_⟩⟩
        · rw [← ml]
          refine ⟨_, rfl, _, rfl, ?_⟩
          cases hfin : fin with
          | false => exact iteF (iteF ⟨rfl, rfl, fun z => nomatch z⟩)
          | true =>
            refine iteT ⟨_, rfl, m, dx, _, rfl, sHG _ _ hm, mf_no _ _ _ _ _ (by decide), _, rfl, _, rfl, S, _, _, _, rfl, rfl, SqL.of GS, atn, m, cnt, is, pss, gs, u, s, rfl, MA.same sHG, gne, Du.same X.md.th, _, rfl, ?_⟩
            by_cases sf : s = finS pss gs
            · rw [decide_eq_true sf]
              obtain ⟨vs, hO, DO'⟩ := X.ex.oAt
              have GO := X.md.at hO
              refine iteT ⟨_, rfl, _, rfl, _, _, rfl, rfl, _, rfl, S, _, rfl, SqL.of GS, fun S' nS' => ?_⟩
              have q1 := same_upd (o := HO.lst (cutV us none (some ((ms.length : Int) + 1)))) nS'
              refine ⟨_, rfl, _, rfl, _, _, rfl, rfl, _, rfl, O, _, rfl, SqL.of (q1 _ _ GO), fun O' nO' => ?_⟩
              have q2 := same_upd (o := HO.lst (cutV vs none (some ((ms.length : Int) + 1)))) nO'
              refine ⟨_, rfl, by show 3 ≤ sizeLine; decide, fun Tr nTr => ?_⟩
              have q3 := same_upd (o := HO.tup [V.ref S', V.ref O', V.ref Mv]) nTr
              have qq := q1.trans (q2.trans q3)
              have e1 : cutV us none (some ((ms.length : Int) + 1)) = us.take (n + 1) := by rw [show ((ms.length : Int) + 1) = ((n + 1 : Nat) : Int) by omega]; exact cut_to _ _
              have e2 : cutV vs none (some ((ms.length : Int) + 1)) = vs.take (n + 1) := by rw [show ((ms.length : Int) + 1) = ((n + 1 : Nat) : Int) by omega]; exact cut_to _ _
              have t1 : DxAll K G (cutV us none (some ((ms.length : Int) + 1))) ((ss.take (n + 1)).map stD) := by
                rw [e1, List.map_take]
                exact (DxAll.take (n + 1) DS).same X.md.th
              have t2 : DxAll K G (cutV vs none (some ((ms.length : Int) + 1))) ((os.take (n + 1)).map orgD) := by
                rw [e2, List.map_take]
                exact (DxAll.take (n + 1) DO').same X.md.th
              rw [hfin] at q
              exact q _ Tr n ss cs os (sHG.trans qq) ⟨X.bf, fun i s' h1 h2 _ => X.no i s' h1 h2 hfin, S', O', Mv, ms, upd_same, qq _ _ GM, ml, RA.to (X.md.th.trans qq) (fun _ _ z => z) (by omega), .inr ⟨rfl, by rw [hs, sf], ⟨_, (q2.trans q3) _ _ upd_same, t1.same qq⟩, ⟨_, q3 _ _ upd_same, t2.same qq⟩⟩⟩
            · rw [decide_eq_false sf]
              exact iteF ⟨rfl, rfl, fun _ => sf⟩
        · rintro σ' Gx ⟨rfl, rfl, nf⟩
          refine ⟨Nat.zero_le _, fun R nR => ?_⟩
          have RS : S ≠ R := X.md.ne hS nR
          have RM : Mv ≠ R := X.md.ne hMv nR
          obtain ⟨es0, dm0, _⟩ := X.ex.dAt
          obtain ⟨vs0, hO0, _⟩ := X.ex.oAt
          have RD : D ≠ R := X.md.ne dm0.at_ nR
          have RO : O ≠ R := X.md.ne hO0 nR
          have W2 := X.md.newM (L := R) (.lst []) nR trivial
          have sR := same_upd (o := HO.lst []) nR
          have X2 : ExM K w T (upd M R (.lst [])) S D O ss os := X.ex.to (Same.refl _) fun b hb => upd_ne (by rcases hb with h | h | h <;> rw [h] <;> assumption)
          have hMv2 : upd M R (.lst []) Mv = some (.lst ms) := by rw [upd_ne RM]; exact hMv
          have hR2 : upd M R (.lst []) R = some (.lst []) := upd_same
          have sHG2 := sHG.trans sR
          have Du2 := Du.same (X.md.th.trans sR)
          have GS2 := sR _ _ GS
          generalize upd M R (.lst []) = M2 at *
          show tSeq _ _ _ _ (upd Gx R (HO.lst []))
          generalize upd Gx R (HO.lst []) = G2 at *
          refine ⟨_, rfl, m, dx, _, rfl, sHG2 _ _ hm, mf_no _ _ _ _ _ (by decide), _, rfl, _, rfl, S, _, _, _, rfl, rfl, SqL.of GS2, atI_nat hu', m, cnt, lg, is, pss, gs, u, s, rfl, MA.same sHG2, ok, pl, gne, lgp, Du2, sok, fun G3 r B' s23 hB' mv => ?_⟩
          have BB : T B' ≠ none := by
            obtain ⟨dx', E', P', T', D', hm'⟩ := hB'
            rw [sHG2 _ _ hm] at hm'
            have e := congrArg (fun o : Option HO => match o with
              | some (.ins _ _ fs) => fs.lookup ("every_byte" : Str)
              | _ => none) hm'
            dsimp only at e
            rw [mf_B, mf_B] at e
            cases e
            rw [sHT _ _ hB]
            exact fun z => nomatch z
          have MV := mv.rest W2 s23 BB
          have W3 := (W2.pure s23).rest
          have sT1 := (W2.pure s23).restT
          have sHT1 := sHT.trans sT1
          generalize restM M2 G3 = T1 at *
          obtain ⟨us', hr', ul', MV'⟩ := MV
          have gl : (Bf.grp (stepS is pss gs s) (Bf.rng cnt)).length = (Bf.firsts (stepS is pss gs s) (Bf.rng cnt)).length := by unfold Bf.grp; rw [List.length_map]
          have gfew : (Bf.grp (stepS is pss gs s) (Bf.rng cnt)).length ≤ 256 := by
            rw [gl]
            have h1 := Bf.firsts_len (stepS is pss gs s) _ (Bf.rng cnt) (Nat.le_refl _)
            have h2 : (Bf.rng cnt).length = cnt := by unfold Bf.rng; simp
            omega
          refine ⟨_, rfl, r, rfl, ⟨_, SqL.of (W3.th _ _ hr')⟩, for_list (xs := us') (fun k σ G => ∃ (T M : Hp) (ss2 : List Sta) (cs2 : List (List Int)) (os2 : List (Option (Nat × Int))) (y9 y10 : Option V), σ = [some (.ref m), some (.bl fin), some (.ref S), some (.ref D), some (.ref O), some (.ref Mv), some (.int (n : Int)), some (.ref R), some (.ref r), y9, y10] ∧ Inn K w T1 T M G S D O Mv R ms (stepS is pss gs) (first0 gs) cnt n k k s c ss ss2 cs2 os2)
            ⟨T1, M2, ss, cs, os, y9, y10, rfl, ⟨W3, Same.refl _, X2.to sT1 (fun _ _ => rfl), hMv2, RA.to sT1 (fun _ _ z => z) (by omega), ⟨[], hR2, rfl, fun j t bs z => by simp at z⟩, X.bf.amid X.low hs hc, fun _ _ z => z⟩⟩
            (fun k σ G _ ⟨T, M, ss2, cs2, os2, y9, y10, _, I⟩ => SqL.of (I.md.th _ _ (I.sT _ _ hr'))) ?_ ?_⟩
          · rintro k x σ G hx ⟨T, M, ss2, cs2, os2, y9, y10, rfl, I⟩
            have kl : k < (Bf.grp (stepS is pss gs s) (Bf.rng cnt)).length := by rw [← ul']; exact (List.getElem?_eq_some_iff.mp hx).1
            obtain ⟨⟨t, bs⟩, hg⟩ : ∃ q, (Bf.grp (stepS is pss gs s) (Bf.rng cnt))[k]? = some q := ⟨_, List.getElem?_eq_getElem kl⟩
            obtain ⟨ht, hbs⟩ := grp_at hg
            obtain ⟨U, st, bl, h1, h2, h3, h4⟩ := MV' k t bs hg
            rw [hx] at h1
            cases h1
            have W := I.md
            have Dst := h3.same I.sT
            have hbl := I.sT _ _ h4
            have fw2 := bfs_few lgp oe.asc I.am.bf
            refine ⟨U, _, rfl, SqT.of (W.th _ _ (I.sT _ _ h2)), rfl, _, _, rfl, _, _, rfl, rfl, ⟨fun σ' G' => ∃ (T M : Hp) (ss2 : List Sta) (cs2 : List (List Int)) (os2 : List (Option (Nat × Int))), σ' = [some (.ref m), some (.bl fin), some (.ref S), some (.ref D), some (.ref O), some (.ref Mv), some (.int (n : Int)), some (.ref R), some (.ref r), some (.ref st), some (.ref bl)] ∧ Inn K w T1 T M G' S D O Mv R ms (stepS is pss gs) (first0 gs) cnt n (k + 1) k s c ss ss2 cs2 os2 ∧ t ∈ ss2, ?_, ?_⟩⟩
            · obtain ⟨us2, hS2, DS2⟩ := I.ex.sAt
              obtain ⟨es, dm, el, ea⟩ := I.ex.dAt
              obtain ⟨vs, hO2, DO2⟩ := I.ex.oAt
              have us2l : us2.length = ss2.length := by rw [DS2.len, List.length_map]
              have vs2l : vs.length = ss2.length := by rw [DO2.len, List.length_map, I.am.bf.lo]
              refine ⟨_, rfl, _, rfl, D, st, es, stD t, rfl, rfl, dm.get W, (keyOk_st Dst).same W.th, _, rfl, ?_⟩
              by_cases hin : t ∈ ss2
              · obtain ⟨j, hj⟩ := List.mem_iff_getElem?.mp hin
                obtain ⟨b', hb'⟩ := ea j t hj
                refine ifN (by rw [if_pos rfl, valN_at dm.nd (List.mem_of_getElem? hb') rfl]; rfl) ⟨T, M, ss2, cs2, os2, rfl, ⟨W, I.sT, I.ex, I.mv, I.ra, I.rr, I.am.old c2.2 ht hin, I.sub⟩, hin⟩
              · have hn := I.ex.no el ea hin
                refine ifY (by rw [if_pos rfl, hn]; rfl) ⟨_, rfl, S, _, rfl, .inl (SqL.of (W.at hS2)), _, rfl, _, rfl, D, st, es, stD t, rfl, rfl, dm.get W, (keyOk_st Dst).same W.th, hn, by rw [el, sizeLine_eq]; omega, fun N => ?_⟩
                have Wa := W.setM (L := D) (Nd.ndO w D (Nd.kvs (es ++ [(stD t, st, V.int (us2.length : Int))]))) (by rw [dm.at_]; exact fun z => nomatch z) trivial
                have dma := dm.more N Dst
                have hSa : upd M D (Nd.ndO w D (Nd.kvs (es ++ [(stD t, st, V.int (us2.length : Int))]))) S = some (.lst us2) := by rw [upd_ne I.ex.sd]; exact hS2
                have hOa : upd M D (Nd.ndO w D (Nd.kvs (es ++ [(stD t, st, V.int (us2.length : Int))]))) O = some (.lst vs) := by rw [upd_ne I.ex.od]; exact hO2
                have Wb := Wa.setM (L := S) (.lst (us2 ++ [.ref st])) (by rw [hSa]; exact fun z => nomatch z) trivial
                refine ⟨_, rfl, .inl ⟨rfl, _, SqL.of (Wa.at hSa)⟩, _, rfl, S, _, _, rfl, rfl, Wa.at hSa, by rw [us2l, sizeLine_eq]; omega, ?_⟩
                have hOb : upd (upd M D (Nd.ndO w D (Nd.kvs (es ++ [(stD t, st, V.int (us2.length : Int))])))) S (.lst (us2 ++ [.ref st])) O = some (.lst vs) := by rw [upd_ne (Ne.symm I.ex.so)]; exact hOa
                refine ⟨_, rfl, .inl ⟨rfl, _, SqL.of (Wb.at hOb)⟩, _, rfl, _, rfl, bl, _, _, _, rfl, rfl, SqL.of (Wb.th _ _ hbl), atI_nat (j := 0) (by rw [List.getElem?_map, hbs, leads_hd (List.mem_of_getElem? ht)]; rfl), by show 2 ≤ sizeLine; decide, fun U2 nU2 => ⟨O, _, _, rfl, rfl, (Wb.put _ nU2).at hOb, by rw [vs2l, sizeLine_eq]; omega, ?_⟩⟩
                have Wc := Wb.put (HO.tup [V.int (n : Int), V.int (Bf.hd (stepS is pss gs s) (Bf.rng cnt) t)]) nU2
                have sU := Wb.putT (HO.tup [V.int (n : Int), V.int (Bf.hd (stepS is pss gs s) (Bf.rng cnt) t)]) nU2
                have hU2 : upd T U2 (HO.tup [V.int (n : Int), V.int (Bf.hd (stepS is pss gs s) (Bf.rng cnt) t)]) U2 = some (HO.tup [V.int (n : Int), V.int (Bf.hd (stepS is pss gs s) (Bf.rng cnt) t)]) := upd_same
                have Wd := Wc.setM (L := O) (.lst (vs ++ [.ref U2])) (by rw [hOb]; exact fun z => nomatch z) trivial
                have ma : ∀ {i : Nat} {q : Sta}, ss2[i]? = some q → (ss2 ++ [t])[i]? = some q := fun z => Bf.get_app z
                refine ⟨_, _, ss2 ++ [t], _, _, rfl, ⟨Wd, I.sT.trans sU, ⟨⟨us2 ++ [.ref st], ?_, ?_⟩, ⟨es ++ [(stD t, st, V.int (us2.length : Int))], ?_, ?_, ?_⟩, ⟨vs ++ [.ref U2], upd_same, ?_⟩, I.ex.sd, I.ex.so, I.ex.od⟩, ?_, I.ra.to sU (fun _ _ => ma) (by have := I.am.bf.ln; omega), ?_, I.am.new c2.2 ht hin, fun i q z => ma (I.sub i q z)⟩, by simp⟩
                · rw [upd_ne I.ex.so]; exact upd_same
                · rw [List.map_append]; exact (DS2.same sU).app (.cons (Dst.same sU) .nil)
                · refine dma.to sU ?_
                  rw [upd_ne (Ne.symm I.ex.od), upd_ne (Ne.symm I.ex.sd)]
                · rw [List.length_append, List.length_append, el]; rfl
                · intro i q hi
                  rcases Bf.get_cases hi with e | ⟨e, rfl⟩
                  · obtain ⟨b', hb'⟩ := ea i q e
                    exact ⟨b', Bf.get_app hb'⟩
                  · refine ⟨st, ?_⟩
                    rw [e, ← el, us2l, ← el]
                    exact Bf.get_last
                · rw [List.map_append]; exact (DO2.same sU).app (.cons (dx_org hU2) .nil)
                · rw [upd_ne X.mO, upd_ne X.ms, upd_ne X.mD]; exact I.mv
                · obtain ⟨rs, hR, RP⟩ := I.rr
                  refine ⟨rs, ?_, RP.to sU (fun _ _ => ma)⟩
                  rw [upd_ne (Ne.symm RO), upd_ne (Ne.symm RS), upd_ne (Ne.symm RD)]; exact hR
            · rintro σ' G' ⟨T, M, ss2, cs2, os2, rfl, I, hin⟩
              have W := I.md
              obtain ⟨es, dm, el, ea⟩ := I.ex.dAt
              obtain ⟨rs, hR, RP⟩ := I.rr
              obtain ⟨j, hj⟩ := List.mem_iff_getElem?.mp hin
              obtain ⟨b', hb'⟩ := ea j t hj
              have hv := valN_at dm.nd (List.mem_of_getElem? hb') rfl
              have rl : rs.length ≤ 256 := by rw [RP.1, List.length_take]; omega
              refine ⟨_, rfl, .inl ⟨rfl, _, SqL.of (W.at hR)⟩, _, rfl, _, rfl, D, st, es, stD t, _, rfl, rfl, dm.get W, (keyOk_st (h3.same I.sT)).same W.th, hv, _, rfl, by show 2 ≤ sizeLine; decide, fun U2 nU2 => ⟨R, _, _, rfl, rfl, (W.put _ nU2).at hR, by rw [sizeLine_eq]; omega, ?_⟩⟩
              have Wc := W.put (HO.tup [V.int (j : Int), V.ref bl]) nU2
              have sU := W.putT (HO.tup [V.int (j : Int), V.ref bl]) nU2
              have Wd := Wc.setM (L := R) (.lst (rs ++ [.ref U2])) (by rw [hR]; exact fun z => nomatch z) trivial
              refine ⟨_, _, ss2, cs2, os2, _, _, rfl, ⟨Wd, I.sT.trans sU, I.ex.to sU fun b hb => upd_ne (by rcases hb with h | h | h <;> rw [h] <;> assumption), by rw [upd_ne RM]; exact I.mv, I.ra.to sU (fun _ _ z => z) (by have := I.am.bf.ln; omega), ⟨_, upd_same, ?_⟩, I.am, I.sub⟩⟩
              rw [take_more hg]
              exact (RP.to sU fun _ _ z => z).more upd_same hj (sU _ _ (I.sT _ _ h4))
          · rintro σ G ⟨T, M, ss2, cs2, os2, y9, y10, rfl, I⟩
            have W := I.md
            obtain ⟨rs, hR, RP⟩ := I.rr
            rw [ul', List.take_length] at RP
            have fw2 := bfs_few lgp oe.asc I.am.bf
            have nl2 := I.am.bf.ln
            refine ⟨_, rfl, .inl ⟨rfl, _, SqL.of (W.at I.mv)⟩, _, rfl, Mv, _, _, rfl, rfl, W.at I.mv, by rw [sizeLine_eq]; omega, ⟨?_, ?_⟩⟩
            · have Wa := W.setM (L := Mv) (.lst (ms ++ [.ref R])) (by rw [I.mv]; exact fun z => nomatch z) trivial
              have hRa : upd M Mv (.lst (ms ++ [.ref R])) R = some (.lst rs) := by rw [upd_ne (Ne.symm RM)]; exact hR
              have Wb := Wa.freeze hRa
              have sF := Wa.freezeT hRa
              obtain ⟨B1, L1⟩ := I.am.done (by rw [ul', gl])
              refine ⟨_, _, n + 1, ss2, cs2, os2, _, _, _, _, _, rfl, ⟨Wb, (sHT1.trans I.sT).trans sF, I.ex.to sF fun b hb => ?_, ⟨ms ++ [.ref R], ?_, by rw [List.length_append, ml]; rfl, ?_⟩, X.ms, X.mD, X.mO, B1, L1, ?_⟩⟩
              · have bR : b ≠ R := by rcases hb with h | h | h <;> rw [h] <;> assumption
                have bM : b ≠ Mv := by
                  rcases hb with h | h | h <;> rw [h]
                  · exact Ne.symm X.ms
                  · exact Ne.symm X.mD
                  · exact Ne.symm X.mO
                rw [less1_ne bR, upd_ne bM]
              · rw [less1_ne RM]; exact upd_same
              · intro i q hi hq
                have ra := I.ra.to sF (fun _ _ z => z) (by omega)
                rw [List.length_append, List.length_singleton] at hi
                rcases Nat.lt_succ_iff_lt_or_eq.mp hi with h | h
                · obtain ⟨R', rs', h1, h2, h3⟩ := ra i q h hq
                  exact ⟨R', rs', Bf.get_app h1, h2, h3⟩
                · rw [h, ml, I.am.at_] at hq
                  cases hq
                  exact ⟨R, rs, by rw [h]; exact Bf.get_last, upd_same, RP.to sF fun _ _ z => z⟩
              · intro i q hi hq hf
                rcases Nat.lt_succ_iff_lt_or_eq.mp hi with h | h
                · obtain ⟨q', hq'⟩ : ∃ q', ss[i]? = some q' := ⟨_, List.getElem?_eq_getElem (by omega)⟩
                  have := I.sub i q' hq'
                  rw [hq] at this
                  cases this
                  exact X.no i q h hq' hf
                · rw [h, I.am.at_] at hq
                  cases hq
                  exact nf hf
            · show 100001 - lenAt (upd G Mv (HO.lst (ms ++ [V.ref R]))) Mv < _
              rw [lenAt_of upd_same, lenAt_of GM, List.length_append, List.length_singleton]
              omega
      · rw [decide_eq_false lt]
        have nl : n = ss.length := by have := X.bf.ln; omega
        obtain ⟨vs, hO, DO'⟩ := X.ex.oAt
        refine iteF ⟨_, rfl, _, rfl, _, rfl, by show 3 ≤ sizeLine; decide, fun Tr nTr => ?_⟩
        have q3 := same_upd (o := HO.tup [V.ref S, V.ref O, V.ref Mv]) nTr
        exact q _ Tr n ss cs os (sHG.trans q3) ⟨X.bf, X.no, S, O, Mv, ms, upd_same, q3 _ _ GM, ml, RA.to (X.md.th.trans q3) (fun _ _ z => z) (by omega), .inl ⟨nl, ⟨_, q3 _ _ GS, DS.same (X.md.th.trans q3)⟩, ⟨_, q3 _ _ (X.md.at hO), DO'.same (X.md.th.trans q3)⟩⟩⟩
    · rintro σ H2 Q1 Q2 hQ ⟨v, h1, a, xs, h3, h4, v2, h2, a', xs', h5, h6, i, j, h7, h8, b, h9, h10⟩
      exact ⟨v, h1, a, xs, h3, h4, v2, h2, a', xs', h5, h6, i, j, h7, h8, b, h9, hQ _ _ h10⟩
end
end Ov
namespace Ov
open PySem PySem.Spec PyProof.Rows L2
abbrev nV (n : Nat) : V := V.int (n : Int)
def optN : Option Nat → V
  | none => .non
  | some n => nV n
structure Frl (M : Hp) (F : Addr) (as : List Addr) (fr : List (List Nat)) : Prop where
  fAt : M F = some (.lst (as.map V.ref))
  len : as.length = fr.length
  at_ : ∀ (j : Nat) a l, as[j]? = some a → fr[j]? = some l → M a = some (.lst (l.map nV))
  nd : as.Nodup
  nf : F ∉ as
theorem Frl.keep {M M' : Hp} {F : Addr} {as : List Addr} {fr : List (List Nat)} (E : Frl M F as fr) (h : ∀ b, b = F ∨ b ∈ as → M' b = M b) : Frl M' F as fr :=
  ⟨(h F (.inl rfl)).trans E.fAt, E.len, fun j a l h1 h2 => (h a (.inr (List.mem_of_getElem? h1))).trans (E.at_ j a l h1 h2), E.nd, E.nf⟩
theorem Frl.start {M : Hp} {F : Addr} : Frl (upd M F (.lst [])) F [] [] := ⟨upd_same, rfl, fun j a l h => by simp at h, List.nodup_nil, fun h => nomatch h⟩
theorem Frl.new {M : Hp} {F a : Addr} {as : List Addr} {fr : List (List Nat)} (E : Frl M F as fr) (h : M a = none) : Frl (upd (upd M a (.lst [])) F (.lst (as.map V.ref ++ [.ref a]))) F (as ++ [a]) (fr ++ [[]]) := by
  have fa : F ≠ a := fun z => by have := E.fAt; rw [z, h] at this; cases this
  have na : a ∉ as := fun z => by
    obtain ⟨j, hj⟩ := List.mem_iff_getElem?.mp z
    obtain ⟨l, hl⟩ : ∃ l, fr[j]? = some l := ⟨fr[j]'(by rw [← E.len]; exact (List.getElem?_eq_some_iff.mp hj).1), List.getElem?_eq_getElem _⟩
    have := E.at_ j a l hj hl
    rw [h] at this
    cases this
  refine ⟨by rw [upd_same, List.map_append]; rfl, by rw [List.length_append, List.length_append, E.len]; rfl, fun j b l h1 h2 => ?_, ?_, fun z => ?_⟩
  · rcases Bf.get_cases h1 with e | ⟨e, rfl⟩
    · have bm := List.mem_of_getElem? e
      have bF : b ≠ F := fun z => E.nf (z ▸ bm)
      have ba : b ≠ a := fun z => na (z ▸ bm)
      rcases Bf.get_cases h2 with e2 | ⟨e2, _⟩
      · rw [upd_ne bF, upd_ne ba]; exact E.at_ j b l e e2
      · have := (List.getElem?_eq_some_iff.mp e).1
        rw [E.len] at this
        omega
    · rcases Bf.get_cases h2 with e2 | ⟨_, rfl⟩
      · have := (List.getElem?_eq_some_iff.mp e2).1
        rw [← E.len] at this
        omega
      · rw [upd_ne (Ne.symm fa), upd_same]; rfl
  · refine List.nodup_append.mpr ⟨E.nd, by simp, fun x hx y hy z => ?_⟩
    rw [List.mem_singleton.mp hy] at z
    exact na (z ▸ hx)
  · rcases List.mem_append.mp z with z | z
    · exact E.nf z
    · exact fa (List.mem_singleton.mp z)
theorem get_set {α : Type} {l : List α} {k j : Nat} {x y : α} (hk : k < l.length) (h : (l.set k x)[j]? = some y) : (j = k ∧ y = x) ∨ (j ≠ k ∧ l[j]? = some y) := by
  rw [List.getElem?_set] at h
  by_cases e : k = j
  · rw [if_pos e, if_pos (by omega)] at h
    exact .inl ⟨e.symm, (Option.some.inj h).symm⟩
  · rw [if_neg e] at h
    exact .inr ⟨fun z => e z.symm, h⟩
theorem nd_at {α : Type} {l : List α} (nd : l.Nodup) {i j : Nat} {x : α} (hi : l[i]? = some x) (hj : l[j]? = some x) : i = j := by
  obtain ⟨h1, e1⟩ := List.getElem?_eq_some_iff.mp hi
  obtain ⟨h2, e2⟩ := List.getElem?_eq_some_iff.mp hj
  exact (List.getElem_inj nd).mp (e1.trans e2.symm)
theorem Frl.push {M : Hp} {F a : Addr} {as : List Addr} {fr : List (List Nat)} (E : Frl M F as fr) {k n : Nat} {l : List Nat} (ha : as[k]? = some a) (hl : fr[k]? = some l) : Frl (upd M a (.lst (l.map nV ++ [nV n]))) F as (fr.set k (l ++ [n])) := by
  have am := List.mem_of_getElem? ha
  have fa : F ≠ a := fun z => E.nf (z ▸ am)
  refine ⟨by rw [upd_ne fa]; exact E.fAt, by rw [List.length_set]; exact E.len, fun j b l' h1 h2 => ?_, E.nd, E.nf⟩
  rcases get_set (List.getElem?_eq_some_iff.mp hl).1 h2 with ⟨rfl, rfl⟩ | ⟨ne, h3⟩
  · rw [ha] at h1
    cases h1
    rw [upd_same, List.map_append]; rfl
  · have ba : b ≠ a := fun z => ne (nd_at E.nd h1 (by rw [z]; exact ha))
    rw [upd_ne ba]
    exact E.at_ j b l' h1 h3
theorem Frl.off {M : Hp} {F a : Addr} {as : List Addr} {fr : List (List Nat)} (E : Frl M F as fr) (h : M a = none) : a ≠ F ∧ a ∉ as := by
  refine ⟨fun z => ?_, fun z => ?_⟩
  · have := E.fAt; rw [← z, h] at this; cases this
  · obtain ⟨j, hj⟩ := List.mem_iff_getElem?.mp z
    obtain ⟨l, hl⟩ : ∃ l, fr[j]? = some l := ⟨fr[j]'(by rw [← E.len]; exact (List.getElem?_eq_some_iff.mp hj).1), List.getElem?_eq_getElem _⟩
    have := E.at_ j a l hj hl
    rw [h] at this
    cases this
theorem Frl.put {M : Hp} {F a : Addr} {as : List Addr} {fr : List (List Nat)} (E : Frl M F as fr) {o : HO} (aF : a ≠ F) (an : a ∉ as) : Frl (upd M a o) F as fr := E.keep fun b hb => upd_ne (by
  rcases hb with h | h
  · rw [h]; exact Ne.symm aF
  · exact fun z => an (z ▸ h))
/-- the lists hold those that lead to each state: of the rows below i, and of the first j of row i -/
structure FrOk (step : Sta → Int → Option Sta) (cnt : Nat) (ss : List Sta) (g : List (Sta × List Int)) (i j : Nat) (fr : List (List Nat)) : Prop where
  fl : fr.length = ss.length
  sound : ∀ (p : Nat) l i', fr[p]? = some l → i' ∈ l → ∃ s t, ss[i']? = some s ∧ ss[p]? = some t ∧ Ct.Edge step cnt s t
  comp : ∀ (i' : Nat) s (p : Nat) t, i' < i → ss[i']? = some s → ss[p]? = some t → Ct.Edge step cnt s t → ∃ l, fr[p]? = some l ∧ i' ∈ l
  cur : ∀ (j' : Nat) t bs (p : Nat), j' < j → g[j']? = some (t, bs) → ss[p]? = some t → ∃ l, fr[p]? = some l ∧ i ∈ l
  len : ∀ (p : Nat) l, fr[p]? = some l → l.length ≤ i + 1 ∧ ((∀ (j' : Nat) t bs, j' < j → g[j']? = some (t, bs) → ss[p]? ≠ some t) → l.length ≤ i)
section
variable {step : Sta → Int → Option Sta} {cnt : Nat} {ss : List Sta} {i j : Nat} {fr : List (List Nat)}
theorem FrOk.start {g : List (Sta × List Int)} : FrOk step cnt ss g 0 0 (List.replicate ss.length []) := by
  have e : ∀ {p : Nat} {l : List Nat}, (List.replicate ss.length ([] : List Nat))[p]? = some l → l = [] := fun h => List.eq_of_mem_replicate (List.mem_of_getElem? h)
  refine ⟨List.length_replicate, fun p l i' h1 h2 => ?_, fun i' s p t h => absurd h (Nat.not_lt_zero _), fun j' t bs p h => absurd h (Nat.not_lt_zero _), fun p l h => ?_⟩
  · rw [e h1] at h2; cases h2
  · rw [e h]; exact ⟨Nat.zero_le _, fun _ => Nat.le_refl _⟩
theorem FrOk.next {g' : List (Sta × List Int)} {s : Sta} (hs : ss[i]? = some s) (E : FrOk step cnt ss (Bf.grp (step s) (Bf.rng cnt)) i (Bf.grp (step s) (Bf.rng cnt)).length fr) : FrOk step cnt ss g' (i + 1) 0 fr := by
  refine ⟨E.fl, E.sound, fun i' s' p t h1 h2 h3 h4 => ?_, fun j' t bs p h => absurd h (Nat.not_lt_zero _), fun p l h => ?_⟩
  · rcases Nat.lt_or_ge i' i with h | h
    · exact E.comp i' s' p t h h2 h3 h4
    · have : i' = i := by omega
      subst this
      rw [hs] at h2
      cases h2
      have tm : t ∈ Bf.firsts (step s) (Bf.rng cnt) := ((Bf.frs _ _).mem t).mpr h4
      obtain ⟨j', hj'⟩ := List.mem_iff_getElem?.mp tm
      refine E.cur j' t _ p ?_ (show _ = some (t, Bf.leads (step s) (Bf.rng cnt) t) from ?_) h3
      · unfold Bf.grp
        rw [List.length_map]
        exact (List.getElem?_eq_some_iff.mp hj').1
      · unfold Bf.grp
        rw [List.getElem?_map, hj']
        rfl
  · have := (E.len p l h).1
    exact ⟨by omega, fun _ => by omega⟩
theorem grp_one {f : Int → Option Sta} {l : List Int} {i j : Nat} {t : Sta} {bs cs : List Int} (h1 : (Bf.grp f l)[i]? = some (t, bs)) (h2 : (Bf.grp f l)[j]? = some (t, cs)) : i = j :=
  nd_at (Bf.frs f l).nd (grp_at h1).1 (grp_at h2).1
theorem FrOk.few {s t : Sta} {bs : List Int} {k : Nat} {l : List Nat} (E : FrOk step cnt ss (Bf.grp (step s) (Bf.rng cnt)) i j fr) (hg : (Bf.grp (step s) (Bf.rng cnt))[j]? = some (t, bs)) (ht : ss[k]? = some t) (hl : fr[k]? = some l) : l.length ≤ i :=
  (E.len k l hl).2 fun j' t' bs' hj h1 h2 => by
    rw [ht] at h2
    cases h2
    have := grp_one h1 hg
    omega
theorem FrOk.push {s t : Sta} {bs : List Int} {k : Nat} {l : List Nat} (E : FrOk step cnt ss (Bf.grp (step s) (Bf.rng cnt)) i j fr) (nd : ss.Nodup) (hs : ss[i]? = some s) (hg : (Bf.grp (step s) (Bf.rng cnt))[j]? = some (t, bs)) (ht : ss[k]? = some t) (hl : fr[k]? = some l) : FrOk step cnt ss (Bf.grp (step s) (Bf.rng cnt)) i (j + 1) (fr.set k (l ++ [i])) := by
  have kl := (List.getElem?_eq_some_iff.mp hl).1
  have edge : Ct.Edge step cnt s t := ((Bf.frs _ _).mem t).mp (List.mem_of_getElem? (grp_at hg).1)
  have few := E.few hg ht hl
  have up : ∀ {p : Nat} {q : List Nat} {x : Nat}, fr[p]? = some q → x ∈ q → ∃ q', (fr.set k (l ++ [i]))[p]? = some q' ∧ x ∈ q' := fun {p q x} h1 h2 => by
    by_cases e : p = k
    · subst e
      rw [hl] at h1
      cases h1
      exact ⟨l ++ [i], by rw [List.getElem?_set, if_pos rfl, if_pos kl], List.mem_append_left _ h2⟩
    · exact ⟨q, by rw [List.getElem?_set, if_neg fun z => e z.symm]; exact h1, h2⟩
  refine ⟨by rw [List.length_set]; exact E.fl, fun p q i' h1 h2 => ?_, fun i' s' p t' h1 h2 h3 h4 => ?_, fun j' t' bs' p h1 h2 h3 => ?_, fun p q h => ?_⟩
  · rcases get_set kl h1 with ⟨rfl, rfl⟩ | ⟨_, h3⟩
    · rcases List.mem_append.mp h2 with h | h
      · exact E.sound p l i' hl h
      · rw [List.mem_singleton.mp h]; exact ⟨s, t, hs, ht, edge⟩
    · exact E.sound p q i' h3 h2
  · obtain ⟨q, q1, q2⟩ := E.comp i' s' p t' h1 h2 h3 h4
    exact up q1 q2
  · rcases Nat.lt_or_ge j' j with h | h
    · obtain ⟨q, q1, q2⟩ := E.cur j' t' bs' p h h2 h3
      exact up q1 q2
    · have : j' = j := by omega
      subst this
      rw [hg] at h2
      cases h2
      have := nd_at nd h3 ht
      subst this
      exact ⟨l ++ [i], by rw [List.getElem?_set, if_pos rfl, if_pos kl], by simp⟩
  · rcases get_set kl h with ⟨rfl, rfl⟩ | ⟨ne, h3⟩
    · refine ⟨by rw [List.length_append, List.length_singleton]; omega, fun z => absurd ht (z j t bs (by omega) hg)⟩
    · obtain ⟨a, b⟩ := E.len p q h3
      exact ⟨a, fun z => b fun j' t' bs' hj => z j' t' bs' (by omega)⟩
end
end Ov
namespace Ov
open PySem PySem.Spec PyProof.Rows L2
/-- what is left of the walk -/
def leftD (σ : L2.St) (G : Hp) : Nat := match σ with
  | [_, _, _, _, _, _, _, _, some (.ref a), some (.ref l), _, _, _, _] => (match G a with
    | some (.lst xs) => 2 * xs.countP (fun v => decide (v = V.non))
    | _ => 0) + (match G l with
    | some (.lst xs) => min 1 xs.length
    | _ => 0)
  | _ => 0
theorem none_cnt : ∀ d : List (Option Nat), (d.map optN).countP (fun v => decide (v = V.non)) = d.countP (fun o => o.isNone)
  | [] => rfl
  | none :: d => by
    rw [List.map_cons, List.countP_cons_of_pos (by simp [optN]), List.countP_cons_of_pos (by simp), none_cnt d]
  | some n :: d => by
    rw [List.map_cons, List.countP_cons_of_neg (by simp [optN]), List.countP_cons_of_neg (by simp), none_cnt d]
section
variable {P : Program} {w : World} {K : PySem.W.Frag} {mg : Str → Option Value} {base : Heap}
def spDist (K : PySem.W.Frag) (Cm : Addr) : Sp := fun vs H Q _ => ∃ (m S Mv : Addr) (ms : List V) (cnt lg : Nat) (is : List I4) (pss : List (List PStep)) (gs : List Nat) (ss : List Sta), vs = [.ref m, .ref S, .ref Mv] ∧ MacAt K Cm H m cnt is pss gs ∧ TabOk cnt lg is ∧ gs ≠ [] ∧ LstAt K H S (ss.map stD) ∧ H Mv = some (.lst ms) ∧ ms.length = ss.length ∧ RowsAt H ms ss (stepS is pss gs) cnt ∧ ss.length ≤ 100000 ∧ ss.Nodup ∧ (∀ s ∈ ss, ∀ t, Ct.Edge (stepS is pss gs) cnt s t → t ∈ ss) ∧
  ∀ H' D d, Same H H' → H D = none → H' D = some (.lst (d.map optN)) → Ct.Dsts (stepS is pss gs) (finS pss gs) cnt ss d → Q (.ref D) H'
abbrev nDistances_to_final : List Str := ["machine", "states", "moves", "fronts", "number", "row", "target", "fitting", "distances", "reached", "further", "front", "state", "distance"]
theorem scDistances_to_final : FnScope nDistances_to_final ["machine", "states", "moves"] (defScope s_distances_to_final) := ⟨rfl, rfl, rfl, by decide +kernel, rfl, by decide +kernel, by decide +kernel⟩
theorem ok_distances_to_final {f Cm fMcFi : Addr} {fd fdMcFi : FuncData} {k : Nat} (F : Fun K "distances_to_final" "distances_to_final" s_distances_to_final f fd) (T : Bi mg) (Sm : MacTxt K mg Cm) (MMcFi : Meth K Cm "is_final" fMcFi) (bMcFi : Binds K fdMcFi ["self", "state"] []) (GMcFi : FnOk P w K mg base CX0 k fMcFi fdMcFi ["self", "state"] (spFinal K Cm)) :
    FnOk P w K mg base CX0 (k + 1) f fd ["machine", "states", "moves"] (spDist K Cm) := by
  refine F.ok scDistances_to_final (fun vs H Q E h => ?_) (fun cdv A' outer s H vs Q E hr h => ?_)
  · obtain ⟨m, S, Mv, ms, cnt, lg, is, pss, gs, ss, rfl, _⟩ := h
    rfl
  · obtain ⟨m, S, Mv, ms, cnt, lg, is, pss, gs, ss, rfl, MA, ok, gne, hS, hMv, ml, RA, few, nd, cl, q⟩ := h
    refine ⟨_, pss_cons (ps_setLc (i := 3) (own := [("state", 12)]) (g := (gName 12)) (tt := tYes) (by rfl) scDistances_to_final.nd rfl rfl (sw_true rfl rfl rfl (by decide +kernel)) (pi_list (pv 1)) (blkOk_by (own := [("state", 12)]) (N := nDistances_to_final) (sc := defScope s_distances_to_final) (by decide +kernel)) (fun _ _ _ _ _ => (pg_name (i := 12) scDistances_to_final.nd rfl (Or.inl rfl))) (fun _ _ _ _ _ => pts_nil) (fun _ _ _ _ _ => (pe_lst pa_nil)))
      (pss_cons (ps_for PassesOwn.never rfl (pi_enum (by rfl) T.enumerate (pa_cons (pv 2) pa_nil)) (pg_tup rfl (pgs_cons (pg_name (i := 4) scDistances_to_final.nd rfl (.inl rfl)) (pgs_cons (pg_name (i := 5) scDistances_to_final.nd rfl (.inl rfl)) pgs_nil))) (pss_one (ps_for PassesOwn.never rfl (pi_list (pv 5)) (pg_tup rfl (pgs_cons (pg_name (i := 6) scDistances_to_final.nd rfl (.inl rfl)) (pgs_cons (pg_name (i := 7) scDistances_to_final.nd rfl (.inl rfl)) pgs_nil))) (pss_one (ps_expr (pe_bm PySem.F.plainAttrs_list PySem.F.slot_list_append PySem.F.type_list_append mt_append (pe_ix ix_list (pv 3) (pv 6) (fun _ _ => rfl)) (pa_cons (pv 4) pa_nil)))))))
      (pss_cons (ps_setLc (i := 8) (own := [("state", 12)]) (g := (gName 12)) (tt := tYes) (by rfl) scDistances_to_final.nd rfl rfl (sw_true rfl rfl rfl (by decide +kernel)) (pi_list (pv 1)) (blkOk_by (own := [("state", 12)]) (N := nDistances_to_final) (sc := defScope s_distances_to_final) (by decide +kernel)) (fun _ _ _ _ _ => (pg_name (i := 12) scDistances_to_final.nd rfl (Or.inl rfl))) (fun _ _ _ _ _ => pts_nil) (fun _ _ _ _ _ => (pe_ifExp (pt_val (pe_meth (pv 0) Sm.cl MMcFi GMcFi hr bMcFi .nil pass0 (pa_cons (pv 12) pa_nil))) pe_int pe_non)))
      (pss_cons (ps_setLc (i := 9) (own := [("number", 4), ("distance", 13)]) (g := (gTup K 2 (gCons (gName 4) (gCons (gName 13) gNil)))) (by rfl) scDistances_to_final.nd rfl rfl (sw_true rfl rfl rfl (by decide +kernel)) (pi_enum (by rfl) T.enumerate (pa_cons (pv 8) pa_nil)) (blkOk_by (own := [("number", 4), ("distance", 13)]) (N := nDistances_to_final) (sc := defScope s_distances_to_final) (by decide +kernel)) (fun _ _ _ _ _ => (pg_tup rfl (pgs_cons (pg_name (i := 4) scDistances_to_final.nd rfl (Or.inl rfl)) (pgs_cons (pg_name (i := 13) scDistances_to_final.nd rfl (Or.inl rfl)) pgs_nil)))) (fun _ _ _ _ _ => pts_one (pt_cmpR op_eq (pv 13) pe_int (nomark _))) (fun _ _ _ _ _ => (pv 4)))
      (pss_cons (ps_while PassesOwn.never (pt_cmpR op_gt (pe_callB call_len_seq (by rfl) T.len PySem.boot_len (pa_cons (pv 9) pa_nil)) pe_int (nomark _)) (pss_cons (ps_set (i := 10) scDistances_to_final.nd rfl (.inl rfl) (pe_lst pa_nil))
      (pss_cons (ps_for PassesOwn.never rfl (pi_list (pv 9)) (pg_name (i := 4) scDistances_to_final.nd rfl (.inl rfl)) (pss_one (ps_for PassesOwn.never rfl (pi_list (pe_ix ix_list (pv 3) (pv 4) (fun _ _ => rfl))) (pg_name (i := 11) scDistances_to_final.nd rfl (.inl rfl)) (pss_one (ps_if (pt_cmpR op_isN (pe_ix ix_list (pv 8) (pv 11) (fun _ _ => rfl)) pe_non (nomark _)) (pss_cons (ps_asg (pe_op op_add (pe_ix ix_list (pv 8) (pv 4) (fun _ _ => rfl)) pe_int) (pg_sub (pv 8) (pv 11) set_list))
      (pss_one (ps_expr (pe_bm PySem.F.plainAttrs_list PySem.F.slot_list_append PySem.F.type_list_append mt_append (pv 10) (pa_cons (pv 11) pa_nil))))) pss_nil)))))
      (pss_one (ps_set (i := 9) scDistances_to_final.nd rfl (.inl rfl) (pv 10))))))
      (pss_one (ps_ret (pv 8))))))), ?_⟩
    obtain ⟨us, hS, DS⟩ := hS
    have usl : us.length = ss.length := by rw [DS.len, List.length_map]
    obtain ⟨dx, E, Pd, Tk, D0, B, tvs, hm, _⟩ := MA.ob
    -- a list for each state
    refine ⟨_, rfl, S, rfl, ⟨_, SqL.of hS⟩, fun F nF => lc_list (K := K) (a := S) (xs := us) (fun i G => ∃ (M : Hp) (as : List Addr), Md H M G ∧ Frl M F as (List.replicate i [])) ⟨_, [], (Md.start H).newM (.lst []) nF trivial, Frl.start⟩ (fun i G _ ⟨M, as, W, _⟩ => SqL.of (W.th _ _ hS)) ?_ ?_⟩
    · rintro i x G hx ⟨M, as, W, E1⟩
      refine ⟨rfl, Nat.zero_le _, fun a na => ?_⟩
      have W1 := W.newM (L := a) (.lst []) na trivial
      have fa : F ≠ a := W.ne E1.fAt na
      have hF := W1.at (show upd M a (.lst []) F = some (.lst (as.map V.ref)) by rw [upd_ne fa]; exact E1.fAt)
      have il : i < us.length := (List.getElem?_eq_some_iff.mp hx).1
      refine ⟨_, hF, by rw [List.length_map, E1.len, List.length_replicate, sizeLine_eq]; omega, _, as ++ [a], W1.setM (L := F) _ (by rw [upd_ne fa, E1.fAt]; exact fun z => nomatch z) trivial, ?_⟩
      rw [List.replicate_succ']
      exact E1.new (W.free na).2
    rintro G ⟨M, as, W, E1⟩
    rw [usl] at E1
    -- who leads to each
    refine ⟨_, rfl, Mv, _, rfl, SqL.of (W.th _ _ hMv), for_it (walk_enum (K := K) (a := Mv) (xs := ms)) (fun i σ G => ∃ (T M : Hp) (fr : List (List Nat)) (y4 y5 y6 y7 : Option V), σ = [some (.ref m), some (.ref S), some (.ref Mv), some (.ref F), y4, y5, y6, y7, none, none, none, none, none, none] ∧ Md T M G ∧ Same H T ∧ Frl M F as fr ∧ ∀ g, FrOk (stepS is pss gs) cnt ss g i 0 fr)
      ⟨H, M, _, _, _, _, _, rfl, W, Same.refl _, E1, fun g => FrOk.start⟩ (fun i σ G _ ⟨T, M, fr, _, _, _, _, _, W, sT, _⟩ => SqL.of (W.th _ _ (sT _ _ hMv))) ?_ ?_⟩
    · rintro i x σ G G' hi ⟨T, M, fr, y4, y5, y6, y7, rfl, W, sT, E1, Ok⟩ ⟨U, x1, x2, rfl, nU, rfl, f1, f2⟩
      have e1 : x1 = .int (i : Int) := (Option.some.inj f1).symm
      subst e1
      obtain ⟨s, hs⟩ : ∃ s, ss[i]? = some s := ⟨_, List.getElem?_eq_getElem (by omega)⟩
      obtain ⟨R, rs, hR1, hR2, RP⟩ := RA i s hi hs
      have f2' : ms[i]? = some x2 := f2
      rw [hR1] at f2'
      cases f2'
      have W1 := W.put (.tup [V.int (i : Int), V.ref R]) nU
      have sT1 := sT.trans (W.putT (.tup [V.int (i : Int), V.ref R]) nU)
      have hU : upd G U (HO.tup [V.int (i : Int), V.ref R]) U = some (.tup [V.int (i : Int), V.ref R]) := upd_same
      generalize upd G U (HO.tup [V.int (i : Int), V.ref R]) = G1 at *
      generalize upd T U (HO.tup [V.int (i : Int), V.ref R]) = T1 at *
      refine ⟨U, _, rfl, SqT.of hU, rfl, _, _, rfl, _, _, rfl, rfl, ?_⟩
      refine ⟨_, rfl, R, rfl, ⟨_, SqL.of (W1.th _ _ (sT1 _ _ hR2))⟩, for_list (xs := rs) (fun j σ G => ∃ (T M : Hp) (fr : List (List Nat)) (y6 y7 : Option V), σ = [some (.ref m), some (.ref S), some (.ref Mv), some (.ref F), some (.int (i : Int)), some (.ref R), y6, y7, none, none, none, none, none, none] ∧ Md T M G ∧ Same H T ∧ Frl M F as fr ∧ FrOk (stepS is pss gs) cnt ss (Bf.grp (stepS is pss gs s) (Bf.rng cnt)) i j fr)
        ⟨_, _, _, _, _, rfl, W1, sT1, E1, Ok _⟩ (fun j σ G _ ⟨T, M, fr, _, _, _, W, sT, _⟩ => SqL.of (W.th _ _ (sT _ _ hR2))) ?_ ?_⟩
      · rintro j x σ G hx ⟨T, M, fr, y6, y7, rfl, W, sT, E1, Ok⟩
        have jl : j < (Bf.grp (stepS is pss gs s) (Bf.rng cnt)).length := by rw [← RP.1]; exact (List.getElem?_eq_some_iff.mp hx).1
        obtain ⟨⟨t, bs⟩, hg⟩ : ∃ q, (Bf.grp (stepS is pss gs s) (Bf.rng cnt))[j]? = some q := ⟨_, List.getElem?_eq_getElem jl⟩
        obtain ⟨U, k, bl, h1, h2, h3, h4⟩ := RP.2 j t bs hg
        rw [hx] at h1
        cases h1
        have kl : k < ss.length := (List.getElem?_eq_some_iff.mp h3).1
        obtain ⟨l, hl⟩ : ∃ l, fr[k]? = some l := ⟨fr[k]'(by rw [Ok.fl]; exact kl), List.getElem?_eq_getElem _⟩
        obtain ⟨a, ha⟩ : ∃ a, as[k]? = some a := ⟨as[k]'(by rw [E1.len, Ok.fl]; exact kl), List.getElem?_eq_getElem _⟩
        have hMa := E1.at_ k a l ha hl
        have fl := Ok.few hg h3 hl
        refine ⟨U, _, rfl, SqT.of (W.th _ _ (sT _ _ h2)), rfl, _, _, rfl, _, _, rfl, rfl, ?_⟩
        refine ⟨_, rfl, _, rfl, F, _, _, V.ref a, rfl, rfl, SqL.of (W.at E1.fAt), atI_nat (by rw [List.getElem?_map, ha]; rfl), .inl ⟨rfl, _, SqL.of (W.at hMa)⟩, _, rfl, a, _, _, rfl, rfl, W.at hMa, by rw [List.length_map, sizeLine_eq]; omega, ?_⟩
        exact ⟨T, _, _, _, _, rfl, W.setM (L := a) _ (by rw [hMa]; exact fun z => nomatch z) trivial, sT, E1.push (n := i) ha hl, Ok.push nd hs hg h3 hl⟩
      · rintro σ G ⟨T, M, fr, y6, y7, rfl, W, sT, E1, Ok⟩
        rw [RP.1] at Ok
        exact ⟨T, M, fr, _, _, _, _, rfl, W, sT, E1, fun g => Ok.next hs⟩
    rintro σ G ⟨T, M, fr, y4, y5, y6, y7, rfl, W, sT, E1, Ok⟩
    rw [ml] at Ok
    have Ok := Ok []
    -- which are final
    refine ⟨_, rfl, S, rfl, ⟨_, SqL.of (W.th _ _ (sT _ _ hS))⟩, fun Ds nDs => lc_list (K := K) (a := S) (xs := us) (fun i G => ∃ (M : Hp), Md T M G ∧ Frl M F as fr ∧ M Ds = some (.lst ((Ct.dist0 (finS pss gs) (ss.take i)).map optN)) ∧ H Ds = none ∧ Ds ≠ F ∧ Ds ∉ as) ⟨_, W.newM (.lst []) nDs trivial, ?_⟩ (fun i G _ ⟨M, W, _⟩ => SqL.of (W.th _ _ (sT _ _ hS))) ?_ ?_⟩
    · have DF : F ≠ Ds := W.ne E1.fAt nDs
      have Da : Ds ∉ as := fun z => by
        obtain ⟨j, hj⟩ := List.mem_iff_getElem?.mp z
        obtain ⟨l, hl⟩ : ∃ l, fr[j]? = some l := ⟨fr[j]'(by rw [← E1.len]; exact (List.getElem?_eq_some_iff.mp hj).1), List.getElem?_eq_getElem _⟩
        exact W.ne (E1.at_ j Ds l hj hl) nDs rfl
      exact ⟨E1.keep fun b hb => upd_ne (by
        rcases hb with h | h
        · rw [h]; exact DF
        · exact fun z => Da (z ▸ h)), upd_same, (sT.trans W.th).free nDs, Ne.symm DF, Da⟩
    · rintro i x G hx ⟨M, W, E1, hD, nD, DF, Da⟩
      obtain ⟨s, hs⟩ : ∃ s, ss[i]? = some s := ⟨_, List.getElem?_eq_getElem (by rw [← usl]; exact (List.getElem?_eq_some_iff.mp hx).1)⟩
      obtain ⟨ds, hds, Du⟩ := DS.at hx
      rw [List.getElem?_map, hs] at hds
      cases hds
      have sHG := sT.trans W.th
      have il : i < us.length := (List.getElem?_eq_some_iff.mp hx).1
      have fin : ∀ o : Option Nat, (if s = finS pss gs then some 0 else none) = o → ∃ M', Md T M' (upd G Ds (.lst ((Ct.dist0 (finS pss gs) (ss.take i)).map optN ++ [optN o]))) ∧ Frl M' F as fr ∧ M' Ds = some (.lst ((Ct.dist0 (finS pss gs) (ss.take (i + 1))).map optN)) ∧ H Ds = none ∧ Ds ≠ F ∧ Ds ∉ as := fun o e => by
        refine ⟨_, W.setM (L := Ds) _ (by rw [hD]; exact fun z => nomatch z) trivial, E1.keep fun b hb => upd_ne (by
          rcases hb with h | h
          · rw [h]; exact Ne.symm DF
          · exact fun z => Da (z ▸ h)), ?_, nD, DF, Da⟩
        rw [upd_same]
        unfold Ct.dist0
        rw [take_more hs, List.map_append, List.map_append]
        show _ = some (HO.lst (_ ++ [optN (if s = finS pss gs then some 0 else none)]))
        rw [e]
      have lenD : ((Ct.dist0 (finS pss gs) (ss.take i)).map optN).length < sizeLine := by
        unfold Ct.dist0
        rw [List.length_map, List.length_map, List.length_take, sizeLine_eq]
        omega
      refine ⟨rfl, _, rfl, m, dx, _, rfl, sHG _ _ hm, mf_no _ _ _ _ _ (by decide), _, rfl, m, cnt, is, pss, gs, x, s, rfl, MA.same sHG, gne, Du.same sHG, _, rfl, ?_⟩
      by_cases sf : s = finS pss gs
      · rw [decide_eq_true sf]
        exact iteT ⟨_, W.at hD, lenD, fin (some 0) (if_pos sf)⟩
      · rw [decide_eq_false sf]
        exact iteF ⟨_, W.at hD, lenD, fin none (if_neg sf)⟩
    rintro G ⟨M, W, E1, hD, nD, DF, Da⟩
    rw [usl, List.take_length] at hD
    have I0 : Ct.DInv (stepS is pss gs) (finS pss gs) cnt ss 0 (Ct.dist0 (finS pss gs) ss) := Ct.DInv.start
    generalize Ct.dist0 (finS pss gs) ss = d at hD I0
    -- those that are
    refine ⟨_, rfl, Ds, _, rfl, SqL.of (W.at hD), fun R nR => lc_it (walk_enum (K := K) (a := Ds) (xs := d.map optN)) (fun i G => ∃ (T M : Hp) (rs : List Nat), Md T M G ∧ Same H T ∧ Frl M F as fr ∧ M Ds = some (.lst (d.map optN)) ∧ M R = some (.lst (rs.map nV)) ∧ R ≠ F ∧ R ∉ as ∧ R ≠ Ds ∧ rs.length ≤ i ∧ ∀ p, p ∈ rs ↔ p < i ∧ d[p]? = some (some 0)) ?_ (fun i G _ ⟨T, M, rs, W, _, _, hD, _⟩ => SqL.of (W.at hD)) ?_ ?_⟩
    · have RF : F ≠ R := W.ne E1.fAt nR
      have RD : Ds ≠ R := W.ne hD nR
      have Ra : R ∉ as := fun z => by
        obtain ⟨j, hj⟩ := List.mem_iff_getElem?.mp z
        obtain ⟨l, hl⟩ : ∃ l, fr[j]? = some l := ⟨fr[j]'(by rw [← E1.len]; exact (List.getElem?_eq_some_iff.mp hj).1), List.getElem?_eq_getElem _⟩
        exact W.ne (E1.at_ j R l hj hl) nR rfl
      exact ⟨T, _, [], W.newM (.lst []) nR trivial, sT, E1.keep fun b hb => upd_ne (by
        rcases hb with h | h
        · rw [h]; exact RF
        · exact fun z => Ra (z ▸ h)), by rw [upd_ne RD]; exact hD, upd_same, Ne.symm RF, Ra, Ne.symm RD, Nat.le_refl _, fun p => ⟨fun h => (nomatch h), fun h => absurd h.1 (Nat.not_lt_zero _)⟩⟩
    · rintro i x G G' hi ⟨T, M, rs, W, sT, E1, hD, hR, RF, Ra, RD, rl, rm⟩ ⟨U, x1, x2, rfl, nU, rfl, f1, f2⟩
      have e1 : x1 = .int (i : Int) := (Option.some.inj f1).symm
      subst e1
      have dl : i < d.length := by rw [List.length_map] at hi; exact hi
      obtain ⟨o, ho⟩ : ∃ o, d[i]? = some o := ⟨_, List.getElem?_eq_getElem dl⟩
      have e2 : optN o = x2 := by
        have : (d.map optN)[i]? = some x2 := f2
        rw [List.getElem?_map, ho] at this
        exact Option.some.inj this
      subst e2
      have W1 := W.put (.tup [V.int (i : Int), optN o]) nU
      have sT1 := sT.trans (W.putT (.tup [V.int (i : Int), optN o]) nU)
      have hU : upd G U (HO.tup [V.int (i : Int), optN o]) U = some (.tup [V.int (i : Int), optN o]) := upd_same
      generalize upd G U (HO.tup [V.int (i : Int), optN o]) = G1 at *
      generalize upd T U (HO.tup [V.int (i : Int), optN o]) = T1 at *
      refine ⟨U, _, rfl, SqT.of hU, rfl, _, _, rfl, _, _, rfl, rfl, ?_⟩
      have no : o ≠ some 0 → ∃ (T M : Hp) (rs : List Nat), Md T M G1 ∧ Same H T ∧ Frl M F as fr ∧ M Ds = some (.lst (d.map optN)) ∧ M R = some (.lst (rs.map nV)) ∧ R ≠ F ∧ R ∉ as ∧ R ≠ Ds ∧ rs.length ≤ i + 1 ∧ ∀ p, p ∈ rs ↔ p < i + 1 ∧ d[p]? = some (some 0) := fun h => ⟨T1, M, rs, W1, sT1, E1, hD, hR, RF, Ra, RD, by omega, fun p => by
        rw [rm]
        refine ⟨fun z => ⟨by omega, z.2⟩, fun z => ⟨?_, z.2⟩⟩
        rcases Nat.lt_or_ge p i with l | l
        · exact l
        · have : p = i := by omega
          rw [this, ho] at z
          exact absurd (Option.some.inj z.2) h⟩
      have fewr : rs.length < sizeLine := by
        rw [I0.len] at dl
        rw [sizeLine_eq]; omega
      cases o with
      | none => exact ⟨rfl, _, rfl, rfl, _, rfl, iteF (no (fun z => nomatch z))⟩
      | some n =>
        refine ⟨rfl, _, rfl, rfl, _, rfl, ?_⟩
        cases n with
        | succ n => exact iteF (no (fun z => nomatch z))
        | zero =>
          refine iteT ⟨_, rfl, _, W1.at hR, by rw [List.length_map]; exact fewr, T1, _, rs ++ [i], W1.setM (L := R) _ (by rw [hR]; exact fun z => nomatch z) trivial, sT1, E1.keep fun b hb => upd_ne (by
            rcases hb with h | h
            · rw [h]; exact Ne.symm RF
            · exact fun z => Ra (z ▸ h)), by rw [upd_ne (Ne.symm RD)]; exact hD, by rw [upd_same, List.map_append]; rfl, RF, Ra, RD, by rw [List.length_append, List.length_singleton]; omega, fun p => ?_⟩
          rw [List.mem_append, List.mem_singleton, rm]
          refine ⟨fun z => ?_, fun z => ?_⟩
          · rcases z with z | z
            · exact ⟨by omega, z.2⟩
            · rw [z]; exact ⟨by omega, ho⟩
          · rcases Nat.lt_or_ge p i with l | l
            · exact .inl ⟨l, z.2⟩
            · exact .inr (by omega)
    rintro G ⟨T, M, rs, W, sT, E1, hD, hR, RF, Ra, RD, rl, rm⟩
    rw [List.length_map, I0.len] at rl
    have rm0 : ∀ p : Nat, p ∈ rs ↔ d[p]? = some (some 0) := fun p => by
      rw [rm, List.length_map]
      exact ⟨fun z => z.2, fun z => ⟨(List.getElem?_eq_some_iff.mp z).1, z⟩⟩
    clear rm
    -- the walk
    refine while_by (fun σ G => ∃ (T M : Hp) (R : Addr) (rs : List Nat) (k : Nat) (d : List (Option Nat)) (y4 y5 y6 y7 y10 y11 : Option V), σ = [some (.ref m), some (.ref S), some (.ref Mv), some (.ref F), y4, y5, y6, y7, some (.ref Ds), some (.ref R), y10, y11, none, none] ∧ Md T M G ∧ Same H T ∧ Frl M F as fr ∧ M Ds = some (.lst (d.map optN)) ∧ M R = some (.lst (rs.map nV)) ∧ R ≠ F ∧ R ∉ as ∧ R ≠ Ds ∧ rs.length ≤ ss.length ∧ (∀ p : Nat, p ∈ rs ↔ d[p]? = some (some k)) ∧ Ct.DInv (stepS is pss gs) (finS pss gs) cnt ss k d) leftD
      ⟨_, _, _, _, _, _, _, _, _, _, _, _, rfl, W, sT, E1, hD, hR, RF, Ra, RD, rl, rm0, I0⟩ ?_ ?_
    · rintro σ G ⟨T, M, R, rs, k, d, y4, y5, y6, y7, y10, y11, rfl, W, sT, E1, hD, hR, RF, Ra, RD, rl, rm, I⟩
      refine ⟨_, rfl, R, _, rfl, .inl (SqL.of (W.at hR)), _, _, rfl, rfl, _, rfl, ?_⟩
      by_cases lt : (0 : Int) < ((rs.map nV).length : Int)
      · rw [decide_eq_true lt]
        refine iteT ⟨Nat.zero_le _, fun Fu nFu => ?_⟩
        have W1 := W.newM (L := Fu) (.lst []) nFu trivial
        obtain ⟨FuF, Fua⟩ := E1.off (W.free nFu).2
        have DFu : Ds ≠ Fu := W.ne hD nFu
        have RFu : R ≠ Fu := W.ne hR nFu
        have hmes : leftD [some (.ref m), some (.ref S), some (.ref Mv), some (.ref F), y4, y5, y6, y7, some (.ref Ds), some (.ref R), y10, y11, none, none] G = 2 * d.countP (fun o => o.isNone) + 1 := by
          unfold leftD
          dsimp only
          rw [W.at hD, W.at hR]
          dsimp only
          rw [none_cnt, show min 1 (rs.map nV).length = 1 from Nat.min_eq_left (by omega)]
        refine ⟨_, rfl, R, rfl, ⟨_, SqL.of (W1.at (show upd M Fu (.lst []) R = some (.lst (rs.map nV)) by rw [upd_ne RFu]; exact hR))⟩, for_list (xs := rs.map nV) (fun q σ G => ∃ (T M : Hp) (d' : List (Option Nat)) (fu : List Nat) (y4 y11 : Option V), σ = [some (.ref m), some (.ref S), some (.ref Mv), some (.ref F), y4, y5, y6, y7, some (.ref Ds), some (.ref R), some (.ref Fu), y11, none, none] ∧ Md T M G ∧ Same H T ∧ Frl M F as fr ∧ M Ds = some (.lst (d'.map optN)) ∧ M R = some (.lst (rs.map nV)) ∧ M Fu = some (.lst (fu.map nV)) ∧ Ct.DAm (stepS is pss gs) (finS pss gs) cnt ss k d d' fu ∧ ∀ p ∈ rs.take q, ∀ l, fr[p]? = some l → ∀ i ∈ l, d'[i]? ≠ some none)
          ⟨T, _, d, [], _, _, rfl, W1, sT, E1.put FuF Fua, by rw [upd_ne DFu]; exact hD, by rw [upd_ne RFu]; exact hR, upd_same, I.amid, fun p hp => by simp at hp⟩ (fun q σ G _ ⟨T, M, d', fu, _, _, _, W, _, _, _, hR, _⟩ => SqL.of (W.at hR)) ?_ ?_⟩
        · rintro q x σ G hx ⟨T, M, d', fu, z4, z11, rfl, W, sT, E1, hD, hR, hFu, A, dn⟩
          rw [List.getElem?_map] at hx
          obtain ⟨p, hp, rfl⟩ := Option.map_eq_some_iff.mp hx
          have dp := (rm p).mp (List.mem_of_getElem? hp)
          have pl : p < ss.length := by rw [← I.len]; exact (List.getElem?_eq_some_iff.mp dp).1
          obtain ⟨t, ht⟩ : ∃ t, ss[p]? = some t := ⟨_, List.getElem?_eq_getElem pl⟩
          have lt := (I.snd p t k ht dp).2
          obtain ⟨l, hl⟩ : ∃ l, fr[p]? = some l := ⟨fr[p]'(by rw [Ok.fl]; exact pl), List.getElem?_eq_getElem _⟩
          obtain ⟨a, ha⟩ : ∃ a, as[p]? = some a := ⟨as[p]'(by rw [E1.len, Ok.fl]; exact pl), List.getElem?_eq_getElem _⟩
          have aM := List.mem_of_getElem? ha
          refine ⟨_, rfl, _, rfl, F, _, _, V.ref a, rfl, rfl, SqL.of (W.at E1.fAt), atI_nat (by rw [List.getElem?_map, ha]; rfl), a, rfl, ⟨_, SqL.of (W.at (E1.at_ p a l ha hl))⟩, for_list (xs := l.map nV) (fun r σ G => ∃ (T M : Hp) (d' : List (Option Nat)) (fu : List Nat) (y11 : Option V), σ = [some (.ref m), some (.ref S), some (.ref Mv), some (.ref F), some (nV p), y5, y6, y7, some (.ref Ds), some (.ref R), some (.ref Fu), y11, none, none] ∧ Md T M G ∧ Same H T ∧ Frl M F as fr ∧ M Ds = some (.lst (d'.map optN)) ∧ M R = some (.lst (rs.map nV)) ∧ M Fu = some (.lst (fu.map nV)) ∧ Ct.DAm (stepS is pss gs) (finS pss gs) cnt ss k d d' fu ∧ (∀ p ∈ rs.take q, ∀ l, fr[p]? = some l → ∀ i ∈ l, d'[i]? ≠ some none) ∧ ∀ i ∈ l.take r, d'[i]? ≠ some none)
            ⟨T, M, d', fu, _, rfl, W, sT, E1, hD, hR, hFu, A, dn, fun i hi => by simp at hi⟩ (fun r σ G _ ⟨T, M, d', fu, _, _, W, _, E1, _⟩ => SqL.of (W.at (E1.at_ p a l ha hl))) ?_ ?_⟩
          · rintro r x σ G hx ⟨T, M, d', fu, z11, rfl, W, sT, E1, hD, hR, hFu, A, dn, dl⟩
            rw [List.getElem?_map] at hx
            obtain ⟨i, hi, rfl⟩ := Option.map_eq_some_iff.mp hx
            obtain ⟨s, t', hs, ht', ed⟩ := Ok.sound p l i hl (List.mem_of_getElem? hi)
            rw [ht] at ht'
            cases ht'
            have il : i < d'.length := by rw [A.len]; exact (List.getElem?_eq_some_iff.mp hs).1
            obtain ⟨o, ho⟩ : ∃ o, d'[i]? = some o := ⟨_, List.getElem?_eq_getElem il⟩
            have dp' := A.cmp p t k (Nat.le_refl _) ht lt
            have dl2 : ∀ {d2 : List (Option Nat)}, (∀ j : Nat, d'[j]? ≠ some none → d2[j]? ≠ some none) → d2[i]? ≠ some none → ∀ j ∈ l.take (r + 1), d2[j]? ≠ some none := fun {d2} h1 h2 j hj => by
              rw [take_more hi] at hj
              rcases List.mem_append.mp hj with h | h
              · exact h1 j (dl j h)
              · rw [List.mem_singleton.mp h]; exact h2
            refine ⟨_, rfl, _, rfl, Ds, _, _, optN o, rfl, rfl, SqL.of (W.at hD), atI_nat (by rw [List.getElem?_map, ho]; rfl), rfl, _, rfl, ?_⟩
            cases o with
            | some n => exact iteF ⟨T, M, d', fu, _, rfl, W, sT, E1, hD, hR, hFu, A, dn, dl2 (fun _ h => h) (by rw [ho]; exact fun z => nomatch z)⟩
            | none =>
              have A2 := A.more hs ht ed dp' ho
              have mono : ∀ j : Nat, d'[j]? ≠ some none → (d'.set i (some (k + 1)))[j]? ≠ some none := fun j h => by
                rw [List.getElem?_set]
                by_cases e : i = j
                · rw [if_pos e, if_pos il]; exact fun z => nomatch z
                · rw [if_neg e]; exact h
              have W2 := W.setM (L := Ds) (.lst ((d'.set i (some (k + 1))).map optN)) (by rw [hD]; exact fun z => nomatch z) trivial
              have hFu2 : upd M Ds (.lst ((d'.set i (some (k + 1))).map optN)) Fu = some (.lst (fu.map nV)) := by rw [upd_ne (Ne.symm DFu)]; exact hFu
              have fl : fu.length ≤ ss.length := by
                have h1 := A.few
                have h2 : d.countP (fun o => o.isNone) ≤ d.length := List.countP_le_length
                rw [I.len] at h2
                omega
              have es : (d'.map optN).set i (V.int ((k : Int) + 1)) = (d'.set i (some (k + 1))).map optN := by
                rw [List.map_set]
                rfl
              refine iteT ⟨_, rfl, _, rfl, Ds, _, _, nV k, rfl, rfl, SqL.of (W.at hD), atI_nat (by rw [List.getElem?_map, dp']; rfl), _, _, rfl, rfl, _, rfl, _, rfl, Ds, _, _, i, rfl, rfl, W.at hD, ixN_at (by rw [List.length_map]; exact il), ?_⟩
              rw [es]
              refine ⟨_, rfl, .inl ⟨rfl, _, SqL.of (W2.at hFu2)⟩, _, rfl, Fu, _, _, rfl, rfl, W2.at hFu2, by rw [List.length_map, sizeLine_eq]; omega, ?_⟩
              have W3 := W2.setM (L := Fu) (.lst (fu.map nV ++ [nV i])) (by rw [hFu2]; exact fun z => nomatch z) trivial
              exact ⟨T, _, _, fu ++ [i], _, rfl, W3, sT, (E1.put DF Da).put FuF Fua, by rw [upd_ne DFu]; exact upd_same, by rw [upd_ne RFu, upd_ne RD]; exact hR, by rw [upd_same, List.map_append]; rfl, A2, fun p' hp' l' hl' j hj => mono j (dn p' hp' l' hl' j hj), dl2 mono (by rw [List.getElem?_set, if_pos rfl, if_pos il]; exact fun z => nomatch z)⟩
          · rintro σ G ⟨T, M, d', fu, z11, rfl, W, sT, E1, hD, hR, hFu, A, dn, dl⟩
            rw [List.length_map, List.take_length] at dl
            refine ⟨T, M, d', fu, _, _, rfl, W, sT, E1, hD, hR, hFu, A, fun p' hp' l' hl' => ?_⟩
            rw [take_more hp] at hp'
            rcases List.mem_append.mp hp' with h | h
            · exact dn p' h l' hl'
            · rw [List.mem_singleton.mp h, hl] at hl'
              cases hl'
              exact dl
        · rintro σ G2 ⟨T, M, d', fu, z4, z11, rfl, W, sT, E1, hD, hR, hFu, A, dn⟩
          rw [List.length_map, List.take_length] at dn
          have I2 : Ct.DInv (stepS is pss gs) (finS pss gs) cnt ss (k + 1) d' := A.done cl fun p i s t hs ht dp ed => by
            have h0 := I.cmp p t k (Nat.le_refl _) ht (A.snd p t k ht dp).2
            obtain ⟨l, hl, il⟩ := Ok.comp i s p t (List.getElem?_eq_some_iff.mp hs).1 hs ht ed
            exact dn p ((rm p).mpr h0) l hl i il
          have fl : fu.length ≤ ss.length := by
            have h1 := A.few
            have h2 : d.countP (fun o => o.isNone) ≤ d.length := List.countP_le_length
            rw [I.len] at h2
            omega
          refine ⟨_, rfl, ⟨T, M, Fu, fu, k + 1, d', _, _, _, _, _, _, rfl, W, sT, E1, hD, hFu, FuF, Fua, Ne.symm DFu, fl, A.mem, I2⟩, ?_⟩
          rw [hmes]
          show (match G2 Ds with
            | some (.lst xs) => 2 * xs.countP (fun v => decide (v = V.non))
            | _ => 0) + (match G2 Fu with
            | some (.lst xs) => min 1 xs.length
            | _ => 0) < _
          rw [W.at hD, W.at hFu]
          show 2 * (d'.map optN).countP (fun v => decide (v = V.non)) + min 1 (fu.map nV).length < _
          rw [none_cnt, List.length_map]
          have := A.few
          omega
      · rw [decide_eq_false lt]
        refine iteF ⟨_, rfl, ?_⟩
        have rn : rs = [] := by
          cases rs with
          | nil => rfl
          | cons x l => exact absurd (by rw [List.length_map, List.length_cons]; omega) lt
        exact q _ Ds d (sT.trans W.th) nD (W.at hD) (I.end_ cl fun i h => by
          have := (rm i).mpr h
          rw [rn] at this
          cases this)
    · rintro σ H2 Q1 Q2 hQ ⟨v, h1, a, xs, h3, h4, i, j, h7, h8, b, h9, h10⟩
      exact ⟨v, h1, a, xs, h3, h4, i, j, h7, h8, b, h9, hQ _ _ h10⟩
end
end Ov
namespace Ov
open PySem PySem.Spec PyProof.Rows L2
structure GrTxt (K : PySem.W.Frag) (mg : Str → Option Value) (C : Addr) : Prop where
  cl : Cls K C
  nD : NoAttr K C "distances"
  nU : NoAttr K C "useful_moves"
  mgC : mg "OverlayGraph" = some (.ref C)
def gf1 (D : Addr) : List (Str × V) := putF "distances" (.ref D) []
def gf2 (D U : Addr) : List (Str × V) := putF "useful_moves" (.ref U) (gf1 D)
theorem gf1_D (D : Addr) : (gf1 D).lookup ("distances" : Str) = some (.ref D) := by
  unfold gf1
  rw [lookup_putF, if_pos rfl]
theorem gf2_D (D U : Addr) : (gf2 D U).lookup ("distances" : Str) = some (.ref D) := by
  unfold gf2
  rw [lookup_putF, if_neg (by decide +kernel), gf1_D]
theorem gf2_U (D U : Addr) : (gf2 D U).lookup ("useful_moves" : Str) = some (.ref U) := by
  unfold gf2
  rw [lookup_putF, if_pos rfl]
theorem gf1_no (D : Addr) {m : Str} (h : m ∉ (["distances", "useful_moves"] : List Str)) : (gf1 D).lookup m = none := by
  simp only [List.mem_cons, List.not_mem_nil, or_false, not_or] at h
  unfold gf1
  rw [lookup_putF, if_neg h.1]
  rfl
theorem gf2_no (D U : Addr) {m : Str} (h : m ∉ (["distances", "useful_moves"] : List Str)) : (gf2 D U).lookup m = none := by
  have h' := h
  simp only [List.mem_cons, List.not_mem_nil, or_false, not_or] at h'
  unfold gf2
  rw [lookup_putF, if_neg h'.2, gf1_no D h]
abbrev rNotN : V → V → Hp → VK → Prop := fun x y H Q => y = .non ∧ Q (.bl (!decide (x = .non))) H
/-- the state has a distance -/
def useB (ss : List Sta) (d : List (Option Nat)) (t : Sta) : Bool := (ss.zip d).any fun q => decide (q.1 = t) && q.2.isSome
theorem useB_at {ss : List Sta} {d : List (Option Nat)} (nd : ss.Nodup) {k : Nat} {t : Sta} {o : Option Nat} (hs : ss[k]? = some t) (hd : d[k]? = some o) : useB ss d t = o.isSome := by
  unfold useB
  have hz : (ss.zip d)[k]? = some (t, o) := List.getElem?_zip_eq_some.mpr ⟨hs, hd⟩
  cases o with
  | some n => exact List.any_eq_true.mpr ⟨(t, some n), List.mem_of_getElem? hz, by simp⟩
  | none =>
    refine List.any_eq_false.mpr fun q hq => ?_
    obtain ⟨j, hj⟩ := List.mem_iff_getElem?.mp hq
    obtain ⟨h1, h2⟩ := List.getElem?_zip_eq_some.mp hj
    by_cases e : q.1 = t
    · rw [e] at h1
      have := nd_at nd h1 hs
      rw [this, hd] at h2
      rw [← Option.some.inj h2]
      simp
    · simp [e]
def usG (ss : List Sta) (d : List (Option Nat)) (g : List (Sta × List Int)) : List (Sta × List Int) := g.filter fun q => useB ss d q.1
section
variable {P : Program} {w : World} {K : PySem.W.Frag} {mg : Str → Option Value} {base : Heap}
abbrev sOverlayGraph_init : Stmt := inClass cOverlayGraph 0
abbrev sOverlayGraph_useful_part : Stmt := inClass cOverlayGraph 1
abbrev sOverlayGraph_last_level : Stmt := inClass cOverlayGraph 2
abbrev sOverlayGraph_level_before : Stmt := inClass cOverlayGraph 3
abbrev sOverlayGraph_levels : Stmt := inClass cOverlayGraph 4
abbrev sOverlayGraph_sorted_moves : Stmt := inClass cOverlayGraph 5
def spUseful (K : PySem.W.Frag) (Cg : Addr) : Sp := fun vs H Q _ => ∃ (g dx D R : Addr) (fs : List (Str × V)) (d : List (Option Nat)) (rs : List V) (ss : List Sta) (gr : List (Sta × List Int)) (T0 : Hp), vs = [.ref g, .ref R] ∧ H g = some (.ins Cg dx fs) ∧ fs.lookup ("distances" : Str) = some (.ref D) ∧ H D = some (.lst (d.map optN)) ∧ T0 R = some (.lst rs) ∧ Same T0 H ∧ RowPart T0 rs ss gr ∧ d.length = ss.length ∧ ss.Nodup ∧ gr.length ≤ 256 ∧
  ∀ H' T' L rs', Grow T0 H T' H' → T' L = none → H L = none → H' L = some (.lst rs') → RowPart T' rs' ss (usG ss d gr) → Q (.ref L) H'
abbrev nUsefulG : List Str := ["self", "row", "target", "fitting"]
theorem scUsefulG : FnScope nUsefulG ["self", "row"] (defScope sOverlayGraph_useful_part) := ⟨rfl, rfl, rfl, by decide +kernel, rfl, by decide +kernel, by decide +kernel⟩
theorem ok_usefulG {f Cg : Addr} {fd : FuncData} {k : Nat} (F : Fun K "useful_part" "OverlayGraph.useful_part" sOverlayGraph_useful_part f fd) (Sg : GrTxt K mg Cg) :
    FnOk P w K mg base CX0 (k + 1) f fd ["self", "row"] (spUseful K Cg) := by
  refine F.ok scUsefulG (fun vs H Q E h => ?_) (fun cdv A' outer s H vs Q E hr h => ?_)
  · obtain ⟨g, dx, D, R, fs, d, rs, ss, gr, T0, rfl, _⟩ := h
    rfl
  · obtain ⟨g, dx, D, R, fs, d, rs, ss, gr, T0, rfl, hg, hfs, hD, hR, s0, RP, dl, nd, few, q⟩ := h
    refine ⟨_, pss_one (ps_ret (pe_lc (own := [("target", 2), ("fitting", 3)]) (g := (gTup K 2 (gCons (gName 2) (gCons (gName 3) gNil)))) (tt := (tTest (tOp rNotN (tOp (rIxL K) (tFld K (tVar 0) "distances") (tVar 2)) (tC .non)))) (by rfl) scUsefulG.nd (pi_list (pv 1)) (blkOk_by (own := [("target", 2), ("fitting", 3)]) (N := nUsefulG) (sc := defScope sOverlayGraph_useful_part) (by decide +kernel)) (fun _ _ _ _ _ => (pg_tup rfl (pgs_cons (pg_name (i := 2) scUsefulG.nd rfl (Or.inl rfl)) (pgs_cons (pg_name (i := 3) scUsefulG.nd rfl (Or.inl rfl)) pgs_nil)))) (fun _ _ _ _ _ => pts_one (pt_cmpR op_notN (pe_ix (r := rIxL K) ix_list (pe_fld (pv 0) rfl) (pv 2) (fun _ _ => rfl)) pe_non (nomark _))) (fun _ _ _ _ _ => (pe_tup (pa_cons (pv 2) (pa_cons (pv 3) pa_nil)))))), ?_⟩
    refine ⟨_, rfl, R, rfl, ⟨_, SqL.of (s0 _ _ hR)⟩, fun L nL => lc_list (K := K) (a := R) (xs := rs) (fun i G => ∃ (T : Hp) (rs' : List V), Same H G ∧ Same T0 T ∧ Same T G ∧ T L = none ∧ G L = some (.lst rs') ∧ RowPart T rs' ss (usG ss d (gr.take i)) ∧ ∀ b, T0 b = none → H b ≠ none → T b = none) ⟨T0, [], same_upd nL, Same.refl _, s0.trans (same_upd nL), s0.free nL, upd_same, ⟨rfl, fun j t bs h => by simp [usG] at h⟩, fun _ h _ => h⟩ (fun i G _ ⟨T, rs', sG, _⟩ => SqL.of (sG _ _ (s0 _ _ hR))) ?_ ?_⟩
    · rintro i x G hx ⟨T, rs', sG, sT, tg, nT, hL, RP', nw⟩
      have il : i < gr.length := by rw [← RP.1]; exact (List.getElem?_eq_some_iff.mp hx).1
      obtain ⟨⟨t, bs⟩, hgi⟩ : ∃ q, gr[i]? = some q := ⟨_, List.getElem?_eq_getElem il⟩
      obtain ⟨U, k, bl, h1, h2, h3, h4⟩ := RP.2 i t bs hgi
      rw [hx] at h1
      cases h1
      have kl : k < d.length := by rw [dl]; exact (List.getElem?_eq_some_iff.mp h3).1
      obtain ⟨o, ho⟩ : ∃ o, d[k]? = some o := ⟨_, List.getElem?_eq_getElem kl⟩
      have ub := useB_at nd h3 ho
      refine ⟨U, _, rfl, SqT.of (sG _ _ (s0 _ _ h2)), rfl, _, _, rfl, _, _, rfl, rfl, rfl, _, rfl, g, Cg, dx, _, _, rfl, sG _ _ hg, Sg.cl, Sg.nD, hfs, _, rfl, D, _, _, optN o, rfl, rfl, SqL.of (sG _ _ hD), atI_nat (by rw [List.getElem?_map, ho]; rfl), rfl, _, rfl, ?_⟩
      have fl : rs'.length < sizeLine := by
        rw [RP'.1, sizeLine_eq]
        unfold usG
        have := List.length_filter_le (fun q : Sta × List Int => useB ss d q.1) (gr.take i)
        rw [List.length_take] at this
        omega
      cases o with
      | none =>
        refine iteF ⟨T, rs', sG, sT, tg, nT, hL, ?_, nw⟩
        have e : usG ss d (gr.take (i + 1)) = usG ss d (gr.take i) := by
          unfold usG
          rw [take_more hgi, List.filter_append, List.filter_cons]
          show _ ++ (if useB ss d t = true then _ else _) = _
          rw [ub]
          simp
        rw [e]
        exact RP'
      | some n =>
        refine iteT ⟨_, rfl, _, rfl, by show 2 ≤ sizeLine; decide, fun u nu => ?_⟩
        have uL : u ≠ L := fun z => by rw [z, hL] at nu; cases nu
        have s1 := same_upd (o := HO.tup [V.int (k : Int), V.ref bl]) nu
        have nTu := tg.free nu
        have s2 := same_upd (o := HO.tup [V.int (k : Int), V.ref bl]) nTu
        refine ⟨rs', s1 _ _ hL, fl, upd T u (HO.tup [V.int (k : Int), V.ref bl]), rs' ++ [.ref u], fun b o e => ?_, sT.trans s2, fun b o e => ?_, by rw [upd_ne (Ne.symm uL)]; exact nT, upd_same, ?_, fun b h1 h2 => by rw [upd_ne (fun z => h2 (by rw [z]; exact sG.free nu))]; exact nw b h1 h2⟩
        · rw [upd_ne (ne_of_none e nL)]; exact s1 _ _ (sG _ _ e)
        · by_cases z : b = u
          · subst z
            rw [upd_same] at e
            rw [upd_ne uL, upd_same]
            exact e
          · rw [upd_ne z] at e
            rw [upd_ne (fun w => by rw [w, nT] at e; cases e), upd_ne z]
            exact tg _ _ e
        · have e : usG ss d (gr.take (i + 1)) = usG ss d (gr.take i) ++ [(t, bs)] := by
            unfold usG
            rw [take_more hgi, List.filter_append, List.filter_cons]
            show _ ++ (if useB ss d t = true then _ else _) = _
            rw [ub]
            simp
          rw [e]
          exact (RP'.to s2 (fun _ _ z => z)).more (U := u) upd_same h3 (s2 _ _ (sT _ _ h4))
    · rintro G ⟨T, rs', sG, sT, tg, nT, hL, RP', nw⟩
      rw [RP.1, List.take_length] at RP'
      exact q G T L rs' ⟨sG, sT, tg, nw⟩ nT nL hL RP'
/-- the graph: its distances, its useful rows -/
structure GrAt (K : PySem.W.Frag) (Cg : Addr) (H : Hp) (g : Addr) (cnt : Nat) (step : Sta → Int → Option Sta) (s0 sf : Sta) (ss : List Sta) (d : List (Option Nat)) : Prop where
  ob : ∃ (dx D U : Addr) (us : List V), H g = some (.ins Cg dx (gf2 D U)) ∧ H D = some (.lst (d.map optN)) ∧ H U = some (.lst us) ∧ us.length = ss.length ∧ ∀ (i : Nat) s, ss[i]? = some s → ∃ R rs, us[i]? = some (.ref R) ∧ H R = some (.lst rs) ∧ RowPart H rs ss (usG ss d (Bf.grp (step s) (Bf.rng cnt)))
  ds : Ct.Dsts step sf cnt ss d
  nd : ss.Nodup
  few : ss.length ≤ 100000
  c256 : cnt ≤ 256
  fst : ss[0]? = some s0
  cl : ∀ s ∈ ss, ∀ t, Ct.Edge step cnt s t → t ∈ ss
theorem GrAt.same {Cg : Addr} {H H' : Hp} {g : Addr} {cnt : Nat} {step : Sta → Int → Option Sta} {s0 sf : Sta} {ss : List Sta} {d : List (Option Nat)} (h : GrAt K Cg H g cnt step s0 sf ss d) (s : Same H H') : GrAt K Cg H' g cnt step s0 sf ss d := by
  obtain ⟨dx, D, U, us, h1, h2, h3, h4, h5⟩ := h.ob
  exact ⟨⟨dx, D, U, us, s _ _ h1, s _ _ h2, s _ _ h3, h4, fun i t hi => by
    obtain ⟨R, rs, r1, r2, r3⟩ := h5 i t hi
    exact ⟨R, rs, r1, s _ _ r2, r3.to s (fun _ _ z => z)⟩⟩, h.ds, h.nd, h.few, h.c256, h.fst, h.cl⟩
/-- a heap without the one address -/
def offA (g : Addr) (H : Hp) : Hp := fun b => if b = g then none else H b
theorem offA_but {g : Addr} {H H' : Hp} (b : But g H H') : Same (offA g H) H' := fun a o e => by
  unfold offA at e
  by_cases z : a = g
  · rw [if_pos z] at e; cases e
  · rw [if_neg z] at e; exact b _ _ e z
theorem offA_at {g C dx : Addr} {fs : List (Str × V)} {H : Hp} (hg : H g = some (.ins C dx fs)) {a : Addr} {o : HO} (h : H a = some o) (ho : ∀ C dx fs, o ≠ .ins C dx fs) : offA g H a = some o := by
  unfold offA
  rw [if_neg fun z => by rw [z, hg] at h; exact ho _ _ _ (Option.some.inj h).symm]
  exact h
theorem RowPart.off {g C dx : Addr} {fs : List (Str × V)} {H : Hp} (hg : H g = some (.ins C dx fs)) {rs : List V} {ss : List Sta} {gr : List (Sta × List Int)} (h : RowPart H rs ss gr) : RowPart (offA g H) rs ss gr :=
  ⟨h.1, fun j t bs hj => by
    obtain ⟨U, k, bl, h1, h2, h3, h4⟩ := h.2 j t bs hj
    exact ⟨U, k, bl, h1, offA_at hg h2 (fun _ _ _ z => nomatch z), h3, offA_at hg h4 (fun _ _ _ z => nomatch z)⟩⟩
theorem bfs_cl {step : Sta → Int → Option Sta} {s0 : Sta} {cnt : Nat} {ss : List Sta} {cs : List (List Int)} {os : List (Option (Nat × Int))} (B : Bf.Bfs step s0 cnt ss.length ss cs os) : ∀ s ∈ ss, ∀ t, Ct.Edge step cnt s t → t ∈ ss := fun s hs t ⟨b, hb, e⟩ => by
  obtain ⟨i, hi⟩ := List.mem_iff_getElem?.mp hs
  have il := (List.getElem?_eq_some_iff.mp hi).1
  obtain ⟨c, hc⟩ : ∃ c, cs[i]? = some c := ⟨cs[i]'(by rw [B.lc]; exact il), List.getElem?_eq_getElem _⟩
  have bb := Bf.rng_mem.mp hb
  obtain ⟨j, cj, hj, _⟩ := B.cov i il s c hi hc b bb.1 bb.2 t e
  exact List.mem_of_getElem? hj
def spInitG (K : PySem.W.Frag) (C Cm Cg : Addr) : Sp := fun vs H Q _ => ∃ (g p l gt dx it : Addr) (cnt lg : Nat) (is : List I4) (rs : List Addr) (xs : List V) (pss : List (List PStep)) (gs : List Nat), vs = [.ref g, .ref p, .ref l, .ref gt] ∧ H g = some (.ins Cg dx []) ∧ Mach C H p cnt lg it is rs ∧ SqT K H l xs ∧ DxAll K H xs (pss.map planD) ∧ Plns cnt is pss ∧ SqT K H gt (entV gs) ∧ Ents gs ∧ gs.length = pss.length ∧ stcN is pss gs ≤ 100000 ∧
  ∀ H' ss d, GrAt K Cg H' g cnt (stepS is pss gs) (first0 gs) (finS pss gs) ss d → (∀ b o, H b = some o → b ≠ g → H' b = some o) → Q .non H'
abbrev nInitG : List Str := ["self", "instruction_set", "programs", "entries", "machine", "states", "origins", "all_moves", "row"]
theorem scInitG : FnScope nInitG ["self", "instruction_set", "programs", "entries"] (defScope sOverlayGraph_init) := ⟨rfl, rfl, rfl, by decide +kernel, rfl, by decide +kernel, by decide +kernel⟩
theorem ok_initG {f C Cm Cg fDistancesToFinal fExplore fStatemachine fGrUp : Addr} {fd fdDistancesToFinal fdExplore fdStatemachine fdGrUp : FuncData} {k : Nat} (F : Fun K "__init__" "OverlayGraph.__init__" sOverlayGraph_init f fd) (S : SetTxt K mg C) (Sm : MacTxt K mg Cm) (Sg : GrTxt K mg Cg) (DistancesToFinal : Def K mg "distances_to_final" s_distances_to_final fDistancesToFinal fdDistancesToFinal ["machine", "states", "moves"]) (GDistancesToFinal : FnOk P w K mg base CX0 (k + 1) fDistancesToFinal fdDistancesToFinal ["machine", "states", "moves"] (spDist K Cm)) (Explore : Def K mg "explore" s_explore fExplore fdExplore ["machine", "ends_at_final"]) (GExplore : FnOk P w K mg base CX0 (k + 1) fExplore fdExplore ["machine", "ends_at_final"] (spExplore K Cm)) (MStatemachine : L2.Mk K Cm fStatemachine) (bStatemachine : Binds K fdStatemachine ["self", "instruction_set", "programs", "entries"] []) (GStatemachine : FnOk P w K mg base CX0 k fStatemachine fdStatemachine ["self", "instruction_set", "programs", "entries"] (spInitM K C Cm)) (MGrUp : Meth K Cg "useful_part" fGrUp) (bGrUp : Binds K fdGrUp ["self", "row"] []) (GGrUp : FnOk P w K mg base CX0 (k + 1) fGrUp fdGrUp ["self", "row"] (spUseful K Cg)) :
    FnOk P w K mg base CX0 (k + 2) f fd ["self", "instruction_set", "programs", "entries"] (spInitG K C Cm Cg) := by
  refine F.ok scInitG (fun vs H Q E h => ?_) (fun cdv A' outer s H vs Q E hr h => ?_)
  · obtain ⟨g, p, l, gt, dx, it, cnt, lg, is, rs, xs, pss, gs, rfl, _⟩ := h
    rfl
  · obtain ⟨g, p, l, gt, dx, it, cnt, lg, is, rs, xs, pss, gs, rfl, hg, M, hl, Dl, ok, hgt, oe, lgp, few, q⟩ := h
    refine ⟨_, pss_cons (ps_set (i := 4) scInitG.nd rfl (.inl rfl) (pe_make MStatemachine GStatemachine hr (by rfl) Sm.mgC bStatemachine .nil pass0 (pa_cons (pv 1) (pa_cons (pv 2) (pa_cons (pv 3) pa_nil)))))
      (pss_cons (ps_asg (pe_call GExplore hr (by rfl) Explore.gl Explore.fn.kp Explore.bi .nil pass0 (pa_cons (pv 4) (pa_cons pe_bl pa_nil))) (pg_tup rfl (pgs_cons (pg_name (i := 5) scInitG.nd rfl (.inl rfl)) (pgs_cons (pg_name (i := 6) scInitG.nd rfl (.inl rfl)) (pgs_cons (pg_name (i := 7) scInitG.nd rfl (.inl rfl)) pgs_nil)))))
      (pss_cons (ps_fld (pv 0) (pe_call GDistancesToFinal hr (by rfl) DistancesToFinal.gl DistancesToFinal.fn.kp DistancesToFinal.bi .nil pass0 (pa_cons (pv 4) (pa_cons (pv 5) (pa_cons (pv 7) pa_nil)))) rfl)
      (pss_one (ps_fld (pv 0) (pe_lc (own := [("row", 8)]) (g := (gName 8)) (tt := tYes) (by rfl) scInitG.nd (pi_list (pv 7)) (blkOk_by (own := [("row", 8)]) (N := nInitG) (sc := defScope sOverlayGraph_init) (by decide +kernel)) (fun _ _ _ _ _ => (pg_name (i := 8) scInitG.nd rfl (Or.inl rfl))) (fun _ _ _ _ _ => pts_nil) (fun _ _ _ _ _ => (pe_meth (pv 0) Sg.cl MGrUp GGrUp hr bGrUp .nil pass0 (pa_cons (pv 8) pa_nil)))) rfl)))), ?_⟩
    refine ⟨_, rfl, _, rfl, _, rfl, fun m dxm nm ndxm hne => ?_⟩
    have s4 : Same H (upd (upd H dxm (.own m)) m (.ins Cm dxm [])) := fun b o e => by
      rw [upd_ne (ne_of_none e nm), upd_ne (ne_of_none e ndxm)]
      exact e
    refine ⟨m, p, l, gt, dxm, it, cnt, lg, is, rs, xs, pss, gs, rfl, upd_same, M.same s4, s4.tup hl, Dl.same s4, ok, s4.tup hgt, fun H3 MA kp => ⟨rfl, ?_⟩⟩
    have s3 : Same H H3 := fun b o e => kp b o (s4 b o e) (ne_of_none e nm)
    have gne : gs ≠ [] := fun z => by have := oe.hd; rw [z] at this; cases this
    refine ⟨_, rfl, m, false, cnt, lg, is, pss, gs, rfl, MA, M.ok, ok, oe, lgp, few, fun H4 Tr n ss cs os s34 X => ?_⟩
    obtain ⟨S, O, Mv, ms, hTr, hMv, ml, RA, cas⟩ := X.ob
    have lenf := bfs_few lgp oe.asc X.bf
    rcases cas with ⟨en, hS, hO⟩ | ⟨h, _⟩
    case inr => cases h
    subst en
    have cl := bfs_cl X.bf
    refine ⟨Tr, _, rfl, SqT.of hTr, rfl, _, _, rfl, _, _, rfl, _, _, rfl, rfl, ?_⟩
    refine ⟨_, rfl, _, rfl, _, rfl, m, S, Mv, ms, cnt, lg, is, pss, gs, ss, rfl, MA.same s34, M.ok, gne, hS, hMv, ml, RA, by omega, X.bf.nd, cl, fun H5 D d s45 nD hD dst => ?_⟩
    have s35 := s3.trans (s34.trans s45)
    have hg5 := s35 _ _ hg
    have nDg : D ≠ g := fun z => by rw [z, (s3.trans s34) _ _ hg] at nD; cases nD
    refine ⟨_, rfl, g, Cg, dx, [], rfl, hg5, Sg.cl, Sg.nD, (by show 0 < 1000; decide), ?_⟩
    have b5 : But g H5 (upd H5 g (.ins Cg dx (gf1 D))) := But.updI _
    have hg6 : upd H5 g (.ins Cg dx (gf1 D)) g = some (.ins Cg dx (gf1 D)) := upd_same
    show tSeq _ _ _ _ (upd H5 g (.ins Cg dx (gf1 D)))
    generalize upd H5 g (.ins Cg dx (gf1 D)) = H6 at *
    have t56 : Same (offA g H5) H6 := offA_but b5
    have s45' : ∀ {a : Addr} {o : HO}, H4 a = some o → (∀ C dx fs, o ≠ .ins C dx fs) → offA g H5 a = some o := fun h ho => offA_at hg5 (s45 _ _ h) ho
    have hMv5 := s45' hMv (fun _ _ _ z => nomatch z)
    have RA5 := RA.to s45 (fun _ _ z => z) (by omega)
    have tg0 : offA g H5 g = none := by unfold offA; rw [if_pos rfl]
    generalize hT5 : offA g H5 = T5 at *
    refine ⟨_, rfl, Mv, rfl, ⟨_, SqL.of (t56 _ _ hMv5)⟩, fun L nL => lc_list (K := K) (a := Mv) (xs := ms) (fun i G => ∃ (T : Hp) (us : List V), Same H6 G ∧ Same T5 T ∧ Same T G ∧ T L = none ∧ T g = none ∧ G L = some (.lst us) ∧ us.length = i ∧ ∀ (j : Nat) s, j < i → ss[j]? = some s → ∃ R rs, us[j]? = some (.ref R) ∧ T R = some (.lst rs) ∧ RowPart T rs ss (usG ss d (Bf.grp (stepS is pss gs s) (Bf.rng cnt)))) ⟨T5, [], same_upd nL, Same.refl _, t56.trans (same_upd nL), t56.free nL, tg0, upd_same, rfl, fun j s h => absurd h (Nat.not_lt_zero _)⟩ (fun i G _ ⟨T, us, sG, _⟩ => SqL.of (sG _ _ (t56 _ _ hMv5))) ?_ ?_⟩
    · rintro i x G hx ⟨T, us, sG, sT, tg, nT, Tg, hL, ul, all⟩
      have im : i < ms.length := (List.getElem?_eq_some_iff.mp hx).1
      obtain ⟨s, hs⟩ : ∃ s, ss[i]? = some s := ⟨_, List.getElem?_eq_getElem (by omega)⟩
      obtain ⟨R, rs', hR1, hR2, RP⟩ := RA5 i s im hs
      rw [hx] at hR1
      cases hR1
      have RP5 : RowPart T5 rs' ss (Bf.grp (stepS is pss gs s) (Bf.rng cnt)) := by rw [← hT5]; exact RP.off hg5
      have hR5 : T5 R = some (.lst rs') := by rw [← hT5]; exact offA_at hg5 hR2 (fun _ _ _ z => nomatch z)
      have hgG := sG _ _ hg6
      have gl : (Bf.grp (stepS is pss gs s) (Bf.rng cnt)).length ≤ 256 := by
        unfold Bf.grp
        rw [List.length_map]
        have h1 := Bf.firsts_len (stepS is pss gs s) _ (Bf.rng cnt) (Nat.le_refl _)
        have h2 : (Bf.rng cnt).length = cnt := by unfold Bf.rng; simp
        have c2 := M.ok.cb
        omega
      refine ⟨rfl, _, rfl, g, dx, _, rfl, hgG, gf1_no _ (by decide), _, rfl, g, dx, D, R, gf1 D, d, rs', ss, Bf.grp (stepS is pss gs s) (Bf.rng cnt), T, rfl, hgG, gf1_D D, sG _ _ (b5 _ _ hD nDg), sT _ _ hR5, tg, RP5.to sT (fun _ _ z => z), dst.1, X.bf.nd, gl, fun H' T2 u us2 g2 nu nuG hu RPu => ?_⟩
      have uL : u ≠ L := fun z => by rw [z, hL] at nuG; cases nuG
      have ug : u ≠ g := fun z => by rw [z, hgG] at nuG; cases nuG
      have nL2 := g2.new L nT (by rw [hL]; exact fun z => nomatch z)
      have ng2 := g2.new g Tg (by rw [hgG]; exact fun z => nomatch z)
      have s3' : Same T2 (upd T2 u (.lst us2)) := same_upd nu
      refine ⟨us, g2.hh _ _ hL, by rw [ul, sizeLine_eq]; omega, upd T2 u (.lst us2), us ++ [.ref u], fun b o e => ?_, sT.trans (g2.tt.trans s3'), fun b o e => ?_, by rw [upd_ne (Ne.symm uL)]; exact nL2, by rw [upd_ne (Ne.symm ug)]; exact ng2, upd_same, by rw [List.length_append, ul]; rfl, fun j s' hj hs' => ?_⟩
      · rw [upd_ne (ne_of_none e nL)]; exact g2.hh _ _ (sG _ _ e)
      · by_cases z : b = u
        · subst z
          rw [upd_same] at e
          cases e
          rw [upd_ne uL]
          exact hu
        · rw [upd_ne z] at e
          rw [upd_ne (fun w => by rw [w, nL2] at e; cases e)]
          exact g2.th _ _ e
      · rcases Nat.lt_or_ge j i with h | h
        · obtain ⟨R', rs'', h1, h2, h3⟩ := all j s' h hs'
          exact ⟨R', rs'', Bf.get_app h1, s3' _ _ (g2.tt _ _ h2), h3.to (g2.tt.trans s3') (fun _ _ z => z)⟩
        · have : j = i := by omega
          subst this
          rw [hs] at hs'
          cases hs'
          exact ⟨u, us2, by rw [← ul]; exact Bf.get_last, upd_same, RPu.to s3' (fun _ _ z => z)⟩
    · rintro G ⟨T, us, sG, sT, tg, nT, Tg, hL, ul, all⟩
      have hgG := sG _ _ hg6
      have Lg : L ≠ g := fun z => by rw [z, hgG] at hL; cases hL
      refine ⟨_, rfl, g, Cg, dx, _, rfl, hgG, Sg.cl, Sg.nU, (by show 1 < 1000; decide), ?_⟩
      have tH : Same T (upd G g (.ins Cg dx (gf2 D L))) := fun b o e => by
        rw [upd_ne (fun z => by rw [z, Tg] at e; cases e)]
        exact tg _ _ e
      refine q _ ss d ⟨⟨dx, D, L, us, upd_same, by rw [upd_ne nDg]; exact sG _ _ (b5 _ _ hD nDg), by rw [upd_ne Lg]; exact hL, by rw [ul, ml], fun i s hi => ?_⟩, dst, X.bf.nd, by omega, M.ok.cb.2, X.bf.sz, cl⟩ fun b o e n => ?_
      · obtain ⟨R, rs', h1, h2, h3⟩ := all i s (by rw [ml]; exact (List.getElem?_eq_some_iff.mp hi).1) hi
        exact ⟨R, rs', h1, tH _ _ h2, h3.to tH (fun _ _ z => z)⟩
      · rw [upd_ne n]
        exact sG _ _ (b5 _ _ (s35 _ _ e) n)
end
end Ov
namespace Ov
open PySem PySem.Spec PyProof.Rows L2
/-- for each state, how many codes of this length lead on to the final one -/
def lvV (step : Sta → Int → Option Sta) (sf : Sta) (cnt n : Nat) (ss : List Sta) : List V := ss.map fun s => nV (Ct.num step sf cnt n s)
theorem sum_int {α : Type} (f : α → Nat) : ∀ l : List α, (l.map fun x => ((f x : Nat) : Int)).sum = (((l.map f).sum : Nat) : Int)
  | [] => rfl
  | x :: l => by
    rw [List.map_cons, List.sum_cons, List.map_cons, List.sum_cons, sum_int f l]
    omega
theorem sum_cst {α : Type} (c : Nat) : ∀ l : List α, (l.map fun _ => c).sum = l.length * c
  | [] => by simp
  | x :: l => by
    rw [List.map_cons, List.sum_cons, sum_cst c l, List.length_cons, Nat.succ_mul]
    omega
/-- what leads to no final state adds nothing -/
theorem use_sum {step : Sta → Int → Option Sta} {sf : Sta} {cnt : Nat} {ss : List Sta} {d : List (Option Nat)} (D : Ct.Dsts step sf cnt ss d) (nd : ss.Nodup) (cl : ∀ s ∈ ss, ∀ t, Ct.Edge step cnt s t → t ∈ ss) {s : Sta} (hs : s ∈ ss) (f : Sta × List Int → Nat) (z : ∀ q, (∀ n, Ct.num step sf cnt n q.1 = 0) → f q = 0) : ((usG ss d (Bf.grp (step s) (Bf.rng cnt))).map f).sum = ((Bf.grp (step s) (Bf.rng cnt)).map f).sum := by
  unfold usG
  rw [← Ct.sum_ite]
  refine Ct.sum_cong fun q hq => ?_
  by_cases u : useB ss d q.1 = true
  · rw [if_pos u]
  · rw [if_neg u]
    obtain ⟨j, hj⟩ := List.mem_iff_getElem?.mp hq
    have tm := cl s hs q.1 (((Bf.frs _ _).mem q.1).mp (List.mem_of_getElem? (grp_at (t := q.1) (bs := q.2) hj).1))
    obtain ⟨k, hk⟩ := List.mem_iff_getElem?.mp tm
    obtain ⟨o, ho⟩ : ∃ o, d[k]? = some o := ⟨d[k]'(by rw [D.1]; exact (List.getElem?_eq_some_iff.mp hk).1), List.getElem?_eq_getElem _⟩
    rw [useB_at nd hk ho] at u
    cases o with
    | some n => exact absurd rfl u
    | none => exact (z q (D.2 k q.1 none hk ho)).symm
theorem lvl_sum {step : Sta → Int → Option Sta} {sf : Sta} {cnt : Nat} {ss : List Sta} {d : List (Option Nat)} (D : Ct.Dsts step sf cnt ss d) (nd : ss.Nodup) (cl : ∀ s ∈ ss, ∀ t, Ct.Edge step cnt s t → t ∈ ss) {s : Sta} (hs : s ∈ ss) (n : Nat) : ((usG ss d (Bf.grp (step s) (Bf.rng cnt))).map fun q => q.2.length * Ct.num step sf cnt n q.1).sum = Ct.num step sf cnt (n + 1) s := by
  rw [use_sum D nd cl hs _ (fun q h => by show _ * _ = 0; rw [h n, Nat.mul_zero])]
  show _ = ((Bf.rng cnt).map (Ct.at' (step s) fun _ t => Ct.num step sf cnt n t)).sum
  rw [← Ct.grp_sum]
  refine Ct.sum_cong fun q _ => ?_
  rw [sum_cst]
section
variable {P : Program} {w : World} {K : PySem.W.Frag} {mg : Str → Option Value} {base : Heap}
def spLastL (K : PySem.W.Frag) (Cg : Addr) : Sp := fun vs H Q _ => ∃ (g : Addr) (cnt : Nat) (step : Sta → Int → Option Sta) (s0 sf : Sta) (ss : List Sta) (d : List (Option Nat)), vs = [.ref g] ∧ GrAt K Cg H g cnt step s0 sf ss d ∧ ∀ H' L, Same H H' → H L = none → H' L = some (.lst (lvV step sf cnt 0 ss)) → Q (.ref L) H'
abbrev nLastG : List Str := ["self", "distance"]
theorem scLastG : FnScope nLastG ["self"] (defScope sOverlayGraph_last_level) := ⟨rfl, rfl, rfl, by decide +kernel, rfl, by decide +kernel, by decide +kernel⟩
theorem ok_lastG {f Cg : Addr} {fd : FuncData} {k : Nat} (F : Fun K "last_level" "OverlayGraph.last_level" sOverlayGraph_last_level f fd) (Sg : GrTxt K mg Cg) :
    FnOk P w K mg base CX0 (k + 1) f fd ["self"] (spLastL K Cg) := by
  refine F.ok scLastG (fun vs H Q E h => ?_) (fun cdv A' outer s H vs Q E hr h => ?_)
  · obtain ⟨g, cnt, step, s0, sf, ss, d, rfl, _⟩ := h
    rfl
  · obtain ⟨g, cnt, step, s0, sf, ss, d, rfl, GA, q⟩ := h
    refine ⟨_, pss_one (ps_ret (pe_lc (own := [("distance", 1)]) (g := (gName 1)) (tt := tYes) (by rfl) scLastG.nd (pi_list (pe_fld (pv 0) rfl)) (blkOk_by (own := [("distance", 1)]) (N := nLastG) (sc := defScope sOverlayGraph_last_level) (by decide +kernel)) (fun _ _ _ _ _ => (pg_name (i := 1) scLastG.nd rfl (Or.inl rfl))) (fun _ _ _ _ _ => pts_nil) (fun _ _ _ _ _ => (pe_ifExp (pt_cmpR op_eq (pv 1) pe_int (nomark _)) pe_int pe_int)))), ?_⟩
    obtain ⟨dx, D, U, us, hg, hD, _⟩ := GA.ob
    refine ⟨_, rfl, g, Cg, dx, _, _, rfl, hg, Sg.cl, Sg.nD, gf2_D _ _, D, rfl, ⟨_, SqL.of hD⟩, fun L nL => lc_list (K := K) (a := D) (xs := d.map optN) (fun i G => Mk H G L (lvV step sf cnt 0 (ss.take i))) (.start nL) (fun i G _ m => SqL.of (m.same _ _ hD)) ?_ ?_⟩
    · intro i x G hx m
      rw [List.getElem?_map] at hx
      obtain ⟨o, ho, rfl⟩ := Option.map_eq_some_iff.mp hx
      have il : i < ss.length := by rw [← GA.ds.1]; exact (List.getElem?_eq_some_iff.mp ho).1
      obtain ⟨s, hs⟩ : ∃ s, ss[i]? = some s := ⟨_, List.getElem?_eq_getElem il⟩
      have du := GA.ds.2 i s o hs ho
      have few := GA.few
      have fin : ∀ b : Nat, Ct.num step sf cnt 0 s = b → ∃ acc, G L = some (.lst acc) ∧ acc.length < sizeLine ∧ Mk H (upd G L (.lst (acc ++ [V.int (b : Int)]))) L (lvV step sf cnt 0 (ss.take (i + 1))) := fun b e => by
        refine ⟨_, m.at_, by unfold lvV; rw [List.length_map, List.length_take, sizeLine_eq]; omega, ?_⟩
        rw [take_more hs]
        unfold lvV
        rw [List.map_append]
        show Mk H _ L (_ ++ [nV (Ct.num step sf cnt 0 s)])
        rw [e]
        exact m.put (Same.refl _)
      cases o with
      | none =>
        refine ⟨rfl, _, rfl, rfl, _, rfl, iteF (fin 0 ?_)⟩
        exact du 0
      | some k =>
        refine ⟨rfl, _, rfl, rfl, _, rfl, ?_⟩
        cases k with
        | zero =>
          refine iteT (fin 1 ?_)
          have := Ct.lst_zero.mp du
          show (if s = sf then 1 else 0) = 1
          rw [if_pos this]
        | succ k => exact iteF (fin 0 (du.2 0 (by omega)))
    · rintro G m
      rw [List.length_map, GA.ds.1, List.take_length] at m
      exact q G L m.same nL m.at_
def spLevelB (K : PySem.W.Frag) (Cg : Addr) : Sp := fun vs H Q _ => ∃ (g l : Addr) (cnt n : Nat) (step : Sta → Int → Option Sta) (s0 sf : Sta) (ss : List Sta) (d : List (Option Nat)), vs = [.ref g, .ref l] ∧ GrAt K Cg H g cnt step s0 sf ss d ∧ H l = some (.lst (lvV step sf cnt n ss)) ∧ n ≤ 2000 ∧ ∀ H' L, Same H H' → H L = none → H' L = some (.lst (lvV step sf cnt (n + 1) ss)) → Q (.ref L) H'
abbrev nBeforeG : List Str := ["self", "level", "row", "target", "fitting"]
theorem scBeforeG : FnScope nBeforeG ["self", "level"] (defScope sOverlayGraph_level_before) := ⟨rfl, rfl, rfl, by decide +kernel, rfl, by decide +kernel, by decide +kernel⟩
theorem ok_beforeG {f Cg : Addr} {fd : FuncData} {k : Nat} (F : Fun K "level_before" "OverlayGraph.level_before" sOverlayGraph_level_before f fd) (T : Bi mg) (Sg : GrTxt K mg Cg) :
    FnOk P w K mg base CX0 (k + 1) f fd ["self", "level"] (spLevelB K Cg) := by
  refine F.ok scBeforeG (fun vs H Q E h => ?_) (fun cdv A' outer s H vs Q E hr h => ?_)
  · obtain ⟨g, l, cnt, n, step, s0, sf, ss, d, rfl, _⟩ := h
    rfl
  · obtain ⟨g, l, cnt, n, step, s0, sf, ss, d, rfl, GA, hl, n4, q⟩ := h
    refine ⟨_, pss_one (ps_ret (pe_lc (own := [("row", 2)]) (g := (gName 2)) (tt := tYes) (te := (tCB (rSum K) (tCons (tLc (iList K (tVar 2)) (gTup K 2 (gCons (gName 3) (gCons (gName 4) gNil))) tYes (tOp (rI CMul fun i j => .int (i * j)) (tCB (rLen K) (tCons (tVar 4) tNil)) (tOp (rIxL K) (tVar 1) (tVar 3))) [3, 4]) tNil))) (by rfl) scBeforeG.nd (pi_list (pe_fld (pv 0) rfl)) (blkOk_by (own := [("row", 2)]) (N := nBeforeG) (sc := defScope sOverlayGraph_level_before) (by decide +kernel)) (fun _ _ _ _ _ => (pg_name (i := 2) scBeforeG.nd rfl (Or.inl rfl))) (fun _ _ _ _ _ => pts_nil) (fun _ _ _ _ _ => (pe_callB (cr_sum rfl) (by rfl) T.sum (by decide +kernel) (pa_cons (pe_lc (own := [("target", 3), ("fitting", 4)]) (g := (gTup K 2 (gCons (gName 3) (gCons (gName 4) gNil)))) (tt := tYes) (te := (tOp (rI CMul fun i j => .int (i * j)) (tCB (rLen K) (tCons (tVar 4) tNil)) (tOp (rIxL K) (tVar 1) (tVar 3)))) (by rfl) scBeforeG.nd (pi_list (pv 2)) (blkOk_by (own := [("target", 3), ("fitting", 4)]) (N := nBeforeG) (sc := ({ kind := .function, names := [(".0", .local), ("row", .local), ("sum", .globalImplicit), ("level", .cell)], isGenerator := false, isCoroutine := false })) (by decide +kernel)) (fun _ _ _ _ _ => (pg_tup rfl (pgs_cons (pg_name (i := 3) scBeforeG.nd rfl (Or.inl rfl)) (pgs_cons (pg_name (i := 4) scBeforeG.nd rfl (Or.inl rfl)) pgs_nil)))) (fun _ _ _ _ _ => pts_nil) (fun _ _ _ _ _ => (pe_op op_mul (pe_callB (r := rLen K) cr_len (by rfl) T.len PySem.boot_len (pa_cons (pv 4) pa_nil)) (pe_ix (r := rIxL K) ix_list (pv 1) (pv 3) (fun _ _ => rfl))))) pa_nil))))), ?_⟩
    obtain ⟨dx, D, U, us, hg, hD, hU, ul, ua⟩ := GA.ob
    have few := GA.few
    refine ⟨_, rfl, g, Cg, dx, _, _, rfl, hg, Sg.cl, Sg.nU, gf2_U _ _, U, rfl, ⟨_, SqL.of hU⟩, fun L nL => lc_list (K := K) (a := U) (xs := us) (fun i G => Mk H G L (lvV step sf cnt (n + 1) (ss.take i))) (.start nL) (fun i G _ m => SqL.of (m.same _ _ hU)) ?_ ?_⟩
    · intro i x G hx m
      have il : i < ss.length := by rw [← ul]; exact (List.getElem?_eq_some_iff.mp hx).1
      obtain ⟨s, hs⟩ : ∃ s, ss[i]? = some s := ⟨_, List.getElem?_eq_getElem il⟩
      obtain ⟨R, rs, h1, h2, RP⟩ := ua i s hs
      rw [hx] at h1
      cases h1
      have sG := m.same
      refine ⟨rfl, _, rfl, R, rfl, ⟨_, SqL.of (sG _ _ h2)⟩, fun L2 nL2 => lc_list (K := K) (a := R) (xs := rs) (fun j G2 => Mk G G2 L2 (((usG ss d (Bf.grp (step s) (Bf.rng cnt))).take j).map fun q => nV (q.2.length * Ct.num step sf cnt n q.1))) (.start nL2) (fun j G2 _ m2 => SqL.of (m2.same _ _ (sG _ _ h2))) ?_ ?_⟩
      · intro j y G2 hy m2
        have jl : j < (usG ss d (Bf.grp (step s) (Bf.rng cnt))).length := by rw [← RP.1]; exact (List.getElem?_eq_some_iff.mp hy).1
        obtain ⟨⟨t, bs⟩, hq⟩ : ∃ q, (usG ss d (Bf.grp (step s) (Bf.rng cnt)))[j]? = some q := ⟨_, List.getElem?_eq_getElem jl⟩
        obtain ⟨Uj, k, bl, h1, h2', h3, h4⟩ := RP.2 j t bs hq
        rw [hy] at h1
        cases h1
        have sG2 := sG.trans m2.same
        have c2 := GA.c256
        have rl : (Bf.rng cnt).length = cnt := by unfold Bf.rng; simp
        have bsl : bs.length ≤ 256 := by
          have hm := (List.mem_filter.mp (List.mem_of_getElem? hq)).1
          obtain ⟨j', hj'⟩ := List.mem_iff_getElem?.mp hm
          rw [(grp_at hj').2]
          have := List.length_filter_le (fun b => decide (step s b = some t)) (Bf.rng cnt)
          unfold Bf.leads
          omega
        have gl : (usG ss d (Bf.grp (step s) (Bf.rng cnt))).length ≤ 256 := by
          have h1 := List.length_filter_le (fun q : Sta × List Int => useB ss d q.1) (Bf.grp (step s) (Bf.rng cnt))
          have h2 := Bf.firsts_len (step s) _ (Bf.rng cnt) (Nat.le_refl _)
          have h3 : (Bf.grp (step s) (Bf.rng cnt)).length = (Bf.firsts (step s) (Bf.rng cnt)).length := by unfold Bf.grp; rw [List.length_map]
          unfold usG
          omega
        refine ⟨Uj, _, rfl, SqT.of (sG2 _ _ h2'), rfl, _, _, rfl, _, _, rfl, rfl, rfl, _, rfl, bl, _, rfl, .inl (SqL.of (sG2 _ _ h4)), _, rfl, _, rfl, l, _, _, nV (Ct.num step sf cnt n t), rfl, rfl, SqL.of (sG2 _ _ hl), atI_nat (by unfold lvV; rw [List.getElem?_map, h3]; rfl), _, _, rfl, rfl, .inl ⟨by omega, by rw [List.length_map]; omega⟩, _, m2.at_, by rw [List.length_map, List.length_take, sizeLine_eq]; omega, ?_⟩
        rw [take_more hq, List.map_append]
        have e : V.int (((bs.map V.int).length : Int) * ((Ct.num step sf cnt n t : Nat) : Int)) = nV (bs.length * Ct.num step sf cnt n t) := by
          rw [List.length_map]
          show V.int _ = V.int _
          push_cast
          rfl
        dsimp only
        rw [e]
        exact m2.put (Same.refl _)
      · rintro G2 m2
        rw [RP.1, List.take_length] at m2
        have hsum : (((usG ss d (Bf.grp (step s) (Bf.rng cnt))).map fun q => ((q.2.length * Ct.num step sf cnt n q.1 : Nat) : Int))).sum = ((Ct.num step sf cnt (n + 1) s : Nat) : Int) := by
          rw [sum_int, lvl_sum GA.ds GA.nd GA.cl (List.mem_of_getElem? hs)]
        refine ⟨L2, (usG ss d (Bf.grp (step s) (Bf.rng cnt))).map fun q => ((q.2.length * Ct.num step sf cnt n q.1 : Nat) : Int), rfl, SqL.of (by rw [List.map_map]; exact m2.at_), _, m2.same _ _ m.at_, by unfold lvV; rw [List.length_map, List.length_take, sizeLine_eq]; omega, ?_⟩
        rw [hsum, take_more hs]
        unfold lvV
        rw [List.map_append]
        exact m.put m2.same
    · rintro G m
      rw [ul, List.take_length] at m
      exact q G L m.same nL m.at_
def spLevels (K : PySem.W.Frag) (Cg : Addr) : Sp := fun vs H Q _ => ∃ (g : Addr) (n cnt : Nat) (step : Sta → Int → Option Sta) (s0 sf : Sta) (ss : List Sta) (d : List (Option Nat)), vs = [.ref g, .int (n : Int)] ∧ GrAt K Cg H g cnt step s0 sf ss d ∧ n ≤ 2000 ∧
  ∀ H' L (as : List Addr), Same H H' → H L = none → H' L = some (.lst (as.map V.ref)) → as.length = n + 1 → (∀ (i : Nat) a, as[i]? = some a → H' a = some (.lst (lvV step sf cnt i ss))) → Q (.ref L) H'
abbrev nLevelsG : List Str := ["self", "length", "rows", "left"]
theorem scLevelsG : FnScope nLevelsG ["self", "length"] (defScope sOverlayGraph_levels) := ⟨rfl, rfl, rfl, by decide +kernel, rfl, by decide +kernel, by decide +kernel⟩
theorem ok_levelsG {f Cg fGrLb fGrLl : Addr} {fd fdGrLb fdGrLl : FuncData} {k : Nat} (F : Fun K "levels" "OverlayGraph.levels" sOverlayGraph_levels f fd) (T : Bi mg) (Sg : GrTxt K mg Cg) (MGrLb : Meth K Cg "level_before" fGrLb) (bGrLb : Binds K fdGrLb ["self", "level"] []) (GGrLb : FnOk P w K mg base CX0 k fGrLb fdGrLb ["self", "level"] (spLevelB K Cg)) (MGrLl : Meth K Cg "last_level" fGrLl) (bGrLl : Binds K fdGrLl ["self"] []) (GGrLl : FnOk P w K mg base CX0 k fGrLl fdGrLl ["self"] (spLastL K Cg)) :
    FnOk P w K mg base CX0 (k + 1) f fd ["self", "length"] (spLevels K Cg) := by
  refine F.ok scLevelsG (fun vs H Q E h => ?_) (fun cdv A' outer s H vs Q E hr h => ?_)
  · obtain ⟨g, n, cnt, step, s0, sf, ss, d, rfl, _⟩ := h
    rfl
  · obtain ⟨g, n, cnt, step, s0, sf, ss, d, rfl, GA, n4, q⟩ := h
    refine ⟨_, pss_cons (ps_set (i := 2) scLevelsG.nd rfl (.inl rfl) (pe_lst (pa_cons (pe_meth0 (pv 0) Sg.cl MGrLl GGrLl hr bGrLl .nil pass0) pa_nil)))
      (pss_cons (ps_for PassesOwn.never rfl (pi_range1 (by rfl) T.range (pa_cons (pv 1) pa_nil)) (pg_name (i := 3) scLevelsG.nd rfl (.inl rfl)) (pss_one (ps_expr (pe_bm PySem.F.plainAttrs_list PySem.F.slot_list_append PySem.F.type_list_append mt_append (pv 2) (pa_cons (pe_meth (pv 0) Sg.cl MGrLb GGrLb hr bGrLb .nil pass0 (pa_cons (pe_ix ix_list (pv 2) (pe_un un_neg pe_int) (fun _ _ => rfl)) pa_nil)) pa_nil)))))
      (pss_one (ps_ret (pv 2)))), ?_⟩
    obtain ⟨dx, D, U, us, hg, _⟩ := GA.ob
    refine ⟨_, rfl, g, dx, _, rfl, hg, gf2_no _ _ (by decide), g, cnt, step, s0, sf, ss, d, rfl, GA, fun H1 a0 s1 n0 h0 => ⟨by show 1 ≤ sizeLine; decide, fun L nL => ?_⟩⟩
    have La : a0 ≠ L := fun z => by rw [z, nL] at h0; cases h0
    have nL0 : H L = none := s1.free nL
    have few := GA.few
    have s01 : Same H (upd H1 L (.lst [.ref a0])) := s1.trans (same_upd nL)
    refine ⟨_, rfl, (n : Int), rfl, by omega, by omega, for_range (lo := 0) (n := n) (fun i σ G => ∃ (as : List Addr) (y3 : Option V), σ = [some (.ref g), some (.int (n : Int)), some (.ref L), y3] ∧ Same H G ∧ G L = some (.lst (as.map V.ref)) ∧ as.length = i + 1 ∧ ∀ (j : Nat) a, as[j]? = some a → a ≠ L ∧ G a = some (.lst (lvV step sf cnt j ss)))
      ⟨[a0], _, rfl, s01, upd_same, rfl, fun j a hj => by
        cases j with
        | zero => cases hj; exact ⟨La, by rw [upd_ne La]; exact h0⟩
        | succ j => simp at hj⟩ ?_ ?_⟩
    · rintro i σ G hi ⟨as, y3, rfl, sG, hL, al, all⟩
      obtain ⟨ur, z, eu⟩ : ∃ ur z, as = ur ++ [z] := by
        rcases List.eq_nil_or_concat as with e0 | ⟨a, b, e0⟩
        · rw [e0] at al; simp at al
        · exact ⟨a, b, by rw [e0, List.concat_eq_append]⟩
      have url : ur.length = i := by rw [eu, List.length_append, List.length_singleton] at al; omega
      have hz : as[i]? = some z := by rw [eu, ← url]; simp
      have atl : atI (as.map V.ref) (-1) = some (.ref z) := by rw [eu, List.map_append]; exact atI_last _ _
      obtain ⟨zL, hzG⟩ := all i z hz
      refine ⟨_, rfl, .inl ⟨rfl, _, SqL.of hL⟩, _, rfl, g, dx, _, rfl, sG _ _ hg, gf2_no _ _ (by decide), _, rfl, _, rfl, L, _, _, V.ref z, rfl, rfl, SqL.of hL, atl, g, z, cnt, i, step, s0, sf, ss, d, rfl, GA.same sG, hzG, by omega, fun G2 b s2 nb hb => ?_⟩
      have bL : b ≠ L := fun w => by rw [w, hL] at nb; cases nb
      refine ⟨L, _, _, rfl, rfl, s2 _ _ hL, by rw [List.length_map, al, sizeLine_eq]; omega, as ++ [b], _, rfl, fun x o e => ?_, by rw [upd_same, List.map_append]; rfl, by rw [List.length_append, al]; rfl, fun j a hj => ?_⟩
      · rw [upd_ne (ne_of_none e nL0)]; exact s2 _ _ (sG _ _ e)
      · rcases Bf.get_cases hj with h | ⟨h, h'⟩
        · obtain ⟨h1, h2⟩ := all j a h
          exact ⟨h1, by rw [upd_ne h1]; exact s2 _ _ h2⟩
        · subst h'
          rw [h, al]
          exact ⟨bL, by rw [upd_ne bL]; exact hb⟩
    · rintro σ G ⟨as, y3, rfl, sG, hL, al, all⟩
      exact ⟨_, rfl, q G L as sG nL0 hL al fun i a h => (all i a h).2⟩
end
end Ov
namespace Ov
open PySem PySem.Spec PyProof.Rows L2
/-- a walk over a list, whatever is done with each item -/
theorem walk_gen {K : PySem.W.Frag} {a : Addr} {xs : List V} {Hs : Hp} {Qd : Hp → Prop} {body : (Hp → Prop) → V → Hp → Prop} (Pv : Nat → Hp → Prop) (h0 : Pv 0 Hs) (hl : ∀ i H, i ≤ xs.length → Pv i H → SqL K H a xs) (hs : ∀ i x H, xs[i]? = some x → Pv i H → body (Pv (i + 1)) x H) (hd : ∀ H, Pv xs.length H → Qd H) :
    ∃ W : Nat → Nat → Hp → Prop, (∃ m, W 0 m Hs) ∧ ∀ i m H, W i m H → ((Itl K a).stop i H ∧ Qd H) ∨ ((Itl K a).go i H ∧ ∃ Nx : Hp → Prop, (∀ H', Nx H' → ∃ m', m' < m ∧ W (i + 1) m' H') ∧ ∀ x H', (Itl K a).yld i H x H' → body Nx x H') := by
  refine ⟨fun i m H => m = xs.length - i ∧ i ≤ xs.length ∧ Pv i H, ⟨xs.length, by simp, Nat.zero_le _, h0⟩, fun i m H ⟨hm, hi, p⟩ => ?_⟩
  have q := hl i H hi p
  by_cases hlt : i < xs.length
  · refine .inr ⟨⟨xs, xs[i], q, by simp [hlt]⟩, Pv (i + 1), fun H' p' => ⟨xs.length - (i + 1), by omega, rfl, hlt, p'⟩, fun x H' ⟨e, y⟩ => ?_⟩
    subst e
    exact hs i x _ (y xs q) p
  · have e : i = xs.length := by omega
    subst e
    exact .inl ⟨⟨xs, q, Nat.le_refl _⟩, hd H p⟩
/-- pairs of a byte and a number, in a list -/
def PairsAt (H : Hp) (us : List V) (pr : List (Int × Nat)) : Prop := us.length = pr.length ∧ ∀ (j : Nat) (b : Int) (k : Nat), pr[j]? = some (b, k) → ∃ U : Addr, us[j]? = some (.ref U) ∧ H U = some (.tup [.int b, .int (k : Int)])
/-- each useful byte with the state behind it -/
def flatG (ss : List Sta) (d : List (Option Nat)) (g : List (Sta × List Int)) : List (Int × Sta) := ((usG ss d g).map fun q => q.2.map fun b => (b, q.1)).flatten
theorem flat_nd {f : Int → Option Sta} {cnt : Nat} {ss : List Sta} {d : List (Option Nat)} : ((flatG ss d (Bf.grp f (Bf.rng cnt))).map fun q => q.1).Nodup := by
  have nd0 : (Bf.rng cnt).Nodup := (Bf.rng_asc cnt).imp fun h => by omega
  unfold flatG
  rw [List.map_flatten, List.map_map]
  have e : ∀ q : Sta × List Int, ((List.map fun q : Int × Sta => q.1) ∘ fun q : Sta × List Int => q.2.map fun b => (b, q.1)) q = q.2 := fun q => by
    show (q.2.map fun b => (b, q.1)).map (fun q : Int × Sta => q.1) = q.2
    rw [List.map_map]
    exact List.map_id _
  rw [List.map_congr_left fun q _ => e q]
  have sub : ∀ q ∈ usG ss d (Bf.grp f (Bf.rng cnt)), q.2 = Bf.leads f (Bf.rng cnt) q.1 := fun q hq => by
    obtain ⟨j, hj⟩ := List.mem_iff_getElem?.mp (List.mem_filter.mp hq).1
    exact (grp_at (t := q.1) (bs := q.2) hj).2
  have pw : (usG ss d (Bf.grp f (Bf.rng cnt))).Pairwise fun p q => p.1 ≠ q.1 := by
    unfold usG
    refine List.Pairwise.filter _ ?_
    unfold Bf.grp
    exact List.pairwise_map.mpr (Bf.frs f _).nd
  refine List.pairwise_flatten.mpr ⟨fun l hl => ?_, List.pairwise_map.mpr ?_⟩
  · obtain ⟨q, hq, rfl⟩ := List.mem_map.mp hl
    rw [sub q hq]
    exact List.Pairwise.filter _ nd0
  · generalize usG ss d (Bf.grp f (Bf.rng cnt)) = l at sub pw
    induction l with
    | nil => exact .nil
    | cons p l ih =>
      obtain ⟨h1, h2⟩ := List.pairwise_cons.mp pw
      refine List.pairwise_cons.mpr ⟨fun q hq x hx y hy e => ?_, ih (fun q hq => sub q (List.mem_cons_of_mem _ hq)) h2⟩
      subst e
      rw [sub p List.mem_cons_self] at hx
      rw [sub q (List.mem_cons_of_mem _ hq)] at hy
      have a := (Bf.leads_mem.mp hx).2
      have b := (Bf.leads_mem.mp hy).2
      rw [a] at b
      exact h1 q hq (Option.some.inj b)
/-- what stands in the pair -/
def kP (H : Hp) : V → Int × Int
  | .ref U => match H U with
    | some (.tup [.int i, .int j]) => (i, j)
    | _ => (0, 0)
  | _ => (0, 0)
/-- pairs in the making -/
def SrtP (H G : Hp) (L : Addr) (ss : List Sta) (acc : List (Int × Option Sta)) (n : Nat) : Prop := ∃ (T : Hp) (us : List V) (pr : List (Int × Nat)), Same H T ∧ Same T G ∧ Same H G ∧ T L = none ∧ G L = some (.lst us) ∧ PairsAt T us pr ∧ (pr.map fun p => (p.1, ss[p.2]?)) = acc ∧ pr.length ≤ n
theorem PairsAt.to {T T' : Hp} {us : List V} {pr : List (Int × Nat)} (h : PairsAt T us pr) (s : Same T T') : PairsAt T' us pr := ⟨h.1, fun j b k hj => by
  obtain ⟨U, h1, h2⟩ := h.2 j b k hj
  exact ⟨U, h1, s _ _ h2⟩⟩
theorem SrtP.at {H G : Hp} {L : Addr} {ss : List Sta} {acc : List (Int × Option Sta)} {n : Nat} (h : SrtP H G L ss acc n) : Same H G := by
  obtain ⟨T, us, pr, _, _, s, _⟩ := h
  exact s
theorem SrtP.push {H G : Hp} {L u : Addr} {ss : List Sta} {acc : List (Int × Option Sta)} {n k : Nat} {b : Int} {t : Sta} (h : SrtP H G L ss acc n) (nL : H L = none) (nu : G u = none) (ht : ss[k]? = some t) : ∃ us, upd G u (.tup [.int b, .int (k : Int)]) L = some (.lst us) ∧ us.length ≤ n ∧ SrtP H (upd (upd G u (.tup [.int b, .int (k : Int)])) L (.lst (us ++ [.ref u]))) L ss (acc ++ [(b, some t)]) (n + 1) := by
  obtain ⟨T, us, pr, hT, tg, sG, nT, hL, PA, e, ln⟩ := h
  have uL : u ≠ L := fun z => by rw [z, hL] at nu; cases nu
  have s1 := same_upd (o := HO.tup [V.int b, V.int (k : Int)]) nu
  have nTu := tg.free nu
  have s2 := same_upd (o := HO.tup [V.int b, V.int (k : Int)]) nTu
  refine ⟨us, s1 _ _ hL, by rw [PA.1]; exact ln, upd T u (.tup [.int b, .int (k : Int)]), us ++ [.ref u], pr ++ [(b, k)], hT.trans s2, fun x o ex => ?_, fun x o ex => ?_, by rw [upd_ne (Ne.symm uL)]; exact nT, upd_same, ⟨by rw [List.length_append, List.length_append, PA.1]; rfl, fun j b' k' hj => ?_⟩, ?_, by rw [List.length_append]; show _ + 1 ≤ _; omega⟩
  · by_cases z : x = u
    · subst z
      rw [upd_same] at ex
      rw [upd_ne uL, upd_same]
      exact ex
    · rw [upd_ne z] at ex
      rw [upd_ne (fun w => by rw [w, nT] at ex; cases ex), upd_ne z]
      exact tg _ _ ex
  · rw [upd_ne (ne_of_none ex nL)]; exact s1 _ _ (sG _ _ ex)
  · rcases Bf.get_cases hj with h | ⟨h, h'⟩
    · obtain ⟨U, h1, h2⟩ := PA.2 j b' k' h
      exact ⟨U, Bf.get_app h1, s2 _ _ h2⟩
    · cases h'
      exact ⟨u, by rw [h, ← PA.1]; exact Bf.get_last, upd_same⟩
  · rw [List.map_append, e]
    show _ ++ [(b, ss[k]?)] = _
    rw [ht]
section
variable {P : Program} {w : World} {K : PySem.W.Frag} {mg : Str → Option Value} {base : Heap}
def spSorted (K : PySem.W.Frag) (Cg : Addr) : Sp := fun vs H Q _ => ∃ (g : Addr) (k cnt : Nat) (step : Sta → Int → Option Sta) (s0 sf : Sta) (ss : List Sta) (d : List (Option Nat)) (s : Sta), vs = [.ref g, .int (k : Int)] ∧ GrAt K Cg H g cnt step s0 sf ss d ∧ ss[k]? = some s ∧
  ∀ H' L us pr, Same H H' → H L = none → H' L = some (.lst us) → PairsAt H' us pr → (pr.map fun p => p.1).Pairwise (· < ·) → (pr.map fun p => (p.1, ss[p.2]?)).Perm ((flatG ss d (Bf.grp (step s) (Bf.rng cnt))).map fun q => (q.1, some q.2)) → Q (.ref L) H'
abbrev nSortedG : List Str := ["self", "state", "target", "fitting", "byte"]
theorem scSortedG : FnScope nSortedG ["self", "state"] (defScope sOverlayGraph_sorted_moves) := ⟨rfl, rfl, rfl, by decide +kernel, rfl, by decide +kernel, by decide +kernel⟩
theorem ok_sortedG {f Cg : Addr} {fd : FuncData} {k : Nat} (F : Fun K "sorted_moves" "OverlayGraph.sorted_moves" sOverlayGraph_sorted_moves f fd) (T : Bi mg) (Sg : GrTxt K mg Cg) :
    FnOk P w K mg base CX0 (k + 1) f fd ["self", "state"] (spSorted K Cg) := by
  refine F.ok scSortedG (fun vs H Q E h => ?_) (fun cdv A' outer s H vs Q E hr h => ?_)
  · obtain ⟨g, k, cnt, step, s0, sf, ss, d, s, rfl, _⟩ := h
    rfl
  · obtain ⟨g, k, cnt, step, s0, sf, ss, d, s, rfl, GA, hs, q⟩ := h
    refine ⟨_, pss_one (ps_ret (pe_callB cr_sortedPO (by rfl) T.sorted (by decide +kernel) (pa_cons (pe_lc2 (own := [("target", 2), ("fitting", 3), ("byte", 4)]) (vs1 := [4]) (g := gTup K 2 (gCons (gName 2) (gCons (gName 3) gNil))) (tt := tYes) (wi1 := iList K (tVar 3)) (g1 := gName 4) (tt1 := tYes) (te := tTup (tCons (tVar 4) (tCons (tVar 2) tNil))) (by rfl) scSortedG.nd (pi_list (pe_ix ix_list (pe_fld (pv 0) rfl) (pv 1) (fun _ _ => rfl))) (blkOk_by (own := [("target", 2), ("fitting", 3), ("byte", 4)]) (N := nSortedG) (sc := defScope sOverlayGraph_sorted_moves) (by decide +kernel)) (by decide) (fun _ _ _ _ _ => pg_tup rfl (pgs_cons (pg_name (i := 2) scSortedG.nd rfl (Or.inl rfl)) (pgs_cons (pg_name (i := 3) scSortedG.nd rfl (Or.inl rfl)) pgs_nil))) (fun _ _ _ _ _ => pts_nil) (fun _ _ _ _ _ => pi_list (pv 3)) (fun _ _ _ _ _ => pg_name (i := 4) scSortedG.nd rfl (Or.inl rfl)) (fun _ _ _ _ _ => pts_nil) (fun _ _ _ _ _ => pe_tup (pa_cons (pv 4) (pa_cons (pv 2) pa_nil)))) pa_nil))), ?_⟩
    obtain ⟨dx, D, U, us, hg, hD, hU, ul, ua⟩ := GA.ob
    obtain ⟨R, rs, hR1, hR2, RP⟩ := ua k s hs
    refine ⟨_, rfl, g, Cg, dx, _, _, rfl, hg, Sg.cl, Sg.nU, gf2_U _ _, _, rfl, U, _, _, V.ref R, rfl, rfl, SqL.of hU, atI_nat hR1, R, rfl, ⟨_, SqL.of hR2⟩, fun L nL => ?_⟩
    have c2 := GA.c256
    have rl : (Bf.rng cnt).length = cnt := by unfold Bf.rng; simp
    generalize hgr : usG ss d (Bf.grp (step s) (Bf.rng cnt)) = gr at RP
    have grl : gr.length ≤ 256 := by
      rw [← hgr]
      have h1 := List.length_filter_le (fun q : Sta × List Int => useB ss d q.1) (Bf.grp (step s) (Bf.rng cnt))
      have h2 := Bf.firsts_len (step s) _ (Bf.rng cnt) (Nat.le_refl _)
      have h3 : (Bf.grp (step s) (Bf.rng cnt)).length = (Bf.firsts (step s) (Bf.rng cnt)).length := by unfold Bf.grp; rw [List.length_map]
      unfold usG
      omega
    have bsl : ∀ (i : Nat) t bs, gr[i]? = some (t, bs) → bs.length ≤ 256 := fun i t bs hi => by
      rw [← hgr] at hi
      have hm := (List.mem_filter.mp (List.mem_of_getElem? hi)).1
      obtain ⟨j', hj'⟩ := List.mem_iff_getElem?.mp hm
      rw [(grp_at hj').2]
      have := List.length_filter_le (fun b => decide (step s b = some t)) (Bf.rng cnt)
      unfold Bf.leads
      omega
    refine walk_gen (K := K) (a := R) (xs := rs) (fun i G => SrtP H G L ss ((((gr.take i).map fun q => q.2.map fun b => (b, q.1)).flatten).map fun q => (q.1, some q.2)) (256 * i)) ?_ (fun i G _ m => SqL.of (m.at _ _ hR2)) ?_ ?_
    · exact ⟨H, [], [], Same.refl _, same_upd nL, same_upd nL, nL, upd_same, ⟨rfl, fun j b k h => by simp at h⟩, rfl, Nat.zero_le _⟩
    · intro i x G hx m
      have il : i < gr.length := by rw [← RP.1]; exact (List.getElem?_eq_some_iff.mp hx).1
      obtain ⟨⟨t, bs⟩, hq⟩ : ∃ q, gr[i]? = some q := ⟨_, List.getElem?_eq_getElem il⟩
      obtain ⟨Uj, k', bl, h1, h2, h3, h4⟩ := RP.2 i t bs hq
      rw [hx] at h1
      cases h1
      have bl256 := bsl i t bs hq
      have sG := m.at
      refine ⟨Uj, _, rfl, SqT.of (sG _ _ h2), rfl, _, _, rfl, _, _, rfl, rfl, rfl, _, rfl, bl, rfl, ⟨_, SqL.of (sG _ _ h4)⟩, walk_gen (K := K) (a := bl) (xs := bs.map V.int) (fun j G => SrtP H G L ss (((((gr.take i).map fun q => q.2.map fun b => (b, q.1)).flatten).map fun q => (q.1, some q.2)) ++ (bs.take j).map fun b => (b, some t)) (256 * i + j)) ?_ (fun j G _ m => SqL.of (m.at _ _ h4)) ?_ ?_⟩
      · rw [List.take_zero, List.map_nil, List.append_nil]
        exact m
      · intro j y G2 hy m2
        rw [List.getElem?_map] at hy
        obtain ⟨b, hb, rfl⟩ := Option.map_eq_some_iff.mp hy
        have jl : j < bs.length := (List.getElem?_eq_some_iff.mp hb).1
        refine ⟨rfl, _, rfl, _, rfl, by show 2 ≤ sizeLine; decide, fun u nu => ?_⟩
        obtain ⟨us', h1, h2, h3⟩ := m2.push (b := b) nL nu h3
        refine ⟨us', h1, by rw [sizeLine_eq]; omega, ?_⟩
        rw [take_more hb, List.map_append, ← List.append_assoc]
        exact h3
      · intro G2 m2
        rw [List.length_map, List.take_length] at m2
        obtain ⟨T, us', pr, a1, a2, a3, a4, a5, a6, a7, a8⟩ := m2
        refine ⟨T, us', pr, a1, a2, a3, a4, a5, a6, ?_, by omega⟩
        rw [a7, take_more hq, List.map_append, List.flatten_append, List.map_append]
        congr 1
        show _ = ([bs.map fun b => (b, t)].flatten).map fun q : Int × Sta => (q.1, some q.2)
        rw [List.flatten_cons, List.flatten_nil, List.append_nil, List.map_map]
        rfl
    · intro G m
      rw [RP.1, List.take_length] at m
      obtain ⟨T, us', pr, a1, a2, a3, a4, a5, a6, a7, a8⟩ := m
      have PG := a6.to a2
      have isP : ∀ x ∈ us', (∃ t, x = V.ref t ∧ G t = some (.tup [.int (kP G x).1, .int (kP G x).2])) ∧ 0 ≤ (kP G x).2 := fun x hx => by
        obtain ⟨j, hj⟩ := List.mem_iff_getElem?.mp hx
        obtain ⟨⟨b, k'⟩, hp⟩ : ∃ p, pr[j]? = some p := ⟨pr[j]'(by rw [← PG.1]; exact (List.getElem?_eq_some_iff.mp hj).1), List.getElem?_eq_getElem _⟩
        obtain ⟨U', h1, h2⟩ := PG.2 j b k' hp
        rw [hj] at h1
        cases h1
        have e : kP G (.ref U') = (b, (k' : Int)) := by
          unfold kP
          dsimp only
          rw [h2]
        rw [e]
        exact ⟨⟨U', rfl, h2⟩, Int.natCast_nonneg _⟩
      have ek : pr = us'.map fun x => ((kP G x).1, (kP G x).2.toNat) := by
        refine List.ext_getElem? fun j => ?_
        rw [List.getElem?_map]
        cases hp : pr[j]? with
        | none =>
          have : us'[j]? = none := by
            rw [List.getElem?_eq_none_iff] at hp ⊢
            rw [PG.1]; exact hp
          rw [this]; rfl
        | some p =>
          obtain ⟨b, k'⟩ := p
          obtain ⟨U', h1, h2⟩ := PG.2 j b k' hp
          rw [h1]
          show some (b, k') = some ((kP G (.ref U')).1, (kP G (.ref U')).2.toNat)
          unfold kP
          dsimp only
          rw [h2]
          rfl
      refine ⟨L, us', kP G, rfl, SqL.of a5, fun x hx => (isP x hx).1, fun ys p sr sb np => ?_⟩
      have sp := same_upd (o := HO.lst ys) np
      have mem : ∀ {x}, x ∈ ys → x ∈ us' := fun h => sb.perm.mem_iff.mp h
      have ep : (pr.map fun p => (p.1, ss[p.2]?)).Perm ((ys.map fun x => ((kP G x).1, (kP G x).2.toNat)).map fun p => (p.1, ss[p.2]?)) := by
        rw [ek]
        exact ((sb.perm.map _).map _).symm
      have ef : (pr.map fun p => (p.1, ss[p.2]?)) = ((flatG ss d (Bf.grp (step s) (Bf.rng cnt))).map fun q => (q.1, some q.2)) := by
        rw [a7]
        unfold flatG
        rw [hgr]
      refine q _ p ys (ys.map fun x => ((kP G x).1, (kP G x).2.toNat)) (a3.trans sp) (a3.free np) upd_same ⟨by rw [List.length_map], fun j b k' hj => ?_⟩ ?_ (ep.symm.trans (by rw [ef]))
      · rw [List.getElem?_map] at hj
        obtain ⟨x, hx, e⟩ := Option.map_eq_some_iff.mp hj
        obtain ⟨⟨U', e1, h1⟩, h0⟩ := isP x (mem (List.mem_of_getElem? hx))
        cases e
        refine ⟨U', by rw [hx, e1], ?_⟩
        rw [show (((kP G x).2.toNat : Nat) : Int) = (kP G x).2 by omega]
        exact sp _ _ h1
      · have nd : ((ys.map fun x => ((kP G x).1, (kP G x).2.toNat)).map fun p => p.1).Nodup := by
          have h1 := (flat_nd (f := step s) (cnt := cnt) (ss := ss) (d := d))
          have h2 := (ep.map fun z : Int × Option Sta => z.1)
          rw [ef, List.map_map] at h2
          have h3 : ((flatG ss d (Bf.grp (step s) (Bf.rng cnt))).map ((fun z : Int × Option Sta => z.1) ∘ fun q : Int × Sta => (q.1, some q.2))) = (flatG ss d (Bf.grp (step s) (Bf.rng cnt))).map fun q => q.1 := rfl
          rw [h3] at h2
          have h4 := h2.nodup_iff.mp h1
          rw [List.map_map, List.map_map] at h4
          rw [List.map_map]
          exact h4
        rw [List.map_map] at nd ⊢
        have nd' := List.pairwise_map.mp nd
        refine List.pairwise_map.mpr ?_
        refine List.Pairwise.imp₂ (fun x y h1 h2 => ?_) (show ys.Pairwise fun x y => ltP (kP G) y x = false from sr) nd'
        have h3 : ¬ (kP G x).1 = (kP G y).1 := h2
        have h4 := SrtO.lexB_no.mp h1
        show (kP G x).1 < (kP G y).1
        omega
end
end Ov
namespace Ov
open PySem PySem.Spec PyProof.Rows L2
end Ov
namespace Ov
open PySem PySem.Spec PyProof.Rows L2
theorem fitsL_opt : ∀ (os : List (Option Int)) (bs : List Int), fitsL os bs = ((bs.map some).zip os).all fun q => optFit q.2 q.1
  | [], bs => by unfold fitsL; rw [List.zip_nil_left, List.zip_nil_right]; rfl
  | o :: os, [] => by unfold fitsL; rw [List.zip_nil_right]; rfl
  | o :: os, b :: bs => by
    have ih := fitsL_opt os bs
    unfold fitsL at ih ⊢
    rw [List.zip_cons_cons, List.all_cons, List.map_cons, List.zip_cons_cons, List.all_cons, ih]
    congr 1
    cases o with
    | none => simp [optFit]
    | some z =>
      show decide (some z = none ∨ some z = some b) = decide (some z = some b)
      exact decide_eq_decide.mpr ⟨fun h => h.elim (fun h => nomatch h) id, .inr⟩
theorem zip_pre {α β : Type} (f : α × β → Bool) : ∀ (xs r : List α) (ps : List β), ((xs ++ r).zip ps).all f = true → (xs.zip ps).all f = true
  | [], r, ps, _ => by rw [List.zip_nil_left]; rfl
  | x :: xs, r, [], _ => by rw [List.zip_nil_right]; rfl
  | x :: xs, r, p :: ps, h => by
    rw [List.cons_append, List.zip_cons_cons, List.all_cons] at h
    rw [List.zip_cons_cons, List.all_cons]
    obtain ⟨h1, h2⟩ := Bool.and_eq_true_iff.mp h
    exact Bool.and_eq_true_iff.mpr ⟨h1, zip_pre f xs r ps h2⟩
theorem zip_snoc {α β : Type} (f : α × β → Bool) : ∀ (xs : List α) (x : α) (ps : List β) (p : β), ps[xs.length]? = some p → ((xs ++ [x]).zip ps).all f = ((xs.zip ps).all f && f (x, p))
  | [], x, [], p, h => by simp at h
  | [], x, q :: ps, p, h => by
    have h : some q = some p := h
    cases h
    rw [List.nil_append, List.zip_cons_cons, List.all_cons, List.zip_nil_left, List.zip_nil_left]
    simp
  | z :: xs, x, [], p, h => by simp at h
  | z :: xs, x, q :: ps, p, h => by
    rw [List.length_cons, List.getElem?_cons_succ] at h
    rw [List.cons_append, List.zip_cons_cons, List.all_cons, List.zip_cons_cons, List.all_cons, zip_snoc f xs x ps p h, Bool.and_assoc]
section
variable {cnt lg : Nat} {is : List I4} {ps : List PStep}
theorem found_pre {bs : List Int} {e o : Nat} {begun : List Nat} (g : Going (laOf is) bs e begun o) {gs : List PStep} (h : foundAt is bs e = some gs) : ∃ r, gs = stepsOf is bs begun ++ r := by
  unfold foundAt at h
  by_cases c : cdEnd (laOf is) (some e) bs = some 0
  · rw [if_pos c] at h
    cases h
    rw [g.st]
    unfold stepsOf
    rw [List.filterMap_append]
    exact ⟨_, rfl⟩
  · rw [if_neg c] at h; cases h
theorem decs_fits (ok : TabOk cnt lg is) (sok : ∀ x ∈ ps, StepOk cnt is x) {bs : List Int} {e : Nat} : ∀ (n o : Nat) (begun : List Nat), bs.length - o ≤ n → Going (laOf is) bs e begun o → o ≤ bs.length → (stepsOf is bs begun).length ≤ ps.length → ((stepsOf is bs begun).zip ps).all (fun q => stepFit q.2 q.1) = true →
    ((bs.drop o).foldlM (decB is ps) ((stepsOf is bs begun).length, false, 0) = some (ps.length, false, 0) ↔ fits (foundAt is bs e) ps = true) := by
  intro n
  induction n with
  | zero =>
    intro o begun hn g hl hd ha
    have eo : o = bs.length := by omega
    have en := g.over (by omega)
    rw [← found_at en]
    unfold foundOf
    rw [if_pos eo, fits_some, ha, Bool.and_true, List.drop_of_length_le (by omega)]
    constructor
    · intro h
      have h : some ((stepsOf is bs begun).length, false, 0) = some ((ps.length, false, 0) : Dst) := h
      exact decide_eq_true (Prod.mk.inj (Option.some.inj h)).1
    · intro h
      show some ((stepsOf is bs begun).length, false, 0) = some ((ps.length, false, 0) : Dst)
      rw [of_decide_eq_true h]
  | succ n ih =>
    intro o begun hn g hl hd ha
    by_cases eo : o = bs.length
    · have en := g.over (by omega)
      rw [← found_at en]
      unfold foundOf
      rw [if_pos eo, fits_some, ha, Bool.and_true, List.drop_of_length_le (by omega)]
      constructor
      · intro h
        have h : some ((stepsOf is bs begun).length, false, 0) = some ((ps.length, false, 0) : Dst) := h
        exact decide_eq_true (Prod.mk.inj (Option.some.inj h)).1
      · intro h
        show some ((stepsOf is bs begun).length, false, 0) = some ((ps.length, false, 0) : Dst)
        rw [of_decide_eq_true h]
    have ho : o < bs.length := by omega
    have hb' : bs[o]? = some bs[o] := List.getElem?_eq_getElem ho
    have dr : bs.drop o = bs[o] :: bs.drop (o + 1) := List.drop_eq_getElem_cons ho
    have gD : bs.getD o 0 = bs[o] := by rw [List.getD_eq_getElem?_getD, hb']; rfl
    have tll : (bs.drop (o + 1)).length = bs.length - (o + 1) := List.length_drop
    rw [dr]
    generalize bs[o] = b at *
    cases hy : opI is b with
    | none =>
      have e0 : laOf is b = 0 := by rw [la_opI, hy]
      have en := g.stop hb' e0
      rw [← found_at en]
      unfold foundOf
      rw [if_neg eo, List.foldlM_cons, decB_unknown ok sok _ hy]
      exact ⟨fun h => (nomatch h), fun h => (nomatch h)⟩
    | some y =>
      obtain ⟨y1, y2⟩ := opI_in hy
      have e1 : laOf is b = y.ln := by rw [la_opI, hy]
      have ylen := ok.len y y1
      have g2 := g.step hb' (by omega)
      rw [e1] at g2
      have hsa : stepAt is bs o = if y.pad = true then none else some (y, (opsOf bs o y.ln).map some) := by
        unfold stepAt
        rw [gD]
        show (match opI is b with
          | some x => if x.pad = true then none else some (x, (opsOf bs o x.ln).map some)
          | none => none) = _
        rw [hy]
      have ea : ∀ x, stepsOf is bs (begun ++ [o]) = stepsOf is bs begun ++ x ↔ [o].filterMap (stepAt is bs) = x := fun x => by
        unfold stepsOf
        rw [List.filterMap_append]
        exact ⟨fun h => List.append_cancel_left h, fun h => by rw [h]⟩
      have bad : ∀ {o' : Nat} {b' : List Nat}, Going (laOf is) bs e b' o' → (¬ ((stepsOf is bs b').length ≤ ps.length ∧ ((stepsOf is bs b').zip ps).all (fun q => stepFit q.2 q.1) = true)) → ¬ fits (foundAt is bs e) ps = true := fun {o' b'} g' h z => by
        cases hf : foundAt is bs e with
        | none => rw [hf] at z; cases z
        | some gs =>
          obtain ⟨r, er⟩ := found_pre g' hf
          rw [hf, fits_some, er] at z
          obtain ⟨z1, z2⟩ := Bool.and_eq_true_iff.mp z
          have z1 := of_decide_eq_true z1
          rw [List.length_append] at z1
          exact h ⟨by omega, zip_pre _ _ _ _ z2⟩
      have cutN : bs.length < o + y.ln → ¬ fits (foundAt is bs e) ps = true := fun c z => by
        have en := g2.over (by omega)
        rw [← found_at en] at z
        unfold foundOf at z
        rw [if_neg (by omega)] at z
        cases z
      cases hp : y.pad with
      | true =>
        have f := decs_pad (ps := ps) ok (stepsOf is bs begun).length hy hp (bs.drop (o + 1))
        rw [f, tll]
        have es : stepsOf is bs (begun ++ [o]) = stepsOf is bs begun := by
          have := (ea []).mpr (by rw [List.filterMap_cons, hsa, if_pos hp]; rfl)
          rw [this, List.append_nil]
        by_cases c : bs.length < o + y.ln
        · rw [if_pos (by omega)]
          exact ⟨fun h => by have := congrArg (fun d : Option Dst => d.map (·.2.1)) h; simp at this, fun h => absurd h (cutN c)⟩
        · rw [if_neg (by omega), List.drop_drop, show o + 1 + (y.ln - 1) = o + y.ln by omega]
          have := ih (o + y.ln) (begun ++ [o]) (by omega) g2 (by omega) (by rw [es]; exact hd) (by rw [es]; exact ha)
          rw [es] at this
          exact this
      | false =>
        have f := decs_step (ps := ps) ok sok (stepsOf is bs begun).length hy hp (bs.drop (o + 1))
        rw [f, tll]
        have es : stepsOf is bs (begun ++ [o]) = stepsOf is bs begun ++ [(y, (opsOf bs o y.ln).map some)] := (ea _).mpr (by rw [List.filterMap_cons, hsa, if_neg (by rw [hp]; exact Bool.false_ne_true)]; rfl)
        cases hx : ps[(stepsOf is bs begun).length]? with
        | none =>
          have : ps.length ≤ (stepsOf is bs begun).length := List.getElem?_eq_none_iff.mp hx
          refine ⟨fun h => (nomatch h), fun h => absurd h (bad g2 fun z => ?_)⟩
          have := z.1
          rw [es, List.length_append, List.length_singleton] at this
          omega
        | some x =>
          have xl := (List.getElem?_eq_some_iff.mp hx).1
          dsimp only
          have eop : opsOf bs o y.ln = (bs.drop (o + 1)).take (y.ln - 1) := rfl
          have sf : stepFit x (y, (opsOf bs o y.ln).map some) = (decide (txt y.nm = txt x.1.nm) && fitsL x.2 ((bs.drop (o + 1)).take (y.ln - 1))) := by
            rw [fitsL_opt, ← eop]
            rfl
          have zs : ((stepsOf is bs (begun ++ [o])).zip ps).all (fun q => stepFit q.2 q.1) = (((stepsOf is bs begun).zip ps).all (fun q => stepFit q.2 q.1) && stepFit x (y, (opsOf bs o y.ln).map some)) := by
            rw [es, zip_snoc _ _ _ _ _ hx]
          rw [ha, Bool.true_and, sf] at zs
          by_cases cn : x.1.nm = y.nm
          · rw [if_pos cn]
            rw [cn, decide_eq_true rfl, Bool.true_and] at zs
            by_cases cf : fitsL x.2 ((bs.drop (o + 1)).take (y.ln - 1)) = true
            · rw [if_pos cf]
              by_cases c : bs.length < o + y.ln
              · rw [if_pos (by omega)]
                refine ⟨fun h => ?_, fun h => absurd h (cutN c)⟩
                have h := (Prod.mk.inj (Prod.mk.inj (Option.some.inj h)).2).2
                omega
              · rw [if_neg (by omega), List.drop_drop, show o + 1 + (y.ln - 1) = o + y.ln by omega]
                have := ih (o + y.ln) (begun ++ [o]) (by omega) g2 (by omega) (by rw [es, List.length_append, List.length_singleton]; omega) (by rw [zs]; exact cf)
                rw [es, List.length_append, List.length_singleton] at this
                exact this
            · rw [if_neg cf]
              exact ⟨fun h => (nomatch h), fun h => absurd h (bad g2 fun z => cf (by rw [← zs]; exact z.2))⟩
          · rw [if_neg cn]
            refine ⟨fun h => (nomatch h), fun h => absurd h (bad g2 fun z => ?_)⟩
            have := z.2
            rw [zs, Bool.and_eq_true_iff] at this
            exact cn (txt_inj (of_decide_eq_true this.1)).symm
theorem decs_ov (ok : TabOk cnt lg is) (sok : ∀ x ∈ ps, StepOk cnt is x) {bs : List Int} {e : Nat} (he : e ≤ bs.length) : decs is ps (bs.drop e) = some (ps.length, false, 0) ↔ fits (foundAt is bs e) ps = true :=
  decs_fits ok sok bs.length e [] (by omega) (Going.start bs e) he (Nat.zero_le _) (by show (List.zip [] ps).all _ = true; rw [List.zip_nil_left]; rfl)
theorem ov_state (ok : TabOk cnt lg is) {pss : List (List PStep)} {gs : List Nat} (pl : Plns cnt is pss) (oe : Ents gs) (lgp : gs.length = pss.length) {bs : List Int} : ovB is bs pss gs = true ↔ rowSt is pss gs bs = some (finS pss gs) := by
  have el : (gs.getLast?.getD 0) = lastG gs := rfl
  unfold ovB
  rw [Bool.and_eq_true_iff, decide_eq_true_iff, el, List.all_eq_true]
  constructor
  · rintro ⟨h1, h2⟩
    unfold rowSt
    have key : gfold (rowIt is bs) (pss.zip gs) = some (pss.map fun ps => some (ps.length, false, 0)) := by
      refine gfold_mk (List.ext_getElem? fun i => ?_)
      rw [List.getElem?_map, List.getElem?_map, List.getElem?_map]
      by_cases il : i < pss.length
      · obtain ⟨ps, hps⟩ : ∃ ps, pss[i]? = some ps := ⟨_, List.getElem?_eq_getElem il⟩
        obtain ⟨g, hg⟩ : ∃ g, gs[i]? = some g := ⟨gs[i]'(by omega), List.getElem?_eq_getElem _⟩
        have z1 : (pss.zip gs)[i]? = some (ps, g) := by rw [List.getElem?_zip_eq_some]; exact ⟨hps, hg⟩
        have z2 : (gs.zip pss)[i]? = some (g, ps) := by rw [List.getElem?_zip_eq_some]; exact ⟨hg, hps⟩
        have gl := last_le oe.asc g (List.mem_of_getElem? hg)
        rw [z1, hps]
        show some (rowIt is bs (ps, g)) = some (some (some (ps.length, false, 0)))
        unfold rowIt
        rw [if_neg (show ¬ bs.length < g by omega), (decs_ov ok (pl.ok ps (List.mem_of_getElem? hps)).2 (show g ≤ bs.length by omega)).mpr (h2 (g, ps) (List.mem_of_getElem? z2))]
        rfl
      · rw [List.getElem?_eq_none (by rw [List.length_zip]; omega), List.getElem?_eq_none (by omega)]
        rfl
    rw [key]
    show some (min bs.length (lastG gs), _) = some (finS pss gs)
    rw [Nat.min_eq_right h1]
    rfl
  · intro h
    obtain ⟨h1, h2⟩ := rowSt_at h
    have h1 : lastG gs = min bs.length (lastG gs) := h1
    refine ⟨by omega, fun q hq => ?_⟩
    obtain ⟨i, hi⟩ := List.mem_iff_getElem?.mp hq
    obtain ⟨g, ps⟩ := q
    obtain ⟨hg, hps⟩ := List.getElem?_zip_eq_some.mp hi
    have z1 : (pss.zip gs)[i]? = some (ps, g) := by rw [List.getElem?_zip_eq_some]; exact ⟨hps, hg⟩
    have gl := last_le oe.asc g (List.mem_of_getElem? hg)
    have := congrArg (fun l => l[i]?) h2
    rw [List.getElem?_map, z1] at this
    have this : some (rowIt is bs (ps, g)) = ((finS pss gs).2.map some)[i]? := this
    unfold finS at this
    rw [List.getElem?_map, List.getElem?_map, hps] at this
    have this := Option.some.inj this
    unfold rowIt at this
    rw [if_neg (show ¬ bs.length < g by omega)] at this
    refine (decs_ov ok (pl.ok ps (List.mem_of_getElem? hps)).2 (show g ≤ bs.length by omega)).mp ?_
    cases hd : decs is ps (bs.drop g) with
    | none => rw [hd] at this; cases this
    | some d => rw [hd] at this; exact Option.some.inj this
end
end Ov
namespace Ov
open PySem PySem.Spec PyProof.Rows L2
def rowBs (bs : List Int) : PyData := .tuple (bs.map PyData.int)
/-- how each state was come to -/
def Come (os : List (Option (Nat × Int))) (cs : List (List Int)) : Prop := ∀ i, i < os.length → (os[i]? = some none ∧ cs[i]? = some []) ∨ ∃ (p : Nat) (b : Int) (c : List Int), os[i]? = some (some (p, b)) ∧ p < i ∧ cs[p]? = some c ∧ cs[i]? = some (c ++ [b])
theorem Come.take {os : List (Option (Nat × Int))} {cs : List (List Int)} (h : Come os cs) (n : Nat) : Come (os.take n) cs := fun i hi => by
  rw [List.length_take] at hi
  rw [List.getElem?_take_of_lt (by omega)]
  exact h i (by omega)
end Ov
namespace Ov
open PySem PySem.Spec PyProof.Rows L2
theorem valM_not : ∀ (more kvs : List (Key × V)) (k : Key), k ∉ more.map (·.1) → valV (mergeK kvs more) k = valV kvs k
  | [], kvs, k, _ => rfl
  | kv :: more, kvs, k, h => by
    show valV (mergeK (putK kvs kv.1 kv.2) more) k = _
    rw [valM_not more _ k (fun z => h (by rw [List.map_cons]; exact List.mem_cons_of_mem _ z)), valV_put, if_neg (fun z => h (by rw [List.map_cons, z]; exact List.mem_cons_self))]
theorem valM_mem : ∀ (more kvs : List (Key × V)) (k : Key) (v : V), (more.map (·.1)).Nodup → (k, v) ∈ more → valV (mergeK kvs more) k = some v
  | [], _, _, _, _, h => nomatch h
  | kv :: more, kvs, k, v, nd, h => by
    show valV (mergeK (putK kvs kv.1 kv.2) more) k = _
    rw [List.map_cons, List.nodup_cons] at nd
    rcases List.mem_cons.mp h with rfl | h
    · rw [valM_not more _ _ nd.1, valV_put, if_pos rfl]
    · exact valM_mem more _ k v nd.2 h
def numAt (step : Sta → Int → Option Sta) (sf : Sta) (cnt n : Nat) : Option Sta → Nat
  | some t => Ct.num step sf cnt n t
  | none => 0
section
variable {step : Sta → Int → Option Sta} {sf : Sta} {cnt : Nat} {ss : List Sta} {d : List (Option Nat)}
theorem less_sum (D : Ct.Dsts step sf cnt ss d) (nd : ss.Nodup) (cl : ∀ s ∈ ss, ∀ t, Ct.Edge step cnt s t → t ∈ ss) {s : Sta} (hs : s ∈ ss) {pr : List (Int × Nat)} (pm : (pr.map fun p => (p.1, ss[p.2]?)).Perm ((flatG ss d (Bf.grp (step s) (Bf.rng cnt))).map fun q => (q.1, some q.2))) (b : Int) (n : Nat) :
    ((pr.filter fun p => decide (p.1 < b)).map fun p => numAt step sf cnt n ss[p.2]?).sum = (((Bf.rng cnt).filter fun b' => decide (b' < b)).map (Ct.at' (step s) fun _ t => Ct.num step sf cnt n t)).sum := by
  rw [← Ct.sum_ite, ← Ct.sum_ite]
  have e2 : (pr.map fun p => if decide (p.1 < b) = true then numAt step sf cnt n ss[p.2]? else 0) = (pr.map fun p => (p.1, ss[p.2]?)).map fun z : Int × Option Sta => if decide (z.1 < b) = true then numAt step sf cnt n z.2 else 0 := by
    rw [List.map_map]
    rfl
  rw [e2, Ct.sum_perm pm, List.map_map]
  show ((flatG ss d (Bf.grp (step s) (Bf.rng cnt))).map fun q : Int × Sta => if decide (q.1 < b) = true then Ct.num step sf cnt n q.2 else 0).sum = _
  unfold flatG
  rw [Ct.sum_flat, use_sum D nd cl hs _ (fun q z => ?_)]
  · have e3 : ∀ q ∈ Bf.grp (step s) (Bf.rng cnt), (((q.2.map fun b' => (b', q.1)).map fun q : Int × Sta => if decide (q.1 < b) = true then Ct.num step sf cnt n q.2 else 0)).sum = (q.2.map fun b' => (fun (b' : Int) t => if decide (b' < b) = true then Ct.num step sf cnt n t else 0) b' q.1).sum := fun q _ => by
      rw [List.map_map]
      rfl
    rw [Ct.sum_cong e3]
    refine (Ct.grp_sum (step s) (fun (b' : Int) t => if decide (b' < b) = true then Ct.num step sf cnt n t else 0) (Bf.rng cnt)).trans ?_
    refine Ct.sum_cong fun b' _ => ?_
    unfold Ct.at'
    cases step s b' with
    | none => exact (ite_self (0 : Nat)).symm
    | some t => rfl
  · refine Ct.sum_zero fun x hx => ?_
    obtain ⟨b', _, e⟩ := List.mem_map.mp hx
    cases e
    dsimp only
    rw [z n]
    split <;> rfl
theorem rank_cons {b : Int} {r : List Int} {s t : Sta} (ht : step s b = some t) : Ct.rank step sf cnt (b :: r) s = (((Bf.rng cnt).filter fun b' => decide (b' < b)).map (Ct.at' (step s) fun _ t => Ct.num step sf cnt r.length t)).sum + Ct.rank step sf cnt r t := by
  rw [Ct.rank, ht]
theorem pair_at {α β : Type} {R : α → β → Prop} : ∀ {ps : List α} {es : List β}, ps.length = es.length → (∀ (j : Nat) a b, ps[j]? = some a → es[j]? = some b → R a b) → Paired R ps es
  | [], [], _, _ => .nil
  | [], _ :: _, h, _ => by cases h
  | _ :: _, [], h, _ => by cases h
  | a :: ps, b :: es, h, k => .cons (k 0 a b rfl rfl) (pair_at (by simpa using h) fun j a' b' h1 h2 => k (j + 1) a' b' (by rw [List.getElem?_cons_succ]; exact h1) (by rw [List.getElem?_cons_succ]; exact h2))
theorem all_refs : ∀ {us : List V}, (∀ x ∈ us, ∃ U : Addr, x = V.ref U) → ∃ ps : List Addr, us = ps.map V.ref
  | [], _ => ⟨[], rfl⟩
  | x :: us, h => by
    obtain ⟨U, rfl⟩ := h x List.mem_cons_self
    obtain ⟨ps, e⟩ := all_refs (us := us) fun y hy => h y (List.mem_cons_of_mem _ hy)
    exact ⟨U :: ps, by rw [e]; rfl⟩
theorem run_num : ∀ (rest : List Int) (t : Sta), Bf.Byt cnt rest → Bf.runB step t rest = some sf → Ct.num step sf cnt rest.length t ≠ 0
  | [], t, _, h => by
    have e : t = sf := Option.some.inj h
    show (if t = sf then 1 else 0) ≠ 0
    rw [if_pos e]
    exact Nat.one_ne_zero
  | b :: rest, t, hb, h => by
    rw [Ct.runB_cons] at h
    cases q : step t b with
    | none => rw [q] at h; cases h
    | some u =>
      rw [q] at h
      exact Ct.edge_num ⟨b, Bf.rng_mem.mpr (hb b List.mem_cons_self), q⟩ (run_num rest u (fun c hc => hb c (List.mem_cons_of_mem _ hc)) h)
theorem move_in (D : Ct.Dsts step sf cnt ss d) (nd : ss.Nodup) (cl : ∀ s ∈ ss, ∀ t, Ct.Edge step cnt s t → t ∈ ss) {s : Sta} (hs : s ∈ ss) {pr : List (Int × Nat)} (pm : (pr.map fun p => (p.1, ss[p.2]?)).Perm ((flatG ss d (Bf.grp (step s) (Bf.rng cnt))).map fun q => (q.1, some q.2))) {b : Int} (hb : b ∈ Bf.rng cnt) {t : Sta} (e : step s b = some t) {n : Nat} (h : Ct.num step sf cnt n t ≠ 0) : ∃ k : Nat, (b, k) ∈ pr ∧ ss[k]? = some t := by
  have tm := cl s hs t ⟨b, hb, e⟩
  obtain ⟨k0, hk⟩ := List.mem_iff_getElem?.mp tm
  obtain ⟨o, ho⟩ : ∃ o, d[k0]? = some o := ⟨d[k0]'(by rw [D.1]; exact (List.getElem?_eq_some_iff.mp hk).1), List.getElem?_eq_getElem _⟩
  have ub := useB_at nd hk ho
  have us : useB ss d t = true := by
    rw [ub]
    cases o with
    | some _ => rfl
    | none => exact absurd (D.2 k0 t none hk ho n) h
  have fm : t ∈ Bf.firsts (step s) (Bf.rng cnt) := ((Bf.frs _ _).mem t).mpr ⟨b, hb, e⟩
  have gm : (t, Bf.leads (step s) (Bf.rng cnt) t) ∈ usG ss d (Bf.grp (step s) (Bf.rng cnt)) := List.mem_filter.mpr ⟨List.mem_map.mpr ⟨t, fm, rfl⟩, us⟩
  have flm : (b, t) ∈ flatG ss d (Bf.grp (step s) (Bf.rng cnt)) := List.mem_flatten.mpr ⟨_, List.mem_map.mpr ⟨_, gm, rfl⟩, List.mem_map.mpr ⟨b, Bf.leads_mem.mpr ⟨hb, e⟩, rfl⟩⟩
  have pm' := pm.mem_iff.mpr (List.mem_map.mpr ⟨(b, t), flm, rfl⟩)
  obtain ⟨⟨b', k⟩, hp, e'⟩ := List.mem_map.mp pm'
  have h1 : b' = b := congrArg (fun z : Int × Option Sta => z.1) e'
  have h2 : ss[k]? = some t := congrArg (fun z : Int × Option Sta => z.2) e'
  exact ⟨k, by rw [← h1]; exact hp, h2⟩
end
theorem isOv_row' {cnt : Nat} {is : List I4} {pss : List (List PStep)} {gs : List Nat} {row : List Int} (h : Bf.Byt cnt row) : isOvD cnt is pss gs (rowBs row) = ovB is row pss gs := by
  have e1 : isCode cnt (rowBs row) = true := by
    refine List.all_eq_true.mpr fun x hx => ?_
    obtain ⟨b, hb, rfl⟩ := List.mem_map.mp hx
    have := h b hb
    show (decide (0 ≤ b) && decide (b ≤ (cnt : Int) - 1)) = true
    rw [decide_eq_true this.1, decide_eq_true (show b ≤ (cnt : Int) - 1 by omega)]
    rfl
  have e2 : bsD (rowBs row) = row := by
    show (row.map PyData.int).map intD = row
    rw [List.map_map]
    exact (List.map_congr_left fun _ _ => rfl).trans (List.map_id row)
  unfold isOvD
  rw [e1, e2, Bool.true_and]
end Ov
namespace Ov
open PySem PySem.Spec PyProof.Rows L2
section
variable {P : Program} {w : World} {K : PySem.W.Frag} {mg : Str → Option Value} {base : Heap}
def spNumber (K : PySem.W.Frag) (C Cm Cg : Addr) : Sp := fun vs H Q _ => ∃ (p l g cnt lg : Nat) (it : Addr) (is : List I4) (rs : List Addr) (xs : List V) (pss : List (List PStep)) (gs : List Nat) (ra : Addr) (row : List Int), vs = [.ref p, .ref l, .ref g, .ref ra] ∧ Asked K C H p l g cnt lg it is rs xs pss gs ∧ SqT K H ra (row.map V.int) ∧ Bf.Byt cnt row ∧ row.length ≤ 1000 ∧
  ∀ H' v, Same H H' → v = (if ovB is row pss gs = true then nV (Ct.rank (stepS is pss gs) (finS pss gs) cnt row (first0 gs)) else V.non) → Q v H'
abbrev nNumber : List Str := ["instruction_set", "programs", "entries", "code", "graph", "levels", "number", "state", "place", "byte", "level", "moves", "other", "target"]
theorem scNumber : FnScope nNumber ["instruction_set", "programs", "entries", "code"] (defScope s_overlay_number) := ⟨rfl, rfl, rfl, by decide +kernel, rfl, by decide +kernel, by decide +kernel⟩
theorem ok_number {f C Cm Cg fOverlaygraph fIsOverlay fGrSm fGrLv : Addr} {fd fdOverlaygraph fdIsOverlay fdGrSm fdGrLv : FuncData} {k : Nat} (F : Fun K "overlay_number" "overlay_number" s_overlay_number f fd) (T : Bi mg) (S : SetTxt K mg C) (Sm : MacTxt K mg Cm) (Sg : GrTxt K mg Cg) (MOverlaygraph : L2.Mk K Cg fOverlaygraph) (bOverlaygraph : Binds K fdOverlaygraph ["self", "instruction_set", "programs", "entries"] []) (GOverlaygraph : FnOk P w K mg base CX0 k fOverlaygraph fdOverlaygraph ["self", "instruction_set", "programs", "entries"] (spInitG K C Cm Cg)) (IsOverlay : Def K mg "is_overlay" s_is_overlay fIsOverlay fdIsOverlay ["instruction_set", "programs", "entries", "value"]) (GIsOverlay : FnOk P w K mg base CX0 (k + 1) fIsOverlay fdIsOverlay ["instruction_set", "programs", "entries", "value"] (spIsOv K C)) (MGrSm : Meth K Cg "sorted_moves" fGrSm) (bGrSm : Binds K fdGrSm ["self", "state"] []) (GGrSm : FnOk P w K mg base CX0 (k + 1) fGrSm fdGrSm ["self", "state"] (spSorted K Cg)) (MGrLv : Meth K Cg "levels" fGrLv) (bGrLv : Binds K fdGrLv ["self", "length"] []) (GGrLv : FnOk P w K mg base CX0 (k + 1) fGrLv fdGrLv ["self", "length"] (spLevels K Cg)) :
    FnOk P w K mg base CX0 (k + 2) f fd ["instruction_set", "programs", "entries", "code"] (spNumber K C Cm Cg) := by
  refine F.ok scNumber (fun vs H Q E h => ?_) (fun cdv A' outer s H vs Q E hr h => ?_)
  · obtain ⟨p, l, g, cnt, lg, it, is, rs, xs, pss, gs, ra, row, rfl, _⟩ := h
    rfl
  · obtain ⟨p, l, g, cnt, lg, it, is, rs, xs, pss, gs, ra, row, rfl, A, hra, hb, rl, q⟩ := h
    have hu := hu_of hr
    refine ⟨_, pss_cons (ps_if (pt_not (pt_val (pe_call GIsOverlay hr (by rfl) IsOverlay.gl IsOverlay.fn.kp IsOverlay.bi .nil pass0 (pa_cons (pv 0) (pa_cons (pv 1) (pa_cons (pv 2) (pa_cons (pv 3) pa_nil))))))) (pss_one (ps_ret pe_non)) pss_nil)
      (pss_cons (ps_set (i := 4) scNumber.nd rfl (.inl rfl) (pe_make MOverlaygraph GOverlaygraph hr (by rfl) Sg.mgC bOverlaygraph .nil pass0 (pa_cons (pv 0) (pa_cons (pv 1) (pa_cons (pv 2) pa_nil)))))
      (pss_cons (ps_set (i := 5) scNumber.nd rfl (.inl rfl) (pe_meth (pv 4) Sg.cl MGrLv GGrLv hr bGrLv .nil pass0 (pa_cons (pe_callB call_len_seq (by rfl) T.len PySem.boot_len (pa_cons (pv 3) pa_nil)) pa_nil)))
      (pss_cons (ps_set (i := 6) scNumber.nd rfl (.inl rfl) pe_int)
      (pss_cons (ps_set (i := 7) scNumber.nd rfl (.inl rfl) pe_int)
      (pss_cons (ps_for PassesOwn.never rfl (pi_enumT (by rfl) T.enumerate (pa_cons (pv 3) pa_nil)) (pg_tup rfl (pgs_cons (pg_name (i := 8) scNumber.nd rfl (.inl rfl)) (pgs_cons (pg_name (i := 9) scNumber.nd rfl (.inr rfl)) pgs_nil))) (pss_cons (ps_set (i := 10) scNumber.nd rfl (.inr rfl) (pe_ix ix_list (pv 5) (pe_op op_sub (pe_op op_sub (pe_callB call_len_seq (by rfl) T.len PySem.boot_len (pa_cons (pv 3) pa_nil)) (pv 8)) pe_int) (fun _ _ => rfl)))
      (pss_cons (ps_set (i := 11) scNumber.nd rfl (.inl rfl) (pe_meth (pv 4) Sg.cl MGrSm GGrSm hr bGrSm .nil pass0 (pa_cons (pv 7) pa_nil)))
      (pss_cons (ps_aug (i := 6) scNumber.nd rfl (.inl rfl) (pe_callB (cr_sum rfl) (by rfl) T.sum (by decide +kernel) (pa_cons (pe_lc (own := [("other", 12), ("target", 13)]) (g := (gTup K 2 (gCons (gName 12) (gCons (gName 13) gNil)))) (te := (tOp (rIxL K) (tVar 10) (tVar 13))) (by rfl) scNumber.nd (pi_list (pv 11)) (blkOk_by (own := [("other", 12), ("target", 13)]) (N := nNumber) (sc := defScope s_overlay_number) (by decide +kernel)) (fun _ _ _ _ _ => (pg_tup rfl (pgs_cons (pg_name (i := 12) scNumber.nd rfl (Or.inl rfl)) (pgs_cons (pg_name (i := 13) scNumber.nd rfl (Or.inl rfl)) pgs_nil)))) (fun _ _ _ _ _ => pts_one (pt_cmpR op_lt (pv 12) (pv 9) (nomark _))) (fun _ _ _ _ _ => (pe_ix (r := rIxL K) ix_list (pv 10) (pv 13) (fun _ _ => rfl)))) pa_nil)) ip_add)
      (pss_one (ps_set (i := 7) scNumber.nd rfl (.inl rfl) (pe_dget hu (pe_callTy (call_dictP rfl) (by rfl) T.dict (by decide +kernel) (pa_cons (pv 11) pa_nil)) (pv 9) (fun _ _ => rfl))))))))
      (pss_one (ps_ret (pv 6)))))))), ?_⟩
    have drow : Dx K H (.ref ra) (rowBs row) := .tup hra (dx_ints row)
    refine ⟨_, rfl, _, rfl, _, rfl, _, rfl, p, it, l, g, cnt, lg, is, rs, xs, pss, gs, .ref ra, rowBs row, rfl, A.ma, A.hl, A.dl, A.pl, A.hg, A.en, A.len, A.dc, A.few, drow, (fun ds e => by cases e; rw [List.length_map]; omega), fun H1 s1 => ?_⟩
    rw [isOv_row' hb]
    have A1 := A.same s1
    refine ⟨_, rfl, ?_⟩
    by_cases ov : ovB is row pss gs = true
    · rw [ov]
      refine iteF ⟨_, rfl, _, rfl, _, rfl, fun m dx nm ndx hne => ?_⟩
      have s4 : Same H1 (upd (upd H1 dx (.own m)) m (.ins Cg dx [])) := fun b o e => by
        rw [upd_ne (ne_of_none e nm), upd_ne (ne_of_none e ndx)]
        exact e
      have A2 := A1.same s4
      refine ⟨m, p, l, g, dx, it, cnt, lg, is, rs, xs, pss, gs, rfl, upd_same, A2.ma, A2.hl, A2.dl, A2.pl, A2.hg, A.en, A.len, by have := A.few; omega, fun H3 ss d GA kp => ⟨rfl, ?_⟩⟩
      have s3 : Same H1 H3 := fun b o e => kp b o (s4 b o e) (ne_of_none e nm)
      have s03 := s1.trans s3
      obtain ⟨dx', D, U, us, hm, _⟩ := GA.ob
      refine ⟨_, rfl, m, dx', _, rfl, hm, gf2_no _ _ (by decide +kernel), _, rfl, ra, _, rfl, .inr (s03.tup hra), m, row.length, cnt, stepS is pss gs, first0 gs, finS pss gs, ss, d, (by show [V.ref m, V.int ((row.map V.int).length : Int)] = [V.ref m, V.int (row.length : Int)]; rw [List.length_map]), GA, by omega, fun H4 Lv as s34 nLv hLv al all => ?_⟩
      have GA4 := GA.same s34
      have hm4 := s34 _ _ hm
      have s04 := s03.trans s34
      have hrow : Bf.runB (stepS is pss gs) (first0 gs) row = some (finS pss gs) := by
        rw [run_row A.len A.en.asc row.length row (Nat.le_refl _)]
        exact (ov_state A.ma.ok A.pl A.en A.len).mp ov
      generalize stepS is pss gs = step at *
      generalize finS pss gs = sf at *
      generalize hf0 : first0 gs = s0 at *
      refine ⟨_, rfl, ra, _, rfl, s04.tup hra, for_it (walk_enumT (K := K) (a := ra) (xs := row.map V.int) rfl) (fun i σ G => ∃ (n k : Nat) (s : Sta) (y8 y9 y10 y11 : Option V), σ = [some (.ref p), some (.ref l), some (.ref g), some (.ref ra), some (.ref m), some (.ref Lv), some (.int (n : Int)), some (.int (k : Int)), y8, y9, y10, y11, none, none] ∧ Same H4 G ∧ ss[k]? = some s ∧ Bf.runB step s (row.drop i) = some sf ∧ n + Ct.rank step sf cnt (row.drop i) s = Ct.rank step sf cnt row s0)
        ⟨0, 0, s0, _, _, _, _, rfl, Same.refl _, GA.fst, hrow, Nat.zero_add _⟩ (fun i σ G _ ⟨_, _, _, _, _, _, _, _, sG, _⟩ => (s04.trans sG).tup hra) ?_ ?_⟩
      · rintro i x σ G G' hi ⟨n, k, s, y8, y9, y10, y11, rfl, sG, hs, hrun, hn⟩ ⟨U, x2, rfl, nU, rfl, f2⟩
        rw [List.getElem?_map] at f2
        obtain ⟨b, hbi, rfl⟩ := Option.map_eq_some_iff.mp f2
        have il : i < row.length := (List.getElem?_eq_some_iff.mp hbi).1
        have ed : row.drop i = b :: row.drop (i + 1) := by
          rw [List.drop_eq_getElem_cons il]
          rw [List.getElem?_eq_getElem il] at hbi
          rw [Option.some.inj hbi]
        have lr : (row.drop (i + 1)).length = row.length - i - 1 := by rw [List.length_drop]; omega
        rw [ed, Ct.runB_cons] at hrun
        rw [ed] at hn
        have bb := hb b (List.mem_of_getElem? hbi)
        have hbr : Bf.Byt cnt (row.drop (i + 1)) := fun c hc => hb c (List.mem_of_mem_drop hc)
        obtain ⟨t, ht, hrun2⟩ : ∃ t, step s b = some t ∧ Bf.runB step t (row.drop (i + 1)) = some sf := by
          cases q : step s b with
          | none => rw [q] at hrun; cases hrun
          | some t => rw [q] at hrun; exact ⟨t, rfl, hrun⟩
        rw [rank_cons ht] at hn
        obtain ⟨a, ha⟩ : ∃ a, as[row.length - i - 1]? = some a := ⟨as[row.length - i - 1]'(by omega), List.getElem?_eq_getElem _⟩
        have hlv := all _ a ha
        have hU : upd G U (.tup [V.int (i : Int), V.int b]) U = some (.tup [V.int (i : Int), V.int b]) := upd_same
        have sU := same_upd (o := HO.tup [V.int (i : Int), V.int b]) nU
        have sG1 := sG.trans sU
        generalize upd G U (.tup [V.int (i : Int), V.int b]) = G1 at *
        refine ⟨U, _, rfl, SqT.of hU, rfl, _, _, rfl, _, _, rfl, rfl, ?_⟩
        have at1 : atI (as.map V.ref) (((row.map V.int).length : Int) - (i : Int) - 1) = some (.ref a) := by
          rw [List.length_map, show ((row.length : Int) - (i : Int) - 1) = ((row.length - i - 1 : Nat) : Int) by omega]
          exact atI_nat (by rw [List.getElem?_map, ha]; rfl)
        refine ⟨_, rfl, _, rfl, ra, _, rfl, .inr ((s04.trans sG1).tup hra), _, rfl, _, _, rfl, rfl, _, _, rfl, rfl, Lv, _, _, V.ref a, rfl, rfl, SqL.of (sG1 _ _ hLv), at1, ?_⟩
        refine ⟨_, rfl, m, dx', _, rfl, sG1 _ _ hm4, gf2_no _ _ (by decide +kernel), _, rfl, m, k, cnt, step, s0, sf, ss, d, s, rfl, GA4.same sG1, hs, fun G2 Lm us2 pr s2 nLm hLm PA asc pm => ?_⟩
        have few : pr.length ≤ 256 := by
          have h1 := Bf.nodup_le (pr.map fun p => p.1) (Bf.rng cnt) (show (pr.map fun p => p.1).Nodup from asc.imp fun h => by omega) fun x hx => by
            obtain ⟨p', hp', rfl⟩ := List.mem_map.mp hx
            obtain ⟨q', hq', e⟩ := List.mem_map.mp (pm.mem_iff.mp (List.mem_map.mpr ⟨p', hp', rfl⟩))
            obtain ⟨l', hl', hq2⟩ := List.mem_flatten.mp hq'
            obtain ⟨z, hz, rfl⟩ := List.mem_map.mp hl'
            obtain ⟨b', hb', rfl⟩ := List.mem_map.mp hq2
            obtain ⟨j', hj'⟩ := List.mem_iff_getElem?.mp (List.mem_filter.mp hz).1
            rw [(grp_at (t := z.1) (bs := z.2) hj').2] at hb'
            have e1 : b' = p'.1 := congrArg (fun z : Int × Option Sta => z.1) e
            rw [← e1]
            exact (Bf.leads_mem.mp hb').1
          have h2 : (Bf.rng cnt).length = cnt := by unfold Bf.rng; simp
          have c2 := GA.c256
          rw [List.length_map] at h1
          omega
        have sG2 := sG1.trans s2
        have hlv2 := sG2 _ _ hlv
        refine ⟨_, rfl, _, rfl, Lm, rfl, ⟨_, SqL.of hLm⟩, fun D' nD' => lc_list (K := K) (a := Lm) (xs := us2) (fun j G => Mk G2 G D' (((pr.take j).filter fun p => decide (p.1 < b)).map fun p => nV (numAt step sf cnt (row.length - i - 1) ss[p.2]?))) (.start nD') (fun j G _ m3 => SqL.of (m3.same _ _ hLm)) ?_ ?_⟩
        · intro j y G3 hy m3
          obtain ⟨⟨b', k'⟩, hp⟩ : ∃ p, pr[j]? = some p := ⟨pr[j]'(by rw [← PA.1]; exact (List.getElem?_eq_some_iff.mp hy).1), List.getElem?_eq_getElem _⟩
          obtain ⟨U', h1, h2⟩ := PA.2 j b' k' hp
          rw [hy] at h1
          cases h1
          have hk' : ∃ t', ss[k']? = some t' := by
            obtain ⟨q', hq', e⟩ := List.mem_map.mp (pm.mem_iff.mp (List.mem_map.mpr ⟨(b', k'), List.mem_of_getElem? hp, rfl⟩))
            exact ⟨q'.2, (congrArg (fun z : Int × Option Sta => z.2) e).symm⟩
          obtain ⟨t', ht'⟩ := hk'
          refine ⟨U', _, rfl, SqT.of (m3.same _ _ h2), rfl, _, _, rfl, _, _, rfl, rfl, rfl, _, rfl, _, rfl, _, _, rfl, rfl, _, rfl, ?_⟩
          rw [take_more hp, List.filter_append]
          by_cases lt : b' < b
          · rw [decide_eq_true lt]
            refine iteT ⟨_, rfl, _, rfl, a, _, _, nV (Ct.num step sf cnt (row.length - i - 1) t'), rfl, rfl, SqL.of (m3.same _ _ hlv2), atI_nat (by unfold lvV; rw [List.getElem?_map, ht']; rfl), _, m3.at_, ?_, ?_⟩
            · rw [List.length_map, sizeLine_eq]
              have h3 := List.length_filter_le (fun p : Int × Nat => decide (p.1 < b)) (pr.take j)
              rw [List.length_take] at h3
              omega
            · rw [List.map_append]
              have e : (([(b', k')] : List (Int × Nat)).filter fun p => decide (p.1 < b)).map (fun p => nV (numAt step sf cnt (row.length - i - 1) ss[p.2]?)) = [nV (Ct.num step sf cnt (row.length - i - 1) t')] := by
                rw [List.filter_cons, if_pos (decide_eq_true lt)]
                show [nV (numAt step sf cnt (row.length - i - 1) ss[k']?)] = _
                rw [ht']
                rfl
              rw [e]
              exact m3.put (Same.refl _)
          · rw [decide_eq_false lt]
            refine iteF ?_
            have e : (([(b', k')] : List (Int × Nat)).filter fun p => decide (p.1 < b)) = [] := by
              rw [List.filter_cons, if_neg (by simp [lt])]
              rfl
            rw [e, List.append_nil]
            exact m3
        intro G3 m3
        rw [PA.1, List.take_length] at m3
        have hsm : s ∈ ss := List.mem_of_getElem? hs
        have ls := less_sum GA.ds GA.nd GA.cl hsm pm b (row.length - i - 1)
        rw [lr] at hn
        have hsum : (((pr.filter fun p => decide (p.1 < b)).map fun p => ((numAt step sf cnt (row.length - i - 1) ss[p.2]? : Nat) : Int))).sum = (((((Bf.rng cnt).filter fun b' => decide (b' < b)).map (Ct.at' (step s) fun _ t => Ct.num step sf cnt (row.length - i - 1) t)).sum : Nat) : Int) := by
          rw [sum_int, ls]
        obtain ⟨k2, hk2, hs2⟩ := move_in GA.ds GA.nd GA.cl hsm pm (Bf.rng_mem.mpr bb) ht (run_num (row.drop (i + 1)) t hbr hrun2)
        obtain ⟨ps, eps⟩ := all_refs (us := us2) fun x hx => by
          obtain ⟨j, hj⟩ := List.mem_iff_getElem?.mp hx
          obtain ⟨⟨b', k'⟩, hp⟩ : ∃ p, pr[j]? = some p := ⟨pr[j]'(by rw [← PA.1]; exact (List.getElem?_eq_some_iff.mp hj).1), List.getElem?_eq_getElem _⟩
          obtain ⟨U', h1, _⟩ := PA.2 j b' k' hp
          rw [hj] at h1
          exact ⟨U', Option.some.inj h1⟩
        refine ⟨D', (pr.filter fun p => decide (p.1 < b)).map fun p => ((numAt step sf cnt (row.length - i - 1) ss[p.2]? : Nat) : Int), rfl, SqL.of (by rw [List.map_map]; exact m3.at_), _, _, rfl, rfl, ?_⟩
        refine ⟨_, rfl, Lm, ps, pr.map fun p => ((Sum.inl p.1 : Key), V.int (p.2 : Int)), rfl, SqL.of (by rw [← eps]; exact m3.same _ _ hLm), pair_at ?_ ?_, fun dk ndk => ⟨_, rfl, dk, V.int (k2 : Int), rfl, ?_, ?_⟩⟩
        · rw [List.length_map, ← PA.1, eps, List.length_map]
        · intro j a' kv h1 h2
          rw [List.getElem?_map] at h2
          obtain ⟨⟨b', k'⟩, hp, rfl⟩ := Option.map_eq_some_iff.mp h2
          obtain ⟨U', h3, h4⟩ := PA.2 j b' k' hp
          rw [eps, List.getElem?_map, h1] at h3
          cases h3
          exact SqT.of (m3.same _ _ h4)
        · have dg := DGet.k (k := Sum.inl b) (@upd_same G3 dk (HO.dK (mergeK [] (pr.map fun p => ((Sum.inl p.1 : Key), V.int (p.2 : Int))))))
          rw [valM_mem _ [] (Sum.inl b) (V.int (k2 : Int)) ?_ (List.mem_map.mpr ⟨(b, k2), hk2, rfl⟩)] at dg
          · exact dg
          · rw [List.map_map]
            have h1 : (pr.map fun p => p.1).Pairwise (· < ·) := asc
            have h2 := List.pairwise_map.mp h1
            exact List.pairwise_map.mpr (h2.imp fun {x y} h e => by
              have e' : x.1 = y.1 := Sum.inl.inj e
              omega)
        · rw [hsum]
          refine ⟨n + (((Bf.rng cnt).filter fun b' => decide (b' < b)).map (Ct.at' (step s) fun _ t => Ct.num step sf cnt (row.length - i - 1) t)).sum, k2, t, _, _, _, _, rfl, (sG2.trans m3.same).trans (same_upd ndk), hs2, hrun2, by omega⟩
      · rintro σ G ⟨n, k, s, y8, y9, y10, y11, rfl, sG, hs, hrun, hn⟩
        rw [List.length_map, List.drop_length] at hn
        have e0 : Ct.rank step sf cnt [] s = 0 := rfl
        refine ⟨_, rfl, q G _ (s04.trans sG) ?_⟩
        rw [if_pos ov, ← hn, e0]
        rfl
    · have ov' : ovB is row pss gs = false := by cases z : ovB is row pss gs; rfl; exact absurd z ov
      rw [ov']
      exact iteT (q H1 .non s1 (by rw [if_neg ov]))
end
end Ov
namespace Ov
open PySem PySem.Spec PyProof.Rows L2
theorem filt_take : ∀ {pr : List (Int × Nat)} {j : Nat} {b : Int} {k : Nat}, (pr.map fun p => p.1).Pairwise (· < ·) → pr[j]? = some (b, k) → (pr.filter fun p => decide (p.1 < b)) = pr.take j
  | [], j, b, k, _, h => by simp at h
  | p :: pr, 0, b, k, asc, h => by
    cases h
    rw [List.map_cons, List.pairwise_cons] at asc
    rw [List.take_zero]
    refine List.filter_eq_nil_iff.mpr fun q hq => ?_
    rcases List.mem_cons.mp hq with rfl | hq
    · simp
    · have := asc.1 q.1 (List.mem_map.mpr ⟨q, hq, rfl⟩)
      show ¬ decide (q.1 < b) = true
      rw [decide_eq_true_eq]
      show ¬ q.1 < b
      have t : b < q.1 := this
      omega
  | p :: pr, j + 1, b, k, asc, h => by
    rw [List.map_cons, List.pairwise_cons] at asc
    rw [List.getElem?_cons_succ] at h
    have := asc.1 b (List.mem_map.mpr ⟨(b, k), List.mem_of_getElem? h, rfl⟩)
    rw [List.filter_cons, if_pos (decide_eq_true this), List.take_succ_cons, filt_take asc.2 h]
section
variable {step : Sta → Int → Option Sta} {sf : Sta} {cnt : Nat} {ss : List Sta} {d : List (Option Nat)}
theorem pair_mv {s : Sta} {pr : List (Int × Nat)} (pm : (pr.map fun p => (p.1, ss[p.2]?)).Perm ((flatG ss d (Bf.grp (step s) (Bf.rng cnt))).map fun q => (q.1, some q.2))) {p : Int × Nat} (hp : p ∈ pr) : p.1 ∈ Bf.rng cnt ∧ ∃ t, ss[p.2]? = some t ∧ step s p.1 = some t := by
  obtain ⟨q', hq', e⟩ := List.mem_map.mp (pm.mem_iff.mp (List.mem_map.mpr ⟨p, hp, rfl⟩))
  obtain ⟨l', hl', hq2⟩ := List.mem_flatten.mp hq'
  obtain ⟨z, hz, rfl⟩ := List.mem_map.mp hl'
  obtain ⟨b', hb', rfl⟩ := List.mem_map.mp hq2
  obtain ⟨j', hj'⟩ := List.mem_iff_getElem?.mp (List.mem_filter.mp hz).1
  rw [(grp_at (t := z.1) (bs := z.2) hj').2] at hb'
  have e1 : b' = p.1 := congrArg (fun z : Int × Option Sta => z.1) e
  have e2 : some z.1 = ss[p.2]? := congrArg (fun z : Int × Option Sta => z.2) e
  have lm := Bf.leads_mem.mp hb'
  rw [← e1]
  exact ⟨lm.1, z.1, e2.symm, lm.2⟩
/-- all moves of a state together -/
theorem all_sum (D : Ct.Dsts step sf cnt ss d) (nd : ss.Nodup) (cl : ∀ s ∈ ss, ∀ t, Ct.Edge step cnt s t → t ∈ ss) {s : Sta} (hs : s ∈ ss) {pr : List (Int × Nat)} (pm : (pr.map fun p => (p.1, ss[p.2]?)).Perm ((flatG ss d (Bf.grp (step s) (Bf.rng cnt))).map fun q => (q.1, some q.2))) (n : Nat) :
    (pr.map fun p => numAt step sf cnt n ss[p.2]?).sum = Ct.num step sf cnt (n + 1) s := by
  have h := less_sum D nd cl hs pm (cnt : Int) n
  have e1 : (pr.filter fun p => decide (p.1 < (cnt : Int))) = pr := List.filter_eq_self.mpr fun p hp => by
    have := (Bf.rng_mem.mp (pair_mv pm hp).1).2
    exact decide_eq_true this
  have e2 : ((Bf.rng cnt).filter fun b' => decide (b' < (cnt : Int))) = Bf.rng cnt := List.filter_eq_self.mpr fun b hb => by
    have := (Bf.rng_mem.mp hb).2
    exact decide_eq_true this
  rw [e1, e2] at h
  exact h
/-- the part of a number that stands ahead of a move -/
theorem take_sum (D : Ct.Dsts step sf cnt ss d) (nd : ss.Nodup) (cl : ∀ s ∈ ss, ∀ t, Ct.Edge step cnt s t → t ∈ ss) {s : Sta} (hs : s ∈ ss) {pr : List (Int × Nat)} (pm : (pr.map fun p => (p.1, ss[p.2]?)).Perm ((flatG ss d (Bf.grp (step s) (Bf.rng cnt))).map fun q => (q.1, some q.2))) (asc : (pr.map fun p => p.1).Pairwise (· < ·)) {j k : Nat} {b : Int} (hj : pr[j]? = some (b, k)) (n : Nat) :
    ((pr.take j).map fun p => numAt step sf cnt n ss[p.2]?).sum = (((Bf.rng cnt).filter fun b' => decide (b' < b)).map (Ct.at' (step s) fun _ t => Ct.num step sf cnt n t)).sum := by
  rw [← less_sum D nd cl hs pm b n, filt_take asc hj]
end
end Ov
namespace Ov
open PySem PySem.Spec PyProof.Rows L2
section
variable {P : Program} {w : World} {K : PySem.W.Frag} {mg : Str → Option Value} {base : Heap}
def spCount (K : PySem.W.Frag) (C Cm Cg : Addr) : Sp := fun vs H Q _ => ∃ (p l g cnt lg n : Nat) (it : Addr) (is : List I4) (rs : List Addr) (xs : List V) (pss : List (List PStep)) (gs : List Nat), vs = [.ref p, .ref l, .ref g, .int (n : Int)] ∧ Asked K C H p l g cnt lg it is rs xs pss gs ∧ n ≤ 2000 ∧
  ∀ H', Same H H' → Q (nV (Ct.num (stepS is pss gs) (finS pss gs) cnt n (first0 gs))) H'
abbrev nCount : List Str := ["instruction_set", "programs", "entries", "length", "graph", "level", "left"]
theorem scCount : FnScope nCount ["instruction_set", "programs", "entries", "length"] (defScope s_overlay_count) := ⟨rfl, rfl, rfl, by decide +kernel, rfl, by decide +kernel, by decide +kernel⟩
theorem ok_count {f C Cm Cg fOverlaygraph fCkO fGrLb fGrLl : Addr} {fd fdOverlaygraph fdCkO fdGrLb fdGrLl : FuncData} {k : Nat} (F : Fun K "overlay_count" "overlay_count" s_overlay_count f fd) (T : Bi mg) (S : SetTxt K mg C) (Sm : MacTxt K mg Cm) (Sg : GrTxt K mg Cg) (MOverlaygraph : L2.Mk K Cg fOverlaygraph) (bOverlaygraph : Binds K fdOverlaygraph ["self", "instruction_set", "programs", "entries"] []) (GOverlaygraph : FnOk P w K mg base CX0 k fOverlaygraph fdOverlaygraph ["self", "instruction_set", "programs", "entries"] (spInitG K C Cm Cg)) (CkO : Def K mg "check_overlay" s_check_overlay fCkO fdCkO ["instruction_set", "programs", "entries"]) (GCkO : FnOk P w K mg base CX0 (k + 1) fCkO fdCkO ["instruction_set", "programs", "entries"] (spCkO K C)) (MGrLb : Meth K Cg "level_before" fGrLb) (bGrLb : Binds K fdGrLb ["self", "level"] []) (GGrLb : FnOk P w K mg base CX0 (k + 1) fGrLb fdGrLb ["self", "level"] (spLevelB K Cg)) (MGrLl : Meth K Cg "last_level" fGrLl) (bGrLl : Binds K fdGrLl ["self"] []) (GGrLl : FnOk P w K mg base CX0 (k + 1) fGrLl fdGrLl ["self"] (spLastL K Cg)) :
    FnOk P w K mg base CX0 (k + 2) f fd ["instruction_set", "programs", "entries", "length"] (spCount K C Cm Cg) := by
  refine F.ok scCount (fun vs H Q E h => ?_) (fun cdv A' outer s H vs Q E hr h => ?_)
  · obtain ⟨p, l, g, cnt, lg, n, it, is, rs, xs, pss, gs, rfl, _⟩ := h
    rfl
  · obtain ⟨p, l, g, cnt, lg, n, it, is, rs, xs, pss, gs, rfl, A, n4, q⟩ := h
    refine ⟨_, pss_cons (ps_expr (pe_call GCkO hr (by rfl) CkO.gl CkO.fn.kp CkO.bi .nil pass0 (pa_cons (pv 0) (pa_cons (pv 1) (pa_cons (pv 2) pa_nil)))))
      (pss_cons (ps_set (i := 4) scCount.nd rfl (.inl rfl) (pe_make MOverlaygraph GOverlaygraph hr (by rfl) Sg.mgC bOverlaygraph .nil pass0 (pa_cons (pv 0) (pa_cons (pv 1) (pa_cons (pv 2) pa_nil)))))
      (pss_cons (ps_set (i := 5) scCount.nd rfl (.inl rfl) (pe_meth0 (pv 4) Sg.cl MGrLl GGrLl hr bGrLl .nil pass0))
      (pss_cons (ps_for PassesOwn.never rfl (pi_range1 (by rfl) T.range (pa_cons (pv 3) pa_nil)) (pg_name (i := 6) scCount.nd rfl (.inl rfl)) (pss_one (ps_set (i := 5) scCount.nd rfl (.inl rfl) (pe_meth (pv 4) Sg.cl MGrLb GGrLb hr bGrLb .nil pass0 (pa_cons (pv 5) pa_nil)))))
      (pss_one (ps_ret (pe_ix ix_list (pv 5) pe_int (fun _ _ => rfl))))))), ?_⟩
    refine ⟨_, rfl, _, rfl, _, rfl, p, it, l, g, cnt, lg, is, rs, xs, pss, gs, rfl, A.ma, A.hl, A.dl, A.pl, A.hg, A.en, A.len, A.dc, A.few, fun H1 s1 => ?_⟩
    have A1 := A.same s1
    refine ⟨_, rfl, _, rfl, _, rfl, fun m dx nm ndx hne => ?_⟩
    have s4 : Same H1 (upd (upd H1 dx (.own m)) m (.ins Cg dx [])) := fun b o e => by
      rw [upd_ne (ne_of_none e nm), upd_ne (ne_of_none e ndx)]
      exact e
    have A2 := A1.same s4
    refine ⟨m, p, l, g, dx, it, cnt, lg, is, rs, xs, pss, gs, rfl, upd_same, A2.ma, A2.hl, A2.dl, A2.pl, A2.hg, A.en, A.len, by have := A.few; omega, fun H3 ss d GA kp => ⟨rfl, ?_⟩⟩
    have s3 : Same H1 H3 := fun b o e => kp b o (s4 b o e) (ne_of_none e nm)
    have s03 := s1.trans s3
    obtain ⟨dx', D, U, us, hm, _⟩ := GA.ob
    have no : (gf2 D U).lookup ("last_level" : Str) = none := gf2_no _ _ (by decide +kernel)
    have no2 : (gf2 D U).lookup ("level_before" : Str) = none := gf2_no _ _ (by decide +kernel)
    refine ⟨_, rfl, m, dx', _, rfl, hm, no, m, cnt, stepS is pss gs, first0 gs, finS pss gs, ss, d, rfl, GA, fun H4 Lv s34 nLv hLv => ?_⟩
    generalize stepS is pss gs = step at *
    generalize finS pss gs = sf at *
    generalize hf0 : first0 gs = s0 at *
    refine ⟨_, rfl, (n : Int), rfl, by omega, by omega, for_range (lo := 0) (n := n) (fun i σ G => ∃ (Lc : Addr) (y6 : Option V), σ = [some (.ref p), some (.ref l), some (.ref g), some (.int (n : Int)), some (.ref m), some (.ref Lc), y6] ∧ Same H3 G ∧ G Lc = some (.lst (lvV step sf cnt i ss))) ⟨Lv, _, rfl, s34, hLv⟩ ?_ ?_⟩
    · rintro i σ G hi ⟨Lc, y6, rfl, sG, hL⟩
      exact ⟨_, rfl, m, dx', _, rfl, sG _ _ hm, no2, _, rfl, m, Lc, cnt, i, step, s0, sf, ss, d, rfl, GA.same sG, hL, by omega, fun G2 b s2 nb hb => ⟨b, _, rfl, sG.trans s2, hb⟩⟩
    · rintro σ G ⟨Lc, y6, rfl, sG, hL⟩
      refine ⟨_, rfl, Lc, _, _, nV (Ct.num step sf cnt n s0), rfl, rfl, SqL.of hL, atI_nat (j := 0) ?_, q G (s03.trans sG)⟩
      unfold lvV
      rw [List.getElem?_map, GA.fst]
      rfl
end
end Ov
namespace Ov
open PySem PySem.Spec PyProof.Rows L2
section
variable {P : Program} {w : World} {K : PySem.W.Frag} {mg : Str → Option Value} {base : Heap}
/-- the item that the number falls into -/
def spChosen (K : PySem.W.Frag) : Sp := fun vs H Q _ => ∃ (L lv : Addr) (num : Nat) (us : List V) (pr : List (Int × Nat)) (f : Nat → Nat) (lvs : List V), vs = [.ref L, .ref lv, .int (num : Int)] ∧ H L = some (.lst us) ∧ PairsAt H us pr ∧ H lv = some (.lst lvs) ∧ (∀ p ∈ pr, lvs[p.2]? = some (nV (f p.2))) ∧ num < (pr.map fun p => f p.2).sum ∧
  ∀ H' U j b k r, Same H H' → pr[j]? = some (b, k) → num = ((pr.take j).map fun p => f p.2).sum + r → r < f k → H' U = some (.tup [.int b, .int ((k : Nat) : Int), .int ((r : Nat) : Int)]) → Q (.ref U) H'
abbrev nChosen : List Str := ["moves", "level", "number", "at", "byte", "target"]
theorem scChosen : FnScope nChosen ["moves", "level", "number"] (defScope s_chosen_move) := ⟨rfl, rfl, rfl, by decide +kernel, rfl, by decide +kernel, by decide +kernel⟩
theorem ok_chosen {f : Addr} {fd : FuncData} {k : Nat} (F : Fun K "chosen_move" "chosen_move" s_chosen_move f fd) (T : Bi mg) :
    FnOk P w K mg base CX0 (k + 1) f fd ["moves", "level", "number"] (spChosen K) := by
  refine F.ok scChosen (fun vs H Q E h => ?_) (fun cdv A' outer s H vs Q E hr h => ?_)
  · obtain ⟨L, lv, num, us, pr, f, lvs, rfl, _⟩ := h
    rfl
  · obtain ⟨L, lv, num, us, pr, f, lvs, rfl, hL, PA, hlv, al, lt, q⟩ := h
    refine ⟨_, pss_cons (ps_set (i := 3) scChosen.nd rfl (.inl rfl) pe_int)
      (pss_cons (ps_while PassesOwn.never (pt_cmpR op_ge (pv 2) (pe_ix ix_list (pv 1) (pe_ix ix_tup (pe_ix ix_list (pv 0) (pv 3) (fun _ _ => rfl)) pe_int (fun _ _ => rfl)) (fun _ _ => rfl)) (nomark _)) (pss_cons (ps_aug (i := 2) scChosen.nd rfl (.inl rfl) (pe_ix ix_list (pv 1) (pe_ix ix_tup (pe_ix ix_list (pv 0) (pv 3) (fun _ _ => rfl)) pe_int (fun _ _ => rfl)) (fun _ _ => rfl)) ip_sub)
      (pss_one (ps_aug (i := 3) scChosen.nd rfl (.inl rfl) pe_int ip_add))))
      (pss_cons (ps_asg (pe_ix ix_list (pv 0) (pv 3) (fun _ _ => rfl)) (pg_tup rfl (pgs_cons (pg_name (i := 4) scChosen.nd rfl (.inl rfl)) (pgs_cons (pg_name (i := 5) scChosen.nd rfl (.inl rfl)) pgs_nil))))
      (pss_one (ps_ret (pe_tup (pa_cons (pv 4) (pa_cons (pv 5) (pa_cons (pv 2) pa_nil)))))))), ?_⟩
    refine ⟨fun i σ G => ∃ (at_ r : Nat) (y4 y5 : Option V), σ = [some (.ref L), some (.ref lv), some (.int (r : Int)), some (.int (at_ : Int)), y4, y5] ∧ Same H G ∧ i + at_ = pr.length ∧ num = ((pr.take at_).map fun p => f p.2).sum + r,
      ⟨pr.length, 0, num, none, none, rfl, Same.refl _, by omega, by simp⟩, ?_⟩
    rintro i σ G ⟨at_, r, y4, y5, rfl, sG, ei, en⟩
    have il : at_ < pr.length := by
      rcases Nat.lt_or_ge at_ pr.length with h | h
      · exact h
      · rw [List.take_of_length_le h] at en; omega
    obtain ⟨⟨b, k⟩, hp⟩ : ∃ p, pr[at_]? = some p := ⟨_, List.getElem?_eq_getElem il⟩
    obtain ⟨U, h1, h2⟩ := PA.2 at_ b k hp
    have hk := al _ (List.mem_of_getElem? hp)
    have at1 : atI us ((at_ : Nat) : Int) = some (.ref U) := atI_nat h1
    have at2 : atI [V.int b, V.int (k : Int)] 1 = some (.int (k : Int)) := atI_nat (j := 1) rfl
    have at3 : atI lvs ((k : Nat) : Int) = some (nV (f k)) := atI_nat hk
    have hU := sG _ _ h2
    refine ⟨_, rfl, _, rfl, _, rfl, _, rfl, L, _, _, _, rfl, rfl, SqL.of (sG _ _ hL), at1, U, _, _, _, rfl, rfl, SqT.of hU, at2, lv, _, _, _, rfl, rfl, SqL.of (sG _ _ hlv), at3, _, _, rfl, rfl, _, rfl, ?_⟩
    by_cases ge : f k ≤ r
    · rw [decide_eq_true (show ((f k : Nat) : Int) ≤ (r : Int) by omega)]
      refine iteT ⟨fun σ' G' => ∃ j, j < i ∧ ∃ (at_ r : Nat) (y4 y5 : Option V), σ' = [some (.ref L), some (.ref lv), some (.int (r : Int)), some (.int (at_ : Int)), y4, y5] ∧ Same H G' ∧ j + at_ = pr.length ∧ num = ((pr.take at_).map fun p => f p.2).sum + r, (fun σ' G' ⟨j, hj, w⟩ => ⟨j, hj, w⟩), ?_⟩
      refine ⟨_, rfl, _, rfl, _, rfl, _, rfl, L, _, _, _, rfl, rfl, SqL.of (sG _ _ hL), at1, U, _, _, _, rfl, rfl, SqT.of hU, at2, lv, _, _, _, rfl, rfl, SqL.of (sG _ _ hlv), at3, _, _, rfl, rfl, _, rfl, _, _, rfl, rfl, i - 1, by omega, at_ + 1, r - f k, y4, y5, ?_, sG, by omega, ?_⟩
      · rw [show (((r - f k : Nat)) : Int) = (r : Int) - ((f k : Nat) : Int) by omega]
        rfl
      · rw [take_more hp, List.map_append, List.sum_append]
        show num = _ + (f k + 0) + _
        omega
    · rw [decide_eq_false (show ¬ ((f k : Nat) : Int) ≤ (r : Int) by omega)]
      refine iteF ⟨_, rfl, _, rfl, L, _, _, _, rfl, rfl, SqL.of (sG _ _ hL), at1, U, _, rfl, SqT.of hU, rfl, _, _, rfl, _, _, rfl, rfl, _, rfl, _, rfl, _, rfl, by show 3 ≤ sizeLine; decide, fun u nu => q _ u at_ b k r (sG.trans (same_upd nu)) hp en (by omega) upd_same⟩
def spAt (K : PySem.W.Frag) (C Cm Cg : Addr) : Sp := fun vs H Q _ => ∃ (p l g cnt lg n num : Nat) (it : Addr) (is : List I4) (rs : List Addr) (xs : List V) (pss : List (List PStep)) (gs : List Nat), vs = [.ref p, .ref l, .ref g, .int (n : Int), .int (num : Int)] ∧ Asked K C H p l g cnt lg it is rs xs pss gs ∧ n ≤ 2000 ∧ num < Ct.num (stepS is pss gs) (finS pss gs) cnt n (first0 gs) ∧
  ∀ H' r row, Same H H' → H' r = some (.tup (row.map V.int)) → row.length = n → Bf.Byt cnt row → Bf.runB (stepS is pss gs) (first0 gs) row = some (finS pss gs) → Ct.rank (stepS is pss gs) (finS pss gs) cnt row (first0 gs) = num → Q (.ref r) H'
abbrev nOvAt : List Str := ["instruction_set", "programs", "entries", "length", "number", "graph", "levels", "code", "state", "left", "byte"]
theorem scOvAt : FnScope nOvAt ["instruction_set", "programs", "entries", "length", "number"] (defScope s_overlay_at) := ⟨rfl, rfl, rfl, by decide +kernel, rfl, by decide +kernel, by decide +kernel⟩
theorem ok_ovAt {f C Cm Cg fChosenMove fBt fOverlaygraph fCkO fGrSm fGrLv : Addr} {fd fdChosenMove fdBt fdOverlaygraph fdCkO fdGrSm fdGrLv : FuncData} {k : Nat} (F : Fun K "overlay_at" "overlay_at" s_overlay_at f fd) (T : Bi mg) (S : SetTxt K mg C) (Sm : MacTxt K mg Cm) (Sg : GrTxt K mg Cg) (tRev : mg "reversed" = none) (ChosenMove : Def K mg "chosen_move" s_chosen_move fChosenMove fdChosenMove ["moves", "level", "number"]) (GChosenMove : FnOk P w K mg base CX0 (k + 1) fChosenMove fdChosenMove ["moves", "level", "number"] (spChosen K)) (Bt : Def K mg "is_integer_between" sBetween fBt fdBt ["value", "least", "most"]) (GBt : FnOk P w K mg base CX0 (k + 1) fBt fdBt ["value", "least", "most"] (spBetween)) (MOverlaygraph : L2.Mk K Cg fOverlaygraph) (bOverlaygraph : Binds K fdOverlaygraph ["self", "instruction_set", "programs", "entries"] []) (GOverlaygraph : FnOk P w K mg base CX0 k fOverlaygraph fdOverlaygraph ["self", "instruction_set", "programs", "entries"] (spInitG K C Cm Cg)) (CkO : Def K mg "check_overlay" s_check_overlay fCkO fdCkO ["instruction_set", "programs", "entries"]) (GCkO : FnOk P w K mg base CX0 (k + 1) fCkO fdCkO ["instruction_set", "programs", "entries"] (spCkO K C)) (MGrSm : Meth K Cg "sorted_moves" fGrSm) (bGrSm : Binds K fdGrSm ["self", "state"] []) (GGrSm : FnOk P w K mg base CX0 (k + 1) fGrSm fdGrSm ["self", "state"] (spSorted K Cg)) (MGrLv : Meth K Cg "levels" fGrLv) (bGrLv : Binds K fdGrLv ["self", "length"] []) (GGrLv : FnOk P w K mg base CX0 (k + 1) fGrLv fdGrLv ["self", "length"] (spLevels K Cg)) :
    FnOk P w K mg base CX0 (k + 2) f fd ["instruction_set", "programs", "entries", "length", "number"] (spAt K C Cm Cg) := by
  refine F.ok scOvAt (fun vs H Q E h => ?_) (fun cdv A' outer s H vs Q E hr h => ?_)
  · obtain ⟨p, l, g, cnt, lg, n, num, it, is, rs, xs, pss, gs, rfl, _⟩ := h
    rfl
  · obtain ⟨p, l, g, cnt, lg, n, num, it, is, rs, xs, pss, gs, rfl, A, n4, lt, q⟩ := h
    refine ⟨_, pss_cons (ps_expr (pe_call GCkO hr (by rfl) CkO.gl CkO.fn.kp CkO.bi .nil pass0 (pa_cons (pv 0) (pa_cons (pv 1) (pa_cons (pv 2) pa_nil)))))
      (pss_cons (ps_set (i := 5) scOvAt.nd rfl (.inl rfl) (pe_make MOverlaygraph GOverlaygraph hr (by rfl) Sg.mgC bOverlaygraph .nil pass0 (pa_cons (pv 0) (pa_cons (pv 1) (pa_cons (pv 2) pa_nil)))))
      (pss_cons (ps_set (i := 6) scOvAt.nd rfl (.inl rfl) (pe_meth (pv 5) Sg.cl MGrLv GGrLv hr bGrLv .nil pass0 (pa_cons (pv 3) pa_nil)))
      (pss_cons (ps_if (pt_not (pt_val (pe_call GBt hr (by rfl) Bt.gl Bt.fn.kp Bt.bi .nil pass0 (pa_cons (pv 4) (pa_cons pe_int (pa_cons (pe_op op_sub (pe_ix ix_list (pe_ix ix_list (pv 6) (pv 3) (fun _ _ => rfl)) pe_int (fun _ _ => rfl)) pe_int) pa_nil)))))) (pss_one ps_never) pss_nil)
      (pss_cons (ps_set (i := 7) scOvAt.nd rfl (.inl rfl) (pe_lst pa_nil))
      (pss_cons (ps_set (i := 8) scOvAt.nd rfl (.inl rfl) pe_int)
      (pss_cons (ps_for PassesOwn.never rfl (pi_revR (by rfl) tRev (prg_1 (by rfl) T.range (pv 3))) (pg_name (i := 9) scOvAt.nd rfl (.inl rfl)) (pss_cons (ps_asg (pe_call GChosenMove hr (by rfl) ChosenMove.gl ChosenMove.fn.kp ChosenMove.bi .nil pass0 (pa_cons (pe_meth (pv 5) Sg.cl MGrSm GGrSm hr bGrSm .nil pass0 (pa_cons (pv 8) pa_nil)) (pa_cons (pe_ix ix_list (pv 6) (pv 9) (fun _ _ => rfl)) (pa_cons (pv 4) pa_nil)))) (pg_tup rfl (pgs_cons (pg_name (i := 10) scOvAt.nd rfl (.inl rfl)) (pgs_cons (pg_name (i := 8) scOvAt.nd rfl (.inl rfl)) (pgs_cons (pg_name (i := 4) scOvAt.nd rfl (.inl rfl)) pgs_nil)))))
      (pss_one (ps_expr (pe_bm PySem.F.plainAttrs_list PySem.F.slot_list_append PySem.F.type_list_append mt_append (pv 7) (pa_cons (pv 10) pa_nil))))))
      (pss_one (ps_ret (pe_callTy call_tuple_of (by rfl) T.tuple (by decide +kernel) (pa_cons (pv 7) pa_nil)))))))))), ?_⟩
    refine ⟨_, rfl, _, rfl, _, rfl, p, it, l, g, cnt, lg, is, rs, xs, pss, gs, rfl, A.ma, A.hl, A.dl, A.pl, A.hg, A.en, A.len, A.dc, A.few, fun H1 s1 => ?_⟩
    have A1 := A.same s1
    refine ⟨_, rfl, _, rfl, _, rfl, fun m dx nm ndx hne => ?_⟩
    have s4 : Same H1 (upd (upd H1 dx (.own m)) m (.ins Cg dx [])) := fun b o e => by
      rw [upd_ne (ne_of_none e nm), upd_ne (ne_of_none e ndx)]
      exact e
    have A2 := A1.same s4
    refine ⟨m, p, l, g, dx, it, cnt, lg, is, rs, xs, pss, gs, rfl, upd_same, A2.ma, A2.hl, A2.dl, A2.pl, A2.hg, A.en, A.len, by have := A.few; omega, fun H3 ss d GA kp => ⟨rfl, ?_⟩⟩
    have s3 : Same H1 H3 := fun b o e => kp b o (s4 b o e) (ne_of_none e nm)
    have s03 := s1.trans s3
    obtain ⟨dx', D, U, us, hm, _⟩ := GA.ob
    have no : (gf2 D U).lookup ("levels" : Str) = none := gf2_no _ _ (by decide +kernel)
    have no2 : (gf2 D U).lookup ("sorted_moves" : Str) = none := gf2_no _ _ (by decide +kernel)
    refine ⟨_, rfl, m, dx', _, rfl, hm, no, _, rfl, m, n, cnt, stepS is pss gs, first0 gs, finS pss gs, ss, d, rfl, GA, n4, fun H4 Lv as s34 nLv hLv al all => ?_⟩
    generalize stepS is pss gs = step at *
    generalize finS pss gs = sf at *
    generalize hf0 : first0 gs = s0 at *
    have GA4 := GA.same s34
    have hm4 := s34 _ _ hm
    have s04 := s03.trans s34
    obtain ⟨aN, haN⟩ : ∃ a, as[n]? = some a := ⟨as[n]'(by omega), List.getElem?_eq_getElem _⟩
    have hlN := all n aN haN
    have at0 : atI (lvV step sf cnt n ss) 0 = some (nV (Ct.num step sf cnt n s0)) := atI_nat (j := 0) (by unfold lvV; rw [List.getElem?_map, GA.fst]; rfl)
    refine ⟨_, rfl, _, rfl, _, rfl, Lv, _, _, V.ref aN, rfl, rfl, SqL.of hLv, atI_nat (by rw [List.getElem?_map, haN]; rfl), aN, _, _, _, rfl, rfl, SqL.of hlN, at0, _, _, rfl, rfl, (num : Int), 0, ((Ct.num step sf cnt n s0 : Nat) : Int) - 1, rfl, by omega, by omega, ⟨_, rfl, iteF ?_⟩⟩
    refine ⟨Nat.zero_le _, fun L nL => ?_⟩
    have sL := same_upd (o := HO.lst []) nL
    have en : ((n : Int) - 0).toNat = n := by omega
    refine ⟨_, rfl, (n : Int), rfl, by decide, by decide, by omega, by omega, ?_⟩
    rw [en]
    refine for_rangeC (n := n) (fun i σ G => ∃ (pre : List Int) (num' k : Nat) (s : Sta) (y9 y10 : Option V), σ = [some (.ref p), some (.ref l), some (.ref g), some (.int (n : Int)), some (.int (num' : Int)), some (.ref m), some (.ref Lv), some (.ref L), some (.int (k : Int)), y9, y10] ∧ Same H4 G ∧ G L = some (.lst (pre.map V.int)) ∧ pre.length = i ∧ Bf.Byt cnt pre ∧ Bf.runB step s0 pre = some s ∧ ss[k]? = some s ∧ num' < Ct.num step sf cnt (n - i) s ∧ ∀ rest : List Int, rest.length = n - i → Ct.rank step sf cnt (pre ++ rest) s0 + num' = num + Ct.rank step sf cnt rest s)
      ⟨[], num, 0, s0, _, _, rfl, sL, upd_same, rfl, (fun b hb => nomatch hb), rfl, GA.fst, lt, fun rest _ => by rw [List.nil_append]; omega⟩ ?_ ?_
    · rintro i σ G hi ⟨pre, num', k, s, y9, y10, rfl, sG, hL, pl, pb, prun, hs, ltn, inv⟩
      have ev : (0 : Int) + ((n : Nat) : Int) - 1 + ((i : Nat) : Int) * (-1) = ((n - 1 - i : Nat) : Int) := by omega
      rw [ev]
      obtain ⟨a, ha⟩ : ∃ a, as[n - 1 - i]? = some a := ⟨as[n - 1 - i]'(by omega), List.getElem?_eq_getElem _⟩
      have hlv := all _ a ha
      have hsm : s ∈ ss := List.mem_of_getElem? hs
      have nn : n - i = (n - 1 - i) + 1 := by omega
      refine ⟨_, rfl, m, dx', _, rfl, sG _ _ hm4, no2, _, rfl, m, k, cnt, step, s0, sf, ss, d, s, rfl, GA4.same sG, hs, fun G2 Lm us2 pr s2 nLm hLm PA asc pm => ?_⟩
      have sG2 := sG.trans s2
      have fs : ∀ q ∈ pr, (lvV step sf cnt (n - 1 - i) ss)[q.2]? = some (nV (numAt step sf cnt (n - 1 - i) ss[q.2]?)) := fun q hq => by
        obtain ⟨_, t, ht, _⟩ := pair_mv pm hq
        unfold lvV
        rw [List.getElem?_map, ht]
        rfl
      refine ⟨_, rfl, _, rfl, Lv, _, _, V.ref a, rfl, rfl, SqL.of (sG2 _ _ hLv), atI_nat (by rw [List.getElem?_map, ha]; rfl), _, rfl, Lm, a, num', us2, pr, fun k => numAt step sf cnt (n - 1 - i) ss[k]?, _, rfl, hLm, PA, sG2 _ _ hlv, fs, ?_, fun G3 U3 j b k2 r s3' hj er rlt hU3 => ?_⟩
      · rw [all_sum GA.ds GA.nd GA.cl hsm pm, ← nn]
        exact ltn
      have sG3 := sG2.trans s3'
      obtain ⟨br, t, ht, hst⟩ := pair_mv pm (List.mem_of_getElem? hj)
      have hst : step s b = some t := hst
      have bb := Bf.rng_mem.mp br
      have ts := take_sum GA.ds GA.nd GA.cl hsm pm asc hj (n - 1 - i)
      refine ⟨U3, _, rfl, SqT.of hU3, rfl, _, _, rfl, _, _, rfl, _, _, rfl, rfl, ?_⟩
      refine ⟨_, rfl, .inl ⟨rfl, _, SqL.of (s3' _ _ (s2 _ _ hL))⟩, _, rfl, L, _, _, rfl, rfl, s3' _ _ (s2 _ _ hL), by rw [List.length_map, sizeLine_eq]; omega, pre ++ [b], r, k2, t, _, _, rfl, ?_, ?_, ?_, ?_, ?_, ht, ?_, ?_⟩
      · exact fun x o e => by
          by_cases z : x = L
          · subst z; exact absurd e (by rw [nL]; exact fun w => nomatch w)
          · rw [upd_ne z]; exact sG3 x o e
      · rw [upd_same, List.map_append]; rfl
      · rw [List.length_append, pl]; rfl
      · exact Bf.byt_snoc pb bb.1 bb.2
      · rw [Bf.runB_snoc, prun]; exact hst
      · rw [show n - (i + 1) = n - 1 - i by omega]
        have rlt : r < numAt step sf cnt (n - 1 - i) ss[k2]? := rlt
        rw [ht] at rlt
        exact rlt
      · intro rest lr
        have h := inv (b :: rest) (by rw [List.length_cons, lr]; omega)
        rw [rank_cons hst, lr, show n - (i + 1) = n - 1 - i by omega] at h
        rw [List.append_assoc]
        show Ct.rank step sf cnt (pre ++ b :: rest) s0 + r = _
        have er : num' = ((pr.take j).map fun p => numAt step sf cnt (n - 1 - i) ss[p.2]?).sum + r := er
        rw [ts] at er
        omega
    · rintro σ G ⟨pre, num', k, s, y9, y10, rfl, sG, hL, pl, pb, prun, hs, ltn, inv⟩
      have h := inv [] (by rw [Nat.sub_self]; rfl)
      rw [Nat.sub_self] at ltn
      have e0 : Ct.rank step sf cnt [] s = 0 := rfl
      rw [List.append_nil, e0] at h
      have ltn : num' < if s = sf then 1 else 0 := ltn
      by_cases es : s = sf
      · rw [if_pos es] at ltn
        subst es
        exact ⟨_, rfl, L, _, rfl, .inl ⟨SqL.of hL, fun r nr => q _ r pre (s04.trans (sG.trans (same_upd nr))) upd_same pl pb prun (by omega)⟩⟩
      · rw [if_neg es] at ltn
        exact absurd ltn (Nat.not_lt_zero _)
end
end Ov
namespace Ov
open PySem PySem.Spec PyProof.Rows L2
section
variable {n a b : Nat} {is : List I4} (hp : ∀ x : Int, padI is x = if (n : Int) = x then some ⟨n, [110], 1, true⟩ else none) (na : n ≠ a) (nb : n ≠ b) (ab : a ≠ b)
def iA (a : Nat) : I4 := ⟨a, [97], 1, false⟩
def iB (b : Nat) : I4 := ⟨b, [98], 2, false⟩
def iN (n : Nat) : I4 := ⟨n, [110], 1, true⟩
def pl59 (a b : Nat) : List (List PStep) := [[(iB b, [some (a : Int)])], [(iA a, [])]]
def s59 : Sta := (0, [some (0, false, 0), none])
def t59 : Sta := (1, [some (0, false, 1), some (0, false, 0)])
def u59 : Sta := (1, [some (0, false, 0), some (0, false, 0)])
def f59 : Sta := (1, [some (1, false, 0), some (1, false, 0)])
theorem pl59_eq : pl59 a b = [[(iB b, [some (a : Int)])], [(iA a, [])]] := rfl
include hp in
theorem dec_pad {ps : List PStep} {d : Nat} {x : Int} : decB is ps (d, false, 0) x = if (n : Int) = x then some (d, false, 0) else match ps[d]? with
    | some y => if (y.1.op : Int) = x then some (stepDec d y.2.length) else none
    | none => none := by
  unfold decB
  rw [if_neg (by simp), if_neg (by simp), hp]
  by_cases h : (n : Int) = x
  · rw [if_pos h, if_pos h]
    rfl
  · rw [if_neg h, if_neg h]
    try rfl
theorem behind2 {pss : List (List PStep)} {ps qs : List PStep} (e : pss = [ps, qs]) {r : Nat} {d o : Option Dst} {x : Int} : behind is pss [0, 1] (r, [d, o]) x =
    (match movB is (min (r + 1) 1) x (d, 0, ps) with
    | none => none
    | some y => match movB is (min (r + 1) 1) x (o, 1, qs) with
      | none => none
      | some z => some (min (r + 1) 1, [y, z])) := by
  subst e
  show (movs is (min (r + 1) 1) x [(d, 0, ps), (o, 1, qs)]).map _ = _
  unfold movs
  simp only [List.foldlM]
  cases movB is (min (r + 1) 1) x (d, 0, ps) with
  | none => rfl
  | some y =>
    cases movB is (min (r + 1) 1) x (o, 1, qs) with
    | none => rfl
    | some z => rfl
include hp in
theorem st_s {x : Int} : stepS is (pl59 a b) [0, 1] s59 x = if (n : Int) = x then some u59 else if (b : Int) = x then some t59 else none := by
  show behind is (pl59 a b) [0, 1] (0, [some (0, false, 0), none]) x = _
  rw [behind2 (pl59_eq (a := a) (b := b))]
  have e1 : movB is (min (0 + 1) 1) x (some (0, false, 0), 0, [(iB b, [some (a : Int)])]) = (if (n : Int) = x then some (some (0, false, 0)) else if (b : Int) = x then some (some (0, false, 1)) else none) := by
    show (decB is [(iB b, [some (a : Int)])] (0, false, 0) x).map some = _
    rw [dec_pad hp]
    by_cases h : (n : Int) = x
    · rw [if_pos h, if_pos h]; rfl
    · rw [if_neg h, if_neg h]
      show (if ((iB b).op : Int) = x then some (stepDec 0 1) else none).map some = _
      by_cases h2 : (b : Int) = x
      · rw [if_pos (show ((iB b).op : Int) = x from h2), if_pos h2]; rfl
      · rw [if_neg (show ¬ ((iB b).op : Int) = x from h2), if_neg h2]; rfl
  have e2 : movB is (min (0 + 1) 1) x (none, 1, [(iA a, [])]) = some (some (0, false, 0)) := rfl
  rw [e1, e2]
  by_cases h : (n : Int) = x
  · rw [if_pos h, if_pos h]; rfl
  · rw [if_neg h, if_neg h]
    by_cases h2 : (b : Int) = x
    · rw [if_pos h2, if_pos h2]; rfl
    · rw [if_neg h2, if_neg h2]
include hp na in
theorem st_t {x : Int} : stepS is (pl59 a b) [0, 1] t59 x = if (a : Int) = x then some f59 else none := by
  show behind is (pl59 a b) [0, 1] (1, [some (0, false, 1), some (0, false, 0)]) x = _
  rw [behind2 (pl59_eq (a := a) (b := b))]
  have e1 : movB is (min (1 + 1) 1) x (some (0, false, 1), 0, [(iB b, [some (a : Int)])]) = (if (a : Int) = x then some (some (1, false, 0)) else none) := by
    show (decB is [(iB b, [some (a : Int)])] (0, false, 1) x).map some = _
    unfold decB
    rw [if_neg (by simp), if_pos (by show 0 < 1; decide)]
    show (if (some (a : Int) = none ∨ some (a : Int) = some x) then some (stepDec 0 0) else none).map some = _
    by_cases h : (a : Int) = x
    · rw [if_pos h, if_pos (.inr (by rw [h]))]; rfl
    · rw [if_neg h, if_neg (fun z => z.elim (fun z => nomatch z) fun z => h (Option.some.inj z))]; rfl
  rw [e1]
  by_cases h : (a : Int) = x
  · rw [if_pos h, if_pos h]
    have e2 : movB is (min (1 + 1) 1) x (some (0, false, 0), 1, [(iA a, [])]) = some (some (1, false, 0)) := by
      show (decB is [(iA a, [])] (0, false, 0) x).map some = _
      rw [dec_pad hp, if_neg (by omega)]
      show (if ((iA a).op : Int) = x then some (stepDec 0 0) else none).map some = _
      rw [if_pos (show ((iA a).op : Int) = x from h)]; rfl
    rw [e2]
    rfl
  · rw [if_neg h, if_neg h]
include hp nb ab in
theorem st_u {x : Int} : stepS is (pl59 a b) [0, 1] u59 x = if (n : Int) = x then some u59 else none := by
  show behind is (pl59 a b) [0, 1] (1, [some (0, false, 0), some (0, false, 0)]) x = _
  rw [behind2 (pl59_eq (a := a) (b := b))]
  have e1 : movB is (min (1 + 1) 1) x (some (0, false, 0), 0, [(iB b, [some (a : Int)])]) = (if (n : Int) = x then some (some (0, false, 0)) else if (b : Int) = x then some (some (0, false, 1)) else none) := by
    show (decB is [(iB b, [some (a : Int)])] (0, false, 0) x).map some = _
    rw [dec_pad hp]
    by_cases h : (n : Int) = x
    · rw [if_pos h, if_pos h]; rfl
    · rw [if_neg h, if_neg h]
      show (if ((iB b).op : Int) = x then some (stepDec 0 1) else none).map some = _
      by_cases h2 : (b : Int) = x
      · rw [if_pos (show ((iB b).op : Int) = x from h2), if_pos h2]; rfl
      · rw [if_neg (show ¬ ((iB b).op : Int) = x from h2), if_neg h2]; rfl
  have e2 : movB is (min (1 + 1) 1) x (some (0, false, 0), 1, [(iA a, [])]) = (if (n : Int) = x then some (some (0, false, 0)) else if (a : Int) = x then some (some (1, false, 0)) else none) := by
    show (decB is [(iA a, [])] (0, false, 0) x).map some = _
    rw [dec_pad hp]
    by_cases h : (n : Int) = x
    · rw [if_pos h, if_pos h]; rfl
    · rw [if_neg h, if_neg h]
      show (if ((iA a).op : Int) = x then some (stepDec 0 0) else none).map some = _
      by_cases h2 : (a : Int) = x
      · rw [if_pos (show ((iA a).op : Int) = x from h2), if_pos h2]; rfl
      · rw [if_neg (show ¬ ((iA a).op : Int) = x from h2), if_neg h2]; rfl
  rw [e1, e2]
  by_cases h : (n : Int) = x
  · rw [if_pos h, if_pos h, if_pos h]; rfl
  · rw [if_neg h, if_neg h, if_neg h]
    by_cases h2 : (b : Int) = x
    · rw [if_pos h2, if_neg (by omega)]
    · rw [if_neg h2]
include hp in
theorem st_f {x : Int} : stepS is (pl59 a b) [0, 1] f59 x = if (n : Int) = x then some f59 else none := by
  show behind is (pl59 a b) [0, 1] (1, [some (1, false, 0), some (1, false, 0)]) x = _
  rw [behind2 (pl59_eq (a := a) (b := b))]
  have e1 : ∀ (g : Nat) (y : PStep), movB is (min (1 + 1) 1) x (some (1, false, 0), g, [y]) = (if (n : Int) = x then some (some (1, false, 0)) else none) := fun g y => by
    show (decB is [y] (1, false, 0) x).map some = _
    rw [dec_pad hp]
    by_cases h : (n : Int) = x
    · rw [if_pos h, if_pos h]; rfl
    · rw [if_neg h, if_neg h]; rfl
  rw [e1, e1]
  by_cases h : (n : Int) = x
  · rw [if_pos h, if_pos h]; rfl
  · rw [if_neg h, if_neg h]
variable {cnt : Nat}
/-- a state that one byte leads on from -/
theorem num_one {step : Sta → Int → Option Sta} {sf s t : Sta} {c : Int} (hc : c ∈ Bf.rng cnt) (h : ∀ x, step s x = if c = x then some t else none) (k : Nat) : Ct.num step sf cnt (k + 1) s = Ct.num step sf cnt k t := by
  show ((Bf.rng cnt).map (Ct.at' (step s) fun _ t => Ct.num step sf cnt k t)).sum = _
  have nd : (Bf.rng cnt).Nodup := (Bf.rng_asc cnt).imp fun h => Int.ne_of_lt h
  rw [← Ct.sum_one (f := fun _ => Ct.num step sf cnt k t) nd hc]
  refine Ct.sum_cong fun x _ => ?_
  unfold Ct.at'
  rw [h]
  by_cases e : c = x
  · rw [if_pos e, if_pos e.symm]
  · rw [if_neg e, if_neg (Ne.symm e)]
include hp nb ab in
theorem num_u (hn : (n : Int) ∈ Bf.rng cnt) : ∀ k, Ct.num (stepS is (pl59 a b) [0, 1]) f59 cnt k u59 = 0
  | 0 => rfl
  | k + 1 => by rw [num_one hn (fun x => st_u hp nb ab), num_u hn k]
include hp na nb ab in
theorem num_three (hn : (n : Int) ∈ Bf.rng cnt) (ha : (a : Int) ∈ Bf.rng cnt) (hb : (b : Int) ∈ Bf.rng cnt) : Ct.num (stepS is (pl59 a b) [0, 1]) f59 cnt 3 s59 = 1 := by
  have t2 : Ct.num (stepS is (pl59 a b) [0, 1]) f59 cnt 2 t59 = 1 := by
    rw [num_one ha (fun x => st_t hp na), num_one hn (fun x => st_f hp)]
    rfl
  have nd : (Bf.rng cnt).Nodup := (Bf.rng_asc cnt).imp fun h => Int.ne_of_lt h
  show ((Bf.rng cnt).map (Ct.at' (stepS is (pl59 a b) [0, 1] s59) fun _ t => Ct.num (stepS is (pl59 a b) [0, 1]) f59 cnt 2 t)).sum = 1
  refine Eq.trans ?_ (Ct.sum_one (f := fun _ : Int => 1) nd hb)
  refine Ct.sum_cong fun x _ => ?_
  unfold Ct.at'
  rw [st_s hp]
  by_cases h : (n : Int) = x
  · rw [if_pos h, if_neg (by omega)]
    exact num_u hp nb ab hn 2
  · rw [if_neg h]
    by_cases h2 : (b : Int) = x
    · rw [if_pos h2, if_pos h2.symm]
      exact t2
    · rw [if_neg h2, if_neg (Ne.symm h2)]
include hp na nb ab in
theorem rank_three (hn : (n : Int) ∈ Bf.rng cnt) : Ct.rank (stepS is (pl59 a b) [0, 1]) f59 cnt [(b : Int), (a : Int), (n : Int)] s59 = 0 := by
  have r1 : Ct.rank (stepS is (pl59 a b) [0, 1]) f59 cnt [(n : Int)] f59 = 0 := by
    unfold Ct.rank
    rw [Ct.sum_zero fun x hx => by
      have lt := of_decide_eq_true (List.mem_filter.mp hx).2
      unfold Ct.at'
      rw [st_f hp, if_neg (by omega)], st_f hp, if_pos rfl]
    rfl
  have r2 : Ct.rank (stepS is (pl59 a b) [0, 1]) f59 cnt [(a : Int), (n : Int)] t59 = 0 := by
    unfold Ct.rank
    rw [Ct.sum_zero fun x hx => by
      have lt := of_decide_eq_true (List.mem_filter.mp hx).2
      unfold Ct.at'
      rw [st_t hp na, if_neg (by omega)], st_t hp na, if_pos rfl, Nat.zero_add]
    exact r1
  unfold Ct.rank
  rw [Ct.sum_zero fun x hx => by
    have lt := of_decide_eq_true (List.mem_filter.mp hx).2
    unfold Ct.at'
    rw [st_s hp]
    by_cases h : (n : Int) = x
    · rw [if_pos h]
      exact num_u hp nb ab hn _
    · rw [if_neg h, if_neg (by omega)], st_s hp, if_neg (by omega), if_pos rfl, Nat.zero_add]
  exact r2
include hp na nb ab in
theorem run_three : Bf.runB (stepS is (pl59 a b) [0, 1]) s59 [(b : Int), (a : Int), (n : Int)] = some f59 := by
  rw [Ct.runB_cons, st_s hp, if_neg (by omega), if_pos rfl]
  show Bf.runB _ t59 _ = _
  rw [Ct.runB_cons, st_t hp na, if_pos rfl]
  show Bf.runB _ f59 _ = _
  rw [Ct.runB_cons, st_f hp, if_pos rfl]
  rfl
include hp na nb ab in
theorem run_only {row : List Int} (l : row.length = 3) (h : Bf.runB (stepS is (pl59 a b) [0, 1]) s59 row = some f59) : row = [(b : Int), (a : Int), (n : Int)] := by
  have un : ∀ (r : List Int), Bf.runB (stepS is (pl59 a b) [0, 1]) u59 r = some f59 → False := by
    intro r
    induction r with
    | nil => intro h; cases h
    | cons x r ih =>
      intro h
      rw [Ct.runB_cons, st_u hp nb ab] at h
      by_cases e : (n : Int) = x
      · rw [if_pos e] at h; exact ih h
      · rw [if_neg e] at h; cases h
  match row, l with
  | [x, y, z], _ =>
    rw [Ct.runB_cons, st_s hp] at h
    by_cases e : (n : Int) = x
    · rw [if_pos e] at h; exact (un _ h).elim
    · rw [if_neg e] at h
      by_cases e2 : (b : Int) = x
      · rw [if_pos e2] at h
        have h : Bf.runB (stepS is (pl59 a b) [0, 1]) t59 [y, z] = some f59 := h
        rw [Ct.runB_cons, st_t hp na] at h
        by_cases e3 : (a : Int) = y
        · rw [if_pos e3] at h
          have h : Bf.runB (stepS is (pl59 a b) [0, 1]) f59 [z] = some f59 := h
          rw [Ct.runB_cons, st_f hp] at h
          by_cases e4 : (n : Int) = z
          · rw [e2, e3, e4]
          · rw [if_neg e4] at h; cases h
        · rw [if_neg e3] at h; cases h
      · rw [if_neg e2] at h; cases h
end
end Ov
namespace Sr
open PySem PyProof.Rows
section
variable {prog : Program} {w : World} {A : Around} {E : Value → Shared → Prop} {s : Shared}
theorem eqBool_mark {b : Bool} {Q : Bool → Shared → Prop} (h : Q true s) : wpAny (model prog w) A (eqBool (.bool b) (.bool b)) Q E s := by
  unfold eqBool
  show wpAny _ _ (if (Value.bool b == Value.bool b) = true then _ else _) Q E s
  rw [if_pos (beq_self_eq_true _)]
  exact wpAny_bind (wpAny_rule (wpAny_pure h))
end
/-- a row that lies in the heap -/
def RowAt (h : Heap) (v : Value) (p : Int) (x : Str) (l : Int) (b : Bool) : Prop := ∃ (a : Addr) (t1 t2 t3 : Tok), v = .ref a ∧ IsTup h a #[.int p t1, .str x t2, .int l t3, .bool b]
theorem RowAt.keeps {h h' : Heap} {v : Value} {p : Int} {x : Str} {l : Int} {b : Bool} (r : RowAt h v p x l b) (k : ∀ c o, h.get? c = some o → o.cls = .type "tuple" → h'.get? c = some o) : RowAt h' v p x l b := by
  obtain ⟨a, t1, t2, t3, e, ⟨o, ho, hc, hd⟩⟩ := r
  exact ⟨a, t1, t2, t3, e, ⟨o, k _ _ ho hc, hc, hd⟩⟩
/-- the first item of a tuple, read off the heap -/
def fstOf (h : Heap) (v : Value) : Int := match v with
  | .ref a => match h.get? a with
    | some o => match o.data with
      | .seq xs _ => match xs[0]? with
        | some (Value.int p _) => p
        | _ => 0
      | _ => 0
    | none => 0
  | _ => 0
theorem RowAt.fst {h : Heap} {v : Value} {p : Int} {x : Str} {l : Int} {b : Bool} (r : RowAt h v p x l b) : fstOf h v = p := by
  obtain ⟨a, t1, t2, t3, rfl, ⟨o, ho, hc, n, hd⟩⟩ := r
  simp only [fstOf, ho, hd]
  rfl
def RowsOk (h : Heap) (vs : List Value) : Prop := (∀ v ∈ vs, ∃ p x l b, RowAt h v p x l b) ∧ ∀ v ∈ vs, ∀ u ∈ vs, ∀ p x l b x' l' b', RowAt h v p x l b → RowAt h u p x' l' b' → x = x' ∧ l = l' ∧ b = b'
theorem RowAt.one {h : Heap} {v : Value} {p p' : Int} {x x' : Str} {l l' : Int} {b b' : Bool} (r : RowAt h v p x l b) (r' : RowAt h v p' x' l' b') : p = p' ∧ x = x' ∧ l = l' ∧ b = b' := by
  obtain ⟨a, t1, t2, t3, e, ⟨o, ho, hc, n, hd⟩⟩ := r
  obtain ⟨a', u1, u2, u3, e', ⟨o', ho', hc', n', hd'⟩⟩ := r'
  rw [e] at e'
  cases e'
  rw [ho] at ho'
  cases ho'
  rw [hd] at hd'
  injection hd' with h1 _
  have h2 := congrArg Array.toList h1
  simp at h2
  exact ⟨h2.1.1, h2.2.1.1, h2.2.2.1.1, h2.2.2.2⟩
theorem RowsOk.keeps {h h' : Heap} {vs : List Value} (x : RowsOk h vs) (k : ∀ c o, h.get? c = some o → o.cls = .type "tuple" → h'.get? c = some o) : RowsOk h' vs := by
  refine ⟨fun v hv => ?_, fun v hv u hu p y l b y' l' b' r1 r2 => ?_⟩
  · obtain ⟨p, y, l, b, r⟩ := x.1 v hv
    exact ⟨p, y, l, b, r.keeps k⟩
  · obtain ⟨p1, y1, l1, b1, q1⟩ := x.1 v hv
    obtain ⟨p2, y2, l2, b2, q2⟩ := x.1 u hu
    obtain ⟨e1, e2, e3, e4⟩ := r1.one (q1.keeps k)
    obtain ⟨f1, f2, f3, f4⟩ := r2.one (q2.keeps k)
    subst e1 e2 e3 e4 f2 f3 f4
    subst f1
    exact x.2 v hv u hu _ _ _ _ _ _ _ q1 q2
theorem firsts_rows {h : Heap} : ∀ vs : List Value, (∀ v ∈ vs, ∃ p x l b, RowAt h v p x l b) → ∃ fs, PySem.W.KatTups h vs fs ∧ fs.length = vs.length ∧ ∀ f, f ∈ fs → ∃ n t, f = Value.int n t
  | [], _ => ⟨[], PySem.W.KatTups.nil, rfl, fun f hf => by simp at hf⟩
  | v :: vs, x => by
    obtain ⟨fs, k, hl, hi⟩ := firsts_rows vs fun u hu => x u (List.mem_cons_of_mem _ hu)
    obtain ⟨p, y, l, b, a, t1, t2, t3, rfl, ⟨o, ho, hc, n, hd⟩⟩ := x v List.mem_cons_self
    refine ⟨.int p t1 :: fs, PySem.W.KatTups.cons ho hc hd rfl k, by simp [hl], fun f hf => ?_⟩
    rcases List.mem_cons.mp hf with rfl | hf
    · exact ⟨p, t1, rfl⟩
    · exact hi f hf
section
variable {prog : Program} {w : World} {A : Around} {E : Value → Shared → Prop} {s : Shared}
theorem kind_rows {vs : List Value} (h2 : 2 ≤ vs.length) (x : RowsOk s.heap vs) (r : Value → Int) (hr : ∀ v, v ∈ vs → ∀ p y l b, RowAt s.heap v p y l b → r v = p) (Q : SortKind → Shared → Prop)
    (h : ∀ κ, TS.Cmp prog w A s κ (pairsOf vs) r → Q κ s) : wpAny (model prog w) A (keyKind' vs.toArray) Q E s := by
  obtain ⟨fs, k, hl, hi⟩ := firsts_rows vs x.1
  refine PySem.W.kat_kind (T := Value.type "int") k (by omega) (fun f hf => ?_) rfl (h _ ?_)
  · obtain ⟨n, t, rfl⟩ := hi f hf
    exact PySem.W.Looks.of_pure rfl
  · intro p q hp hq Q' E' hQ
    rw [pairsOf_toList] at hp hq
    have mp := (mem_zip_self hp).2
    have mq := (mem_zip_self hq).2
    obtain ⟨n1, y1, l1, b1, r1⟩ := x.1 _ mp
    obtain ⟨n2, y2, l2, b2, r2⟩ := x.1 _ mq
    have e1 := hr _ mp _ _ _ _ r1
    have e2 := hr _ mq _ _ _ _ r2
    have same := x.2 _ mp _ mq n1 y1 l1 b1 y2 l2 b2 r1
    rw [e1, e2] at hQ
    have r2' := r2
    obtain ⟨a, t1, t2, t3, e3, ⟨o, ho, hc, n, hd⟩⟩ := r1
    obtain ⟨a', u1, u2, u3, e4, ⟨o', ho', hc', n', hd'⟩⟩ := r2
    rw [e3, e4]
    refine PySem.W.kat_lt ho hd ho' hd' ?_
    have sz : decide ((#[Value.int n1 t1, .str y1 t2, .int l1 t3, .bool b1] : Array Value).size < (#[Value.int n2 u1, .str y2 u2, .int l2 u3, .bool b2] : Array Value).size) = false := rfl
    rw [sz]
    show PySem.W.KatLex prog w A _ false Q' [(Value.int n1 t1, Value.int n2 u1), (.str y1 t2, .str y2 u2), (.int l1 t3, .int l2 u3), (.bool b1, .bool b2)] 0 s
    refine PySem.W.kat_cons (wpAny_eqBool_int ?_)
    by_cases en : n1 = n2
    · subst en
      obtain ⟨rfl, rfl, rfl⟩ := same r2'
      rw [beq_self_eq_true]
      refine PySem.W.kat_yes (PySem.W.kat_cons (wpAny_eqBool_str ?_))
      rw [decide_eq_true rfl]
      refine PySem.W.kat_yes (PySem.W.kat_cons (wpAny_eqBool_int ?_))
      rw [beq_self_eq_true]
      refine PySem.W.kat_yes (PySem.W.kat_cons (eqBool_mark ?_))
      refine PySem.W.kat_yes (PySem.W.kat_nil ?_)
      rw [decide_eq_false (Int.lt_irrefl _)] at hQ
      exact hQ
    · rw [show (n1 == n2) = false from beq_eq_false_iff_ne.mpr en]
      exact PySem.W.kat_no (TS.oneLt_ints _ hQ)
theorem sort_rows {a : Addr} {vs : List Value} {n : Nat} {P : PySem.Fin → Shared → Prop} (ho : s.heap.get? a = some (seqObj "list" vs.toArray n)) (h64 : vs.length < 64) (x : RowsOk s.heap vs)
    (r : Value → Int) (hr : ∀ v, v ∈ vs → ∀ p y l b, RowAt s.heap v p y l b → r v = p)
    (h : ∀ out : Array Value, out.toList.Perm vs → out.toList.Pairwise (fun u v => r u ≤ r v) → P (.done (.ret .none)) { s with heap := sortedHeap s.heap a vs out }) :
    wpAny (model prog w) A (Builtin.«list.sort» ⟨[.ref a], []⟩) P E s := by
  have keep : ∀ b o, s.heap.get? b = some o → o.cls = .type "tuple" → (TS.midHeap s.heap a vs).get? b = some o := fun b o e hc => by
    refine TS.midHeap_old ?_ e
    rintro rfl
    rw [ho] at e
    have e' : seqObj "list" vs.toArray n = o := Option.some.inj e
    rw [← e'] at hc
    have c' : Value.type "list" = Value.type "tuple" := hc
    injection c' with c''
    exact absurd c'' (by decide)
  refine SK.plain_sort (r := r) ho h64 (fun h2 Q hQ => ?_) fun ps out h1 h2 h3 => ?_
  · refine kind_rows (s := { s with heap := TS.midHeap s.heap a vs }) h2 (x.keeps keep) r (fun v hv p y l b t => ?_) Q hQ
    obtain ⟨p0, y0, l0, b0, t0⟩ := x.1 v hv
    obtain ⟨e, _⟩ := t.one (t0.keeps keep)
    rw [e]
    exact hr v hv _ _ _ _ t0
  · obtain ⟨p, o⟩ := TS.out_rank h1 h2 h3
    exact h out p o
theorem sorted_rows {l : Addr} {vs : List Value} {Q : Value → Shared → Prop} (hl : s.heap.IsList l vs.toArray) (h64 : vs.length < 64) (x : RowsOk s.heap vs)
    (h : ∀ out : Array Value, out.toList.Perm vs → out.toList.Pairwise (fun u v => fstOf s.heap u ≤ fstOf s.heap v) → Q (.ref (s.heap.objs.size + 1)) { s with heap := sortedAll s.heap vs out }) :
    wpAny (model prog w) A (call (.builtin "sorted") [.ref l]) Q E s := by
  refine Calls.call_function_entry kind_sorted plain_sorted entry_sorted (args_sorted1 _) ?_
  unfold Builtin.«sorted»
  refine wpAny_bind (m := checkCount "sorted" 1 1 _) (wpAny_pure ?_)
  refine wpAny_bind (collect_list hl ?_ (by rw [sizeLine_eq]; omega))
  refine wpAny_bind (wpAny_newList ?_ (by rw [sizeLine_eq]; omega))
  have many : ((s.heap.push (seqObj "list" #[] 0)).update s.heap.objs.size (Obj.mapSeq (· ++ vs.toArray))).objs.size = s.heap.objs.size + 1 := by rw [Heap.size_update, size_push']
  have lies : (((s.heap.push (seqObj "list" #[] 0)).update s.heap.objs.size (Obj.mapSeq (· ++ vs.toArray))).push (seqObj "list" vs.toArray 0)).get? (s.heap.objs.size + 1) = some (seqObj "list" vs.toArray 0) := by rw [← many]; exact Heap.get?_push_size _ rfl
  have old : ∀ b o, s.heap.get? b = some o → o.cls = .type "tuple" → (((s.heap.push (seqObj "list" #[] 0)).update s.heap.objs.size (Obj.mapSeq (· ++ vs.toArray))).push (seqObj "list" vs.toArray 0)).get? b = some o := fun b o e _ => by
    have lt : b < s.heap.objs.size := Heap.lt_size e
    rw [Heap.get?_push_ne _ _ _ (by rw [many]; exact Nat.ne_of_lt (Nat.lt_succ_of_lt lt)), Heap.get?_update_ne _ _ _ _ (Nat.ne_of_lt lt), Heap.get?_push_ne _ _ _ (Nat.ne_of_lt lt)]
    exact e
  show wpAny _ _ _ _ _ { s with heap := ((s.heap.push (seqObj "list" #[] 0)).update s.heap.objs.size (Obj.mapSeq (· ++ vs.toArray))).push (seqObj "list" vs.toArray 0) }
  rw [many]
  refine wpAny_bind (wpAny_holding (wpAny_call_entry slot_list_sort ⟨_, lies, rfl⟩ entry_list_sort (sort_rows lies h64 (x.keeps old) (fun v => fstOf s.heap v) (fun v hv p y l b t => ?_) fun out a1 a2 => ⟨_, rfl, ?_⟩) (args_list_sort _)))
  · obtain ⟨p0, y0, l0, b0, t0⟩ := x.1 v hv
    obtain ⟨e, _⟩ := t.one (t0.keeps old)
    show fstOf s.heap v = p
    rw [e, t0.fst]
  · exact wpAny_pure ⟨_, rfl, h out a1 a2⟩
end
end Sr
namespace L2
open PySem PySem.Spec PyProof.Rows
/-- a row -/
def RowV (K : PySem.W.Frag) (H : Hp) (u : V) (r : Int × Str × Int × Bool) : Prop := ∃ a, u = .ref a ∧ SqT K H a [.int r.1, .str r.2.1, .int r.2.2.1, .bl r.2.2.2]
def rSortR (K : PySem.W.Frag) : List V → Hp → VK → Prop := fun vs H Q => ∃ (a : Addr) (xs : List V) (row : V → Int × Str × Int × Bool), vs = [V.ref a] ∧ SqL K H a xs ∧ xs.length < 64 ∧ (∀ x ∈ xs, RowV K H x (row x)) ∧ (∀ x ∈ xs, ∀ y ∈ xs, (row x).1 = (row y).1 → row x = row y) ∧
  ∀ (ys : List V) (p : Addr), ys.Perm xs → ys.Pairwise (fun x y => (row x).1 ≤ (row y).1) → H p = none → Q (.ref p) (upd H p (.lst ys))
section
variable {X : Cx} {pins : List (Addr × Obj)} {σ : St} {H : Hp} {s : Shared}
theorem row_raw (I : Inv X pins σ H s) {t : Addr} {r : Int × Str × Int × Bool} (h : SqT X.K H t [.int r.1, .str r.2.1, .int r.2.2.1, .bl r.2.2.2]) : Sr.RowAt s.heap (.ref t) r.1 r.2.1 r.2.2.1 r.2.2.2 := by
  obtain ⟨its, rv, hT, _⟩ := I.tuple h
  cases rv with
  | cons r1 rv =>
    cases rv with
    | cons r2 rv =>
      cases rv with
      | cons r3 rv =>
        cases rv with
        | cons r4 rv =>
          cases rv
          obtain ⟨t1, rfl⟩ := r1
          obtain ⟨t2, rfl⟩ := r2
          obtain ⟨t3, rfl⟩ := r3
          cases r4
          exact ⟨t, t1, t2, t3, rfl, hT⟩
theorem cr_sortR : CallR X (.builtin "sorted") (rSortR X.K) := by
  intro pins s σ H vs us Q I rr h
  obtain ⟨a, xs, row, rfl, hs, h64, hx, one, q⟩ := h
  obtain ⟨its, rv, hl, hz⟩ := I.list hs
  rw [Vals.ref1 rr]
  obtain ⟨e1, e2⟩ := bkV_refs rv fun x m => by
    obtain ⟨t, e, _⟩ := hx x m
    exact ⟨t, e⟩
  have mem : ∀ t, Value.ref t ∈ its → V.ref t ∈ xs := fun t ht => by
    rw [e1]
    exact List.mem_map.mpr ⟨_, ht, rfl⟩
  have raw : ∀ t, Value.ref t ∈ its → Sr.RowAt s.heap (.ref t) (row (.ref t)).1 (row (.ref t)).2.1 (row (.ref t)).2.2.1 (row (.ref t)).2.2.2 := fun t ht => by
    obtain ⟨t', e, hr⟩ := hx _ (mem t ht)
    cases e
    exact row_raw I hr
  refine Sr.sorted_rows hl.isList (by rw [← rv.length]; exact h64) ⟨fun v hv => ?_, fun v hv u hu p x l b x' l' b' r1 r2 => ?_⟩ fun out h1 h2 => ?_
  · obtain ⟨t, rfl⟩ := e2 v hv
    exact ⟨_, _, _, _, raw t hv⟩
  · obtain ⟨t, rfl⟩ := e2 v hv
    obtain ⟨t', rfl⟩ := e2 u hu
    obtain ⟨f1, f2, f3, f4⟩ := r1.one (raw t hv)
    obtain ⟨g1, g2, g3, g4⟩ := r2.one (raw t' hu)
    have e := one _ (mem t hv) _ (mem t' hu) (f1.symm.trans g1)
    rw [e] at f2 f3 f4
    exact ⟨f2.trans g2.symm, f3.trans g3.symm, f4.trans g4.symm⟩
  · obtain ⟨ep, at_⟩ := PyProof.Rows.sortedAll_at s.heap its out
    have hm : ∀ u ∈ out.toList, u ∈ its := fun u hu => h1.mem_iff.mp hu
    have h3 : ∀ u ∈ out.toList, ∃ a, u = Value.ref a := fun u hu => e2 u (hm u hu)
    have hp : (out.toList.map bkV).Perm xs := by
      rw [e1]
      exact h1.map bkV
    have hlen : (out.toList.map bkV).length ≤ sizeLine := by
      rw [hp.length_eq]
      exact hz
    refine ⟨.ref _, upd H (s.heap.objs.size + 1) (.lst (out.toList.map bkV)), I.laid (t' := s.toks) (fun _ _ => PyProof.Rows.sortedAll_old) (Nat.le_succ _) ⟨hlen, out.toList, ep, bkV_vals h3, at_⟩, rfl, q _ _ hp ?_ (I.hok.fresh (Nat.le_succ _))⟩
    rw [List.pairwise_map]
    refine List.Pairwise.imp_of_mem (fun {u v} mu mv huv => ?_) h2
    obtain ⟨t, rfl⟩ := e2 u (hm u mu)
    obtain ⟨t', rfl⟩ := e2 v (hm v mv)
    rw [(raw t (hm _ mu)).fst, (raw t' (hm _ mv)).fst] at huv
    exact huv
end
end L2
namespace Ov
open PySem PySem.Spec PyProof.Rows L2
theorem perm_lift {α β : Type} {f : α → β} : ∀ {ys : List β} {l : List α}, ys.Perm (l.map f) → ∃ m : List α, m.Perm l ∧ m.map f = ys
  | [], l, h => by
    have e : l.map f = [] := List.Perm.eq_nil h.symm
    have e : l = [] := by simpa using e
    subst e
    exact ⟨[], List.Perm.refl _, rfl⟩
  | y :: ys, l, h => by
    obtain ⟨a, ha, rfl⟩ := List.mem_map.mp (h.mem_iff.mp List.mem_cons_self)
    obtain ⟨s, t, rfl⟩ := List.append_of_mem ha
    have h2 : (f a :: ys).Perm (f a :: (s ++ t).map f) := by
      refine h.trans ?_
      rw [List.map_append, List.map_cons, List.map_append]
      exact List.perm_middle
    obtain ⟨m, hm, e⟩ := perm_lift (f := f) h2.cons_inv
    exact ⟨a :: m, (hm.cons a).trans List.perm_middle.symm, by rw [List.map_cons, e]⟩
/-- a row of a table, read by its address -/
def rowOf (zs : List (Addr × I4)) (v : V) : Int × Str × Int × Bool := match zs.find? (fun z => decide (V.ref z.1 = v)) with
  | some z => ((z.2.op : Int), txt z.2.nm, (z.2.ln : Int), z.2.pad)
  | none => (0, "", 0, false)
theorem rowOf_at {zs : List (Addr × I4)} (nd : (zs.map (·.1)).Nodup) {z : Addr × I4} (h : z ∈ zs) : rowOf zs (.ref z.1) = ((z.2.op : Int), txt z.2.nm, (z.2.ln : Int), z.2.pad) := by
  unfold rowOf
  have e : zs.find? (fun y => decide (V.ref y.1 = V.ref z.1)) = some z := by
    induction zs with
    | nil => cases h
    | cons y zs ih =>
      rw [List.map_cons, List.nodup_cons] at nd
      rw [List.find?_cons]
      rcases List.mem_cons.mp h with rfl | h
      · rw [decide_eq_true rfl]
      · have ne : ¬ (V.ref y.1 = V.ref z.1) := fun e => by
          injection e with e
          exact nd.1 (by rw [e]; exact List.mem_map.mpr ⟨z, h, rfl⟩)
        rw [decide_eq_false ne]
        exact ih nd.2 h
  rw [e]
/-- two rows of unlike opcodes do not lie at one place -/
theorem rows_apart {H : Hp} {rs : List Addr} {is : List I4} (R : Rows H rs is) (nd : (is.map I4.op).Nodup) : rs.Nodup := by
  rw [List.nodup_iff_pairwise_ne, List.pairwise_iff_getElem]
  intro i j hi hj ij e
  have li : i < is.length := by rw [← R.1]; exact hi
  have lj : j < is.length := by rw [← R.1]; exact hj
  have h1 := R.2 i rs[i] is[i] (List.getElem?_eq_getElem hi) (List.getElem?_eq_getElem li)
  have h2 := R.2 j rs[j] is[j] (List.getElem?_eq_getElem hj) (List.getElem?_eq_getElem lj)
  rw [e] at h1
  rw [h1] at h2
  have h3 := Option.some.inj h2
  injection h3 with h3
  have h4 := congrArg (fun l : List V => l[0]?) h3
  have h5 : some (V.int (is[i].op : Int)) = some (V.int (is[j].op : Int)) := h4
  injection h5 with h5
  injection h5 with h5
  have ne := List.pairwise_iff_getElem.mp (List.nodup_iff_pairwise_ne.mp nd) i j (by rw [List.length_map]; exact li) (by rw [List.length_map]; exact lj) ij
  rw [List.getElem_map, List.getElem_map] at ne
  exact ne (by omega)
section
variable {K : PySem.W.Frag} {H : Hp} {rs : List Addr} {is : List I4} (R : Rows H rs is) (nd : (is.map I4.op).Nodup)
include R in
theorem zip_at {z : Addr × I4} (h : z ∈ rs.zip is) : H z.1 = some (.tup z.2.vs) := by
  obtain ⟨i, hi⟩ := List.mem_iff_getElem?.mp h
  rw [List.getElem?_zip_eq_some] at hi
  exact R.2 i z.1 z.2 hi.1 hi.2
include R in
theorem zip_fst : (rs.zip is).map (·.1) = rs := List.map_fst_zip (Nat.le_of_eq R.1)
include R in
theorem zip_snd : (rs.zip is).map (·.2) = is := List.map_snd_zip (Nat.le_of_eq R.1.symm)
include R nd in
theorem sort_rows_pre : (∀ x ∈ rs.map V.ref, RowV K H x (rowOf (rs.zip is) x)) ∧ (∀ x ∈ rs.map V.ref, ∀ y ∈ rs.map V.ref, (rowOf (rs.zip is) x).1 = (rowOf (rs.zip is) y).1 → rowOf (rs.zip is) x = rowOf (rs.zip is) y) := by
  have zn : ((rs.zip is).map (·.1)).Nodup := by rw [zip_fst R]; exact rows_apart R nd
  have look : ∀ x ∈ rs.map V.ref, ∃ z ∈ rs.zip is, x = V.ref z.1 := fun x hx => by
    rw [← zip_fst R, List.map_map] at hx
    obtain ⟨z, hz, rfl⟩ := List.mem_map.mp hx
    exact ⟨z, hz, rfl⟩
  refine ⟨fun x hx => ?_, fun x hx y hy e => ?_⟩
  · obtain ⟨z, hz, rfl⟩ := look x hx
    rw [rowOf_at zn hz]
    exact ⟨z.1, rfl, SqT.of (zip_at R hz)⟩
  · obtain ⟨z, hz, rfl⟩ := look x hx
    obtain ⟨u, hu, rfl⟩ := look y hy
    rw [rowOf_at zn hz, rowOf_at zn hu] at e ⊢
    have e : (z.2.op : Int) = (u.2.op : Int) := e
    obtain ⟨i, hi⟩ := List.mem_iff_getElem?.mp hz
    obtain ⟨j, hj⟩ := List.mem_iff_getElem?.mp hu
    rw [List.getElem?_zip_eq_some] at hi hj
    have e2 : z.2 = u.2 := by
      have il := (List.getElem?_eq_some_iff.mp hi.2).1
      have jl := (List.getElem?_eq_some_iff.mp hj.2).1
      have p := List.pairwise_iff_getElem.mp (List.nodup_iff_pairwise_ne.mp nd)
      have gi := (List.getElem?_eq_some_iff.mp hi.2).2
      have gj := (List.getElem?_eq_some_iff.mp hj.2).2
      rcases Nat.lt_trichotomy i j with h | h | h
      · have := p i j (by rw [List.length_map]; exact il) (by rw [List.length_map]; exact jl) h
        rw [List.getElem_map, List.getElem_map, gi, gj] at this
        exact absurd (by omega) this
      · subst h
        exact Option.some.inj (hi.2.symm.trans hj.2)
      · have := p j i (by rw [List.length_map]; exact jl) (by rw [List.length_map]; exact il) h
        rw [List.getElem_map, List.getElem_map, gi, gj] at this
        exact absurd (by omega) this
    rw [e2]
include R nd in
theorem rows_sorted {ys : List V} (p : ys.Perm (rs.map V.ref)) (o : ys.Pairwise (fun x y => (rowOf (rs.zip is) x).1 ≤ (rowOf (rs.zip is) y).1)) :
    ∃ (rs' : List Addr) (is' : List I4), ys = rs'.map V.ref ∧ Rows H rs' is' ∧ is'.Perm is ∧ (is'.map I4.op).Pairwise (· < ·) := by
  have zn : ((rs.zip is).map (·.1)).Nodup := by rw [zip_fst R]; exact rows_apart R nd
  have p2 : ys.Perm ((rs.zip is).map fun z => V.ref z.1) := by
    have e : (rs.zip is).map (fun z => V.ref z.1) = rs.map V.ref := by
      rw [← zip_fst R, List.map_map]
      rw [zip_fst R]
      rfl
    rw [e]
    exact p
  obtain ⟨zs, hz, rfl⟩ := perm_lift p2
  have pis : (zs.map (·.2)).Perm is := by
    have := hz.map (fun z : Addr × I4 => z.2)
    rwa [zip_snd R] at this
  refine ⟨zs.map (·.1), zs.map (·.2), by rw [List.map_map]; rfl, ⟨by rw [List.length_map, List.length_map], fun i r x h1 h2 => ?_⟩, pis, ?_⟩
  · rw [List.getElem?_map] at h1 h2
    obtain ⟨z, hz1, rfl⟩ := Option.map_eq_some_iff.mp h1
    rw [hz1] at h2
    cases h2
    exact zip_at R (hz.mem_iff.mp (List.mem_of_getElem? hz1))
  · have nds : ((zs.map (·.2)).map I4.op).Nodup := (pis.map I4.op).nodup_iff.mpr nd
    rw [List.map_map, List.nodup_iff_pairwise_ne, List.pairwise_map] at nds
    rw [List.map_map, List.pairwise_map]
    rw [List.pairwise_map] at o
    refine (o.and nds).imp_of_mem fun {u v} mu mv h => ?_
    have h1 := h.1
    rw [rowOf_at zn (hz.mem_iff.mp mu), rowOf_at zn (hz.mem_iff.mp mv)] at h1
    have h1 : (u.2.op : Int) ≤ (v.2.op : Int) := h1
    have h2 : u.2.op ≠ v.2.op := h.2
    show u.2.op < v.2.op
    omega
end
end Ov
namespace Ov
open PySem PySem.Spec PyProof.Rows L2
/-- the rows of an instruction set of three -/
structure M59 (n a b : Nat) (is : List I4) : Prop where
  na : n ≠ a
  nb : n ≠ b
  ab : a ≠ b
  ln : n < 8
  la : a < 8
  lb : b < 8
  perm : is.Perm [iN n, iA a, iB b]
  asc : (is.map I4.op).Pairwise (· < ·)
theorem M59.pad {n a b : Nat} {is : List I4} (M : M59 n a b is) (x : Int) : padI is x = if (n : Int) = x then some (iN n) else none := by
  unfold padI
  have p : (is.filter fun x : I4 => x.pad).Perm [iN n] := M.perm.filter _
  rw [List.perm_singleton.mp p, List.find?_cons]
  by_cases h : (n : Int) = x
  · rw [if_pos h, decide_eq_true (show ((iN n).op : Int) = x from h)]
  · rw [if_neg h, decide_eq_false (show ¬ ((iN n).op : Int) = x from h), List.find?_nil]
theorem M59.ok {n a b : Nat} {is : List I4} (M : M59 n a b is) : TabOk 8 3 is := by
  have mem : ∀ x ∈ is, x = iN n ∨ x = iA a ∨ x = iB b := fun x hx => by
    have := M.perm.mem_iff.mp hx
    simpa using this
  have hl : is.length = 3 := M.perm.length_eq
  refine ⟨by omega, by omega, fun z => by rw [z] at hl; exact absurd hl (by decide), by omega, M.asc, fun x hx => ?_, fun x hx => ?_, fun x hx => ?_, ?_⟩
  · rcases mem x hx with rfl | rfl | rfl
    · exact M.ln
    · exact M.la
    · exact M.lb
  · rcases mem x hx with rfl | rfl | rfl
    · exact ⟨(by decide : 1 ≤ 1), (by decide : 1 ≤ 3)⟩
    · exact ⟨(by decide : 1 ≤ 1), (by decide : 1 ≤ 3)⟩
    · exact ⟨(by decide : 1 ≤ 2), (by decide : 2 ≤ 3)⟩
  · rcases mem x hx with rfl | rfl | rfl
    · exact (by decide : 1 ≤ [110].length ∧ [110].length ≤ 8 ∧ ∀ c ∈ [110], 97 ≤ c ∧ c ≤ 122)
    · exact (by decide : 1 ≤ [97].length ∧ [97].length ≤ 8 ∧ ∀ c ∈ [97], 97 ≤ c ∧ c ≤ 122)
    · exact (by decide : 1 ≤ [98].length ∧ [98].length ≤ 8 ∧ ∀ c ∈ [98], 97 ≤ c ∧ c ≤ 122)
  · exact (M.perm.map I4.nm).nodup_iff.mpr (by show [[110], [97], [98]].Nodup; decide)
theorem M59.okA {n a b : Nat} {is : List I4} (M : M59 n a b is) : StepOk 8 is (iA a, []) := ⟨M.perm.mem_iff.mpr (by simp), rfl, rfl, fun x h => nomatch h⟩
theorem M59.okB {n a b : Nat} {is : List I4} (M : M59 n a b is) : StepOk 8 is (iB b, [some (a : Int)]) := ⟨M.perm.mem_iff.mpr (by simp), rfl, rfl, fun x h => by
  have la := M.la
  have e : x = (a : Int) := by simpa using h
  omega⟩
theorem erase_map59 {α β : Type} (f : α → β) : ∀ (l : List α) (j : Nat), (l.map f).eraseIdx j = (l.eraseIdx j).map f
  | [], j => rfl
  | a :: l, 0 => rfl
  | a :: l, j + 1 => by
    rw [List.map_cons, List.eraseIdx_cons_succ, List.eraseIdx_cons_succ, List.map_cons, erase_map59 f l j]
section
variable {P : Program} {w : World} {K : PySem.W.Frag} {mg : Str → Option Value} {base : Heap}
def spMk (C : Addr) : Sp := fun vs H Q _ => ∃ (p : Addr) (T : Hp) (f : Nat), vs = [.ref p] ∧ Wd p T none0 H (f + 3) ∧
  ∀ H' T' r l x n a b it is rs, Same T T' → Wd p T' none0 H' f → T' r = some (.tup [.ref x, .ref l]) → H' l = some (.lst [nV n, nV a, nV b]) → l ≠ p → T' l = some (.lst [nV n, nV a, nV b]) → Mach C T' x 8 3 it is rs → M59 n a b is → Q (.ref r) H'
abbrev nMk59 : List Str := ["_law_box_here", "_law_left", "_law_spots", "_law_turn", "_law_rows"]
theorem scMk59 : FnScope nMk59 ["_law_box_here"] (defScope sMachine) := ⟨rfl, rfl, rfl, by decide +kernel, rfl, by decide +kernel, by decide +kernel⟩
theorem ok_mk59 {f C fIi fTk : Addr} {fd fdIi fdTk : FuncData} {k : Nat} (F : Fun K "_law_machine" "_law_machine" sMachine f fd) (T : Bi mg) (S : SetTxt K mg C) (MIi : L2.Mk K C fIi) (bIi : Binds K fdIi ["self", "byte_count", "instructions"] []) (GIi : FnOk P w K mg base CX0 k fIi fdIi ["self", "byte_count", "instructions"] (spInitI C)) (Tk : Def K mg "_law_take" sTake fTk fdTk ["_law_box_here", "_law_many"]) (GTk : FnOk P w K mg base CX0 (k + 1) fTk fdTk ["_law_box_here", "_law_many"] (spTake)) :
    FnOk P w K mg base CX0 (k + 2) f fd ["_law_box_here"] (spMk C) := by
  refine F.ok scMk59 (fun vs H Q E h => ?_) (fun cdv A' outer s H vs Q E hr h => ?_)
  · obtain ⟨p, T0, f, rfl, _⟩ := h
    rfl
  · obtain ⟨p, T0, f, rfl, W0, q⟩ := h
    refine ⟨_, pss_cons (ps_par (i := 1) (j := 2) (by rfl) scMk59.nd rfl rfl (by decide) rfl rfl (pa_cons (pe_listRange (by rfl) T.list (by rfl) T.range pe_int) (pa_cons (pe_lst pa_nil) pa_nil)) (by rfl))
      (pss_cons (ps_for PassesOwn.never rfl (pi_range1 (by rfl) T.range (pa_cons pe_int pa_nil)) (pg_name (i := 3) scMk59.nd rfl (.inl rfl)) (pss_one (ps_expr (pe_bm PySem.F.plainAttrs_list PySem.F.slot_list_append PySem.F.type_list_append mt_append (pv 2) (pa_cons (pe_bm PySem.F.plainAttrs_list PySem.F.slot_list_pop PySem.F.type_list_pop mt_popAt (pv 1) (pa_cons (pe_call GTk hr (by rfl) Tk.gl Tk.fn.kp Tk.bi .nil pass0 (pa_cons (pv 0) (pa_cons (pe_callB call_len_seq (by rfl) T.len PySem.boot_len (pa_cons (pv 1) pa_nil)) pa_nil))) pa_nil)) pa_nil)))))
      (pss_cons (ps_set (i := 4) scMk59.nd rfl (.inl rfl) (pe_lst (pa_cons (pe_tup (pa_cons (pe_ix ix_list (pv 2) pe_int (fun _ _ => rfl)) (pa_cons pe_str (pa_cons pe_int (pa_cons pe_bl pa_nil))))) (pa_cons (pe_tup (pa_cons (pe_ix ix_list (pv 2) pe_int (fun _ _ => rfl)) (pa_cons pe_str (pa_cons pe_int (pa_cons pe_bl pa_nil))))) (pa_cons (pe_tup (pa_cons (pe_ix ix_list (pv 2) pe_int (fun _ _ => rfl)) (pa_cons pe_str (pa_cons pe_int (pa_cons pe_bl pa_nil))))) pa_nil)))))
      (pss_one (ps_ret (pe_tup (pa_cons (pe_make MIi GIi hr (by rfl) S.mgC bIi .nil pass0 (pa_cons pe_int (pa_cons (pe_callTy call_tuple_of (by rfl) T.tuple (by decide +kernel) (pa_cons (pe_callB cr_sortR (by rfl) T.sorted (by decide +kernel) (pa_cons (pv 4) pa_nil)) pa_nil)) pa_nil))) (pa_cons (pv 2) pa_nil))))))), ?_⟩
    refine ⟨8, rfl, by decide, fun L nL => ?_⟩
    refine ⟨Nat.zero_le _, fun So nS => ⟨_, _, rfl, ?_⟩⟩
    have W1 := W0.newM (.lst ((List.range 8).map fun i : Nat => V.int (i : Int))) nL trivial
    have LS : L ≠ So := fun z => by rw [z, upd_same] at nS; cases nS
    have W2 := W1.newM (.lst []) nS trivial
    have Lp : L ≠ p := (W0.free nL).2.2
    have Sp : So ≠ p := (W1.free nS).2.2
    refine ⟨3, rfl, by decide, by decide, for_range (lo := 0) (fun i σ G => ∃ (ls dn : List Nat) (y3 y4 : Option V), σ = [some (.ref p), some (.ref L), some (.ref So), y3, y4] ∧ dn.length = i ∧ (ls ++ dn).Perm (List.range 8) ∧ Wd p T0 (upd (upd none0 L (.lst (ls.map nV))) So (.lst (dn.map nV))) G (f + (3 - i)))
      ⟨List.range 8, [], _, _, rfl, rfl, by rw [List.append_nil], W2⟩ ?_ ?_⟩
    · rintro i σ G hi ⟨ls, dn, y3, y4, rfl, dl, pm, Wg⟩
      refine ⟨_, rfl, ?_⟩
      have hL : G L = some (.lst (ls.map nV)) := Wg.mh _ _ (by rw [upd_ne LS]; exact upd_same)
      have hS : G So = some (.lst (dn.map nV)) := Wg.mh _ _ upd_same
      have ll : ls.length = 8 - i := by
        have := pm.length_eq
        rw [List.length_append, List.length_range] at this
        omega
      have W3 := Wg.mono (f' := f + (3 - (i + 1)) + 1) (by omega)
      obtain ⟨n, B, l37, up⟩ := W3.tk
      refine ⟨.inl ⟨rfl, _, SqL.of hS⟩, _, rfl, .inl ⟨rfl, _, SqL.of hL⟩, _, rfl, _, rfl, L, _, rfl, .inl (SqL.of hL), p, _, n, rfl, B, by omega, by rw [List.length_map]; omega, by rw [List.length_map]; omega, fun G1 d b1 B1 d0 d1 _ => ?_⟩
      have W4 := up b1 B1
      rw [List.length_map] at d1
      obtain ⟨j, rfl⟩ : ∃ j : Nat, d = (j : Int) := ⟨d.toNat, by omega⟩
      have hj : j < ls.length := by omega
      have hL1 : G1 L = some (.lst (ls.map nV)) := W4.mh _ _ (by rw [upd_ne LS]; exact upd_same)
      have W5 := W4.setM (L := L) (.lst ((ls.eraseIdx j).map nV)) (by rw [upd_ne LS, upd_same]; exact fun z => nomatch z) trivial
      have e5 : upd (upd (upd none0 L (.lst (ls.map nV))) So (.lst (dn.map nV))) L (.lst ((ls.eraseIdx j).map nV)) = upd (upd none0 L (.lst ((ls.eraseIdx j).map nV))) So (.lst (dn.map nV)) := by
        funext b
        by_cases h : b = L
        · subst h
          rw [upd_same, upd_ne LS, upd_same]
        · rw [upd_ne h]
          by_cases h2 : b = So
          · subst h2
            rw [upd_same, upd_same]
          · rw [upd_ne h2, upd_ne h2, upd_ne h, upd_ne h]
      rw [e5] at W5
      have eE : (ls.map nV).eraseIdx j = (ls.eraseIdx j).map nV := erase_map59 _ _ _
      refine ⟨L, _, (j : Int), j, _, rfl, rfl, hL1, by omega, by omega, (ixN_seq (ixN_at (by rw [List.length_map]; exact hj))).1, (by rw [List.getElem?_map, List.getElem?_eq_getElem hj]; rfl), ?_⟩
      rw [eE]
      refine ⟨So, _, _, rfl, rfl, W5.mh _ _ upd_same, by rw [List.length_map]; exact Nat.lt_of_lt_of_le (by omega) (show 3 ≤ sizeLine by decide), ?_⟩
      have W6 := W5.setL (.lst (dn.map nV ++ [nV ls[j]])) trivial
      refine ⟨ls.eraseIdx j, dn ++ [ls[j]], _, _, rfl, by rw [List.length_append, dl]; rfl, ?_, by rw [List.map_append]; exact W6⟩
      refine List.Perm.trans ?_ pm
      have e1 : ls = ls.take j ++ ls[j] :: ls.drop (j + 1) := by
        rw [← List.drop_eq_getElem_cons hj, List.take_append_drop]
      rw [List.eraseIdx_eq_take_drop_succ]
      conv => rhs; rw [e1]
      rw [List.append_assoc, List.append_assoc, List.cons_append]
      refine List.Perm.append_left _ ?_
      rw [← List.append_assoc]
      exact List.perm_append_comm
    · rintro σ G ⟨ls, dn, y3, y4, rfl, dl, pm, Wg⟩
      match dn, dl with
      | [n, a, b], _ =>
      have hS : G So = some (.lst [nV n, nV a, nV b]) := Wg.mh _ _ upd_same
      have ndr : (List.range 8).Nodup := List.nodup_range
      have nd := pm.nodup_iff.mpr ndr
      have lt : ∀ x ∈ [n, a, b], x < 8 := fun x hx => List.mem_range.mp (pm.mem_iff.mp (List.mem_append_right _ hx))
      have nd3 : [n, a, b].Nodup := (List.nodup_append.mp nd).2.1
      have na : n ≠ a := fun z => by rw [z] at nd3; simp at nd3
      have nb : n ≠ b := fun z => by rw [z] at nd3; simp at nd3
      have ab : a ≠ b := fun z => by rw [z] at nd3; simp at nd3
      have nSo : (upd none0 L (.lst (ls.map nV))) So = none := by rw [upd_ne (Ne.symm LS)]; rfl
      have V0 := (Wg.freeze nSo).drop (show none0 L = none from rfl)
      have sT := Wg.frT (L := So)
      have hT : (upd T0 So (.lst ([n, a, b].map nV))) So = some (.lst [nV n, nV a, nV b]) := upd_same
      generalize upd T0 So (.lst ([n, a, b].map nV)) = T1 at *
      -- the rows
      refine ⟨_, rfl, So, _, (0 : Int), _, rfl, rfl, SqL.of hS, rfl, (show 4 ≤ sizeLine by decide), fun t1 n1 => ?_⟩
      have V1 := V0.put (.tup (iN n).vs) n1
      have u1 := V0.putT (.tup (iN n).vs) n1
      have a1 : upd T1 t1 (.tup (iN n).vs) t1 = some (.tup (iN n).vs) := upd_same
      have hS1 := (same_upd (o := HO.tup (iN n).vs) n1) _ _ hS
      have hT1 := u1 _ _ hT
      refine ⟨_, rfl, So, _, (1 : Int), _, rfl, rfl, SqL.of hS1, rfl, (show 4 ≤ sizeLine by decide), fun t2 n2 => ?_⟩
      have V2 := V1.put (.tup (iA a).vs) n2
      have u2 := V1.putT (.tup (iA a).vs) n2
      have hT2 := u2 _ _ hT1
      have hS2 := (same_upd (o := HO.tup (iA a).vs) n2) _ _ hS1
      have a2 := u2 _ _ a1
      have b2 : upd (upd T1 t1 (.tup (iN n).vs)) t2 (.tup (iA a).vs) t2 = some (.tup (iA a).vs) := upd_same
      refine ⟨_, rfl, So, _, (2 : Int), _, rfl, rfl, SqL.of hS2, rfl, (show 4 ≤ sizeLine by decide), fun t3 n3 => ?_⟩
      have V3 := V2.put (.tup (iB b).vs) n3
      have u3 := V2.putT (.tup (iB b).vs) n3
      have hT3 := u3 _ _ hT2
      have a3 := u3 _ _ a2
      have b3 := u3 _ _ b2
      have c3 : upd (upd (upd T1 t1 (.tup (iN n).vs)) t2 (.tup (iA a).vs)) t3 (.tup (iB b).vs) t3 = some (.tup (iB b).vs) := upd_same
      have sT3 := sT.trans (u1.trans (u2.trans u3))
      refine ⟨(show 3 ≤ sizeLine by decide), fun Lr n4 => ?_⟩
      have V4 := V3.put (.lst [.ref t1, .ref t2, .ref t3]) n4
      have u4 := V3.putT (.lst [.ref t1, .ref t2, .ref t3]) n4
      have hT4 := u4 _ _ hT3
      have R4 : Rows (upd (upd (upd (upd T1 t1 (.tup (iN n).vs)) t2 (.tup (iA a).vs)) t3 (.tup (iB b).vs)) Lr (.lst [.ref t1, .ref t2, .ref t3])) [t1, t2, t3] [iN n, iA a, iB b] := ⟨rfl, fun i r x h1 h2 => by
        match i with
        | 0 => cases h1; cases h2; exact u4 _ _ a3
        | 1 => cases h1; cases h2; exact u4 _ _ b3
        | 2 => cases h1; cases h2; exact u4 _ _ c3
        | i + 3 => cases h1⟩
      have sT4 := sT3.trans u4
      have hL4 : (upd (upd (upd (upd G t1 (.tup (iN n).vs)) t2 (.tup (iA a).vs)) t3 (.tup (iB b).vs)) Lr (.lst [.ref t1, .ref t2, .ref t3])) Lr = some (.lst ([t1, t2, t3].map V.ref)) := upd_same
      generalize upd (upd (upd (upd T1 t1 (.tup (iN n).vs)) t2 (.tup (iA a).vs)) t3 (.tup (iB b).vs)) Lr (.lst [.ref t1, .ref t2, .ref t3]) = T4 at *
      have eG : (upd (upd (upd (upd G t1 (.tup (iN n).vs)) t2 (.tup (iA a).vs)) t3 (.tup (iB b).vs)) Lr (.lst [.ref t1, .ref t2, .ref t3])) = _ := rfl
      generalize hG4 : (upd (upd (upd (upd G t1 (.tup (iN n).vs)) t2 (.tup (iA a).vs)) t3 (.tup (iB b).vs)) Lr (.lst [.ref t1, .ref t2, .ref t3])) = G4 at V4 hL4
      have nd0 : (([iN n, iA a, iB b]).map I4.op).Nodup := nd3
      have R4' : Rows G4 [t1, t2, t3] [iN n, iA a, iB b] := R4.same V4.th
      obtain ⟨pr1, pr2⟩ := sort_rows_pre (K := K) R4' nd0
      show gName 4 _ _ (upd (upd (upd (upd G t1 (.tup (iN n).vs)) t2 (.tup (iA a).vs)) t3 (.tup (iB b).vs)) Lr (.lst [.ref t1, .ref t2, .ref t3])) _
      rw [hG4]
      refine ⟨_, rfl, Lr, _, _, rfl, SqL.of hL4, (by decide : 3 < 64), pr1, pr2, fun ys p5 pys oys n5 => ?_⟩
      obtain ⟨rs, is, rfl, R5, pis, asc⟩ := rows_sorted R4 nd0 pys oys
      have M : M59 n a b is := ⟨na, nb, ab, lt n (by simp), lt a (by simp), lt b (by simp), pis, asc⟩
      have V5 := V4.put (.lst (rs.map V.ref)) n5
      have u5 := V4.putT (.lst (rs.map V.ref)) n5
      refine ⟨p5, _, rfl, .inl ⟨SqL.of upd_same, fun it n6 => ?_⟩⟩
      have V6 := V5.put (.tup (rs.map V.ref)) n6
      have u6 := V5.putT (.tup (rs.map V.ref)) n6
      have R6 := (R5.same u5).same u6
      have hT6 := u6 _ _ (u5 _ _ hT4)
      have i6 : upd (upd T4 p5 (.lst (rs.map V.ref))) it (.tup (rs.map V.ref)) it = some (.tup (rs.map V.ref)) := upd_same
      have sT6 := sT4.trans (u5.trans u6)
      generalize upd (upd T4 p5 (.lst (rs.map V.ref))) it (.tup (rs.map V.ref)) = T6 at *
      generalize upd (upd G4 p5 (.lst (rs.map V.ref))) it (.tup (rs.map V.ref)) = G6 at *
      intro x dx nx ndx hne
      have s4x : Same G6 (upd (upd G6 dx (.own x)) x (.ins C dx [])) := fun b o e => by
        rw [upd_ne (ne_of_none e nx), upd_ne (ne_of_none e ndx)]
        exact e
      refine ⟨x, dx, 8, 3, it, rs, is, rfl, upd_same, s4x _ _ (V6.th _ _ i6), (R6.same V6.th).same s4x, M.ok, fun H5 SA kp => ⟨rfl, ?_⟩⟩
      obtain ⟨V7, Mc⟩ := V6.mach i6 R6 M.ok nx ndx SA kp
      have V8 := V7.rest
      have Mc8 := Mc.rest0 V7
      have s8 := V7.restT
      refine ⟨_, rfl, (show 2 ≤ sizeLine by decide), fun r nr => ?_⟩
      have V9 := V8.put (.tup [.ref x, .ref So]) nr
      have u9 := V8.putT (.tup [.ref x, .ref So]) nr
      exact q _ _ r So x n a b it is rs (sT6.trans (s8.trans u9)) (V9.mono (by omega)) upd_same (V9.th _ _ (u9 _ _ (s8 _ _ hT6))) Sp (u9 _ _ (s8 _ _ hT6)) (Mc8.same u9) M
end
end Ov
namespace Ov
open PySem PySem.Spec PyProof.Rows L2
theorem noL_dsts : ∀ os : List (Option Dst), noListAll (os.map odD) = true
  | [] => rfl
  | o :: os => by
    rw [List.map_cons]
    simp only [noListAll]
    rw [noL_dsts os]
    cases o <;> rfl
theorem noL_sta (s : Sta) : noList (stD s) = true := by
  unfold stD
  simp only [noList, noListAll]
  rw [noL_dsts]
  rfl
end Ov
namespace Ov
open PySem PySem.Spec PyProof.Rows L2
theorem dcnt_small {cnt : Nat} {is : List I4} (ok : TabOk cnt 3 is) {ps : List PStep} (l : ps.length ≤ 3) (h : ∀ x ∈ ps, StepOk cnt is x) : dcnt is ps ≤ 18 := by
  have h1 : lrOf is ≤ 2 := fmax_le _ 0 2 (by decide) fun z hz => by
    obtain ⟨y, hy, rfl⟩ := List.mem_map.mp hz
    have := ok.len y (List.mem_filter.mp hy).1
    omega
  have h2 : opsN ps ≤ 2 * ps.length := by
    clear l
    induction ps with
    | nil => exact Nat.le_refl _
    | cons x ps ih =>
      have := ih fun y hy => h y (List.mem_cons_of_mem _ hy)
      have hx := h x List.mem_cons_self
      have := ok.len x.1 hx.mem
      have := hx.len
      unfold opsN at *
      rw [List.map_cons, List.sum_cons, List.length_cons]
      omega
  have h3 : (ps.length + 1) * lrOf is ≤ 4 * 2 := Nat.mul_le_mul (by omega) h1
  unfold dcnt
  omega
theorem stc_gen {is : List I4} {pss : List (List PStep)} {gs : List Nat} {G D : Nat} (l2 : pss.length ≤ 2) (d1 : 1 ≤ D) (dl : ∀ ps ∈ pss, dcnt is ps ≤ D) (lz : ∀ g ∈ gs, g ≤ G) : stcN is pss gs ≤ (G + 1) * D * D := by
  have lz : gs.getLast?.getD 0 ≤ G := by
    cases e : gs.getLast? with
    | none => exact Nat.zero_le _
    | some z => exact lz z (List.mem_of_getLast? e)
  unfold stcN
  match pss, l2, dl with
  | [], _, _ =>
    show _ + 1 ≤ _
    refine Nat.le_trans (Nat.succ_le_succ lz) ?_
    rw [Nat.mul_assoc]
    exact Nat.le_mul_of_pos_right _ (Nat.mul_pos d1 d1)
  | [a], _, dl =>
    show (_ + 1) * dcnt is a ≤ _
    exact Nat.le_trans (Nat.mul_le_mul (Nat.succ_le_succ lz) (dl a (by simp))) (Nat.le_mul_of_pos_right _ d1)
  | [a, b], _, dl =>
    show (_ + 1) * dcnt is a * dcnt is b ≤ _
    exact Nat.mul_le_mul (Nat.mul_le_mul (Nat.succ_le_succ lz) (dl a (by simp))) (dl b (by simp))
  | _ :: _ :: _ :: _, l2, _ => simp at l2
end Ov
namespace Ov
open PySem PySem.Spec PyProof.Rows L2
def rev5 {α : Type} : List α → List α → List α
  | [], [a, b, c, d, e] => [e, d, c, b, a]
  | _, _ => []
def mix5 {α : Type} : List α → List α → List α
  | [], [s, i, b, p, e] => [i, p, e, s, b]
  | _, _ => []
theorem rev5_len {α : Type} {us ws : List α} (h : (rev5 us ws).length = 5) : ∃ a b c d e, us = [] ∧ ws = [a, b, c, d, e] := by
  unfold rev5 at h
  split at h
  · exact ⟨_, _, _, _, _, rfl, rfl⟩
  · cases h
theorem mix5_len {α : Type} {us ws : List α} (h : (mix5 us ws).length = 5) : ∃ a b c d e, us = [] ∧ ws = [a, b, c, d, e] := by
  unfold mix5 at h
  split at h
  · exact ⟨_, _, _, _, _, rfl, rfl⟩
  · cases h
theorem rev5_rel {vs : List V} {us : List Value} {zs : List V} {ws : List Value} (r : Vals vs us) (rz : Vals zs ws) : Vals (rev5 vs zs) (rev5 us ws) := by
  cases r with
  | nil =>
    cases rz with
    | nil => exact .nil
    | cons r1 rz =>
      cases rz with
      | nil => exact .nil
      | cons r2 rz =>
        cases rz with
        | nil => exact .nil
        | cons r3 rz =>
          cases rz with
          | nil => exact .nil
          | cons r4 rz =>
            cases rz with
            | nil => exact .nil
            | cons r5 rz =>
              cases rz with
              | nil => exact .cons r5 (.cons r4 (.cons r3 (.cons r2 (.cons r1 .nil))))
              | cons r6 rz => exact .nil
  | cons r1 r => exact .nil
theorem mix5_rel {vs : List V} {us : List Value} {zs : List V} {ws : List Value} (r : Vals vs us) (rz : Vals zs ws) : Vals (mix5 vs zs) (mix5 us ws) := by
  cases r with
  | nil =>
    cases rz with
    | nil => exact .nil
    | cons r1 rz =>
      cases rz with
      | nil => exact .nil
      | cons r2 rz =>
        cases rz with
        | nil => exact .nil
        | cons r3 rz =>
          cases rz with
          | nil => exact .nil
          | cons r4 rz =>
            cases rz with
            | nil => exact .nil
            | cons r5 rz =>
              cases rz with
              | nil => exact .cons r2 (.cons r4 (.cons r5 (.cons r1 (.cons r3 .nil))))
              | cons r6 rz => exact .nil
  | cons r1 r => exact .nil
end Ov
namespace Ov
open PySem PySem.Spec PyProof.Rows L2
theorem ov_run {cnt lg : Nat} {is : List I4} (ok : TabOk cnt lg is) {pss : List (List PStep)} {gs : List Nat} (pl : Plns cnt is pss) (oe : Ents gs) (lgp : gs.length = pss.length) {bs : List Int} : ovB is bs pss gs = true ↔ Bf.runB (stepS is pss gs) (first0 gs) bs = some (finS pss gs) := by
  rw [run_row lgp oe.asc bs.length bs (Nat.le_refl _)]
  exact ov_state ok pl oe lgp
theorem M59.plns {n a b : Nat} {is : List I4} (M : M59 n a b is) : Plns 8 is (pl59 a b) := ⟨(by decide : 1 ≤ 2), (by decide : 2 ≤ 3), fun ps hps => by
  have e : ps = [(iB b, [some (a : Int)])] ∨ ps = [(iA a, [])] := by
    rw [pl59_eq] at hps
    simpa using hps
  rcases e with rfl | rfl
  · exact ⟨(by decide : 1 ≤ 12), fun x hx => by rw [List.mem_singleton.mp hx]; exact M.okB⟩
  · exact ⟨(by decide : 1 ≤ 12), fun x hx => by rw [List.mem_singleton.mp hx]; exact M.okA⟩⟩
theorem ents59 : Ents [0, 1] := ⟨rfl, by simp, by decide, by decide⟩
theorem asked59 {K : PySem.W.Frag} {C : Addr} {H : Hp} {x l g n a b : Nat} {it : Addr} {is : List I4} {rs : List Addr} {xs : List V} (M : M59 n a b is) (Mc : Mach C H x 8 3 it is rs) (hl : SqT K H l xs) (dl : DxAll K H xs ((pl59 a b).map planD)) (hg : SqT K H g (entV [0, 1])) : Asked K C H x l g 8 3 it is rs xs (pl59 a b) [0, 1] := by
  have d18 : ∀ ps ∈ pl59 a b, dcnt is ps ≤ 18 := fun ps hps => by
    have e : ps = [(iB b, [some (a : Int)])] ∨ ps = [(iA a, [])] := by
      rw [pl59_eq] at hps
      simpa using hps
    refine dcnt_small M.ok ?_ (M.plns.ok ps hps).2
    rcases e with rfl | rfl
    · exact (by decide : 1 ≤ 3)
    · exact (by decide : 1 ≤ 3)
  refine ⟨Mc, hl, dl, M.plns, hg, ents59, rfl, fun ps hps => Nat.le_trans (d18 ps hps) (by decide), ?_⟩
  exact Nat.le_trans (stc_gen (G := 1) (D := 18) (show 2 ≤ 2 by decide) (by decide) d18 (by decide)) (by decide)
theorem sok_s {a b : Nat} : StaOk (pl59 a b) [0, 1] s59 := by
  refine ⟨rfl, fun i d ps h1 h2 => ?_, (by decide : 0 ≤ 1000)⟩
  match i with
  | 0 =>
    cases h1
    cases h2
    exact ⟨(by decide : 0 ≤ 1), (fun z => nomatch z), (by decide : 0 ≤ 12), fun _ z => absurd z (by decide)⟩
  | 1 => cases h1
  | i + 2 => cases h1
theorem sok_t {a b : Nat} : StaOk (pl59 a b) [0, 1] t59 := by
  refine ⟨rfl, fun i d ps h1 h2 => ?_, (by decide : 1 ≤ 1000)⟩
  match i with
  | 0 =>
    cases h1
    cases h2
    exact ⟨(by decide : 0 ≤ 1), (fun z => nomatch z), (by decide : 1 ≤ 12), fun _ _ => ⟨_, rfl, (by decide : 1 ≤ 1)⟩⟩
  | 1 =>
    cases h1
    cases h2
    exact ⟨(by decide : 0 ≤ 1), (fun z => nomatch z), (by decide : 0 ≤ 12), fun _ z => absurd z (by decide)⟩
  | i + 2 => cases h1
theorem same_set {T G : Hp} {L : Addr} {o : HO} (s : Same T G) (n : T L = none) : Same T (upd G L o) := fun b u e => by
  rw [upd_ne (ne_of_none e n)]
  exact s _ _ e
theorem hide_set {C : Hp} {L : Addr} {o : HO} : Same (hide L C) (upd C L o) := fun b u e => by
  unfold hide at e
  by_cases h : b = L
  · rw [if_pos h] at e
    cases e
  · rw [if_neg h] at e
    rw [upd_ne h]
    exact e
theorem shows59 : Shows (.list [stD t59, stD t59]) := ⟨by decide +kernel, fun z => absurd z (by decide +kernel), by decide +kernel, by decide +kernel⟩
theorem sh_ints2 (i j : Int) : SeqAt.shaped (.list [.int i, .int j]) = true := by
  refine Bool.and_eq_true_iff.mpr ⟨?_, decide_eq_true ?_⟩
  · simp [PyData.canLay0, PyData.canLayAll0]
  · simp [PyData.depth, PyData.depthAll]
theorem sh_rows2 (a b c d e f : Int) : SeqAt.shaped (.list [.tuple [.int a, .int b, .int c], .tuple [.int d, .int e, .int f]]) = true := by
  refine Bool.and_eq_true_iff.mpr ⟨?_, decide_eq_true ?_⟩
  · simp [PyData.canLay0, PyData.canLayAll0]
  · simp [PyData.depth, PyData.depthAll]
section
variable {P : Program} {w : World} {K : PySem.W.Frag} {mg : Str → Option Value} {base : Heap}
def spLaw (K : PySem.W.Frag) : Sp := fun vs H Q _ => ∃ (a : Addr) (ns : List Int), vs = [.ref a] ∧ SqL K H a (ns.map V.int) ∧ ns.length ≤ 63 ∧ ∀ H', Q (.bl true) H'
abbrev nLaw : List Str := ["_law_script", "_law_k", "_law_machine_here", "_law_n", "_law_a", "_law_b", "_law_plans", "_law_gates", "_law_begin", "_law_later", "_law_told", "_law_counts", "_law_rows", "_law_numbers"]
theorem scLaw : FnScope nLaw ["_law_script"] (defScope sLaw) := ⟨rfl, rfl, rfl, by decide +kernel, rfl, by decide +kernel, by decide +kernel⟩
theorem ok_law {f C Cm Cg fOverlayNumber fOverlayAt fOverlayCount fNextState fLMachine fBo : Addr} {fd fdOverlayNumber fdOverlayAt fdOverlayCount fdNextState fdLMachine fdBo : FuncData} {k : Nat} (F : Fun K "law" "law" sLaw f fd) (T : Bi mg) (S : SetTxt K mg C) (OverlayNumber : Def K mg "overlay_number" s_overlay_number fOverlayNumber fdOverlayNumber ["instruction_set", "programs", "entries", "code"]) (GOverlayNumber : FnOk P w K mg base CX0 k fOverlayNumber fdOverlayNumber ["instruction_set", "programs", "entries", "code"] (spNumber K C Cm Cg)) (KOverlayNumber : KBinds K fdOverlayNumber ["instruction_set", "programs", "entries", "code"] ["code", "entries", "programs", "instruction_set"] rev4 rev4) (OverlayAt : Def K mg "overlay_at" s_overlay_at fOverlayAt fdOverlayAt ["instruction_set", "programs", "entries", "length", "number"]) (GOverlayAt : FnOk P w K mg base CX0 k fOverlayAt fdOverlayAt ["instruction_set", "programs", "entries", "length", "number"] (spAt K C Cm Cg)) (KOverlayAt : KBinds K fdOverlayAt ["instruction_set", "programs", "entries", "length", "number"] ["number", "length", "entries", "programs", "instruction_set"] rev5 rev5) (OverlayCount : Def K mg "overlay_count" s_overlay_count fOverlayCount fdOverlayCount ["instruction_set", "programs", "entries", "length"]) (GOverlayCount : FnOk P w K mg base CX0 k fOverlayCount fdOverlayCount ["instruction_set", "programs", "entries", "length"] (spCount K C Cm Cg)) (KOverlayCount : KBinds K fdOverlayCount ["instruction_set", "programs", "entries", "length"] ["length", "entries", "programs", "instruction_set"] rev4 rev4) (NextState : Def K mg "next_state" s_next_state fNextState fdNextState ["instruction_set", "programs", "entries", "state", "byte"]) (GNextState : FnOk P w K mg base CX0 k fNextState fdNextState ["instruction_set", "programs", "entries", "state", "byte"] (spNext K C Cm)) (KNextState : KBinds K fdNextState ["instruction_set", "programs", "entries", "state", "byte"] ["byte", "state", "entries", "programs", "instruction_set"] rev5 rev5) (KNextStateB : KBinds K fdNextState ["instruction_set", "programs", "entries", "state", "byte"] ["state", "instruction_set", "byte", "programs", "entries"] mix5 mix5) (LMachine : Def K mg "_law_machine" sMachine fLMachine fdLMachine ["_law_box_here"]) (GLMachine : FnOk P w K mg base CX0 k fLMachine fdLMachine ["_law_box_here"] (spMk C)) (Bo : Def K mg "_law_box" sBox fBo fdBo ["_law_script", "_law_k"]) (GBo : FnOk P w K mg base CX0 k fBo fdBo ["_law_script", "_law_k"] (spBox K)) :
    FnG P w K mg base (k + 1) f fd ["_law_script"] (spLaw K) := by
  refine okG F scLaw (fun vs H Q E h => ?_) (fun cdv A' outer s H vs Q E gd hr h => ?_)
  · obtain ⟨a, ns, rfl, _⟩ := h
    rfl
  · obtain ⟨sa, ns, rfl, hS, hlen, q⟩ := h
    refine ⟨_, pss_cons (ps_for PassesOwn.never rfl (pi_range1 (by rfl) T.range (pa_cons (pe_callB (call_max2 rfl) (by rfl) T.max (by decide +kernel) (pa_cons pe_int (pa_cons (pe_callB (call_min2 rfl) (by rfl) T.min (by decide +kernel) (pa_cons pe_int (pa_cons (pe_callB call_len_seq (by rfl) T.len PySem.boot_len (pa_cons (pv 0) pa_nil)) pa_nil))) pa_nil))) pa_nil)) (pg_name (i := 1) scLaw.nd rfl (.inl rfl)) (pss_cons (ps_asg (pe_call GLMachine hr (by rfl) LMachine.gl LMachine.fn.kp LMachine.bi .nil pass0 (pa_cons (pe_call GBo hr (by rfl) Bo.gl Bo.fn.kp Bo.bi .nil pass0 (pa_cons (pv 0) (pa_cons (pv 1) pa_nil))) pa_nil)) (pg_tup rfl (pgs_cons (pg_name (i := 2) scLaw.nd rfl (.inl rfl)) (pgs_cons (pg_lst rfl (pgs_cons (pg_name (i := 3) scLaw.nd rfl (.inl rfl)) (pgs_cons (pg_name (i := 4) scLaw.nd rfl (.inl rfl)) (pgs_cons (pg_name (i := 5) scLaw.nd rfl (.inl rfl)) pgs_nil)))) pgs_nil))))
      (pss_cons (ps_par (i := 6) (j := 7) (by rfl) scLaw.nd rfl rfl (by decide) rfl rfl (pa_cons (pe_tup (pa_cons (pe_tup (pa_cons (pe_tup (pa_cons pe_str (pa_cons (pe_tup (pa_cons (pv 4) pa_nil)) pa_nil))) pa_nil)) (pa_cons (pe_tup (pa_cons (pe_tup (pa_cons pe_str (pa_cons (pe_tup pa_nil) pa_nil))) pa_nil)) pa_nil))) (pa_cons (pe_tup (pa_cons pe_int (pa_cons pe_int pa_nil))) pa_nil)) (by rfl))
      (pss_cons (ps_asg (pe_tup (pa_cons (pe_tup (pa_cons pe_int (pa_cons (pe_tup (pa_cons (pe_tup (pa_cons pe_int (pa_cons pe_bl (pa_cons pe_int pa_nil)))) (pa_cons pe_non pa_nil))) pa_nil))) (pa_cons (pe_tup (pa_cons pe_int (pa_cons (pe_tup (pa_cons (pe_tup (pa_cons pe_int (pa_cons pe_bl (pa_cons pe_int pa_nil)))) (pa_cons (pe_tup (pa_cons pe_int (pa_cons pe_bl (pa_cons pe_int pa_nil)))) pa_nil))) pa_nil))) pa_nil))) (pg_tup rfl (pgs_cons (pg_name (i := 8) scLaw.nd rfl (.inl rfl)) (pgs_cons (pg_name (i := 9) scLaw.nd rfl (.inl rfl)) pgs_nil))))
      (pss_cons (ps_set (i := 10) scLaw.nd rfl (.inl rfl) (pe_lst (pa_cons (pe_call GNextState hr (by rfl) NextState.gl NextState.fn.kp NextState.bi .nil pass0 (pa_cons (pv 2) (pa_cons (pv 6) (pa_cons (pv 7) (pa_cons (pv 8) (pa_cons (pv 5) pa_nil)))))) pa_nil)))
      (pss_cons (ps_expr (pe_bm PySem.F.plainAttrs_list PySem.F.slot_list_append PySem.F.type_list_append mt_append (pv 10) (pa_cons (pe_callK0 GNextState hr (by rfl) NextState.gl NextState.fn.kp KNextState pass0 (pk_cons (pv 5) (pk_cons (pv 8) (pk_cons (pv 7) (pk_cons (pv 6) (pk_cons (pv 2) pk_nil)))))) pa_nil)))
      (pss_cons (ps_if (pt_cmpR op_ne (pe_callB (call_repr_x gd hr) (by rfl) T.repr (by decide +kernel) (pa_cons (pv 10) pa_nil)) (pe_callB (call_repr_x gd hr) (by rfl) T.repr (by decide +kernel) (pa_cons (pe_lst (pa_cons (pv 9) (pa_cons (pv 9) pa_nil))) pa_nil)) (nomark _)) (pss_one (ps_ret pe_bl)) pss_nil)
      (pss_cons (ps_if (pt_cmpR op_notN (pe_callK0 GNextState hr (by rfl) NextState.gl NextState.fn.kp KNextStateB pass0 (pk_cons (pv 9) (pk_cons (pv 2) (pk_cons (pv 3) (pk_cons (pv 6) (pk_cons (pv 7) pk_nil)))))) pe_non (nomark _)) (pss_one (ps_ret pe_bl)) pss_nil)
      (pss_cons (ps_set (i := 11) scLaw.nd rfl (.inl rfl) (pe_lst (pa_cons (pe_call GOverlayCount hr (by rfl) OverlayCount.gl OverlayCount.fn.kp OverlayCount.bi .nil pass0 (pa_cons (pv 2) (pa_cons (pv 6) (pa_cons (pv 7) (pa_cons pe_int pa_nil))))) pa_nil)))
      (pss_cons (ps_expr (pe_bm PySem.F.plainAttrs_list PySem.F.slot_list_append PySem.F.type_list_append mt_append (pv 11) (pa_cons (pe_callK0 GOverlayCount hr (by rfl) OverlayCount.gl OverlayCount.fn.kp KOverlayCount pass0 (pk_cons pe_int (pk_cons (pv 7) (pk_cons (pv 6) (pk_cons (pv 2) pk_nil))))) pa_nil)))
      (pss_cons (ps_if (pt_cmpR (op_neD hr.units) (pv 11) (pe_lst (pa_cons pe_int (pa_cons pe_int pa_nil))) (nomark _)) (pss_one (ps_ret pe_bl)) pss_nil)
      (pss_cons (ps_set (i := 12) scLaw.nd rfl (.inl rfl) (pe_lst (pa_cons (pe_call GOverlayAt hr (by rfl) OverlayAt.gl OverlayAt.fn.kp OverlayAt.bi .nil pass0 (pa_cons (pv 2) (pa_cons (pv 6) (pa_cons (pv 7) (pa_cons pe_int (pa_cons pe_int pa_nil)))))) pa_nil)))
      (pss_cons (ps_expr (pe_bm PySem.F.plainAttrs_list PySem.F.slot_list_append PySem.F.type_list_append mt_append (pv 12) (pa_cons (pe_callK0 GOverlayAt hr (by rfl) OverlayAt.gl OverlayAt.fn.kp KOverlayAt pass0 (pk_cons pe_int (pk_cons pe_int (pk_cons (pv 7) (pk_cons (pv 6) (pk_cons (pv 2) pk_nil)))))) pa_nil)))
      (pss_cons (ps_set (i := 13) scLaw.nd rfl (.inl rfl) (pe_lst (pa_cons (pe_call GOverlayNumber hr (by rfl) OverlayNumber.gl OverlayNumber.fn.kp OverlayNumber.bi .nil pass0 (pa_cons (pv 2) (pa_cons (pv 6) (pa_cons (pv 7) (pa_cons (pe_tup (pa_cons (pv 5) (pa_cons (pv 4) (pa_cons (pv 3) pa_nil)))) pa_nil))))) pa_nil)))
      (pss_cons (ps_expr (pe_bm PySem.F.plainAttrs_list PySem.F.slot_list_append PySem.F.type_list_append mt_append (pv 13) (pa_cons (pe_callK0 GOverlayNumber hr (by rfl) OverlayNumber.gl OverlayNumber.fn.kp KOverlayNumber pass0 (pk_cons (pe_tup (pa_cons (pv 5) (pa_cons (pv 4) (pa_cons (pv 3) pa_nil)))) (pk_cons (pv 7) (pk_cons (pv 6) (pk_cons (pv 2) pk_nil))))) pa_nil)))
      (pss_one (ps_if (PW.pt (pw_or (pt_cmpR (op_neD hr.units) (pv 12) (pe_op op_rep (pe_lst (pa_cons (pe_tup (pa_cons (pv 5) (pa_cons (pv 4) (pa_cons (pv 3) pa_nil)))) pa_nil)) pe_int) (nomark _)) (pw_or1 (pt_cmpR (op_neD hr.units) (pv 13) (pe_lst (pa_cons pe_int (pa_cons pe_int pa_nil))) (nomark _))))) (pss_one (ps_ret pe_bl)) pss_nil)))))))))))))))))
      (pss_one (ps_ret pe_bl)), ?_⟩
    refine ⟨_, rfl, sa, _, rfl, .inl hS, _, _, rfl, _, _, rfl, _, rfl, ?_, ?_, for_range (lo := 0) (fun i σ H2 => ∃ y1 y2 y3 y4 y5 y6 y7 y8 y9 y10 y11 y12 y13, σ = [some (.ref sa), y1, y2, y3, y4, y5, y6, y7, y8, y9, y10, y11, y12, y13] ∧ Same H H2)
      ⟨_, _, _, _, _, _, _, _, _, _, _, _, _, rfl, Same.refl _⟩ ?_ (fun σ G _ => q G)⟩
    · split <;> split <;> omega
    · split <;> split <;> omega
    rintro i σ G0 hi ⟨y1, y2, y3, y4, y5, y6, y7, y8, y9, y10, y11, y12, y13, rfl, s0⟩
    have hi4 : i < 63 := by
      revert hi
      split <;> split <;> omega
    rw [Int.zero_add]
    refine ⟨_, rfl, _, rfl, sa, ns, i, rfl, s0.seq hS, by omega, fun H1 p s1 np B1 => ?_⟩
    have W1 := (Wd.init s1 np B1).mono (f' := 2 ^ 36 + 3) (by omega)
    refine ⟨p, G0, 2 ^ 36, rfl, W1, fun H2 T2 r l x n a b it is rs s2 W2 hrr hl lp _ Mc M => ?_⟩
    have U2 := s0.trans (s2.trans W2.th)
    have Mc := Mc.same W2.th
    refine ⟨r, _, rfl, SqT.of (W2.th _ _ hrr), rfl, _, _, rfl, _, _, rfl, ⟨l, _, rfl, SqL.of hl, rfl, _, _, rfl, _, _, rfl, _, _, rfl, rfl, ?_⟩⟩
    refine ⟨rfl, _, rfl, (show 1 ≤ sizeLine by decide), fun t1 n1 => ?_⟩
    have st1 := same_upd (o := HO.tup [nV a]) n1
    have h1 : upd H2 t1 (HO.tup [nV a]) t1 = some (.tup [nV a]) := upd_same
    generalize upd H2 t1 (HO.tup [nV a]) = A1 at *
    refine ⟨(show 2 ≤ sizeLine by decide), fun t2 n2 => ?_⟩
    have st2 := same_upd (o := HO.tup [V.str "b", V.ref t1]) n2
    have h2 : upd A1 t2 (HO.tup [V.str "b", V.ref t1]) t2 = some (.tup [V.str "b", V.ref t1]) := upd_same
    generalize upd A1 t2 (HO.tup [V.str "b", V.ref t1]) = A2 at *
    refine ⟨(show 1 ≤ sizeLine by decide), fun t3 n3 => ?_⟩
    have st3 := same_upd (o := HO.tup [V.ref t2]) n3
    have h3 : upd A2 t3 (HO.tup [V.ref t2]) t3 = some (.tup [V.ref t2]) := upd_same
    generalize upd A2 t3 (HO.tup [V.ref t2]) = A3 at *
    refine ⟨Nat.zero_le _, fun t4 n4 => ?_⟩
    have st4 := same_upd (o := HO.tup []) n4
    have h4 : upd A3 t4 (HO.tup []) t4 = some (.tup []) := upd_same
    generalize upd A3 t4 (HO.tup []) = A4 at *
    refine ⟨(show 2 ≤ sizeLine by decide), fun t5 n5 => ?_⟩
    have st5 := same_upd (o := HO.tup [V.str "a", V.ref t4]) n5
    have h5 : upd A4 t5 (HO.tup [V.str "a", V.ref t4]) t5 = some (.tup [V.str "a", V.ref t4]) := upd_same
    generalize upd A4 t5 (HO.tup [V.str "a", V.ref t4]) = A5 at *
    refine ⟨(show 1 ≤ sizeLine by decide), fun t6 n6 => ?_⟩
    have st6 := same_upd (o := HO.tup [V.ref t5]) n6
    have h6 : upd A5 t6 (HO.tup [V.ref t5]) t6 = some (.tup [V.ref t5]) := upd_same
    generalize upd A5 t6 (HO.tup [V.ref t5]) = A6 at *
    refine ⟨(show 2 ≤ sizeLine by decide), fun t7 n7 => ?_⟩
    have st7 := same_upd (o := HO.tup [V.ref t3, V.ref t6]) n7
    have h7 : upd A6 t7 (HO.tup [V.ref t3, V.ref t6]) t7 = some (.tup [V.ref t3, V.ref t6]) := upd_same
    generalize upd A6 t7 (HO.tup [V.ref t3, V.ref t6]) = A7 at *
    refine ⟨(show 2 ≤ sizeLine by decide), fun t8 n8 => ?_⟩
    have st8 := same_upd (o := HO.tup [V.int 0, V.int 1]) n8
    have h8 : upd A7 t8 (HO.tup [V.int 0, V.int 1]) t8 = some (.tup [V.int 0, V.int 1]) := upd_same
    generalize upd A7 t8 (HO.tup [V.int 0, V.int 1]) = A8 at *
    refine ⟨_, _, rfl, ?_⟩
    refine ⟨(show 3 ≤ sizeLine by decide), fun t9 n9 => ?_⟩
    have st9 := same_upd (o := HO.tup [V.int 0, V.bl false, V.int 0]) n9
    have h9 : upd A8 t9 (HO.tup [V.int 0, V.bl false, V.int 0]) t9 = some (.tup [V.int 0, V.bl false, V.int 0]) := upd_same
    generalize upd A8 t9 (HO.tup [V.int 0, V.bl false, V.int 0]) = A9 at *
    refine ⟨(show 2 ≤ sizeLine by decide), fun t10 n10 => ?_⟩
    have st10 := same_upd (o := HO.tup [V.ref t9, V.non]) n10
    have h10 : upd A9 t10 (HO.tup [V.ref t9, V.non]) t10 = some (.tup [V.ref t9, V.non]) := upd_same
    generalize upd A9 t10 (HO.tup [V.ref t9, V.non]) = A10 at *
    refine ⟨(show 2 ≤ sizeLine by decide), fun t11 n11 => ?_⟩
    have st11 := same_upd (o := HO.tup [V.int 0, V.ref t10]) n11
    have h11 : upd A10 t11 (HO.tup [V.int 0, V.ref t10]) t11 = some (.tup [V.int 0, V.ref t10]) := upd_same
    generalize upd A10 t11 (HO.tup [V.int 0, V.ref t10]) = A11 at *
    refine ⟨(show 3 ≤ sizeLine by decide), fun t12 n12 => ?_⟩
    have st12 := same_upd (o := HO.tup [V.int 0, V.bl false, V.int 1]) n12
    have h12 : upd A11 t12 (HO.tup [V.int 0, V.bl false, V.int 1]) t12 = some (.tup [V.int 0, V.bl false, V.int 1]) := upd_same
    generalize upd A11 t12 (HO.tup [V.int 0, V.bl false, V.int 1]) = A12 at *
    refine ⟨(show 3 ≤ sizeLine by decide), fun t13 n13 => ?_⟩
    have st13 := same_upd (o := HO.tup [V.int 0, V.bl false, V.int 0]) n13
    have h13 : upd A12 t13 (HO.tup [V.int 0, V.bl false, V.int 0]) t13 = some (.tup [V.int 0, V.bl false, V.int 0]) := upd_same
    generalize upd A12 t13 (HO.tup [V.int 0, V.bl false, V.int 0]) = A13 at *
    refine ⟨(show 2 ≤ sizeLine by decide), fun t14 n14 => ?_⟩
    have st14 := same_upd (o := HO.tup [V.ref t12, V.ref t13]) n14
    have h14 : upd A13 t14 (HO.tup [V.ref t12, V.ref t13]) t14 = some (.tup [V.ref t12, V.ref t13]) := upd_same
    generalize upd A13 t14 (HO.tup [V.ref t12, V.ref t13]) = A14 at *
    refine ⟨(show 2 ≤ sizeLine by decide), fun t15 n15 => ?_⟩
    have st15 := same_upd (o := HO.tup [V.int 1, V.ref t14]) n15
    have h15 : upd A14 t15 (HO.tup [V.int 1, V.ref t14]) t15 = some (.tup [V.int 1, V.ref t14]) := upd_same
    generalize upd A14 t15 (HO.tup [V.int 1, V.ref t14]) = A15 at *
    refine ⟨(show 2 ≤ sizeLine by decide), fun t16 n16 => ?_⟩
    have st16 := same_upd (o := HO.tup [V.ref t11, V.ref t15]) n16
    have h16 : upd A15 t16 (HO.tup [V.ref t11, V.ref t15]) t16 = some (.tup [V.ref t11, V.ref t15]) := upd_same
    generalize upd A15 t16 (HO.tup [V.ref t11, V.ref t15]) = A16 at *
    refine ⟨t16, _, rfl, SqT.of h16, rfl, _, _, rfl, _, _, rfl, rfl, ?_⟩
    have sA16 := Same.refl A16
    have sA15 := st16.trans sA16
    have sA14 := st15.trans sA15
    have sA13 := st14.trans sA14
    have sA12 := st13.trans sA13
    have sA11 := st12.trans sA12
    have sA10 := st11.trans sA11
    have sA9 := st10.trans sA10
    have sA8 := st9.trans sA9
    have sA7 := st8.trans sA8
    have sA6 := st7.trans sA7
    have sA5 := st6.trans sA6
    have sA4 := st5.trans sA5
    have sA3 := st4.trans sA4
    have sA2 := st3.trans sA3
    have sA1 := st2.trans sA2
    have sA0 := st1.trans sA1
    have dB : Dx K A16 (.ref t3) (planD [(iB b, [some (a : Int)])]) := .tup (SqT.of (sA3 _ _ h3)) (.cons (.tup (SqT.of (sA2 _ _ h2)) (.cons (.str _) (.cons (.tup (SqT.of (sA1 _ _ h1)) (.cons (.int _) .nil)) .nil))) .nil)
    have dA : Dx K A16 (.ref t6) (planD [(iA a, [])]) := .tup (SqT.of (sA6 _ _ h6)) (.cons (.tup (SqT.of (sA5 _ _ h5)) (.cons (.str _) (.cons (.tup (SqT.of (sA4 _ _ h4)) .nil) .nil))) .nil)
    have dl : DxAll K A16 [.ref t3, .ref t6] ((pl59 a b).map planD) := .cons dB (.cons dA .nil)
    have hg : SqT K A16 t8 (entV [0, 1]) := SqT.of (sA8 _ _ h8)
    have hpl : SqT K A16 t7 [.ref t3, .ref t6] := SqT.of (sA7 _ _ h7)
    have dS : Dx K A16 (.ref t11) (stD s59) := .tup (SqT.of (sA11 _ _ h11)) (.cons (.int _) (.cons (.tup (SqT.of (sA10 _ _ h10)) (.cons (.tup (SqT.of (sA9 _ _ h9)) (.cons (.int _) (.cons (.bl _) (.cons (.int _) .nil)))) (.cons .non .nil))) .nil))
    have dT : Dx K A16 (.ref t15) (stD t59) := .tup (SqT.of (sA15 _ _ h15)) (.cons (.int _) (.cons (.tup (SqT.of (sA14 _ _ h14)) (.cons (.tup (SqT.of (sA12 _ _ h12)) (.cons (.int _) (.cons (.bl _) (.cons (.int _) .nil)))) (.cons (.tup (SqT.of (sA13 _ _ h13)) (.cons (.int _) (.cons (.bl _) (.cons (.int _) .nil)))) .nil))) .nil))
    have A := asked59 (K := K) M (Mc.same sA0) hpl dl hg
    have U := U2.trans sA0
    clear h1 st1 n1 h2 st2 n2 h3 st3 n3 h4 st4 n4 h5 st5 n5 h6 st6 n6 h7 st7 n7 h8 st8 n8 h9 st9 n9 h10 st10 n10 h11 st11 n11 h12 st12 n12 h13 st13 n13 h14 st14 n14 h15 st15 n15 h16 st16 n16 sA0 sA1 sA2 sA3 sA4 sA5 sA6 sA7 sA8 sA9 sA10 sA11 sA12 sA13 sA14 sA15 sA16 Mc hl hrr W2 s2 U2 W1 B1 np s1
    generalize A16 = T at *
    refine ⟨_, rfl, _, rfl, _, rfl, _, rfl, _, rfl, x, t7, t8, 8, 3, it, is, rs, _, _, _, _, s59, (b : Int), rfl, A, dS, sok_s, fun C1 v1 c1 D1 => ?_⟩
    have e1 : behind is (pl59 a b) [0, 1] s59 (b : Int) = some t59 := by
      have h := st_s (a := a) (b := b) M.pad (x := (b : Int))
      have nb := M.nb
      rw [if_neg (by omega), if_pos rfl] at h
      exact h
    have e2 : behind is (pl59 a b) [0, 1] t59 (n : Int) = none := by
      have h := st_t (a := a) (b := b) M.pad M.na (x := (n : Int))
      have na := M.na
      rw [if_neg (by omega)] at h
      exact h
    rw [e1] at D1
    -- told
    refine ⟨(show 1 ≤ sizeLine by decide), fun L nL => ?_⟩
    have hL : upd C1 L (HO.lst [v1]) L = some (.lst [v1]) := upd_same
    have sL := same_upd (o := HO.lst [v1]) nL
    have A1 := A.same c1
    refine ⟨_, rfl, .inl ⟨rfl, _, SqL.of hL⟩, _, rfl, _, rfl, _, rfl, _, rfl, _, rfl, x, t7, t8, 8, 3, it, is, rs, _, _, _, _, s59, (b : Int), rfl, A1.same sL, (dS.same c1).same sL, sok_s, fun C2 v2 c2 D2 => ⟨L, _, v2, rfl, rfl, c2 _ _ hL, (show 1 < sizeLine by decide), ?_⟩⟩
    rw [e1] at D2
    have hL2 : upd C2 L (HO.lst ([v1] ++ [v2])) L = some (.lst [v1, v2]) := upd_same
    have s2 : Same C1 (upd C2 L (HO.lst ([v1] ++ [v2]))) := same_set (sL.trans c2) nL
    have D2' := (D2.hide (c2 _ _ hL) (noL_sta t59)).same (hide_set (o := HO.lst ([v1] ++ [v2])))
    generalize upd C2 L (HO.lst ([v1] ++ [v2])) = G2 at *
    clear c2 sL hL nL D2
    refine ⟨_, rfl, _, _, rfl, .lst (SqL.of hL2) (.cons (D1.same s2) (.cons D2' .nil)), shows59, ?_⟩
    refine ⟨_, rfl, _, rfl, (show 2 ≤ sizeLine by decide), fun M1 nM1 => ?_⟩
    have s3 := same_upd (o := HO.lst [V.ref t15, V.ref t15]) nM1
    have hM1 : upd G2 M1 (HO.lst [V.ref t15, V.ref t15]) M1 = some (.lst [V.ref t15, V.ref t15]) := upd_same
    generalize upd G2 M1 (HO.lst [V.ref t15, V.ref t15]) = G3 at *
    have dT3 := dT.same (c1.trans (s2.trans s3))
    refine ⟨_, _, rfl, .lst (SqL.of hM1) (.cons dT3 (.cons dT3 .nil)), shows59, rfl, _, rfl, ifN (by simp; rfl) ?_⟩
    have A3 := A1.same (s2.trans s3)
    have c3 := c1.trans (s2.trans s3)
    clear D1 D2' hL2 hM1 nM1 s2 s3 A1 c1
    -- no state
    refine ⟨_, rfl, _, rfl, _, rfl, _, rfl, _, rfl, x, t7, t8, 8, 3, it, is, rs, _, _, _, _, t59, (n : Int), rfl, A3, dT3, sok_t, fun C4 v4 c4 D4 => ?_⟩
    rw [e2] at D4
    cases D4
    refine ⟨rfl, _, rfl, ifN (by simp) ?_⟩
    have A4 := A3.same c4
    have U4 := U.trans (c3.trans c4)
    clear A3 A c4 c3 dT3 dT dS dA dB dl hg hpl U
    have mem : ∀ {z : Nat}, z < 8 → (z : Int) ∈ Bf.rng 8 := fun {z} h => Bf.rng_mem.mpr ⟨by omega, by omega⟩
    have num : Ct.num (stepS is (pl59 a b) [0, 1]) (finS (pl59 a b) [0, 1]) 8 3 (first0 [0, 1]) = 1 := num_three M.pad M.na M.nb M.ab (mem M.ln) (mem M.la) (mem M.lb)
    have rank : Ct.rank (stepS is (pl59 a b) [0, 1]) (finS (pl59 a b) [0, 1]) 8 [(b : Int), (a : Int), (n : Int)] (first0 [0, 1]) = 0 := rank_three M.pad M.na M.nb M.ab (mem M.ln)
    have run : Bf.runB (stepS is (pl59 a b) [0, 1]) (first0 [0, 1]) [(b : Int), (a : Int), (n : Int)] = some (finS (pl59 a b) [0, 1]) := run_three M.pad M.na M.nb M.ab
    have ov : ovB is [(b : Int), (a : Int), (n : Int)] (pl59 a b) [0, 1] = true := (ov_run M.ok M.plns ents59 rfl).mpr run
    have low : Bf.Byt 8 [(b : Int), (a : Int), (n : Int)] := by
      have h1 := M.ln
      have h2 := M.la
      have h3 := M.lb
      intro z hz
      have hz : z = (b : Int) ∨ z = (a : Int) ∨ z = (n : Int) := by simpa using hz
      omega
    -- counts
    refine ⟨_, rfl, _, rfl, _, rfl, x, t7, t8, 8, 3, 3, it, is, rs, _, _, _, rfl, A4, by decide, fun C5 c5 => ?_⟩
    rw [num]
    refine ⟨(show 1 ≤ sizeLine by decide), fun L nL => ?_⟩
    have hL : upd C5 L (HO.lst [nV 1]) L = some (.lst [nV 1]) := upd_same
    have sL := same_upd (o := HO.lst [nV 1]) nL
    have A5 := A4.same c5
    refine ⟨_, rfl, .inl ⟨rfl, _, SqL.of hL⟩, _, rfl, _, rfl, _, rfl, x, t7, t8, 8, 3, 3, it, is, rs, _, _, _, rfl, A5.same sL, by decide, fun C6 c6 => ⟨L, _, _, rfl, rfl, c6 _ _ hL, (show 1 < sizeLine by decide), ?_⟩⟩
    rw [num]
    have hL2 : upd C6 L (HO.lst ([nV 1] ++ [nV 1])) L = some (.lst [nV 1, nV 1]) := upd_same
    have s6 : Same C5 (upd C6 L (HO.lst ([nV 1] ++ [nV 1]))) := same_set (sL.trans c6) nL
    generalize upd C6 L (HO.lst ([nV 1] ++ [nV 1])) = G6 at *
    clear c6 sL hL nL
    refine ⟨_, rfl, (show 2 ≤ sizeLine by decide), fun M1 nM1 => ?_⟩
    have s7 := same_upd (o := HO.lst [V.int 1, V.int 1]) nM1
    have hM1 : upd G6 M1 (HO.lst [V.int 1, V.int 1]) M1 = some (.lst [V.int 1, V.int 1]) := upd_same
    have hL7 := s7 _ _ hL2
    generalize upd G6 M1 (HO.lst [V.int 1, V.int 1]) = G7 at *
    refine ⟨.list [.int 1, .int 1], .list [.int 1, .int 1], .lst (SqL.of hL7) (.cons (.int _) (.cons (.int _) .nil)), .lst (SqL.of hM1) (.cons (.int _) (.cons (.int _) .nil)), sh_ints2 1 1, sh_ints2 1 1, _, rfl, ifN (by decide +kernel) ?_⟩
    have A7 := A5.same (s6.trans s7)
    have U7 := U4.trans (c5.trans (s6.trans s7))
    clear A4 A5 hL2 hL7 hM1 nM1 s6 s7 c5 U4
    -- overlays by number
    refine ⟨_, rfl, _, rfl, _, rfl, x, t7, t8, 8, 3, 3, 0, it, is, rs, _, _, _, rfl, A7, by decide, by rw [num]; decide, fun C8 r1 row1 c8 hr1 l1 _ run1 _ => ?_⟩
    have er1 := run_only M.pad M.na M.nb M.ab l1 run1
    subst er1
    refine ⟨(show 1 ≤ sizeLine by decide), fun L nL => ?_⟩
    have hL : upd C8 L (HO.lst [V.ref r1]) L = some (.lst [V.ref r1]) := upd_same
    have sL := same_upd (o := HO.lst [V.ref r1]) nL
    have A8 := A7.same c8
    refine ⟨_, rfl, .inl ⟨rfl, _, SqL.of hL⟩, _, rfl, _, rfl, _, rfl, x, t7, t8, 8, 3, 3, 0, it, is, rs, _, _, _, rfl, A8.same sL, by decide, by rw [num]; decide, fun C9 r2 row2 c9 hr2 l2 _ run2 _ => ⟨L, _, _, rfl, rfl, c9 _ _ hL, (show 1 < sizeLine by decide), ?_⟩⟩
    have er2 := run_only M.pad M.na M.nb M.ab l2 run2
    subst er2
    have hL2 : upd C9 L (HO.lst ([V.ref r1] ++ [V.ref r2])) L = some (.lst [V.ref r1, V.ref r2]) := upd_same
    have s9 : Same C8 (upd C9 L (HO.lst ([V.ref r1] ++ [V.ref r2]))) := same_set (sL.trans c9) nL
    have rL : r2 ≠ L := fun z => by
      rw [z, c9 _ _ hL] at hr2
      cases hr2
    have hr2' : upd C9 L (HO.lst ([V.ref r1] ++ [V.ref r2])) r2 = some (.tup ([(b : Int), (a : Int), (n : Int)].map V.int)) := by rw [upd_ne rL]; exact hr2
    have hr1' := s9 _ _ hr1
    generalize upd C9 L (HO.lst ([V.ref r1] ++ [V.ref r2])) = G9 at *
    clear c9 sL hL nL hr1 hr2 run1 run2 rL l1 l2
    have A9 := A8.same s9
    have U9 := U7.trans (c8.trans s9)
    -- numbers
    refine ⟨_, rfl, _, rfl, _, rfl, _, rfl, _, rfl, _, rfl, (show 3 ≤ sizeLine by decide), fun t1 n1 => ?_⟩
    have s10 := same_upd (o := HO.tup [V.int (b : Int), V.int (a : Int), V.int (n : Int)]) n1
    have h10 : upd G9 t1 (HO.tup [V.int (b : Int), V.int (a : Int), V.int (n : Int)]) t1 = some (.tup ([(b : Int), (a : Int), (n : Int)].map V.int)) := upd_same
    refine ⟨x, t7, t8, 8, 3, it, is, rs, _, _, _, t1, [(b : Int), (a : Int), (n : Int)], rfl, A9.same s10, SqT.of h10, low, (show 3 ≤ 1000 by decide), fun C11 v1 c11 e1 => ?_⟩
    rw [if_pos ov, rank] at e1
    subst e1
    have c10 := s10.trans c11
    refine ⟨(show 1 ≤ sizeLine by decide), fun Lk nL2 => ?_⟩
    have hK : upd C11 Lk (HO.lst [nV 0]) Lk = some (.lst [nV 0]) := upd_same
    have sK := same_upd (o := HO.lst [nV 0]) nL2
    refine ⟨_, rfl, .inl ⟨rfl, _, SqL.of hK⟩, _, rfl, _, rfl, _, rfl, (show 3 ≤ sizeLine by decide), fun t2 n2 => ?_⟩
    have s12 := same_upd (o := HO.tup [V.int (b : Int), V.int (a : Int), V.int (n : Int)]) n2
    have h12 : upd (upd C11 Lk (HO.lst [nV 0])) t2 (HO.tup [V.int (b : Int), V.int (a : Int), V.int (n : Int)]) t2 = some (.tup ([(b : Int), (a : Int), (n : Int)].map V.int)) := upd_same
    refine ⟨_, rfl, _, rfl, _, rfl, x, t7, t8, 8, 3, it, is, rs, _, _, _, t2, [(b : Int), (a : Int), (n : Int)], rfl, (A9.same c10).same (sK.trans s12), SqT.of h12, low, (show 3 ≤ 1000 by decide), fun C13 v2 c13 e2 => ⟨Lk, _, _, rfl, rfl, c13 _ _ (s12 _ _ hK), (show 1 < sizeLine by decide), ?_⟩⟩
    rw [if_pos ov, rank] at e2
    subst e2
    have hK2 : upd C13 Lk (HO.lst ([nV 0] ++ [nV 0])) Lk = some (.lst [nV 0, nV 0]) := upd_same
    have s13 : Same C11 (upd C13 Lk (HO.lst ([nV 0] ++ [nV 0]))) := same_set (sK.trans (s12.trans c13)) nL2
    generalize upd C13 Lk (HO.lst ([nV 0] ++ [nV 0])) = G13 at *
    clear sK s12 c13 hK h12 h10 n1 n2 nL2
    have hL13 := s13 _ _ (c10 _ _ hL2)
    have hr1 := s13 _ _ (c10 _ _ hr1')
    have hr2 := s13 _ _ (c10 _ _ hr2')
    have U13 := U9.trans (c10.trans s13)
    clear hL2 hr1' hr2' c10 s13 s10 c11 U9 A9 A8
    -- both
    refine ⟨_, rfl, _, rfl, _, rfl, _, rfl, (show 3 ≤ sizeLine by decide), fun t3 n3 => ?_⟩
    have s14 := same_upd (o := HO.tup [V.int (b : Int), V.int (a : Int), V.int (n : Int)]) n3
    have h14 : upd G13 t3 (HO.tup [V.int (b : Int), V.int (a : Int), V.int (n : Int)]) t3 = some (.tup [V.int (b : Int), V.int (a : Int), V.int (n : Int)]) := upd_same
    generalize upd G13 t3 (HO.tup [V.int (b : Int), V.int (a : Int), V.int (n : Int)]) = G14 at *
    refine ⟨(show 1 ≤ sizeLine by decide), fun L3 n4 => ?_⟩
    have s15 := same_upd (o := HO.lst [V.ref t3]) n4
    have h15 : upd G14 L3 (HO.lst [V.ref t3]) L3 = some (.lst [V.ref t3]) := upd_same
    generalize upd G14 L3 (HO.lst [V.ref t3]) = G15 at *
    refine ⟨L3, 2, _, rfl, rfl, h15, by decide, by decide, (show 2 ≤ sizeLine by decide), fun L4 n5 => ?_⟩
    have s16 := same_upd (o := HO.lst [V.ref t3, V.ref t3]) n5
    have h16 : upd G15 L4 (HO.lst [V.ref t3, V.ref t3]) L4 = some (.lst [V.ref t3, V.ref t3]) := upd_same
    have s36 : Same G14 (upd G15 L4 (HO.lst [V.ref t3, V.ref t3])) := s15.trans s16
    have s13 := s14.trans s36
    have row : ∀ {G : Hp} {q : Addr}, G q = some (.tup [V.int (b : Int), V.int (a : Int), V.int (n : Int)]) → _root_.L2.Dp K G (.ref q) (.tuple [.int (b : Int), .int (a : Int), .int (n : Int)]) := fun h => .tup (SqT.of h) (.cons (.int _) (.cons (.int _) (.cons (.int _) .nil)))
    refine ⟨_, _, .lst (SqL.of (s13 _ _ hL13)) (.cons (row (s13 _ _ hr1)) (.cons (row (s13 _ _ hr2)) .nil)), .lst (SqL.of h16) (.cons (row (s36 _ _ h14)) (.cons (row (s36 _ _ h14)) .nil)), sh_rows2 _ _ _ _ _ _, sh_rows2 _ _ _ _ _ _, ?_⟩
    refine ⟨_, rfl, ifN (by rw [SeqAt.eqv_refl _ (SeqAt.canLay_of_shaped (sh_rows2 _ _ _ _ _ _))]; decide) ?_⟩
    have hK16 := s13 _ _ hK2
    have U16 := U13.trans s13
    refine ⟨_, rfl, (show 2 ≤ sizeLine by decide), fun L5 n6 => ?_⟩
    have s17 := same_upd (o := HO.lst [V.int 0, V.int 0]) n6
    refine ⟨.list [.int 0, .int 0], .list [.int 0, .int 0], .lst (SqL.of (s17 _ _ hK16)) (.cons (.int _) (.cons (.int _) .nil)), .lst (SqL.of upd_same) (.cons (.int _) (.cons (.int _) .nil)), sh_ints2 0 0, sh_ints2 0 0, _, rfl, ifN (by decide +kernel) ?_⟩
    exact ⟨_, _, _, _, _, _, _, _, _, _, _, _, _, rfl, U16.trans s17⟩
end
end Ov
namespace Ov
open PySem PySem.Spec PyProof.Rows L2
theorem up {P : Program} {w : World} {K : PySem.W.Frag} {mg : Str → Option Value} {base : Heap} {CX : CXT} {k k' : Nat} {f : Addr} {fd : FuncData} {ps : List Str} {sp : Sp} (F : FnOk P w K mg base CX k f fd ps sp) (h : k ≤ k') : FnOk P w K mg base CX k' f fd ps sp := ⟨F.len, fun A outer s H args us vs Q E room => F.run A outer s H args us vs Q E (room.mono h)⟩
theorem all_mk {P : Program} {w : World} {K : PySem.W.Frag} {h : Heap} {mg : Str → Option Value} {fa f0 f1 f2 f3 f4 f5 f6 f7 f8 f9 f10 f11 f12 f13 f14 f15 f16 f17 f18 f19 f20 f21 f22 f23 f24 f25 f26 f27 f28 f29 f30 f31 f32 f33 f34 f35 f36 f37 f38 f39 f40 f41 f42 f43 : Addr} (X : K.In h) (G : h.Ns mainGlobals mg) (hfa : mg "law" = some (.ref fa))
    {od0 an0 od1 an1 od2 an2 od3 an3 od4 an4 od5 an5 od6 an6 od7 an7 od8 an8 od9 an9 od10 an10 od11 an11 od12 an12 od13 an13 od14 an14 od15 an15 od16 an16 od17 an17 od18 an18 od19 an19 od20 an20 od21 an21 od22 an22 od23 an23 od24 an24 od25 an25 od26 an26 od27 an27 od28 an28 od29 an29 od30 an30 od31 an31 od32 an32 od33 an33 od34 an34 od35 an35 od36 an36 od37 an37 od38 an38 od39 an39 od40 an40 od41 an41 od42 an42 od43 an43 : Option Addr} {sl0 sl1 sl2 sl3 sl4 sl5 sl6 sl7 sl8 sl9 sl10 sl11 sl12 sl13 sl14 sl15 sl16 sl17 sl18 sl19 sl20 sl21 sl22 sl23 sl24 sl25 sl26 sl27 sl28 sl29 sl30 sl31 sl32 sl33 sl34 sl35 sl36 sl37 sl38 sl39 sl40 sl41 sl42 sl43 : Array (Option Value)} {oc0 kV0 dc0 pm0 cd0 ct0 oc1 kV1 dc1 pm1 cd1 ct1 oc2 kV2 dc2 pm2 cd2 ct2 oc3 kV3 dc3 pm3 cd3 ct3 oc4 kV4 dc4 pm4 cd4 ct4 oc5 kV5 dc5 pm5 cd5 ct5 oc6 kV6 dc6 pm6 cd6 ct6 oc7 kV7 dc7 pm7 cd7 ct7 oc8 kV8 dc8 pm8 cd8 ct8 oc9 kV9 dc9 pm9 cd9 ct9 oc10 kV10 dc10 pm10 cd10 ct10 oc11 kV11 dc11 pm11 cd11 ct11 oc12 kV12 dc12 pm12 cd12 ct12 oc13 kV13 dc13 pm13 cd13 ct13 oc14 kV14 dc14 pm14 cd14 ct14 oc15 kV15 dc15 pm15 cd15 ct15 oc16 kV16 dc16 pm16 cd16 ct16 oc17 kV17 dc17 pm17 cd17 ct17 oc18 kV18 dc18 pm18 cd18 ct18 oc19 kV19 dc19 pm19 cd19 ct19 oc20 kV20 dc20 pm20 cd20 ct20 oc21 kV21 dc21 pm21 cd21 ct21 oc22 kV22 dc22 pm22 cd22 ct22 oc23 kV23 dc23 pm23 cd23 ct23 oc24 kV24 dc24 pm24 cd24 ct24 oc25 kV25 dc25 pm25 cd25 ct25 oc26 kV26 dc26 pm26 cd26 ct26 oc27 kV27 dc27 pm27 cd27 ct27 oc28 kV28 dc28 pm28 cd28 ct28 oc29 kV29 dc29 pm29 cd29 ct29 oc30 kV30 dc30 pm30 cd30 ct30 oc31 kV31 dc31 pm31 cd31 ct31 oc32 kV32 dc32 pm32 cd32 ct32 oc33 kV33 dc33 pm33 cd33 ct33 oc34 kV34 dc34 pm34 cd34 ct34 oc35 kV35 dc35 pm35 cd35 ct35 oc36 kV36 dc36 pm36 cd36 ct36 oc37 kV37 dc37 pm37 cd37 ct37 oc38 kV38 dc38 pm38 cd38 ct38 oc39 kV39 dc39 pm39 cd39 ct39 oc40 kV40 dc40 pm40 cd40 ct40 oc41 kV41 dc41 pm41 cd41 ct41 oc42 kV42 dc42 pm42 cd42 ct42 oc43 kV43 dc43 pm43 cd43 ct43 : Value}
    {tk0 tk1 tk2 tk3 tk4 tk5 tk6 tk7 : Tok}
    (a0 : PySem.W.nsIn K mainGlobals "law" = some (some (.ref f0))) (l0 : K.lookup f0 = some ⟨oc0, od0, .func (PySem.W.fnOf "law" "law" (defArgs sLaw) (defBody sLaw) (defScope sLaw) .none kV0 dc0 pm0 an0 cd0 ct0), sl0⟩) (c0 : PySem.W.codeIn K cd0 "law" = true) (k0 : PySem.W.keepIn K (.ref f0) = true)
    (a1 : PySem.W.nsIn K mainGlobals "overlay_number" = some (some (.ref f1))) (l1 : K.lookup f1 = some ⟨oc1, od1, .func (PySem.W.fnOf "overlay_number" "overlay_number" (defArgs s_overlay_number) (defBody s_overlay_number) (defScope s_overlay_number) .none kV1 dc1 pm1 an1 cd1 ct1), sl1⟩) (c1 : PySem.W.codeIn K cd1 "overlay_number" = true) (k1 : PySem.W.keepIn K (.ref f1) = true)
    (a2 : PySem.W.nsIn K mainGlobals "overlay_at" = some (some (.ref f2))) (l2 : K.lookup f2 = some ⟨oc2, od2, .func (PySem.W.fnOf "overlay_at" "overlay_at" (defArgs s_overlay_at) (defBody s_overlay_at) (defScope s_overlay_at) .none kV2 dc2 pm2 an2 cd2 ct2), sl2⟩) (c2 : PySem.W.codeIn K cd2 "overlay_at" = true) (k2 : PySem.W.keepIn K (.ref f2) = true)
    (a3 : PySem.W.nsIn K mainGlobals "overlay_count" = some (some (.ref f3))) (l3 : K.lookup f3 = some ⟨oc3, od3, .func (PySem.W.fnOf "overlay_count" "overlay_count" (defArgs s_overlay_count) (defBody s_overlay_count) (defScope s_overlay_count) .none kV3 dc3 pm3 an3 cd3 ct3), sl3⟩) (c3 : PySem.W.codeIn K cd3 "overlay_count" = true) (k3 : PySem.W.keepIn K (.ref f3) = true)
    (a4 : PySem.W.nsIn K mainGlobals "next_state" = some (some (.ref f4))) (l4 : K.lookup f4 = some ⟨oc4, od4, .func (PySem.W.fnOf "next_state" "next_state" (defArgs s_next_state) (defBody s_next_state) (defScope s_next_state) .none kV4 dc4 pm4 an4 cd4 ct4), sl4⟩) (c4 : PySem.W.codeIn K cd4 "next_state" = true) (k4 : PySem.W.keepIn K (.ref f4) = true)
    (a5 : PySem.W.nsIn K mainGlobals "_law_machine" = some (some (.ref f5))) (l5 : K.lookup f5 = some ⟨oc5, od5, .func (PySem.W.fnOf "_law_machine" "_law_machine" (defArgs sMachine) (defBody sMachine) (defScope sMachine) .none kV5 dc5 pm5 an5 cd5 ct5), sl5⟩) (c5 : PySem.W.codeIn K cd5 "_law_machine" = true) (k5 : PySem.W.keepIn K (.ref f5) = true)
    (a6 : PySem.W.nsIn K mainGlobals "_law_box" = some (some (.ref f6))) (l6 : K.lookup f6 = some ⟨oc6, od6, .func (PySem.W.fnOf "_law_box" "_law_box" (defArgs sBox) (defBody sBox) (defScope sBox) .none kV6 dc6 pm6 an6 cd6 ct6), sl6⟩) (c6 : PySem.W.codeIn K cd6 "_law_box" = true) (k6 : PySem.W.keepIn K (.ref f6) = true)
    (a7 : PySem.W.nsIn K mainGlobals "is_overlay" = some (some (.ref f7))) (l7 : K.lookup f7 = some ⟨oc7, od7, .func (PySem.W.fnOf "is_overlay" "is_overlay" (defArgs s_is_overlay) (defBody s_is_overlay) (defScope s_is_overlay) .none kV7 dc7 pm7 an7 cd7 ct7), sl7⟩) (c7 : PySem.W.codeIn K cd7 "is_overlay" = true) (k7 : PySem.W.keepIn K (.ref f7) = true)
    (a8 : PySem.W.nsIn K mainGlobals "distances_to_final" = some (some (.ref f8))) (l8 : K.lookup f8 = some ⟨oc8, od8, .func (PySem.W.fnOf "distances_to_final" "distances_to_final" (defArgs s_distances_to_final) (defBody s_distances_to_final) (defScope s_distances_to_final) .none kV8 dc8 pm8 an8 cd8 ct8), sl8⟩) (c8 : PySem.W.codeIn K cd8 "distances_to_final" = true) (k8 : PySem.W.keepIn K (.ref f8) = true)
    (a9 : PySem.W.nsIn K mainGlobals "explore" = some (some (.ref f9))) (l9 : K.lookup f9 = some ⟨oc9, od9, .func (PySem.W.fnOf "explore" "explore" (defArgs s_explore) (defBody s_explore) (defScope s_explore) .none kV9 dc9 pm9 an9 cd9 ct9), sl9⟩) (c9 : PySem.W.codeIn K cd9 "explore" = true) (k9 : PySem.W.keepIn K (.ref f9) = true)
    (a10 : PySem.W.nsIn K mainGlobals "decoder_behind" = some (some (.ref f10))) (l10 : K.lookup f10 = some ⟨oc10, od10, .func (PySem.W.fnOf "decoder_behind" "decoder_behind" (defArgs s_decoder_behind) (defBody s_decoder_behind) (defScope s_decoder_behind) .none kV10 dc10 pm10 an10 cd10 ct10), sl10⟩) (c10 : PySem.W.codeIn K cd10 "decoder_behind" = true) (k10 : PySem.W.keepIn K (.ref f10) = true)
    (a11 : PySem.W.nsIn K mainGlobals "step_decoder" = some (some (.ref f11))) (l11 : K.lookup f11 = some ⟨oc11, od11, .func (PySem.W.fnOf "step_decoder" "step_decoder" (defArgs s_step_decoder) (defBody s_step_decoder) (defScope s_step_decoder) .none kV11 dc11 pm11 an11 cd11 ct11), sl11⟩) (c11 : PySem.W.codeIn K cd11 "step_decoder" = true) (k11 : PySem.W.keepIn K (.ref f11) = true)
    (a12 : PySem.W.nsIn K mainGlobals "padding_decoder" = some (some (.ref f12))) (l12 : K.lookup f12 = some ⟨oc12, od12, .func (PySem.W.fnOf "padding_decoder" "padding_decoder" (defArgs s_padding_decoder) (defBody s_padding_decoder) (defScope s_padding_decoder) .none kV12 dc12 pm12 an12 cd12 ct12), sl12⟩) (c12 : PySem.W.codeIn K cd12 "padding_decoder" = true) (k12 : PySem.W.keepIn K (.ref f12) = true)
    (a13 : PySem.W.nsIn K mainGlobals "decoder_bytes" = some (some (.ref f13))) (l13 : K.lookup f13 = some ⟨oc13, od13, .func (PySem.W.fnOf "decoder_bytes" "decoder_bytes" (defArgs s_decoder_bytes) (defBody s_decoder_bytes) (defScope s_decoder_bytes) .none kV13 dc13 pm13 an13 cd13 ct13), sl13⟩) (c13 : PySem.W.codeIn K cd13 "decoder_bytes" = true) (k13 : PySem.W.keepIn K (.ref f13) = true)
    (a14 : PySem.W.nsIn K mainGlobals "opcode_steps" = some (some (.ref f14))) (l14 : K.lookup f14 = some ⟨oc14, od14, .func (PySem.W.fnOf "opcode_steps" "opcode_steps" (defArgs s_opcode_steps) (defBody s_opcode_steps) (defScope s_opcode_steps) .none kV14 dc14 pm14 an14 cd14 ct14), sl14⟩) (c14 : PySem.W.codeIn K cd14 "opcode_steps" = true) (k14 : PySem.W.keepIn K (.ref f14) = true)
    (a15 : PySem.W.nsIn K mainGlobals "padding_by_opcode" = some (some (.ref f15))) (l15 : K.lookup f15 = some ⟨oc15, od15, .func (PySem.W.fnOf "padding_by_opcode" "padding_by_opcode" (defArgs s_padding_by_opcode) (defBody s_padding_by_opcode) (defScope s_padding_by_opcode) .none kV15 dc15 pm15 an15 cd15 ct15), sl15⟩) (c15 : PySem.W.codeIn K cd15 "padding_by_opcode" = true) (k15 : PySem.W.keepIn K (.ref f15) = true)
    (a16 : PySem.W.nsIn K mainGlobals "runs" = some (some (.ref f16))) (l16 : K.lookup f16 = some ⟨oc16, od16, .func (PySem.W.fnOf "runs" "runs" (defArgs s_runs) (defBody s_runs) (defScope s_runs) .none kV16 dc16 pm16 an16 cd16 ct16), sl16⟩) (c16 : PySem.W.codeIn K cd16 "runs" = true) (k16 : PySem.W.keepIn K (.ref f16) = true)
    (a17 : PySem.W.nsIn K mainGlobals "is_code" = some (some (.ref f17))) (l17 : K.lookup f17 = some ⟨oc17, od17, .func (PySem.W.fnOf "is_code" "is_code" (defArgs sIsCode) (defBody sIsCode) (defScope sIsCode) .none kV17 dc17 pm17 an17 cd17 ct17), sl17⟩) (c17 : PySem.W.codeIn K cd17 "is_code" = true) (k17 : PySem.W.keepIn K (.ref f17) = true)
    (a18 : PySem.W.nsIn K mainGlobals "check_overlay" = some (some (.ref f18))) (l18 : K.lookup f18 = some ⟨oc18, od18, .func (PySem.W.fnOf "check_overlay" "check_overlay" (defArgs s_check_overlay) (defBody s_check_overlay) (defScope s_check_overlay) .none kV18 dc18 pm18 an18 cd18 ct18), sl18⟩) (c18 : PySem.W.codeIn K cd18 "check_overlay" = true) (k18 : PySem.W.keepIn K (.ref f18) = true)
    (a19 : PySem.W.nsIn K mainGlobals "check_entry" = some (some (.ref f19))) (l19 : K.lookup f19 = some ⟨oc19, od19, .func (PySem.W.fnOf "check_entry" "check_entry" (defArgs sCheckEntry) (defBody sCheckEntry) (defScope sCheckEntry) .none kV19 dc19 pm19 an19 cd19 ct19), sl19⟩) (c19 : PySem.W.codeIn K cd19 "check_entry" = true) (k19 : PySem.W.keepIn K (.ref f19) = true)
    (a20 : PySem.W.nsIn K mainGlobals "check_program" = some (some (.ref f20))) (l20 : K.lookup f20 = some ⟨oc20, od20, .func (PySem.W.fnOf "check_program" "check_program" (defArgs s_check_program) (defBody s_check_program) (defScope s_check_program) .none kV20 dc20 pm20 an20 cd20 ct20), sl20⟩) (c20 : PySem.W.codeIn K cd20 "check_program" = true) (k20 : PySem.W.keepIn K (.ref f20) = true)
    {dT21 : Addr} {xoc21 : Value} {xod21 : Option Addr} {xn21 : Nat} {xsl21 : Array (Option Value)} {xtk21_0 : Tok}
    (a21 : PySem.W.nsIn K mainGlobals "executed" = some (some (.ref f21))) (l21 : K.lookup f21 = some ⟨oc21, od21, .func (PySem.W.fnOf "executed" "executed" (defArgs s_executed) (defBody s_executed) (defScope s_executed) (.ref dT21) kV21 dc21 pm21 an21 cd21 ct21), sl21⟩) (c21 : PySem.W.codeIn K cd21 "executed" = true) (k21 : PySem.W.keepIn K (.ref f21) = true)
    (ld21 : K.lookup dT21 = some ⟨xoc21, xod21, .seq #[.int 0 xtk21_0] xn21, xsl21⟩)
    (a22 : PySem.W.nsIn K mainGlobals "is_match" = some (some (.ref f22))) (l22 : K.lookup f22 = some ⟨oc22, od22, .func (PySem.W.fnOf "is_match" "is_match" (defArgs s_is_match) (defBody s_is_match) (defScope s_is_match) .none kV22 dc22 pm22 an22 cd22 ct22), sl22⟩) (c22 : PySem.W.codeIn K cd22 "is_match" = true) (k22 : PySem.W.keepIn K (.ref f22) = true)
    (a23 : PySem.W.nsIn K mainGlobals "is_integer_between" = some (some (.ref f23))) (l23 : K.lookup f23 = some ⟨oc23, od23, .func (PySem.W.fnOf "is_integer_between" "is_integer_between" (defArgs sBetween) (defBody sBetween) (defScope sBetween) .none kV23 dc23 pm23 an23 cd23 ct23), sl23⟩) (c23 : PySem.W.codeIn K cd23 "is_integer_between" = true) (k23 : PySem.W.keepIn K (.ref f23) = true)
    (a24 : PySem.W.nsIn K mainGlobals "is_integer" = some (some (.ref f24))) (l24 : K.lookup f24 = some ⟨oc24, od24, .func (PySem.W.fnOf "is_integer" "is_integer" (defArgs sIsInt) (defBody sIsInt) (defScope sIsInt) .none kV24 dc24 pm24 an24 cd24 ct24), sl24⟩) (c24 : PySem.W.codeIn K cd24 "is_integer" = true) (k24 : PySem.W.keepIn K (.ref f24) = true)
    (a25 : PySem.W.nsIn K mainGlobals "is_program" = some (some (.ref f25))) (l25 : K.lookup f25 = some ⟨oc25, od25, .func (PySem.W.fnOf "is_program" "is_program" (defArgs s_is_program) (defBody s_is_program) (defScope s_is_program) .none kV25 dc25 pm25 an25 cd25 ct25), sl25⟩) (c25 : PySem.W.codeIn K cd25 "is_program" = true) (k25 : PySem.W.keepIn K (.ref f25) = true)
    (a26 : PySem.W.nsIn K mainGlobals "step_lengths" = some (some (.ref f26))) (l26 : K.lookup f26 = some ⟨oc26, od26, .func (PySem.W.fnOf "step_lengths" "step_lengths" (defArgs s_step_lengths) (defBody s_step_lengths) (defScope s_step_lengths) .none kV26 dc26 pm26 an26 cd26 ct26), sl26⟩) (c26 : PySem.W.codeIn K cd26 "step_lengths" = true) (k26 : PySem.W.keepIn K (.ref f26) = true)
    (a27 : PySem.W.nsIn K mainGlobals "is_step" = some (some (.ref f27))) (l27 : K.lookup f27 = some ⟨oc27, od27, .func (PySem.W.fnOf "is_step" "is_step" (defArgs s_is_step) (defBody s_is_step) (defScope s_is_step) .none kV27 dc27 pm27 an27 cd27 ct27), sl27⟩) (c27 : PySem.W.codeIn K cd27 "is_step" = true) (k27 : PySem.W.keepIn K (.ref f27) = true)
    {dT28 : Addr} {xoc28 : Value} {xod28 : Option Addr} {xn28 : Nat} {xsl28 : Array (Option Value)} {xtk28_0 : Tok}
    (a28 : PySem.W.nsIn K mainGlobals "decode" = some (some (.ref f28))) (l28 : K.lookup f28 = some ⟨oc28, od28, .func (PySem.W.fnOf "decode" "decode" (defArgs sDecode) (defBody sDecode) (defScope sDecode) (.ref dT28) kV28 dc28 pm28 an28 cd28 ct28), sl28⟩) (c28 : PySem.W.codeIn K cd28 "decode" = true) (k28 : PySem.W.keepIn K (.ref f28) = true)
    (ld28 : K.lookup dT28 = some ⟨xoc28, xod28, .seq #[.int 0 xtk28_0] xn28, xsl28⟩)
    (a29 : PySem.W.nsIn K mainGlobals "walk" = some (some (.ref f29))) (l29 : K.lookup f29 = some ⟨oc29, od29, .func (PySem.W.fnOf "walk" "walk" (defArgs sWalk) (defBody sWalk) (defScope sWalk) .none kV29 dc29 pm29 an29 cd29 ct29), sl29⟩) (c29 : PySem.W.codeIn K cd29 "walk" = true) (k29 : PySem.W.keepIn K (.ref f29) = true)
    (a30 : PySem.W.nsIn K mainGlobals "read_instructions" = some (some (.ref f30))) (l30 : K.lookup f30 = some ⟨oc30, od30, .func (PySem.W.fnOf "read_instructions" "read_instructions" (defArgs sReadI) (defBody sReadI) (defScope sReadI) .none kV30 dc30 pm30 an30 cd30 ct30), sl30⟩) (c30 : PySem.W.codeIn K cd30 "read_instructions" = true) (k30 : PySem.W.keepIn K (.ref f30) = true)
    (a31 : PySem.W.nsIn K mainGlobals "ending" = some (some (.ref f31))) (l31 : K.lookup f31 = some ⟨oc31, od31, .func (PySem.W.fnOf "ending" "ending" (defArgs sEnding) (defBody sEnding) (defScope sEnding) .none kV31 dc31 pm31 an31 cd31 ct31), sl31⟩) (c31 : PySem.W.codeIn K cd31 "ending" = true) (k31 : PySem.W.keepIn K (.ref f31) = true)
    (a32 : PySem.W.nsIn K mainGlobals "state_count" = some (some (.ref f32))) (l32 : K.lookup f32 = some ⟨oc32, od32, .func (PySem.W.fnOf "state_count" "state_count" (defArgs s_state_count) (defBody s_state_count) (defScope s_state_count) .none kV32 dc32 pm32 an32 cd32 ct32), sl32⟩) (c32 : PySem.W.codeIn K cd32 "state_count" = true) (k32 : PySem.W.keepIn K (.ref f32) = true)
    (a33 : PySem.W.nsIn K mainGlobals "check_programs" = some (some (.ref f33))) (l33 : K.lookup f33 = some ⟨oc33, od33, .func (PySem.W.fnOf "check_programs" "check_programs" (defArgs s_check_programs) (defBody s_check_programs) (defScope s_check_programs) .none kV33 dc33 pm33 an33 cd33 ct33), sl33⟩) (c33 : PySem.W.codeIn K cd33 "check_programs" = true) (k33 : PySem.W.keepIn K (.ref f33) = true)
    (a34 : PySem.W.nsIn K mainGlobals "check_entries" = some (some (.ref f34))) (l34 : K.lookup f34 = some ⟨oc34, od34, .func (PySem.W.fnOf "check_entries" "check_entries" (defArgs s_check_entries) (defBody s_check_entries) (defScope s_check_entries) .none kV34 dc34 pm34 an34 cd34 ct34), sl34⟩) (c34 : PySem.W.codeIn K cd34 "check_entries" = true) (k34 : PySem.W.keepIn K (.ref f34) = true)
    (a35 : PySem.W.nsIn K mainGlobals "decoder_count" = some (some (.ref f35))) (l35 : K.lookup f35 = some ⟨oc35, od35, .func (PySem.W.fnOf "decoder_count" "decoder_count" (defArgs s_decoder_count) (defBody s_decoder_count) (defScope s_decoder_count) .none kV35 dc35 pm35 an35 cd35 ct35), sl35⟩) (c35 : PySem.W.codeIn K cd35 "decoder_count" = true) (k35 : PySem.W.keepIn K (.ref f35) = true)
    (a36 : PySem.W.nsIn K mainGlobals "are_entries" = some (some (.ref f36))) (l36 : K.lookup f36 = some ⟨oc36, od36, .func (PySem.W.fnOf "are_entries" "are_entries" (defArgs s_are_entries) (defBody s_are_entries) (defScope s_are_entries) .none kV36 dc36 pm36 an36 cd36 ct36), sl36⟩) (c36 : PySem.W.codeIn K cd36 "are_entries" = true) (k36 : PySem.W.keepIn K (.ref f36) = true)
    (a37 : PySem.W.nsIn K mainGlobals "is_ascending" = some (some (.ref f37))) (l37 : K.lookup f37 = some ⟨oc37, od37, .func (PySem.W.fnOf "is_ascending" "is_ascending" (defArgs sAscending) (defBody sAscending) (defScope sAscending) .none kV37 dc37 pm37 an37 cd37 ct37), sl37⟩) (c37 : PySem.W.codeIn K cd37 "is_ascending" = true) (k37 : PySem.W.keepIn K (.ref f37) = true)
    (a38 : PySem.W.nsIn K mainGlobals "longest_rest" = some (some (.ref f38))) (l38 : K.lookup f38 = some ⟨oc38, od38, .func (PySem.W.fnOf "longest_rest" "longest_rest" (defArgs s_longest_rest) (defBody s_longest_rest) (defScope s_longest_rest) .none kV38 dc38 pm38 an38 cd38 ct38), sl38⟩) (c38 : PySem.W.codeIn K cd38 "longest_rest" = true) (k38 : PySem.W.keepIn K (.ref f38) = true)
    (a39 : PySem.W.nsIn K mainGlobals "chosen_move" = some (some (.ref f39))) (l39 : K.lookup f39 = some ⟨oc39, od39, .func (PySem.W.fnOf "chosen_move" "chosen_move" (defArgs s_chosen_move) (defBody s_chosen_move) (defScope s_chosen_move) .none kV39 dc39 pm39 an39 cd39 ct39), sl39⟩) (c39 : PySem.W.codeIn K cd39 "chosen_move" = true) (k39 : PySem.W.keepIn K (.ref f39) = true)
    (a40 : PySem.W.nsIn K mainGlobals "_law_take" = some (some (.ref f40))) (l40 : K.lookup f40 = some ⟨oc40, od40, .func (PySem.W.fnOf "_law_take" "_law_take" (defArgs sTake) (defBody sTake) (defScope sTake) .none kV40 dc40 pm40 an40 cd40 ct40), sl40⟩) (c40 : PySem.W.codeIn K cd40 "_law_take" = true) (k40 : PySem.W.keepIn K (.ref f40) = true)
    (a41 : PySem.W.nsIn K mainGlobals "are_instructions" = some (some (.ref f41))) (l41 : K.lookup f41 = some ⟨oc41, od41, .func (PySem.W.fnOf "are_instructions" "are_instructions" (defArgs sAreInstr) (defBody sAreInstr) (defScope sAreInstr) .none kV41 dc41 pm41 an41 cd41 ct41), sl41⟩) (c41 : PySem.W.codeIn K cd41 "are_instructions" = true) (k41 : PySem.W.keepIn K (.ref f41) = true)
    (a42 : PySem.W.nsIn K mainGlobals "is_instruction" = some (some (.ref f42))) (l42 : K.lookup f42 = some ⟨oc42, od42, .func (PySem.W.fnOf "is_instruction" "is_instruction" (defArgs sIsInstr) (defBody sIsInstr) (defScope sIsInstr) .none kV42 dc42 pm42 an42 cd42 ct42), sl42⟩) (c42 : PySem.W.codeIn K cd42 "is_instruction" = true) (k42 : PySem.W.keepIn K (.ref f42) = true)
    (a43 : PySem.W.nsIn K mainGlobals "is_name" = some (some (.ref f43))) (l43 : K.lookup f43 = some ⟨oc43, od43, .func (PySem.W.fnOf "is_name" "is_name" (defArgs sIsName) (defBody sIsName) (defScope sIsName) .none kV43 dc43 pm43 an43 cd43 ct43), sl43⟩) (c43 : PySem.W.codeIn K cd43 "is_name" = true) (k43 : PySem.W.keepIn K (.ref f43) = true)
    (bzreversed : PySem.W.nsIn K mainGlobals "reversed" = some none)
    {C0 m0_0 m0_1 m0_2 m0_3 m0_4 m0_5 : Addr} {mod0_0 man0_0 mod0_1 man0_1 mod0_2 man0_2 mod0_3 man0_3 mod0_4 man0_4 mod0_5 man0_5 : Option Addr} {msl0_0 msl0_1 msl0_2 msl0_3 msl0_4 msl0_5 : Array (Option Value)} {moc0_0 mkV0_0 mdc0_0 mpm0_0 mcd0_0 mct0_0 moc0_1 mkV0_1 mdc0_1 mpm0_1 mcd0_1 mct0_1 moc0_2 mkV0_2 mdc0_2 mpm0_2 mcd0_2 mct0_2 moc0_3 mkV0_3 mdc0_3 mpm0_3 mcd0_3 mct0_3 moc0_4 mkV0_4 mdc0_4 mpm0_4 mcd0_4 mct0_4 moc0_5 mkV0_5 mdc0_5 mpm0_5 mcd0_5 mct0_5 : Value}
    (clA0 : PySem.W.nsIn K mainGlobals "OverlayGraph" = some (some (.ref C0)))
    (ma0_0 : PySem.W.findIn K (.ref C0) "__init__" = some (some (.ref m0_0))) (mi0_0 : PySem.W.isFn K (.ref m0_0) = true) (ml0_0 : K.lookup m0_0 = some ⟨moc0_0, mod0_0, .func (PySem.W.fnOf "__init__" "OverlayGraph.__init__" (defArgs sOverlayGraph_init) (defBody sOverlayGraph_init) (defScope sOverlayGraph_init) .none mkV0_0 mdc0_0 mpm0_0 man0_0 mcd0_0 mct0_0), msl0_0⟩) (mc0_0 : PySem.W.codeIn K mcd0_0 "OverlayGraph.__init__" = true) (mk0_0 : PySem.W.keepIn K (.ref m0_0) = true)
    (ma0_1 : PySem.W.findIn K (.ref C0) "sorted_moves" = some (some (.ref m0_1))) (mi0_1 : PySem.W.isFn K (.ref m0_1) = true) (ml0_1 : K.lookup m0_1 = some ⟨moc0_1, mod0_1, .func (PySem.W.fnOf "sorted_moves" "OverlayGraph.sorted_moves" (defArgs sOverlayGraph_sorted_moves) (defBody sOverlayGraph_sorted_moves) (defScope sOverlayGraph_sorted_moves) .none mkV0_1 mdc0_1 mpm0_1 man0_1 mcd0_1 mct0_1), msl0_1⟩) (mc0_1 : PySem.W.codeIn K mcd0_1 "OverlayGraph.sorted_moves" = true) (mk0_1 : PySem.W.keepIn K (.ref m0_1) = true)
    (ma0_2 : PySem.W.findIn K (.ref C0) "levels" = some (some (.ref m0_2))) (mi0_2 : PySem.W.isFn K (.ref m0_2) = true) (ml0_2 : K.lookup m0_2 = some ⟨moc0_2, mod0_2, .func (PySem.W.fnOf "levels" "OverlayGraph.levels" (defArgs sOverlayGraph_levels) (defBody sOverlayGraph_levels) (defScope sOverlayGraph_levels) .none mkV0_2 mdc0_2 mpm0_2 man0_2 mcd0_2 mct0_2), msl0_2⟩) (mc0_2 : PySem.W.codeIn K mcd0_2 "OverlayGraph.levels" = true) (mk0_2 : PySem.W.keepIn K (.ref m0_2) = true)
    (ma0_3 : PySem.W.findIn K (.ref C0) "useful_part" = some (some (.ref m0_3))) (mi0_3 : PySem.W.isFn K (.ref m0_3) = true) (ml0_3 : K.lookup m0_3 = some ⟨moc0_3, mod0_3, .func (PySem.W.fnOf "useful_part" "OverlayGraph.useful_part" (defArgs sOverlayGraph_useful_part) (defBody sOverlayGraph_useful_part) (defScope sOverlayGraph_useful_part) .none mkV0_3 mdc0_3 mpm0_3 man0_3 mcd0_3 mct0_3), msl0_3⟩) (mc0_3 : PySem.W.codeIn K mcd0_3 "OverlayGraph.useful_part" = true) (mk0_3 : PySem.W.keepIn K (.ref m0_3) = true)
    (ma0_4 : PySem.W.findIn K (.ref C0) "level_before" = some (some (.ref m0_4))) (mi0_4 : PySem.W.isFn K (.ref m0_4) = true) (ml0_4 : K.lookup m0_4 = some ⟨moc0_4, mod0_4, .func (PySem.W.fnOf "level_before" "OverlayGraph.level_before" (defArgs sOverlayGraph_level_before) (defBody sOverlayGraph_level_before) (defScope sOverlayGraph_level_before) .none mkV0_4 mdc0_4 mpm0_4 man0_4 mcd0_4 mct0_4), msl0_4⟩) (mc0_4 : PySem.W.codeIn K mcd0_4 "OverlayGraph.level_before" = true) (mk0_4 : PySem.W.keepIn K (.ref m0_4) = true)
    (ma0_5 : PySem.W.findIn K (.ref C0) "last_level" = some (some (.ref m0_5))) (mi0_5 : PySem.W.isFn K (.ref m0_5) = true) (ml0_5 : K.lookup m0_5 = some ⟨moc0_5, mod0_5, .func (PySem.W.fnOf "last_level" "OverlayGraph.last_level" (defArgs sOverlayGraph_last_level) (defBody sOverlayGraph_last_level) (defScope sOverlayGraph_last_level) .none mkV0_5 mdc0_5 mpm0_5 man0_5 mcd0_5 mct0_5), msl0_5⟩) (mc0_5 : PySem.W.codeIn K mcd0_5 "OverlayGraph.last_level" = true) (mk0_5 : PySem.W.keepIn K (.ref m0_5) = true)
    (pg0 : PySem.W.plainGet K C0 Str.empty = true) (hd0 : PySem.W.hasDictIn K C0 = true) (po0 : PySem.W.plainOver K C0 = true) (sa0 : PySem.W.findIn K (.ref C0) "__setattr__" = some (some (.builtin "object.__setattr__"))) (mks0 : PySem.W.makesIn K C0 = true) (kc0 : PySem.W.keepIn K (.ref C0) = true)
    (na0_0 : PySem.W.findIn K (.ref C0) "distances" = some none)
    (na0_1 : PySem.W.findIn K (.ref C0) "useful_moves" = some none)
    {C1 m1_0 m1_1 m1_2 m1_3 m1_4 m1_5 : Addr} {mod1_0 man1_0 mod1_1 man1_1 mod1_2 man1_2 mod1_3 man1_3 mod1_4 man1_4 mod1_5 man1_5 : Option Addr} {msl1_0 msl1_1 msl1_2 msl1_3 msl1_4 msl1_5 : Array (Option Value)} {moc1_0 mkV1_0 mdc1_0 mpm1_0 mcd1_0 mct1_0 moc1_1 mkV1_1 mdc1_1 mpm1_1 mcd1_1 mct1_1 moc1_2 mkV1_2 mdc1_2 mpm1_2 mcd1_2 mct1_2 moc1_3 mkV1_3 mdc1_3 mpm1_3 mcd1_3 mct1_3 moc1_4 mkV1_4 mdc1_4 mpm1_4 mcd1_4 mct1_4 moc1_5 mkV1_5 mdc1_5 mpm1_5 mcd1_5 mct1_5 : Value}
    (clA1 : PySem.W.nsIn K mainGlobals "StateMachine" = some (some (.ref C1)))
    (ma1_0 : PySem.W.findIn K (.ref C1) "__init__" = some (some (.ref m1_0))) (mi1_0 : PySem.W.isFn K (.ref m1_0) = true) (ml1_0 : K.lookup m1_0 = some ⟨moc1_0, mod1_0, .func (PySem.W.fnOf "__init__" "StateMachine.__init__" (defArgs sStateMachine_init) (defBody sStateMachine_init) (defScope sStateMachine_init) .none mkV1_0 mdc1_0 mpm1_0 man1_0 mcd1_0 mct1_0), msl1_0⟩) (mc1_0 : PySem.W.codeIn K mcd1_0 "StateMachine.__init__" = true) (mk1_0 : PySem.W.keepIn K (.ref m1_0) = true)
    (ma1_1 : PySem.W.findIn K (.ref C1) "is_final" = some (some (.ref m1_1))) (mi1_1 : PySem.W.isFn K (.ref m1_1) = true) (ml1_1 : K.lookup m1_1 = some ⟨moc1_1, mod1_1, .func (PySem.W.fnOf "is_final" "StateMachine.is_final" (defArgs sStateMachine_is_final) (defBody sStateMachine_is_final) (defScope sStateMachine_is_final) .none mkV1_1 mdc1_1 mpm1_1 man1_1 mcd1_1 mct1_1), msl1_1⟩) (mc1_1 : PySem.W.codeIn K mcd1_1 "StateMachine.is_final" = true) (mk1_1 : PySem.W.keepIn K (.ref m1_1) = true)
    (ma1_2 : PySem.W.findIn K (.ref C1) "moves" = some (some (.ref m1_2))) (mi1_2 : PySem.W.isFn K (.ref m1_2) = true) (ml1_2 : K.lookup m1_2 = some ⟨moc1_2, mod1_2, .func (PySem.W.fnOf "moves" "StateMachine.moves" (defArgs sStateMachine_moves) (defBody sStateMachine_moves) (defScope sStateMachine_moves) .none mkV1_2 mdc1_2 mpm1_2 man1_2 mcd1_2 mct1_2), msl1_2⟩) (mc1_2 : PySem.W.codeIn K mcd1_2 "StateMachine.moves" = true) (mk1_2 : PySem.W.keepIn K (.ref m1_2) = true)
    (ma1_3 : PySem.W.findIn K (.ref C1) "first_state" = some (some (.ref m1_3))) (mi1_3 : PySem.W.isFn K (.ref m1_3) = true) (ml1_3 : K.lookup m1_3 = some ⟨moc1_3, mod1_3, .func (PySem.W.fnOf "first_state" "StateMachine.first_state" (defArgs sStateMachine_first_state) (defBody sStateMachine_first_state) (defScope sStateMachine_first_state) .none mkV1_3 mdc1_3 mpm1_3 man1_3 mcd1_3 mct1_3), msl1_3⟩) (mc1_3 : PySem.W.codeIn K mcd1_3 "StateMachine.first_state" = true) (mk1_3 : PySem.W.keepIn K (.ref m1_3) = true)
    (ma1_4 : PySem.W.findIn K (.ref C1) "state_behind" = some (some (.ref m1_4))) (mi1_4 : PySem.W.isFn K (.ref m1_4) = true) (ml1_4 : K.lookup m1_4 = some ⟨moc1_4, mod1_4, .func (PySem.W.fnOf "state_behind" "StateMachine.state_behind" (defArgs sStateMachine_state_behind) (defBody sStateMachine_state_behind) (defScope sStateMachine_state_behind) .none mkV1_4 mdc1_4 mpm1_4 man1_4 mcd1_4 mct1_4), msl1_4⟩) (mc1_4 : PySem.W.codeIn K mcd1_4 "StateMachine.state_behind" = true) (mk1_4 : PySem.W.keepIn K (.ref m1_4) = true)
    (ma1_5 : PySem.W.findIn K (.ref C1) "fitting_bytes" = some (some (.ref m1_5))) (mi1_5 : PySem.W.isFn K (.ref m1_5) = true) (ml1_5 : K.lookup m1_5 = some ⟨moc1_5, mod1_5, .func (PySem.W.fnOf "fitting_bytes" "StateMachine.fitting_bytes" (defArgs sStateMachine_fitting_bytes) (defBody sStateMachine_fitting_bytes) (defScope sStateMachine_fitting_bytes) .none mkV1_5 mdc1_5 mpm1_5 man1_5 mcd1_5 mct1_5), msl1_5⟩) (mc1_5 : PySem.W.codeIn K mcd1_5 "StateMachine.fitting_bytes" = true) (mk1_5 : PySem.W.keepIn K (.ref m1_5) = true)
    (pg1 : PySem.W.plainGet K C1 Str.empty = true) (hd1 : PySem.W.hasDictIn K C1 = true) (po1 : PySem.W.plainOver K C1 = true) (sa1 : PySem.W.findIn K (.ref C1) "__setattr__" = some (some (.builtin "object.__setattr__"))) (mks1 : PySem.W.makesIn K C1 = true) (kc1 : PySem.W.keepIn K (.ref C1) = true)
    (na1_0 : PySem.W.findIn K (.ref C1) "entries" = some none)
    (na1_1 : PySem.W.findIn K (.ref C1) "padding" = some none)
    (na1_2 : PySem.W.findIn K (.ref C1) "tasks" = some none)
    (na1_3 : PySem.W.findIn K (.ref C1) "ends" = some none)
    (na1_4 : PySem.W.findIn K (.ref C1) "every_byte" = some none)
    {C2 m2_0 m2_1 m2_2 m2_3 : Addr} {mod2_0 man2_0 mod2_1 man2_1 mod2_2 man2_2 mod2_3 man2_3 : Option Addr} {msl2_0 msl2_1 msl2_2 msl2_3 : Array (Option Value)} {moc2_0 mkV2_0 mdc2_0 mpm2_0 mcd2_0 mct2_0 moc2_1 mkV2_1 mdc2_1 mpm2_1 mcd2_1 mct2_1 moc2_2 mkV2_2 mdc2_2 mpm2_2 mcd2_2 mct2_2 moc2_3 mkV2_3 mdc2_3 mpm2_3 mcd2_3 mct2_3 : Value}
    (clA2 : PySem.W.nsIn K mainGlobals "InstructionSet" = some (some (.ref C2)))
    (ma2_0 : PySem.W.findIn K (.ref C2) "__init__" = some (some (.ref m2_0))) (mi2_0 : PySem.W.isFn K (.ref m2_0) = true) (ml2_0 : K.lookup m2_0 = some ⟨moc2_0, mod2_0, .func (PySem.W.fnOf "__init__" "InstructionSet.__init__" (defArgs sInitI) (defBody sInitI) (defScope sInitI) .none mkV2_0 mdc2_0 mpm2_0 man2_0 mcd2_0 mct2_0), msl2_0⟩) (mc2_0 : PySem.W.codeIn K mcd2_0 "InstructionSet.__init__" = true) (mk2_0 : PySem.W.keepIn K (.ref m2_0) = true)
    (ma2_1 : PySem.W.findIn K (.ref C2) "opcode" = some (some (.ref m2_1))) (mi2_1 : PySem.W.isFn K (.ref m2_1) = true) (ml2_1 : K.lookup m2_1 = some ⟨moc2_1, mod2_1, .func (PySem.W.fnOf "opcode" "InstructionSet.opcode" (defArgs sOpc) (defBody sOpc) (defScope sOpc) .none mkV2_1 mdc2_1 mpm2_1 man2_1 mcd2_1 mct2_1), msl2_1⟩) (mc2_1 : PySem.W.codeIn K mcd2_1 "InstructionSet.opcode" = true) (mk2_1 : PySem.W.keepIn K (.ref m2_1) = true)
    (ma2_2 : PySem.W.findIn K (.ref C2) "length_at" = some (some (.ref m2_2))) (mi2_2 : PySem.W.isFn K (.ref m2_2) = true) (ml2_2 : K.lookup m2_2 = some ⟨moc2_2, mod2_2, .func (PySem.W.fnOf "length_at" "InstructionSet.length_at" (defArgs sLenAt) (defBody sLenAt) (defScope sLenAt) .none mkV2_2 mdc2_2 mpm2_2 man2_2 mcd2_2 mct2_2), msl2_2⟩) (mc2_2 : PySem.W.codeIn K mcd2_2 "InstructionSet.length_at" = true) (mk2_2 : PySem.W.keepIn K (.ref m2_2) = true)
    (ma2_3 : PySem.W.findIn K (.ref C2) "padding_lengths" = some (some (.ref m2_3))) (mi2_3 : PySem.W.isFn K (.ref m2_3) = true) (ml2_3 : K.lookup m2_3 = some ⟨moc2_3, mod2_3, .func (PySem.W.fnOf "padding_lengths" "InstructionSet.padding_lengths" (defArgs sPadLens) (defBody sPadLens) (defScope sPadLens) .none mkV2_3 mdc2_3 mpm2_3 man2_3 mcd2_3 mct2_3), msl2_3⟩) (mc2_3 : PySem.W.codeIn K mcd2_3 "InstructionSet.padding_lengths" = true) (mk2_3 : PySem.W.keepIn K (.ref m2_3) = true)
    (pg2 : PySem.W.plainGet K C2 Str.empty = true) (hd2 : PySem.W.hasDictIn K C2 = true) (po2 : PySem.W.plainOver K C2 = true) (sa2 : PySem.W.findIn K (.ref C2) "__setattr__" = some (some (.builtin "object.__setattr__"))) (mks2 : PySem.W.makesIn K C2 = true) (kc2 : PySem.W.keepIn K (.ref C2) = true)
    (na2_0 : PySem.W.findIn K (.ref C2) "byte_count" = some none)
    (na2_1 : PySem.W.findIn K (.ref C2) "instructions" = some none)
    (na2_2 : PySem.W.findIn K (.ref C2) "length_of_opcode" = some none)
    (na2_3 : PySem.W.findIn K (.ref C2) "opcode_of_name" = some none)
    (cst0 : PySem.W.nsIn K mainGlobals "MOST_STEPS" = some (some (.int 12 tk0)))
    (cst1 : PySem.W.nsIn K mainGlobals "MOST_STATES" = some (some (.int 5000 tk1)))
    (cst2 : PySem.W.nsIn K mainGlobals "MOST_PROGRAMS" = some (some (.int 3 tk2)))
    (cst3 : PySem.W.nsIn K mainGlobals "GREATEST_ENTRY" = some (some (.int 12 tk3)))
    (cst4 : PySem.W.nsIn K mainGlobals "LEAST_BYTE_COUNT" = some (some (.int 2 tk4)))
    (cst5 : PySem.W.nsIn K mainGlobals "MOST_BYTE_COUNT" = some (some (.int 256 tk5)))
    (cst6 : PySem.W.nsIn K mainGlobals "MOST_LETTERS" = some (some (.int 8 tk6)))
    (cst7 : PySem.W.nsIn K mainGlobals "MOST_LENGTH" = some (some (.int 12 tk7)))
    (bz0 : PySem.W.nsIn K mainGlobals "isinstance" = some none)
    (bz1 : PySem.W.nsIn K mainGlobals "int" = some none)
    (bz2 : PySem.W.nsIn K mainGlobals "bool" = some none)
    (bz3 : PySem.W.nsIn K mainGlobals "tuple" = some none)
    (bz4 : PySem.W.nsIn K mainGlobals "list" = some none)
    (bz5 : PySem.W.nsIn K mainGlobals "all" = some none)
    (bz6 : PySem.W.nsIn K mainGlobals "any" = some none)
    (bz7 : PySem.W.nsIn K mainGlobals "zip" = some none)
    (bz8 : PySem.W.nsIn K mainGlobals "len" = some none)
    (bz9 : PySem.W.nsIn K mainGlobals "range" = some none)
    (bz10 : PySem.W.nsIn K mainGlobals "abs" = some none)
    (bz11 : PySem.W.nsIn K mainGlobals "sorted" = some none)
    (bz12 : PySem.W.nsIn K mainGlobals "min" = some none)
    (bz13 : PySem.W.nsIn K mainGlobals "repr" = some none)
    (bz14 : PySem.W.nsIn K mainGlobals "max" = some none)
    (bz15 : PySem.W.nsIn K mainGlobals "sum" = some none)
    (bz16 : PySem.W.nsIn K mainGlobals "enumerate" = some none)
    (bz17 : PySem.W.nsIn K mainGlobals "str" = some none)
    (bz18 : PySem.W.nsIn K mainGlobals "set" = some none)
    (bz19 : PySem.W.nsIn K mainGlobals "dict" = some none)
    (bz20 : PySem.W.nsIn K mainGlobals "ValueError" = some none)
    : ∃ fd : FuncData, (∀ (s : Shared) (v : Value), BindsTo s fd ⟨[v], []⟩ [("_law_script", v)]) ∧ ∀ base : Heap, K.In base → base.Ns mainGlobals mg → FnG P w K mg base 12 fa fd ["_law_script"] (spLaw K) := by
  have e := hfa.symm.trans (PySem.W.mg_of X G a0)
  cases e
  have T : Bi mg := ⟨PySem.W.mg_none_of X G bz0, PySem.W.mg_none_of X G bz1, PySem.W.mg_none_of X G bz2, PySem.W.mg_none_of X G bz3, PySem.W.mg_none_of X G bz4, PySem.W.mg_none_of X G bz5, PySem.W.mg_none_of X G bz6, PySem.W.mg_none_of X G bz7, PySem.W.mg_none_of X G bz8, PySem.W.mg_none_of X G bz9, PySem.W.mg_none_of X G bz10, PySem.W.mg_none_of X G bz11, PySem.W.mg_none_of X G bz12, PySem.W.mg_none_of X G bz13, PySem.W.mg_none_of X G bz14, PySem.W.mg_none_of X G bz15, PySem.W.mg_none_of X G bz16, PySem.W.mg_none_of X G bz17, PySem.W.mg_none_of X G bz18, PySem.W.mg_none_of X G bz19, PySem.W.mg_none_of X G bz20⟩
  have FLaw := fun_mk (st := sLaw) l0 c0 k0
  have FOverlayNumber := fun_mk (st := s_overlay_number) l1 c1 k1
  have DOverlayNumber : Def K mg "overlay_number" s_overlay_number f1 _ ["instruction_set", "programs", "entries", "code"] := ⟨FOverlayNumber, PySem.W.mg_of X G a1, FOverlayNumber.binds (ps := ["instruction_set", "programs", "entries", "code"]) fun _ _ _ _ _ _ us hl => match us, hl with | [_, _, _, _], _ => rfl⟩
  have FOverlayAt := fun_mk (st := s_overlay_at) l2 c2 k2
  have DOverlayAt : Def K mg "overlay_at" s_overlay_at f2 _ ["instruction_set", "programs", "entries", "length", "number"] := ⟨FOverlayAt, PySem.W.mg_of X G a2, FOverlayAt.binds (ps := ["instruction_set", "programs", "entries", "length", "number"]) fun _ _ _ _ _ _ us hl => match us, hl with | [_, _, _, _, _], _ => rfl⟩
  have FOverlayCount := fun_mk (st := s_overlay_count) l3 c3 k3
  have DOverlayCount : Def K mg "overlay_count" s_overlay_count f3 _ ["instruction_set", "programs", "entries", "length"] := ⟨FOverlayCount, PySem.W.mg_of X G a3, FOverlayCount.binds (ps := ["instruction_set", "programs", "entries", "length"]) fun _ _ _ _ _ _ us hl => match us, hl with | [_, _, _, _], _ => rfl⟩
  have FNextState := fun_mk (st := s_next_state) l4 c4 k4
  have DNextState : Def K mg "next_state" s_next_state f4 _ ["instruction_set", "programs", "entries", "state", "byte"] := ⟨FNextState, PySem.W.mg_of X G a4, FNextState.binds (ps := ["instruction_set", "programs", "entries", "state", "byte"]) fun _ _ _ _ _ _ us hl => match us, hl with | [_, _, _, _, _], _ => rfl⟩
  have FLMachine := fun_mk (st := sMachine) l5 c5 k5
  have DLMachine : Def K mg "_law_machine" sMachine f5 _ ["_law_box_here"] := ⟨FLMachine, PySem.W.mg_of X G a5, FLMachine.binds (ps := ["_law_box_here"]) fun _ _ _ _ _ _ us hl => match us, hl with | [_], _ => rfl⟩
  have FBo := fun_mk (st := sBox) l6 c6 k6
  have DBo : Def K mg "_law_box" sBox f6 _ ["_law_script", "_law_k"] := ⟨FBo, PySem.W.mg_of X G a6, FBo.binds (ps := ["_law_script", "_law_k"]) fun _ _ _ _ _ _ us hl => match us, hl with | [_, _], _ => rfl⟩
  have FIsOverlay := fun_mk (st := s_is_overlay) l7 c7 k7
  have DIsOverlay : Def K mg "is_overlay" s_is_overlay f7 _ ["instruction_set", "programs", "entries", "value"] := ⟨FIsOverlay, PySem.W.mg_of X G a7, FIsOverlay.binds (ps := ["instruction_set", "programs", "entries", "value"]) fun _ _ _ _ _ _ us hl => match us, hl with | [_, _, _, _], _ => rfl⟩
  have FDistancesToFinal := fun_mk (st := s_distances_to_final) l8 c8 k8
  have DDistancesToFinal : Def K mg "distances_to_final" s_distances_to_final f8 _ ["machine", "states", "moves"] := ⟨FDistancesToFinal, PySem.W.mg_of X G a8, FDistancesToFinal.binds (ps := ["machine", "states", "moves"]) fun _ _ _ _ _ _ us hl => match us, hl with | [_, _, _], _ => rfl⟩
  have FExplore := fun_mk (st := s_explore) l9 c9 k9
  have DExplore : Def K mg "explore" s_explore f9 _ ["machine", "ends_at_final"] := ⟨FExplore, PySem.W.mg_of X G a9, FExplore.binds (ps := ["machine", "ends_at_final"]) fun _ _ _ _ _ _ us hl => match us, hl with | [_, _], _ => rfl⟩
  have FDecoderBehind := fun_mk (st := s_decoder_behind) l10 c10 k10
  have DDecoderBehind : Def K mg "decoder_behind" s_decoder_behind f10 _ ["padding", "steps", "decoder", "byte"] := ⟨FDecoderBehind, PySem.W.mg_of X G a10, FDecoderBehind.binds (ps := ["padding", "steps", "decoder", "byte"]) fun _ _ _ _ _ _ us hl => match us, hl with | [_, _, _, _], _ => rfl⟩
  have FStepDecoder := fun_mk (st := s_step_decoder) l11 c11 k11
  have DStepDecoder : Def K mg "step_decoder" s_step_decoder f11 _ ["done", "left"] := ⟨FStepDecoder, PySem.W.mg_of X G a11, FStepDecoder.binds (ps := ["done", "left"]) fun _ _ _ _ _ _ us hl => match us, hl with | [_, _], _ => rfl⟩
  have FPaddingDecoder := fun_mk (st := s_padding_decoder) l12 c12 k12
  have DPaddingDecoder : Def K mg "padding_decoder" s_padding_decoder f12 _ ["done", "left"] := ⟨FPaddingDecoder, PySem.W.mg_of X G a12, FPaddingDecoder.binds (ps := ["done", "left"]) fun _ _ _ _ _ _ us hl => match us, hl with | [_, _], _ => rfl⟩
  have FDecoderBytes := fun_mk (st := s_decoder_bytes) l13 c13 k13
  have DDecoderBytes : Def K mg "decoder_bytes" s_decoder_bytes f13 _ ["padding", "steps", "decoder"] := ⟨FDecoderBytes, PySem.W.mg_of X G a13, FDecoderBytes.binds (ps := ["padding", "steps", "decoder"]) fun _ _ _ _ _ _ us hl => match us, hl with | [_, _, _], _ => rfl⟩
  have FOpcodeSteps := fun_mk (st := s_opcode_steps) l14 c14 k14
  have DOpcodeSteps : Def K mg "opcode_steps" s_opcode_steps f14 _ ["instruction_set", "program"] := ⟨FOpcodeSteps, PySem.W.mg_of X G a14, FOpcodeSteps.binds (ps := ["instruction_set", "program"]) fun _ _ _ _ _ _ us hl => match us, hl with | [_, _], _ => rfl⟩
  have FPaddingByOpcode := fun_mk (st := s_padding_by_opcode) l15 c15 k15
  have DPaddingByOpcode : Def K mg "padding_by_opcode" s_padding_by_opcode f15 _ ["instruction_set"] := ⟨FPaddingByOpcode, PySem.W.mg_of X G a15, FPaddingByOpcode.binds (ps := ["instruction_set"]) fun _ _ _ _ _ _ us hl => match us, hl with | [_], _ => rfl⟩
  have FRu := fun_mk (st := s_runs) l16 c16 k16
  have DRu : Def K mg "runs" s_runs f16 _ ["instruction_set", "code", "entry", "program"] := ⟨FRu, PySem.W.mg_of X G a16, FRu.binds (ps := ["instruction_set", "code", "entry", "program"]) fun _ _ _ _ _ _ us hl => match us, hl with | [_, _, _, _], _ => rfl⟩
  have FIc := fun_mk (st := sIsCode) l17 c17 k17
  have DIc : Def K mg "is_code" sIsCode f17 _ ["instruction_set", "value"] := ⟨FIc, PySem.W.mg_of X G a17, FIc.binds (ps := ["instruction_set", "value"]) fun _ _ _ _ _ _ us hl => match us, hl with | [_, _], _ => rfl⟩
  have FCkO := fun_mk (st := s_check_overlay) l18 c18 k18
  have DCkO : Def K mg "check_overlay" s_check_overlay f18 _ ["instruction_set", "programs", "entries"] := ⟨FCkO, PySem.W.mg_of X G a18, FCkO.binds (ps := ["instruction_set", "programs", "entries"]) fun _ _ _ _ _ _ us hl => match us, hl with | [_, _, _], _ => rfl⟩
  have FCheckEntry := fun_mk (st := sCheckEntry) l19 c19 k19
  have DCheckEntry : Def K mg "check_entry" sCheckEntry f19 _ ["code", "entry"] := ⟨FCheckEntry, PySem.W.mg_of X G a19, FCheckEntry.binds (ps := ["code", "entry"]) fun _ _ _ _ _ _ us hl => match us, hl with | [_, _], _ => rfl⟩
  have FCheckProgram := fun_mk (st := s_check_program) l20 c20 k20
  have DCheckProgram : Def K mg "check_program" s_check_program f20 _ ["instruction_set", "program"] := ⟨FCheckProgram, PySem.W.mg_of X G a20, FCheckProgram.binds (ps := ["instruction_set", "program"]) fun _ _ _ _ _ _ us hl => match us, hl with | [_, _], _ => rfl⟩
  have FExecuted : FunD K "executed" "executed" (defArgs s_executed) (defBody s_executed) (defScope s_executed) [.int 0] [] f21 _ := ⟨⟨_, _, .ref dT21, _, _, _, _, _, _, _, rfl, l21, c21, .inr ⟨by simp, dT21, _, [.int 0 xtk21_0], _, rfl, ld21, rfl, .cons ⟨_, rfl⟩ (.nil)⟩, .inl rfl⟩, k21⟩
  obtain ⟨dsExecuted_0, vExecuted_0, bExecuted_0⟩ := FExecuted.binds1 (ps := ["instruction_set", "code", "entry"]) 2 0 (by simp) rfl (fun T kV doc pm an cdv ct us its h1 h2 => match us, its, h1, h2 with | [_, _], [_], _, _ => ⟨_, rfl, rfl⟩)
  obtain ⟨dsExecuted_1, vExecuted_1, bExecuted_1⟩ := FExecuted.binds1 (ps := ["instruction_set", "code", "entry"]) 3 1 (by simp) rfl (fun T kV doc pm an cdv ct us its h1 h2 => match us, its, h1, h2 with | [_, _, _], [_], _, _ => ⟨_, rfl, rfl⟩)
  cases vExecuted_1
  have gExecuted := PySem.W.mg_of X G a21
  have FIsMatch := fun_mk (st := s_is_match) l22 c22 k22
  have DIsMatch : Def K mg "is_match" s_is_match f22 _ ["step", "wanted"] := ⟨FIsMatch, PySem.W.mg_of X G a22, FIsMatch.binds (ps := ["step", "wanted"]) fun _ _ _ _ _ _ us hl => match us, hl with | [_, _], _ => rfl⟩
  have FBt := fun_mk (st := sBetween) l23 c23 k23
  have DBt : Def K mg "is_integer_between" sBetween f23 _ ["value", "least", "most"] := ⟨FBt, PySem.W.mg_of X G a23, FBt.binds (ps := ["value", "least", "most"]) fun _ _ _ _ _ _ us hl => match us, hl with | [_, _, _], _ => rfl⟩
  have FIsInteger := fun_mk (st := sIsInt) l24 c24 k24
  have DIsInteger : Def K mg "is_integer" sIsInt f24 _ ["value"] := ⟨FIsInteger, PySem.W.mg_of X G a24, FIsInteger.binds (ps := ["value"]) fun _ _ _ _ _ _ us hl => match us, hl with | [_], _ => rfl⟩
  have FIsProgram := fun_mk (st := s_is_program) l25 c25 k25
  have DIsProgram : Def K mg "is_program" s_is_program f25 _ ["instruction_set", "value"] := ⟨FIsProgram, PySem.W.mg_of X G a25, FIsProgram.binds (ps := ["instruction_set", "value"]) fun _ _ _ _ _ _ us hl => match us, hl with | [_, _], _ => rfl⟩
  have FStepLengths := fun_mk (st := s_step_lengths) l26 c26 k26
  have DStepLengths : Def K mg "step_lengths" s_step_lengths f26 _ ["instruction_set"] := ⟨FStepLengths, PySem.W.mg_of X G a26, FStepLengths.binds (ps := ["instruction_set"]) fun _ _ _ _ _ _ us hl => match us, hl with | [_], _ => rfl⟩
  have FIsStep := fun_mk (st := s_is_step) l27 c27 k27
  have DIsStep : Def K mg "is_step" s_is_step f27 _ ["instruction_set", "lengths", "value"] := ⟨FIsStep, PySem.W.mg_of X G a27, FIsStep.binds (ps := ["instruction_set", "lengths", "value"]) fun _ _ _ _ _ _ us hl => match us, hl with | [_, _, _], _ => rfl⟩
  have FDecode : FunD K "decode" "decode" (defArgs sDecode) (defBody sDecode) (defScope sDecode) [.int 0] [] f28 _ := ⟨⟨_, _, .ref dT28, _, _, _, _, _, _, _, rfl, l28, c28, .inr ⟨by simp, dT28, _, [.int 0 xtk28_0], _, rfl, ld28, rfl, .cons ⟨_, rfl⟩ (.nil)⟩, .inl rfl⟩, k28⟩
  obtain ⟨dsDecode_0, vDecode_0, bDecode_0⟩ := FDecode.binds1 (ps := ["instruction_set", "code", "entry"]) 2 0 (by simp) rfl (fun T kV doc pm an cdv ct us its h1 h2 => match us, its, h1, h2 with | [_, _], [_], _, _ => ⟨_, rfl, rfl⟩)
  obtain ⟨dsDecode_1, vDecode_1, bDecode_1⟩ := FDecode.binds1 (ps := ["instruction_set", "code", "entry"]) 3 1 (by simp) rfl (fun T kV doc pm an cdv ct us its h1 h2 => match us, its, h1, h2 with | [_, _, _], [_], _, _ => ⟨_, rfl, rfl⟩)
  cases vDecode_1
  have gDecode := PySem.W.mg_of X G a28
  have FWalk := fun_mk (st := sWalk) l29 c29 k29
  have DWalk : Def K mg "walk" sWalk f29 _ ["instruction_set", "code", "entry"] := ⟨FWalk, PySem.W.mg_of X G a29, FWalk.binds (ps := ["instruction_set", "code", "entry"]) fun _ _ _ _ _ _ us hl => match us, hl with | [_, _, _], _ => rfl⟩
  have FReadInstructions := fun_mk (st := sReadI) l30 c30 k30
  have DReadInstructions : Def K mg "read_instructions" sReadI f30 _ ["instruction_set", "code", "offsets"] := ⟨FReadInstructions, PySem.W.mg_of X G a30, FReadInstructions.binds (ps := ["instruction_set", "code", "offsets"]) fun _ _ _ _ _ _ us hl => match us, hl with | [_, _, _], _ => rfl⟩
  have FEnding := fun_mk (st := sEnding) l31 c31 k31
  have DEnding : Def K mg "ending" sEnding f31 _ ["code", "begun", "following"] := ⟨FEnding, PySem.W.mg_of X G a31, FEnding.binds (ps := ["code", "begun", "following"]) fun _ _ _ _ _ _ us hl => match us, hl with | [_, _, _], _ => rfl⟩
  have FStateCount := fun_mk (st := s_state_count) l32 c32 k32
  have DStateCount : Def K mg "state_count" s_state_count f32 _ ["instruction_set", "programs", "entries"] := ⟨FStateCount, PySem.W.mg_of X G a32, FStateCount.binds (ps := ["instruction_set", "programs", "entries"]) fun _ _ _ _ _ _ us hl => match us, hl with | [_, _, _], _ => rfl⟩
  have FCheckPrograms := fun_mk (st := s_check_programs) l33 c33 k33
  have DCheckPrograms : Def K mg "check_programs" s_check_programs f33 _ ["instruction_set", "programs"] := ⟨FCheckPrograms, PySem.W.mg_of X G a33, FCheckPrograms.binds (ps := ["instruction_set", "programs"]) fun _ _ _ _ _ _ us hl => match us, hl with | [_, _], _ => rfl⟩
  have FCheckEntries := fun_mk (st := s_check_entries) l34 c34 k34
  have DCheckEntries : Def K mg "check_entries" s_check_entries f34 _ ["programs", "entries"] := ⟨FCheckEntries, PySem.W.mg_of X G a34, FCheckEntries.binds (ps := ["programs", "entries"]) fun _ _ _ _ _ _ us hl => match us, hl with | [_, _], _ => rfl⟩
  have FDecoderCount := fun_mk (st := s_decoder_count) l35 c35 k35
  have DDecoderCount : Def K mg "decoder_count" s_decoder_count f35 _ ["instruction_set", "program"] := ⟨FDecoderCount, PySem.W.mg_of X G a35, FDecoderCount.binds (ps := ["instruction_set", "program"]) fun _ _ _ _ _ _ us hl => match us, hl with | [_, _], _ => rfl⟩
  have FAreEntries := fun_mk (st := s_are_entries) l36 c36 k36
  have DAreEntries : Def K mg "are_entries" s_are_entries f36 _ ["value"] := ⟨FAreEntries, PySem.W.mg_of X G a36, FAreEntries.binds (ps := ["value"]) fun _ _ _ _ _ _ us hl => match us, hl with | [_], _ => rfl⟩
  have FAs := fun_mk (st := sAscending) l37 c37 k37
  have DAs : Def K mg "is_ascending" sAscending f37 _ ["numbers"] := ⟨FAs, PySem.W.mg_of X G a37, FAs.binds (ps := ["numbers"]) fun _ _ _ _ _ _ us hl => match us, hl with | [_], _ => rfl⟩
  have FLongestRest := fun_mk (st := s_longest_rest) l38 c38 k38
  have DLongestRest : Def K mg "longest_rest" s_longest_rest f38 _ ["instruction_set"] := ⟨FLongestRest, PySem.W.mg_of X G a38, FLongestRest.binds (ps := ["instruction_set"]) fun _ _ _ _ _ _ us hl => match us, hl with | [_], _ => rfl⟩
  have FChosenMove := fun_mk (st := s_chosen_move) l39 c39 k39
  have DChosenMove : Def K mg "chosen_move" s_chosen_move f39 _ ["moves", "level", "number"] := ⟨FChosenMove, PySem.W.mg_of X G a39, FChosenMove.binds (ps := ["moves", "level", "number"]) fun _ _ _ _ _ _ us hl => match us, hl with | [_, _, _], _ => rfl⟩
  have FTk := fun_mk (st := sTake) l40 c40 k40
  have DTk : Def K mg "_law_take" sTake f40 _ ["_law_box_here", "_law_many"] := ⟨FTk, PySem.W.mg_of X G a40, FTk.binds (ps := ["_law_box_here", "_law_many"]) fun _ _ _ _ _ _ us hl => match us, hl with | [_, _], _ => rfl⟩
  have FAreInstructions := fun_mk (st := sAreInstr) l41 c41 k41
  have DAreInstructions : Def K mg "are_instructions" sAreInstr f41 _ ["byte_count", "value"] := ⟨FAreInstructions, PySem.W.mg_of X G a41, FAreInstructions.binds (ps := ["byte_count", "value"]) fun _ _ _ _ _ _ us hl => match us, hl with | [_, _], _ => rfl⟩
  have FIsInstruction := fun_mk (st := sIsInstr) l42 c42 k42
  have DIsInstruction : Def K mg "is_instruction" sIsInstr f42 _ ["byte_count", "value"] := ⟨FIsInstruction, PySem.W.mg_of X G a42, FIsInstruction.binds (ps := ["byte_count", "value"]) fun _ _ _ _ _ _ us hl => match us, hl with | [_, _], _ => rfl⟩
  have FIsName := fun_mk (st := sIsName) l43 c43 k43
  have DIsName : Def K mg "is_name" sIsName f43 _ ["value"] := ⟨FIsName, PySem.W.mg_of X G a43, FIsName.binds (ps := ["value"]) fun _ _ _ _ _ _ us hl => match us, hl with | [_], _ => rfl⟩
  have FOvInit := fun_mk (st := sOverlayGraph_init) ml0_0 mc0_0 mk0_0
  have bOvInit := FOvInit.binds (ps := ["self", "instruction_set", "programs", "entries"]) fun _ _ _ _ _ _ us hl => match us, hl with | [_, _, _, _], _ => rfl
  have FOvSortedMoves := fun_mk (st := sOverlayGraph_sorted_moves) ml0_1 mc0_1 mk0_1
  have bOvSortedMoves := FOvSortedMoves.binds (ps := ["self", "state"]) fun _ _ _ _ _ _ us hl => match us, hl with | [_, _], _ => rfl
  have FOvLevels := fun_mk (st := sOverlayGraph_levels) ml0_2 mc0_2 mk0_2
  have bOvLevels := FOvLevels.binds (ps := ["self", "length"]) fun _ _ _ _ _ _ us hl => match us, hl with | [_, _], _ => rfl
  have FOvUsefulPart := fun_mk (st := sOverlayGraph_useful_part) ml0_3 mc0_3 mk0_3
  have bOvUsefulPart := FOvUsefulPart.binds (ps := ["self", "row"]) fun _ _ _ _ _ _ us hl => match us, hl with | [_, _], _ => rfl
  have FOvLevelBefore := fun_mk (st := sOverlayGraph_level_before) ml0_4 mc0_4 mk0_4
  have bOvLevelBefore := FOvLevelBefore.binds (ps := ["self", "level"]) fun _ _ _ _ _ _ us hl => match us, hl with | [_, _], _ => rfl
  have FOvLastLevel := fun_mk (st := sOverlayGraph_last_level) ml0_5 mc0_5 mk0_5
  have bOvLastLevel := FOvLastLevel.binds (ps := ["self"]) fun _ _ _ _ _ _ us hl => match us, hl with | [_], _ => rfl
  have FStInit := fun_mk (st := sStateMachine_init) ml1_0 mc1_0 mk1_0
  have bStInit := FStInit.binds (ps := ["self", "instruction_set", "programs", "entries"]) fun _ _ _ _ _ _ us hl => match us, hl with | [_, _, _, _], _ => rfl
  have FStIsFinal := fun_mk (st := sStateMachine_is_final) ml1_1 mc1_1 mk1_1
  have bStIsFinal := FStIsFinal.binds (ps := ["self", "state"]) fun _ _ _ _ _ _ us hl => match us, hl with | [_, _], _ => rfl
  have FStMoves := fun_mk (st := sStateMachine_moves) ml1_2 mc1_2 mk1_2
  have bStMoves := FStMoves.binds (ps := ["self", "state"]) fun _ _ _ _ _ _ us hl => match us, hl with | [_, _], _ => rfl
  have FStFirstState := fun_mk (st := sStateMachine_first_state) ml1_3 mc1_3 mk1_3
  have bStFirstState := FStFirstState.binds (ps := ["self"]) fun _ _ _ _ _ _ us hl => match us, hl with | [_], _ => rfl
  have FStStateBehind := fun_mk (st := sStateMachine_state_behind) ml1_4 mc1_4 mk1_4
  have bStStateBehind := FStStateBehind.binds (ps := ["self", "state", "byte"]) fun _ _ _ _ _ _ us hl => match us, hl with | [_, _, _], _ => rfl
  have FStFittingBytes := fun_mk (st := sStateMachine_fitting_bytes) ml1_5 mc1_5 mk1_5
  have bStFittingBytes := FStFittingBytes.binds (ps := ["self", "state"]) fun _ _ _ _ _ _ us hl => match us, hl with | [_, _], _ => rfl
  have FIi := fun_mk (st := sInitI) ml2_0 mc2_0 mk2_0
  have bIi := FIi.binds (ps := ["self", "byte_count", "instructions"]) fun _ _ _ _ _ _ us hl => match us, hl with | [_, _, _], _ => rfl
  have FOp := fun_mk (st := sOpc) ml2_1 mc2_1 mk2_1
  have bOp := FOp.binds (ps := ["self", "name"]) fun _ _ _ _ _ _ us hl => match us, hl with | [_, _], _ => rfl
  have FLa := fun_mk (st := sLenAt) ml2_2 mc2_2 mk2_2
  have bLa := FLa.binds (ps := ["self", "byte"]) fun _ _ _ _ _ _ us hl => match us, hl with | [_, _], _ => rfl
  have FPl := fun_mk (st := sPadLens) ml2_3 mc2_3 mk2_3
  have bPl := FPl.binds (ps := ["self"]) fun _ _ _ _ _ _ us hl => match us, hl with | [_], _ => rfl
  have CKMoststeps : ∃ t, mg "MOST_STEPS" = some (.int 12 t) := ⟨_, PySem.W.mg_of X G cst0⟩
  have CKMoststates : ∃ t, mg "MOST_STATES" = some (.int 5000 t) := ⟨_, PySem.W.mg_of X G cst1⟩
  have CKMostprograms : ∃ t, mg "MOST_PROGRAMS" = some (.int 3 t) := ⟨_, PySem.W.mg_of X G cst2⟩
  have CKGreatestentry : ∃ t, mg "GREATEST_ENTRY" = some (.int 12 t) := ⟨_, PySem.W.mg_of X G cst3⟩
  have CKLeastbytecount : ∃ t, mg "LEAST_BYTE_COUNT" = some (.int 2 t) := ⟨_, PySem.W.mg_of X G cst4⟩
  have CKMostbytecount : ∃ t, mg "MOST_BYTE_COUNT" = some (.int 256 t) := ⟨_, PySem.W.mg_of X G cst5⟩
  have CKMostletters : ∃ t, mg "MOST_LETTERS" = some (.int 8 t) := ⟨_, PySem.W.mg_of X G cst6⟩
  have CKMostlength : ∃ t, mg "MOST_LENGTH" = some (.int 12 t) := ⟨_, PySem.W.mg_of X G cst7⟩

  refine ⟨PySem.W.fnOf "law" "law" (defArgs sLaw) (defBody sLaw) (defScope sLaw) .none kV0 dc0 pm0 an0 cd0 ct0, fun s v => .of_eq rfl, fun base _ _ => ?_⟩
  have Sg : GrTxt K mg C0 := ⟨⟨pg0, hd0, po0, sa0⟩, na0_0, na0_1, PySem.W.mg_of X G clA0⟩
  have Sm : MacTxt K mg C1 := ⟨⟨pg1, hd1, po1, sa1⟩, na1_0, na1_1, na1_2, na1_3, na1_4, PySem.W.mg_of X G clA1⟩
  have S : SetTxt K mg C2 := ⟨⟨pg2, hd2, po2, sa2⟩, na2_0, na2_1, na2_2, na2_3, PySem.W.mg_of X G clA2⟩
  have GStateMachineisfinal_spFinalKCm : FnOk P w K mg base CX0 1 _ _ ["self", "state"] (spFinal K C1) := ok_finalM FStIsFinal Sm
  have Gdistancestofinal_spDistKCm : FnOk P w K mg base CX0 2 _ _ ["machine", "states", "moves"] (spDist K C1) := ok_distances_to_final FDistancesToFinal T Sm ⟨ma1_1, mi1_1, mk1_1⟩ bStIsFinal (up GStateMachineisfinal_spFinalKCm (by decide))
  have Gstepdecoder_spStepDecK : FnOk P w K mg base CX0 1 _ _ ["done", "left"] (spStepDec K) := ok_stepDec FStepDecoder
  have Gpaddingdecoder_spPadDecK : FnOk P w K mg base CX0 1 _ _ ["done", "left"] (spPadDec K) := ok_padDec FPaddingDecoder
  have Gdecoderbehind_spDecBK : FnOk P w K mg base CX0 2 _ _ ["padding", "steps", "decoder", "byte"] (spDecB K) := ok_decB FDecoderBehind T DStepDecoder (up Gstepdecoder_spStepDecK (by decide)) DPaddingDecoder (up Gpaddingdecoder_spPadDecK (by decide))
  have GStateMachinestatebehind_spBehindMKCm : FnOk P w K mg base CX0 3 _ _ ["self", "state", "byte"] (spBehindM K C1) := ok_behindM FStStateBehind T Sm DDecoderBehind (up Gdecoderbehind_spDecBK (by decide))
  have Gdecoderbytes_spDbyK : FnOk P w K mg base CX0 1 _ _ ["padding", "steps", "decoder"] (spDby K) := ok_dby FDecoderBytes T
  have GStateMachinefittingbytes_spFitBKCm : FnOk P w K mg base CX0 2 _ _ ["self", "state"] (spFitB K C1) := ok_fitB FStFittingBytes T Sm DDecoderBytes (up Gdecoderbytes_spDbyK (by decide))
  have GStateMachinemoves_spMovesKCm : FnOk P w K mg base CX0 4 _ _ ["self", "state"] (spMoves K C1) := ok_movesM FStMoves T Sm ⟨ma1_4, mi1_4, mk1_4⟩ bStStateBehind (up GStateMachinestatebehind_spBehindMKCm (by decide)) ⟨ma1_5, mi1_5, mk1_5⟩ bStFittingBytes (up GStateMachinefittingbytes_spFitBKCm (by decide))
  have GStateMachinefirststate_spFirstKCm : FnOk P w K mg base CX0 1 _ _ ["self"] (spFirst K C1) := ok_firstM FStFirstState T Sm
  have Gexplore_spExploreKCm : FnOk P w K mg base CX0 5 _ _ ["machine", "ends_at_final"] (spExplore K C1) := ok_explore FExplore T Sm ⟨ma1_2, mi1_2, mk1_2⟩ bStMoves (up GStateMachinemoves_spMovesKCm (by decide)) ⟨ma1_1, mi1_1, mk1_1⟩ bStIsFinal (up GStateMachineisfinal_spFinalKCm (by decide)) ⟨ma1_3, mi1_3, mk1_3⟩ bStFirstState (up GStateMachinefirststate_spFirstKCm (by decide))
  have GInstructionSetopcode_spOpcKC : FnOk P w K mg base CX0 1 _ _ ["self", "name"] (spOpc K C2) := ok_opc FOp T S
  have Gopcodesteps_spOpStepsKC : FnOk P w K mg base CX0 2 _ _ ["instruction_set", "program"] (spOpSteps K C2) := ok_opSteps FOpcodeSteps S ⟨ma2_1, mi2_1, mk2_1⟩ bOp (up GInstructionSetopcode_spOpcKC (by decide))
  have Gpaddingbyopcode_spPadByC : FnOk P w K mg base CX0 1 _ _ ["instruction_set"] (spPadBy C2) := ok_padBy FPaddingByOpcode S
  have GStateMachineinit_spInitMKCCm : FnOk P w K mg base CX0 3 _ _ ["self", "instruction_set", "programs", "entries"] (spInitM K C2 C1) := ok_initM FStInit T S Sm DOpcodeSteps (up Gopcodesteps_spOpStepsKC (by decide)) DPaddingByOpcode (up Gpaddingbyopcode_spPadByC (by decide))
  have GOverlayGraphusefulpart_spUsefulKCg : FnOk P w K mg base CX0 1 _ _ ["self", "row"] (spUseful K C0) := ok_usefulG FOvUsefulPart Sg
  have GOverlayGraphinit_spInitGKCCmCg : FnOk P w K mg base CX0 6 _ _ ["self", "instruction_set", "programs", "entries"] (spInitG K C2 C1 C0) := ok_initG FOvInit S Sm Sg DDistancesToFinal (up Gdistancestofinal_spDistKCm (by decide)) DExplore (up Gexplore_spExploreKCm (by decide)) ⟨mks1, ma1_0, mi1_0, kc1⟩ bStInit (up GStateMachineinit_spInitMKCCm (by decide)) ⟨ma0_3, mi0_3, mk0_3⟩ bOvUsefulPart (up GOverlayGraphusefulpart_spUsefulKCg (by decide))
  have Gisintegerbetween_spBetween : FnOk P w K mg base CX0 2 _ _ ["value", "least", "most"] (spBetween) := ok_between FBt T DIsInteger
  have Gcheckentry_spCkEK : FnOk P w K mg base CX0 3 _ _ ["code", "entry"] (spCkE K) := ok_ckE FCheckEntry T DBt (up Gisintegerbetween_spBetween (by decide))
  have Gsteplengths_spStepLC : FnOk P w K mg base CX0 4 _ _ ["instruction_set"] (spStepL C2) := ok_stepL FStepLengths S
  have Gisintegerbetween_spBetweenXK : FnOk P w K mg base CX0 2 _ _ ["value", "least", "most"] (spBetweenX K) := ok_betweenX FBt T DIsInteger
  have Gisstep_spStepKC : FnOk P w K mg base CX0 4 _ _ ["instruction_set", "lengths", "value"] (spStep K C2) := ok_step FIsStep T S DBt (up Gisintegerbetween_spBetweenXK (by decide))
  have Gisprogram_spProgKC : FnOk P w K mg base CX0 5 _ _ ["instruction_set", "value"] (spProg K C2) := ok_prog FIsProgram T CKMoststeps DStepLengths (up Gsteplengths_spStepLC (by decide)) DIsStep (up Gisstep_spStepKC (by decide))
  have Gcheckprogram_spCkPKC : FnOk P w K mg base CX0 6 _ _ ["instruction_set", "program"] (spCkP K C2) := ok_ckP FCheckProgram DIsProgram (up Gisprogram_spProgKC (by decide))
  have GInstructionSetlengthat_spLenAtC : FnOk P w K mg base CX0 1 _ _ ["self", "byte"] (spLenAt C2) := ok_lenAt FLa S
  have Gwalk_spWalkKC : FnOk P w K mg base CX0 3 _ _ ["instruction_set", "code", "entry"] (spWalk K C2) := ok_walk FWalk T S ⟨ma2_2, mi2_2, mk2_2⟩ bLa (up GInstructionSetlengthat_spLenAtC (by decide))
  have Greadinstructions_spReadIKC : FnOk P w K mg base CX0 3 _ _ ["instruction_set", "code", "offsets"] (spReadI K C2) := ok_readI FReadInstructions T S ⟨ma2_2, mi2_2, mk2_2⟩ bLa (up GInstructionSetlengthat_spLenAtC (by decide))
  have Gending_spEndingK : FnOk P w K mg base CX0 3 _ _ ["code", "begun", "following"] (spEnding K) := ok_ending FEnding T
  have Gdecode_spDecodeKC : FnOk P w K mg base CX0 4 _ _ ["instruction_set", "code", "entry"] (spDecode K C2) := ok_decode FDecode T DCheckEntry (up Gcheckentry_spCkEK (by decide)) DWalk (up Gwalk_spWalkKC (by decide)) DReadInstructions (up Greadinstructions_spReadIKC (by decide)) DEnding (up Gending_spEndingK (by decide))
  have Gexecuted_spExecKC : FnOk P w K mg base CX0 5 _ _ ["instruction_set", "code", "entry"] (spExec K C2) := ok_exec FExecuted T gDecode FDecode.kp bDecode_1 (up Gdecode_spDecodeKC (by decide)) DStepLengths (up Gsteplengths_spStepLC (by decide))
  have Gismatch_spMatchK : FnOk P w K mg base CX0 1 _ _ ["step", "wanted"] (spMatch K) := ok_match FIsMatch T
  have Gruns_spRunsKC : FnOk P w K mg base CX0 7 _ _ ["instruction_set", "code", "entry", "program"] (spRuns K C2) := ok_runs FRu T DCheckEntry (up Gcheckentry_spCkEK (by decide)) DCheckProgram (up Gcheckprogram_spCkPKC (by decide)) gExecuted FExecuted.kp bExecuted_1 (up Gexecuted_spExecKC (by decide)) DIsMatch (up Gismatch_spMatchK (by decide))
  have Giscode_spIsCodeKC : FnOk P w K mg base CX0 3 _ _ ["instruction_set", "value"] (spIsCode K C2) := ok_isCode FIc T S DBt (up Gisintegerbetween_spBetweenXK (by decide))
  have Gcheckprograms_spCkPsKC : FnOk P w K mg base CX0 7 _ _ ["instruction_set", "programs"] (spCkPs K C2) := ok_ckPs FCheckPrograms T CKMostprograms DCheckProgram (up Gcheckprogram_spCkPKC (by decide))
  have Gisascending_spAscendingK : FnOk P w K mg base CX0 1 _ _ ["numbers"] (spAscending K) := ok_ascending FAs T
  have Gareentries_spAreEK : FnOk P w K mg base CX0 3 _ _ ["value"] (spAreE K) := ok_areE FAreEntries T CKGreatestentry DBt (up Gisintegerbetween_spBetween (by decide)) DAs (up Gisascending_spAscendingK (by decide))
  have Gcheckentries_spCkEsK : FnOk P w K mg base CX0 4 _ _ ["programs", "entries"] (spCkEs K) := ok_ckEs FCheckEntries T DAreEntries (up Gareentries_spAreEK (by decide))
  have GInstructionSetpaddinglengths_spPadLensC : FnOk P w K mg base CX0 1 _ _ ["self"] (spPadLens C2) := ok_padLens FPl T S
  have Glongestrest_spLRestC : FnOk P w K mg base CX0 2 _ _ ["instruction_set"] (spLRest C2) := ok_lrest FLongestRest T S ⟨ma2_3, mi2_3, mk2_3⟩ bPl (up GInstructionSetpaddinglengths_spPadLensC (by decide))
  have Gdecodercount_spDcntKC : FnOk P w K mg base CX0 3 _ _ ["instruction_set", "program"] (spDcnt K C2) := ok_dcnt FDecoderCount T DLongestRest (up Glongestrest_spLRestC (by decide))
  have Gstatecount_spStcKC : FnOk P w K mg base CX0 8 _ _ ["instruction_set", "programs", "entries"] (spStc K C2) := ok_stc FStateCount T DCheckPrograms (up Gcheckprograms_spCkPsKC (by decide)) DCheckEntries (up Gcheckentries_spCkEsK (by decide)) DDecoderCount (up Gdecodercount_spDcntKC (by decide))
  have Gcheckoverlay_spCkOKC : FnOk P w K mg base CX0 9 _ _ ["instruction_set", "programs", "entries"] (spCkO K C2) := ok_ckO FCkO CKMoststates DStateCount (up Gstatecount_spStcKC (by decide))
  have Gisoverlay_spIsOvKC : FnOk P w K mg base CX0 10 _ _ ["instruction_set", "programs", "entries", "value"] (spIsOv K C2) := ok_isOv FIsOverlay T DRu (up Gruns_spRunsKC (by decide)) DIc (up Giscode_spIsCodeKC (by decide)) DCkO (up Gcheckoverlay_spCkOKC (by decide))
  have GOverlayGraphsortedmoves_spSortedKCg : FnOk P w K mg base CX0 1 _ _ ["self", "state"] (spSorted K C0) := ok_sortedG FOvSortedMoves T Sg
  have GOverlayGraphlevelbefore_spLevelBKCg : FnOk P w K mg base CX0 1 _ _ ["self", "level"] (spLevelB K C0) := ok_beforeG FOvLevelBefore T Sg
  have GOverlayGraphlastlevel_spLastLKCg : FnOk P w K mg base CX0 1 _ _ ["self"] (spLastL K C0) := ok_lastG FOvLastLevel Sg
  have GOverlayGraphlevels_spLevelsKCg : FnOk P w K mg base CX0 2 _ _ ["self", "length"] (spLevels K C0) := ok_levelsG FOvLevels T Sg ⟨ma0_4, mi0_4, mk0_4⟩ bOvLevelBefore (up GOverlayGraphlevelbefore_spLevelBKCg (by decide)) ⟨ma0_5, mi0_5, mk0_5⟩ bOvLastLevel (up GOverlayGraphlastlevel_spLastLKCg (by decide))
  have Goverlaynumber_spNumberKCCmCg : FnOk P w K mg base CX0 11 _ _ ["instruction_set", "programs", "entries", "code"] (spNumber K C2 C1 C0) := ok_number FOverlayNumber T S Sm Sg ⟨mks0, ma0_0, mi0_0, kc0⟩ bOvInit (up GOverlayGraphinit_spInitGKCCmCg (by decide)) DIsOverlay (up Gisoverlay_spIsOvKC (by decide)) ⟨ma0_1, mi0_1, mk0_1⟩ bOvSortedMoves (up GOverlayGraphsortedmoves_spSortedKCg (by decide)) ⟨ma0_2, mi0_2, mk0_2⟩ bOvLevels (up GOverlayGraphlevels_spLevelsKCg (by decide))
  have Gchosenmove_spChosenK : FnOk P w K mg base CX0 1 _ _ ["moves", "level", "number"] (spChosen K) := ok_chosen FChosenMove T
  have Goverlayat_spAtKCCmCg : FnOk P w K mg base CX0 10 _ _ ["instruction_set", "programs", "entries", "length", "number"] (spAt K C2 C1 C0) := ok_ovAt FOverlayAt T S Sm Sg (PySem.W.mg_none_of X G bzreversed) DChosenMove (up Gchosenmove_spChosenK (by decide)) DBt (up Gisintegerbetween_spBetween (by decide)) ⟨mks0, ma0_0, mi0_0, kc0⟩ bOvInit (up GOverlayGraphinit_spInitGKCCmCg (by decide)) DCkO (up Gcheckoverlay_spCkOKC (by decide)) ⟨ma0_1, mi0_1, mk0_1⟩ bOvSortedMoves (up GOverlayGraphsortedmoves_spSortedKCg (by decide)) ⟨ma0_2, mi0_2, mk0_2⟩ bOvLevels (up GOverlayGraphlevels_spLevelsKCg (by decide))
  have Goverlaycount_spCountKCCmCg : FnOk P w K mg base CX0 10 _ _ ["instruction_set", "programs", "entries", "length"] (spCount K C2 C1 C0) := ok_count FOverlayCount T S Sm Sg ⟨mks0, ma0_0, mi0_0, kc0⟩ bOvInit (up GOverlayGraphinit_spInitGKCCmCg (by decide)) DCkO (up Gcheckoverlay_spCkOKC (by decide)) ⟨ma0_4, mi0_4, mk0_4⟩ bOvLevelBefore (up GOverlayGraphlevelbefore_spLevelBKCg (by decide)) ⟨ma0_5, mi0_5, mk0_5⟩ bOvLastLevel (up GOverlayGraphlastlevel_spLastLKCg (by decide))
  have Gnextstate_spNextKCCm : FnOk P w K mg base CX0 10 _ _ ["instruction_set", "programs", "entries", "state", "byte"] (spNext K C2 C1) := ok_nextst FNextState S Sm ⟨mks1, ma1_0, mi1_0, kc1⟩ bStInit (up GStateMachineinit_spInitMKCCm (by decide)) DCkO (up Gcheckoverlay_spCkOKC (by decide)) ⟨ma1_4, mi1_4, mk1_4⟩ bStStateBehind (up GStateMachinestatebehind_spBehindMKCm (by decide))
  have Gisinstruction_spInstr : FnOk P w K mg base CX0 3 _ _ ["byte_count", "value"] (spInstr) := ok_instr FIsInstruction T DBt (up Gisintegerbetween_spBetween (by decide)) DIsName CKMostletters CKMostlength
  have Gareinstructions_spAreI : FnOk P w K mg base CX0 4 _ _ ["byte_count", "value"] (spAreI) := ok_areI FAreInstructions T DIsInstruction (up Gisinstruction_spInstr (by decide)) DAs (ok_ascL FAs T)
  have GInstructionSetinit_spInitIC : FnOk P w K mg base CX0 5 _ _ ["self", "byte_count", "instructions"] (spInitI C2) := ok_initI FIi T S DBt (up Gisintegerbetween_spBetween (by decide)) DAreInstructions (up Gareinstructions_spAreI (by decide)) CKLeastbytecount CKMostbytecount
  have Glawtake_spTake : FnOk P w K mg base CX0 1 _ _ ["_law_box_here", "_law_many"] (spTake) := ok_take FTk
  have Glawmachine_spMkC : FnOk P w K mg base CX0 7 _ _ ["_law_box_here"] (spMk C2) := ok_mk59 FLMachine T S ⟨mks2, ma2_0, mi2_0, kc2⟩ bIi (up GInstructionSetinit_spInitIC (by decide)) DTk (up Glawtake_spTake (by decide))
  have Glawbox_spBoxK : FnOk P w K mg base CX0 1 _ _ ["_law_script", "_law_k"] (spBox K) := ok_box FBo T
  have KWOverlayNumber61 : KBinds K (PySem.W.fnOf "overlay_number" "overlay_number" (defArgs s_overlay_number) (defBody s_overlay_number) (defScope s_overlay_number) .none kV1 dc1 pm1 an1 cd1 ct1) ["instruction_set", "programs", "entries", "code"] ["code", "entries", "programs", "instruction_set"] rev4 rev4 := ⟨fun s us ws _ hl => by
      obtain ⟨x, y, z, v, rfl, rfl⟩ := rev4_len hl
      exact .of_eq rfl, rev4_rel⟩
  have KWOverlayAt62 : KBinds K (PySem.W.fnOf "overlay_at" "overlay_at" (defArgs s_overlay_at) (defBody s_overlay_at) (defScope s_overlay_at) .none kV2 dc2 pm2 an2 cd2 ct2) ["instruction_set", "programs", "entries", "length", "number"] ["number", "length", "entries", "programs", "instruction_set"] rev5 rev5 := ⟨fun s us ws _ hl => by
      obtain ⟨x, y, z, v, u, rfl, rfl⟩ := rev5_len hl
      exact .of_eq rfl, rev5_rel⟩
  have KWOverlayCount63 : KBinds K (PySem.W.fnOf "overlay_count" "overlay_count" (defArgs s_overlay_count) (defBody s_overlay_count) (defScope s_overlay_count) .none kV3 dc3 pm3 an3 cd3 ct3) ["instruction_set", "programs", "entries", "length"] ["length", "entries", "programs", "instruction_set"] rev4 rev4 := ⟨fun s us ws _ hl => by
      obtain ⟨x, y, z, v, rfl, rfl⟩ := rev4_len hl
      exact .of_eq rfl, rev4_rel⟩
  have KWNextState64 : KBinds K (PySem.W.fnOf "next_state" "next_state" (defArgs s_next_state) (defBody s_next_state) (defScope s_next_state) .none kV4 dc4 pm4 an4 cd4 ct4) ["instruction_set", "programs", "entries", "state", "byte"] ["byte", "state", "entries", "programs", "instruction_set"] rev5 rev5 := ⟨fun s us ws _ hl => by
      obtain ⟨x, y, z, v, u, rfl, rfl⟩ := rev5_len hl
      exact .of_eq rfl, rev5_rel⟩
  have KWNextState65 : KBinds K (PySem.W.fnOf "next_state" "next_state" (defArgs s_next_state) (defBody s_next_state) (defScope s_next_state) .none kV4 dc4 pm4 an4 cd4 ct4) ["instruction_set", "programs", "entries", "state", "byte"] ["state", "instruction_set", "byte", "programs", "entries"] mix5 mix5 := ⟨fun s us ws _ hl => by
      obtain ⟨x, y, z, v, u, rfl, rfl⟩ := mix5_len hl
      exact .of_eq rfl, mix5_rel⟩
  exact ok_law (k := 11) FLaw T S DOverlayNumber (up Goverlaynumber_spNumberKCCmCg (by decide)) KWOverlayNumber61 DOverlayAt (up Goverlayat_spAtKCCmCg (by decide)) KWOverlayAt62 DOverlayCount (up Goverlaycount_spCountKCCmCg (by decide)) KWOverlayCount63 DNextState (up Gnextstate_spNextKCCm (by decide)) KWNextState64 KWNextState65 DLMachine (up Glawmachine_spMkC (by decide)) DBo (up Glawbox_spBoxK (by decide))
end Ov
open PySem PySem.W PyProof.Rows
set_option maxRecDepth 100000 in
set_option maxHeartbeats 0 in
theorem PySem.Challenge.cw_overlapcode_k59_by_names_holds : PySem.Challenge.rw_overlapcode_k59_by_names.Holds := by
  w_on; o_law; k_head; (case hw => w_witness2)
  k_fill
  refine Ov.walkG (l := PySem.Challenge.rw_overlapcode_k59_by_names) (n := 63) (k := 12) (x := "_law_script") (sp := fun K => Ov.spLaw K) rfl (by decide) rfl ⟨rfl, by decide, by decide⟩ (fun w h Y => PySem.W.kIn_of Y) ?F (fun _ _ a ns hl hS => ⟨a, ns, rfl, hS, hl, fun _ => rfl⟩)
  case F =>
    intro w mg fa h KX G hmg
    refine' Ov.all_mk KX G hmg ?a0 ?l0 ?c0 ?k0 ?a1 ?l1 ?c1 ?k1 ?a2 ?l2 ?c2 ?k2 ?a3 ?l3 ?c3 ?k3 ?a4 ?l4 ?c4 ?k4 ?a5 ?l5 ?c5 ?k5 ?a6 ?l6 ?c6 ?k6 ?a7 ?l7 ?c7 ?k7 ?a8 ?l8 ?c8 ?k8 ?a9 ?l9 ?c9 ?k9 ?a10 ?l10 ?c10 ?k10 ?a11 ?l11 ?c11 ?k11 ?a12 ?l12 ?c12 ?k12 ?a13 ?l13 ?c13 ?k13 ?a14 ?l14 ?c14 ?k14 ?a15 ?l15 ?c15 ?k15 ?a16 ?l16 ?c16 ?k16 ?a17 ?l17 ?c17 ?k17 ?a18 ?l18 ?c18 ?k18 ?a19 ?l19 ?c19 ?k19 ?a20 ?l20 ?c20 ?k20 ?a21 ?l21 ?c21 ?k21 ?ld21 ?a22 ?l22 ?c22 ?k22 ?a23 ?l23 ?c23 ?k23 ?a24 ?l24 ?c24 ?k24 ?a25 ?l25 ?c25 ?k25 ?a26 ?l26 ?c26 ?k26 ?a27 ?l27 ?c27 ?k27 ?a28 ?l28 ?c28 ?k28 ?ld28 ?a29 ?l29 ?c29 ?k29 ?a30 ?l30 ?c30 ?k30 ?a31 ?l31 ?c31 ?k31 ?a32 ?l32 ?c32 ?k32 ?a33 ?l33 ?c33 ?k33 ?a34 ?l34 ?c34 ?k34 ?a35 ?l35 ?c35 ?k35 ?a36 ?l36 ?c36 ?k36 ?a37 ?l37 ?c37 ?k37 ?a38 ?l38 ?c38 ?k38 ?a39 ?l39 ?c39 ?k39 ?a40 ?l40 ?c40 ?k40 ?a41 ?l41 ?c41 ?k41 ?a42 ?l42 ?c42 ?k42 ?a43 ?l43 ?c43 ?k43 ?bzreversed ?clA0 ?ma0_0 ?mi0_0 ?ml0_0 ?mc0_0 ?mk0_0 ?ma0_1 ?mi0_1 ?ml0_1 ?mc0_1 ?mk0_1 ?ma0_2 ?mi0_2 ?ml0_2 ?mc0_2 ?mk0_2 ?ma0_3 ?mi0_3 ?ml0_3 ?mc0_3 ?mk0_3 ?ma0_4 ?mi0_4 ?ml0_4 ?mc0_4 ?mk0_4 ?ma0_5 ?mi0_5 ?ml0_5 ?mc0_5 ?mk0_5 ?pg0 ?hd0 ?po0 ?sa0 ?mks0 ?kc0 ?na0_0 ?na0_1 ?clA1 ?ma1_0 ?mi1_0 ?ml1_0 ?mc1_0 ?mk1_0 ?ma1_1 ?mi1_1 ?ml1_1 ?mc1_1 ?mk1_1 ?ma1_2 ?mi1_2 ?ml1_2 ?mc1_2 ?mk1_2 ?ma1_3 ?mi1_3 ?ml1_3 ?mc1_3 ?mk1_3 ?ma1_4 ?mi1_4 ?ml1_4 ?mc1_4 ?mk1_4 ?ma1_5 ?mi1_5 ?ml1_5 ?mc1_5 ?mk1_5 ?pg1 ?hd1 ?po1 ?sa1 ?mks1 ?kc1 ?na1_0 ?na1_1 ?na1_2 ?na1_3 ?na1_4 ?clA2 ?ma2_0 ?mi2_0 ?ml2_0 ?mc2_0 ?mk2_0 ?ma2_1 ?mi2_1 ?ml2_1 ?mc2_1 ?mk2_1 ?ma2_2 ?mi2_2 ?ml2_2 ?mc2_2 ?mk2_2 ?ma2_3 ?mi2_3 ?ml2_3 ?mc2_3 ?mk2_3 ?pg2 ?hd2 ?po2 ?sa2 ?mks2 ?kc2 ?na2_0 ?na2_1 ?na2_2 ?na2_3 ?cst0 ?cst1 ?cst2 ?cst3 ?cst4 ?cst5 ?cst6 ?cst7 ?bz0 ?bz1 ?bz2 ?bz3 ?bz4 ?bz5 ?bz6 ?bz7 ?bz8 ?bz9 ?bz10 ?bz11 ?bz12 ?bz13 ?bz14 ?bz15 ?bz16 ?bz17 ?bz18 ?bz19 ?bz20
    (case a0 => k_is)
    (case l0 => k_is)
    (case c0 => k_is)
    (case k0 => k_is)
    (case a1 => k_is)
    (case l1 => k_is)
    (case c1 => k_is)
    (case k1 => k_is)
    (case a2 => k_is)
    (case l2 => k_is)
    (case c2 => k_is)
    (case k2 => k_is)
    (case a3 => k_is)
    (case l3 => k_is)
    (case c3 => k_is)
    (case k3 => k_is)
    (case a4 => k_is)
    (case l4 => k_is)
    (case c4 => k_is)
    (case k4 => k_is)
    (case a5 => k_is)
    (case l5 => k_is)
    (case c5 => k_is)
    (case k5 => k_is)
    (case a6 => k_is)
    (case l6 => k_is)
    (case c6 => k_is)
    (case k6 => k_is)
    (case a7 => k_is)
    (case l7 => k_is)
    (case c7 => k_is)
    (case k7 => k_is)
    (case a8 => k_is)
    (case l8 => k_is)
    (case c8 => k_is)
    (case k8 => k_is)
    (case a9 => k_is)
    (case l9 => k_is)
    (case c9 => k_is)
    (case k9 => k_is)
    (case a10 => k_is)
    (case l10 => k_is)
    (case c10 => k_is)
    (case k10 => k_is)
    (case a11 => k_is)
    (case l11 => k_is)
    (case c11 => k_is)
    (case k11 => k_is)
    (case a12 => k_is)
    (case l12 => k_is)
    (case c12 => k_is)
    (case k12 => k_is)
    (case a13 => k_is)
    (case l13 => k_is)
    (case c13 => k_is)
    (case k13 => k_is)
    (case a14 => k_is)
    (case l14 => k_is)
    (case c14 => k_is)
    (case k14 => k_is)
    (case a15 => k_is)
    (case l15 => k_is)
    (case c15 => k_is)
    (case k15 => k_is)
    (case a16 => k_is)
    (case l16 => k_is)
    (case c16 => k_is)
    (case k16 => k_is)
    (case a17 => k_is)
    (case l17 => k_is)
    (case c17 => k_is)
    (case k17 => k_is)
    (case a18 => k_is)
    (case l18 => k_is)
    (case c18 => k_is)
    (case k18 => k_is)
    (case a19 => k_is)
    (case l19 => k_is)
    (case c19 => k_is)
    (case k19 => k_is)
    (case a20 => k_is)
    (case l20 => k_is)
    (case c20 => k_is)
    (case k20 => k_is)
    (case a21 => k_is)
    (case l21 => k_is)
    (case c21 => k_is)
    (case k21 => k_is)
    (case ld21 => k_is)
    (case a22 => k_is)
    (case l22 => k_is)
    (case c22 => k_is)
    (case k22 => k_is)
    (case a23 => k_is)
    (case l23 => k_is)
    (case c23 => k_is)
    (case k23 => k_is)
    (case a24 => k_is)
    (case l24 => k_is)
    (case c24 => k_is)
    (case k24 => k_is)
    (case a25 => k_is)
    (case l25 => k_is)
    (case c25 => k_is)
    (case k25 => k_is)
    (case a26 => k_is)
    (case l26 => k_is)
    (case c26 => k_is)
    (case k26 => k_is)
    (case a27 => k_is)
    (case l27 => k_is)
    (case c27 => k_is)
    (case k27 => k_is)
    (case a28 => k_is)
    (case l28 => k_is)
    (case c28 => k_is)
    (case k28 => k_is)
    (case ld28 => k_is)
    (case a29 => k_is)
    (case l29 => k_is)
    (case c29 => k_is)
    (case k29 => k_is)
    (case a30 => k_is)
    (case l30 => k_is)
    (case c30 => k_is)
    (case k30 => k_is)
    (case a31 => k_is)
    (case l31 => k_is)
    (case c31 => k_is)
    (case k31 => k_is)
    (case a32 => k_is)
    (case l32 => k_is)
    (case c32 => k_is)
    (case k32 => k_is)
    (case a33 => k_is)
    (case l33 => k_is)
    (case c33 => k_is)
    (case k33 => k_is)
    (case a34 => k_is)
    (case l34 => k_is)
    (case c34 => k_is)
    (case k34 => k_is)
    (case a35 => k_is)
    (case l35 => k_is)
    (case c35 => k_is)
    (case k35 => k_is)
    (case a36 => k_is)
    (case l36 => k_is)
    (case c36 => k_is)
    (case k36 => k_is)
    (case a37 => k_is)
    (case l37 => k_is)
    (case c37 => k_is)
    (case k37 => k_is)
    (case a38 => k_is)
    (case l38 => k_is)
    (case c38 => k_is)
    (case k38 => k_is)
    (case a39 => k_is)
    (case l39 => k_is)
    (case c39 => k_is)
    (case k39 => k_is)
    (case a40 => k_is)
    (case l40 => k_is)
    (case c40 => k_is)
    (case k40 => k_is)
    (case a41 => k_is)
    (case l41 => k_is)
    (case c41 => k_is)
    (case k41 => k_is)
    (case a42 => k_is)
    (case l42 => k_is)
    (case c42 => k_is)
    (case k42 => k_is)
    (case a43 => k_is)
    (case l43 => k_is)
    (case c43 => k_is)
    (case k43 => k_is)
    (case bzreversed => k_is)
    (case clA0 => k_is)
    (case ma0_0 => k_is)
    (case mi0_0 => k_is)
    (case ml0_0 => k_is)
    (case mc0_0 => k_is)
    (case mk0_0 => k_is)
    (case ma0_1 => k_is)
    (case mi0_1 => k_is)
    (case ml0_1 => k_is)
    (case mc0_1 => k_is)
    (case mk0_1 => k_is)
    (case ma0_2 => k_is)
    (case mi0_2 => k_is)
    (case ml0_2 => k_is)
    (case mc0_2 => k_is)
    (case mk0_2 => k_is)
    (case ma0_3 => k_is)
    (case mi0_3 => k_is)
    (case ml0_3 => k_is)
    (case mc0_3 => k_is)
    (case mk0_3 => k_is)
    (case ma0_4 => k_is)
    (case mi0_4 => k_is)
    (case ml0_4 => k_is)
    (case mc0_4 => k_is)
    (case mk0_4 => k_is)
    (case ma0_5 => k_is)
    (case mi0_5 => k_is)
    (case ml0_5 => k_is)
    (case mc0_5 => k_is)
    (case mk0_5 => k_is)
    (case pg0 => k_is)
    (case hd0 => k_is)
    (case po0 => k_is)
    (case sa0 => k_is)
    (case mks0 => k_is)
    (case kc0 => k_is)
    (case na0_0 => k_is)
    (case na0_1 => k_is)
    (case clA1 => k_is)
    (case ma1_0 => k_is)
    (case mi1_0 => k_is)
    (case ml1_0 => k_is)
    (case mc1_0 => k_is)
    (case mk1_0 => k_is)
    (case ma1_1 => k_is)
    (case mi1_1 => k_is)
    (case ml1_1 => k_is)
    (case mc1_1 => k_is)
    (case mk1_1 => k_is)
    (case ma1_2 => k_is)
    (case mi1_2 => k_is)
    (case ml1_2 => k_is)
    (case mc1_2 => k_is)
    (case mk1_2 => k_is)
    (case ma1_3 => k_is)
    (case mi1_3 => k_is)
    (case ml1_3 => k_is)
    (case mc1_3 => k_is)
    (case mk1_3 => k_is)
    (case ma1_4 => k_is)
    (case mi1_4 => k_is)
    (case ml1_4 => k_is)
    (case mc1_4 => k_is)
    (case mk1_4 => k_is)
    (case ma1_5 => k_is)
    (case mi1_5 => k_is)
    (case ml1_5 => k_is)
    (case mc1_5 => k_is)
    (case mk1_5 => k_is)
    (case pg1 => k_is)
    (case hd1 => k_is)
    (case po1 => k_is)
    (case sa1 => k_is)
    (case mks1 => k_is)
    (case kc1 => k_is)
    (case na1_0 => k_is)
    (case na1_1 => k_is)
    (case na1_2 => k_is)
    (case na1_3 => k_is)
    (case na1_4 => k_is)
    (case clA2 => k_is)
    (case ma2_0 => k_is)
    (case mi2_0 => k_is)
    (case ml2_0 => k_is)
    (case mc2_0 => k_is)
    (case mk2_0 => k_is)
    (case ma2_1 => k_is)
    (case mi2_1 => k_is)
    (case ml2_1 => k_is)
    (case mc2_1 => k_is)
    (case mk2_1 => k_is)
    (case ma2_2 => k_is)
    (case mi2_2 => k_is)
    (case ml2_2 => k_is)
    (case mc2_2 => k_is)
    (case mk2_2 => k_is)
    (case ma2_3 => k_is)
    (case mi2_3 => k_is)
    (case ml2_3 => k_is)
    (case mc2_3 => k_is)
    (case mk2_3 => k_is)
    (case pg2 => k_is)
    (case hd2 => k_is)
    (case po2 => k_is)
    (case sa2 => k_is)
    (case mks2 => k_is)
    (case kc2 => k_is)
    (case na2_0 => k_is)
    (case na2_1 => k_is)
    (case na2_2 => k_is)
    (case na2_3 => k_is)
    (case cst0 => k_is)
    (case cst1 => k_is)
    (case cst2 => k_is)
    (case cst3 => k_is)
    (case cst4 => k_is)
    (case cst5 => k_is)
    (case cst6 => k_is)
    (case cst7 => k_is)
    (case bz0 => k_is)
    (case bz1 => k_is)
    (case bz2 => k_is)
    (case bz3 => k_is)
    (case bz4 => k_is)
    (case bz5 => k_is)
    (case bz6 => k_is)
    (case bz7 => k_is)
    (case bz8 => k_is)
    (case bz9 => k_is)
    (case bz10 => k_is)
    (case bz11 => k_is)
    (case bz12 => k_is)
    (case bz13 => k_is)
    (case bz14 => k_is)
    (case bz15 => k_is)
    (case bz16 => k_is)
    (case bz17 => k_is)
    (case bz18 => k_is)
    (case bz19 => k_is)
    (case bz20 => k_is)
