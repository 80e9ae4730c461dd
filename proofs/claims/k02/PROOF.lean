import PyProof.Rows.All
import Wide.All
import OpenK.AllK
import Wide.FinOn
import HandS.Base
import HandS.Call
import HandS.List
import HandS.Ends
import HandS.EndBits
import HandS.Words
import HandS.WordsList
import HandS.More
import KE.KExcSuper
import HandS.Exc
import HandS.ExcInit
import HandS.ExcField
import HandS.ExcIs
import KE.KExcIs
import HandS.ExcOwn
import HandS.TryMany
import HandS.WordsExc
import HandS.OwnEq
import HandS.IsInst
import HandS.NamedTupSort
import HandS.ForMost
import HandS.Walk
import HandS.ListItems
import HandS.Property
import HandS.Style
import PyProof.ReprLen
import HandS.TupAny
import HandS.TupMul
import KE.KRevSl
import PyProof.ListStr
import HandS.Codes
import HandS.Text
import PySem.Challenge.RW_shutbyrings_k02_what_is_a_term
set_option Elab.async false
set_option linter.all false
set_option maxRecDepth 100000
set_option maxHeartbeats 2000000
/-! A promise of a def that is called where no guard stands (so that repr may be asked in it). -/
namespace Gd
open PySem L2 PySem.Spec PyProof.Rows
structure FnG (P : Program) (w : World) (K : PySem.W.Frag) (mg : Str → Option Value) (base : Heap) (CX : CXT) (k : Nat) (f : Addr) (fd : FuncData) (ps : List Str) (sp : Sp) : Prop where
  len : ∀ vs H Q E, sp vs H Q E → vs.length = ps.length
  go : ∀ (A : Around) (outer : List Env) (s : Shared) (H : Hp) (args : Args) (us : List Value) (vs : List V) (Q : VK) (E : XK),
    A.guards = some [] → Room k A → Env0 P w K mg base A outer s H → BindsTo s fd args (ps.zip us) → Vals vs us →
    sp vs H Q E → codeAny (model P w) A (.call (.ref f) args) (CR CX outer P w H s Q E) s
section
variable {P : Program} {w : World} {K : PySem.W.Frag} {mg : Str → Option Value} {base : Heap} {CX : CXT} {k : Nat} {f : Addr} {fd : FuncData} {ps : List Str} {sp : Sp}
theorem FnG.of (F : FnOk P w K mg base CX k f fd ps sp) : FnG P w K mg base CX k f fd ps sp := ⟨F.len, fun A o s H a us vs Q E _ => F.run A o s H a us vs Q E⟩
theorem FnG.weaker {sp' : Sp} (F : FnG P w K mg base CX k f fd ps sp) (h : ∀ vs H Q E, sp' vs H Q E → sp vs H Q E) : FnG P w K mg base CX k f fd ps sp' :=
  ⟨fun vs H Q E q => F.len vs H Q E (h _ _ _ _ q), fun A o s H a us vs Q E g r e b v q => F.go A o s H a us vs Q E g r e b v (h _ _ _ _ q)⟩
theorem okG {x qual : Str} {st : Stmt} {N : List Str} (F : Fun K x qual st f fd) (S : FnScope N ps (defScope st)) (len : ∀ vs H Q E, sp vs H Q E → vs.length = ps.length)
    (body : ∀ (cdv : Value) (A : Around) (outer : List Env) (s : Shared) (H : Hp) (vs : List V) (Q : VK) (E : XK), A.guards = some [] →
      Room k (A.deeper (envOfC qual (defScope st) s.heap.objs.size f cdv)) → sp vs H Q E →
      ∃ t, PSs (cxOf CX P w K mg base N qual (defScope st) f cdv A outer s H E).nox (defBody st) t ∧ t { nx := fun _ H' => Q .non H', rt := Q } (start N vs) H) :
    FnG P w K mg base CX (k + 1) f fd ps sp := by
  obtain ⟨oc, od, kV, doc, pm, an, cdv, ct, osl, rfl, lk, hcd⟩ := F.ex
  constructor
  · exact len
  · intro A outer s H args us vs Q E hg hr e0 hb r hsp
    have nl := len _ _ _ _ hsp
    have kb : ∀ b o, base.get? b = some o → s.heap.get? b = some o := fun b o z => (e0.bs b o z).1
    have KX : K.In s.heap := e0.mod.kin.keeps kb
    have kinds : ∀ y ∈ ps.zip us, (defScope st).names.lookup y.1 = some .local ∨ ((defScope st).names.lookup y.1 = some .cell ∧ ((cellsFrom (s.heap.objs.size + 1) (defScope st).names []).lookup y.1).isSome = true) := by
      rintro ⟨n, v⟩ hy
      cases S.par n (List.of_mem_zip hy).1 with
      | inl q => exact Or.inl q
      | inr q => exact Or.inr ⟨q, PySem.W.cellsFrom_some _ _ _ (Or.inl q)⟩
    refine codeAny_call_function hr.depth (KX _ _ lk) rfl S.co S.gen rfl (PySem.W.codeRec_of KX hcd) (hb _ _ _ _ (wpAny_newFunctionEnv_cells S.kind kinds fun env he s1 x => ?_))
    subst he
    obtain ⟨t, ht, hq⟩ := body cdv A outer s H vs Q E hg (hr.deeper _) hsp
    refine ⟨(e0.mod.nolimit.keeps kb).keeps x.toInCall.keep, codeAny_func ?_⟩
    refine wpAny_mono (ht.nox.run [] s1 (start N vs) H _ (inv_start S hr.hd e0 nl r x) hq) (fun fl s' hs => ?_) fun e s' hs => hs
    cases fl with
    | ret u =>
      obtain ⟨v, σ', H', J, rv, q⟩ := hs
      exact ⟨v, H', J.os, J.bare, J.base, J.hok, rv, q⟩
    | next =>
      obtain ⟨σ', H', J, q⟩ := hs
      exact ⟨V.non, H', J.os, J.bare, J.base, J.hok, rfl, q⟩
    | brk => exact hs.choose_spec.choose_spec.2.elim
    | cont => exact hs.choose_spec.choose_spec.2.elim
end
section
variable {X : Cx} {CX : CXT} {k : Nat} {f : Addr} {fd : FuncData} {ps : List Str} {sp : Sp} {dvs : List V} {ds : List Value} {E : XK} {x : Str} {p pos : Pos} {e : Expr} {es : List Expr} {t : TA}
theorem runG {pins : List (Addr × Obj)} {σ : L2.St} {H : Hp} {s : Shared} {Q : VK} {us : List Value} {vs : List V} (F : FnG X.prog X.w X.K X.mg X.base CX k f fd ps sp) (hg : X.A.guards = some []) (hr : Room k X.A)
    (hb : L2.Binds X.K fd ps ds) (hd : Vals dvs ds) (hx : Passes CX X E) (I : Inv X pins σ H s) (r : Vals vs us) (h : sp (vs ++ dvs) H Q E) :
    wpAny (model X.prog X.w) X.A (call (.ref f) us) (EP X pins σ Q) X.xe s := by
  have r2 := r.append hd
  have nl : (us ++ ds).length = ps.length := r2.length.symm.trans (F.len _ _ _ _ h)
  refine wpAny_call (codeAny_mono (F.go X.A X.stack s H ⟨us, []⟩ _ _ Q E hg hr I.env0 (hb s us I.kIn nl) r2 h) ?_)
  intro r s' hq
  cases r with
  | error er => exact hx pins σ H s er s' I hq
  | ok fl => cases fl <;> first | exact I.after hq | exact False.elim hq
/-- f(e, ..) where f's promise asks that no guard stands -/
theorem pe_callG (F : FnG X.prog X.w X.K X.mg X.base CX k f fd ps sp) (hgd : X.A.guards = some []) (hr : Room k X.A) (hg : Gl X x) (hm : X.mg x = some (.ref f)) (hk : PySem.W.keepIn X.K (.ref f) = true)
    (hb : L2.Binds X.K fd ps ds) (hd : Vals dvs ds) (hx : Passes CX X E) (ha : PA X (e :: es) t)
    (hdb : (x == ("__debug__" : Str)) = false := by decide) (he : starEach (e :: es) X.env = (false, eval e X.env) :: starEach es X.env := by rfl) (hpl : (backTo pos (starEach es X.env)).any (·.1) = false := by rfl) :
    PE X (.Call (.Name x p) (e :: es) [] pos) (tCall sp dvs E t) := by
  constructor
  intro pins s σ H Q I h
  refine wpAny_Call_Name_kw (ld_glob I hg hm ?_ hdb)
  refine PySem.W.callWith_K (h₀ := X.base) I.ok.mod.kin hk (thn (ha.run pos pins s σ H _ I h) ?_) he hpl
  rintro us s1 ⟨vs, H1, I1, r, q⟩
  exact ⟨I1.kIn, runG F hgd hr hb hd hx I1 r q⟩
end
/-! ### repr of data -/
section
variable {X : Cx}
/-- repr(v): v is data d -/
def rRepr (K : PySem.W.Frag) : List V → Hp → VK → Prop := fun xs H Q => ∃ (v : V) (d : PyData), xs = [v] ∧ Dp K H v d ∧ d.showable = true ∧ d.hasDict = false ∧ d.shown.length ≤ sizeLine ∧ d.depth ≤ 60 ∧ Q (.str d.shown) H
theorem call_reprD (hg : X.A.guards = some []) (hu : X.A.units + 70 < cLine) : CallR X (.builtin "repr") (rRepr X.K) := by
  intro pins s σ H xs us Q I r h
  obtain ⟨v, d, rfl, hd, hs, hn, hz, hdp, q⟩ := h
  obtain ⟨u, rfl, ru⟩ := vals1 r
  cases hd with
  | non =>
    cases ru
    rw [PyData.shown_none] at q
    exact PySem.P.repr_of_none ⟨.str _, H, I.tok _, ⟨_, rfl⟩, q⟩
  | bl b =>
    cases ru
    rw [PyData.shown_bool] at q
    exact PySem.P.repr_of_bool ⟨.str _, H, I.tok _, ⟨_, rfl⟩, q⟩
  | int i =>
    obtain ⟨t, rfl⟩ := ru
    rw [PyData.shown_int] at q
    exact PySem.P.repr_of_int (by simpa [PyData.showable] using hs) ⟨.str _, H, I.tok _, ⟨_, rfl⟩, q⟩
  | str z =>
    obtain ⟨t, rfl⟩ := ru
    rw [PyData.shown_str] at q hz
    exact PySem.P.repr_of_str ⟨.str _, H, I.tok _, ⟨_, rfl⟩, q⟩
  | @lst a xs ds h1 h2 =>
    obtain rfl : u = Value.ref a := ru
    obtain ⟨as, rd⟩ := Dp.reads I _ _ _ (Dp.lst h1 h2) (rfl : RelV (.ref a) (.ref a))
    exact PySem.repr_of_reads' rd hs (fun z => by rw [hn] at z; cases z) hg (by omega) (fun _ _ e => e) (fun h' u tk k => ⟨.str _, H, I.kept (t' := tk) k, ⟨_, rfl⟩, q⟩) hz
  | @tup a xs ds h1 h2 =>
    obtain rfl : u = Value.ref a := ru
    obtain ⟨as, rd⟩ := Dp.reads I _ _ _ (Dp.tup h1 h2) (rfl : RelV (.ref a) (.ref a))
    exact PySem.repr_of_reads' rd hs (fun z => by rw [hn] at z; cases z) hg (by omega) (fun _ _ e => e) (fun h' u tk k => ⟨.str _, H, I.kept (t' := tk) k, ⟨_, rfl⟩, q⟩) hz
end
end Gd

set_option maxRecDepth 100000
set_option maxHeartbeats 2000000
/-! Own errors over an own error over ValueError, each with an __init__ that says super().__init__('..') and keeps its argument, made as values. -/
namespace Er
open PySem PySem.W PySem.Calls PyProof.Rows PySem.HandSPX
/-- the text of such an __init__ -/
def sup (z : Str) (k : Nat) (p0 p1 p2 p3 p4 p5 : Pos) : Stmt :=
  .Expr (.Call (.Attribute (.Call (.Name "super" p0) [] [] p1) "__init__" p2) [.Constant (.str z) k p3] [] p4) p5
def keepS (fl : Str) (q1 q2 q3 q4 : Pos) : Stmt := .Assign [.Attribute (.Name "self" q1) fl q2] (.Name fl q3) q4
def body : Option Str → Str → Nat → Pos → Pos → Pos → Pos → Pos → Pos → Pos → Pos → Pos → Pos → List Stmt
  | none, z, k, p0, p1, p2, p3, p4, p5, _, _, _, _ => [sup z k p0 p1 p2 p3 p4 p5]
  | some fl, z, k, p0, p1, p2, p3, p4, p5, q1, q2, q3, q4 => [sup z k p0 p1 p2 p3 p4 p5, keepS fl q1 q2 q3 q4]
def pars : Option Str → Pos → Pos → Arguments
  | none, p, _ => { posonlyargs := [], args := [{ arg := "self", annotation := none, pos := p }], vararg := none, kwonlyargs := [], kw_defaults := [], kwarg := none, defaults := [] }
  | some fl, p, q => { posonlyargs := [], args := [{ arg := "self", annotation := none, pos := p }, { arg := fl, annotation := none, pos := q }], vararg := none, kwonlyargs := [], kw_defaults := [], kwarg := none, defaults := [] }
def names : Option Str → List (Str × NameKind)
  | none => [("self", .local), ("__class__", .free), ("super", .globalImplicit)]
  | some fl => [("self", .local), (fl, .local), ("__class__", .free), ("super", .globalImplicit)]
def scp (o : Option Str) : Scope := { kind := .function, names := names o, isGenerator := false, isCoroutine := false, more := [] }
/-- how the call super().__init__('..') is read (by its places) -/
def EvP (z : Str) (kz : Nat) (p0 p1 p2 p3 p4 p5 : Pos) : Prop := ∀ env : Env, (∃ pl, eval (.Call (.Attribute (.Call (.Name "super" p0) [] [] p1) "__init__" p2) [.Constant (.str z) kz p3] [] p4) env = (do
      let ov ← attributeBase (.Call (.Name "super" p0) [] [] p1) "__init__" env (eval (.Call (.Name "super" p0) [] [] p1) env)
      standAt p2.atName
      let (f, first) ← holding [ov] (getMethod ov "__init__" pl)
      callWith p4 f first (backTo p4 (starEach [.Constant (.str z) kz p3] env)) [])) ∧
    swapsWith (.Call (.Attribute (.Call (.Name "super" p0) [] [] p1) "__init__" p2) [.Constant (.str z) kz p3] [] p4) none p5.line env = pure false
/-- how its arguments bind -/
def BdP : Option Str → FuncData → Prop
  | none, fd => ∀ e, bindArgs fd ⟨[e], []⟩ = pure [(("self" : Str), e)]
  | some f, fd => ∀ e v, bindArgs fd ⟨[e, v], []⟩ = pure [(("self" : Str), e), (f, v)] ∧ bindArgs fd ⟨[e], [(f, v)]⟩ = pure [(("self" : Str), e), (f, v)]
/-- what the written part says of the class at C, of its __init__ at fI -/
structure ErrC (P : Program) (K : Frag) (x : Str) (fl : Option Str) (C fI : Addr) : Prop where
  kC : keepIn K (.ref C) = true
  cls : ∃ nm q N bs bm sn sub ab col dd k0 k1 k2 k3 k5, K.lookup C = some (excClassObj nm q C N bs bm true sn sub ab col dd k0 k1 k2 k3 k5 "ValueError.__new__") ∧ refsVE bm = true
  sa : findIn K (.ref C) "__setattr__" = some (some (.builtin "object.__setattr__"))
  iC : findIn K (.ref C) "__init__" = some (some (.ref fI))
  tI : typeIn K (.ref fI) = some (.type "function")
  fn : ∃ (oc : Value) (od : Option Addr) (doc pm : Value) (an : Option Addr) (ct : Value) (osl : Array (Option Value)) (cc cda : Addr) (qual z : Str) (kz : Nat) (p p' p0 p1 p2 p3 p4 p5 q1 q2 q3 q4 : Pos),
    K.lookup fI = some ⟨oc, od, .func (ksFn "__init__" qual (pars fl p p') (body fl z kz p0 p1 p2 p3 p4 p5 q1 q2 q3 q4) (scp fl) .none .none doc pm an (.ref cda) ct cc), osl⟩ ∧ codeIn K (.ref cda) qual = true ∧
    EvP z kz p0 p1 p2 p3 p4 p5 ∧ BdP fl (ksFn "__init__" qual (pars fl p p') (body fl z kz p0 p1 p2 p3 p4 p5 q1 q2 q3 q4) (scp fl) .none .none doc pm an (.ref cda) ct cc) ∧ (∃ (ccl : Value) (cdd : Option Addr) (vs : Array Value) (ccs : Array (Option Value)) (file : Str) (tf : Tok), K.lookup cda = some ⟨ccl, cdd, .fields vs, ccs⟩ ∧ vs[2]? = some (.str file tf) ∧ ((P.main.file : Str) == file) = true) ∧
    ∃ (cl : Value) (cld : Option Addr) (csl : Array (Option Value)), K.lookup cc = some ⟨cl, cld, .cell (some (.ref C)), csl⟩
  any : nsIn K cStatics "thirdparty.any" = some none
  along : ks_superIn K C C "__init__" = some (some (.builtin "ValueError.__init__"))
  subVE : subIn K (.ref C) (.type "ValueError") = some true
  mro : mroIn K C (.ref C) = some true
  top : (P.main.scope.names.lookup ("super" : Str)).isSome = false
  noF : ∀ f, fl = some f → findIn K (.ref C) f = some none
  kS : (names fl).lookup ("super" : Str) = some .globalImplicit
  kF : (names fl).lookup ("__class__" : Str) = some .free
  kL : (names fl).lookup ("self" : Str) = some .local
  kP : ∀ f, fl = some f → (names fl).lookup f = some .local ∧ (f == ("self" : Str)) = false ∧ (f == ("__debug__" : Str)) = false
theorem one_size (v : Value) : [v].length ≤ sizeLine := by
  rw [sizeLine_eq]
  exact (by decide : 1 ≤ 16777216)
section
variable {P : Program} {w : World} {A : Around} {E : Value → Shared → Prop} {R : Result → Shared → Prop} {K : Frag} {mg mb : Str → Option Value} {x : Str} {fl : Option Str} {C fI : Addr}
/-- the first row of __init__ -/
theorem sup_run (T : ErrC P K x fl C fI) {hh : Heap} {g : Array GenState} {d : Drawn} {t : Nat} {os : OsState} {e t0 cc cda L : Addr} {m : Str → Option Value} {q z : Str} {kz : Nat} {bd : List Stmt} {p0 p1 p2 p3 p4 p5 : Pos} {fd : FuncData} {Q : Flow → Shared → Prop}
    (ev : EvP z kz p0 p1 p2 p3 p4 p5) (X : K.In hh) (G : hh.Ns mainGlobals mg) (hmg : mg "super" = none) (B : hh.Ns builtinsNs mb) (hmb : mb "super" = some (.type "super")) (he : hh.get? e = some (excO C t0))
    (hns : hh.Ns L m) (hv : m "self" = some (.ref e)) (hf : ∃ of, hh.get? fI = some of ∧ of.data = .func fd) (hp : ∃ ar, (fd.params.posonlyargs ++ fd.params.args).head? = some ar ∧ ar.arg = ("self" : Str))
    (hcode : ∃ oc vs file tf, hh.get? cda = some oc ∧ oc.data = .fields vs ∧ vs[2]? = some (.str file tf) ∧ ((P.main.file : Str) == file) = true) (hcell : hh.IsCell cc (some (.ref C)))
    (hq : ∀ h' t1 tk, (∀ b o, b ≠ e → hh.get? b = some o → h'.get? b = some o) → h'.get? e = some (excO C t1) → Q .next ⟨h', g, d, tk, os⟩) :
    _root_.PySem.wpAt (model P w) A (.func bd (ksEnv q (scp fl) L fI (.ref cda) cc)) (exec (sup z kz p0 p1 p2 p3 p4 p5) (ksEnv q (scp fl) L fI (.ref cda) cc)) Q E ⟨hh, g, d, t, os⟩ := by
  obtain ⟨nm, q', N, bs, bm, sn, sub, ab, col, dd, k0, k1, k2, k3, k5, hC, hbm⟩ := T.cls
  have hcl : clsIn K C = some { name := nm, bases := bs, mro := .ref C :: bm, ns := N, qualname := q', hasDict := true, slotNames := sn, subclasses := sub, abstract := ab, collection := col, hasDel := false } := by
    unfold clsIn
    rw [hC] <;> rfl
  have I : InstAt hh e (excO C t0) C none := ⟨he, rfl, rfl, trivial⟩
  have neC : e ≠ C := ks_ne X I hcl
  obtain ⟨of, hf1, hf2⟩ := hf
  obtain ⟨ar, har, har2⟩ := hp
  obtain ⟨oc, vs, file, tf, hc1, hc2, hc3, hc4⟩ := hcode
  unfold sup
  obtain ⟨⟨pl, ev1⟩, ev2⟩ := ev (ksEnv q (scp fl) L fI (.ref cda) cc)
  refine ks_wpAt_Expr_any (ks_wpAt_MethodCall ?_ ev1) rfl ev2
  refine ks_wpAt_super_base (env := ksEnv q (scp fl) L fI (.ref cda) cc) T.kS T.kF rfl rfl hf1 hf2 har rfl hc1 hc2 hc3 hc4 T.top ?_
  refine ks_loadName_global rfl T.kS (loadGlobal_builtin (env := ksEnv q (scp fl) L fI (.ref cda) cc) G hmg B hmb ⟨rfl, ?_⟩)
  refine wpAny_loadName_free rfl T.kF rfl hcell ?_
  rw [har2]
  refine wpAny_loadName_local rfl T.kL hns hv ?_
  refine ks_wpAny_isType_cls (X _ _ hC) rfl ⟨rfl, ?_⟩
  refine ks_wpAny_call_super (X _ _ hC) rfl he rfl (fun c z => by cases z) (looks_mroIn X T.mro) (fun h1 hso k1 => ?_)
  have X1 : K.In h1 := X.keeps k1
  have I1 : InstAt h1 e (excO C t0) C none := ⟨k1 _ _ he, rfl, rfl, trivial⟩
  have hal : alongIn K "__init__" (((Value.ref C :: bm).dropWhile (· != .ref C)).drop 1) = some (some (.builtin "ValueError.__init__")) := by
    have z := T.along
    unfold ks_superIn at z
    rw [hcl] at z
    exact z
  refine kxs_getMethod kxs_ValueError hso (looks_opaque X1 T.any) (l₀ := .ref C :: bm) (fun A Q E s k q => wpAny_bind ((looks_clsIn X1 hcl) A _ E s k (wpAny_pure q))) rfl X1 hal (I1.type.andThen (looks_subIn X1 T.subVE)) neC rfl ?_
  have hu : (h1.push (kxs_mw "ValueError.__init__" e)).get? h1.objs.size = some (kxs_mw "ValueError.__init__" e) := Heap.get?_push_at rfl rfl
  have k2 : ∀ b o, hh.get? b = some o → (h1.push (kxs_mw "ValueError.__init__" e)).get? b = some o := fun b o q => Heap.get?_push_of_some _ (k1 b o q)
  refine kxs_callWith (i := "ValueError.__init__") (x := e) rfl ?_
  refine evalArgs_plain (Calls.spliced_cons (Calls.Constant_str (k := kz) (pos := p3) (Calls.spliced_nil ⟨hu, ?_⟩)))
  refine wpAny_call (codeAny_of_tree ?_)
  show wpAny _ A.in1 (callAny (.ref h1.objs.size) ⟨_, []⟩) _ _ _
  simp only [callAny]
  refine wpAny_bind (wpAny_load hu ?_)
  have c1 : (Value.type "method-wrapper" == Value.type "method" || Value.type "method-wrapper" == Value.type "builtin_function_or_method" || Value.type "method-wrapper" == Value.type "method-wrapper") = true := by decide
  simp only [kxs_mw, c1, if_true]
  refine KFB.if_so (by decide) ?_
  have FB := PySem.F.excBase_ValueError
  refine wpAny_bind (check_bound_init FB.toExcCallFacts (k2 _ _ (X _ _ hC)) (k2 _ _ he) rfl ?_)
  refine wpAny_bind (wpAny_pure (wpAny_pure ⟨plainId_quiet FB.init.plain _, codeAny_builtin FB.initEntry ?_⟩))
  refine exc_init_tree (cls := .ref C) (t0 := t0) (dv := none) (c2 := .none) (c3 := .none) (b4 := .bool false) (k2 _ _ he) (one_size _) fun h2 k3 e2 _ => ?_
  exact hq h2 _ _ (fun b o hb z => k3 b o hb (k2 b o z)) e2
theorem noCell (o : Option Str) : ∀ y ∈ names o, y.2 ≠ .cell := by
  intro y hy
  cases o <;> simp only [names, List.mem_cons, List.not_mem_nil, or_false] at hy
  · rcases hy with rfl | rfl | rfl <;> exact fun z => by cases z
  · rcases hy with rfl | rfl | rfl | rfl <;> exact fun z => by cases z
/-- what an exception is behind its making: its dict (none where it keeps nothing) -/
def fsOf : Option Str → List Value → List (Str × Value)
  | some f, [_, v] => [(f, v)]
  | _, _ => []
theorem err_init0 (T : ErrC P K x none C fI) {s : Shared} {e t0 : Addr} (X : K.In s.heap) (lim : s.heap.NoLimit) (G : s.heap.Ns mainGlobals mg) (hmg : mg "super" = none) (B : s.heap.Ns builtinsNs mb) (hmb : mb "super" = some (.type "super"))
    (he : s.heap.get? e = some (excO C t0)) (hroom : A.depth < recursionLimit)
    (hq : ∀ h' t1 tk, (∀ b o, b ≠ e → s.heap.get? b = some o → h'.get? b = some o) → h'.get? e = some (excO C t1) → R (.ok (.ret .none)) { s with heap := h', toks := tk }) :
    codeAny (model P w) A (.call (.ref fI) ⟨[.ref e], []⟩) R s := by
  obtain ⟨oc, od, doc, pm, an, ct, osl, cc, cda, qual, z, kz, p, p', p0, p1, p2, p3, p4, p5, q1, q2, q3, q4, hf, hcd, ev, bd, ⟨ccl, cdd, vs, ccs, file, tf, hc1, hc2, hc3⟩, cl, cld, csl, hcell⟩ := T.fn
  refine ks_codeAny_call_defAt (binds := [("self", .ref e)]) hroom (X _ _ hf) rfl lim (codeRec_of X hcd) rfl (BindsTo.of_eq (by first | rfl | with_unfolding_all rfl)) (noCell none) (by
    intro y hy
    obtain rfl : y = (("self" : Str), Value.ref e) := by simpa using hy
    exact T.kL) (fun h1 hns k1 => ?_) rfl rfl rfl
  obtain ⟨hh, g, d, t, os⟩ := s
  have X1 : K.In h1 := X.keeps k1
  show _root_.PySem.wpAt _ _ _ (execs (sup z kz p0 p1 p2 p3 p4 p5 :: []) _) _ _ _
  refine ks_wpAt_execs_cons (sup_run (m := fun y => [(("self" : Str), Value.ref e)].reverse.lookup y) T ev X1 (G.keeps k1) hmg (B.keeps k1) hmb (k1 _ _ he) hns (by with_unfolding_all rfl) ⟨_, X1 _ _ hf, rfl⟩ ⟨_, rfl, rfl⟩ ⟨_, vs, file, tf, X1 _ _ hc1, rfl, hc2, hc3⟩ ⟨_, X1 _ _ hcell, rfl⟩ fun h2 t1 tk k2 e2 => ?_)
  exact wpAt_of_wpAny (wpAny_execs_nil (hq h2 t1 tk (fun b o hb z => k2 b o hb (k1 b o z)) e2))
def args1 (f : Str) (v : Value) (e : Value) (byName : Bool) : Args := if byName = true then ⟨[e], [(f, v)]⟩ else ⟨[e, v], []⟩
theorem err_init1 {f : Str} (T : ErrC P K x (some f) C fI) {s : Shared} {e t0 : Addr} {v : Value} {bn : Bool} (X : K.In s.heap) (lim : s.heap.NoLimit) (G : s.heap.Ns mainGlobals mg) (hmg : mg "super" = none) (B : s.heap.Ns builtinsNs mb) (hmb : mb "super" = some (.type "super"))
    (he : s.heap.get? e = some (excO C t0)) (hne : K.lookup e = none) (hroom : A.depth < recursionLimit)
    (hq : ∀ h' t1 tk dx, (∀ b o, b ≠ e → s.heap.get? b = some o → h'.get? b = some o) → h'.get? e = some { cls := .ref C, dict := some dx, data := .fields #[.ref t1, .none, .none, .none, .bool false, .none] } →
      s.heap.objs.size ≤ dx → dx ≠ e → h'.Ns1 dx (fun y => if y = f then some v else none) → R (.ok (.ret .none)) { s with heap := h', toks := tk }) :
    codeAny (model P w) A (.call (.ref fI) (args1 f v (.ref e) bn)) R s := by
  obtain ⟨oc, od, doc, pm, an, ct, osl, cc, cda, qual, z, kz, p, p', p0, p1, p2, p3, p4, p5, q1, q2, q3, q4, hf, hcd, ev, bd, ⟨ccl, cdd, vs, ccs, file, tf, hc1, hc2, hc3⟩, cl, cld, csl, hcell⟩ := T.fn
  obtain ⟨nm, q', N, bs, bm, sn, sub, ab, col, dd, k0, k1, k2, k3, k5, hC, hbm⟩ := T.cls
  have hcl : clsIn K C = some { name := nm, bases := bs, mro := .ref C :: bm, ns := N, qualname := q', hasDict := true, slotNames := sn, subclasses := sub, abstract := ab, collection := col, hasDel := false } := by
    unfold clsIn
    rw [hC] <;> rfl
  obtain ⟨kf1, kf2, kf3⟩ := T.kP f rfl
  have hbd : BindsTo s (ksFn "__init__" qual (pars (some f) p p') (body (some f) z kz p0 p1 p2 p3 p4 p5 q1 q2 q3 q4) (scp (some f)) .none .none doc pm an (.ref cda) ct cc) (args1 f v (.ref e) bn) [("self", .ref e), (f, v)] := by
    cases bn
    · exact BindsTo.of_eq (bd _ _).1
    · exact BindsTo.of_eq (bd _ _).2
  refine ks_codeAny_call_defAt (binds := [("self", .ref e), (f, v)]) hroom (X _ _ hf) rfl lim (codeRec_of X hcd) rfl hbd (noCell (some f)) (by
    intro y hy
    rcases List.mem_cons.mp hy with rfl | hy
    · exact T.kL
    · obtain rfl : y = (f, v) := by simpa using hy
      exact kf1) (fun h1 hns kk => ?_) rfl rfl rfl
  obtain ⟨hh, g, d, t, os⟩ := s
  have X1 : K.In h1 := X.keeps kk
  have nsf : f ≠ ("self" : Str) := by simpa using kf2
  have lf : [(("self" : Str), Value.ref e), (f, v)].reverse.lookup f = some v := by simp [List.lookup]
  have ls : [(("self" : Str), Value.ref e), (f, v)].reverse.lookup ("self" : Str) = some (Value.ref e) := by
    have z : (("self" : Str) == f) = false := by simpa using (Ne.symm nsf)
    simp [List.lookup, z]
  have heL : e ≠ hh.objs.size := Nat.ne_of_lt (Heap.lt_size he)
  show _root_.PySem.wpAt _ _ _ (execs (sup z kz p0 p1 p2 p3 p4 p5 :: [keepS f q1 q2 q3 q4]) _) _ _ _
  refine ks_wpAt_execs_cons (sup_run (m := fun y => [(("self" : Str), Value.ref e), (f, v)].reverse.lookup y) T ev X1 (G.keeps kk) hmg (B.keeps kk) hmb (kk _ _ he) hns ls ⟨_, X1 _ _ hf, rfl⟩ ⟨_, rfl, rfl⟩ ⟨_, vs, file, tf, X1 _ _ hc1, rfl, hc2, hc3⟩ ⟨_, X1 _ _ hcell, rfl⟩ fun h2 t1 tk k4 e2 => ?_)
  have X2 : K.In h2 := fun a o q => k4 a o (fun y => by rw [y, hne] at q; cases q) (X1 a o q)
  obtain ⟨oL, esL, epL, hL, rL⟩ := hns
  have hns2 : h2.Ns hh.objs.size (fun y => [(("self" : Str), Value.ref e), (f, v)].reverse.lookup y) := ⟨oL, esL, epL, k4 _ _ (Ne.symm heL) hL, rL⟩
  refine wpAt_of_wpAny (wpAny_execs_cons (plainObj_wpAny_Assign_Attribute ?_))
  refine wpAny_Name (wpAny_loadName_local rfl kf1 hns2 lf ?_) kf3
  refine wpAny_Name (wpAny_loadName_local rfl T.kL hns2 ls ?_) (by decide)
  refine set_plain X2 (ox := excO C t1) (od := none) ⟨e2, rfl, rfl, trivial⟩ T.sa ?_
  refine exc_osa X2 e2 hcl (show refsVE (.ref C :: bm) = true from hbm) rfl (T.noF f rfl) (fun h3 tk3 dx k5 dn dne hx3 hn3 => ?_)
  have zz : hh.objs.size ≤ dx := Nat.le_trans (Nat.le_of_lt (Heap.lt_size (k4 _ _ (Ne.symm heL) hL))) dn
  exact wpAny_execs_nil (hq h3 t1 tk3 dx (fun b o hb z => k5 b o hb (k4 b o hb (kk b o z))) hx3 zz dne hn3)
end
end Er

set_option maxRecDepth 100000
set_option maxHeartbeats 2000000
namespace Er
open PySem PySem.W PySem.Calls PyProof.Rows PySem.HandSPX
section
variable {P : Program} {w : World} {A : Around} {E : Value → Shared → Prop} {R : Result → Shared → Prop} {h : Heap} {g : Array GenState} {d : Drawn} {t : Nat} {os : OsState}
variable {nm q : Str} {C N : Addr} {bs bm : List Value} {sn : List Str} {sub : List Value} {ab : Bool} {col : Option Bool} {dd : Option Addr} {k0 k1 k2 k3 k5 : Option Value}
/-- the class's own part of the making, with arguments by name -/
theorem newKw {kw : List (Str × Value)} (hbm : refsVE bm = true)
    (hC : h.get? C = some (excClassObj nm q C N bs bm true sn sub ab col dd k0 k1 k2 k3 k5 "ValueError.__new__"))
    (hq : R (.ok (.ret (.ref (h.objs.size + 1)))) ⟨(h.push (kdv_tup [])).push (excO C h.objs.size), g, d, t, os⟩) :
    codeAny (model P w) A (.builtin "ValueError.__new__" ⟨[.ref C], kw⟩) R ⟨h, g, d, t, os⟩ := by
  have FB := PySem.F.excBase_ValueError
  have ends := FB.ends
  have hT := fun Y => refsVE_contains Y bm hbm
  have cB : (Value.ref C :: bm).contains (.type "ValueError") = true := by rw [List.contains_cons, hT, FB.hasB, Bool.or_true]
  have cA : (Value.ref C :: bm).contains (.type "AttributeError") = false := by rw [List.contains_cons, hT, FB.noAttr]; rfl
  have cN : (Value.ref C :: bm).contains (.type "NameError") = false := by rw [List.contains_cons, hT, FB.noName]; rfl
  refine codeAny_builtinAt FB.entry ?_
  unfold Builtin.«BaseException.__new__»
  refine _root_.PySem.wpAt_bind ?_
  refine _root_.PySem.wpAt_bind (_root_.PySem.wpAt_stack fun p below => _root_.PySem.wpAt_of_wpAny ?_)
  wp_walk
  refine _root_.PySem.wpAt_of_wpAny ?_
  rw [FB.owner]
  repeat (first | with_reducible refine wpAny_madeHere_exc FB.canon hC ?_ | with_reducible refine wpAny_loadPart_at hC ?_ | (with_reducible refine wpAny_isSubtype_exc hC ?_; first | rw [cB] | rw [cA] | rw [cN]) | wp_step)
  rw [Heap.size_push]
  exact hq
theorem checkKw {kw : List (Str × Value)} {M : Model} {Q : Unit → Shared → Prop} (hbm : refsVE bm = true)
    (hC : h.get? C = some (excClassObj nm q C N bs bm true sn sub ab col dd k0 k1 k2 k3 k5 "ValueError.__new__")) (hq : Q () ⟨h, g, d, t, os⟩) :
    wpAny M A (checkBuiltinCall "ValueError.__new__" ⟨[.ref C], kw⟩) Q E ⟨h, g, d, t, os⟩ := by
  have FB := PySem.F.excBase_ValueError
  have cB : (Value.ref C :: bm).contains (.type "ValueError") = true := by rw [List.contains_cons, refsVE_contains "ValueError" bm hbm, FB.hasB, Bool.or_true]
  have st := FB.noStar
  simp only [checkBuiltinCall, FB.newKind, FB.newSplit, FB.newRow]
  repeat (first
    | refine wpAny_loadPart_at hC ?_
    | (refine wpAny_isSubtype_exc hC ?_; rw [cB])
    | refine wpAny_staticBase_exc hC ?_
    | refine wpAny_madeBy_exc hC ?_
    | simp only [bne_self_eq_false, Bool.false_eq_true, if_false]
    | wp_step)
  exact hq
theorem typeKw {kw : List (Str × Value)} {fI : Addr} {Q : Fin → Shared → Prop} (hbm : refsVE bm = true)
    (hC : h.get? C = some (excClassObj nm q C N bs bm true sn sub ab col dd k0 k1 k2 k3 k5 "ValueError.__new__"))
    (hi : Looks (model P w) h (typeLookup (.ref C) "__init__") (some (.ref fI))) (hb : ∀ self, Looks (model P w) h (bindSpecial (.ref fI) self) (.ref fI, [self]))
    (hq : codeAny (model P w) A (.call (.ref fI) ⟨[.ref (h.objs.size + 1)], kw⟩)
      (fun r s' => match r with | .ok (.ret v) => v = .none ∧ Q (.done (.ret (.ref (h.objs.size + 1)))) s' | .ok _ => False | .error e => E e s')
      ⟨(h.push (kdv_tup [])).push (excO C h.objs.size), g, d, t, os⟩) :
    wpAny (model P w) A (Builtin.«type.__call__» ⟨[.ref C], kw⟩) Q E ⟨h, g, d, t, os⟩ := by
  have FB := PySem.F.excBase_ValueError
  repeat (first | with_reducible refine wpAny_loadPart_at hC ?_ | with_reducible refine wpAny_madeBy_exc hC ?_ | wp_step)
  refine codeAny_call_builtin_code (Code.quiet_builtin _ FB.quiet) (checkKw hbm hC (newKw hbm hC ?_))
  have kk : ∀ b o, h.get? b = some o → ((h.push (kdv_tup [])).push (excO C h.objs.size)).get? b = some o := fun b o z => Heap.get?_push_of_some _ (Heap.get?_push_of_some _ z)
  have e1 : ((h.push (kdv_tup [])).push (excO C h.objs.size)).get? (h.objs.size + 1) = some (excO C h.objs.size) := by heap_get
  have cC : (Value.ref C :: bm).contains (.ref C) = true := by simp
  show wpAny _ _ _ _ _ _
  unfold isInstance
  repeat (first
    | with_reducible refine wpAny_loadPart_at e1 ?_
    | (with_reducible refine wpAny_isSubtype_exc (kk _ _ hC) ?_; rw [cC])
    | wp_step)
  show wpAny _ _ (typeLookup (.ref C) _) _ _ _
  refine (hi.keeps kk).at (wpAny_holding (wpAny_bind (((hb (.ref (h.objs.size + 1))).keeps kk).at ?_)))
  refine wpAny_bind (wpAny_call (codeAny_mono hq fun r s' z => ?_))
  cases r with
  | error e => exact z
  | ok fl =>
    cases fl with
    | ret v =>
      obtain ⟨rfl, z⟩ := z
      first
        | exact wpAny_pure (wpAny_pure z)
        | (wp_walk; exact z)
    | next => exact z.elim
    | brk => exact z.elim
    | cont => exact z.elim
theorem callKw {kw : List (Str × Value)} {fI : Addr} (hbm : refsVE bm = true)
    (hC : h.get? C = some (excClassObj nm q C N bs bm true sn sub ab col dd k0 k1 k2 k3 k5 "ValueError.__new__"))
    (hi : Looks (model P w) h (typeLookup (.ref C) "__init__") (some (.ref fI))) (hb : ∀ self, Looks (model P w) h (bindSpecial (.ref fI) self) (.ref fI, [self]))
    (hq : codeAny (model P w) (A.under (.builtin "type.__call__" ⟨[.ref C], kw⟩)) (.call (.ref fI) ⟨[.ref (h.objs.size + 1)], kw⟩) (InitBack (h.objs.size + 1) R)
      ⟨(h.push (kdv_tup [])).push (excO C h.objs.size), g, d, t, os⟩) :
    codeAny (model P w) A (.call (.ref C) ⟨[], kw⟩) R ⟨h, g, d, t, os⟩ := by
  have f1 := tc_lookup
  have f2 := tc_bind (.ref C)
  have ty : (⟨h, g, d, t, os⟩ : Shared).TypeIs (.ref C) "type" := ⟨_, hC, rfl⟩
  refine codeAny_of_tree ?_
  show wpAny _ _ (callAny (.ref C) _) _ _ _
  repeat (any_goals (first | assumption | with_reducible refine wpAny_loadPart_at hC ?_ | wp_step))
  refine ⟨rfl, codeAny_call_builtin_at (Code.quiet_builtin _ (by decide +kernel)) entry_typeCall (wpAny_check_type_call_sub hC (typeKw hbm hC hi hb ?_))⟩
  refine codeAny_mono hq fun r s' z => ?_
  rcases r with e | (v | _ | _ | _) <;> exact z
end
end Er

set_option maxRecDepth 100000
set_option maxHeartbeats 2000000
namespace Er
open PySem PySem.Spec PyProof.Rows L2
section
variable {X : Cx} {pins : List (Addr × Obj)} {σ : L2.St} {H : Hp} {s : Shared}
/-- two new objects, tracked -/
theorem laid2 {h' : Heap} {a b : Addr} {oa ob : HO} {t' : Nat} (I : Inv X pins σ H s) (k : ∀ c u, s.heap.get? c = some u → h'.get? c = some u) (ha : s.heap.objs.size ≤ a) (hb : s.heap.objs.size ≤ b)
    (na : ObjOk X.prog X.w (upd (upd H b ob) a oa) h' a oa) (nb : a ≠ b → ObjOk X.prog X.w (upd (upd H b ob) a oa) h' b ob) : Inv X pins σ (upd (upd H b ob) a oa) { s with heap := h', toks := t' } := by
  have fa : H a = none := I.hok.fresh ha
  have fb : H b = none := I.hok.fresh hb
  have ne : ∀ {c u}, H c = some u → c ≠ a ∧ c ≠ b := fun {c u} q => ⟨ne_of_none q fa, ne_of_none q fb⟩
  have nh : ∀ {c u}, s.heap.get? c = some u → c ≠ a ∧ c ≠ b := fun {c u} q => ⟨Nat.ne_of_lt (Nat.lt_of_lt_of_le (Heap.lt_size q) ha), Nat.ne_of_lt (Nat.lt_of_lt_of_le (Heap.lt_size q) hb)⟩
  have up : ∀ {c}, c ≠ a → c ≠ b → upd (upd H b ob) a oa c = H c := fun {c} h1 h2 => by rw [upd_ne h1, upd_ne h2]
  refine I.un ⟨fun c u q _ _ _ => k c u q, fun c u q _ _ _ => ⟨u.slots, k c u q⟩, fun c u q n _ => by rw [up (nh q).1 (nh q).2]; exact n, fun c u q _ => ⟨u, k c u q⟩,
    fun c xs q => by rw [up (ne q).1 (ne q).2]; exact q, fun c o u q => by rw [up (ne q).1 (ne q).2]; exact q, fun c ps q => ⟨#[], by rw [up (ne q).1 (ne q).2, q]; simp⟩⟩ ?_
  intro c u q
  by_cases h1 : c = a
  · subst h1
    rw [upd_same] at q
    cases q
    exact na
  · by_cases h2 : c = b
    · subst h2
      rw [upd_ne h1, upd_same] at q
      cases q
      exact nb (Ne.symm h1)
    · rw [up h1 h2] at q
      exact (I.hok c u q).stay (fun e v _ z => k e v z) (fun e z => by rw [up (ne z).1 (ne z).2]; exact z) fun e xs z => by rw [up (ne z).1 (ne z).2]; exact z
end
section
variable {X : Cx} {x f : Str} {C fI : Addr} {k : Nat} {e : Expr} {te : TE} {p pos kp : Pos}
/-- what the world about says of the name super -/
structure SupOk (X : Cx) : Prop where
  mg : X.mg "super" = none
theorem facts {pins : List (Addr × Obj)} {σ : L2.St} {H : Hp} {s : Shared} (I : Inv X pins σ H s) : s.heap.NoLimit ∧ s.heap.Ns mainGlobals X.mg ∧ ∃ mb, s.heap.Ns builtinsNs mb ∧ mb "super" = some (.type "super") := by
  obtain ⟨mb, b1, b2⟩ := I.mod.blt
  exact ⟨I.mod.nolimit.keeps I.bk, I.mod.glob.keeps I.bk, mb, b1.keeps I.bk, (b2 _ (by decide +kernel)).trans (by decide +kernel)⟩
/-- C() as a value -/
def tErr0 (C : Addr) : TE := fun σ H Q => ∀ a, H a = none → Q (.ref a) (upd H a (exo a C none))
/-- C(e) as a value -/
def tErr1 (C : Addr) (f : Str) (te : TE) : TE := fun σ H Q => te σ H fun v H1 => ∀ a d, H1 a = none → H1 d = none → d ≠ a → Q (.ref a) (upd (upd H1 d (exd d [(f, v)])) a (exo a C (some d)))
theorem pe_err0 (T : ErrC X.prog X.K x none C fI) (S : X.mg "super" = none) (hr : Room k X.A) (hg : Gl X x) (hm : X.mg x = some (.ref C)) (hdb : (x == ("__debug__" : Str)) = false := by decide) :
    PE X (.Call (.Name x p) [] [] pos) (tErr0 C) := by
  constructor
  intro pins s σ H Q I h
  refine wpAny_Call_Name_kw (ld_glob I hg hm ?_ hdb)
  refine PySem.W.callWith_K0 I.kIn T.kC ?_
  show wpAny _ _ (call (.ref C) []) _ _ _
  obtain ⟨nm, q, N, bs, bm, sn, sub, ab, col, dd, k0, k1, k2, k3, k5, hC, hbm⟩ := T.cls
  obtain ⟨lim, G, mb, B, hmb⟩ := facts I
  obtain ⟨hp, g, dr, tk, os⟩ := s
  have X0 : X.K.In hp := I.kIn
  have kk : ∀ b o, hp.get? b = some o → ((hp.push (PySem.W.kdv_tup [])).push (PySem.HandSPX.excO C hp.objs.size)).get? b = some o := fun b o z => Heap.get?_push_of_some _ (Heap.get?_push_of_some _ z)
  have e1 : ((hp.push (PySem.W.kdv_tup [])).push (PySem.HandSPX.excO C hp.objs.size)).get? (hp.objs.size + 1) = some (PySem.HandSPX.excO C hp.objs.size) := by heap_get
  refine wpAny_call (callKw hbm (X0 _ _ hC) (PySem.W.looks_findIn X0 T.iC) (fun self => PySem.W.bind_fn X0 self T.tI) ?_)
  refine err_init0 (s := ⟨(hp.push (PySem.W.kdv_tup [])).push (PySem.HandSPX.excO C hp.objs.size), g, dr, tk, os⟩) T (X0.keeps kk) (lim.keeps kk) (G.keeps kk) S (B.keeps kk) hmb e1 ?_ ?_
  · have := hr.dp
    show X.A.depth + 1 < recursionLimit
    omega
  · intro h' t1 tk' k' e'
    have hn : H (hp.objs.size + 1) = none := I.hok.fresh (Nat.le_succ _)
    refine ⟨rfl, .ref (hp.objs.size + 1), upd H (hp.objs.size + 1) (exo (hp.objs.size + 1) C none), ?_, rfl, h _ hn⟩
    exact I.laid (t' := tk') (fun b o z => k' b o (Nat.ne_of_lt (Nat.lt_succ_of_lt (Heap.lt_size z))) (kk b o z)) (Nat.le_succ _) (exo_ok e')
theorem vals_one {v : V} {us : List Value} (r : Vals [v] us) : ∃ u, us = [u] ∧ RelV v u := by
  cases r with
  | cons a b => cases b; exact ⟨_, rfl, a⟩
/-- the making itself, behind the argument's reading -/
theorem make1 (T : ErrC X.prog X.K x (some f) C fI) (S : X.mg "super" = none) (hr : Room k X.A) (bn : Bool) {pins : List (Addr × Obj)} {σ : L2.St} {H1 : Hp} {s1 : Shared} {v : V} {u : Value} {Q : VK} (I1 : Inv X pins σ H1 s1) (ru : RelV v u)
    (q : ∀ a d, H1 a = none → H1 d = none → d ≠ a → Q (.ref a) (upd (upd H1 d (exd d [(f, v)])) a (exo a C (some d)))) :
    wpAny (model X.prog X.w) X.A (call (.ref C) (if bn = true then [] else [u]) (if bn = true then [(f, u)] else [])) (EP X pins σ Q) X.xe s1 := by
  obtain ⟨nm, qn, N, bs, bm, sn, sub, ab, col, dd, k0, k1, k2, k3, k5, hC, hbm⟩ := T.cls
  obtain ⟨lim, G, mb, B, hmb⟩ := facts I1
  obtain ⟨hp, g, dr, tk, os⟩ := s1
  have X0 : X.K.In hp := I1.kIn
  have fin : ∀ l : List Value, ∀ A' : Around, A'.depth < recursionLimit → ∀ R : Result → Shared → Prop, (∀ h' tk', (∃ w' H', Inv X pins σ H' ⟨h', g, dr, tk', os⟩ ∧ RelV w' (.ref (hp.objs.size + 1)) ∧ Q w' H') → R (.ok (.ret .none)) ⟨h', g, dr, tk', os⟩) →
      codeAny (model X.prog X.w) A' (.call (.ref fI) (args1 f u (.ref (hp.objs.size + 1)) bn)) R ⟨(hp.push (PySem.W.kdv_tup l)).push (PySem.HandSPX.excO C hp.objs.size), g, dr, tk, os⟩ := by
    intro l A' hA R hR
    have kk : ∀ b o, hp.get? b = some o → ((hp.push (PySem.W.kdv_tup l)).push (PySem.HandSPX.excO C hp.objs.size)).get? b = some o := fun b o z => Heap.get?_push_of_some _ (Heap.get?_push_of_some _ z)
    have e1 : ((hp.push (PySem.W.kdv_tup l)).push (PySem.HandSPX.excO C hp.objs.size)).get? (hp.objs.size + 1) = some (PySem.HandSPX.excO C hp.objs.size) := by heap_get
    have hne : X.K.lookup (hp.objs.size + 1) = none := by
      cases z : X.K.lookup (hp.objs.size + 1) with
      | none => rfl
      | some o => exact absurd (Nat.lt_of_succ_lt (Heap.lt_size (X0 _ _ z))) (Nat.lt_irrefl _)
    refine err_init1 (s := ⟨(hp.push (PySem.W.kdv_tup l)).push (PySem.HandSPX.excO C hp.objs.size), g, dr, tk, os⟩) T (X0.keeps kk) (lim.keeps kk) (G.keeps kk) S (B.keeps kk) hmb e1 hne hA ?_
    intro h' t1 tk' dx k' e' dn dne hns
    have dn' : hp.objs.size ≤ dx := by
      have z : hp.objs.size ≤ ((hp.push (PySem.W.kdv_tup l)).push (PySem.HandSPX.excO C hp.objs.size)).objs.size := by
        rw [Heap.size_push, Heap.size_push]
        omega
      exact Nat.le_trans z dn
    have fa : H1 (hp.objs.size + 1) = none := I1.hok.fresh (Nat.le_succ _)
    have fd : H1 dx = none := I1.hok.fresh dn'
    refine hR h' tk' ⟨.ref (hp.objs.size + 1), _, ?_, rfl, q _ dx fa fd dne⟩
    refine laid2 (t' := tk') I1 (fun b o z => k' b o (Nat.ne_of_lt (Nat.lt_succ_of_lt (Heap.lt_size z))) (kk b o z)) (Nat.le_succ _) dn' (exo_ok e') fun _ => exd_ok hns fun y => ?_
    exact relO_put (fs := []) (mA := fun _ => none) ru (fun _ => True.intro) y
  cases bn with
  | false =>
    refine wpAny_call (PySem.HandSPX.call_own (rest := [u]) F.excBase_ValueError (fun Y => PySem.HandSPX.refsVE_contains Y bm hbm) (X0 _ _ hC) (PySem.W.looks_findIn X0 T.iC) (fun self => PySem.W.bind_fn X0 self T.tI) (one_size u) ?_)
    refine fin [u] _ ?_ _ fun h' tk' hh => ⟨rfl, hh⟩
    have := hr.dp
    show X.A.depth + 1 < recursionLimit
    omega
  | true =>
    refine wpAny_call (callKw hbm (X0 _ _ hC) (PySem.W.looks_findIn X0 T.iC) (fun self => PySem.W.bind_fn X0 self T.tI) ?_)
    refine fin [] _ ?_ _ fun h' tk' hh => ⟨rfl, hh⟩
    have := hr.dp
    show X.A.depth + 1 < recursionLimit
    omega
theorem pe_err1 (T : ErrC X.prog X.K x (some f) C fI) (S : X.mg "super" = none) (hr : Room k X.A) (hg : Gl X x) (hm : X.mg x = some (.ref C)) (he : PE X e te) (hdb : (x == ("__debug__" : Str)) = false := by decide)
    (hs : starEach [e] X.env = (false, eval e X.env) :: starEach [] X.env := by rfl) : PE X (.Call (.Name x p) [e] [] pos) (tErr1 C f te) := by
  constructor
  intro pins s σ H Q I h
  refine wpAny_Call_Name_kw (ld_glob I hg hm (PySem.W.callWith_K (h₀ := X.base) I.ok.mod.kin T.kC ?_ hs (by rfl)) hdb)
  rw [hs]
  refine Calls.spliced_cons (thn (he.run pins s σ H _ I h) ?_)
  rintro u s1 ⟨v, H1, I1, r1, q1⟩
  exact Calls.spliced_nil ⟨I1.kIn, make1 T S hr false I1 r1 q1⟩
/-- C(f=e) -/
theorem pe_err1k (T : ErrC X.prog X.K x (some f) C fI) (S : X.mg "super" = none) (hr : Room k X.A) (hg : Gl X x) (hm : X.mg x = some (.ref C)) (he : PE X e te) (hdb : (x == ("__debug__" : Str)) = false := by decide)
    (hall : (backToKw pos (keywordEach [⟨some f, e, kp⟩] X.env)).all (·.1.isSome) = true := by rfl) (hks : (backToKw pos (keywordEach [⟨some f, e, kp⟩] X.env)).filterMap (·.1) = [f] := by rfl)
    (hpl : ((backTo pos (starEach [] X.env)).any (·.1) || (backToKw pos (keywordEach [⟨some f, e, kp⟩] X.env)).any (·.1.isNone)) = false := by rfl) :
    PE X (.Call (.Name x p) [] [⟨some f, e, kp⟩] pos) (tErr1 C f te) := by
  constructor
  intro pins s σ H Q I h
  refine wpAny_Call_Name_kw (ld_glob I hg hm (PySem.W.callWith_KW0 (h₀ := X.base) I.ok.mod.kin T.kC hall ?_ hpl) hdb)
  show wpAny _ _ (evalAll ((do let v ← eval e X.env; standAt pos; pure v) :: [])) _ _ s
  refine wpAny_evalAll_cons (wpAny_bind (thn (he.run pins s σ H _ I h) ?_))
  rintro u s1 ⟨v, H1, I1, r1, q1⟩
  refine wpAny_bind (wpAny_standAt (wpAny_pure (wpAny_evalAll_nil ⟨I1.kIn, ?_⟩)))
  rw [hks]
  exact make1 T S hr true I1 r1 q1
/-- e.n of a made error -/
def tErrF (K : PySem.W.Frag) (n : Str) (te : TE) : TE := fun σ H Q => te σ H fun y H1 => ∃ (a C d : Addr) (fs : List (Str × V)) (v : V), y = .ref a ∧ XfC K C ∧ PySem.W.findIn K (.ref C) n = some none ∧
  H1 a = some (exo a C (some d)) ∧ H1 d = some (exd d fs) ∧ fs.lookup n = some v ∧ Q v H1
theorem pe_errF {n : Str} (he : PE X e te) (hb : attributeBase e n X.env (eval e X.env) = eval e X.env := by rfl) : PE X (.Attribute e n pos) (tErrF X.K n te) := by
  constructor
  intro pins s σ H Q I h
  refine attr_of hb (thn (he.run pins s σ H _ I h) ?_)
  rintro u s1 ⟨y, H1, I1, rx, a, C, d, fs, v, rfl, T, hno, ea, ed, l, q⟩
  obtain rfl : u = Value.ref a := rx
  obtain ⟨t1, ho⟩ := exo_at I1.hok ea
  obtain ⟨mA, hns, hr⟩ := exd_at I1.hok ed
  obtain ⟨od, hod, hl⟩ := lookIn_ns hns
  obtain ⟨u, hu, ru⟩ := RelO.some_of (v := v) (o := mA n) (by rw [← l]; exact hr n)
  have J : PySem.W.InstAt s1.heap a _ C (some od) := ⟨ho, rfl, rfl, hod⟩
  exact HandSPX.exc_get I1.kIn J T.ga T.gg T.exC (PySem.W.findObj_own T.hdC hno rfl (by rw [hl, hu])) (handed_of ru) ⟨v, H1, I1.tok _, ru, q⟩
/-- isinstance(a made error, c) -/
def rIsErr (K : PySem.W.Frag) : List V → Hp → VK → Prop := fun xs H Q => ∃ (a C : Addr) (d : Option Addr) (c : V) (cv : Value) (b : Bool), xs = [.ref a, c] ∧ ExcC K C ∧ (PySem.W.clsIn K C).isSome = true ∧ H a = some (exo a C d) ∧
  (∀ dd, d = some dd → ∃ fs, H dd = some (exd dd fs)) ∧ (∀ u, RelV c u → u = cv) ∧ PySem.W.kitOne K (.ref C) cv = some b ∧ Q (.bl b) H
theorem call_isErr : CallR X (.builtin "isinstance") (rIsErr X.K) := by
  intro pins s σ H xs us Q I r h
  obtain ⟨a, C, d, c, cv, b, rfl, T, hcl, ea, ed, hcv, ek, q⟩ := h
  cases r with
  | cons rx rr =>
    cases rr with
    | cons rt rr =>
      cases rr
      cases rx
      obtain rfl := hcv _ rt
      obtain ⟨t1, ho⟩ := exo_at I.hok ea
      have J : ∃ od, PySem.W.InstAt s.heap a { cls := .ref C, dict := d, data := .fields #[.ref t1, .none, .none, .none, .bool false, .none] } C od := by
        cases d with
        | none => exact ⟨none, ho, rfl, rfl, trivial⟩
        | some dd =>
          obtain ⟨fs, e2⟩ := ed dd rfl
          obtain ⟨mA, hns, _⟩ := exd_at I.hok e2
          obtain ⟨od, hod, _⟩ := lookIn_ns hns
          exact ⟨some od, ho, rfl, rfl, hod⟩
      obtain ⟨od, J⟩ := J
      exact PySem.W.kia_one (PySem.W.kitx_exc hcl T.hg T.hk T.hs T.ha T.hn T.ht T.hm) I.kIn J ek (fun z => nomatch z) fun tk => ⟨.bl b, H, I.kept (t' := tk) fun _ _ z => z, rfl, q⟩
end
end Er

set_option maxRecDepth 100000
set_option maxHeartbeats 2000000
/-! Own errors (super().__init__('..')) raised. -/
namespace Er
open PySem PySem.Spec PyProof.Rows L2
section
variable {X : Cx} {x f : Str} {C fI : Addr} {k : Nat} {e : Expr} {te : TE} {p pos kp : Pos}
theorem pmk_err0 (T : ErrC X.prog X.K x none C fI) (S : X.mg "super" = none) (hr : Room k X.A) (rC : Raises X (.ref C)) (hm : X.mg x = some (.ref C)) (hg : Gl X x := by rfl) (hdb : (x == ("__debug__" : Str)) = false := by decide) :
    PMk X (.Call (.Name x p) [] [] pos) (fun σ H Q => Q (.ref C) none H) := by
  intro pins s σ H Q I h
  refine wpAny_Call_Name_kw (ld_glob I hg hm (PySem.W.callWith_K0 I.kIn T.kC ?_) hdb)
  show wpAny _ _ (call (.ref C) []) _ _ _
  obtain ⟨nm, q, N, bs, bm, sn, sub, ab, col, dd, k0, k1, k2, k3, k5, hC, hbm⟩ := T.cls
  obtain ⟨lim, G, mb, B, hmb⟩ := facts I
  obtain ⟨hp, g, dr, tk, os⟩ := s
  have X0 : X.K.In hp := I.kIn
  have kk : ∀ b o, hp.get? b = some o → ((hp.push (PySem.W.kdv_tup [])).push (PySem.HandSPX.excO C hp.objs.size)).get? b = some o := fun b o z => Heap.get?_push_of_some _ (Heap.get?_push_of_some _ z)
  have e1 : ((hp.push (PySem.W.kdv_tup [])).push (PySem.HandSPX.excO C hp.objs.size)).get? (hp.objs.size + 1) = some (PySem.HandSPX.excO C hp.objs.size) := by heap_get
  refine wpAny_call (callKw hbm (X0 _ _ hC) (PySem.W.looks_findIn X0 T.iC) (fun self => PySem.W.bind_fn X0 self T.tI) ?_)
  refine err_init0 (s := ⟨(hp.push (PySem.W.kdv_tup [])).push (PySem.HandSPX.excO C hp.objs.size), g, dr, tk, os⟩) T (X0.keeps kk) (lim.keeps kk) (G.keeps kk) S (B.keeps kk) hmb e1 ?_ ?_
  · have := hr.dp
    show X.A.depth + 1 < recursionLimit
    omega
  · intro h' t1 tk' k' e'
    have hn : H (hp.objs.size + 1) = none := I.hok.fresh (Nat.le_succ _)
    have hq : hp.get? (hp.objs.size + 1) = none := by
      cases z : hp.get? (hp.objs.size + 1) with
      | none => rfl
      | some o => exact absurd (Nat.lt_of_succ_lt (Heap.lt_size z)) (Nat.lt_irrefl _)
    exact ⟨rfl, hp.objs.size + 1, _, _, ⟨hp, g, dr, tk, os⟩, H, .ref C, none, rfl, I, fun b o z => k' b o (Nat.ne_of_lt (Nat.lt_succ_of_lt (Heap.lt_size z))) (kk b o z), hq, e', ⟨rfl, rfl⟩, rfl, rfl, hn, rfl, I.bare, rC, h⟩
theorem pmk_err1 (T : ErrC X.prog X.K x (some f) C fI) (S : X.mg "super" = none) (hr : Room k X.A) (rC : Raises X (.ref C)) (hm : X.mg x = some (.ref C)) (he : PE X e te) (hg : Gl X x := by rfl) (hdb : (x == ("__debug__" : Str)) = false := by decide)
    (hs : starEach [e] X.env = (false, eval e X.env) :: starEach [] X.env := by rfl) : PMk X (.Call (.Name x p) [e] [] pos) (fun σ H Q => te σ H fun v H1 => ∀ d, H1 d = none → Q (.ref C) (some d) (upd H1 d (.xd [(f, v)]))) := by
  intro pins s σ H Q I h
  refine wpAny_Call_Name_kw (ld_glob I hg hm (PySem.W.callWith_K (h₀ := X.base) I.ok.mod.kin T.kC ?_ hs (by rfl)) hdb)
  rw [hs]
  refine Calls.spliced_cons (thn (he.run pins s σ H _ I h) ?_)
  rintro u s1 ⟨v, H1, I1, ru, q1⟩
  refine Calls.spliced_nil ⟨I1.kIn, ?_⟩
  show wpAny _ _ (call (.ref C) [u]) _ _ _
  obtain ⟨nm, qn, N, bs, bm, sn, sub, ab, col, dd, k0, k1, k2, k3, k5, hC, hbm⟩ := T.cls
  obtain ⟨lim, G, mb, B, hmb⟩ := facts I1
  obtain ⟨hp, g, dr, tk, os⟩ := s1
  have X0 : X.K.In hp := I1.kIn
  have kk : ∀ b o, hp.get? b = some o → ((hp.push (PySem.W.kdv_tup [u])).push (PySem.HandSPX.excO C hp.objs.size)).get? b = some o := fun b o z => Heap.get?_push_of_some _ (Heap.get?_push_of_some _ z)
  have e1 : ((hp.push (PySem.W.kdv_tup [u])).push (PySem.HandSPX.excO C hp.objs.size)).get? (hp.objs.size + 1) = some (PySem.HandSPX.excO C hp.objs.size) := by heap_get
  have hne : X.K.lookup (hp.objs.size + 1) = none := by
    cases z : X.K.lookup (hp.objs.size + 1) with
    | none => rfl
    | some o => exact absurd (Nat.lt_of_succ_lt (Heap.lt_size (X0 _ _ z))) (Nat.lt_irrefl _)
  refine wpAny_call (PySem.HandSPX.call_own (rest := [u]) F.excBase_ValueError (fun Y => PySem.HandSPX.refsVE_contains Y bm hbm) (X0 _ _ hC) (PySem.W.looks_findIn X0 T.iC) (fun self => PySem.W.bind_fn X0 self T.tI) (one_size u) ?_)
  refine err_init1 (bn := false) (s := ⟨(hp.push (PySem.W.kdv_tup [u])).push (PySem.HandSPX.excO C hp.objs.size), g, dr, tk, os⟩) T (X0.keeps kk) (lim.keeps kk) (G.keeps kk) S (B.keeps kk) hmb e1 hne ?_ ?_
  · have := hr.dp
    show X.A.depth + 1 < recursionLimit
    omega
  · intro h' t1 tk' dx k' e' dn dne hns
    have dn' : hp.objs.size ≤ dx := by
      have z : hp.objs.size ≤ ((hp.push (PySem.W.kdv_tup [u])).push (PySem.HandSPX.excO C hp.objs.size)).objs.size := by
        rw [Heap.size_push, Heap.size_push]
        omega
      exact Nat.le_trans z dn
    have fa : H1 (hp.objs.size + 1) = none := I1.hok.fresh (Nat.le_succ _)
    have fd : H1 dx = none := I1.hok.fresh dn'
    have old : ∀ b o, hp.get? b = some o → h'.get? b = some o := fun b o z => k' b o (Nat.ne_of_lt (Nat.lt_succ_of_lt (Heap.lt_size z))) (kk b o z)
    have J := laid2 (t' := tk') I1 old (Nat.le_succ _) dn' (oa := exo (hp.objs.size + 1) C (some dx)) (ob := exd dx [(f, v)]) (exo_ok e') fun _ => exd_ok hns fun y => relO_put (fs := []) (mA := fun _ => none) ru (fun _ => True.intro) y
    have nh : ∀ {c u}, hp.get? c = some u → c ≠ hp.objs.size + 1 ∧ c ≠ dx := fun {c u} q => ⟨Nat.ne_of_lt (Nat.lt_succ_of_lt (Heap.lt_size q)), Nat.ne_of_lt (Nat.lt_of_lt_of_le (Heap.lt_size q) dn')⟩
    have ea : (upd (upd H1 dx (exd dx [(f, v)])) (hp.objs.size + 1) (exo (hp.objs.size + 1) C (some dx))) (hp.objs.size + 1) = some (exo (hp.objs.size + 1) C (some dx)) := upd_same
    have ed : (upd (upd H1 dx (exd dx [(f, v)])) (hp.objs.size + 1) (exo (hp.objs.size + 1) C (some dx))) dx = some (exd dx [(f, v)]) := by rw [upd_ne dne, upd_same]
    have un : Un (frs X.stack) [] (upd H1 (hp.objs.size + 1) (exo (hp.objs.size + 1) C none)) (upd (upd H1 dx (exd dx [(f, v)])) (hp.objs.size + 1) (exo (hp.objs.size + 1) C (some dx))) hp h' := by
      have go : ∀ {c : Addr} {o : HO}, (upd H1 (hp.objs.size + 1) (exo (hp.objs.size + 1) C none)) c = some o → o ≠ exo (hp.objs.size + 1) C none → (upd (upd H1 dx (exd dx [(f, v)])) (hp.objs.size + 1) (exo (hp.objs.size + 1) C (some dx))) c = some o := fun {c o} q ne => by
        have h1 : c ≠ hp.objs.size + 1 := fun z => by
          rw [z, upd_same] at q
          exact ne (Option.some.inj q).symm
        rw [upd_ne h1] at q
        rw [upd_ne h1, upd_ne (ne_of_none q fd)]
        exact q
      refine ⟨fun c o z _ _ _ => old c o z, fun c o z _ _ _ => ⟨o.slots, old c o z⟩, fun c o z n _ => ?_, fun c o z _ => ⟨o, old c o z⟩, fun c xs q => go q fun z => exo_tup z.symm, fun c o w q => go q fun z => exo_frz z.symm, fun c ps q => ⟨#[], by rw [go q fun z => exo_tbl z.symm]; simp⟩⟩
      rw [upd_ne (nh z).1] at n
      rw [upd_ne (nh z).1, upd_ne (nh z).2]
      exact n
    refine ⟨rfl, mk_end (d1 := dr) (t1 := tk) (os1 := os) (g1 := g) rC I1 (Nat.le_succ _) (fun _ _ z => z) un J.hok rfl I1.bare ea ed fd ?_⟩
    have eq1 : upd (del (upd (upd H1 dx (exd dx [(f, v)])) (hp.objs.size + 1) (exo (hp.objs.size + 1) C (some dx))) (hp.objs.size + 1)) dx (.xd [(f, v)]) = upd H1 dx (.xd [(f, v)]) := by
      funext b
      by_cases h1 : b = dx
      · subst h1
        rw [upd_same, upd_same]
      · rw [upd_ne h1, upd_ne h1]
        by_cases h2 : b = hp.objs.size + 1
        · subst h2
          rw [del_same, fa]
        · rw [del_ne h2, upd_ne h2, upd_ne h1]
    rw [eq1]
    exact q1 dx fd
end
end Er

set_option maxRecDepth 100000
set_option maxHeartbeats 4000000
namespace Cm
open PySem PySem.Spec PyProof.Rows L2
theorem same_upd {H : Hp} {p : Addr} {o : HO} (h : H p = none) : Same H (upd H p o) := fun b u e => by
  have : b ≠ p := fun z => by rw [z, h] at e; cases e
  rw [upd_ne this]; exact e
theorem seqT_same {K : PySem.W.Frag} {H H' : Hp} {a : Addr} {xs : List V} (e : Same H H') (h : SqT K H a xs) : SqT K H' a xs := by
  rcases h with (h | ⟨o, h⟩) | h
  · exact .inl (.inl (e _ _ h))
  · exact .inl (.inr ⟨o, e _ _ h⟩)
  · exact .inr h
mutual
theorem dp_same {K : PySem.W.Frag} {H H' : Hp} (s : Same H H') : ∀ (d : PyData) (v : V), Dp K H v d → Dp K H' v d
  | .none, _, h => by cases h; exact .non
  | .bool b, _, h => by cases h; exact .bl b
  | .int i, _, h => by cases h; exact .int i
  | .str x, _, h => by cases h; exact .str x
  | .list ds, _, h => by
    cases h with
    | lst h1 h2 => exact .lst (s.seq h1) (dpAll_same s ds _ h2)
  | .tuple ds, _, h => by
    cases h with
    | tup h1 h2 => exact .tup (seqT_same s h1) (dpAll_same s ds _ h2)
  | .dict kvs, _, h => by cases h
theorem dpAll_same {K : PySem.W.Frag} {H H' : Hp} (s : Same H H') : ∀ (ds : List PyData) (vs : List V), DpAll K H vs ds → DpAll K H' vs ds
  | [], _, h => by cases h; exact .nil
  | d :: ds, _, h => by
    cases h with
    | cons a b => exact .cons (dp_same s d _ a) (dpAll_same s ds _ b)
end
theorem dpAll_len {K : PySem.W.Frag} {H : Hp} : ∀ {vs : List V} {ds : List PyData}, DpAll K H vs ds → vs.length = ds.length
  | [], [], _ => rfl
  | _ :: _, _ :: _, h => by
    cases h with
    | cons _ b => exact congrArg (· + 1) (dpAll_len b)
theorem dpAll_get {K : PySem.W.Frag} {H : Hp} : ∀ {vs : List V} {ds : List PyData} {i : Nat} {d : PyData}, DpAll K H vs ds → ds[i]? = some d → ∃ v, vs[i]? = some v ∧ Dp K H v d
  | [], [], i, d, _, h => by simp at h
  | v :: vs, e :: ds, i, d, h, g => by
    cases h with
    | cons a b =>
      cases i with
      | zero => simp at g; subst g; exact ⟨v, rfl, a⟩
      | succ i =>
        simp at g
        obtain ⟨u, h1, h2⟩ := dpAll_get b g
        exact ⟨u, by simpa using h1, h2⟩
theorem dpAll_get' {K : PySem.W.Frag} {H : Hp} {vs : List V} {ds : List PyData} {i : Nat} {v : V} (h : DpAll K H vs ds) (g : vs[i]? = some v) : ∃ d, ds[i]? = some d ∧ Dp K H v d := by
  have hi : i < ds.length := by
    rw [← dpAll_len h]
    exact (List.getElem?_eq_some_iff.mp g).1
  obtain ⟨u, h1, h2⟩ := dpAll_get h (List.getElem?_eq_getElem hi)
  rw [g] at h1
  cases h1
  exact ⟨_, List.getElem?_eq_getElem hi, h2⟩
theorem dpAll_app {K : PySem.W.Frag} {H : Hp} : ∀ {vs us : List V} {ds es : List PyData}, DpAll K H vs ds → DpAll K H us es → DpAll K H (vs ++ us) (ds ++ es)
  | [], us, [], es, _, h => h
  | v :: vs, us, d :: ds, es, h, g => by
    cases h with
    | cons a b => exact .cons a (dpAll_app b g)
end Cm

set_option maxRecDepth 100000
set_option maxHeartbeats 4000000
/-! in, ==, != by an own __contains__, __eq__, with both answers; C(..) where what is raised is wished for at the caller's slots. -/
namespace Ow
open PySem PySem.Spec PyProof.Rows L2
section
variable {X : Cx} {CX : CXT} {n : Nat} {C f : Addr} {fd : FuncData} {ps : List Str} {sp : Sp} {E : XK}
theorem own_call (F : FnOk X.prog X.w X.K X.mg X.base CX n f fd ps sp) (hb : Binds X.K fd ps []) (hx : Passes CX X E) {A : Around} (sb : Sub X n A) {pins : List (Addr × Obj)} {s : Shared} {σ : L2.St} {H : Hp} {a : Addr} {y : V} {u : Value} {G : Bool → Hp → Prop}
    (I : Inv X pins σ H s) (ry : RelV y u) (h : sp [.ref a, y] H (fun v H' => ∃ b, v = .bl b ∧ G b H') E) :
    wpAny (model X.prog X.w) A (call (.ref f) [.ref a, u]) (fun r s' => ∃ b H', r = .bool b ∧ Inv X pins σ H' s' ∧ G b H') X.xe s := by
  have e0 : Env0 X.prog X.w X.K X.mg X.base A X.stack s H := by
    have e := I.env0
    exact ⟨by rw [sb.fr]; exact e.frames, e.mod, e.bs, e.bsz, e.funs, e.frf, e.hok, e.bare⟩
  have hl := F.len _ _ _ _ h
  have r2 : Vals [V.ref a, y] [Value.ref a, u] := .cons rfl (.cons ry .nil)
  refine wpAny_call (codeAny_mono (F.run A X.stack s H ⟨[.ref a, u], []⟩ [.ref a, u] [.ref a, y] _ E sb.room e0 (by
    have := hb s [.ref a, u] I.kIn (by simpa using hl)
    simpa using this) r2 h) fun r s' hq => ?_)
  cases r with
  | error e => exact hx pins σ H s e s' I hq
  | ok fl =>
    cases fl with
    | ret w =>
      obtain ⟨z, H', I', rz, b, ez, q⟩ := I.after hq
      subst ez
      cases rz
      exact ⟨b, H', rfl, I', q⟩
    | next => exact False.elim hq
    | brk => exact False.elim hq
    | cont => exact False.elim hq
/-- x in o, o of a class with an own __contains__ -/
def rInOwn (C : Addr) (sp : Sp) (E : XK) : R2 := fun x y H Q => ∃ a dx fs, y = .ref a ∧ H a = some (.ins C dx fs) ∧ sp [.ref a, x] H (fun v H' => ∃ b, v = .bl b ∧ Q (.bl b) H') E
def rNotInOwn (C : Addr) (sp : Sp) (E : XK) : R2 := fun x y H Q => ∃ a dx fs, y = .ref a ∧ H a = some (.ins C dx fs) ∧ sp [.ref a, x] H (fun v H' => ∃ b, v = .bl b ∧ Q (.bl (!b)) H') E
theorem op_inOwn (F : FnOk X.prog X.w X.K X.mg X.base CX n f fd ps sp) (hr : Room n X.A) (hs : PySem.W.findIn X.K (.ref C) "__contains__" = some (some (.ref f))) (hf : PySem.W.isFn X.K (.ref f) = true) (hb : Binds X.K fd ps []) (hx : Passes CX X E) :
    OpR X (compareOp .In) (rInOwn C sp E) := by
  intro pins s σ H x y v u Q I rx ry h
  obtain ⟨a, dx, fs, rfl, ha, h⟩ := h
  cases ry
  obtain ⟨mA, J, _⟩ := ins_get I.hok ha
  obtain ⟨od, J, _⟩ := J.look
  obtain ⟨m, hF⟩ := I.fr
  refine PySem.W.in_K hF I.ok.mod.kin J hs hf (wpAny_mono (own_call F hb hx ⟨hr, rfl⟩ I rx h) (fun r s' q => ?_) fun _ _ z => z)
  obtain ⟨b, H', rfl, I', q⟩ := q
  exact wpAny_truthy_bool ⟨.bl b, H', I', rfl, q⟩
theorem op_notInOwn (F : FnOk X.prog X.w X.K X.mg X.base CX n f fd ps sp) (hr : Room n X.A) (hs : PySem.W.findIn X.K (.ref C) "__contains__" = some (some (.ref f))) (hf : PySem.W.isFn X.K (.ref f) = true) (hb : Binds X.K fd ps []) (hx : Passes CX X E) :
    OpR X (compareOp .NotIn) (rNotInOwn C sp E) := by
  intro pins s σ H x y v u Q I rx ry h
  obtain ⟨a, dx, fs, rfl, ha, h⟩ := h
  cases ry
  obtain ⟨mA, J, _⟩ := ins_get I.hok ha
  obtain ⟨od, J, _⟩ := J.look
  obtain ⟨m, hF⟩ := I.fr
  refine PySem.W.notIn_K hF I.ok.mod.kin J hs hf (wpAny_mono (own_call F hb hx ⟨hr, rfl⟩ I rx h) (fun r s' q => ?_) fun _ _ z => z)
  obtain ⟨b, H', rfl, I', q⟩ := q
  exact wpAny_truthy_bool ⟨.bl (!b), H', I', rfl, q⟩
/-- the type of the right one, seen by the model -/
def TyR (K : PySem.W.Frag) (H : Hp) (y : V) (tb : Value) : Prop := TyX K H y tb ∨ ∃ a C dx fs, y = .ref a ∧ H a = some (.ins C dx fs) ∧ tb = .ref C
theorem TyR.looks {pins : List (Addr × Obj)} {σ : L2.St} {H : Hp} {s : Shared} {y : V} {u tb : Value} (t : TyR X.K H y tb) (I : Inv X pins σ H s) (ry : RelV y u) : PySem.W.Looks (model X.prog X.w) s.heap (typeOf u) tb := by
  rcases t with t | ⟨a, C, dx, fs, rfl, ha, rfl⟩
  · obtain ⟨Pq, Z, p, _⟩ := kit_of I ry t
    exact Z.ty _ _ I.kIn p
  · cases ry
    obtain ⟨mA, J, _⟩ := ins_get I.hok ha
    obtain ⟨od, J, _⟩ := J.look
    exact J.type
def rEqOwn (K : PySem.W.Frag) (C : Addr) (sp : Sp) (E : XK) : R2 := fun x y H Q => ∃ a dx fs tb, x = .ref a ∧ H a = some (.ins C dx fs) ∧ TyR K H y tb ∧ PySem.W.notFirst K C tb = true ∧ sp [.ref a, y] H (fun v H' => ∃ b, v = .bl b ∧ Q (.bl b) H') E
def rNeOwn (K : PySem.W.Frag) (C : Addr) (sp : Sp) (E : XK) : R2 := fun x y H Q => ∃ a dx fs tb, x = .ref a ∧ H a = some (.ins C dx fs) ∧ TyR K H y tb ∧ PySem.W.notFirst K C tb = true ∧ sp [.ref a, y] H (fun v H' => ∃ b, v = .bl b ∧ Q (.bl (!b)) H') E
theorem op_eqOwn (F : FnOk X.prog X.w X.K X.mg X.base CX n f fd ps sp) (hr : Room n X.A) (hs : PySem.W.findIn X.K (.ref C) "__eq__" = some (some (.ref f))) (hf : PySem.W.isFn X.K (.ref f) = true) (hb : Binds X.K fd ps []) (hx : Passes CX X E) :
    OpR X (compareOp .Eq) (rEqOwn X.K C sp E) := by
  intro pins s σ H x y v u Q I rx ry h
  obtain ⟨a, dx, fs, tb, rfl, ha, ty, nf, h⟩ := h
  cases rx
  obtain ⟨mA, J, _⟩ := ins_get I.hok ha
  obtain ⟨od, J, _⟩ := J.look
  obtain ⟨m, hF⟩ := I.fr
  show wpAny (model X.prog X.w) X.A (richCompare .Eq (.ref a) u) (EP X pins σ Q) X.xe s
  refine PySem.W.cmp_K (op := .Eq) hr.units0 hF I.ok.mod.kin J (ty.looks I ry) nf hs hf (wpAny_mono (own_call F hb hx ⟨hr, rfl⟩ I ry h) (fun r s' q => ?_) fun _ _ z => z)
  obtain ⟨b, H', rfl, I', q⟩ := q
  exact ⟨.bl b, H', I', rfl, q⟩
theorem op_neOwn (F : FnOk X.prog X.w X.K X.mg X.base CX n f fd ps sp) (hr : Room (n + 1) X.A) (hs : PySem.W.findIn X.K (.ref C) "__eq__" = some (some (.ref f))) (hf : PySem.W.isFn X.K (.ref f) = true) (hb : Binds X.K fd ps []) (hx : Passes CX X E)
    (hne : PySem.W.findIn X.K (.ref C) "__ne__" = some (some (.builtin "object.__ne__"))) (hm : PySem.W.mroIn X.K C (.type "object") = some true) : OpR X (compareOp .NotEq) (rNeOwn X.K C sp E) := by
  intro pins s σ H x y v u Q I rx ry h
  obtain ⟨a, dx, fs, tb, rfl, ha, ty, nf, h⟩ := h
  cases rx
  obtain ⟨mA, J, _⟩ := ins_get I.hok ha
  obtain ⟨od, J, _⟩ := J.look
  obtain ⟨m, hF⟩ := I.fr
  have hk := I.kIn
  have LT := ty.looks I ry
  have LJ := J.type (M := model X.prog X.w)
  show wpAny (model X.prog X.w) X.A (richCompare .NotEq (.ref a) u) (EP X pins σ Q) X.xe s
  have eq1 : wpAny (model X.prog X.w) X.A.in1 (callSpecialIfBound? (.ref a) "__eq__" [u]) (fun r s' => ∃ b H', r = some (.bool b) ∧ Inv X pins σ H' s' ∧ Q (.bl (!b)) H') X.xe s := by
    refine PySem.W.ifBound_K hk J hs hf (wpAny_mono (own_call F hb hx (Sub.in1 ⟨hr, rfl⟩) I ry h) (fun r s' q => ?_) fun _ _ z => z)
    obtain ⟨b, H', rfl, I', q⟩ := q
    exact ⟨b, H', rfl, I', q⟩
  have one : wpAny (model X.prog X.w) X.A (tryCompare (.ref a) (cmpInfo .NotEq).2.1 u) (fun r s' => ∃ v, r = some v ∧ EP X pins σ Q v s') X.xe s := by
    have hu1 : X.A.in1.units < cLine := (Sub.in1 (X := X) (n := n) ⟨hr, rfl⟩).room.units0
    unfold tryCompare
    refine wpAny_bind (NtL.csib (LJ.andThen (PySem.W.looks_findIn hk hne)) (PySem.F.cmp_object.ne.bind _) ?_)
    refine wpAny_call (codeAny_call_builtin PySem.F.cmp_object.ne.plain PySem.F.cmpEntry_ne (PySem.W.check_slot PySem.F.cmpKind_ne PySem.F.cmpSplit_ne (LJ.andThen (PySem.W.looks_mroIn hk hm)) (PySem.F.cmpArgs_ne _ _) ?_))
    unfold Builtin.«object.__ne__»
    repeat (first
      | with_reducible refine wpAny_cRoomFor hu1 ?_
      | (refine wpAny_bind (m := callSpecialIfBound? (.ref a) (Str.ofString "__eq__") [u]) (wpAny_mono eq1 (fun r s' hr => ?_) fun _ _ e => e))
      | wp_step)
    obtain ⟨b, H', rfl, I', q⟩ := hr
    have fin : ∃ w : Value, w = .bool (!b) ∧ EP X pins σ Q w s' := ⟨_, rfl, .bl (!b), H', I', rfl, q⟩
    obtain ⟨w, ew, fin⟩ := fin
    subst ew
    repeat (first | exact ⟨_, rfl, fin⟩ | exact wpAny_pure ⟨_, rfl, fin⟩ | exact wpAny_truthy_bool fin | (refine wpAny_bind (m := truthy (.bool _)) (wpAny_truthy_bool ?_)) | wp_step)
  unfold richCompare
  simp only [oneThing_ref]
  refine wpAny_holding (wpAny_bind (wpAny_cRoomFor hr.units0 ?_))
  refine wpAny_bind (LJ.here (wpAny_bind (LT.here ?_)))
  split
  · rename_i q
    have e : PySem.W.subIn X.K tb (.ref C) = some false := by
      rcases Bool.or_eq_true_iff.mp nf with e | e
      · rw [beq_iff_eq.mp e] at q; simp at q
      · exact beq_iff_eq.mp e
    refine wpAny_bind ((PySem.W.looks_subIn hk e).here ?_)
    simp only [Bool.false_eq_true, if_false]
    refine wpAny_bind (wpAny_mono one (fun r s' z => ?_) fun _ _ e => e)
    obtain ⟨v, rfl, hq⟩ := z
    exact wpAny_pure hq
  · refine wpAny_bind (wpAny_pure ?_)
    simp only [Bool.false_eq_true, if_false]
    refine wpAny_bind (wpAny_mono one (fun r s' z => ?_) fun _ _ e => e)
    obtain ⟨v, rfl, hq⟩ := z
    exact wpAny_pure hq
end
end Ow

set_option maxRecDepth 100000
set_option maxHeartbeats 4000000
/-! several except clauses, each with or without a name. -/
namespace Tw
open PySem PySem.Spec PyProof.Rows L2
/-- an exception that has been caught, beside the state without it -/
structure Lies (X : Cx) (pins : List (Addr × Obj)) (a : Addr) (B : Heap) (sI : Shared) (σ : L2.St) (H : Hp) (cls : Value) (d : Option Addr) (s : Shared) : Prop where
  I : Inv X pins σ H sI
  nb : ∀ b o, sI.heap.get? b = some o → b ∉ frs X.stack → B.get? b = some o
  up : sI.heap.UpToSlots s.heap
  fl : HandSPX.FlyingZ B (X.env :: X.outer) a (Zc cls d) s.heap
  na : H a = none
  os : s.os = sI.os
  ag : AllBare s.gens
/-- the clauses, one behind the other, keep what is wished -/
def Hnd (X : Cx) (hs : List ExceptHandler) (W : Ends → WX) : Prop := ∀ pins D a B sI σ H cls d s, Lies X pins a B sI σ H cls d s → W D cls d σ H → wpAny (model X.prog X.w) X.A (handleBy (.ref a) X.env hs) (SP X pins D) X.xe s
section
variable {X : Cx} {pins : List (Addr × Obj)} {a : Addr} {B : Heap} {sI s : Shared} {σ : L2.St} {H : Hp} {cls : Value} {d : Option Addr} {W : Ends → WX} {Wout : WX}
theorem Lies.inv (L : Lies X pins a B sI σ H cls d s) : Inv X pins σ H s := L.I.landed L.nb L.fl.1 L.up L.os L.ag
theorem Lies.step (L : Lies X pins a B sI σ H cls d s) {h' : Heap} (fl : HandSPX.FlyingZ B (X.env :: X.outer) a (Zc cls d) h') (up : s.heap.UpToSlots h') : Lies X pins a B sI σ H cls d { s with heap := h' } := ⟨L.I, L.nb, L.up.trans up, fl, L.na, L.os, L.ag⟩
theorem Lies.suite (L : Lies X pins a B sI σ H cls d s) (hf : X.env.frame = some X.env.locals) : ∃ oe vs, s.heap.get? a = some oe ∧ Zc cls d oe ∧ oe.data = .fields vs ∧ Inv (X.suite a ((a, oe) :: (X.pn ++ pins))) [] σ H s := by
  obtain ⟨oe, vs, he, hz, hd⟩ := L.fl.there
  have far : a ∉ frs (X.env :: X.outer) := fun hm => by
    obtain ⟨_, o', e', no⟩ := L.fl.2.2.1.mem hm
    rw [he] at e'
    cases e'
    exact no _ hd
  refine ⟨oe, vs, he, hz, hd, L.inv.suite he hd L.na (fun z => far (List.mem_filterMap.mpr ⟨X.env, List.mem_cons_self, by rw [hf, z]⟩)) fun hm => ?_⟩
  obtain ⟨e, hx, q⟩ := List.mem_filterMap.mp hm
  exact far (List.mem_filterMap.mpr ⟨e, List.mem_cons_of_mem _ hx, q⟩)
theorem hnd_nil (hs : X.stack = X.env :: X.outer) (hf : X.env.frame = some X.env.locals) (tk : Takes X Wout) : Hnd X [] (fun _ => Wout) := by
  intro pins D a B sI σ H cls d s L w
  refine wpAny_handleBy_nil ?_
  obtain ⟨_, _, _, oe, vs, T, _, _, he, _, hd, h1, _⟩ := id L.fl
  unfold PySem.passOn
  refine wpAny_bind (wpAny_field he hd h1 ?_)
  rw [if_neg (show ¬ ((Value.ref T == Value.none) = true) from by simp)]
  have last : wpAny (model X.prog X.w) X.A (setFlight (.ref a) X.env.frame) (fun _ s4 => wpAny (model X.prog X.w) X.A (throw (.ref a) : Sem Flow) (SP X pins D) X.xe s4) X.xe s := by
    rw [hf]
    exact HandSPX.setFlight_upZ L.fl fun h4 held up4 => wpAny_throw (tk _ _ ⟨a, B, sI, pins, σ, H, cls, d, rfl, L.I, L.nb, L.up.trans up4, .inr (.inr (by rw [hs]; exact held)), L.na, L.os, L.ag, w⟩)
  first
    | exact wpAny_bind last
    | exact wpAny_bind (wpAny_pure (wpAny_bind last))
theorem named {x : Str} {c : Value} {np : Pos} {oe : Obj} {Q E : Value → Shared → Prop} (hc : Names X x c) (S : Inv (X.suite a ((a, oe) :: (X.pn ++ pins))) [] σ H s) (q : Q c s) : wpAny (model X.prog X.w) (X.A.mark (some (.ref a))) (eval (.Name x np) X.env) Q E s := by
  obtain ⟨h1, h2, h3 | ⟨h3, h4, h5⟩⟩ := hc
  · exact ld_glob (X := X.suite a ((a, oe) :: (X.pn ++ pins))) S h1 h3 q h2
  · exact ld_blt (X := X.suite a ((a, oe) :: (X.pn ++ pins))) S h1 h3 h4 q h5 h2
def wOne (K : PySem.W.Frag) (c : Value) (ts : Addr → Value → Option Addr → TS) (W : Ends → WX) : Ends → WX := fun D cls d σ H => ∃ b, PySem.W.exmOne K cls c = some b ∧ (b = true → ∀ a, H a = none → ts a cls d D σ H) ∧ (b = false → W D cls d σ H)
def wNm (K : PySem.W.Frag) (c : Value) (i : Nat) (ts : Addr → Value → Option Addr → TS) (W : Ends → WX) : Ends → WX := fun D cls d σ H => ∃ b, PySem.W.exmOne K cls c = some b ∧
  (b = true → ∀ a, H a = none → ts a cls d { nx := fun σ' H' => D.nx (σ'.set i none) H', rt := D.rt, bk := fun σ' H' => D.bk (σ'.set i none) H', ct := fun σ' H' => D.ct (σ'.set i none) H' } (σ.set i (some (.ref a))) H) ∧ (b = false → W D cls d σ H)
theorem hnd_one {x : Str} {c : Value} {ts : Addr → Value → Option Addr → TS} {b₀ : Stmt} {suite : List Stmt} {np pos' : Pos} {hds : List ExceptHandler} (hf : X.env.frame = some X.env.locals) (hc : Names X x c)
    (hsu : ∀ (a : Addr) (oe : Obj) (cls : Value) (d : Option Addr) (pn : List (Addr × Obj)), Zc cls d oe → (∃ vs, oe.data = .fields vs) → PSs (X.suite a ((a, oe) :: pn)) (b₀ :: suite) (ts a cls d)) (r : Hnd X hds W) :
    Hnd X (.ExceptHandler (some (.Name x np)) none (b₀ :: suite) pos' :: hds) (wOne X.K c ts W) := by
  intro pins D a B sI σ H cls d s L ⟨b, hb, yes, no⟩
  obtain ⟨oe, vs, he, hz, hd, S⟩ := L.suite hf
  have ty : PySem.W.Looks (model X.prog X.w) s.heap (typeOf (.ref a)) cls := fun A Q E s k q => wpAny_typeOf_ref (k _ _ he) (by rw [hz.1]; exact q)
  refine wpAny_handleBy_cons (codeAny_handlers_test (named hc S ((PySem.W.exm_one (M := model X.prog X.w) L.inv.kIn ty hb).here ?_))) (by intro q; cases q)
  cases b with
  | false => exact r pins D a B sI σ H cls d s L (no rfl)
  | true =>
    refine codeAny_handlers_suite (HandSPX.lands_againZ L.fl fun h4 fl4 up4 => ?_)
    obtain ⟨oe4, vs4, he4, hz4, hd4, S4⟩ := (L.step fl4 up4).suite hf
    refine wpAny_mono ((hsu a oe4 cls d (X.pn ++ pins) hz4 ⟨_, hd4⟩).run [] _ _ H _ S4 (yes rfl a L.na)) (fun f s6 z => ?_) (fun _ _ z => False.elim z)
    have ok := L.I.ok
    cases f with
    | next => exact let ⟨σ6, H6, S6, q6⟩ := z; ⟨σ6, H6, S6.unsuite ok, q6⟩
    | brk => exact let ⟨σ6, H6, S6, q6⟩ := z; ⟨σ6, H6, S6.unsuite ok, q6⟩
    | cont => exact let ⟨σ6, H6, S6, q6⟩ := z; ⟨σ6, H6, S6.unsuite ok, q6⟩
    | ret u => exact let ⟨v6, σ6, H6, S6, r6, q6⟩ := z; ⟨v6, σ6, H6, S6.unsuite ok, r6, q6⟩
theorem hnd_nm {x n : Str} {c : Value} {i : Nat} {ts : Addr → Value → Option Addr → TS} {b₀ : Stmt} {suite : List Stmt} {np pos' : Pos} {hds : List ExceptHandler} (hf : X.env.frame = some X.env.locals) (hN : X.N.Nodup) (hi : X.N[i]? = some n) (hl : X.env.kindOf n = some .local) (hc : Names X x c)
    (hsu : ∀ (a : Addr) (oe : Obj) (cls : Value) (d : Option Addr) (pn : List (Addr × Obj)), Zc cls d oe → (∃ vs, oe.data = .fields vs) → PSs (X.suite a ((a, oe) :: pn)) (b₀ :: suite) (ts a cls d)) (r : Hnd X hds W) :
    Hnd X (.ExceptHandler (some (.Name x np)) (some n) (b₀ :: suite) pos' :: hds) (wNm X.K c i ts W) := by
  intro pins D a B sI σ H cls d s L ⟨b, hb, yes, no⟩
  obtain ⟨oe, vs, he, hz, hd, S⟩ := L.suite hf
  have ty : PySem.W.Looks (model X.prog X.w) s.heap (typeOf (.ref a)) cls := fun A Q E s k q => wpAny_typeOf_ref (k _ _ he) (by rw [hz.1]; exact q)
  refine wpAny_handleBy_cons (codeAny_handlers_test (named hc S ((PySem.W.exm_one (M := model X.prog X.w) L.inv.kIn ty hb).here ?_))) (by intro q; cases q)
  cases b with
  | false => exact r pins D a B sI σ H cls d s L (no rfl)
  | true =>
    refine codeAny_handlers_suite_as (HandSPX.lands_againZ L.fl fun h4 fl4 up4 => ?_)
    obtain ⟨oe4, vs4, he4, hz4, hd4, S4⟩ := (L.step fl4 up4).suite hf
    refine store_ok (X := X.suite a ((a, oe4) :: (X.pn ++ pins))) (v := .ref a) S4 hN hi (.inl hl) rfl (fun s5 S5 => ?_) (.inr hl)
    refine wpAny_mono ((hsu a oe4 cls d (X.pn ++ pins) hz4 ⟨_, hd4⟩).run [] s5 _ H _ S5 (yes rfl a L.na)) (fun f s6 z => ?_) (fun _ _ z => False.elim z)
    have ok := L.I.ok
    have gone := fun {σ6 : L2.St} {H6 : Hp} {Q : Shared → Prop} (S6 : Inv (X.suite a ((a, oe4) :: (X.pn ++ pins))) [] σ6 H6 s6) (hq : ∀ s7, Inv X pins (σ6.set i none) H6 s7 → Q s7) => gone_ok (M := model X.prog X.w) (A := X.A) (E := X.xe) (pos := pos') (Q := fun _ s7 => Q s7) (S6.unsuite ok) hN hi hl hq
    cases f with
    | next => exact let ⟨σ6, H6, S6, q6⟩ := z; gone S6 fun s7 J => ⟨_, H6, J, q6⟩
    | brk => exact let ⟨σ6, H6, S6, q6⟩ := z; gone S6 fun s7 J => ⟨_, H6, J, q6⟩
    | cont => exact let ⟨σ6, H6, S6, q6⟩ := z; gone S6 fun s7 J => ⟨_, H6, J, q6⟩
    | ret u => exact let ⟨v6, σ6, H6, S6, r6, q6⟩ := z; gone S6 fun s7 J => ⟨v6, _, H6, J, r6, q6⟩
theorem ps_tryW {body : List Stmt} {h₀ : ExceptHandler} {hds : List ExceptHandler} {pos : Pos} {tb : WX → TS} (hs : X.stack = X.env :: X.outer) (hf : X.env.frame = some X.env.locals) (hh : Hnd X (h₀ :: hds) W)
    (hb : ∀ (W : WX) (pn : List (Addr × Obj)) (xe : Value → Shared → Prop), Takes (X.tr pn xe) W → PassesOwn (model X.prog X.w) X.A X.env xe → PSs (X.tr pn xe) body (tb W)) : PS X (.Try body (h₀ :: hds) [] [] pos) (fun D σ H => tb (W D) D σ H) := by
  refine ⟨fun pins s σ H D I h => ?_⟩
  have ok := I.ok
  have hfr : X.A.frames = some (X.env :: X.outer) := by rw [ok.frames, hs]
  refine wpAny_Try_except (wpAny_mono ((hb (W D) (X.pn ++ pins) _ (fun u s' xx => ?_) PassesOwn.looking).run [] s σ H D (I.toTry _) h) (fun f s1 z => ?_) (fun e s1 he => he))
  · obtain ⟨a, B, sI, pins', σ', H', cls, d, rfl, J', nb, up, sky, na, os, ag, w⟩ := xx
    have J : Inv X pins σ' H' sI := J'.ofTry ok
    refine Sky.land Zc.steady hfr hf (by rw [← hs]; exact sky) fun h3 fl3 up3 => ?_
    exact hh pins D a B sI σ' H' cls d { s' with heap := h3 } ⟨J, nb, up.trans up3, fl3, na, os, ag⟩ w
  · cases f with
    | next => exact let ⟨σ', H', J', q⟩ := z; wpAny_execs_nil ⟨σ', H', J'.ofTry ok, q⟩
    | brk => exact let ⟨σ', H', J', q⟩ := z; ⟨σ', H', J'.ofTry ok, q⟩
    | cont => exact let ⟨σ', H', J', q⟩ := z; ⟨σ', H', J'.ofTry ok, q⟩
    | ret u => exact let ⟨v, σ', H', J', r, q⟩ := z; ⟨v, σ', H', J'.ofTry ok, r, q⟩
end
section
variable {X : Cx} {CX : CXT} {k : Nat} {f C : Addr} {fd : FuncData} {ps : List Str} {sp : Sp} {E : L2.St → XK} {x m : Str} {p apos pos : Pos} {e o : Expr} {es : List Expr} {ta : TE} {t : TA}
/-- C(..), what is raised wished for at the slots -/
def tMakeS (C : Addr) (sp : Sp) (E : L2.St → XK) (t : TA) : TE := fun σ H Q => t σ H fun vs H1 => ∀ x dx, H1 x = none → H1 dx = none → dx ≠ x → sp (.ref x :: vs) (upd (upd H1 dx (.own x)) x (.ins C dx [])) (fun v H2 => v = .non ∧ Q (.ref x) H2) (E σ)
theorem pe_makeS (M : Mk X.K C f) (F : FnOk X.prog X.w X.K X.mg X.base CX k f fd ps sp) (hr : Room (k + 1) X.A) (hg : Gl X x) (hm : X.mg x = some (.ref C)) (hb : Binds X.K fd ps []) (hx : ∀ σ, PassesAt CX X σ (E σ))
    (ha : PA X (e :: es) t) (hdb : (x == ("__debug__" : Str)) = false := by decide) (he : starEach (e :: es) X.env = (false, eval e X.env) :: starEach es X.env := by rfl) (hpl : (backTo pos (starEach es X.env)).any (·.1) = false := by rfl) :
    PE X (.Call (.Name x p) (e :: es) [] pos) (tMakeS C sp E t) := by
  refine ⟨fun pins s σ H Q I h => wpAny_Call_Name_kw (ld_glob I hg hm ?_ hdb)⟩
  refine PySem.W.callWith_K (h₀ := X.base) I.ok.mod.kin M.kp (thn (ha.run pos pins s σ H _ I h) fun us s1 ⟨vs, H1, I1, r, q⟩ => ⟨I1.kIn, ?_⟩) he hpl
  have q1 := q (s1.heap.objs.size + 1) s1.heap.objs.size (I1.hok.fresh (Nat.le_succ _)) (I1.hok.fresh (Nat.le_refl _)) (Nat.ne_of_lt (Nat.lt_succ_self _))
  have I2 := Inv.made (C := C) I1
  have r2 : Vals (V.ref (s1.heap.objs.size + 1) :: vs) (Value.ref (s1.heap.objs.size + 1) :: us) := .cons rfl r
  have hl : (Value.ref (s1.heap.objs.size + 1) :: us).length = ps.length := by rw [← r2.length]; exact F.len _ _ _ _ q1
  have b := hb _ _ I2.kIn (by rw [List.append_nil]; exact hl)
  rw [List.append_nil] at b
  refine wpAny_call (make_map (f := f) I1.kIn M.makes M.init (beq_iff_eq.mp M.fn) (codeAny_mono (F.run _ X.stack _ _ _ _ _ _ (E σ) (hr.make C us []) (I2.env0.make C us []) b r2 q1) fun r s' z => ?_))
  cases r with
  | error e => exact hx σ pins _ _ e s' I2 z
  | ok fl =>
    cases fl with
    | ret u => exact let ⟨v, H', I3, rv, ev, q3⟩ := I2.after z; ⟨by subst ev; exact rv, ⟨V.ref (s1.heap.objs.size + 1), H', I3, rfl, q3⟩⟩
    | next => exact z.elim
    | brk => exact z.elim
    | cont => exact z.elim
/-- o.m(..), what is raised wished for at the slots -/
def tMethW (C : Addr) (m : Str) (sp : Sp) (E : L2.St → XK) (ta : TE) (t : TA) : TE := fun σ H Q => ta σ H fun x H1 => ∃ a dx fs, x = .ref a ∧ H1 a = some (.ins C dx fs) ∧ fs.lookup m = none ∧ t σ H1 fun vs H2 => sp (x :: vs) H2 Q (E σ)
theorem pe_methW {pl : Sem Bool} (he : PE X o ta) (c : Cls X.K C) (hm : Meth X.K C m f) (F : FnOk X.prog X.w X.K X.mg X.base CX k f fd ps sp) (hr : Room k X.A) (hb : Binds X.K fd ps []) (hx : ∀ σ, PassesAt CX X σ (E σ)) (ha : PA X (e :: es) t)
    (hst : starEach (e :: es) X.env = (false, eval e X.env) :: starEach es X.env := by rfl) (hpl : (backTo pos (starEach es X.env)).any (·.1) = false := by rfl)
    (ht : eval (.Call (.Attribute o m apos) (e :: es) [] pos) X.env = (do
      let ov ← eval o X.env
      standAt apos.atName
      let (f, first) ← holding [ov] (getMethod ov m pl)
      callWith pos f first (backTo pos (starEach (e :: es) X.env)) (backToKw pos (keywordEach [] X.env))) := by rfl) : PE X (.Call (.Attribute o m apos) (e :: es) [] pos) (tMethW C m sp E ta t) := by
  refine ⟨fun pins s σ H Q I h => PySem.W.methodCall_KW (pl := pl) (thn (he.run pins s σ H _ I h) fun u s1 ⟨x, H1, I1, rx, a, dx, fs, ex, ea, l, q⟩ => ?_) ht⟩
  subst ex
  cases rx
  refine getmeth_ok I1 ea c hm l (PySem.W.callWith_K (first := [.ref a]) (h₀ := X.base) I.ok.mod.kin hm.kp (thn (ha.run pos pins s1 σ H1 _ I1 q) fun us s2 ⟨vs, H2, I2, r, q2⟩ => ⟨I2.kIn, ?_⟩) hst hpl)
  exact run_fnS (us := .ref a :: us) (vs := .ref a :: vs) F hr hb (hx σ) I2 (.cons rfl r) q2
end
end Tw

set_option maxRecDepth 100000
set_option maxHeartbeats 2000000
namespace Dr
open PySem L2 PyProof.Rows
def top (i : Nat) : Stmt := PySem.Challenge.pw_shutbyrings_k02_what_is_a_term.main.body.getD i (.Pass ⟨0, 0, 0, 0⟩)
abbrev sFeed : Stmt := top 21
abbrev sTake : Stmt := top 22
abbrev sPick : Stmt := top 23
structure DTxt (mg : Str → Option Value) : Prop where
  len : mg "len" = none
  max : mg "max" = none
  abs : mg "abs" = none
  int : mg "int" = none
def feedO (x y : Int) : HO := .lst [.int x, .int y]
def spFeed (K : PySem.W.Frag) : Sp := fun vs H Q _ => ∃ (a : Addr) (ns : List Int) (k : Nat), vs = [.ref a, .int (k : Int)] ∧ SqL K H a (ns.map V.int) ∧ k < 1000 ∧
  ∀ (p : Addr) (x y : Int), H p = none → Q (.ref p) (upd H p (feedO x y))
def spTake : Sp := fun vs H Q _ => ∃ (p : Addr) (x y m : Int), vs = [.ref p, .int m] ∧ H p = some (feedO x y) ∧ 0 < m ∧ m < 1000000 ∧
  ∀ (r x' y' : Int), 0 ≤ r → r < m → Q (.int r) (upd H p (feedO x' y'))
section
variable {P : Program} {w : World} {K : PySem.W.Frag} {mg : Str → Option Value} {base : Heap}
theorem scF : FnScope ["script", "k", "cell", "digits", "state"] ["script", "k"] (defScope sFeed) := ⟨rfl, rfl, rfl, by decide +kernel, rfl, by decide +kernel, by decide +kernel⟩
theorem ok_feed {f : Addr} {fd : FuncData} (F : Fun K "_law_feed" "_law_feed" sFeed f fd) (T : DTxt mg) : FnOk P w K mg base CX0 1 f fd ["script", "k"] (spFeed K) := by
  refine F.ok scF (fun vs H Q E h => ?_) (fun cdv A outer s H vs Q E hr h => ?_)
  · obtain ⟨a, ns, k, rfl, _⟩ := h
    rfl
  · obtain ⟨a, ns, k, rfl, hs, hk, q⟩ := h
    refine ⟨_, pss_cons (ps_set (i := 2) scF.nd rfl (Or.inl rfl) (pe_ifExp (pt_cmpR op_lt (pv 1) (pe_callB call_len (by rfl) T.len PySem.boot_len (pa_cons (pv 0) pa_nil)) (nomark _)) (pe_ix ix_list (pv 0) (pv 1) fun _ _ => rfl) (pe_op op_add (pe_op op_mul pe_int (pv 1)) pe_int)))
      (pss_cons (ps_set (i := 3) scF.nd rfl (Or.inl rfl) (pe_callB (call_max2 rfl) (by rfl) T.max boot_max (pa_cons pe_int (pa_cons (pe_op op_sub (pe_callB call_abs (by rfl) T.abs boot_abs (pa_cons (pv 2) pa_nil)) (pe_op op_pow pe_int pe_int)) pa_nil))))
      (pss_cons (ps_set (i := 4) scF.nd rfl (Or.inl rfl) (pe_op op_mod (pe_callTy call_int1 (by rfl) T.int (by decide +kernel) (pa_cons (pe_op op_add (pe_op op_add (pe_op op_mul (pv 2) pe_int) (pe_op op_mul pe_int (pv 1))) pe_int) pa_nil)) pe_int))
      (pss_one (ps_ret (pe_lst (pa_cons (pv 3) (pa_cons (pv 4) pa_nil))))))), ?_⟩
    refine ⟨_, rfl, _, rfl, _, _, rfl, .inl ⟨_, hs, rfl⟩, _, _, rfl, rfl, _, rfl, ?_⟩
    have he : (10 : Int) ^ (18 : Int).toNat = 1000000000000000000 := by decide
    have h7 : CMul 7919 (k : Int) := .inl ⟨by decide, by decide⟩
    have hC : ∀ c : Int, CMul c 6364136223846793005 := fun c => .inr ⟨by decide, by decide⟩
    have hP : CPow 10 18 := ⟨by decide, by decide, by decide⟩
    refine ite2 (fun h1 => ?_) (fun h1 => ?_)
    · have hkl : k < (ns.map V.int).length := by
        have := of_decide_eq_true h1
        omega
      obtain ⟨c, hc⟩ : ∃ c : Int, (ns.map V.int)[k]? = some (V.int c) := by
        rw [List.length_map] at hkl
        exact ⟨ns[k], by rw [List.getElem?_map, List.getElem?_eq_getElem hkl]; rfl⟩
      refine ⟨_, rfl, _, rfl, _, _, _, _, rfl, rfl, hs, atI_nat hc, ?_⟩
      refine ⟨_, rfl, _, rfl, _, _, rfl, rfl, hP, _, _, rfl, rfl, _, _, rfl, ?_⟩
      refine ⟨_, rfl, _, _, rfl, rfl, hC _, _, rfl, _, _, rfl, rfl, h7, _, _, rfl, rfl, _, _, rfl, rfl, .inl ⟨_, rfl, _, _, rfl, rfl, (by show (0 : Int) < 2305843009213693951; decide), ?_⟩⟩
      exact ⟨_, rfl, _, rfl, (by show 2 ≤ sizeLine; decide), fun p hp => q p _ _ hp⟩
    · refine ⟨_, rfl, _, _, rfl, rfl, .inl ⟨by decide, by decide⟩, _, _, rfl, rfl, ?_⟩
      refine ⟨_, rfl, _, rfl, _, _, rfl, rfl, hP, _, _, rfl, rfl, _, _, rfl, ?_⟩
      refine ⟨_, rfl, _, _, rfl, rfl, hC _, _, rfl, _, _, rfl, rfl, h7, _, _, rfl, rfl, _, _, rfl, rfl, .inl ⟨_, rfl, _, _, rfl, rfl, (by show (0 : Int) < 2305843009213693951; decide), ?_⟩⟩
      exact ⟨_, rfl, _, rfl, (by show 2 ≤ sizeLine; decide), fun p hp => q p _ _ hp⟩
theorem scT : FnScope ["feed", "many", "digit"] ["feed", "many"] (defScope sTake) := ⟨rfl, rfl, rfl, by decide +kernel, rfl, by decide +kernel, by decide +kernel⟩
theorem feed0 {H : Hp} {p : Addr} {x y : Int} (h : H p = some (feedO x y)) : SqL K H p [.int x, .int y] := SqL.of h
theorem at0 {x y : Int} : atI [V.int x, V.int y] 0 = some (.int x) := rfl
theorem at1 {x y : Int} : atI [V.int x, V.int y] 1 = some (.int y) := rfl
theorem upd2 {H : Hp} {p : Addr} {o u : HO} : upd (upd H p o) p u = upd H p u := by
  funext b
  by_cases h : b = p
  · subst h
    rw [upd_same, upd_same]
  · rw [upd_ne h, upd_ne h, upd_ne h]
theorem ok_take {f : Addr} {fd : FuncData} (F : Fun K "_law_take" "_law_take" sTake f fd) (T : DTxt mg) : FnOk P w K mg base CX0 1 f fd ["feed", "many"] spTake := by
  refine F.ok scT (fun vs H Q E h => ?_) (fun cdv A outer s H vs Q E hr h => ?_)
  · obtain ⟨p, x, y, m, rfl, _⟩ := h
    rfl
  · obtain ⟨p, x, y, m, rfl, hp, hm0, hm1, q⟩ := h
    refine ⟨_, pss_cons (ps_if (pt_cmpR op_gt (pe_ix ix_list (pv 0) pe_int fun _ _ => rfl) pe_int (nomark _))
        (pss_cons (ps_set (i := 2) scT.nd rfl (Or.inl rfl) (pe_op op_mod (pe_callTy call_int1 (by rfl) T.int (by decide +kernel) (pa_cons (pe_ix ix_list (pv 0) pe_int fun _ _ => rfl) pa_nil)) (pv 1)))
        (pss_cons (ps_asg (pe_op op_fdiv (pe_ix ix_list (pv 0) pe_int fun _ _ => rfl) (pv 1)) (pg_sub (pv 0) pe_int set_list))
        (pss_one (ps_ret (pv 2))))) pss_nil)
      (pss_cons (ps_asg (pe_op op_mod (pe_callTy call_int1 (by rfl) T.int (by decide +kernel) (pa_cons (pe_op op_add (pe_op op_mul (pe_ix ix_list (pv 0) pe_int fun _ _ => rfl) pe_int) pe_int) pa_nil)) pe_int) (pg_sub (pv 0) pe_int set_list))
      (pss_one (ps_ret (pe_op op_mod (pe_callTy call_int1 (by rfl) T.int (by decide +kernel) (pa_cons (pe_op op_fdiv (pe_ix ix_list (pv 0) pe_int fun _ _ => rfl) pe_int) pa_nil)) (pv 1))))), ?_⟩
    have hS := feed0 (K := K) hp
    refine ⟨_, rfl, _, _, _, _, rfl, rfl, hS, at0, _, _, rfl, rfl, _, rfl, ?_⟩
    refine ite2 (fun h1 => ?_) (fun h1 => ?_)
    · refine ⟨_, rfl, _, _, _, _, rfl, rfl, hS, at0, .inl ⟨_, rfl, _, rfl, _, _, rfl, rfl, hm0, ?_⟩⟩
      refine ⟨_, rfl, _, _, _, _, rfl, rfl, hS, at0, _, rfl, _, _, rfl, rfl, ⟨hm0, by omega⟩, ?_⟩
      refine ⟨_, rfl, _, _, _, 0, rfl, rfl, hp, rfl, _, rfl, ?_⟩
      exact q _ _ _ (Int.emod_nonneg _ (by omega)) (Int.emod_lt_of_pos _ hm0)
    · refine ⟨_, rfl, _, _, _, _, rfl, rfl, hS, at1, _, _, rfl, rfl, .inr ⟨by decide, by decide⟩, _, _, rfl, rfl, .inl ⟨_, rfl, _, _, rfl, rfl, (by show (0 : Int) < 2305843009213693951; decide), ?_⟩⟩
      refine ⟨_, rfl, _, _, _, 1, rfl, rfl, hp, rfl, ?_⟩
      refine ⟨_, rfl, _, _, _, _, rfl, rfl, SqL.of upd_same, at1, _, _, rfl, rfl, ⟨by decide, by decide⟩, .inl ⟨_, rfl, _, rfl, _, _, rfl, rfl, hm0, ?_⟩⟩
      exact q _ _ _ (Int.emod_nonneg _ (by omega)) (Int.emod_lt_of_pos _ hm0)
def spPick (K : PySem.W.Frag) : Sp := fun vs H Q _ => ∃ (p : Addr) (x y : Int), H p = some (feedO x y) ∧
  ((∃ (l : Addr) (xs : List V), vs = [.ref p, .ref l] ∧ SqL K H l xs ∧ l ≠ p ∧ 0 < xs.length ∧ xs.length < 1000000 ∧
      ∀ (v : V) (x' y' : Int), v ∈ xs → Q v (upd H p (feedO x' y'))) ∨
   (∃ (z : Str), vs = [.ref p, .str z] ∧ 0 < z.length ∧ z.length < 1000000 ∧
      ∀ (c : Nat) (x' y' : Int), c ∈ z.cps.toList → Q (.str ⟨#[c]⟩) (upd H p (feedO x' y'))))
theorem atI_in {α : Type} {xs : List α} {r : Int} (h0 : 0 ≤ r) (h1 : r < (xs.length : Int)) : ∃ v, atI xs r = some v ∧ v ∈ xs := by
  have h2 : r.toNat < xs.length := by omega
  refine ⟨xs[r.toNat], ?_, List.getElem_mem h2⟩
  unfold atI ixN
  rw [if_pos h0, if_pos h1]
  exact List.getElem?_eq_getElem h2
theorem scK : FnScope ["feed", "some"] ["feed", "some"] (defScope sPick) := ⟨rfl, rfl, rfl, by decide +kernel, rfl, by decide +kernel, by decide +kernel⟩
theorem seq_upd {H : Hp} {l p : Addr} {xs : List V} {o : HO} (h : SqL K H l xs) (n : l ≠ p) : SqL K (upd H p o) l xs := by
  rcases h with (h | ⟨u, h⟩) | h
  · exact .inl (.inl (by rw [upd_ne n]; exact h))
  · exact .inl (.inr ⟨u, by rw [upd_ne n]; exact h⟩)
  · exact .inr h
theorem ok_pick {f fT : Addr} {fd fdT : FuncData} (F : Fun K "_law_pick" "_law_pick" sPick f fd) (T : DTxt mg) (FT : Fun K "_law_take" "_law_take" sTake fT fdT) (bT : Binds K fdT ["feed", "many"] []) (gT : mg "_law_take" = some (.ref fT)) :
    FnOk P w K mg base CX0 2 f fd ["feed", "some"] (spPick K) := by
  have GT : FnOk P w K mg base CX0 1 fT fdT ["feed", "many"] spTake := ok_take FT T
  refine F.ok scK (fun vs H Q E h => ?_) (fun cdv A outer s H vs Q E hr h => ?_)
  · obtain ⟨p, x, y, _, ⟨l, xs, rfl, _⟩ | ⟨z, rfl, _⟩⟩ := h <;> rfl
  · refine ⟨_, pss_one (ps_ret (pe_ix ix_seq (pv 1) (pe_call GT hr (by rfl) gT FT.kp bT .nil pass0 (pa_cons (pv 0) (pa_cons (pe_callB call_len (by rfl) T.len PySem.boot_len (pa_cons (pv 1) pa_nil)) pa_nil))) fun _ _ => rfl)), ?_⟩
    obtain ⟨p, x, y, hp, ⟨l, xs, rfl, hl, hn, h0, h1, q⟩ | ⟨z, rfl, h0, h1, q⟩⟩ := h
    · refine ⟨_, rfl, _, rfl, _, rfl, _, _, rfl, .inl ⟨_, hl, rfl⟩, ?_⟩
      refine ⟨p, x, y, _, rfl, hp, by omega, by omega, fun r x' y' hr0 hr1 => ?_⟩
      have e : r = ((r.toNat : Nat) : Int) := by omega
      have hlt : r.toNat < xs.length := by omega
      refine .inl ⟨_, _, _, _, rfl, rfl, seq_upd hl hn, (by rw [e]; exact atI_nat (List.getElem?_eq_getElem hlt)), ?_⟩
      exact q _ _ _ (List.getElem_mem hlt)
    · refine ⟨_, rfl, _, rfl, _, rfl, _, z.length, rfl, ⟨Nat.le_trans (Nat.le_of_lt h1) (by decide), rfl⟩, ?_⟩
      refine ⟨p, x, y, _, rfl, hp, by omega, by omega, fun r x' y' hr0 hr1 => ?_⟩
      have el : z.length = z.cps.toList.length := by simp [Str.length]
      obtain ⟨c, hc, hm⟩ := atI_in (xs := z.cps.toList) hr0 (by omega)
      exact .inr (.inr ⟨_, _, _, rfl, rfl, Nat.le_trans (Nat.le_of_lt h1) (by decide), hc, q _ _ _ hm⟩)
end
end Dr

set_option maxRecDepth 100000
set_option maxHeartbeats 4000000
namespace Sg
open PySem PySem.Spec PyProof.Rows L2 Dr Gd Er
/-! ### the mirror: values as data -/
def tyD : PyData → String
  | .none => "NoneType" | .bool _ => "bool" | .int _ => "int" | .str _ => "str" | .list _ => "list" | .tuple _ => "tuple" | .dict _ => "dict"
theorem ty_dp {K : PySem.W.Frag} {H : Hp} {v : V} {d : PyData} (h : Dp K H v d) : TyX K H v (.type (tyD d)) := by
  cases h with
  | non => exact .base .non
  | bl b => exact .base (.bl b)
  | int i => exact .base (.int i)
  | str x => exact .base (.str x)
  | lst h _ =>
    rcases h with (h | ⟨o, h⟩) | ⟨o, its, n, e, c, _⟩
    · exact .base (.lst h)
    · exact .base (.frz h)
    · exact .kList e c
  | tup h _ =>
    rcases h with (h | ⟨o, h⟩) | ⟨o, its, n, e, c, _⟩
    · exact .base (.tup h)
    · exact .fTuple h
    · exact .kTuple e c
def isWhole : PyData → Bool
  | .int _ => true
  | _ => false
def wordIn (L z : Str) : Bool := decide (1 ≤ z.length) && (decide (z.length ≤ 8) && z.cps.toList.all fun c => decide (c ∈ L.cps.toList))
def isWord (L : Str) : PyData → Bool
  | .str z => wordIn L z
  | _ => false
def isTup (n : Int) : PyData → Bool
  | .tuple ds => decide ((ds.length : Int) = n)
  | _ => false
abbrev sWhole : Stmt := top 10
abbrev sWord : Stmt := top 11
abbrev sTupOf : Stmt := top 12
structure KTxt (mg : Str → Option Value) : Prop where
  isi : mg "isinstance" = none
  int : mg "int" = none
  bool : mg "bool" = none
  str : mg "str" = none
  tup : mg "tuple" = none
  len : mg "len" = none
  all : mg "all" = none
  ml : ∃ t, mg "MOST_LETTERS" = some (.int 8 t)
def spWhole (K : PySem.W.Frag) : Sp := fun vs H Q _ => ∃ v d, vs = [v] ∧ Dp K H v d ∧ Q (.bl (isWhole d)) H
def spTupOf (K : PySem.W.Frag) : Sp := fun vs H Q _ => ∃ v d n, vs = [v, .int n] ∧ Dp K H v d ∧ Q (.bl (isTup n d)) H
def spWord (K : PySem.W.Frag) : Sp := fun vs H Q _ => ∃ v d L, vs = [v, .str L] ∧ Dp K H v d ∧ (∀ z, d = .str z → z.length ≤ sizeLine) ∧ ∀ H', Same H H' → Q (.bl (isWord L d)) H'
def kB (a b : String) : Option Bool := kitB a b
theorem k_int (d : PyData) : kitB (tyD d) "int" = some (isWhole d || (match d with | .bool _ => true | _ => false)) := by
  cases d
  · exact (by decide +kernel : kitB "NoneType" "int" = some false)
  · exact (by decide +kernel : kitB "bool" "int" = some true)
  · exact (by decide +kernel : kitB "int" "int" = some true)
  · exact (by decide +kernel : kitB "str" "int" = some false)
  · exact (by decide +kernel : kitB "list" "int" = some false)
  · exact (by decide +kernel : kitB "tuple" "int" = some false)
  · exact (by decide +kernel : kitB "dict" "int" = some false)
theorem k_bool (d : PyData) : kitB (tyD d) "bool" = some (match d with | .bool _ => true | _ => false) := by
  cases d
  · exact (by decide +kernel : kitB "NoneType" "bool" = some false)
  · exact (by decide +kernel : kitB "bool" "bool" = some true)
  · exact (by decide +kernel : kitB "int" "bool" = some false)
  · exact (by decide +kernel : kitB "str" "bool" = some false)
  · exact (by decide +kernel : kitB "list" "bool" = some false)
  · exact (by decide +kernel : kitB "tuple" "bool" = some false)
  · exact (by decide +kernel : kitB "dict" "bool" = some false)
theorem k_str (d : PyData) : kitB (tyD d) "str" = some (match d with | .str _ => true | _ => false) := by
  cases d
  · exact (by decide +kernel : kitB "NoneType" "str" = some false)
  · exact (by decide +kernel : kitB "bool" "str" = some false)
  · exact (by decide +kernel : kitB "int" "str" = some false)
  · exact (by decide +kernel : kitB "str" "str" = some true)
  · exact (by decide +kernel : kitB "list" "str" = some false)
  · exact (by decide +kernel : kitB "tuple" "str" = some false)
  · exact (by decide +kernel : kitB "dict" "str" = some false)
theorem k_tup (d : PyData) : kitB (tyD d) "tuple" = some (match d with | .tuple _ => true | _ => false) := by
  cases d
  · exact (by decide +kernel : kitB "NoneType" "tuple" = some false)
  · exact (by decide +kernel : kitB "bool" "tuple" = some false)
  · exact (by decide +kernel : kitB "int" "tuple" = some false)
  · exact (by decide +kernel : kitB "str" "tuple" = some false)
  · exact (by decide +kernel : kitB "list" "tuple" = some false)
  · exact (by decide +kernel : kitB "tuple" "tuple" = some true)
  · exact (by decide +kernel : kitB "dict" "tuple" = some false)
theorem k_list (d : PyData) : kitB (tyD d) "list" = some (match d with | .list _ => true | _ => false) := by
  cases d
  · exact (by decide +kernel : kitB "NoneType" "list" = some false)
  · exact (by decide +kernel : kitB "bool" "list" = some false)
  · exact (by decide +kernel : kitB "int" "list" = some false)
  · exact (by decide +kernel : kitB "str" "list" = some false)
  · exact (by decide +kernel : kitB "list" "list" = some true)
  · exact (by decide +kernel : kitB "tuple" "list" = some false)
  · exact (by decide +kernel : kitB "dict" "list" = some false)
section
variable {P : Program} {w : World} {K : PySem.W.Frag} {mg : Str → Option Value} {base : Heap}
theorem scWh : FnScope ["value"] ["value"] (defScope sWhole) := ⟨rfl, rfl, rfl, by decide +kernel, rfl, by decide +kernel, by decide +kernel⟩
theorem ok_whole {f : Addr} {fd : FuncData} (F : Fun K "is_whole" "is_whole" sWhole f fd) (T : KTxt mg) : FnOk P w K mg base CX0 1 f fd ["value"] (spWhole K) := by
  refine F.ok scWh (fun vs H Q E h => ?_) (fun cdv A outer s H vs Q E hr h => ?_)
  · obtain ⟨v, d, rfl, _⟩ := h
    rfl
  · obtain ⟨v, d, rfl, hd, q⟩ := h
    refine ⟨_, pss_one (ps_ret (pe_and (pe_callB call_isi (by rfl) T.isi (by decide +kernel) (pa_cons (pv 0) (pa_cons (pe_bltn (v := .ty "int") (by rfl) T.int (by decide +kernel) rfl) pa_nil)))
      (pe_one (pe_not (pe_callB call_isi (by rfl) T.isi (by decide +kernel) (pa_cons (pv 0) (pa_cons (pe_bltn (v := .ty "bool") (by rfl) T.bool (by decide +kernel) rfl) pa_nil))))))), ?_⟩
    refine ⟨_, rfl, v, .ty "int", .type (tyD d), .type "int", _, rfl, .ty _, ty_dp hd, kit_ty (k_int d), _, rfl, ?_⟩
    refine ite2 (fun c => ?_) (fun c => ?_)
    · refine ⟨_, rfl, v, .ty "bool", .type (tyD d), .type "bool", _, rfl, .ty _, ty_dp hd, kit_ty (k_bool d), _, rfl, ?_⟩
      cases d <;> first | exact q | (simp [isWhole] at c)
    · cases d <;> first | exact q | (simp [isWhole] at c)
end
end Sg

set_option maxRecDepth 100000
set_option maxHeartbeats 4000000
namespace Sg
open PySem PySem.Spec PyProof.Rows L2 Dr Gd Er Cm
theorem lcYes {σ : L2.St} {H : Hp} {A B : Hp → Prop} (h : A H) : tYes σ H (fun b H3 => if b = true then A H3 else B H3) := by
  show (if true = true then A H else B H)
  rw [if_pos rfl]
  exact h
section
variable {P : Program} {w : World} {K : PySem.W.Frag} {mg : Str → Option Value} {base : Heap}
theorem scTo : FnScope ["value", "many"] ["value", "many"] (defScope sTupOf) := ⟨rfl, rfl, rfl, by decide +kernel, rfl, by decide +kernel, by decide +kernel⟩
theorem ok_tupOf {f : Addr} {fd : FuncData} (F : Fun K "is_tuple_of" "is_tuple_of" sTupOf f fd) (T : KTxt mg) : FnOk P w K mg base CX0 1 f fd ["value", "many"] (spTupOf K) := by
  refine F.ok scTo (fun vs H Q E h => ?_) (fun cdv A outer s H vs Q E hr h => ?_)
  · obtain ⟨v, d, n, rfl, _⟩ := h
    rfl
  · obtain ⟨v, d, n, rfl, hd, q⟩ := h
    refine ⟨_, pss_one (ps_ret (pe_and (pe_callB call_isi (by rfl) T.isi (by decide +kernel) (pa_cons (pv 0) (pa_cons (pe_bltn (v := .ty "tuple") (by rfl) T.tup (by decide +kernel) rfl) pa_nil)))
      (pe_one (pe_cmpR op_eq (pe_callB call_len_seq (by rfl) T.len PySem.boot_len (pa_cons (pv 0) pa_nil)) (pv 1) (nomark _))))), ?_⟩
    refine ⟨_, rfl, v, .ty "tuple", .type (tyD d), .type "tuple", _, rfl, .ty _, ty_dp hd, kit_ty (k_tup d), _, rfl, ?_⟩
    refine ite2 (fun c => ?_) (fun c => ?_)
    · cases d with
      | tuple ds =>
        cases hd with
        | tup h1 h2 =>
          rename_i a xs
          refine ⟨_, rfl, a, _, rfl, .inr h1, _, rfl, rfl, ?_⟩
          rw [dpAll_len h2]
          have e : decide (V.int (ds.length : Int) = V.int n) = isTup n (.tuple ds) := by
            unfold isTup
            congr 1
            exact propext ⟨fun h => by cases h; rfl, fun h => by rw [h]⟩
          rw [e]
          exact q
      | _ => exact absurd c (by simp)
    · cases d <;> first | exact q | (simp at c)
theorem scWo : FnScope ["value", "letters", "letter"] ["value", "letters"] (defScope sWord) := ⟨rfl, rfl, rfl, by decide +kernel, rfl, by decide +kernel, by decide +kernel⟩
theorem ok_word {f : Addr} {fd : FuncData} (F : Fun K "is_word" "is_word" sWord f fd) (T : KTxt mg) : FnOk P w K mg base CX0 1 f fd ["value", "letters"] (spWord K) := by
  obtain ⟨t8, ml⟩ := T.ml
  refine F.ok scWo (fun vs H Q E h => ?_) (fun cdv A outer s H vs Q E hr h => ?_)
  · obtain ⟨v, d, L, rfl, _⟩ := h
    rfl
  · obtain ⟨v, d, L, rfl, hd, hz, q⟩ := h
    refine ⟨_, pss_cons (ps_if (PW.pt (pw_or (pt_not (pt_val (pe_callB call_isi (by rfl) T.isi (by decide +kernel) (pa_cons (pv 0) (pa_cons (pe_bltn (v := .ty "str") (by rfl) T.str (by decide +kernel) rfl) pa_nil)))))
        (pw_or1 (pt_not (pt_chain op_le op_le pe_int (pe_callB call_len_str (by rfl) T.len PySem.boot_len (pa_cons (pv 0) pa_nil)) (pe_glob (v := .int 8) rfl ml ⟨_, rfl⟩)))))) (pss_one (ps_ret pe_bl)) pss_nil)
      (pss_one (ps_ret (pe_callB (cr_all rfl) (by rfl) T.all (by decide +kernel) (pa_cons
        (pe_lc (own := [("letter", 2)]) (g := gName 2) (tt := tYes) rfl scWo.nd (pi_str (pv 0)) (blkOk_by (N := ["value", "letters", "letter"]) (sc := defScope sWord) (by decide +kernel)) (fun _ _ _ _ _ => pg_name (i := 2) scWo.nd rfl (Or.inl rfl)) (fun _ _ _ _ _ => pts_nil) (fun _ _ _ _ _ => pe_cmpR op_in_sign (pv 2) (pv 1) (by rfl))) pa_nil)))), ?_⟩
    refine ⟨_, rfl, v, .ty "str", .type (tyD d), .type "str", _, rfl, .ty _, ty_dp hd, kit_ty (k_str d), _, rfl, ?_⟩
    cases d with
    | str z =>
      cases hd
      refine iteF ?_
      refine ⟨_, rfl, _, rfl, hz z rfl, _, _, rfl, rfl, _, rfl, ?_⟩
      have done : ∀ b : Bool, b = wordIn L z → ∀ H', Same H H' → Q (.bl b) H' := fun b e H' s => by
        rw [e]
        exact q H' s
      have zl : (z.length : Nat) = z.cps.size := rfl
      refine ite2 (fun c1 => ?_) (fun c1 => ?_)
      · refine ⟨_, _, rfl, rfl, _, rfl, ?_⟩
        have c1 := of_decide_eq_true c1
        refine ite2 (fun c2 => ?_) (fun c2 => ?_)
        · exact done _ (by simp [wordIn] at *; omega) H (Same.refl H)
        · have c2 : (z.length : Int) ≤ 8 := by simpa using c2
          refine ⟨_, rfl, z, rfl, fun D hD => ?_⟩
          refine lc_it walk_str (fun i H1 => ∃ bs : List Bool, bs = (z.cps.toList.take i).map (fun c => decide (c ∈ L.cps.toList)) ∧ H1 = upd H D (.lst (bs.map V.bl))) ⟨[], by simp, rfl⟩ (fun _ _ _ _ => trivial) (fun i x H1 H2 hi hp hy => ?_) (fun H1 hp => ?_)
          · obtain ⟨bs, rfl, rfl⟩ := hp
            obtain ⟨rfl, c, hc, rfl⟩ := hy
            refine ⟨rfl, lcYes ?_⟩
            refine ⟨_, rfl, _, rfl, c, L, rfl, rfl, _, upd_same, ?_, (z.cps.toList.take (i + 1)).map (fun c => decide (c ∈ L.cps.toList)), ?_, ?_⟩
            · rw [List.length_map, List.length_map, List.length_take]
              have : i < 8 := by omega
              exact Nat.lt_of_le_of_lt (Nat.min_le_left _ _) (Nat.lt_trans this (by decide))
            · exact rfl
            · rw [upd2]
              have e : z.cps.toList[i]? = some c := by rw [Array.getElem?_toList]; exact hc
              have hi' : i < z.cps.toList.length := by simpa using hi
              rw [List.take_succ, e]
              simp
          · obtain ⟨bs, e, rfl⟩ := hp
            refine ⟨D, bs, rfl, SqL.of upd_same, ?_⟩
            refine done _ ?_ _ (same_upd hD)
            rw [e, List.take_of_length_le (by simp)]
            unfold wordIn
            rw [decide_eq_true (show 1 ≤ z.length by omega), decide_eq_true (show z.length ≤ 8 by omega), Bool.true_and, Bool.true_and, List.all_map]
            rfl
      · exact ⟨_, rfl, iteT (done _ (by simp [wordIn] at *; omega) H (Same.refl H))⟩
    | _ => exact iteT (q H (Same.refl H))
end
end Sg

set_option maxRecDepth 100000
set_option maxHeartbeats 4000000
namespace Sg
open PySem PySem.Spec PyProof.Rows L2 Dr Gd Er Cm
abbrev sIsSign : Stmt := top 17
def Lc : Str := "abcdefghijklmnopqrstuvwxyz"
def isAr : PyData → Bool
  | .int n => decide (0 ≤ n) && decide (n ≤ 3)
  | _ => false
def isSign : PyData → Bool
  | .tuple ds => (match ds with
    | [x, y] => isWord Lc x && isAr y
    | _ => false)
  | _ => false
/-- texts that stand first in pairs are no longer than a line -/
def Short : PyData → Prop
  | .tuple [.str z, _] => z.length ≤ sizeLine
  | _ => True
structure Kn (K : PySem.W.Frag) (mg : Str → Option Value) (f1 f2 f3 : Addr) (d1 d2 d3 : FuncData) : Prop where
  t : KTxt mg
  F1 : Fun K "is_whole" "is_whole" sWhole f1 d1
  F2 : Fun K "is_word" "is_word" sWord f2 d2
  F3 : Fun K "is_tuple_of" "is_tuple_of" sTupOf f3 d3
  g1 : mg "is_whole" = some (.ref f1)
  g2 : mg "is_word" = some (.ref f2)
  g3 : mg "is_tuple_of" = some (.ref f3)
  sm : ∃ t, mg "SMALL" = some (.str Lc t)
  ma : ∃ t, mg "MOST_ARGUMENTS" = some (.int 3 t)
section
variable {P : Program} {w : World} {K : PySem.W.Frag} {mg : Str → Option Value} {base : Heap} {f1 f2 f3 : Addr} {d1 d2 d3 : FuncData}
theorem Kn.b1 (k : Kn K mg f1 f2 f3 d1 d2 d3) : Binds K d1 ["value"] [] := k.F1.binds fun _ _ _ _ _ _ us hl => match us, hl with | [_], _ => rfl
theorem Kn.b2 (k : Kn K mg f1 f2 f3 d1 d2 d3) : Binds K d2 ["value", "letters"] [] := k.F2.binds fun _ _ _ _ _ _ us hl => match us, hl with | [_, _], _ => rfl
theorem Kn.b3 (k : Kn K mg f1 f2 f3 d1 d2 d3) : Binds K d3 ["value", "many"] [] := k.F3.binds fun _ _ _ _ _ _ us hl => match us, hl with | [_, _], _ => rfl
theorem scIs : FnScope ["value"] ["value"] (defScope sIsSign) := ⟨rfl, rfl, rfl, by decide +kernel, rfl, by decide +kernel, by decide +kernel⟩
def spIsSign (K : PySem.W.Frag) : Sp := fun vs H Q _ => ∃ v d, vs = [v] ∧ Dp K H v d ∧ Short d ∧ ∀ H', Same H H' → Q (.bl (isSign d)) H'
theorem ok_isSign {f : Addr} {fd : FuncData} (F : Fun K "_is_sign" "_is_sign" sIsSign f fd) (T : Kn K mg f1 f2 f3 d1 d2 d3) : FnOk P w K mg base CX0 2 f fd ["value"] (spIsSign K) := by
  obtain ⟨tS, mS⟩ := T.sm
  obtain ⟨tA, mA⟩ := T.ma
  refine F.ok scIs (fun vs H Q E h => ?_) (fun cdv A outer s H vs Q E hr h => ?_)
  · obtain ⟨v, d, rfl, _⟩ := h
    rfl
  · obtain ⟨v, d, rfl, hd, hs, q⟩ := h
    refine ⟨_, pss_cons (ps_if (PW.pt (pw_or (pt_not (pt_val (pe_call (ok_tupOf T.F3 T.t) hr rfl T.g3 T.F3.kp T.b3 .nil pass0 (pa_cons (pv 0) (pa_cons pe_int pa_nil)))))
        (pw_or1 (pt_not (pt_val (pe_call (ok_word T.F2 T.t) hr rfl T.g2 T.F2.kp T.b2 .nil pass0 (pa_cons (pe_ix ix_tup (pv 0) pe_int fun _ _ => rfl) (pa_cons (pe_glob (v := .str Lc) rfl mS ⟨_, rfl⟩) pa_nil)))))))) (pss_one (ps_ret pe_bl)) pss_nil)
      (pss_one (ps_ret (pe_and (pe_call (ok_whole T.F1 T.t) hr rfl T.g1 T.F1.kp T.b1 .nil pass0 (pa_cons (pe_ix ix_tup (pv 0) pe_int fun _ _ => rfl) pa_nil))
        (pe_one (pe_chain op_le op_le pe_int (pe_ix ix_tup (pv 0) pe_int fun _ _ => rfl) (pe_glob (v := .int 3) rfl mA ⟨_, rfl⟩)))))), ?_⟩
    refine ⟨_, rfl, v, d, 2, rfl, hd, _, rfl, ?_⟩
    have no : isTup 2 d = false → isSign d = false := fun e => by
      cases d with
      | tuple ds =>
        match ds with
        | [] => rfl
        | [_] => rfl
        | [x, y] => simp [isTup] at e
        | _ :: _ :: _ :: _ => rfl
      | _ => rfl
    refine ite2 (fun c => ?_) (fun c => ?_)
    · have c : isTup 2 d = false := by simpa using c
      have z := q H (Same.refl H)
      rw [no c] at z
      exact z
    · cases d with
      | tuple ds =>
        match ds, hd, c with
        | [x, y], hd, _ =>
          cases hd with
          | tup h1 h2 =>
            rename_i a xs
            cases h2 with
            | cons hx h2 =>
              cases h2 with
              | cons hy h2 =>
                cases h2
                rename_i vx vy
                refine ⟨_, rfl, a, _, 0, vx, rfl, rfl, h1, rfl, ?_⟩
                refine ⟨vx, x, Lc, rfl, hx, (fun z e => by subst e; exact hs), fun H1 s1 => ⟨_, rfl, ?_⟩⟩
                refine ite2 (fun c2 => ?_) (fun c2 => ?_)
                · have c2 : isWord Lc x = false := by simpa using c2
                  have z := q H1 s1
                  have e : isSign (.tuple [x, y]) = false := by
                    show (isWord Lc x && isAr y) = false; rw [c2]; rfl
                  rw [e] at z
                  exact z
                · have c2 : isWord Lc x = true := by simpa using c2
                  have e : isSign (.tuple [x, y]) = isAr y := by
                    show (isWord Lc x && isAr y) = _; rw [c2]; rfl
                  have q := fun H' (s : Same H H') => q H' s
                  rw [e] at q
                  refine ⟨_, rfl, a, _, 1, vy, rfl, rfl, seqT_same s1 h1, rfl, ?_⟩
                  refine ⟨vy, y, rfl, dp_same s1 _ _ hy, _, rfl, ?_⟩
                  refine ite2 (fun c3 => ?_) (fun c3 => ?_)
                  · cases y with
                    | int n =>
                      cases hy
                      refine ⟨_, rfl, a, _, 1, _, rfl, rfl, seqT_same s1 h1, rfl, ?_⟩
                      refine ⟨_, _, rfl, rfl, _, rfl, ?_⟩
                      refine ite2 (fun c4 => ?_) (fun c4 => ?_)
                      · refine ⟨_, _, rfl, rfl, ?_⟩
                        have z := q H1 s1
                        rw [show isAr (.int n) = decide (n ≤ 3) from by show (decide (0 ≤ n) && decide (n ≤ 3)) = _; rw [show decide (0 ≤ n) = true from c4]; rfl] at z
                        exact z
                      · have z := q H1 s1
                        rw [show isAr (.int n) = false from by show (decide (0 ≤ n) && decide (n ≤ 3)) = _; rw [show decide (0 ≤ n) = false from by simpa using c4]; rfl] at z
                        exact z
                    | _ => cases c3
                  · have z := q H1 s1
                    rw [show isAr y = false from by cases y <;> first | rfl | exact absurd rfl c3] at z
                    exact z
      | _ => exact absurd rfl c
end
end Sg

set_option maxRecDepth 100000
set_option maxHeartbeats 4000000
namespace Sg
open PySem PySem.Spec PyProof.Rows L2 Dr Gd Er Cm
abbrev sSigns : Stmt := top 16
/-- all but x as it was -/
def SameX (x : Addr) (H H' : Hp) : Prop := ∀ b o, H b = some o → b ≠ x → H' b = some o
theorem SameX.refl (x : Addr) (H : Hp) : SameX x H H := fun _ _ h _ => h
theorem SameX.trans {x : Addr} {H H1 H2 : Hp} (a : SameX x H H1) (b : SameX x H1 H2) : SameX x H H2 := fun c o h n => b c o (a c o h n) n
theorem Same.x {x : Addr} {H H' : Hp} (s : Same H H') : SameX x H H' := fun b o h _ => s b o h
theorem SameX.upd {x : Addr} {H H1 : Hp} {o : HO} (s : SameX x H H1) : SameX x H (L2.upd H1 x o) := fun b u h n => by
  rw [upd_ne n]; exact s b u h n
theorem SameX.new {x p : Addr} {H H1 : Hp} {o : HO} (s : SameX x H H1) (hp : H p = none) : SameX x H (L2.upd H1 p o) := fun b u h n => by
  rw [upd_ne (ne_of_none h hp)]; exact s b u h n
structure SeqK (K : PySem.W.Frag) (H H' : Hp) : Prop where
  l : ∀ a xs, SqL K H a xs → SqL K H' a xs
  t : ∀ a xs, SqT K H a xs → SqT K H' a xs
mutual
theorem dp_seq {K : PySem.W.Frag} {H H' : Hp} (s : SeqK K H H') : ∀ (d : PyData) (v : V), Dp K H v d → Dp K H' v d
  | .none, _, h => by cases h; exact .non
  | .bool b, _, h => by cases h; exact .bl b
  | .int i, _, h => by cases h; exact .int i
  | .str x, _, h => by cases h; exact .str x
  | .list ds, _, h => by
    cases h with
    | lst h1 h2 => exact .lst (s.l _ _ h1) (dpAll_seq s ds _ h2)
  | .tuple ds, _, h => by
    cases h with
    | tup h1 h2 => exact .tup (s.t _ _ h1) (dpAll_seq s ds _ h2)
  | .dict kvs, _, h => by cases h
theorem dpAll_seq {K : PySem.W.Frag} {H H' : Hp} (s : SeqK K H H') : ∀ (ds : List PyData) (vs : List V), DpAll K H vs ds → DpAll K H' vs ds
  | [], _, h => by cases h; exact .nil
  | d :: ds, _, h => by
    cases h with
    | cons a b => exact .cons (dp_seq s d _ a) (dpAll_seq s ds _ b)
end
theorem SameX.seqK {K : PySem.W.Frag} {x C dx : Addr} {fs : List (Str × V)} {H H' : Hp} (s : SameX x H H') (hx : H x = some (.ins C dx fs)) : SeqK K H H' := by
  refine ⟨fun a xs h => ?_, fun a xs h => ?_⟩
  · rcases h with (h | ⟨o, h⟩) | h
    · exact .inl (.inl (s _ _ h (ne_of h hx (by intro z; cases z))))
    · exact .inl (.inr ⟨o, s _ _ h (ne_of h hx (by intro z; cases z))⟩)
    · exact .inr h
  · rcases h with (h | ⟨o, h⟩) | h
    · exact .inl (.inl (s _ _ h (ne_of h hx (by intro z; cases z))))
    · exact .inl (.inr ⟨o, s _ _ h (ne_of h hx (by intro z; cases z))⟩)
    · exact .inr h
/-! ### what a list of pairs makes -/
inductive Res where
  | ok (ps : List (Str × Int))
  | bad (i : Nat)
def prOf : PyData → Str × Int
  | .tuple ds => (match ds with
    | [.str z, .int n] => (z, n)
    | _ => ("", 0))
  | _ => ("", 0)
def hasN (ps : List (Str × Int)) (z : Str) : Bool := ps.any fun p => decide (p.1 = z)
def build : List PyData → List (Str × Int) → Nat → Res
  | [], acc, _ => .ok acc
  | d :: r, acc, i => if isSign d && !hasN acc (prOf d).1 then build r (acc ++ [prOf d]) (i + 1) else .bad i
def kvsOf (ps : List (Str × Int)) : List (Key × V) := ps.map fun p => (Sum.inr p.1, V.int p.2)
def SgAt (C : Addr) (H : Hp) (x : Addr) (ps : List (Str × Int)) : Prop := ∃ dx d, H x = some (.ins C dx [("_arities", .ref d)]) ∧ H d = some (.dK (kvsOf ps))
theorem isSign_pr {d : PyData} (h : isSign d = true) : ∃ z n, d = .tuple [.str z, .int n] ∧ prOf d = (z, n) ∧ wordIn Lc z = true ∧ 0 ≤ n ∧ n ≤ 3 := by
  cases d with
  | tuple ds =>
    match ds, h with
    | [x, y], h =>
      have h : (isWord Lc x && isAr y) = true := h
      rw [Bool.and_eq_true] at h
      obtain ⟨h1, h2⟩ := h
      cases x with
      | str z =>
        cases y with
        | int n =>
          have h2 : (decide (0 ≤ n) && decide (n ≤ 3)) = true := h2
          rw [Bool.and_eq_true] at h2
          exact ⟨z, n, rfl, rfl, h1, of_decide_eq_true h2.1, of_decide_eq_true h2.2⟩
        | _ => cases h2
      | _ => cases h1
  | _ => cases h
theorem kvs_val (ps : List (Str × Int)) (z : Str) : (valV (kvsOf ps) (Sum.inr z)).isSome = hasN ps z := by
  rw [← valV_any]
  unfold kvsOf hasN
  rw [List.any_map]
  congr 1
  funext p
  simp only [Function.comp]
  exact decide_eq_decide.mpr ⟨fun h => by injection h, fun h => by rw [h]⟩
theorem kvs_put {ps : List (Str × Int)} {z : Str} {n : Int} (h : hasN ps z = false) : putK (kvsOf ps) (Sum.inr z) (.int n) = kvsOf (ps ++ [(z, n)]) := by
  have e : valV (kvsOf ps) (Sum.inr z) = none := by
    have := kvs_val ps z
    rw [h] at this
    cases q : valV (kvsOf ps) (Sum.inr z) with
    | none => rfl
    | some v => rw [q] at this; cases this
  rw [putK_new _ e]
  unfold kvsOf
  rw [List.map_append]
  rfl
end Sg

set_option maxRecDepth 100000
set_option maxHeartbeats 4000000
namespace Sg
open PySem PySem.Spec PyProof.Rows L2 Dr Gd Er Cm
abbrev sInit : Stmt := inClass sSigns 0
inductive Made where
  | noList
  | count
  | sign (i : Nat)
  | ok (ps : List (Str × Int))
def madeL (ds : List PyData) : Made := if 1 ≤ ds.length ∧ ds.length ≤ 5 then (match build ds [] 0 with
    | .ok ps => .ok ps
    | .bad i => .sign i) else .count
def madeOf : PyData → Made
  | .list ds => madeL ds
  | _ => .noList
def Shorts : PyData → Prop
  | .list ds => ∀ e ∈ ds, Short e
  | _ => True
structure Ke (P : Program) (K : PySem.W.Frag) (mg : Str → Option Value) (cN cC cB cS eN eC eB eS : Addr) : Prop where
  hN : ErrC P K "NoList" none cN eN
  hC : ErrC P K "BadCount" none cC eC
  hB : ErrC P K "BadSign" (some "number") cB eB
  hS : ErrC P K "NoSign" (some "name") cS eS
  gN : mg "NoList" = some (.ref cN)
  gC : mg "BadCount" = some (.ref cC)
  gB : mg "BadSign" = some (.ref cB)
  gS : mg "NoSign" = some (.ref cS)
  rN : PySem.W.subIn K (.ref cN) (.type "BaseException") = some true ∧ PySem.W.typeIn K (.ref cN) = some (.type "type")
  rC : PySem.W.subIn K (.ref cC) (.type "BaseException") = some true ∧ PySem.W.typeIn K (.ref cC) = some (.type "type")
  rB : PySem.W.subIn K (.ref cB) (.type "BaseException") = some true ∧ PySem.W.typeIn K (.ref cB) = some (.type "type")
  rS : PySem.W.subIn K (.ref cS) (.type "BaseException") = some true ∧ PySem.W.typeIn K (.ref cS) = some (.type "type")
  sup : mg "super" = none
  enu : mg "enumerate" = none
  lst : mg "list" = none
  ms : ∃ t, mg "MOST_SIGNS" = some (.int 5 t)
structure SCl (K : PySem.W.Frag) (C : Addr) : Prop where
  cl : Cls K C
  na : NoAttr K C "_arities"
def InitEnd (cN cC cB C : Addr) (H : Hp) (x : Addr) (Q : VK) (E : XK) : Made → Prop
  | .noList => ∀ H', SameX x H H' → E (.ref cN) none H'
  | .count => ∀ H', SameX x H H' → E (.ref cC) none H'
  | .sign i => ∀ H' dd, SameX x H H' → H dd = none → H' dd = some (.xd [("number", .int i)]) → E (.ref cB) (some dd) H'
  | .ok ps => ∀ H', SameX x H H' → SgAt C H' x ps → Q .non H'
def spInit (K : PySem.W.Frag) (cN cC cB C : Addr) : Sp := fun vs H Q E => ∃ x v d dx, vs = [.ref x, v] ∧ H x = some (.ins C dx []) ∧ Dp K H v d ∧ Shorts d ∧ InitEnd cN cC cB C H x Q E (madeOf d)
theorem tyl (d : PyData) : kitB (tyD d) "list" = some (match d with | .list _ => true | _ => false) := k_list d
section
variable {P : Program} {w : World} {K : PySem.W.Frag} {mg : Str → Option Value} {base : Heap} {f1 f2 f3 f4 : Addr} {d1 d2 d3 d4 : FuncData} {cN cC cB cS eN eC eB eS C : Addr}
theorem scInit : FnScope ["self", "pairs", "number", "pair"] ["self", "pairs"] (defScope sInit) := ⟨rfl, rfl, rfl, by decide +kernel, rfl, by decide +kernel, by decide +kernel⟩
theorem ok_init {f : Addr} {fd : FuncData} (F : Fun K "__init__" "Signs.__init__" sInit f fd) (T : Kn K mg f1 f2 f3 d1 d2 d3) (G4 : Fun K "_is_sign" "_is_sign" sIsSign f4 d4) (g4 : mg "_is_sign" = some (.ref f4)) (Z : Ke P K mg cN cC cB cS eN eC eB eS) (S : SCl K C) :
    FnOk P w K mg base (L2.CX P w) 3 f fd ["self", "pairs"] (spInit K cN cC cB C) := by
  obtain ⟨tM, mM⟩ := Z.ms
  have b4 : Binds K d4 ["value"] [] := G4.binds fun _ _ _ _ _ _ us hl => match us, hl with | [_], _ => rfl
  refine F.okX scInit (fun vs H Q E h => ?_) (fun cdv A outer s H vs Q E hr h => ?_)
  · obtain ⟨x, v, d, dx, rfl, _⟩ := h
    rfl
  · obtain ⟨x, v, d, dx, rfl, hx, hd, hs, q⟩ := h
    have hu := hu_of hr
    refine ⟨_, pss_cons (ps_if (pt_not (pt_val (pe_callB call_isi (by rfl) T.t.isi (by decide +kernel) (pa_cons (pv 1) (pa_cons (pe_bltn (v := .ty "list") (by rfl) Z.lst (by decide +kernel) rfl) pa_nil)))))
        (pss_one (ps_raise rfl (takes_of rfl rfl rfl rfl) (pmk_err0 Z.hN Z.sup hr (raises_own Z.rN.1 Z.rN.2) Z.gN))) pss_nil)
      (pss_cons (ps_if (pt_not (pt_chain op_le op_le pe_int (pe_callB call_len_seq (by rfl) T.t.len PySem.boot_len (pa_cons (pv 1) pa_nil)) (pe_glob (v := .int 5) rfl mM ⟨_, rfl⟩)))
        (pss_one (ps_raise rfl (takes_of rfl rfl rfl rfl) (pmk_err0 Z.hC Z.sup hr (raises_own Z.rC.1 Z.rC.2) Z.gC))) pss_nil)
      (pss_cons (ps_fld (pv 0) pe_dnewK rfl)
      (pss_one (ps_for (passes_of rfl) rfl (pi_enum (by rfl) Z.enu (pa_cons (pv 1) pa_nil)) (pg_tup rfl (pgs_cons (pg_name (i := 2) scInit.nd rfl (Or.inl rfl)) (pgs_cons (pg_name (i := 3) scInit.nd rfl (Or.inl rfl)) pgs_nil)))
        (pss_cons (ps_if (PW.pt (pw_or (pt_not (pt_val (pe_call (ok_isSign G4 T) hr rfl g4 G4.kp b4 .nil pass0 (pa_cons (pv 3) pa_nil))))
            (pw_or1 (pt_cmp (pc_din hu (pe_ix ix_tup (pv 3) pe_int fun _ _ => rfl) (pe_fld (pv 0) rfl))))))
          (pss_one (ps_raise rfl (takes_of rfl rfl rfl rfl) (pmk_err1 Z.hB Z.sup hr (raises_own Z.rB.1 Z.rB.2) Z.gB (pv 2)))) pss_nil)
        (pss_one (ps_dput hu (pe_fld (pv 0) rfl) (pe_ix ix_tup (pv 3) pe_int fun _ _ => rfl) (pe_ix ix_tup (pv 3) pe_int fun _ _ => rfl) rfl))))))), ?_⟩
    refine ⟨_, rfl, v, .ty "list", .type (tyD d), .type "list", _, rfl, .ty _, ty_dp hd, kit_ty (k_list d), _, rfl, ?_⟩
    cases d with
    | list ds =>
      cases hd with
      | lst h1 h2 =>
        rename_i a xs
        have hl := dpAll_len h2
        refine iteF ?_
        have q : InitEnd cN cC cB C H x Q E (madeL ds) := q
        refine ⟨_, rfl, a, _, rfl, .inl h1, _, _, rfl, rfl, _, rfl, ?_⟩
        refine ite2 (fun c1 => ?_) (fun c1 => ?_)
        · have c1 := of_decide_eq_true c1
          refine ⟨_, _, rfl, rfl, _, rfl, ?_⟩
          refine ite2 (fun c2 => ?_) (fun c2 => ?_)
          · rw [show madeL ds = .count from if_neg (by simp at c2; omega)] at q
            exact q H (SameX.refl x H)
          · have c2 : (xs.length : Int) ≤ 5 := by simpa using c2
            unfold madeL at q
            rw [if_pos (show 1 ≤ ds.length ∧ ds.length ≤ 5 by omega)] at q
            refine fun dn hdn => ?_
            have hxd : x ≠ dn := ne_of_none hx hdn
            refine ⟨_, rfl, x, C, dx, [], rfl, (by rw [upd_ne hxd]; exact hx), S.cl, S.na, by decide, ?_⟩
            have s0 : SameX x H (L2.upd (L2.upd H dn (.dK [])) x (.ins C dx (putF "_arities" (.ref dn) []))) := ((SameX.refl x H).new hdn).upd
            refine ⟨_, rfl, a, xs, rfl, (s0.seqK hx).l _ _ h1, ?_⟩
            refine for_it (walk_enum (xs := xs)) (fun i σ H' => ∃ acc p r, σ = [some (.ref x), some (.ref a), p, r] ∧ SameX x H H' ∧ build ds [] 0 = build (ds.drop i) acc i ∧ acc.length ≤ i ∧ H' x = some (.ins C dx [("_arities", .ref dn)]) ∧ H' dn = some (.dK (kvsOf acc)))
              ⟨[], none, none, rfl, s0, rfl, Nat.le_refl _, upd_same, by rw [upd_ne hxd.symm, upd_same]; rfl⟩ (fun i σ H' hi hp => ?_) (fun i y σ H' H2 hi hp hy => ?_) (fun σ H' hp => ?_)
            · obtain ⟨acc, p, r, rfl, s1, _⟩ := hp
              exact (s1.seqK hx).l _ _ h1
            · obtain ⟨acc, p, r, rfl, s1, hb, hal, h3, h4⟩ := hp
              obtain ⟨T, n, z, rfl, hT, rfl, e1, e2⟩ := hy
              cases e1
              have hTn : x ≠ T := ne_of_none h3 hT
              have hTd : dn ≠ T := ne_of_none h4 hT
              have s2 : SameX x H (L2.upd H' T (.tup [.int (i : Nat), z])) := fun b o e n => by
                have := s1 b o e n
                rw [upd_ne (ne_of_none this hT)]
                exact this
              obtain ⟨dz, e3, hz⟩ := dpAll_get' h2 e2
              have e4 : ds.drop i = dz :: ds.drop (i + 1) := by
                obtain ⟨h, e⟩ := List.getElem?_eq_some_iff.mp e3
                rw [List.drop_eq_getElem_cons h, e]
              rw [e4] at hb
              refine ⟨T, _, rfl, SqT.of upd_same, rfl, ?_⟩
              refine ⟨_, _, rfl, _, _, rfl, rfl, ?_⟩
              have q' := q
              rw [hb] at q
              refine ⟨_, rfl, z, dz, rfl, dp_seq (s2.seqK hx) _ _ hz, hs dz (List.mem_of_getElem? e3), fun H3 s3 => ⟨_, rfl, ?_⟩⟩
              have s4 : SameX x H H3 := s2.trans (Same.x s3)
              have h5 : H3 x = some (.ins C dx [("_arities", .ref dn)]) := s3 _ _ (by rw [upd_ne hTn]; exact h3)
              have h6 : H3 dn = some (.dK (kvsOf acc)) := s3 _ _ (by rw [upd_ne hTd]; exact h4)
              have fail : (isSign dz && !hasN acc (prOf dz).1) = false → ∀ d, H3 d = none → E (.ref cB) (some d) (L2.upd H3 d (.xd [("number", .int (i : Nat))])) := fun e d hd => by
                have e5 : build (dz :: ds.drop (i + 1)) acc i = .bad i := by
                  unfold build
                  rw [if_neg (by rw [e]; simp)]
                rw [e5] at q
                exact q _ d (fun b o e n => by rw [upd_ne (ne_of_none (s4 b o e n) hd)]; exact s4 b o e n) (by
                  cases z : H d with
                  | none => rfl
                  | some o =>
                    by_cases hxx : d = x
                    · subst hxx; rw [h5] at hd; cases hd
                    · rw [s4 d o z hxx] at hd; cases hd) upd_same
              refine ite2 (fun c3 => ?_) (fun c3 => ?_)
              · have c3 : isSign dz = false := by simpa using c3
                exact ⟨_, rfl, fail (by rw [c3]; rfl)⟩
              · have c3 : isSign dz = true := by simpa using c3
                obtain ⟨zz, nn, rfl, epr, hw, hn0, hn3⟩ := isSign_pr c3
                cases hz with
                | tup g1 g2 =>
                  rename_i tz xz
                  cases g2 with
                  | cons gx g2 =>
                    cases g2 with
                    | cons gy g2 =>
                      cases g2
                      cases gx
                      cases gy
                      have g1 := (s4.seqK hx).t _ _ g1
                      refine ⟨_, rfl, tz, _, 0, .str zz, rfl, rfl, g1, rfl, ?_⟩
                      refine ⟨_, rfl, x, C, dx, _, .ref dn, rfl, h5, S.cl, S.na, rfl, ?_⟩
                      refine ⟨dn, _, rfl, DGet.k (k := Sum.inr zz) h6, _, rfl, ?_⟩
                      rw [kvs_val]
                      refine ite2 (fun c4 => ?_) (fun c4 => ?_)
                      · exact ⟨_, rfl, fail (by rw [c3, epr, c4]; rfl)⟩
                      · have c4 : hasN acc zz = false := by simpa using c4
                        refine ⟨_, rfl, tz, _, 1, .int nn, rfl, rfl, g1, rfl, ?_⟩
                        refine ⟨_, rfl, x, C, dx, _, .ref dn, rfl, h5, S.cl, S.na, rfl, ?_⟩
                        refine ⟨_, rfl, tz, _, 0, .str zz, rfl, rfl, g1, rfl, ?_⟩
                        have hi5 : acc.length < sizeLine := by
                          have : acc.length < 1000 := by omega
                          exact Nat.lt_trans this (by decide)
                        refine ⟨dn, _, rfl, DPut.k (k := Sum.inr zz) h6 (by unfold kvsOf; rw [List.length_map]; exact hi5), ?_⟩
                        refine ⟨acc ++ [(zz, nn)], _, _, rfl, ?_, ?_, ?_, ?_, ?_⟩
                        · exact s4.new hdn
                        · rw [hb]
                          conv => lhs; unfold build
                          rw [if_pos (by rw [c3, epr, c4]; rfl), epr]
                        · rw [List.length_append]
                          exact Nat.succ_le_succ hal
                        · rw [upd_ne hxd]; exact h5
                        · rw [upd_same, kvs_put c4]
            · obtain ⟨acc, p, r, rfl, s1, hb, hal, h3, h4⟩ := hp
              have e : build ds [] 0 = .ok acc := by
                rw [hb, hl, List.drop_length]
                unfold build
                rfl
              rw [e] at q
              exact q H' s1 ⟨dx, dn, h3, h4⟩
        · rw [show madeL ds = .count from if_neg (by simp at c1; omega)] at q
          exact ⟨_, rfl, iteT (q H (SameX.refl x H))⟩
    | _ => exact iteT (q H (SameX.refl x H))
end
end Sg

set_option maxRecDepth 100000
set_option maxHeartbeats 4000000
namespace Sg
open PySem PySem.Spec PyProof.Rows L2 Dr Gd Er Cm
abbrev sNames : Stmt := inClass sSigns 1
abbrev sWays : Stmt := inClass sSigns 2
abbrev sArity : Stmt := inClass sSigns 3
abbrev sHas : Stmt := inClass sSigns 4
abbrev sLen : Stmt := inClass sSigns 5
abbrev sEq : Stmt := inClass sSigns 6
def hasD (ps : List (Str × Int)) : PyData → Bool
  | .str z => hasN ps z
  | _ => false
def arOf (ps : List (Str × Int)) (z : Str) : Option Int := (ps.find? fun p => decide (p.1 = z)).map (·.2)
def arD (ps : List (Str × Int)) : PyData → Option Int
  | .str z => arOf ps z
  | _ => none
theorem kvs_valI (ps : List (Str × Int)) (z : Str) : valV (kvsOf ps) (Sum.inr z) = (arOf ps z).map V.int := by
  induction ps with
  | nil => rfl
  | cons p r ih =>
    by_cases h : p.1 = z
    · have e : arOf (p :: r) z = some p.2 := by unfold arOf; rw [List.find?_cons_of_pos (by simp [h])]; rfl
      rw [e]
      unfold kvsOf valV
      simp [h]
    · have e : arOf (p :: r) z = arOf r z := by unfold arOf; rw [List.find?_cons_of_neg (by simp [h])]
      rw [e, ← ih]
      unfold kvsOf valV
      simp [h]
theorem arOf_has (ps : List (Str × Int)) (z : Str) : (arOf ps z).isSome = hasN ps z := by
  rw [← kvs_val, kvs_valI]
  cases arOf ps z <;> rfl
def psD (ps : List (Str × Int)) : PyData := .list (ps.map fun p => .tuple [.str p.1, .int p.2])
theorem psD_eqvAll : ∀ ps qs : List (Str × Int), PyData.eqvAll (ps.map fun p => .tuple [.str p.1, .int p.2]) (qs.map fun p => .tuple [.str p.1, .int p.2]) = decide (ps = qs)
  | [], [] => rfl
  | [], _ :: _ => rfl
  | _ :: _, [] => rfl
  | p :: ps, q :: qs => by
    show (PyData.eqv (.tuple [.str p.1, .int p.2]) (.tuple [.str q.1, .int q.2]) && _) = _
    rw [psD_eqvAll ps qs]
    obtain ⟨a, b⟩ := p
    obtain ⟨c, d⟩ := q
    show (((a == c) && ((b == d) && true)) && decide (ps = qs)) = decide ((a, b) :: ps = (c, d) :: qs)
    rw [Bool.and_true]
    by_cases h1 : a = c <;> by_cases h2 : b = d <;> by_cases h3 : ps = qs <;> simp [h1, h2, h3]
theorem psD_eqv (ps qs : List (Str × Int)) : PyData.eqv (psD ps) (psD qs) = decide (ps = qs) := psD_eqvAll ps qs
def OkNames (ps : List (Str × Int)) : Prop := ∀ p ∈ ps, PyData.strOk p.1 = true
theorem psD_lay : ∀ ps : List (Str × Int), OkNames ps → PyData.canLayAll0 (ps.map fun p => .tuple [.str p.1, .int p.2]) = true
  | [], _ => rfl
  | p :: ps, h => by
    show (PyData.canLay0 (.tuple [.str p.1, .int p.2]) && _) = true
    rw [psD_lay ps fun q hq => h q (List.mem_cons_of_mem _ hq)]
    show ((PyData.strOk p.1 && (true && true)) && true) = true
    rw [h p List.mem_cons_self]
    rfl
theorem psD_dep : ∀ ps : List (Str × Int), PyData.depthAll (ps.map fun p => .tuple [.str p.1, .int p.2]) ≤ 2
  | [] => by simp [PyData.depthAll]
  | p :: ps => by
    have := psD_dep ps
    simp only [List.map_cons, PyData.depthAll]
    refine Nat.max_le.mpr ⟨?_, this⟩
    simp [PyData.depth, PyData.depthAll]
theorem psD_shaped {ps : List (Str × Int)} (h : OkNames ps) : SeqAt.shaped (psD ps) = true := by
  unfold SeqAt.shaped
  rw [Bool.and_eq_true]
  refine ⟨psD_lay ps h, decide_eq_true ?_⟩
  have := psD_dep ps
  show PyData.depth (.list _) ≤ 64
  simp only [PyData.depth]
  omega
/-- further facts of the class -/
structure SClx (K : PySem.W.Frag) (C : Addr) : Prop extends SCl K C where
  ca : PySem.W.findIn K (.ref C) "__class__" = some (some (.builtin "object.__class__"))
  cg : PySem.W.specialIn K (.builtin "object.__class__") "__get__" = some (some (.builtin "getset_descriptor.__get__"))
  ct : PySem.W.takesIn K (.builtin "object.__class__") = some true
  cm : PySem.W.mroIn K C (.type "object") = some true
  kC : PySem.W.kitOne K (.ref C) (.ref C) = some true
  kL : PySem.W.kitOne K (.type "list") (.ref C) = some false
theorem SClx.ty {K : PySem.W.Frag} {C : Addr} (S : SClx K C) {H : Hp} {x : Addr} {ps : List (Str × Int)} (h : SgAt C H x ps) : TyX K H (.ref x) (.ref C) := by
  obtain ⟨dx, d, h1, _⟩ := h
  exact .base (.ins h1 S.cl S.ca S.cg S.ct S.cm)
theorem SgAt.same {C x : Addr} {H H' : Hp} {ps : List (Str × Int)} (h : SgAt C H x ps) (s : Same H H') : SgAt C H' x ps := by
  obtain ⟨dx, d, h1, h2⟩ := h
  exact ⟨dx, d, s _ _ h1, s _ _ h2⟩
def spHas (K : PySem.W.Frag) (C : Addr) : Sp := fun vs H Q _ => ∃ x v d ps, vs = [.ref x, v] ∧ SgAt C H x ps ∧ Dp K H v d ∧ Q (.bl (hasD ps d)) H
def spLen (C : Addr) : Sp := fun vs H Q _ => ∃ x ps, vs = [.ref x] ∧ SgAt C H x ps ∧ Q (.int (ps.length : Nat)) H
def spAr (K : PySem.W.Frag) (cS C : Addr) : Sp := fun vs H Q E => ∃ x v d ps, vs = [.ref x, v] ∧ SgAt C H x ps ∧ Dp K H v d ∧
  (∀ n, arD ps d = some n → Q (.int n) H) ∧ (arD ps d = none → ∀ dd, H dd = none → E (.ref cS) (some dd) (L2.upd H dd (.xd [("name", v)])))
def spNames (C : Addr) : Sp := fun vs H Q _ => ∃ x ps, vs = [.ref x] ∧ SgAt C H x ps ∧ ∀ p, H p = none → Q (.ref p) (L2.upd H p (.lst (ps.map fun q => .str q.1)))
def waysOf (ps : List (Str × Int)) : List Str := (ps.filter fun p => decide (p.2 > 1)).map (·.1)
def spWays (C : Addr) : Sp := fun vs H Q _ => ∃ x ps, vs = [.ref x] ∧ SgAt C H x ps ∧ ps.length ≤ 5 ∧ (ps.map (·.1)).Nodup ∧ ∀ H' ys p, Same H H' → H p = none → ys.Perm (waysOf ps) → sortedS ys = true → H' p = some (.lst (ys.map V.str)) → Q (.ref p) H'
def spEq (K : PySem.W.Frag) (C : Addr) : Sp := fun vs H Q _ => ∃ x v ps, vs = [.ref x, v] ∧ SgAt C H x ps ∧ OkNames ps ∧
  ((∃ ds, Dp K H v (.list ds) ∧ Q (.bl false) H) ∨ ∃ y qs, v = .ref y ∧ SgAt C H y qs ∧ OkNames qs ∧ ∀ H', Same H H' → Q (.bl (decide (ps = qs))) H')
section
variable {P : Program} {w : World} {K : PySem.W.Frag} {mg : Str → Option Value} {base : Heap} {f1 f2 f3 f4 : Addr} {d1 d2 d3 d4 : FuncData} {cN cC cB cS eN eC eB eS C : Addr}
theorem scHas : FnScope ["self", "name"] ["self", "name"] (defScope sHas) := ⟨rfl, rfl, rfl, by decide +kernel, rfl, by decide +kernel, by decide +kernel⟩
theorem ok_has {f : Addr} {fd : FuncData} (F : Fun K "__contains__" "Signs.__contains__" sHas f fd) (T : KTxt mg) (S : SCl K C) : FnOk P w K mg base CX0 1 f fd ["self", "name"] (spHas K C) := by
  refine F.ok scHas (fun vs H Q E h => ?_) (fun cdv A outer s H vs Q E hr h => ?_)
  · obtain ⟨x, v, d, ps, rfl, _⟩ := h
    rfl
  · obtain ⟨x, v, d, ps, rfl, ⟨dx, dn, h1, h2⟩, hd, q⟩ := h
    have hu := hu_of hr
    refine ⟨_, pss_one (ps_ret (pe_and (pe_callB call_isi (by rfl) T.isi (by decide +kernel) (pa_cons (pv 1) (pa_cons (pe_bltn (v := .ty "str") (by rfl) T.str (by decide +kernel) rfl) pa_nil)))
      (pe_one (pe_cmp (pc_din hu (pv 1) (pe_fld (pv 0) rfl)) rfl)))), ?_⟩
    refine ⟨_, rfl, v, .ty "str", .type (tyD d), .type "str", _, rfl, .ty _, ty_dp hd, kit_ty (k_str d), _, rfl, ?_⟩
    cases d with
    | str z =>
      cases hd
      refine iteT ?_
      refine ⟨_, rfl, _, rfl, x, C, dx, _, .ref dn, rfl, h1, S.cl, S.na, rfl, ?_⟩
      refine ⟨dn, _, rfl, DGet.k (k := Sum.inr z) h2, ?_⟩
      rw [kvs_val]
      exact q
    | _ => exact iteF q
theorem scLen : FnScope ["self"] ["self"] (defScope sLen) := ⟨rfl, rfl, rfl, by decide +kernel, rfl, by decide +kernel, by decide +kernel⟩
theorem ok_len {f : Addr} {fd : FuncData} (F : Fun K "__len__" "Signs.__len__" sLen f fd) (T : KTxt mg) (S : SCl K C) : FnOk P w K mg base CX0 1 f fd ["self"] (spLen C) := by
  refine F.ok scLen (fun vs H Q E h => ?_) (fun cdv A outer s H vs Q E hr h => ?_)
  · obtain ⟨x, ps, rfl, _⟩ := h
    rfl
  · obtain ⟨x, ps, rfl, ⟨dx, dn, h1, h2⟩, q⟩ := h
    refine ⟨_, pss_one (ps_ret (pe_callB call_lenD (by rfl) T.len PySem.boot_len (pa_cons (pe_fld (pv 0) rfl) pa_nil))), ?_⟩
    refine ⟨_, rfl, x, C, dx, _, .ref dn, rfl, h1, S.cl, S.na, rfl, dn, _, rfl, h2, ?_⟩
    rw [show (kvsOf ps).length = ps.length from List.length_map ..]
    exact q
theorem scNm : FnScope ["self"] ["self"] (defScope sNames) := ⟨rfl, rfl, rfl, by decide +kernel, rfl, by decide +kernel, by decide +kernel⟩
theorem ok_names {f : Addr} {fd : FuncData} (F : Fun K "names" "Signs.names" sNames f fd) (hl : mg "list" = none) (S : SCl K C) : FnOk P w K mg base CX0 1 f fd ["self"] (spNames C) := by
  refine F.ok scNm (fun vs H Q E h => ?_) (fun cdv A outer s H vs Q E hr h => ?_)
  · obtain ⟨x, ps, rfl, _⟩ := h
    rfl
  · obtain ⟨x, ps, rfl, ⟨dx, dn, h1, h2⟩, q⟩ := h
    refine ⟨_, pss_one (ps_ret (pe_callTy (call_listD rfl) (by rfl) hl (by decide +kernel) (pa_cons (pe_fld (pv 0) rfl) pa_nil))), ?_⟩
    refine ⟨_, rfl, x, C, dx, _, .ref dn, rfl, h1, S.cl, S.na, rfl, dn, _, rfl, .inl h2, fun p hp => ?_⟩
    have e : (kvsOf ps).map (fun kv => kV kv.1) = ps.map fun q => V.str q.1 := by
      unfold kvsOf
      rw [List.map_map]
      rfl
    rw [e]
    exact q p hp
end
end Sg

set_option maxRecDepth 100000
set_option maxHeartbeats 4000000
namespace Sg
open PySem PySem.Spec PyProof.Rows L2 Dr Gd Er Cm Ow
theorem arOf_at : ∀ {ps : List (Str × Int)} {i : Nat} {z : Str} {n : Int}, (ps.map (·.1)).Nodup → ps[i]? = some (z, n) → arOf ps z = some n
  | [], i, z, n, _, h => by simp at h
  | p :: ps, 0, z, n, _, h => by
    simp at h
    subst h
    unfold arOf
    rw [List.find?_cons_of_pos (by simp)]
    rfl
  | p :: ps, i + 1, z, n, hn, h => by
    have h : ps[i]? = some (z, n) := by simpa using h
    obtain ⟨h1, h2⟩ := List.nodup_cons.mp (show (p.1 :: ps.map (·.1)).Nodup from hn)
    have hz : ¬ p.1 = z := fun e => h1 (by
      rw [e]
      exact List.mem_map.mpr ⟨(z, n), List.mem_of_getElem? h, rfl⟩)
    unfold arOf
    rw [List.find?_cons_of_neg (by simpa using hz)]
    exact arOf_at h2 h
section
variable {P : Program} {w : World} {K : PySem.W.Frag} {mg : Str → Option Value} {base : Heap} {f1 f2 f3 f4 fh : Addr} {d1 d2 d3 d4 dh : FuncData} {cN cC cB cS eN eC eB eS C : Addr}
structure HasAt (K : PySem.W.Frag) (C fh : Addr) (dh : FuncData) : Prop where
  F : Fun K "__contains__" "Signs.__contains__" sHas fh dh
  at_ : PySem.W.findIn K (.ref C) "__contains__" = some (some (.ref fh))
  fn : PySem.W.isFn K (.ref fh) = true
theorem HasAt.b (h : HasAt K C fh dh) : Binds K dh ["self", "name"] [] := h.F.binds fun _ _ _ _ _ _ us hl => match us, hl with | [_, _], _ => rfl
theorem scAr : FnScope ["self", "name"] ["self", "name"] (defScope sArity) := ⟨rfl, rfl, rfl, by decide +kernel, rfl, by decide +kernel, by decide +kernel⟩
theorem ok_arity {f : Addr} {fd : FuncData} (F : Fun K "arity" "Signs.arity" sArity f fd) (T : KTxt mg) (Z : Ke P K mg cN cC cB cS eN eC eB eS) (S : SCl K C) (h4 : HasAt K C fh dh) : FnOk P w K mg base (L2.CX P w) 2 f fd ["self", "name"] (spAr K cS C) := by
  refine F.okX scAr (fun vs H Q E h => ?_) (fun cdv A outer s H vs Q E hr h => ?_)
  · obtain ⟨x, v, d, ps, rfl, _⟩ := h
    rfl
  · obtain ⟨x, v, d, ps, rfl, hS, hd, q1, q2⟩ := h
    have hu := hu_of hr
    refine ⟨_, pss_cons (ps_if (pt_cmpR (op_notInOwn (ok_has h4.F T S) hr h4.at_ h4.fn h4.b pass0) (pv 1) (pv 0) (by rfl)) (pss_one (ps_raise rfl (takes_of rfl rfl rfl rfl) (pmk_err1 Z.hS Z.sup hr (raises_own Z.rS.1 Z.rS.2) Z.gS (pv 1)))) pss_nil)
      (pss_one (ps_ret (pe_dget hu (pe_fld (pv 0) rfl) (pv 1) fun _ _ => rfl))), ?_⟩
    obtain ⟨dx, dn, h1, h2⟩ := id hS
    refine ⟨_, rfl, _, rfl, x, dx, _, rfl, h1, x, v, d, ps, rfl, hS, hd, _, rfl, _, rfl, ?_⟩
    refine ite2 (fun c => ?_) (fun c => ?_)
    · have c : hasD ps d = false := by simpa using c
      have e : arD ps d = none := by
        cases d with
        | str z =>
          have c : hasN ps z = false := c
          rw [← arOf_has] at c
          show arOf ps z = none
          cases q : arOf ps z with
          | none => rfl
          | some n => rw [q] at c; cases c
        | _ => rfl
      exact ⟨_, rfl, q2 e⟩
    · have c : hasD ps d = true := by simpa using c
      cases d with
      | str z =>
        cases hd
        have c : hasN ps z = true := c
        rw [← arOf_has] at c
        obtain ⟨n, en⟩ := Option.isSome_iff_exists.mp c
        refine ⟨_, rfl, x, C, dx, _, .ref dn, rfl, h1, S.cl, S.na, rfl, ?_⟩
        refine ⟨_, rfl, dn, .int n, rfl, ?_, q1 n en⟩
        have e : (some (V.int n)) = valV (kvsOf ps) (Sum.inr z) := by rw [kvs_valI, en]; rfl
        rw [e]
        exact DGet.k (k := Sum.inr z) h2
      | _ => cases c
theorem scEq : FnScope ["self", "other"] ["self", "other"] (defScope sEq) := ⟨rfl, rfl, rfl, by decide +kernel, rfl, by decide +kernel, by decide +kernel⟩
theorem dp_items {K : PySem.W.Frag} {H : Hp} : ∀ {ts : List Addr} {ps : List (Str × Int)}, Paired (fun (t : Addr) (q : Key × V) => H t = some (.tup [kV q.1, q.2])) ts (kvsOf ps) → DpAll K H (ts.map V.ref) (ps.map fun p => .tuple [.str p.1, .int p.2])
  | [], [], _ => .nil
  | t :: ts, p :: ps, h => by
    cases h with
    | cons a b => exact .cons (.tup (SqT.of a) (.cons (.str _) (.cons (.int _) .nil))) (dp_items b)
theorem ok_eq {f : Addr} {fd : FuncData} (F : Fun K "__eq__" "Signs.__eq__" sEq f fd) (T : KTxt mg) (hl : mg "list" = none) (gC : mg "Signs" = some (.ref C)) (S : SClx K C) : FnOk P w K mg base CX0 1 f fd ["self", "other"] (spEq K C) := by
  refine F.ok scEq (fun vs H Q E h => ?_) (fun cdv A outer s H vs Q E hr h => ?_)
  · obtain ⟨x, v, ps, rfl, _⟩ := h
    rfl
  · obtain ⟨x, v, ps, rfl, hS, hok, h⟩ := h
    have hu := hu_of hr
    refine ⟨_, pss_one (ps_ret (pe_and (pe_callB call_isi (by rfl) T.isi (by decide +kernel) (pa_cons (pv 1) (pa_cons (pe_glob (v := .ref C) rfl gC rfl) pa_nil)))
      (pe_one (pe_cmpR (op_eqD hr.units) (LiI.pe_listItems rfl (pe_fld (pv 0) rfl) (by rfl) hl (by decide +kernel)) (LiI.pe_listItems rfl (pe_fld (pv 1) rfl) (by rfl) hl (by decide +kernel)) (nomark _))))), ?_⟩
    rcases h with ⟨ds, hd, q⟩ | ⟨y, qs, rfl, hY, hoy, q⟩
    · exact ⟨_, rfl, v, .ref C, .type "list", .ref C, _, rfl, .own _, ty_dp hd, S.kL, _, rfl, iteF q⟩
    · refine ⟨_, rfl, .ref y, .ref C, .ref C, .ref C, _, rfl, .own _, S.ty hY, S.kC, _, rfl, iteT ?_⟩
      obtain ⟨dx, dn, h1, h2⟩ := hS
      obtain ⟨dy, dm, g1, g2⟩ := hY
      refine ⟨_, rfl, x, C, dx, _, .ref dn, rfl, h1, S.cl, S.na, rfl, dn, _, rfl, h2, fun H1 p ts s1 hp hts hpt e1 e2 => ?_⟩
      refine ⟨_, rfl, y, C, dy, _, .ref dm, rfl, s1 _ _ g1, S.cl, S.na, rfl, dm, _, rfl, s1 _ _ g2, fun H2 p' ts' s2 hp' hts' hpt' e1' e2' => ?_⟩
      refine ⟨psD ps, psD qs, dp_same s2 _ _ (.lst (SqL.of e1) (dp_items e2)), .lst (SqL.of e1') (dp_items e2'), psD_shaped hok, psD_shaped hoy, ?_⟩
      rw [psD_eqv]
      exact q H2 (Same.trans s1 s2)
end
end Sg

set_option maxRecDepth 100000
set_option maxHeartbeats 4000000
namespace Sg
open PySem PySem.Spec PyProof.Rows L2 Dr Gd Er Cm Ow
section
variable {P : Program} {w : World} {K : PySem.W.Frag} {mg : Str → Option Value} {base : Heap} {f1 f2 f3 f4 fh : Addr} {d1 d2 d3 d4 dh : FuncData} {cN cC cB cS eN eC eB eS C : Addr}
theorem scWy : FnScope ["self", "name"] ["self"] (defScope sWays) := ⟨rfl, rfl, rfl, by decide +kernel, rfl, by decide +kernel, by decide +kernel⟩
theorem ways_take {ps : List (Str × Int)} {i : Nat} {z : Str} {n : Int} (h : ps[i]? = some (z, n)) : waysOf (ps.take (i + 1)) = if n > 1 then waysOf (ps.take i) ++ [z] else waysOf (ps.take i) := by
  unfold waysOf
  rw [List.take_succ, h]
  show ((ps.take i ++ [(z, n)]).filter _).map _ = _
  rw [List.filter_append]
  by_cases c : n > 1
  · rw [if_pos c, List.filter_cons_of_pos (by simpa using c), List.map_append]
    rfl
  · rw [if_neg c, List.filter_cons_of_neg (by simpa using c)]
    simp
theorem ways_len (ps : List (Str × Int)) : (waysOf ps).length ≤ ps.length := by
  unfold waysOf
  rw [List.length_map]
  exact List.length_filter_le _ _
theorem ok_ways {f : Addr} {fd : FuncData} (F : Fun K "ways" "Signs.ways" sWays f fd) (hs : mg "sorted" = none) (S : SCl K C) : FnOk P w K mg base CX0 1 f fd ["self"] (spWays C) := by
  refine F.ok scWy (fun vs H Q E h => ?_) (fun cdv A outer s H vs Q E hr h => ?_)
  · obtain ⟨x, ps, rfl, _⟩ := h
    rfl
  · obtain ⟨x, ps, rfl, ⟨dx, dn, h1, h2⟩, h5, nd, q⟩ := h
    have hu := hu_of hr
    refine ⟨_, pss_one (ps_ret (pe_callB cr_sortedS (by rfl) hs (by decide +kernel) (pa_cons (pe_lock
      (pe_lc (own := [("name", 1)]) (g := gName 1) (tt := tTest (tOp (rI0 fun i j => .bl (decide (j < i))) (tDGet (tFld K (tVar 0) "_arities") (tVar 1)) (tC (.int 1)))) rfl scWy.nd (pi_keys (pe_fld (pv 0) rfl)) (blkOk_by (N := ["self", "name"]) (sc := defScope sWays) (by decide +kernel)) (fun _ _ _ _ _ => pg_name (i := 1) scWy.nd rfl (Or.inl rfl))
        (fun _ _ _ _ _ => by
          refine pts_one ?_
          refine pt_cmpR op_gt ?_ pe_int (nomark _)
          refine pe_dget ?_ ?_ ?_ (fun _ _ => rfl)
          · exact hu
          · refine pe_fld ?_ ?_
            · exact pv 0
            · rfl
          · exact pv 1) (fun _ _ _ _ _ => pv 1))) pa_nil))), ?_⟩
    refine ⟨dn, .dK (kvsOf ps), h2, trivial, fun od => ?_⟩
    have hxd : x ≠ dn := ne_of h1 h2 (by intro z; cases z)
    have e1 : (L2.upd H dn (.frz od (.dK (kvsOf ps)))) x = some (.ins C dx [("_arities", .ref dn)]) := by rw [upd_ne hxd]; exact h1
    refine ⟨_, rfl, x, C, dx, _, .ref dn, rfl, e1, S.cl, S.na, rfl, dn, od, rfl, .inl ⟨_, upd_same, fun D hD => ?_⟩⟩
    have hDd : D ≠ dn := fun z => by rw [z, upd_same] at hD; cases hD
    have hDx : D ≠ x := fun z => by rw [z, e1] at hD; cases hD
    have hD0 : H D = none := by rw [upd_ne hDd] at hD; exact hD
    have lk : (kvsOf ps).length = ps.length := List.length_map ..
    refine lc_it (walk_keys (kvs := kvsOf ps)) (fun i H' => H' = L2.upd (L2.upd H dn (.frz od (.dK (kvsOf ps)))) D (.lst ((waysOf (ps.take i)).map V.str))) rfl (fun i H' hi hp => by rw [hp, upd_ne hDd.symm, upd_same]) (fun i y H1 H2 hi hp hy => ?_) (fun H' hp => ?_)
    · subst hp
      obtain ⟨rfl, k, v, ek, rfl⟩ := hy
      rw [lk] at hi
      obtain ⟨z, n, ep⟩ : ∃ z n, ps[i]? = some (z, n) := ⟨_, _, List.getElem?_eq_getElem hi⟩
      have ek' : (k, v) = (Sum.inr z, V.int n) := by
        unfold kvsOf at ek
        rw [List.getElem?_map, ep] at ek
        exact (Option.some.inj ek).symm
      cases ek'
      have g1 : (L2.upd (L2.upd H dn (.frz od (.dK (kvsOf ps)))) D (.lst ((waysOf (ps.take i)).map V.str))) x = some (.ins C dx [("_arities", .ref dn)]) := by rw [upd_ne hDx.symm]; exact e1
      have g2 : (L2.upd (L2.upd H dn (.frz od (.dK (kvsOf ps)))) D (.lst ((waysOf (ps.take i)).map V.str))) dn = some (.frz od (.dK (kvsOf ps))) := by rw [upd_ne hDd.symm, upd_same]
      refine ⟨rfl, ?_⟩
      refine ⟨_, rfl, x, C, dx, _, .ref dn, rfl, g1, S.cl, S.na, rfl, ?_⟩
      refine ⟨_, rfl, dn, .int n, rfl, .inl ⟨_, Sum.inr z, .inr ⟨_, g2⟩, rfl, by rw [kvs_valI, arOf_at nd ep]; rfl⟩, ?_⟩
      refine ⟨_, _, rfl, rfl, _, rfl, ?_⟩
      refine ite2 (fun c => ?_) (fun c => ?_)
      · have c : n > 1 := of_decide_eq_true c
        refine ⟨_, rfl, _, upd_same, ?_, ?_⟩
        · rw [List.length_map]
          have := ways_len (ps.take i)
          rw [List.length_take] at this
          exact Nat.lt_of_le_of_lt (Nat.le_trans this (Nat.le_trans (Nat.min_le_left _ _) (Nat.le_of_lt (Nat.lt_of_lt_of_le hi h5)))) (by decide)
        · rw [upd2, ways_take ep, if_pos c, List.map_append]
          rfl
      · have c : ¬ n > 1 := fun z => c (decide_eq_true z)
        rw [ways_take ep, if_neg c]
    · subst hp
      rw [lk, List.take_length]
      refine ⟨by rw [upd_ne hDd.symm, upd_same], ?_⟩
      have sm : Same H (L2.upd (L2.upd (L2.upd H dn (.frz od (.dK (kvsOf ps)))) D (.lst ((waysOf ps).map V.str))) dn (.dK (kvsOf ps))) := fun b o e => by
        by_cases hb : b = dn
        · subst hb
          rw [h2] at e
          cases e
          exact upd_same
        · rw [upd_ne hb, upd_ne (ne_of_none e hD0), upd_ne hb]
          exact e
      refine ⟨D, waysOf ps, rfl, SqL.of (by rw [upd_ne hDd, upd_same]), ?_, fun ys p hp1 hp2 hp3 => ?_⟩
      · have := ways_len ps
        omega
      · exact q _ ys p (Same.trans sm (same_upd hp3)) (Same.free sm hp3) hp1 hp2 upd_same
end
end Sg

set_option maxRecDepth 100000
set_option maxHeartbeats 4000000
/-! written data -/
namespace Sg
open PySem PySem.Spec PyProof.Rows L2 Dr Gd Er Cm Ow
/-- what is new in H' -/
def nw (H H' : Hp) : Hp := fun b => if H b = none then H' b else none
theorem nw_at {H H' : Hp} {b : Addr} {o : HO} (h : H b = none) (h' : H' b = some o) : nw H H' b = some o := by unfold nw; rw [if_pos h]; exact h'
theorem nw_inv {H H' : Hp} {b : Addr} {o : HO} (h : nw H H' b = some o) : H b = none ∧ H' b = some o := by
  unfold nw at h
  by_cases e : H b = none
  · rw [if_pos e] at h
    exact ⟨e, h⟩
  · rw [if_neg e] at h
    cases h
theorem nw_same {H H' : Hp} : Same (nw H H') H' := fun b o h => (nw_inv h).2
theorem nw_l {H H1 H2 : Hp} (s : Same H1 H2) : Same (nw H H1) (nw H H2) := fun b o h => nw_at (nw_inv h).1 (s _ _ (nw_inv h).2)
theorem nw_r {H H1 H2 : Hp} (s : Same H H1) : Same (nw H1 H2) (nw H H2) := fun b o h => nw_at (Same.free s (nw_inv h).1) (nw_inv h).2
theorem nw_del {H H' : Hp} {p : Addr} {o : HO} (h : H p = some o) : Same (nw H H') (del H' p) := fun b u e => by
  have hb : b ≠ p := fun z => by
    have := (nw_inv e).1
    rw [z, h] at this
    cases this
  rw [del_ne hb]
  exact (nw_inv e).2
def tDat (K : PySem.W.Frag) (c : L2.St → Prop) (d : PyData) : TE := fun σ H Q => c σ ∧ ∀ v H', Same H H' → Dp K (nw H H') v d → Q v H'
def taDat (K : PySem.W.Frag) (c : L2.St → Prop) (ds : List PyData) : TA := fun σ H Q => c σ ∧ ∀ vs H', Same H H' → DpAll K (nw H H') vs ds → Q vs H'
def tDatL (K : PySem.W.Frag) (c : L2.St → Prop) (ds : List PyData) : TE := fun σ H Q => c σ ∧ ∀ p vs H', Same H H' → H p = none → H' p = some (.lst vs) → DpAll K (nw H H') vs ds → Q (.ref p) H'
section
variable {X : Cx} {e : Expr} {es : List Expr}
theorem pe_imp {t t' : TE} (h : ∀ σ H Q, t' σ H Q → t σ H Q) (q : PE X e t) : PE X e t' := ⟨fun pins s σ H Q I z => q.run pins s σ H Q I (h σ H Q z)⟩
theorem pa_imp {t t' : TA} (h : ∀ σ H Q, t' σ H Q → t σ H Q) (q : PA X es t) : PA X es t' := ⟨fun pos pins s σ H Q I z => q.run pos pins s σ H Q I (h σ H Q z)⟩
end
section
variable {X : Cx} {c : L2.St → Prop} {e : Expr} {es : List Expr} {d : PyData} {ds : List PyData} {pos : Pos}
theorem pd_int {n : Int} {j : Nat} : PE X (.Constant (.int n) j pos) (tDat X.K c (.int n)) := pe_imp (fun σ H Q h => h.2 _ H (Same.refl H) (.int n)) pe_int
theorem pd_str {z : Str} {j : Nat} : PE X (.Constant (.str z) j pos) (tDat X.K c (.str z)) := pe_imp (fun σ H Q h => h.2 _ H (Same.refl H) (.str z)) pe_str
theorem pd_bl {b : Bool} {j : Nat} : PE X (.Constant (.bool b) j pos) (tDat X.K c (.bool b)) := pe_imp (fun σ H Q h => h.2 _ H (Same.refl H) (.bl b)) pe_bl
theorem pd_non {j : Nat} : PE X (.Constant .none j pos) (tDat X.K c .none) := pe_imp (fun σ H Q h => h.2 _ H (Same.refl H) .non) pe_non
theorem pd_neg {n : Int} {j : Nat} {p : Pos} : PE X (.UnaryOp .USub (.Constant (.int n) j p) pos) (tDat X.K c (.int (-n))) := pe_imp (fun σ H Q h => ⟨n, rfl, h.2 _ H (Same.refl H) (.int _)⟩) (pe_un un_neg pe_int)
theorem pd_nil : PA X [] (taDat X.K c []) := pa_imp (fun σ H Q h => h.2 _ H (Same.refl H) .nil) pa_nil
theorem pd_cons (he : PE X e (tDat X.K c d)) (hr : PA X es (taDat X.K c ds)) (hs : starEach (e :: es) X.env = (false, eval e X.env) :: starEach es X.env := by rfl) : PA X (e :: es) (taDat X.K c (d :: ds)) :=
  pa_imp (fun σ H Q h => ⟨h.1, fun v H1 s1 h1 => ⟨h.1, fun vs H2 s2 h2 => h.2 _ H2 (Same.trans s1 s2) (.cons (dp_same (nw_l s2) _ _ h1) (dpAll_same (nw_r s1) _ _ h2))⟩⟩) (pa_cons he hr hs)
theorem pd_lstL (h : PA X es (taDat X.K c ds)) (hl : ds.length ≤ 1000) : PE X (.List es pos) (tDatL X.K c ds) :=
  pe_imp (fun σ H Q h => ⟨h.1, fun vs H1 s1 h1 => ⟨by rw [dpAll_len h1]; exact Nat.le_trans hl (by decide), fun p hp => h.2 p vs _ (Same.trans s1 (same_upd hp)) (Same.free s1 hp) upd_same (dpAll_same (nw_l (same_upd hp)) _ _ h1)⟩⟩) (pe_lst h)
theorem pd_lst (h : PA X es (taDat X.K c ds)) (hl : ds.length ≤ 1000) : PE X (.List es pos) (tDat X.K c (.list ds)) :=
  pe_imp (fun σ H Q h => ⟨h.1, fun p vs H1 s1 hn h1 h2 => h.2 _ H1 s1 (.lst (SqL.of (nw_at hn h1)) h2)⟩) (pd_lstL h hl)
theorem pd_tup {x1 : Nat} (h : PA X es (taDat X.K c ds)) (hl : ds.length ≤ 1000) : PE X (.Tuple es x1 pos) (tDat X.K c (.tuple ds)) :=
  pe_imp (fun σ H Q h => ⟨h.1, fun vs H1 s1 h1 => ⟨by rw [dpAll_len h1]; exact Nat.le_trans hl (by decide), fun p hp => h.2 _ _ (Same.trans s1 (same_upd hp)) (.tup (SqT.of (nw_at (Same.free s1 hp) upd_same)) (dpAll_same (nw_l (same_upd hp)) _ _ h1))⟩⟩) (pe_tup h)
end
end Sg

set_option maxRecDepth 100000
set_option maxHeartbeats 4000000
namespace Sg
open PySem PySem.Spec PyProof.Rows L2 Dr Gd Er Cm Ow
abbrev sKnown : Stmt := top 24
def known1 : List (List (Str × Int)) := [[("plus", 2), ("s", 1), ("zero", 0)], [("f", 2), ("g", 1), ("a", 0)], [("f", 2), ("a", 0), ("b", 0)]]
def known2 : List (List (Str × Int)) := [[("g", 1), ("f", 2), ("h", 2)], [("a", 0), ("b", 0), ("c", 0)], [("f", 3), ("a", 0), ("b", 0)]]
def known3 : List (List (Str × Int)) := [[("f", 1), ("g", 1), ("h", 1)], [("times", 2), ("plus", 2), ("s", 1), ("zero", 0)]]
def known4 : List (List (Str × Int)) := [[("left", 2), ("above", 2), ("lots", 0)], [("order", 1), ("rule", 0), ("sign", 2)]]
def known5 : List (List (Str × Int)) := [[("b", 0), ("f", 2)], [("f", 2), ("g", 1), ("a", 0), ("b", 0)], [("f", 3)]]
def known : List (List (Str × Int)) := known1 ++ known2 ++ known3 ++ known4 ++ known5
def spKnown (K : PySem.W.Frag) : Sp := fun vs H Q _ => vs = [] ∧ ∀ p us H', Same H H' → H p = none → H' p = some (.lst us) → DpAll K (nw H H') us (known.map psD) → Q (.ref p) H'
theorem cat_dat {K : PySem.W.Frag} {c : L2.St → Prop} {σ : L2.St} {H0 H : Hp} {Q : VK} {l : Addr} {vs : List V} {ds es : List PyData} {i : Nat} (hv : σ[i]? = some (some (.ref l))) (s0 : Same H0 H) (hl : H l = some (.lst vs)) (hd : DpAll K (nw H0 H) vs ds) (hz : ds.length + es.length ≤ 1000) (hc : c σ)
    (h : ∀ p us H', Same H0 H' → H0 p = none → H' p = some (.lst us) → DpAll K (nw H0 H') us (ds ++ es) → Q (.ref p) H') : tOp rCat (tVar i) (tDatL K c es) σ H Q := by
  refine ⟨_, hv, hc, fun p us H1 s1 hp h1 h2 => ?_⟩
  refine ⟨l, p, _, _, rfl, rfl, s1 _ _ hl, h1, ?_, fun p2 hp2 => ?_⟩
  · rw [dpAll_len hd, dpAll_len h2]
    exact Nat.le_trans hz (by decide)
  · have s := Same.trans s0 s1
    exact h p2 _ _ (Same.trans s (same_upd hp2)) (Same.free s hp2) upd_same (dpAll_same (nw_l (same_upd hp2)) _ _ (dpAll_app (dpAll_same (nw_l s1) _ _ hd) (dpAll_same (nw_r s0) _ _ h2)))
section
variable {P : Program} {w : World} {K : PySem.W.Frag} {mg : Str → Option Value} {base : Heap}
theorem scKn : FnScope ["found"] [] (defScope sKnown) := ⟨rfl, rfl, rfl, by decide +kernel, rfl, by decide +kernel, by decide +kernel⟩
theorem ok_known {f : Addr} {fd : FuncData} (F : Fun K "_law_known_signs" "_law_known_signs" sKnown f fd) : FnOk P w K mg base CX0 1 f fd [] (spKnown K) := by
  refine F.ok scKn (fun vs H Q E h => ?_) (fun cdv A outer s H vs Q E hr h => ?_)
  · obtain ⟨rfl, _⟩ := h
    rfl
  · obtain ⟨rfl, q⟩ := h
    refine ⟨_, pss_cons (ps_set (i := 0) (te := tDatL K (fun _ => True) (known1.map psD)) scKn.nd rfl (Or.inl rfl) (pd_lstL (by repeat (first | exact pd_int | exact pd_str | exact pd_nil | refine pd_cons ?_ ?_ | refine pd_lst ?_ (by decide) | refine pd_tup ?_ (by decide))) (by decide)))
      (pss_cons (ps_set (i := 0) (te := tOp rCat (tVar 0) (tDatL K (fun _ => True) (known2.map psD))) scKn.nd rfl (Or.inl rfl) (pe_op op_cat (pv 0) (pd_lstL (by repeat (first | exact pd_int | exact pd_str | exact pd_nil | refine pd_cons ?_ ?_ | refine pd_lst ?_ (by decide) | refine pd_tup ?_ (by decide))) (by decide))))
      (pss_cons (ps_set (i := 0) (te := tOp rCat (tVar 0) (tDatL K (fun _ => True) (known3.map psD))) scKn.nd rfl (Or.inl rfl) (pe_op op_cat (pv 0) (pd_lstL (by repeat (first | exact pd_int | exact pd_str | exact pd_nil | refine pd_cons ?_ ?_ | refine pd_lst ?_ (by decide) | refine pd_tup ?_ (by decide))) (by decide))))
      (pss_cons (ps_set (i := 0) (te := tOp rCat (tVar 0) (tDatL K (fun _ => True) (known4.map psD))) scKn.nd rfl (Or.inl rfl) (pe_op op_cat (pv 0) (pd_lstL (by repeat (first | exact pd_int | exact pd_str | exact pd_nil | refine pd_cons ?_ ?_ | refine pd_lst ?_ (by decide) | refine pd_tup ?_ (by decide))) (by decide))))
      (pss_one (ps_ret (te := tOp rCat (tVar 0) (tDatL K (fun _ => True) (known5.map psD))) (pe_op op_cat (pv 0) (pd_lstL (by repeat (first | exact pd_int | exact pd_str | exact pd_nil | refine pd_cons ?_ ?_ | refine pd_lst ?_ (by decide) | refine pd_tup ?_ (by decide))) (by decide)))))))), ?_⟩
    refine ⟨trivial, fun p1 u1 H1 s1 n1 g1 e1 => ?_⟩
    refine cat_dat (i := 0) rfl s1 g1 e1 (by decide) trivial (fun p2 u2 H2 s2 n2 g2 e2 => ?_)
    refine cat_dat (i := 0) rfl s2 g2 e2 (by decide) trivial (fun p3 u3 H3 s3 n3 g3 e3 => ?_)
    refine cat_dat (i := 0) rfl s3 g3 e3 (by decide) trivial (fun p4 u4 H4 s4 n4 g4 e4 => ?_)
    exact cat_dat (i := 0) rfl s4 g4 e4 (by decide) trivial (fun p5 u5 H5 s5 n5 g5 e5 => q p5 u5 H5 s5 n5 g5 e5)
end
end Sg

set_option maxRecDepth 100000
set_option maxHeartbeats 4000000
namespace Sg
open PySem PySem.Spec PyProof.Rows L2 Dr Gd Er Cm Ow
abbrev sDrawn : Stmt := top 25
structure Cal (P : Program) (w : World) (K : PySem.W.Frag) (mg : Str → Option Value) (base : Heap) (CX : CXT) (k : Nat) (x : Str) (f : Addr) (fd : FuncData) (ps : List Str) (sp : Sp) : Prop where
  ok : FnOk P w K mg base CX k f fd ps sp
  g : mg x = some (.ref f)
  kp : PySem.W.keepIn K (.ref f) = true
  b : Binds K fd ps []
def names3 : List (List Str) := [["f", "g", "h", "k"], ["k", "f", "a", "g"], ["z", "ab", "b", "abcdefgh"]]
def allN : List Str := (known.flatten.map (·.1)) ++ names3.flatten
def Good (ps : List (Str × Int)) : Prop := 1 ≤ ps.length ∧ ps.length ≤ 4 ∧ (ps.map (·.1)).Nodup ∧ (∀ p ∈ ps, wordIn Lc p.1 = true ∧ 0 ≤ p.2 ∧ p.2 ≤ 3) ∧ (("q" : Str) ∉ ps.map (·.1)) ∧ ∀ p ∈ ps, p.1 ∈ allN
instance (ps : List (Str × Int)) : Decidable (Good ps) := by unfold Good; infer_instance
theorem known_good : ∀ ps ∈ known, Good ps := by decide +kernel
theorem names3_ok : ∀ N ∈ names3, N.length = 4 ∧ N.Nodup ∧ (∀ z ∈ N, wordIn Lc z = true) ∧ ("q" : Str) ∉ N ∧ ∀ z ∈ N, z ∈ allN := by decide +kernel
def nmD (N : List Str) : PyData := .list (N.map .str)
def spDrawn (K : PySem.W.Frag) : Sp := fun vs H Q _ => ∃ p x y, vs = [.ref p] ∧ H p = some (feedO x y) ∧
  ∀ v ps x' y' H', SameX p H H' → H' p = some (feedO x' y') → Dp K (del H' p) v (psD ps) → Good ps → Q v H'
theorem SameX.del {p : Addr} {H H' : Hp} (s : SameX p H H') : Same (L2.del H p) (L2.del H' p) := fun b o h => by
  by_cases hb : b = p
  · subst hb; rw [del_same] at h; cases h
  · rw [del_ne hb] at h ⊢
    exact s b o h hb
theorem del_upd {p : Addr} {H : Hp} {o : HO} : L2.del (L2.upd H p o) p = L2.del H p := by
  funext b
  by_cases hb : b = p
  · subst hb; rw [del_same, del_same]
  · rw [del_ne hb, del_ne hb, upd_ne hb]
theorem dpAll_mem {K : PySem.W.Frag} {H : Hp} {vs : List V} {ds : List PyData} {v : V} (h : DpAll K H vs ds) (m : v ∈ vs) : ∃ d ∈ ds, Dp K H v d := by
  obtain ⟨i, hi, e⟩ := List.getElem_of_mem m
  obtain ⟨d, h1, h2⟩ := dpAll_get' h (show vs[i]? = some v by rw [List.getElem?_eq_getElem hi, e])
  exact ⟨d, List.mem_of_getElem? h1, h2⟩
def prD (ps : List (Str × Int)) : List PyData := ps.map fun p => .tuple [.str p.1, .int p.2]
theorem seqT_updL {K : PySem.W.Frag} {H : Hp} {l t : Addr} {us xs : List V} {o : HO} (hl : H l = some (.lst us)) (h : SqT K H t xs) : SqT K (L2.upd H l o) t xs := by
  rcases h with (h | ⟨u, h⟩) | h
  · exact .inl (.inl (by rw [upd_ne (ne_of h hl (by intro z; cases z))]; exact h))
  · exact .inl (.inr ⟨u, by rw [upd_ne (ne_of h hl (by intro z; cases z))]; exact h⟩)
  · exact .inr h
theorem pr_updL {K : PySem.W.Frag} {H : Hp} {l : Addr} {us : List V} {o : HO} (hl : H l = some (.lst us)) : ∀ {ts : List V} {ps : List (Str × Int)}, DpAll K H ts (prD ps) → DpAll K (L2.upd H l o) ts (prD ps)
  | [], [], _ => .nil
  | _ :: _, [], h => by cases h
  | [], _ :: _, h => by cases h
  | t :: ts, p :: ps, h => by
    cases h with
    | cons a b =>
      cases a with
      | tup h1 h2 =>
        cases h2 with
        | cons a1 h2 =>
          cases h2 with
          | cons a2 h2 =>
            cases h2
            cases a1
            cases a2
            exact .cons (.tup (seqT_updL hl h1) (.cons (.str _) (.cons (.int _) .nil))) (pr_updL hl b)
theorem nm_vs {K : PySem.W.Frag} {H : Hp} : ∀ {vs : List V} {N : List Str}, DpAll K H vs (N.map .str) → vs = N.map V.str
  | [], [], _ => rfl
  | _ :: _, _ :: _, h => by
    cases h with
    | cons a b =>
      cases a
      rw [nm_vs b]
      rfl
section
variable {P : Program} {w : World} {K : PySem.W.Frag} {mg : Str → Option Value} {base : Heap} {fT fP fK : Addr} {dT dP dK : FuncData}
theorem scDr : FnScope ["feed", "names", "many", "found", "ways", "at", "arity"] ["feed"] (defScope sDrawn) := ⟨rfl, rfl, rfl, by decide +kernel, rfl, by decide +kernel, by decide +kernel⟩
theorem ok_drawn {f : Addr} {fd : FuncData} (F : Fun K "_law_drawn_signs" "_law_drawn_signs" sDrawn f fd) (GT : Cal P w K mg base CX0 1 "_law_take" fT dT ["feed", "many"] spTake) (GP : Cal P w K mg base CX0 2 "_law_pick" fP dP ["feed", "some"] (spPick K))
    (GK : Cal P w K mg base CX0 1 "_law_known_signs" fK dK [] (spKnown K)) (hi : mg "int" = none) (hrg : mg "range" = none) : FnOk P w K mg base CX0 3 f fd ["feed"] (spDrawn K) := by
  refine F.ok scDr (fun vs H Q E h => ?_) (fun cdv A outer s H vs Q E hr h => ?_)
  · obtain ⟨p, x, y, rfl, _⟩ := h
    rfl
  · obtain ⟨p, x, y, rfl, hp, q⟩ := h
    refine ⟨_, pss_cons (ps_if (pt_cmpR op_gt (pe_call GT.ok (hr.mono (by decide)) rfl GT.g GT.kp GT.b .nil pass0 (pa_cons (pv 0) (pa_cons pe_int pa_nil))) pe_int (nomark _))
        (pss_one (ps_ret (pe_call GP.ok hr rfl GP.g GP.kp GP.b .nil pass0 (pa_cons (pv 0) (pa_cons (pe_call0 GK.ok (hr.mono (by decide)) (by rfl) GK.g GK.kp GK.b .nil pass0) pa_nil))))) pss_nil)
      (pss_cons (ps_set (i := 1) scDr.nd rfl (Or.inl rfl) (pe_call GP.ok hr rfl GP.g GP.kp GP.b .nil pass0 (pa_cons (pv 0) (pa_cons (te := tDatL K (fun _ => True) (names3.map nmD)) (pd_lstL (by repeat (first | exact pd_int | exact pd_str | exact pd_nil | refine pd_cons ?_ ?_ | refine pd_lst ?_ (by decide) | refine pd_tup ?_ (by decide))) (by decide)) pa_nil))))
      (pss_cons (ps_par3 (i := 2) (j := 3) (l := 4) rfl scDr.nd rfl rfl rfl (by decide) (by decide) (by decide) rfl rfl rfl (pa_cons (pe_op op_add pe_int (pe_call GT.ok (hr.mono (by decide)) rfl GT.g GT.kp GT.b .nil pass0 (pa_cons (pv 0) (pa_cons pe_int pa_nil)))) (pa_cons (pe_lst pa_nil) (pa_cons pe_int pa_nil))) (by rfl))
      (pss_cons (ps_for PassesOwn.never rfl (pi_range1 (by rfl) hrg (pa_cons (pv 2) pa_nil)) (pg_name (i := 5) scDr.nd rfl (Or.inl rfl))
        (pss_cons (ps_set (i := 6) scDr.nd rfl (Or.inl rfl) (pe_call GT.ok (hr.mono (by decide)) rfl GT.g GT.kp GT.b .nil pass0 (pa_cons (pv 0) (pa_cons (pe_ifExp (pt_cmpR op_lt (pv 4) pe_int (nomark _)) pe_int pe_int) pa_nil))))
        (pss_cons (ps_set (i := 4) scDr.nd rfl (Or.inl rfl) (pe_op op_add (pv 4) (pe_callTy call_int1 (by rfl) hi (by decide +kernel) (pa_cons (pe_cmp (pc_ge (pv 6) pe_int) rfl) pa_nil))))
        (pss_one (ps_expr (pe_bm PySem.F.plainAttrs_list PySem.F.slot_list_append PySem.F.type_list_append mt_append (pv 3) (pa_cons (pe_tup (pa_cons (pe_ix ix_list (pv 1) (pv 5) fun _ _ => rfl) (pa_cons (pv 6) pa_nil))) pa_nil)))))))
      (pss_one (ps_ret (pv 3)))))), ?_⟩
    have big : (1000000 : Nat) ≤ sizeLine := by decide
    refine ⟨_, rfl, p, x, y, 3, rfl, hp, by decide, by decide, fun r1 x1 y1 hr0 hr1 => ?_⟩
    refine ⟨_, _, rfl, rfl, _, rfl, ?_⟩
    have s01 : SameX p H (L2.upd H p (feedO x1 y1)) := (SameX.refl p H).upd
    refine ite2 (fun _ => ?_) (fun _ => ?_)
    · refine ⟨_, rfl, rfl, fun pk us H1 s1 hn e1 e2 => ?_⟩
      have hpk : pk ≠ p := fun z => by rw [z, upd_same] at hn; cases hn
      have hus : us.length = 13 := dpAll_len e2
      refine ⟨p, x1, y1, s1 _ _ upd_same, .inl ⟨pk, us, rfl, SqL.of e1, hpk, by omega, by omega, fun v x2 y2 hv => ?_⟩⟩
      obtain ⟨d, hd, hvd⟩ := dpAll_mem e2 hv
      obtain ⟨ps, hps, rfl⟩ := List.mem_map.mp hd
      refine q v ps x2 y2 _ (s01.trans (Same.x s1)).upd upd_same ?_ (known_good ps hps)
      rw [del_upd]
      exact dp_same (nw_del upd_same) _ _ hvd
    · refine ⟨_, rfl, trivial, fun pk us H1 s1 hn e1 e2 => ?_⟩
      have hpk : pk ≠ p := fun z => by rw [z, upd_same] at hn; cases hn
      have hus : us.length = 3 := dpAll_len e2
      refine ⟨p, x1, y1, s1 _ _ upd_same, .inl ⟨pk, us, rfl, SqL.of e1, hpk, by omega, by omega, fun v x2 y2 hv => ?_⟩⟩
      obtain ⟨d, hd, hvd⟩ := dpAll_mem e2 hv
      obtain ⟨N, hN, rfl⟩ := List.mem_map.mp hd
      obtain ⟨n4, nnd, nw1, nq, nal⟩ := names3_ok N hN
      have hvd := dp_same (nw_del (H' := H1) upd_same) _ _ hvd
      have s02 : SameX p H (L2.upd H1 p (feedO x2 y2)) := (s01.trans (Same.x s1)).upd
      cases hvd with
      | lst g1 g2 =>
        rename_i ln vs
        obtain rfl := nm_vs g2
        refine ⟨_, rfl, p, x2, y2, 4, rfl, upd_same, by decide, by decide, fun r x3 y3 h0 h1 => ?_⟩
        rw [upd2]
        refine ⟨_, _, rfl, rfl, Nat.zero_le _, fun l hl => ⟨_, _, _, rfl, ?_⟩⟩
        have hlp : l ≠ p := fun z => by rw [z, upd_same] at hl; cases hl
        have hl1 : H1 l = none := by rw [upd_ne hlp] at hl; exact hl
        have hlB : L2.del H1 p l = none := by rw [del_ne hlp]; exact hl1
        refine ⟨_, rfl, 1 + r, rfl, by omega, by omega, ?_⟩
        have sB : Same (L2.del H1 p) (L2.upd (L2.upd H1 p (feedO x3 y3)) l (.lst [])) := fun b o e => by
          have hb : b ≠ p := fun z => by rw [z, del_same] at e; cases e
          rw [upd_ne (ne_of_none e hlB), upd_ne hb]
          rw [del_ne hb] at e
          exact e
        refine for_it (walk_range (lo := 0) (n := (1 + r).toNat)) (fun i σ H' => ∃ ps ts xx yy w5 c5 c6, σ = [some (.ref p), some (.ref ln), some (.int (1 + r)), some (.ref l), some (.int w5), c5, c6] ∧ Same (L2.del H1 p) H' ∧ H' p = some (feedO xx yy) ∧ H' l = some (.lst ts) ∧
            DpAll K (L2.del H' p) ts (prD ps) ∧ ps.map (·.1) = N.take i ∧ ∀ q ∈ ps, 0 ≤ q.2 ∧ q.2 ≤ 3)
          ⟨[], [], x3, y3, 0, none, none, rfl, sB, by rw [upd_ne hlp.symm, upd_same], upd_same, .nil, by simp, by simp⟩ (fun _ _ _ _ _ => trivial) (fun i z σ H2 H' hi hp' hy => ?_) (fun σ H' hp' => ?_)
        · obtain ⟨ps, ts, xx, yy, w5, c5, c6, rfl, sH, k1, k2, k3, k4, k5⟩ := hp'
          obtain ⟨rfl, rfl⟩ := hy
          have hi4 : i < N.length := by omega
          refine ⟨_, rfl, _, rfl, _, _, rfl, rfl, _, rfl, ?_⟩
          refine ite2 (fun _ => ?_) (fun _ => ?_)
          all_goals
            refine ⟨p, xx, yy, _, rfl, k1, by decide, by decide, fun a x4 y4 ha0 ha1 => ?_⟩
            have ha3 : a ≤ 3 := by omega
            refine ⟨_, rfl, _, rfl, _, _, rfl, rfl, .inr ⟨_, rfl, _, _, rfl, rfl, ?_⟩⟩
            have m2 : (L2.upd H' p (feedO x4 y4)) l = some (.lst ts) := by rw [upd_ne hlp]; exact k2
            have sH2 : Same (L2.del H1 p) (L2.upd H' p (feedO x4 y4)) := fun b o e => by
              have hb : b ≠ p := fun z => by rw [z, del_same] at e; cases e
              rw [upd_ne hb]
              exact sH b o e
            refine ⟨_, rfl, .inl ⟨rfl, _, SqL.of m2⟩, ?_⟩
            refine ⟨_, rfl, _, rfl, ln, _, _, .str (N[i]), rfl, rfl, Same.seq sH2 g1, ?_, _, rfl, (by show 2 ≤ sizeLine; decide), fun t ht => ?_⟩
            · rw [Int.zero_add]
              exact atI_nat (by rw [List.getElem?_map, List.getElem?_eq_getElem hi4]; rfl)
            · have htl : l ≠ t := ne_of_none m2 ht
              have htp : p ≠ t := ne_of_none (upd_same : (L2.upd H' p (feedO x4 y4)) p = _) ht
              have ets : ts.length ≤ 4 := by
                have e1 := dpAll_len k3
                have e2 := congrArg List.length k4
                rw [List.length_map, List.length_take] at e2
                have e3 : (prD ps).length = ps.length := List.length_map ..
                omega
              refine ⟨l, ts, _, rfl, rfl, by rw [upd_ne htl]; exact m2, by omega, ?_⟩
              refine ⟨ps ++ [(N[i], a)], ts ++ [.ref t], x4, y4, _, _, _, rfl, ?_, ?_, upd_same, ?_, ?_, ?_⟩
              · intro b o e
                rw [upd_ne (ne_of_none e hlB), upd_ne (ne_of_none (sH2 b o e) ht)]
                exact sH2 b o e
              · rw [upd_ne hlp.symm, upd_ne htp, upd_same]
              · have sD : Same (L2.del H' p) (L2.del (L2.upd (L2.upd H' p (feedO x4 y4)) t (.tup [.str (N[i]), .int a])) p) := by
                  refine SameX.del fun b o e hb => ?_
                  have e' : (L2.upd H' p (feedO x4 y4)) b = some o := by rw [upd_ne hb]; exact e
                  rw [upd_ne (ne_of_none e' ht)]
                  exact e'
                have k3' := dpAll_same sD _ _ k3
                have et : (L2.del (L2.upd (L2.upd H' p (feedO x4 y4)) t (.tup [.str (N[i]), .int a])) p) t = some (.tup [.str (N[i]), .int a]) := by rw [del_ne htp.symm, upd_same]
                have el : (L2.del (L2.upd (L2.upd H' p (feedO x4 y4)) t (.tup [.str (N[i]), .int a])) p) l = some (.lst ts) := by rw [del_ne hlp, upd_ne htl]; exact m2
                have k6 : DpAll K (L2.del (L2.upd (L2.upd H' p (feedO x4 y4)) t (.tup [.str (N[i]), .int a])) p) (ts ++ [.ref t]) (prD (ps ++ [(N[i], a)])) := by
                  unfold prD
                  rw [List.map_append]
                  exact dpAll_app k3' (.cons (.tup (SqT.of et) (.cons (.str _) (.cons (.int _) .nil))) .nil)
                have k7 := pr_updL (o := .lst (ts ++ [.ref t])) el k6
                have e9 : L2.del (L2.upd (L2.upd (L2.upd H' p (feedO x4 y4)) t (.tup [.str (N[i]), .int a])) l (.lst (ts ++ [.ref t]))) p = L2.upd (L2.del (L2.upd (L2.upd H' p (feedO x4 y4)) t (.tup [.str (N[i]), .int a])) p) l (.lst (ts ++ [.ref t])) := by
                  funext b
                  by_cases hb : b = p
                  · subst hb; rw [del_same, upd_ne hlp.symm, del_same]
                  · rw [del_ne hb]
                    by_cases hbl : b = l
                    · subst hbl; rw [upd_same, upd_same]
                    · rw [upd_ne hbl, upd_ne hbl, del_ne hb]
                rw [e9]
                exact k7
              · rw [List.map_append, k4, List.take_succ, List.getElem?_eq_getElem hi4]
                rfl
              · intro q hq
                rcases List.mem_append.mp hq with hq | hq
                · exact k5 q hq
                · rw [List.mem_singleton.mp hq]
                  exact ⟨ha0, ha3⟩
        · obtain ⟨ps, ts, xx, yy, w5, c5, c6, rfl, sH, k1, k2, k3, k4, k5⟩ := hp'
          have hps : ps.length = (1 + r).toNat := by
            have e2 := congrArg List.length k4
            rw [List.length_map, List.length_take] at e2
            omega
          refine ⟨_, rfl, ?_⟩
          refine q (.ref l) ps xx yy H' (fun b o e hb => ?_) k1 (.lst (SqL.of (by rw [del_ne hlp]; exact k2)) k3) ⟨by omega, by omega, ?_, ?_, ?_, ?_⟩
          · refine sH b o ?_
            rw [del_ne hb]
            exact s1 _ _ (by rw [upd_ne hb]; exact e)
          · rw [k4]
            exact List.Nodup.sublist (List.take_sublist _ _) nnd
          · intro q hq
            refine ⟨nw1 _ ?_, k5 q hq⟩
            have : q.1 ∈ ps.map (·.1) := List.mem_map.mpr ⟨q, hq, rfl⟩
            rw [k4] at this
            exact List.mem_of_mem_take this
          · rw [k4]
            exact fun m => nq (List.mem_of_mem_take m)
          · intro q hq
            have : q.1 ∈ ps.map (·.1) := List.mem_map.mpr ⟨q, hq, rfl⟩
            rw [k4] at this
            exact nal _ (List.mem_of_mem_take this)
end
end Sg

set_option maxRecDepth 100000
set_option maxHeartbeats 4000000
/-! xs.extend(t), t a tuple -/
namespace XT
open PySem PySem.Spec PyProof.Rows L2
theorem extendW (l : Addr) (items : Array Value) (n : Nat) (b : Addr) (items2 : Array Value) (n2 : Nat) (dd : Option Addr) (sl : Array (Option Value)) (h0 : ¬(!items.isEmpty && Builtin.List.listTooLong (items.size + items2.size)) = true) (h1 : items.size ≤ sizeLine) (h2 : items.size + items2.size ≤ sizeLine + 1) :
    Meets (Builtin.«list.extend» ⟨[.ref l, .ref b], []⟩) (fun _ R s => s.heap.get? l = some { cls := .type "list", dict := none, data := .seq items n, slots := #[] } ∧ s.heap.get? b = some { cls := .type "tuple", dict := dd, data := .seq items2 n2, slots := sl } ∧
      R (.ok (.ret Value.none)) { s with heap := s.heap.update l (Obj.mapSeq fun x => x ++ items2), toks := s.toks }) :=
  .of_wp fun prog w A R s h => by
    obtain ⟨hp, g, d, tk, os⟩ := s
    obtain ⟨hl, hb, h⟩ := h
    have f2 := AutoSeq1.sub_tuple_tuple
    have f3 := AutoSeq1.sub_list_list
    have f4 := AutoSeq1.sub_tuple_list
    have f5 := AutoSeq1.sub_list_tuple
    have hz' : (items ++ items2).size ≤ sizeLine + 1 := by rw [Array.size_append]; exact h2
    wp_walk using (wpAny_updateSeq hl rfl (hz := h1) (_hz' := hz')), wpAny_loadPart' hl, wpAny_loadPart' hb
    exact ⟨_, rfl, h⟩
def rExtT (K : PySem.W.Frag) : V → List V → Hp → VK → Prop := fun x vs H Q => ∃ l b xs zs, x = .ref l ∧ vs = [.ref b] ∧ H l = some (.lst xs) ∧ SqT K H b zs ∧ xs.length + zs.length ≤ sizeLine ∧ Q .non (upd H l (.lst (xs ++ zs)))
theorem mt_extendT {X : Cx} : MtM X "list.extend" (rExtT X.K) := by
  intro pins s σ H x vs v us Q I rx rv h
  obtain ⟨l, b, xs, zs, rfl, rfl, hH, hB, hz, q⟩ := h
  cases rx
  obtain ⟨u, rfl, ru⟩ := rv.one
  cases ru
  obtain ⟨z, its, n, r, hl, e⟩ := I.lstM hH
  obtain ⟨its2, r2, ⟨⟨cls, dd, data, sl⟩, ho, hc, n2, hd⟩, hs⟩ := I.tuple hB
  simp only at hc hd
  subst hc hd
  have l2 : its2.length = zs.length := r2.length.symm
  have hsz : its.toArray.size + its2.toArray.size ≤ sizeLine := by rw [List.size_toArray, List.size_toArray]; omega
  have hlong : ¬ (!its.toArray.isEmpty && Builtin.List.listTooLong (its.toArray.size + its2.toArray.size)) = true := by
    rw [notLongL hsz, Bool.and_false]
    exact Bool.false_ne_true
  refine call_meets PySem.F.slot_list_extend ⟨_, e, rfl⟩ PySem.F.entry_list_extend (PySem.F.args_list_extend_2 _ _) (extendW l its.toArray n b its2.toArray n2 dd sl hlong (by rw [List.size_toArray]; omega) (by omega)) ⟨e, ho, ?_⟩
  refine ⟨.non, _, I.lset (its' := its ++ its2) hH e (by simp) (r.append r2) ?_, rfl, q⟩
  rw [List.length_append]
  omega
end XT

set_option maxRecDepth 100000
set_option maxHeartbeats 4000000
namespace Sg
open PySem PySem.Spec PyProof.Rows L2 Dr Gd Er Cm Ow XT
abbrev sIsTerm : Stmt := top 18
abbrev sHead : Stmt := top 19
def Uc : Str := "ABCDEFGHIJKLMNOPQRSTUVWXYZ"
def headOk (ps : List (Str × Int)) (e : PyData) (n : Nat) : Bool := match arD ps e with
  | some m => decide (((n + 1 : Nat) : Int) = m + 1)
  | none => false
mutual
def isTerm (ps : List (Str × Int)) : PyData → Bool
  | .str z => wordIn Uc z
  | .tuple [] => false
  | .tuple (e :: r) => headOk ps e r.length && allTerm ps r
  | .none => false
  | .bool _ => false
  | .int _ => false
  | .list _ => false
  | .dict _ => false
def allTerm (ps : List (Str × Int)) : List PyData → Bool
  | [] => true
  | d :: r => isTerm ps d && allTerm ps r
end
mutual
def tsz : PyData → Nat
  | .tuple ds => 1 + tszs ds
  | .list ds => 1 + tszs ds
  | .str _ => 1
  | .none => 1
  | .bool _ => 1
  | .int _ => 1
  | .dict _ => 1
def tszs : List PyData → Nat
  | [] => 0
  | d :: r => tsz d + tszs r
end
mutual
def okT : PyData → Bool
  | .tuple ds => okTs ds
  | .list ds => okTs ds
  | .str z => decide (z.length ≤ 1000)
  | .none => true
  | .bool _ => true
  | .int _ => true
  | .dict _ => true
def okTs : List PyData → Bool
  | [] => true
  | d :: r => okT d && okTs r
end
theorem allTerm_app (ps : List (Str × Int)) : ∀ a b : List PyData, allTerm ps (a ++ b) = (allTerm ps a && allTerm ps b)
  | [], b => by simp [allTerm]
  | d :: a, b => by
    rw [List.cons_append, allTerm, allTerm, allTerm_app ps a b, Bool.and_assoc]
theorem tszs_app : ∀ a b : List PyData, tszs (a ++ b) = tszs a + tszs b
  | [], b => by simp [tszs]
  | d :: a, b => by
    rw [List.cons_append, tszs, tszs, tszs_app a b, Nat.add_assoc]
theorem okTs_app : ∀ a b : List PyData, okTs (a ++ b) = (okTs a && okTs b)
  | [], b => by simp [okTs]
  | d :: a, b => by
    rw [List.cons_append, okTs, okTs, okTs_app a b, Bool.and_assoc]
theorem tsz_pos : ∀ d : PyData, 1 ≤ tsz d := by
  intro d
  cases d <;> simp [tsz]
theorem tszs_len : ∀ ds : List PyData, ds.length ≤ tszs ds
  | [] => by simp [tszs]
  | d :: r => by
    have := tszs_len r
    have := tsz_pos d
    rw [List.length_cons, tszs]
    omega
def spHead (K : PySem.W.Frag) (C : Addr) : Sp := fun vs H Q _ => ∃ x v ds ps, vs = [.ref x, v] ∧ SgAt C H x ps ∧ Dp K H v (.tuple ds) ∧ Q (.bl (match ds with | [] => false | e :: r => headOk ps e r.length)) H
def spIsT (K : PySem.W.Frag) (C : Addr) : Sp := fun vs H Q _ => ∃ x v d ps, vs = [.ref x, v] ∧ SgAt C H x ps ∧ Dp K H v d ∧ okT d = true ∧ tsz d ≤ 5000 ∧ ∀ H', Same H H' → Q (.bl (isTerm ps d)) H'
structure ArAt (P : Program) (w : World) (K : PySem.W.Frag) (mg : Str → Option Value) (base : Heap) (cS C fa : Addr) (da : FuncData) : Prop where
  m : Meth K C "arity" fa
  ok : FnOk P w K mg base (L2.CX P w) 2 fa da ["self", "name"] (spAr K cS C)
  b : Binds K da ["self", "name"] []
section
variable {P : Program} {w : World} {K : PySem.W.Frag} {mg : Str → Option Value} {base : Heap} {cS C fa fh fW fH : Addr} {da dh dW dH : FuncData}
theorem scHd : FnScope ["signs", "value"] ["signs", "value"] (defScope sHead) := ⟨rfl, rfl, rfl, by decide +kernel, rfl, by decide +kernel, by decide +kernel⟩
theorem atI_head {y : V} {ys : List V} : atI (y :: ys) 0 = some y := atI_nat (show (y :: ys)[0]? = some y from rfl)
theorem ok_head {f : Addr} {fd : FuncData} (F : Fun K "_has_head" "_has_head" sHead f fd) (T : KTxt mg) (S : SCl K C) (h4 : HasAt K C fh dh) (M : ArAt P w K mg base cS C fa da) : FnOk P w K mg base CX0 3 f fd ["signs", "value"] (spHead K C) := by
  refine F.ok scHd (fun vs H Q E h => ?_) (fun cdv A outer s H vs Q E hr h => ?_)
  · obtain ⟨x, v, ds, ps, rfl, _⟩ := h
    rfl
  · obtain ⟨x, v, ds, ps, rfl, hS, hd, q⟩ := h
    have r1 : Room 1 (A.deeper (envOfC "_has_head" (defScope sHead) s.heap.objs.size f cdv)) := hr.mono (by decide)
    refine ⟨_, pss_one (ps_ret (pe_and (pe_cmpR op_gt (pe_callB call_len_seq (by rfl) T.len PySem.boot_len (pa_cons (pv 1) pa_nil)) pe_int (nomark _))
      (pe_and (pe_cmpR (op_inOwn (ok_has h4.F T S) r1 h4.at_ h4.fn h4.b pass0) (pe_ix ix_tup (pv 1) pe_int fun _ _ => rfl) (pv 0) (by rfl))
      (pe_one (pe_cmpR op_eq (pe_callB call_len_seq (by rfl) T.len PySem.boot_len (pa_cons (pv 1) pa_nil)) (pe_op op_add (pe_meth (pv 0) S.cl M.m M.ok hr M.b .nil passL (pa_cons (pe_ix ix_tup (pv 1) pe_int fun _ _ => rfl) pa_nil)) pe_int) (nomark _)))))), ?_⟩
    obtain ⟨dx, dn, h1, h2⟩ := id hS
    cases hd with
    | tup g1 g2 =>
      rename_i a xs
      have hl := dpAll_len g2
      refine ⟨_, rfl, a, _, rfl, .inr g1, _, _, rfl, rfl, _, rfl, ?_⟩
      refine ite2 (fun c => ?_) (fun c => ?_)
      · have c := of_decide_eq_true c
        cases g2 with
        | nil => exact absurd c (by simp)
        | @cons y ys e r he hr' =>
            refine ⟨_, rfl, a, _, 0, y, rfl, rfl, g1, atI_head, _, rfl, x, dx, _, rfl, h1, x, y, e, ps, rfl, hS, he, _, rfl, _, rfl, ?_⟩
            cases har : arD ps e with
            | none =>
              have hno : hasD ps e = false := by
                cases e with
                | str z =>
                  show hasN ps z = false
                  rw [← arOf_has]
                  rw [show arOf ps z = none from har]
                  rfl
                | _ => rfl
              rw [hno]
              refine iteF ?_
              have q : Q (.bl (headOk ps e r.length)) H := q
              unfold headOk at q
              rw [har] at q
              exact q
            | some n =>
              have hyes : hasD ps e = true := by
                cases e with
                | str z =>
                  show hasN ps z = true
                  rw [← arOf_has]
                  rw [show arOf ps z = some n from har]
                  rfl
                | _ => cases har
              rw [hyes]
              refine iteT ?_
              refine ⟨_, rfl, a, _, rfl, .inr g1, _, rfl, x, dx, _, rfl, h1, rfl, _, rfl, a, _, 0, y, rfl, rfl, g1, atI_head, x, y, e, ps, rfl, hS, he, (fun n' e' => ?_), (fun e' => by rw [har] at e'; cases e')⟩
              have en : n' = n := by
                rw [har] at e'
                exact (Option.some.inj e').symm
              subst en
              refine ⟨_, _, rfl, rfl, rfl, ?_⟩
              have q : Q (.bl (headOk ps e r.length)) H := q
              unfold headOk at q
              rw [har] at q
              have e2 : decide (V.int ((y :: ys).length : Int) = V.int (n' + 1)) = decide (((r.length + 1 : Nat) : Int) = n' + 1) := by
                have : (y :: ys).length = r.length + 1 := hl
                rw [this]
                exact decide_eq_decide.mpr ⟨fun z => by injection z, fun z => by rw [z]⟩
              rw [e2]
              exact q
      · have c : ¬ (0 : Int) < (xs.length : Int) := fun z => c (decide_eq_true z)
        have : ds = [] := by
          cases ds with
          | nil => rfl
          | cons _ _ => rw [List.length_cons] at hl; omega
        subst this
        exact q
theorem scIt : FnScope ["signs", "value", "todo", "part"] ["signs", "value"] (defScope sIsTerm) := ⟨rfl, rfl, rfl, by decide +kernel, rfl, by decide +kernel, by decide +kernel⟩
theorem last_split {K : PySem.W.Frag} {H : Hp} {vs : List V} {ds : List PyData} (h : DpAll K H vs ds) (hn : vs ≠ []) : ∃ d v r, ds = r ++ [d] ∧ vs[vs.length - 1]? = some v ∧ Dp K H v d ∧ DpAll K H vs.dropLast r := by
  have hl := dpAll_len h
  have hp : 0 < vs.length := List.length_pos_iff.mpr hn
  have hd : ds ≠ [] := fun z => by rw [z] at hl; simp at hl; exact hn hl
  obtain ⟨v, hv⟩ : ∃ v, vs[vs.length - 1]? = some v := ⟨_, List.getElem?_eq_getElem (by omega)⟩
  obtain ⟨d, e1, e2⟩ := dpAll_get' h hv
  refine ⟨d, v, ds.dropLast, ?_, hv, e2, ?_⟩
  · rw [hl] at e1
    have : ds.getLast hd = d := by
      rw [List.getLast_eq_getElem]
      exact (List.getElem?_eq_some_iff.mp e1).2
    rw [← this]
    exact (List.dropLast_concat_getLast hd).symm
  · rw [List.dropLast_eq_take, List.dropLast_eq_take, ← hl]
    have tk : ∀ (k : Nat) {vs : List V} {ds : List PyData}, DpAll K H vs ds → DpAll K H (vs.take k) (ds.take k) := by
      intro k
      induction k with
      | zero => intro vs ds _; exact .nil
      | succ k ih =>
        intro vs ds h
        cases h with
        | nil => exact .nil
        | cons a b => exact .cons a (ih b)
    exact tk _ h
theorem cut_from1 (xs : List V) : cutV xs (some 1) none = xs.drop 1 := by
  unfold cutV
  rw [HT.sIx_none, show HT.sIx xs.length 0 (some 1) = min 1 xs.length from HT.sIx_nat _ _ 1]
  rcases Nat.le_total 1 xs.length with h | h
  · rw [Nat.min_eq_left h, List.take_of_length_le (by rw [List.length_drop]; omega)]
  · rw [Nat.min_eq_right h, List.drop_eq_nil_of_le h, List.drop_eq_nil_of_le (Nat.le_refl _), List.take_nil]
theorem ok_isTerm {f : Addr} {fd : FuncData} (F : Fun K "is_term" "is_term" sIsTerm f fd) (T : KTxt mg) (GH : Cal P w K mg base CX0 3 "_has_head" fH dH ["signs", "value"] (spHead K C)) (GW : Cal P w K mg base CX0 1 "is_word" fW dW ["value", "letters"] (spWord K)) (cap : ∃ t, mg "CAPITAL" = some (.str Uc t)) :
    FnOk P w K mg base CX0 4 f fd ["signs", "value"] (spIsT K C) := by
  obtain ⟨tU, mU⟩ := cap
  refine F.ok scIt (fun vs H Q E h => ?_) (fun cdv A outer s H vs Q E hr h => ?_)
  · obtain ⟨x, v, d, ps, rfl, _⟩ := h
    rfl
  · obtain ⟨x, v, d, ps, rfl, hS, hd, hok, hsz, q⟩ := h
    have r1 : Room 1 (A.deeper (envOfC "is_term" (defScope sIsTerm) s.heap.objs.size f cdv)) := hr.mono (by decide)
    refine ⟨_, pss_cons (ps_set (i := 2) scIt.nd rfl (Or.inl rfl) (pe_lst (pa_cons (pv 1) pa_nil)))
      (pss_cons (ps_while PassesOwn.never (pt_truth (pv 2) (by intro _; rfl))
        (pss_cons (ps_set (i := 3) scIt.nd rfl (Or.inl rfl) (pe_bm0 PySem.F.plainAttrs_list PySem.F.slot_list_pop PySem.F.type_list_pop mt_pop (pv 2)))
        (pss_one (ps_if (pt_val (pe_callB call_isi (by rfl) T.isi (by decide +kernel) (pa_cons (pv 3) (pa_cons (pe_bltn (v := .ty "tuple") (by rfl) T.tup (by decide +kernel) rfl) pa_nil))))
          (pss_cons (ps_if (pt_not (pt_val (pe_call GH.ok hr rfl GH.g GH.kp GH.b .nil pass0 (pa_cons (pv 0) (pa_cons (pv 3) pa_nil))))) (pss_one (ps_ret pe_bl)) pss_nil)
          (pss_one (ps_expr (pe_bm PySem.F.plainAttrs_list PySem.F.slot_list_extend PySem.F.type_list_extend mt_extendT (pv 2) (pa_cons (pe_slice sl_tup (pv 3) (po_some pe_int) po_none) pa_nil)))))
          (pss_one (ps_if (pt_not (pt_val (pe_call GW.ok r1 rfl GW.g GW.kp GW.b .nil pass0 (pa_cons (pv 3) (pa_cons (pe_glob (v := .str Uc) rfl mU ⟨_, rfl⟩) pa_nil))))) (pss_one (ps_ret pe_bl)) pss_nil))))))
      (pss_one (ps_ret pe_bl))), ?_⟩
    refine ⟨_, rfl, (by show 1 ≤ sizeLine; decide), fun l hl => ?_⟩
    have s1 := same_upd (o := .lst [v]) hl
    refine ⟨fun m σ H' => ∃ vs ds c3, m = tszs ds ∧ σ = [some (.ref x), some v, some (.ref l), c3] ∧ Same H H' ∧ H' l = some (.lst vs) ∧ DpAll K (L2.del H' l) vs ds ∧ okTs ds = true ∧ tszs ds ≤ 5000 ∧ isTerm ps d = allTerm ps ds, ⟨tszs [d], [v], [d], none, rfl, rfl, s1, upd_same, ?_, ?_, ?_, ?_⟩, ?_⟩
    · refine .cons (dp_same (fun b o e => ?_) _ _ hd) .nil
      rw [del_ne (ne_of_none e hl), upd_ne (ne_of_none e hl)]
      exact e
    · simp [okTs, hok]
    · simpa [tszs] using hsz
    · simp [allTerm]
    · rintro m σ H0 ⟨vs, ds, c3, rfl, rfl, sm, hL, hds, hko, hzz, heq⟩
      refine ⟨_, rfl, !vs.isEmpty, .inl ⟨vs, SqL.of hL, rfl⟩, ?_⟩
      refine ite2 (fun hc => ?_) (fun hc => ?_)
      · have hne : vs ≠ [] := fun z => by rw [z] at hc; cases hc
        obtain ⟨dl, vl, rd, rfl, hvl, hdl, hrd⟩ := last_split hds hne
        rw [okTs_app, Bool.and_eq_true] at hko
        have hkl : okT dl = true := by have := hko.2; simpa [okTs] using this
        rw [tszs_app] at hzz
        have hz1 : tszs [dl] = tsz dl := by simp [tszs]
        rw [hz1] at hzz
        rw [allTerm_app, show allTerm ps [dl] = isTerm ps dl from by simp [allTerm]] at heq
        have lenv : vs.dropLast.length = rd.length := dpAll_len hrd
        have lrd := tszs_len rd
        refine ⟨fun σ' H' => ∃ m', m' < tszs (rd ++ [dl]) ∧ ∃ vs ds c3, m' = tszs ds ∧ σ' = [some (.ref x), some v, some (.ref l), c3] ∧ Same H H' ∧ H' l = some (.lst vs) ∧ DpAll K (L2.del H' l) vs ds ∧ okTs ds = true ∧ tszs ds ≤ 5000 ∧ isTerm ps d = allTerm ps ds, fun _ _ z => z, ?_⟩
        refine ⟨_, rfl, .inl ⟨rfl, _, SqL.of hL⟩, l, vs, vl, rfl, rfl, hL, hvl, ?_⟩
        have hl0 : ∀ b o, H b = some o → b ≠ l := fun b o e => ne_of_none e hl
        have e1 : (L2.upd H0 l (.lst vs.dropLast)) l = some (.lst vs.dropLast) := upd_same
        have sm1 : Same H (L2.upd H0 l (.lst vs.dropLast)) := fun b o e => by rw [upd_ne (hl0 b o e)]; exact sm b o e
        have dd1 : L2.del (L2.upd H0 l (.lst vs.dropLast)) l = L2.del H0 l := del_upd
        generalize (L2.upd H0 l (.lst vs.dropLast)) = H1 at e1 sm1 dd1 ⊢
        rw [← dd1] at hdl hrd
        have sdel : Same (L2.del H1 l) H1 := fun b o e => by
          by_cases hb : b = l
          · subst hb; rw [del_same] at e; cases e
          · rw [del_ne hb] at e; exact e
        have hdl1 : Dp K H1 vl dl := dp_same sdel _ _ hdl
        refine ⟨_, rfl, vl, .ty "tuple", .type (tyD dl), .type "tuple", _, rfl, .ty _, ty_dp hdl1, kit_ty (k_tup dl), _, rfl, ?_⟩
        have leaf : (∀ z, dl = .tuple z → False) → isTerm ps dl = isWord Uc dl := fun h => by
          cases dl with
          | tuple z => exact (h z rfl).elim
          | str z => simp [isTerm]; rfl
          | _ => simp [isTerm]; rfl
        cases hdl with
        | tup k1 k2 =>
          rename_i ta ya es
          have g1 := seqT_same sdel k1
          have g2 := dpAll_same sdel _ _ k2
          refine iteT ?_
          refine ⟨_, rfl, _, rfl, x, .ref ta, es, ps, rfl, hS.same sm1, .tup g1 g2, _, rfl, ?_⟩
          cases es with
          | nil =>
            refine iteT ?_
            have e9 : isTerm ps d = false := by rw [heq]; simp [isTerm]
            have z := q H1 sm1
            rw [e9] at z
            exact z
          | cons e r =>
            have hT : isTerm ps (.tuple (e :: r)) = (headOk ps e r.length && allTerm ps r) := by rw [isTerm]
            rw [hT] at heq
            refine ite2 (fun hc2 => ?_) (fun hc2 => ?_)
            · have hc2 : headOk ps e r.length = false := by simpa using hc2
              have e9 : isTerm ps d = false := by rw [heq, hc2]; simp
              have z := q H1 sm1
              rw [e9] at z
              exact z
            · have hc2 : headOk ps e r.length = true := by simpa using hc2
              rw [hc2, Bool.true_and] at heq
              have ylen : ya.length = r.length + 1 := dpAll_len g2
              refine ⟨_, rfl, .inl ⟨rfl, _, SqL.of e1⟩, _, rfl, 1, rfl, ta, ya, rfl, g1, ?_, fun p hp => ?_⟩
              · rw [show HT.sIx ya.length 0 (some 1) = min 1 ya.length from HT.sIx_nat _ _ 1]
                omega
              · rw [cut_from1]
                have sp := same_upd (o := .tup (ya.drop 1)) hp
                have hlp : l ≠ p := ne_of_none e1 hp
                have rlen : (ya.drop 1).length = r.length := by rw [List.length_drop, ylen]; omega
                have lr := tszs_len r
                have hzt : tsz (.tuple (e :: r)) = 1 + (tsz e + tszs r) := by rw [tsz, tszs]
                rw [hzt] at hzz
                have pe := tsz_pos e
                refine ⟨l, p, _, _, rfl, rfl, sp _ _ e1, SqT.of upd_same, ?_, ?_⟩
                · have big : (20000 : Nat) ≤ sizeLine := by decide
                  rw [lenv, rlen]
                  omega
                · refine ⟨tszs (rd ++ r), ?_, vs.dropLast ++ ya.drop 1, rd ++ r, _, rfl, rfl, ?_, upd_same, ?_, ?_, ?_, ?_⟩
                  · rw [tszs_app, tszs_app]
                    rw [show tszs [PyData.tuple (e :: r)] = 1 + (tsz e + tszs r) from by simp [tszs, tsz]]
                    omega
                  · exact fun b o e => by
                      rw [upd_ne (hl0 b o e)]
                      exact sp _ _ (sm1 b o e)
                  · rw [del_upd]
                    have sD : Same (L2.del H1 l) (L2.del (L2.upd H1 p (.tup (ya.drop 1))) l) := fun b o e => by
                      have hb : b ≠ l := fun z => by rw [z, del_same] at e; cases e
                      rw [del_ne hb] at e ⊢
                      exact sp b o e
                    refine dpAll_app (dpAll_same sD _ _ hrd) (dpAll_same sD _ _ ?_)
                    cases k2 with
                    | cons _ k3 => exact k3
                  · rw [okTs_app, hko.1, Bool.true_and]
                    have := hkl
                    rw [okT, okTs, Bool.and_eq_true] at this
                    exact this.2
                  · rw [tszs_app]
                    omega
                  · rw [allTerm_app]
                    exact heq
        | _ =>
          refine iteF ?_
          have lf := leaf (fun z e => by cases e)
          refine ⟨_, rfl, _, _, Uc, rfl, hdl1, (fun z e => ?_), fun H2 s2 => ⟨_, rfl, ?_⟩⟩
          · rw [e] at hkl
            have : z.length ≤ 1000 := by simpa [okT] using hkl
            exact Nat.le_trans this (by decide)
          · rw [← lf]
            refine ite2 (fun hc2 => ?_) (fun hc2 => ?_)
            · have e9 : isTerm ps d = false := by rw [heq]; simp at hc2; rw [hc2]; simp
              have z := q H2 (Same.trans sm1 s2)
              rw [e9] at z
              exact z
            · refine ⟨tszs rd, ?_, vs.dropLast, rd, _, rfl, rfl, Same.trans sm1 s2, s2 _ _ e1, dpAll_same (SameX.del (Same.x s2)) _ _ hrd, hko.1, by omega, ?_⟩
              · rw [tszs_app, hz1]
                exact Nat.lt_add_of_pos_right (tsz_pos _)
              · rw [heq]
                simp at hc2
                rw [hc2]
                simp
      · have hv : vs = [] := by
          cases vs with
          | nil => rfl
          | cons _ _ => exact absurd rfl hc
        subst hv
        have hdn : ds = [] := by cases hds; rfl
        subst hdn
        have z := q H0 sm
        rw [heq] at z
        have z : Q (V.bl true) H0 := by simpa [allTerm] using z
        exact z
end
end Sg

set_option maxRecDepth 100000
set_option maxHeartbeats 4000000
namespace Sg
open PySem PySem.Spec PyProof.Rows L2 Dr Gd Er Cm Ow XT
abbrev sLook : Stmt := top 28
def tdp : PyData → Nat := PyData.depth
theorem eqv_nil (ds : List PyData) : PyData.eqvAll ds [] = ds.isEmpty := by cases ds <;> rfl
theorem shaped_nil : SeqAt.shaped (.list []) = true := by decide
theorem shaped_tnil : SeqAt.shaped (.tuple []) = true := by decide
theorem layAll_mem : ∀ {ds : List PyData}, PyData.canLayAll0 ds = true → ∀ d ∈ ds, d.canLay0 = true
  | [], _, d, h => by cases h
  | e :: ds, h, d, hd => by
    rw [PyData.canLayAll0, Bool.and_eq_true] at h
    rcases List.mem_cons.mp hd with rfl | hd
    · exact h.1
    · exact layAll_mem h.2 d hd
theorem dep_mem : ∀ {ds : List PyData} {d : PyData}, d ∈ ds → d.depth ≤ PyData.depthAll ds
  | e :: ds, d, hd => by
    rw [PyData.depthAll]
    rcases List.mem_cons.mp hd with rfl | hd
    · exact Nat.le_max_left _ _
    · exact Nat.le_trans (dep_mem hd) (Nat.le_max_right _ _)
theorem layAll_of : ∀ {ds : List PyData}, (∀ d ∈ ds, d.canLay0 = true) → PyData.canLayAll0 ds = true
  | [], _ => rfl
  | d :: ds, h => by
    rw [PyData.canLayAll0, h d List.mem_cons_self, layAll_of fun x hx => h x (List.mem_cons_of_mem _ hx)]
    rfl
theorem dep_of : ∀ {ds : List PyData} {n : Nat}, (∀ d ∈ ds, d.depth ≤ n) → PyData.depthAll ds ≤ n
  | [], n, _ => by simp [PyData.depthAll]
  | d :: ds, n, h => by
    rw [PyData.depthAll]
    exact Nat.max_le.mpr ⟨h d List.mem_cons_self, dep_of fun x hx => h x (List.mem_cons_of_mem _ hx)⟩
/-- lists of data that may be compared -/
theorem shaped_list {ds : List PyData} (h : ∀ d ∈ ds, d.canLay0 = true ∧ d.depth ≤ 62) : SeqAt.shaped (.list ds) = true := by
  unfold SeqAt.shaped
  rw [Bool.and_eq_true]
  refine ⟨layAll_of fun d hd => (h d hd).1, decide_eq_true ?_⟩
  have := dep_of (n := 62) fun d hd => (h d hd).2
  show PyData.depth (.list _) ≤ 64
  simp only [PyData.depth]
  omega
theorem shaped_of {d : PyData} (h1 : d.canLay0 = true) (h2 : d.depth ≤ 62) : SeqAt.shaped d = true := by
  unfold SeqAt.shaped
  rw [h1, Bool.true_and]
  exact decide_eq_true (by omega)
theorem okTs_mem : ∀ {ds : List PyData}, okTs ds = true → ∀ d ∈ ds, okT d = true
  | e :: ds, h, d, hd => by
    rw [okTs, Bool.and_eq_true] at h
    rcases List.mem_cons.mp hd with rfl | hd
    · exact h.1
    · exact okTs_mem h.2 d hd
theorem tszs_mem : ∀ {ds : List PyData} {d : PyData}, d ∈ ds → tsz d ≤ tszs ds
  | e :: ds, d, hd => by
    rw [tszs]
    rcases List.mem_cons.mp hd with rfl | hd
    · omega
    · have := tszs_mem hd
      omega
theorem allTerm_filter (ps : List (Str × Int)) : ∀ r : List PyData, (r.filter fun d => !isTerm ps d).isEmpty = allTerm ps r
  | [] => by simp [allTerm]
  | d :: r => by
    rw [allTerm]
    cases h : isTerm ps d with
    | true => rw [List.filter_cons_of_neg (by simp [h]), allTerm_filter ps r]; rfl
    | false => rw [List.filter_cons_of_pos (by simp [h])]; rfl
theorem pr_at {K : PySem.W.Frag} {H : Hp} {xs : List V} {ps : List (Str × Int)} {i : Nat} {y : V} (h : DpAll K H xs (prD ps)) (g : xs[i]? = some y) : ∃ z n t, ps[i]? = some (z, n) ∧ y = .ref t ∧ SqT K H t [.str z, .int n] := by
  obtain ⟨d, h1, h2⟩ := dpAll_get' h g
  unfold prD at h1
  rw [List.getElem?_map] at h1
  cases e : ps[i]? with
  | none => rw [e] at h1; cases h1
  | some p =>
    rw [e] at h1
    obtain rfl := Option.some.inj h1
    cases h2 with
    | tup g1 g2 =>
      cases g2 with
      | cons a g2 =>
        cases g2 with
        | cons b g2 =>
          cases g2
          cases a
          cases b
          exact ⟨p.1, p.2, _, rfl, rfl, g1⟩
theorem word_filter (z : Str) : (z.cps.toList.filter fun c => !decide (c ∈ Uc.cps.toList)).isEmpty = z.cps.toList.all fun c => decide (c ∈ Uc.cps.toList) := by
  generalize z.cps.toList = cs
  induction cs with
  | nil => rfl
  | cons c cs ih =>
    rw [List.all_cons]
    cases h : decide (c ∈ Uc.cps.toList) with
    | true => rw [List.filter_cons_of_neg (by rw [h]; simp), ih]; rfl
    | false => rw [List.filter_cons_of_pos (by rw [h]; rfl)]; rfl
theorem sg_dp {K : PySem.W.Frag} {H : Hp} : ∀ cs : List Nat, DpAll K H (cs.map fun c => V.str ⟨#[c]⟩) (cs.map fun c => PyData.str ⟨#[c]⟩)
  | [] => .nil
  | c :: cs => .cons (.str _) (sg_dp cs)
theorem filter_take {α : Type} {xs : List α} {i : Nat} {x : α} (p : α → Bool) (h : xs[i]? = some x) : (xs.take (i + 1)).filter p = if p x = true then (xs.take i).filter p ++ [x] else (xs.take i).filter p := by
  rw [List.take_succ, h]
  show (xs.take i ++ [x]).filter p = _
  rw [List.filter_append]
  by_cases c : p x = true
  · rw [if_pos c, List.filter_cons_of_pos c]; rfl
  · rw [if_neg c, List.filter_cons_of_neg c]; simp
def spLook (K : PySem.W.Frag) (n : Nat) : Sp := fun vs H Q _ => ∃ vp v d ps, vs = [vp, v] ∧ Dp K H vp (psD ps) ∧ Dp K H v d ∧ ps.length ≤ 5 ∧ OkNames ps ∧ (ps.map (·.1)).Nodup ∧ okT d = true ∧ tsz d ≤ 5000 ∧ d.canLay0 = true ∧ d.depth ≤ 60 ∧ d.depth < n ∧ ∀ H', Same H H' → Q (.bl (isTerm ps d)) H'
section
variable {P : Program} {w : World} {K : PySem.W.Frag} {mg : Str → Option Value} {base : Heap}
theorem scLk : FnScope ["pairs", "value", "sign", "pair", "part"] ["pairs", "value"] (defScope sLook) := ⟨rfl, rfl, rfl, by decide +kernel, rfl, by decide +kernel, by decide +kernel⟩
theorem ok_look {f : Addr} {fd : FuncData} (F : Fun K "_law_is" "_law_is" sLook f fd) (T : KTxt mg) (g : mg "_law_is" = some (.ref f)) : ∀ n : Nat, FnOk P w K mg base CX0 n f fd ["pairs", "value"] (spLook K n)
  | 0 => ⟨fun vs H Q E h => (by obtain ⟨_, _, _, _, _, _, _, _, _, _, _, _, _, _, h, _⟩ := h; omega), fun _ _ _ _ _ _ _ _ _ _ _ _ _ h => (by obtain ⟨_, _, _, _, _, _, _, _, _, _, _, _, _, _, h, _⟩ := h; omega)⟩
  | n + 1 => by
    have IH := ok_look F T g n
    have b : Binds K fd ["pairs", "value"] [] := F.binds fun _ _ _ _ _ _ us hl => match us, hl with | [_, _], _ => rfl
    refine F.ok scLk (fun vs H Q E h => ?_) (fun cdv A outer s H vs Q E hr h => ?_)
    · obtain ⟨vp, v, d, ps, rfl, _⟩ := h
      rfl
    · obtain ⟨vp, v, d, ps, rfl, hp, hd, p5, okn, nd, hok, hsz, hlay, hdep, hdn, q⟩ := h
      refine ⟨_, pss_cons (ps_if (pt_val (pe_callB call_isi (by rfl) T.isi (by decide +kernel) (pa_cons (pv 1) (pa_cons (pe_bltn (v := .ty "str") (by rfl) T.str (by decide +kernel) rfl) pa_nil))))
          (pss_one (ps_ret (pe_and (pe_chain op_le op_le pe_int (pe_callB call_len_str (by rfl) T.len PySem.boot_len (pa_cons (pv 1) pa_nil)) pe_int)
            (pe_one (pe_cmpR (op_eqD hr.units) (pe_lc (own := [("sign", 2)]) (g := gName 2) (tt := tTest (tOp (fun x y H Q => ∃ (c : Nat) (z : Str), x = .str ⟨#[c]⟩ ∧ y = .str z ∧ Q (.bl (!decide (c ∈ z.cps.toList))) H) (tVar 2) (tC (.str Uc)))) (te := tVar 2) rfl scLk.nd (pi_str (pv 1))
              (blkOk_by (N := ["pairs", "value", "sign", "pair", "part"]) (sc := defScope sLook) (by decide +kernel)) (fun _ _ _ _ _ => pg_name (i := 2) scLk.nd rfl (Or.inl rfl)) (fun _ _ _ _ _ => pts_one (pt_cmpR op_notIn_sign (pv 2) pe_str (by rfl))) (fun _ _ _ _ _ => pv 2)) (pe_lst pa_nil) (nomark _)))))) pss_nil)
        (pss_cons (ps_if (PW.pt (pw_or (pt_not (pt_val (pe_callB call_isi (by rfl) T.isi (by decide +kernel) (pa_cons (pv 1) (pa_cons (pe_bltn (v := .ty "tuple") (by rfl) T.tup (by decide +kernel) rfl) pa_nil)))))
            (pw_or (pt_cmpR (op_eqD hr.units) (pv 1) (pe_tup pa_nil) (nomark _)) (pw_or1 (pt_not (pt_val (pe_callB call_isi (by rfl) T.isi (by decide +kernel) (pa_cons (pe_ix ix_tup (pv 1) pe_int fun _ _ => rfl) (pa_cons (pe_bltn (v := .ty "str") (by rfl) T.str (by decide +kernel) rfl) pa_nil)))))))))
          (pss_one (ps_ret pe_bl)) pss_nil)
        (pss_cons (ps_if (pt_cmpR (op_eqD hr.units) (pe_lc (own := [("pair", 3)]) (g := gName 3) (tt := tTest (tOp (rEqD K) (tVar 3) (tTup (tCons (tOp (rIxT K) (tVar 1) (tC (.int 0))) (tCons (tOp (rI0 fun i j => .int (i - j)) (tCB (fun vs H Q => ∃ (p : Addr) (xs : List V), vs = [.ref p] ∧ (SqL K H p xs ∨ SqT K H p xs) ∧ Q (.int (xs.length : Nat)) H) (tCons (tVar 1) tNil)) (tC (.int 1))) tNil))))) (te := tVar 3) rfl scLk.nd (pi_list (pv 0))
              (blkOk_by (N := ["pairs", "value", "sign", "pair", "part"]) (sc := defScope sLook) (by decide +kernel)) (fun _ _ _ _ _ => pg_name (i := 3) scLk.nd rfl (Or.inl rfl))
              (fun _ _ _ _ _ => pts_one (pt_cmpR (op_eqD hr.units) (pv 3) (pe_tup (pa_cons (pe_ix ix_tup (pv 1) pe_int fun _ _ => rfl) (pa_cons (pe_op op_sub (pe_callB call_len_seq (by rfl) T.len PySem.boot_len (pa_cons (pv 1) pa_nil)) pe_int) pa_nil))) (nomark _))) (fun _ _ _ _ _ => pv 3)) (pe_lst pa_nil) (nomark _))
          (pss_one (ps_ret pe_bl)) pss_nil)
        (pss_one (ps_ret (pe_cmpR (op_eqD hr.units) (pe_lc (own := [("part", 4)]) (g := gName 4) (tt := tNot (tB (tCall (spLook K n) [] E0 (tCons (tVar 0) (tCons (tVar 4) tNil))))) (te := tVar 4) rfl scLk.nd (pi_tup (pe_slice sl_tup (pv 1) (po_some pe_int) po_none))
              (blkOk_by (N := ["pairs", "value", "sign", "pair", "part"]) (sc := defScope sLook) (by decide +kernel)) (fun _ _ _ _ _ => pg_name (i := 4) scLk.nd rfl (Or.inl rfl)) (fun _ _ _ _ _ => pts_one (pt_not (pt_val (pe_call IH hr rfl g F.kp b .nil pass0 (pa_cons (pv 0) (pa_cons (pv 4) pa_nil)))))) (fun _ _ _ _ _ => pv 4)) (pe_lst pa_nil) (nomark _)))))), ?_⟩
      have big : (20000 : Nat) ≤ sizeLine := by decide
      refine ⟨_, rfl, v, .ty "str", .type (tyD d), .type "str", _, rfl, .ty _, ty_dp hd, kit_ty (k_str d), _, rfl, ?_⟩
      have no : (∀ z, d = .str z → False) → (∀ ds, d = .tuple ds → False) → isTerm ps d = false := fun h1 h2 => by
        cases d with
        | str z => exact (h1 z rfl).elim
        | tuple ds => exact (h2 ds rfl).elim
        | _ => simp [isTerm]
      have hd0 := hd
      cases hd with
      | str z =>
        refine iteT ?_
        have hz : z.length ≤ 1000 := by simpa [okT] using hok
        have tz : isTerm ps (.str z) = wordIn Uc z := by rw [isTerm]
        rw [tz] at q
        refine ⟨_, rfl, _, rfl, Nat.le_trans hz (by decide), _, _, rfl, rfl, _, rfl, ?_⟩
        refine ite2 (fun c1 => ?_) (fun c1 => ?_)
        · have c1 := of_decide_eq_true c1
          refine ⟨_, _, rfl, rfl, _, rfl, ?_⟩
          refine ite2 (fun c2 => ?_) (fun c2 => ?_)
          · have c2 := of_decide_eq_true c2
            refine ⟨_, rfl, z, rfl, fun D hD => ?_⟩
            refine lc_it walk_str (fun i H' => Same H H' ∧ H' D = some (.lst (((z.cps.toList.take i).filter fun c => !decide (c ∈ Uc.cps.toList)).map fun c => V.str ⟨#[c]⟩))) ⟨same_upd hD, upd_same⟩ (fun _ _ _ _ => trivial) (fun i y H1 H' hi hp' hy => ?_) (fun H' hp' => ?_)
            · obtain ⟨sm, hDl⟩ := hp'
              obtain ⟨rfl, c, hc, rfl⟩ := hy
              have e : z.cps.toList[i]? = some c := by rw [Array.getElem?_toList]; exact hc
              refine ⟨rfl, _, rfl, c, Uc, rfl, rfl, _, rfl, ?_⟩
              rw [filter_take _ e]
              refine ite2 (fun h => ?_) (fun h => ?_)
              · refine ⟨_, rfl, _, hDl, ?_, ?_, ?_⟩
                · rw [List.length_map]
                  have l1 := List.length_filter_le (fun c => !decide (c ∈ Uc.cps.toList)) (z.cps.toList.take i)
                  rw [List.length_take] at l1
                  have : i < 8 := by
                    have : z.length = z.cps.size := rfl
                    omega
                  omega
                · exact fun b o e => by
                    rw [upd_ne (ne_of_none e hD)]
                    exact sm b o e
                · rw [upd_same, if_pos h, List.map_append]
                  rfl
              · rw [if_neg h]
                exact ⟨sm, hDl⟩
            · obtain ⟨sm, hDl⟩ := hp'
              rw [List.take_of_length_le (by simp)] at hDl
              refine ⟨Nat.zero_le _, fun l2 hl2 => ?_⟩
              have s2 := same_upd (o := .lst []) hl2
              have cl : ∀ c ∈ z.cps.toList, c < 0x110000 := fun c hc => by
                have h : PyData.strOk z = true := hlay
                unfold PyData.strOk at h
                rw [Array.all_eq_true'] at h
                exact of_decide_eq_true (h c (by simpa using hc))
              refine ⟨.list ((z.cps.toList.filter fun c => !decide (c ∈ Uc.cps.toList)).map fun c => .str ⟨#[c]⟩), .list [], .lst (SqL.of (s2 _ _ hDl)) (sg_dp _), .lst (SqL.of upd_same) .nil, shaped_list (fun e he => ?_), shaped_nil, ?_⟩
              · obtain ⟨c, hc, rfl⟩ := List.mem_map.mp he
                have := cl c (List.mem_filter.mp hc).1
                refine ⟨?_, by simp [PyData.depth]⟩
                show PyData.strOk ⟨#[c]⟩ = true
                simp [PyData.strOk, this]
              · have e1 : PyData.eqv (.list ((z.cps.toList.filter fun c => !decide (c ∈ Uc.cps.toList)).map fun c => .str ⟨#[c]⟩)) (.list []) = wordIn Uc z := by
                  show PyData.eqvAll _ [] = _
                  rw [eqv_nil]
                  have e2 := word_filter z
                  unfold wordIn
                  rw [decide_eq_true (show 1 ≤ z.length by omega), decide_eq_true (show z.length ≤ 8 by omega), Bool.true_and, Bool.true_and, ← e2]
                  cases (z.cps.toList.filter fun c => !decide (c ∈ Uc.cps.toList)) <;> rfl
                rw [e1]
                exact q _ (Same.trans sm s2)
          · have c2 : ¬ (z.length : Int) ≤ 8 := fun h => c2 (decide_eq_true h)
            have e1 : wordIn Uc z = false := by
              unfold wordIn
              rw [decide_eq_false (show ¬ z.length ≤ 8 by omega)]
              simp
            rw [e1] at q
            exact q H (Same.refl H)
        · have c1 : ¬ (1 : Int) ≤ (z.length : Int) := fun h => c1 (decide_eq_true h)
          have e1 : wordIn Uc z = false := by
            unfold wordIn
            rw [decide_eq_false (show ¬ 1 ≤ z.length by omega)]
            simp
          rw [e1] at q
          exact ⟨_, rfl, iteF (q H (Same.refl H))⟩
      | tup g1 g2 =>
        rename_i a xs ds
        refine iteF ?_
        refine ⟨_, rfl, .ref a, .ty "tuple", .type "tuple", .type "tuple", _, rfl, .ty _, ty_dp hd0, kit_ty (k_tup (.tuple ds)), _, rfl, ?_⟩
        refine iteF ?_
        refine ⟨_, rfl, Nat.zero_le _, fun t0 ht0 => ?_⟩
        have s0 := same_upd (o := .tup []) ht0
        refine ⟨.tuple ds, .tuple [], dp_same s0 _ _ hd0, .tup (SqT.of upd_same) .nil, shaped_of hlay (by omega), shaped_tnil, _, rfl, ?_⟩
        rw [show PyData.eqv (.tuple ds) (.tuple []) = ds.isEmpty from eqv_nil ds]
        generalize (L2.upd H t0 (.tup [])) = H1 at s0 ⊢
        cases g2 with
        | nil =>
          refine iteT ?_
          have e : isTerm ps (.tuple []) = false := by rw [isTerm]
          rw [e] at q
          exact q _ s0
        | @cons y ys e r he hr' =>
          refine iteF ?_
          have hT : isTerm ps (.tuple (e :: r)) = (headOk ps e r.length && allTerm ps r) := by rw [isTerm]
          rw [hT] at q
          refine ⟨_, rfl, a, _, 0, y, rfl, rfl, seqT_same s0 g1, atI_head, y, .ty "str", .type (tyD e), .type "str", _, rfl, .ty _, ty_dp (dp_same s0 _ _ he), kit_ty (k_str e), _, rfl, ?_⟩
          have ylen : ys.length = r.length := dpAll_len hr'
          have okr := okTs_mem (by simpa [okT] using hok : okTs (e :: r) = true)
          have layr := layAll_mem (by simpa [PyData.canLay0] using hlay : PyData.canLayAll0 (e :: r) = true)
          have szr : ∀ x ∈ e :: r, tsz x ≤ 5000 := fun x hx => by
            have h1 := tszs_mem hx
            have h2 : tsz (.tuple (e :: r)) = 1 + tszs (e :: r) := by rw [tsz]
            omega
          have dpr : ∀ x ∈ e :: r, x.depth + 1 ≤ (PyData.tuple (e :: r)).depth := fun x hx => by
            have h1 := dep_mem hx
            simp only [PyData.depth]
            omega
          have hrl : r.length ≤ 5000 := by
            have h1 := tszs_len (e :: r)
            have h2 : tsz (.tuple (e :: r)) = 1 + tszs (e :: r) := by rw [tsz]
            rw [List.length_cons] at h1
            omega
          have hno : (∀ z, e = .str z → False) → headOk ps e r.length = false := fun h => by
            cases e with
            | str z => exact (h z rfl).elim
            | _ => rfl
          cases he with
          | str z =>
            refine iteF ?_
            cases hp with
            | lst p1 p2 =>
              rename_i pa px
              have p2 : DpAll K H px (prD ps) := p2
              have pxl : px.length = ps.length := (dpAll_len p2).trans (List.length_map ..)
              refine ⟨_, rfl, pa, rfl, ⟨_, Same.seq s0 p1⟩, fun D hD => ?_⟩
              refine lc_it (walk_list (xs := px)) (fun i H' => ∃ us, Same H1 H' ∧ H' D = some (.lst us) ∧ us.length ≤ i ∧ DpAll K H1 us (prD ((ps.take i).filter fun p => decide (p = (z, (r.length : Int)))))) ⟨[], same_upd hD, upd_same, Nat.le_refl _, .nil⟩ (fun i H' hi hp' => Same.seq (Same.trans s0 hp'.choose_spec.1) p1) (fun i y2 H3 H' hi hp' hy => ?_) (fun H' hp' => ?_)
              · obtain ⟨rfl, ey⟩ := hy
                obtain ⟨us, sm, hDl, hul, hus⟩ := hp'
                obtain ⟨z2, m2, t2, ep, rfl, ht2⟩ := pr_at p2 ey
                have sH := Same.trans s0 sm
                refine ⟨rfl, _, rfl, _, rfl, a, _, 0, .str z, rfl, rfl, seqT_same sH g1, atI_head, _, rfl, a, _, rfl, .inr (seqT_same sH g1), _, _, rfl, rfl, (by show 2 ≤ sizeLine; decide), fun T hT => ?_⟩
                have sT := same_upd (o := .tup [V.str z, .int (((V.str z :: ys).length : Int) - 1)]) hT
                have en : (((V.str z :: ys).length : Int) - 1) = (r.length : Int) := by rw [List.length_cons, ylen]; omega
                have okz2 := okn _ (List.mem_of_getElem? ep)
                have layz : PyData.strOk z = true := layr (.str z) List.mem_cons_self
                refine ⟨.tuple [.str z2, .int m2], .tuple [.str z, .int (((V.str z :: ys).length : Int) - 1)], dp_same sT _ _ (.tup (seqT_same sH ht2) (.cons (.str _) (.cons (.int _) .nil))), .tup (SqT.of upd_same) (.cons (.str _) (.cons (.int _) .nil)), shaped_of (by simp [PyData.canLay0, PyData.canLayAll0, okz2]) (by simp [PyData.depth, PyData.depthAll]), shaped_of (by simp [PyData.canLay0, PyData.canLayAll0, layz]) (by simp [PyData.depth, PyData.depthAll]), _, rfl, ?_⟩
                have ev : PyData.eqv (.tuple [.str z2, .int m2]) (.tuple [.str z, .int (((V.str z :: ys).length : Int) - 1)]) = decide ((z2, m2) = (z, (r.length : Int))) := by
                  rw [en]
                  show ((z2 == z) && ((m2 == (r.length : Int)) && true)) = _
                  rw [Bool.and_true]
                  by_cases h1 : z2 = z <;> by_cases h2 : m2 = (r.length : Int) <;> simp [h1, h2]
                rw [ev, filter_take _ ep]
                refine ite2 (fun h => ?_) (fun h => ?_)
                · refine ⟨_, rfl, us, sT _ _ hDl, by omega, us ++ [.ref t2], ?_, upd_same, ?_, ?_⟩
                  · exact fun b o e => by
                      rw [upd_ne (ne_of_none e hD)]
                      exact sT _ _ (sm b o e)
                  · rw [List.length_append]; exact Nat.succ_le_succ hul
                  · rw [if_pos h]
                    unfold prD
                    rw [List.map_append]
                    exact dpAll_app hus (.cons (.tup (seqT_same s0 ht2) (.cons (.str _) (.cons (.int _) .nil))) .nil)
                · rw [if_neg h]
                  exact ⟨us, Same.trans sm sT, sT _ _ hDl, by omega, hus⟩
              · obtain ⟨us, sm, hDl, hul, hus⟩ := hp'
                rw [pxl, List.take_length] at hus
                refine ⟨Nat.zero_le _, fun l2 hl2 => ?_⟩
                have s2 := same_upd (o := .lst []) hl2
                have okf : OkNames (ps.filter fun p => decide (p = (z, (r.length : Int)))) := fun p hp => okn p (List.mem_filter.mp hp).1
                refine ⟨psD (ps.filter fun p => decide (p = (z, (r.length : Int)))), .list [], .lst (SqL.of (s2 _ _ hDl)) (dpAll_same (Same.trans sm s2) _ _ hus), .lst (SqL.of upd_same) .nil, psD_shaped okf, shaped_nil, _, rfl, ?_⟩
                have e1 : PyData.eqv (psD (ps.filter fun p => decide (p = (z, (r.length : Int))))) (.list []) = !headOk ps (.str z) r.length := by
                  show PyData.eqvAll _ [] = _
                  rw [eqv_nil]
                  have hk : headOk ps (.str z) r.length = true ↔ (z, (r.length : Int)) ∈ ps := by
                    unfold headOk
                    rw [show arD ps (.str z) = arOf ps z from rfl]
                    constructor
                    · intro h
                      cases ha : arOf ps z with
                      | none => rw [ha] at h; cases h
                      | some m =>
                        rw [ha] at h
                        have hm : ((r.length + 1 : Nat) : Int) = m + 1 := of_decide_eq_true h
                        have hm : m = (r.length : Int) := by omega
                        subst hm
                        unfold arOf at ha
                        cases hf : ps.find? fun p => decide (p.1 = z) with
                        | none => rw [hf] at ha; cases ha
                        | some p =>
                          rw [hf] at ha
                          have h1 := List.find?_some hf
                          have h2 := List.mem_of_find?_eq_some hf
                          have h3 : p = (z, (r.length : Int)) := Prod.ext (of_decide_eq_true h1) (Option.some.inj ha)
                          rw [← h3]
                          exact h2
                    · intro h
                      obtain ⟨k, hk, e⟩ := List.getElem_of_mem h
                      rw [arOf_at nd (show ps[k]? = some (z, (r.length : Int)) by rw [List.getElem?_eq_getElem hk, e])]
                      exact decide_eq_true (by omega)
                  cases hh : headOk ps (.str z) r.length with
                  | true =>
                    have hm := hk.mp hh
                    have : (z, (r.length : Int)) ∈ ps.filter fun p => decide (p = (z, (r.length : Int))) := List.mem_filter.mpr ⟨hm, decide_eq_true rfl⟩
                    cases hq : (ps.filter fun p => decide (p = (z, (r.length : Int)))) with
                    | nil => rw [hq] at this; cases this
                    | cons _ _ => rfl
                  | false =>
                    have : (ps.filter fun p => decide (p = (z, (r.length : Int)))) = [] := by
                      rw [List.filter_eq_nil_iff]
                      intro p hp e
                      have e := of_decide_eq_true e
                      rw [e] at hp
                      rw [hk.mpr hp] at hh
                      cases hh
                    rw [this]
                    rfl
                rw [e1]
                have sH2 : Same H (L2.upd H' l2 (.lst [])) := Same.trans s0 (Same.trans sm s2)
                generalize (L2.upd H' l2 (.lst [])) = H2 at sH2 ⊢
                refine ite2 (fun h => ?_) (fun h => ?_)
                · have h : headOk ps (.str z) r.length = false := by simpa using h
                  rw [h] at q
                  exact q _ sH2
                · have h : headOk ps (.str z) r.length = true := by simpa using h
                  rw [h] at q
                  have q : ∀ H', Same H H' → Q (.bl (allTerm ps r)) H' := fun H' s => by
                    have := q H' s
                    simpa using this
                  refine ⟨_, rfl, 1, rfl, a, _, rfl, seqT_same sH2 g1, ?_, fun p hp => ?_⟩
                  · rw [show HT.sIx (V.str z :: ys).length 0 (some 1) = min 1 (V.str z :: ys).length from HT.sIx_nat _ _ 1, List.length_cons]
                    omega
                  · have sp := same_upd (o := .tup (cutV (V.str z :: ys) (some 1) none)) hp
                    have ep : (L2.upd H2 p (.tup (cutV (V.str z :: ys) (some 1) none))) p = some (.tup ys) := by
                      rw [upd_same, cut_from1]
                      rfl
                    have sH3 := Same.trans sH2 sp
                    generalize (L2.upd H2 p (.tup (cutV (V.str z :: ys) (some 1) none))) = H3 at ep sH3 ⊢
                    refine ⟨p, rfl, ⟨_, SqT.of ep⟩, fun D3 hD3 => ?_⟩
                    have dr : DpAll K H3 ys r := dpAll_same sH3 _ _ hr'
                    refine lc_it (walk_tup (xs := ys)) (fun i H' => ∃ us, Same H3 H' ∧ H' D3 = some (.lst us) ∧ us.length ≤ i ∧ DpAll K H3 us ((r.take i).filter fun d => !isTerm ps d)) ⟨[], same_upd hD3, upd_same, Nat.le_refl _, .nil⟩ (fun i H' hi hp' => SqT.of (hp'.choose_spec.1 _ _ ep)) (fun i y2 H5 H' hi hp' hy => ?_) (fun H' hp' => ?_)
                    · obtain ⟨rfl, ey⟩ := hy
                      obtain ⟨us, sm3, hDl3, hul3, hus3⟩ := hp'
                      obtain ⟨dd, ed, hdd⟩ := dpAll_get' dr ey
                      have md : dd ∈ PyData.str z :: r := List.mem_cons_of_mem _ (List.mem_of_getElem? ed)
                      have hdp := dpr dd md
                      refine ⟨rfl, _, rfl, _, rfl, .ref pa, y2, dd, ps, rfl, dp_same (Same.trans sH3 sm3) _ _ (.lst p1 p2), dp_same sm3 _ _ hdd, p5, okn, nd, okr dd md, szr dd md, layr dd md, by omega, by omega, fun H6 s6 => ⟨_, rfl, ?_⟩⟩
                      rw [filter_take _ ed]
                      refine ite2 (fun h => ?_) (fun h => ?_)
                      · refine ⟨_, rfl, us, s6 _ _ hDl3, by omega, us ++ [y2], ?_, upd_same, ?_, ?_⟩
                        · exact fun b o e => by
                            rw [upd_ne (ne_of_none e hD3)]
                            exact s6 _ _ (sm3 b o e)
                        · rw [List.length_append]; exact Nat.succ_le_succ hul3
                        · rw [if_pos h]
                          exact dpAll_app hus3 (.cons hdd .nil)
                      · rw [if_neg h]
                        exact ⟨us, Same.trans sm3 s6, s6 _ _ hDl3, by omega, hus3⟩
                    · obtain ⟨us, sm3, hDl3, hul3, hus3⟩ := hp'
                      rw [ylen, List.take_length] at hus3
                      refine ⟨Nat.zero_le _, fun l4 hl4 => ?_⟩
                      have s4 := same_upd (o := .lst []) hl4
                      refine ⟨.list (r.filter fun d => !isTerm ps d), .list [], .lst (SqL.of (s4 _ _ hDl3)) (dpAll_same (Same.trans sm3 s4) _ _ hus3), .lst (SqL.of upd_same) .nil, shaped_list (fun e he => ?_), shaped_nil, ?_⟩
                      · have me : e ∈ PyData.str z :: r := List.mem_cons_of_mem _ (List.mem_filter.mp he).1
                        have := dpr e me
                        exact ⟨layr e me, by omega⟩
                      · rw [show PyData.eqv (.list (r.filter fun d => !isTerm ps d)) (.list []) = (r.filter fun d => !isTerm ps d).isEmpty from eqv_nil _, allTerm_filter]
                        exact q _ (Same.trans sH3 (Same.trans sm3 s4))
          | _ =>
            refine iteT ?_
            have hh := hno (fun z e => by cases e)
            rw [hh] at q
            exact q _ s0
      | _ =>
        refine iteF ?_
        have e1 := no (fun z e => by cases e) (fun z e => by cases e)
        rw [e1] at q
        refine ⟨_, rfl, _, .ty "tuple", .type (tyD _), .type "tuple", _, rfl, .ty _, ty_dp hd0, kit_ty (k_tup _), _, rfl, ?_⟩
        exact iteT (q H (Same.refl H))
end
end Sg

set_option maxRecDepth 100000
set_option maxHeartbeats 4000000
namespace Sg
open PySem PySem.Spec PyProof.Rows L2 Dr Gd Er Cm Ow XT
abbrev sTerm : Stmt := top 26
/-- data that may be compared and shown -/
structure Fit (W D : Nat) (d : PyData) : Prop where
  lay : d.canLay0 = true
  dep : d.depth ≤ D
  isn : d.intsShort 40 = true
  wt : d.weight ≤ W
  sh : d.showable = true
  nd : d.hasDict = false
  ok : okT d = true
instance (W D : Nat) (d : PyData) : Decidable (Fit W D d) := decidable_of_iff (d.canLay0 = true ∧ d.depth ≤ D ∧ d.intsShort 40 = true ∧ d.weight ≤ W ∧ d.showable = true ∧ d.hasDict = false ∧ okT d = true) ⟨fun h => ⟨h.1, h.2.1, h.2.2.1, h.2.2.2.1, h.2.2.2.2.1, h.2.2.2.2.2.1, h.2.2.2.2.2.2⟩, fun h => ⟨h.lay, h.dep, h.isn, h.wt, h.sh, h.nd, h.ok⟩⟩
theorem Fit.mono {W D W' D' : Nat} {d : PyData} (h : Fit W D d) (hw : W ≤ W') (hd : D ≤ D') : Fit W' D' d := ⟨h.lay, Nat.le_trans h.dep hd, h.isn, Nat.le_trans h.wt hw, h.sh, h.nd, h.ok⟩
mutual
theorem tsz_wt : ∀ d : PyData, tsz d ≤ d.weight + 1
  | .none => by simp [tsz]
  | .bool _ => by simp [tsz]
  | .int _ => by simp [tsz]
  | .str _ => by simp [tsz]
  | .dict _ => by simp [tsz]
  | .list ds => by
    have := tszs_wt ds
    rw [tsz]
    simp only [PyData.weight]
    omega
  | .tuple ds => by
    have := tszs_wt ds
    rw [tsz]
    simp only [PyData.weight]
    omega
theorem tszs_wt : ∀ ds : List PyData, tszs ds ≤ PyData.weightAll ds
  | [] => by simp [tszs]
  | d :: ds => by
    have := tsz_wt d
    have := tszs_wt ds
    rw [tszs]
    simp only [PyData.weightAll]
    omega
end
theorem fit_all {W D : Nat} : ∀ {ds : List PyData}, (∀ d ∈ ds, Fit W D d) → PyData.canLayAll0 ds = true ∧ PyData.depthAll ds ≤ D ∧ PyData.intsShortAll 40 ds = true ∧ PyData.weightAll ds ≤ ds.length * (W + 1) ∧ PyData.showableAll ds = true ∧ PyData.hasDictAll ds = false ∧ okTs ds = true
  | [], _ => ⟨rfl, by simp [PyData.depthAll], by simp [PyData.intsShortAll], by simp [PyData.weightAll], by simp [PyData.showableAll], by simp [PyData.hasDictAll], by simp [okTs]⟩
  | d :: ds, h => by
    have hd := h d List.mem_cons_self
    obtain ⟨a, b, c, e, f, g, k⟩ := fit_all fun x hx => h x (List.mem_cons_of_mem _ hx)
    refine ⟨by rw [PyData.canLayAll0, hd.lay, a]; rfl, ?_, by simp [PyData.intsShortAll, hd.isn, c], ?_, by simp [PyData.showableAll, hd.sh, f], by simp [PyData.hasDictAll, hd.nd, g], by simp [okTs, hd.ok, k]⟩
    · rw [PyData.depthAll]
      exact Nat.max_le.mpr ⟨hd.dep, b⟩
    · rw [PyData.weightAll, List.length_cons, Nat.succ_mul]
      have := hd.wt
      omega
theorem fit_tup {W D : Nat} {ds : List PyData} (h : ∀ d ∈ ds, Fit W D d) : Fit (ds.length * (W + 1)) (D + 1) (.tuple ds) := by
  obtain ⟨a, b, c, e, f, g, k⟩ := fit_all h
  refine ⟨a, ?_, by simpa only [PyData.intsShort] using c, by simpa only [PyData.weight] using e, by simpa only [PyData.showable] using f, by simpa only [PyData.hasDict] using g, by rw [okT]; exact k⟩
  simp only [PyData.depth]
  omega
theorem fit_lst {W D : Nat} {ds : List PyData} (h : ∀ d ∈ ds, Fit W D d) : Fit (ds.length * (W + 1)) (D + 1) (.list ds) := by
  obtain ⟨a, b, c, e, f, g, k⟩ := fit_all h
  refine ⟨a, ?_, by simpa only [PyData.intsShort] using c, by simpa only [PyData.weight] using e, by simpa only [PyData.showable] using f, by simpa only [PyData.hasDict] using g, by rw [okT]; exact k⟩
  simp only [PyData.depth]
  omega
theorem fit_shown {W D : Nat} {d : PyData} (h : Fit W D d) (hw : W ≤ 100000) : d.shown.length ≤ sizeLine := by
  have := PyData.shown_le 40 (by decide) d (PyData.leavesShort_of_canLay0 40 d h.lay h.isn)
  have h1 := h.wt
  rw [sizeLine_eq]
  have : (40 + 2) * d.weight ≤ 42 * 100000 := Nat.mul_le_mul (Nat.le_refl _) (by omega)
  omega
theorem fit_word {z : Str} {L : Str} (h : wordIn L z = true) (hL : ∀ c ∈ L.cps.toList, c < 0x110000) : Fit 8 0 (.str z) := by
  unfold wordIn at h
  rw [Bool.and_eq_true, Bool.and_eq_true] at h
  have l8 : z.length ≤ 8 := of_decide_eq_true h.2.1
  refine ⟨?_, by simp [PyData.depth], by simp [PyData.intsShort], ?_, by simp [PyData.showable], by simp [PyData.hasDict], ?_⟩
  · show PyData.strOk z = true
    unfold PyData.strOk
    rw [Array.all_eq_true']
    intro c hc
    have h2 := h.2.2
    rw [List.all_eq_true] at h2
    exact decide_eq_true (hL c (of_decide_eq_true (h2 c (by simpa using hc))))
  · simp only [PyData.weight]
    exact l8
  · simp [okT]
    omega
theorem uc_lt : ∀ c ∈ Uc.cps.toList, c < 0x110000 := by decide +kernel
theorem lc_lt : ∀ c ∈ Lc.cps.toList, c < 0x110000 := by decide +kernel
/-- how heavy a drawn term of a depth may be -/
def wB : Nat → Nat
  | 0 => 8
  | n + 1 => 4 * (wB n + 1)
theorem wB_mono (n : Nat) : wB n ≤ wB (n + 1) := by
  rw [wB]
  omega
theorem wB_8 : ∀ n, 8 ≤ wB n
  | 0 => Nat.le_refl _
  | n + 1 => Nat.le_trans (wB_8 n) (wB_mono n)
def txD (zs : List Str) : PyData := .list (zs.map .str)
def spTerm (K : PySem.W.Frag) (n : Nat) : Sp := fun vs H Q _ => ∃ p vp la ps zs x y, ∃ deep : Nat, vs = [.ref p, vp, .int (deep : Int), .ref la] ∧ H p = some (feedO x y) ∧ Dp K (L2.del H p) vp (psD ps) ∧ Good ps ∧ L2.del H p la = some (.lst (zs.map V.str)) ∧ zs ≠ [] ∧ zs.length < 1000 ∧ (∀ z ∈ zs, wordIn Uc z = true) ∧ deep < n ∧
  ∀ v d x' y' H', SameX p H H' → H' p = some (feedO x' y') → Dp K (L2.del H' p) v d → isTerm ps d = true → Fit (wB deep) deep d → Q v H'
end Sg

set_option maxRecDepth 100000
set_option maxHeartbeats 4000000
namespace Sg
open PySem PySem.Spec PyProof.Rows L2 Dr Gd Er Cm Ow XT
theorem tx_dpAll {K : PySem.W.Frag} {H : Hp} : ∀ zs : List Str, DpAll K H (zs.map V.str) (zs.map .str)
  | [] => .nil
  | z :: zs => .cons (.str z) (tx_dpAll zs)
theorem tx_vs {K : PySem.W.Frag} {H : Hp} {v : V} {zs : List Str} (h : Dp K H v (txD zs)) : ∃ a, v = .ref a ∧ SqL K H a (zs.map V.str) := by
  cases h with
  | lst g1 g2 =>
    rename_i a xs
    exact ⟨a, rfl, by rw [← nm_vs g2]; exact g1⟩
theorem wordU_ok {z : Str} (h : wordIn Uc z = true) : PyData.strOk z = true := (fit_word h uc_lt).lay
theorem wordL_ok {z : Str} (h : wordIn Lc z = true) : PyData.strOk z = true := (fit_word h lc_lt).lay
theorem lcT {H : Hp} {A B : Hp → Prop} (h : A H) : (fun b H3 => if b = true then A H3 else B H3) true H := by
  show (if true = true then A H else B H)
  rw [if_pos rfl]
  exact h
mutual
theorem term_updL {K : PySem.W.Frag} {H : Hp} {l : Addr} {us : List V} {o : HO} (ps : List (Str × Int)) (hl : H l = some (.lst us)) : ∀ (d : PyData) (v : V), isTerm ps d = true → Dp K H v d → Dp K (L2.upd H l o) v d
  | .str z, v, _, h => by cases h; exact .str z
  | .tuple [], v, ht, _ => by rw [isTerm] at ht; cases ht
  | .tuple (e :: r), v, ht, h => by
    rw [isTerm, Bool.and_eq_true] at ht
    cases h with
    | tup g1 g2 =>
      cases g2 with
      | cons he hr =>
        refine .tup (seqT_updL hl g1) (.cons ?_ (terms_updL ps hl r _ ht.2 hr))
        have h1 := ht.1
        cases he with
        | str z => exact .str z
        | non => cases h1
        | bl _ => cases h1
        | int _ => cases h1
        | lst _ _ => cases h1
        | tup _ _ => cases h1
  | .none, v, ht, _ => by rw [isTerm] at ht; cases ht
  | .bool _, v, ht, _ => by rw [isTerm] at ht; cases ht
  | .int _, v, ht, _ => by rw [isTerm] at ht; cases ht
  | .list _, v, ht, _ => by rw [isTerm] at ht; cases ht
  | .dict _, v, ht, _ => by rw [isTerm] at ht; cases ht
theorem terms_updL {K : PySem.W.Frag} {H : Hp} {l : Addr} {us : List V} {o : HO} (ps : List (Str × Int)) (hl : H l = some (.lst us)) : ∀ (ds : List PyData) (vs : List V), allTerm ps ds = true → DpAll K H vs ds → DpAll K (L2.upd H l o) vs ds
  | [], _, _, h => by cases h; exact .nil
  | d :: ds, _, ht, h => by
    rw [allTerm, Bool.and_eq_true] at ht
    cases h with
    | cons a b => exact .cons (term_updL ps hl d _ ht.1 a) (terms_updL ps hl ds _ ht.2 b)
end
section
variable {P : Program} {w : World} {K : PySem.W.Frag} {mg : Str → Option Value} {base : Heap} {fT fP : Addr} {dT dP : FuncData}
theorem scTm : FnScope ["feed", "pairs", "deep", "letters", "some", "name", "arity", "under", "pair", "at"] ["feed", "pairs", "deep", "letters"] (defScope sTerm) := ⟨rfl, rfl, rfl, by decide +kernel, rfl, by decide +kernel, by decide +kernel⟩
theorem ok_term {f : Addr} {fd : FuncData} (F : Fun K "_law_term" "_law_term" sTerm f fd) (g : mg "_law_term" = some (.ref f)) (GT : Cal P w K mg base CX0 1 "_law_take" fT dT ["feed", "many"] spTake) (GP : Cal P w K mg base CX0 2 "_law_pick" fP dP ["feed", "some"] (spPick K))
    (hmx : mg "max" = none) (htu : mg "tuple" = none) (hrg : mg "range" = none) : ∀ n : Nat, FnOk P w K mg base CX0 (n + 2) f fd ["feed", "pairs", "deep", "letters"] (spTerm K n)
  | 0 => ⟨fun vs H Q E h => (by obtain ⟨_, _, _, _, _, _, _, _, _, _, _, _, _, _, _, _, h, _⟩ := h; omega), fun _ _ _ _ _ _ _ _ _ _ _ _ _ h => (by obtain ⟨_, _, _, _, _, _, _, _, _, _, _, _, _, _, _, _, h, _⟩ := h; omega)⟩
  | n + 1 => by
    have IH := ok_term F g GT GP hmx htu hrg n
    have b : Binds K fd ["feed", "pairs", "deep", "letters"] [] := F.binds fun _ _ _ _ _ _ us hl => match us, hl with | [_, _, _, _], _ => rfl
    refine F.ok scTm (fun vs H Q E h => ?_) (fun cdv A outer s H vs Q E hr h => ?_)
    · obtain ⟨p, vp, la, ps, zs, x, y, deep, rfl, _⟩ := h
      rfl
    · obtain ⟨p, vp, la, ps, zs, x, y, deep, rfl, hp, hps, hg, hzs, zne, zln, zw, hdn, q⟩ := h
      have r1 : Room 1 (A.deeper (envOfC "_law_term" (defScope sTerm) s.heap.objs.size f cdv)) := hr.mono (by omega)
      have r2 : Room 2 (A.deeper (envOfC "_law_term" (defScope sTerm) s.heap.objs.size f cdv)) := hr.mono (by omega)
      refine ⟨_, pss_cons (ps_if (PW.pt (pw_and (pt_cmpR (op_neD hr.units) (pv 3) (pe_lst pa_nil) (nomark _)) (pw_and1 (PW.pt (pw_or (pt_cmpR op_eq (pv 2) pe_int (nomark _)) (pw_or1 (pt_cmpR op_eq (pe_call GT.ok r1 rfl GT.g GT.kp GT.b .nil pass0 (pa_cons (pv 0) (pa_cons pe_int pa_nil))) pe_int (nomark _))))))))
          (pss_one (ps_ret (pe_call GP.ok r2 rfl GP.g GP.kp GP.b .nil pass0 (pa_cons (pv 0) (pa_cons (pv 3) pa_nil))))) pss_nil)
        (pss_cons (ps_setLc (i := 4) (own := [("pair", 8)]) (g := gName 8) (tt := tOr (tTest (tOp rEq (tOp (rIxT K) (tVar 8) (tC (.int 1))) (tC (.int 0)))) (tTest (tOp (rI0 fun i j => .bl (decide (j < i))) (tVar 2) (tC (.int 0))))) (te := tVar 8) (by rfl) scTm.nd rfl rfl (sw_true rfl rfl rfl (by decide +kernel)) (pi_list (pv 1))
            (blkOk_by (N := ["feed", "pairs", "deep", "letters", "some", "name", "arity", "under", "pair", "at"]) (sc := defScope sTerm) (by decide +kernel)) (fun _ _ _ _ _ => pg_name (i := 8) scTm.nd rfl (Or.inl rfl))
            (fun _ _ _ _ _ => pts_one (PW.pt (pw_or (pt_cmpR op_eq (pe_ix ix_tup (pv 8) pe_int fun _ _ => rfl) pe_int (nomark _)) (pw_or1 (pt_cmpR op_gt (pv 2) pe_int (nomark _)))))) (fun _ _ _ _ _ => pv 8))
        (pss_cons (ps_if (pt_cmpR (op_eqD hr.units) (pv 4) (pe_lst pa_nil) (nomark _)) (pss_one (ps_ret pe_str)) pss_nil)
        (pss_cons (ps_asg (pe_call GP.ok r2 rfl GP.g GP.kp GP.b .nil pass0 (pa_cons (pv 0) (pa_cons (pv 4) pa_nil))) (pg_tup rfl (pgs_cons (pg_name (i := 5) scTm.nd rfl (Or.inl rfl)) (pgs_cons (pg_name (i := 6) scTm.nd rfl (Or.inl rfl)) pgs_nil))))
        (pss_cons (ps_set (i := 7) scTm.nd rfl (Or.inr rfl) (pe_ifExp (pt_cmpR op_eq (pv 6) pe_int (nomark _)) (pe_callB (call_max2 rfl) (by rfl) hmx boot_max (pa_cons pe_int (pa_cons (pe_op op_sub (pv 2) pe_int) pa_nil))) (pe_op op_sub (pv 2) pe_int)))
        (pss_one (ps_ret (pe_op op_catA (pe_tup (pa_cons (pv 5) pa_nil)) (pe_callTy call_tuple_of (by rfl) htu (by decide +kernel) (pa_cons (pe_lc (own := [("at", 9)]) (g := gName 9) (tt := tYes) (te := tCall (spTerm K n) [] E0 (tCons (tVar 0) (tCons (tVar 1) (tCons (tVar 7) (tCons (tVar 3) tNil))))) rfl scTm.nd (pi_range1 (by rfl) hrg (pa_cons (pv 6) pa_nil))
            (blkOk_by (N := ["feed", "pairs", "deep", "letters", "some", "name", "arity", "under", "pair", "at"]) (sc := defScope sTerm) (by decide +kernel)) (fun _ _ _ _ _ => pg_name (i := 9) scTm.nd rfl (Or.inl rfl)) (fun _ _ _ _ _ => pts_nil)
            (fun _ _ _ _ _ => pe_call IH hr rfl g F.kp b .nil pass0 (pa_cons (pv 0) (pa_cons (pv 1) (pa_cons (pv 7) (pa_cons (pv 3) pa_nil)))))) pa_nil))))))))), ?_⟩
      have hlap : la ≠ p := fun z => by rw [z, del_same] at hzs; cases hzs
      have hla : H la = some (.lst (zs.map V.str)) := by rw [del_ne hlap] at hzs; exact hzs
      have zok : ∀ e ∈ zs.map PyData.str, e.canLay0 = true ∧ e.depth ≤ 62 := fun e he => by
        obtain ⟨z, hz, rfl⟩ := List.mem_map.mp he
        exact ⟨wordU_ok (zw z hz), by simp [PyData.depth]⟩
      have sdp : ∀ {H : Hp}, Same (L2.del H p) H := fun b o e => by
        by_cases hb : b = p
        · subst hb; rw [del_same] at e; cases e
        · rw [del_ne hb] at e; exact e
      refine ⟨_, rfl, Nat.zero_le _, fun l0 hl0 => ?_⟩
      have s0 := same_upd (o := .lst []) hl0
      refine ⟨txD zs, .list [], .lst (SqL.of (s0 _ _ hla)) (tx_dpAll zs), .lst (SqL.of upd_same) .nil, shaped_list zok, shaped_nil, _, rfl, ?_⟩
      have e0 : PyData.eqv (txD zs) (.list []) = false := by
        show PyData.eqvAll _ [] = _
        rw [eqv_nil]
        cases zs with
        | nil => exact absurd rfl zne
        | cons _ _ => rfl
      rw [e0]
      refine iteT ?_
      generalize (L2.upd H l0 (.lst [])) = H1 at s0 ⊢
      refine ⟨_, rfl, rfl, _, rfl, ?_⟩
      refine ite2 (fun c0 => ?_) (fun c0 => ?_)
      · refine iteT ?_
        refine ⟨_, rfl, _, rfl, p, _, _, (s0 _ _ hp), .inl ⟨la, zs.map V.str, rfl, SqL.of (s0 _ _ hla), hlap, by rw [List.length_map]; exact List.length_pos_iff.mpr zne, by rw [List.length_map]; omega, fun v x' y' hv => ?_⟩⟩
        obtain ⟨z, hz, rfl⟩ := List.mem_map.mp hv
        refine q _ (.str z) x' y' _ (SameX.upd (Same.x s0)) upd_same (.str z) (by rw [isTerm]; exact zw z hz) ((fit_word (zw z hz) uc_lt).mono (wB_8 _) (Nat.zero_le _))
      · have c0 : deep ≠ 0 := fun z => c0 (decide_eq_true (by rw [z]; rfl))
        refine ⟨_, rfl, p, x, y, 3, rfl, s0 _ _ hp, by decide, by decide, fun r x1 y1 hr0 hr1 => ?_⟩
        have sx : SameX p H (L2.upd H1 p (feedO x1 y1)) := (Same.x s0).upd
        have f2 : (L2.upd H1 p (feedO x1 y1)) p = some (feedO x1 y1) := upd_same
        have hla2 : (L2.upd H1 p (feedO x1 y1)) la = some (.lst (zs.map V.str)) := by rw [upd_ne hlap]; exact s0 _ _ hla
        generalize (L2.upd H1 p (feedO x1 y1)) = H2 at sx f2 hla2 ⊢
        refine ⟨rfl, _, rfl, ?_⟩
        refine ite2 (fun c1 => ?_) (fun c1 => ?_)
        · refine ⟨_, rfl, _, rfl, p, _, _, f2, .inl ⟨la, zs.map V.str, rfl, SqL.of hla2, hlap, by rw [List.length_map]; exact List.length_pos_iff.mpr zne, by rw [List.length_map]; omega, fun v x' y' hv => ?_⟩⟩
          obtain ⟨z, hz, rfl⟩ := List.mem_map.mp hv
          refine q _ (.str z) x' y' _ (SameX.upd sx) upd_same (.str z) (by rw [isTerm]; exact zw z hz) ((fit_word (zw z hz) uc_lt).mono (wB_8 _) (Nat.zero_le _))
        · have hps2 := dp_same (SameX.del sx) _ _ hps
          cases hps2 with
          | lst p1 p2 =>
            rename_i a2 xs
            have p2 : DpAll K (L2.del H2 p) xs (prD ps) := p2
            have xl : xs.length = ps.length := (dpAll_len p2).trans (List.length_map ..)
            have pl4 : ps.length ≤ 4 := hg.2.1
            have big : (1000 : Nat) ≤ sizeLine := by decide
            refine ⟨_, rfl, a2, rfl, ⟨_, Same.seq sdp p1⟩, fun D hD => ?_⟩
            refine lc_it (walk_list (xs := xs)) (fun i H' => Same H2 H' ∧ H' D = some (.lst (xs.take i))) ⟨same_upd hD, upd_same⟩ (fun i H' hi hp' => Same.seq hp'.1 (Same.seq sdp p1)) (fun i yv H3 H' hi hp' hy => ?_) (fun H3 hp' => ?_)
            · obtain ⟨sm, hDl⟩ := hp'
              obtain ⟨rfl, ey⟩ := hy
              obtain ⟨z, m, t, ep, rfl, ht⟩ := pr_at p2 ey
              have ht := seqT_same (Same.trans sdp sm) ht
              have fin : ∃ acc, H' D = some (.lst acc) ∧ acc.length < sizeLine ∧ (Same H2 (L2.upd H' D (.lst (acc ++ [.ref t]))) ∧ (L2.upd H' D (.lst (acc ++ [.ref t]))) D = some (.lst (xs.take (i + 1)))) := by
                refine ⟨_, hDl, by rw [List.length_take]; omega, fun b o e => ?_, ?_⟩
                · rw [upd_ne (ne_of_none e hD)]
                  exact sm b o e
                · rw [upd_same, List.take_succ, ey]
                  rfl
              refine ⟨rfl, _, rfl, t, _, 1, .int m, rfl, rfl, ht, rfl, rfl, _, rfl, ?_⟩
              refine ite2 (fun h => ?_) (fun h => ?_)
              · show (if true = true then _ else _)
                rw [if_pos rfl]
                exact ⟨_, rfl, fin⟩
              · refine ⟨_, rfl, _, _, rfl, rfl, _, rfl, ?_⟩
                rw [decide_eq_true (show (0 : Int) < (deep : Int) by omega)]
                show (if true = true then _ else _)
                rw [if_pos rfl]
                exact ⟨_, rfl, fin⟩
            · obtain ⟨sm3, hD3⟩ := hp'
              rw [List.take_length] at hD3
              have hDp : D ≠ p := fun z => by rw [z, f2] at hD; cases hD
              have sx3 : SameX p H H3 := sx.trans (Same.x sm3)
              have f3 := sm3 _ _ f2
              have hla3 := sm3 _ _ hla2
              have d3 : DpAll K (L2.del H3 p) xs (prD ps) := dpAll_same (SameX.del (Same.x sm3)) _ _ p2
              have q3 : Dp K (L2.del H3 p) (.ref a2) (psD ps) := .lst (Same.seq (SameX.del (Same.x sm3)) p1) d3
              refine ⟨_, rfl, Nat.zero_le _, fun l4 hl4 => ?_⟩
              have s4 := same_upd (o := .lst []) hl4
              refine ⟨psD ps, .list [], .lst (SqL.of (s4 _ _ hD3)) (dpAll_same (Same.trans sdp s4) _ _ d3), .lst (SqL.of upd_same) .nil, psD_shaped (fun q hq => wordL_ok (hg.2.2.2.1 q hq).1), shaped_nil, _, rfl, ?_⟩
              have e1 : PyData.eqv (psD ps) (.list []) = false := by
                show PyData.eqvAll _ [] = _
                rw [eqv_nil]
                cases ps with
                | nil => exact absurd hg.1 (by simp)
                | cons _ _ => rfl
              rw [e1]
              refine iteF ?_
              have sx4 : SameX p H (L2.upd H3 l4 (.lst [])) := sx3.trans (Same.x s4)
              have f4 := s4 _ _ f3
              have hla4 := s4 _ _ hla3
              have hD4 := s4 _ _ hD3
              have d4 : DpAll K (L2.del (L2.upd H3 l4 (.lst [])) p) xs (prD ps) := dpAll_same (SameX.del (Same.x s4)) _ _ d3
              have q4 := dp_same (SameX.del (Same.x s4)) _ _ q3
              generalize (L2.upd H3 l4 (.lst [])) = H4 at sx4 f4 hla4 hD4 d4 q4 ⊢
              refine ⟨_, rfl, _, rfl, p, _, _, f4, .inl ⟨D, xs, rfl, SqL.of hD4, hDp, by rw [xl]; exact hg.1, by omega, fun v x5 y5 hv => ?_⟩⟩
              have d5 : DpAll K (L2.del (L2.upd H4 p (feedO x5 y5)) p) xs (prD ps) := by rw [del_upd]; exact d4
              have sx5 : SameX p H (L2.upd H4 p (feedO x5 y5)) := sx4.upd
              have f5 : (L2.upd H4 p (feedO x5 y5)) p = some (feedO x5 y5) := upd_same
              have hla5 : L2.del (L2.upd H4 p (feedO x5 y5)) p la = some (.lst (zs.map V.str)) := by rw [del_upd, del_ne hlap]; exact hla4
              have q5 : Dp K (L2.del (L2.upd H4 p (feedO x5 y5)) p) (.ref a2) (psD ps) := by rw [del_upd]; exact q4
              generalize (L2.upd H4 p (feedO x5 y5)) = H5 at d5 sx5 f5 hla5 q5 ⊢
              obtain ⟨dz, hdz, hvd⟩ := dpAll_mem d5 hv
              obtain ⟨pz, hpz, rfl⟩ := List.mem_map.mp hdz
              obtain ⟨hwz, hm0, hm3⟩ := hg.2.2.2.1 pz hpz
              cases hvd with
              | tup v1 v2 =>
                rename_i tv xv
                cases v2 with
                | cons w1 v2 =>
                  cases v2 with
                  | cons w2 v2 =>
                    cases v2
                    cases w1
                    cases w2
                    refine ⟨tv, _, rfl, seqT_same sdp v1, rfl, ?_⟩
                    refine ⟨_, _, rfl, _, _, rfl, rfl, ?_⟩
                    obtain ⟨u, hu, eu⟩ : ∃ u : Nat, u + 1 ≤ deep ∧ (if (decide (V.int pz.2 = V.int 3)) = true then (if ((deep : Int) - 2) > 0 then ((deep : Int) - 2) else 0) else (deep : Int) - 1) = (u : Int) := by
                      by_cases h3 : pz.2 = 3
                      · rw [if_pos (decide_eq_true (by rw [h3]))]
                        by_cases h4 : ((deep : Int) - 2) > 0
                        · exact ⟨deep - 2, by omega, by rw [if_pos h4]; omega⟩
                        · exact ⟨0, by omega, by rw [if_neg h4]; rfl⟩
                      · rw [if_neg (by simp [h3])]
                        exact ⟨deep - 1, by omega, by omega⟩
                    have key : ∀ uu : Int, uu = (u : Int) → (tRet (tOp (rCatA K) (tTup (tCons (tVar 5) tNil)) (tCB (fun xs H Q => ∃ p ys, xs = [V.ref p] ∧ ((SqL K H p ys ∧ ∀ l, H l = none → Q (.ref l) (L2.upd H l (.tup ys))) ∨ (SqT K H p ys ∧ Q (.ref p) H))) (tCons (tLc (iRng1 (tCons (tVar 6) tNil)) (gName 9) tYes (tCall (spTerm K n) [] E0 (tCons (tVar 0) (tCons (tVar 1) (tCons (tVar 7) (tCons (tVar 3) tNil))))) [9]) tNil)))) { nx := fun x H' => Q V.non H', rt := Q }
                        [some (.ref p), some (.ref a2), some (.int (deep : Int)), some (.ref la), some (.ref D), some (.str pz.1), some (.int pz.2), some (.int uu), none, none] H5 := by
                      intro uu eq
                      subst eq
                      refine ⟨_, rfl, (by show 1 ≤ sizeLine; decide), fun t1 ht1 => ?_⟩
                      have s6 := same_upd (o := .tup [V.str pz.1]) ht1
                      have sx6 : SameX p H (L2.upd H5 t1 (.tup [V.str pz.1])) := sx5.trans (Same.x s6)
                      have f6 := s6 _ _ f5
                      have hla6 := SameX.del (Same.x s6) (p := p) _ _ hla5
                      have q6 := dp_same (SameX.del (p := p) (Same.x s6)) _ _ q5
                      have e6 : (L2.upd H5 t1 (.tup [V.str pz.1])) t1 = some (.tup [V.str pz.1]) := upd_same
                      generalize (L2.upd H5 t1 (.tup [V.str pz.1])) = H6 at sx6 f6 hla6 q6 e6 ⊢
                      refine ⟨_, rfl, pz.2, rfl, by omega, by omega, fun D5 hD5 => ?_⟩
                      have hD5p : D5 ≠ p := fun z => by rw [z, f6] at hD5; cases hD5
                      refine lc_it (walk_range (lo := 0) (n := pz.2.toNat)) (fun i H' => ∃ us ds aa bb, SameX p H6 H' ∧ H' p = some (feedO aa bb) ∧ H' D5 = some (.lst us) ∧ DpAll K (L2.del H' p) us ds ∧ ds.length = i ∧ allTerm ps ds = true ∧ ∀ d ∈ ds, Fit (wB u) u d)
                        ⟨[], [], _, _, fun b o e hb => by rw [upd_ne (ne_of_none e hD5)]; exact e, by rw [upd_ne hD5p.symm]; exact f6, upd_same, .nil, rfl, by simp [allTerm], by simp⟩ (fun _ _ _ _ => trivial) (fun i y7 H7 H' hi hp' hy => ?_) (fun H7 hp' => ?_)
                      · obtain ⟨us, ds, aa, bb, sx7, f7, hL7, d7, l7, t7, w7⟩ := hp'
                        obtain ⟨rfl, rfl⟩ := hy
                        refine ⟨rfl, lcYes ?_⟩
                        refine ⟨_, rfl, _, rfl, _, rfl, _, rfl, p, .ref a2, la, ps, zs, aa, bb, u, rfl, f7, dp_same (SameX.del sx7) _ _ q6, hg, SameX.del sx7 _ _ hla6, zne, zln, zw, by omega, fun v8 d8 x8 y8 H8 sx8 f8 hv8 ht8 fit8 => ?_⟩
                        have hL8 := sx8 _ _ hL7 hD5p
                        have ul : us.length < 1000 := by
                          have := dpAll_len d7
                          omega
                        refine ⟨us, hL8, by omega, us ++ [v8], ds ++ [d8], x8, y8, ?_, ?_, upd_same, ?_, ?_, ?_, ?_⟩
                        · exact fun b o e hb => by
                            rw [upd_ne (ne_of_none e hD5)]
                            exact sx8 _ _ (sx7 b o e hb) hb
                        · rw [upd_ne hD5p.symm]
                          exact f8
                        · have hl9 : L2.del H8 p D5 = some (.lst us) := by rw [del_ne hD5p]; exact hL8
                          have e9 : L2.del (L2.upd H8 D5 (.lst (us ++ [v8]))) p = L2.upd (L2.del H8 p) D5 (.lst (us ++ [v8])) := by
                            funext b
                            by_cases hb : b = p
                            · subst hb; rw [del_same, upd_ne hD5p.symm, del_same]
                            · rw [del_ne hb]
                              by_cases hbl : b = D5
                              · subst hbl; rw [upd_same, upd_same]
                              · rw [upd_ne hbl, upd_ne hbl, del_ne hb]
                          rw [e9]
                          exact dpAll_app (terms_updL ps hl9 ds _ t7 (dpAll_same (SameX.del sx8) _ _ d7)) (.cons (term_updL ps hl9 d8 _ ht8 hv8) .nil)
                        · rw [List.length_append, l7]; rfl
                        · rw [allTerm_app, t7, Bool.true_and]
                          simp [allTerm, ht8]
                        · intro d hd
                          rcases List.mem_append.mp hd with hd | hd
                          · exact w7 d hd
                          · rw [List.mem_singleton.mp hd]
                            exact fit8
                      · obtain ⟨us, ds, aa, bb, sx7, f7, hL7, d7, l7, t7, w7⟩ := hp'
                        have ul : us.length = ds.length := dpAll_len d7
                        have har : arOf ps pz.1 = some pz.2 := by
                          obtain ⟨k, hk, e⟩ := List.getElem_of_mem hpz
                          exact arOf_at hg.2.2.1 (show ps[k]? = some (pz.1, pz.2) by rw [List.getElem?_eq_getElem hk, e])
                        have tt : isTerm ps (.tuple (.str pz.1 :: ds)) = true := by
                          rw [isTerm, t7, Bool.and_true]
                          unfold headOk
                          rw [show arD ps (.str pz.1) = arOf ps pz.1 from rfl, har]
                          exact decide_eq_true (by omega)
                        have ff : Fit (wB deep) deep (.tuple (.str pz.1 :: ds)) := by
                          have h := fit_tup (W := wB u) (D := u) (ds := .str pz.1 :: ds) (fun d hd => by
                            rcases List.mem_cons.mp hd with rfl | hd
                            · exact (fit_word hwz lc_lt).mono (wB_8 _) (Nat.zero_le _)
                            · exact w7 d hd)
                          obtain ⟨k, rfl⟩ : ∃ k, deep = u + 1 + k := ⟨deep - (u + 1), by omega⟩
                          refine h.mono ?_ (by omega)
                          have l4 : (PyData.str pz.1 :: ds).length ≤ 4 := by rw [List.length_cons]; omega
                          have m1 : (PyData.str pz.1 :: ds).length * (wB u + 1) ≤ wB (u + 1) := Nat.mul_le_mul l4 (Nat.le_refl _)
                          have m2 : ∀ k, wB (u + 1) ≤ wB (u + 1 + k) := fun k => by
                            induction k with
                            | zero => exact Nat.le_refl _
                            | succ k ih => exact Nat.le_trans ih (wB_mono _)
                          exact Nat.le_trans m1 (m2 k)
                        refine ⟨D5, us, rfl, .inl ⟨SqL.of hL7, fun t9 ht9 => ?_⟩⟩
                        have s9 := same_upd (o := .tup us) ht9
                        have t1p : t1 ≠ p := fun z => by rw [z, f6] at e6; cases e6
                        have e7 := sx7 _ _ e6 t1p
                        have sxx : SameX p H (L2.upd H7 t9 (.tup us)) := fun b o e hb => s9 _ _ (sx7 _ _ (sx6 b o e hb) hb)
                        have f9 := s9 _ _ f7
                        have d9 : DpAll K (L2.del (L2.upd H7 t9 (.tup us)) p) us ds := dpAll_same (SameX.del (Same.x s9)) _ _ d7
                        have t9p : t9 ≠ p := fun z => by rw [z, f7] at ht9; cases ht9
                        refine ⟨t1, t9, [V.str pz.1], us, rfl, rfl, SqT.of (s9 _ _ e7), SqT.of upd_same, ?_, fun z => (by cases z), fun _ hus => ?_, fun _ hus p9 hp9 => ?_⟩
                        · have : us.length ≤ 3 := by omega
                          have : (1 : Nat) + us.length ≤ sizeLine := by omega
                          exact this
                        · subst hus
                          have : ds = [] := by cases d9; rfl
                          subst this
                          refine q _ _ aa bb _ sxx f9 (.tup (SqT.of ?_) (.cons (.str _) .nil)) tt ff
                          rw [del_ne t1p]
                          exact s9 _ _ e7
                        · have s10 := same_upd (o := .tup ([V.str pz.1] ++ us)) hp9
                          have p9p : p9 ≠ p := fun z => by rw [z, f9] at hp9; cases hp9
                          refine q _ _ aa bb _ (sxx.trans (Same.x s10)) (s10 _ _ f9) (.tup (SqT.of ?_) (.cons (.str _) (dpAll_same (SameX.del (Same.x s10)) _ _ d9))) tt ff
                          rw [del_ne p9p, upd_same]
                          rfl
                    refine ⟨_, rfl, rfl, _, rfl, ?_⟩
                    refine ite2 (fun h3 => ?_) (fun h3 => ?_)
                    · rw [if_pos h3] at eu
                      exact ⟨_, rfl, _, _, rfl, rfl, _, _, rfl, key _ eu⟩
                    · rw [if_neg h3] at eu
                      exact ⟨_, rfl, _, _, rfl, rfl, key _ eu⟩
end
end Sg

set_option maxRecDepth 100000
set_option maxHeartbeats 4000000
/-! tuple * n, n at most one -/
namespace TM
open PySem PySem.Spec PyProof.Rows L2
theorem mul1 (l : Addr) (items : Array Value) (n : Nat) (dd : Option Addr) (sl : Array (Option Value)) (u : Tok) :
    Meets (Builtin.«tuple.__mul__» ⟨[.ref l, .int 1 u], []⟩) (fun _ R s => s.heap.get? l = some { cls := .type "tuple", dict := dd, data := .seq items n, slots := sl } ∧ R (.ok (.ret (Value.ref l))) s) :=
  .of_wp fun prog w A R s h => by
    obtain ⟨hp, g, d, tk, os⟩ := s
    obtain ⟨hl, h⟩ := h
    have f1 := AutoSeq1.idx_int
    wp_walk using wpAny_loadPart' hl
    repeat (first
      | (refine wpAny_ite_false (by decide) ?_; wp_walk using wpAny_loadPart' hl)
      | (refine wpAny_ite_true (by simp) ?_; wp_walk using wpAny_loadPart' hl))
    exact ⟨_, rfl, h⟩
theorem mul0 (l : Addr) (items : Array Value) (n : Nat) (dd : Option Addr) (sl : Array (Option Value)) (u : Tok) (hne : items.isEmpty = false) :
    Meets (Builtin.«tuple.__mul__» ⟨[.ref l, .int 0 u], []⟩) (fun _ R s => s.heap.get? l = some { cls := .type "tuple", dict := dd, data := .seq items n, slots := sl } ∧
      R (.ok (.ret (Value.ref s.heap.objs.size))) { s with heap := s.heap.push { cls := Value.type "tuple", data := Data.seq #[] }, toks := s.toks }) :=
  .of_wp fun prog w A R s h => by
    obtain ⟨hp, g, d, tk, os⟩ := s
    obtain ⟨hl, h⟩ := h
    have f1 := AutoSeq1.idx_int
    wp_walk using wpAny_loadPart' hl
    repeat (first
      | (refine wpAny_ite_false (by simp [hne]) ?_; wp_walk using wpAny_loadPart' hl)
      | (refine wpAny_ite_true (by simp [hne]) ?_; wp_walk using wpAny_loadPart' hl))
    exact ⟨_, rfl, h⟩
/-- tuple * n: the tuple itself for 1, a new empty one for 0, else put together -/
def rRepA (K : PySem.W.Frag) : R2 := fun x y H Q => ∃ l k xs, x = .ref l ∧ y = .int k ∧ SqT K H l xs ∧ xs ≠ [] ∧ xs.length ≤ 1000 ∧ 0 ≤ k ∧ k ≤ 1000 ∧ (k = 1 → Q (.ref l) H) ∧ (k ≠ 1 → ∀ p, H p = none → Q (.ref p) (upd H p (.tup (List.replicate k.toNat xs).flatten)))
theorem op_repA {X : Cx} : OpR X (binaryOp .Mult) (rRepA X.K) := by
  intro pins s σ H x y v u Q I rx ry h
  obtain ⟨l, k, xs, rfl, rfl, hT, hne, hz, h0, h1, q1, q2⟩ := h
  rcases (show k = 1 ∨ k = 0 ∨ 2 ≤ k by omega) with rfl | rfl | h2
  · cases rx
    obtain ⟨t, rfl⟩ := ry
    obtain ⟨its, r, ⟨⟨cls, dd, data, sl⟩, ho, hc, n, hd⟩, hs⟩ := I.tuple hT
    simp only at hc hd
    subst hc hd
    refine wpAny_binaryOp_repeat_ref (T := "tuple") (U := "int") (by decide) ⟨_, ho, rfl⟩ (fun s' => typeIs_int s' 1 t) noFill_tuple_mul PySem.F.fills_int_mul PySem.F.slot_int_rmul repeat_tuple PySem.F.slot_int_index.lookup
      (call_meets PySem.F.slot_int_rmul (typeIs_int s 1 t) PySem.F.entry_int_rmul (PySem.F.args_int_rmul_2 _ _) (int_rmul_tuple 1 t l its.toArray n dd sl)
        ⟨ho, rfl, ⟨_, ho, rfl⟩, call_meets PySem.F.slot_tuple_mul ⟨_, ho, rfl⟩ PySem.F.entry_tuple_mul (PySem.F.args_tuple_mul_2 _ _) (mul1 l its.toArray n dd sl t) ⟨ho, ?_⟩⟩)
    exact ⟨.ref l, H, I, rfl, q1 rfl⟩
  · cases rx
    obtain ⟨t, rfl⟩ := ry
    obtain ⟨its, r, ⟨⟨cls, dd, data, sl⟩, ho, hc, n, hd⟩, hs⟩ := I.tuple hT
    simp only at hc hd
    subst hc hd
    have hi : its.toArray.isEmpty = false := by
      cases its with
      | nil => cases r; exact absurd rfl hne
      | cons a b => rfl
    refine wpAny_binaryOp_repeat_ref (T := "tuple") (U := "int") (by decide) ⟨_, ho, rfl⟩ (fun s' => typeIs_int s' 0 t) noFill_tuple_mul PySem.F.fills_int_mul PySem.F.slot_int_rmul repeat_tuple PySem.F.slot_int_index.lookup
      (call_meets PySem.F.slot_int_rmul (typeIs_int s 0 t) PySem.F.entry_int_rmul (PySem.F.args_int_rmul_2 _ _) (int_rmul_tuple 0 t l its.toArray n dd sl)
        ⟨ho, rfl, ⟨_, ho, rfl⟩, call_meets PySem.F.slot_tuple_mul ⟨_, ho, rfl⟩ PySem.F.entry_tuple_mul (PySem.F.args_tuple_mul_2 _ _) (mul0 l its.toArray n dd sl t hi) ⟨ho, ?_⟩⟩)
    refine ⟨.ref s.heap.objs.size, _, I.laid (t' := s.toks) (o := .tup []) (fun b ob q => Heap.get?_push_of_some _ q) (Nat.le_refl _) ?_, rfl, q2 (by decide) _ (I.hok.fresh (Nat.le_refl _))⟩
    exact ⟨Nat.zero_le _, [], .nil, IsTup.new _ _⟩
  · exact op_repT pins s σ H _ _ v u Q I rx ry ⟨l, k, xs, rfl, rfl, hT, hne, h2, h1, hz, q2 (by omega)⟩
end TM

set_option maxRecDepth 100000
set_option maxHeartbeats 4000000
/-! expressions that put data together: what they give, over the data that slots hold -/
namespace Sg
open PySem PySem.Spec PyProof.Rows L2 Dr Gd Er Cm Ow XT TM
/-- what the slots S hold, as data; C: what is known of it -/
def EnvD (K : PySem.W.Frag) (H0 : Hp) (S : List Nat) (ρ : Nat → PyData) (σ : L2.St) (H : Hp) : Prop := Same H0 H ∧ ∀ n ∈ S, ∃ v, σ[n]? = some (some v) ∧ Dp K (nw H0 H) v (ρ n)
theorem EnvD.mono {K : PySem.W.Frag} {H0 H H' : Hp} {S : List Nat} {ρ : Nat → PyData} {σ : L2.St} (h : EnvD K H0 S ρ σ H) (s : Same H H') : EnvD K H0 S ρ σ H' :=
  ⟨Same.trans h.1 s, fun q hq => let ⟨v, a, b⟩ := h.2 q hq; ⟨v, a, dp_same (nw_l s) _ _ b⟩⟩
def tE (K : PySem.W.Frag) (H0 : Hp) (S : List Nat) (C : (Nat → PyData) → Prop) (d : (Nat → PyData) → PyData) : TE := fun σ H Q => ∃ ρ, C ρ ∧ EnvD K H0 S ρ σ H ∧ ∀ v H', Same H H' → Dp K (nw H0 H') v (d ρ) → Q v H'
def tEs (K : PySem.W.Frag) (H0 : Hp) (S : List Nat) (C : (Nat → PyData) → Prop) (ds : (Nat → PyData) → List PyData) : TA := fun σ H Q => ∃ ρ, C ρ ∧ EnvD K H0 S ρ σ H ∧ ∀ vs H', Same H H' → DpAll K (nw H0 H') vs (ds ρ) → Q vs H'
/-- a new list, as it stands -/
def tER (K : PySem.W.Frag) (H0 : Hp) (S : List Nat) (C : (Nat → PyData) → Prop) (ds : (Nat → PyData) → List PyData) : TE := fun σ H Q => ∃ ρ, C ρ ∧ EnvD K H0 S ρ σ H ∧ ∀ l vs H', Same H H' → H l = none → H' l = some (.lst vs) → DpAll K (nw H0 H') vs (ds ρ) → Q (.ref l) H'
theorem rep_flat {K : PySem.W.Frag} {H : Hp} {vs : List V} {ds : List PyData} (h : DpAll K H vs ds) : ∀ n, DpAll K H (List.replicate n vs).flatten (List.replicate n ds).flatten
  | 0 => .nil
  | n + 1 => by
    rw [List.replicate_succ, List.replicate_succ, List.flatten_cons, List.flatten_cons]
    exact dpAll_app h (rep_flat h n)
theorem le1k {n : Nat} (h : n ≤ 1000) : n ≤ sizeLine := Nat.le_trans h (by decide)
theorem rep_len {α : Type} (xs : List α) : ∀ n, (List.replicate n xs).flatten.length = n * xs.length
  | 0 => by simp
  | n + 1 => by
    rw [List.replicate_succ, List.flatten_cons, List.length_append, rep_len xs n, Nat.succ_mul, Nat.add_comm]
section
variable {X : Cx} {H0 : Hp} {S : List Nat} {C : (Nat → PyData) → Prop} {e a b : Expr} {es : List Expr} {d : (Nat → PyData) → PyData} {ds fs : (Nat → PyData) → List PyData} {i j k : (Nat → PyData) → Int} {pos : Pos}
theorem pE_int {n : Int} {m : Nat} : PE X (.Constant (.int n) m pos) (tE X.K H0 S C fun _ => .int n) := pe_imp (fun σ H Q ⟨_, _, _, h⟩ => h _ H (Same.refl H) (.int n)) pe_int
theorem pE_str {z : Str} {m : Nat} : PE X (.Constant (.str z) m pos) (tE X.K H0 S C fun _ => .str z) := pe_imp (fun σ H Q ⟨_, _, _, h⟩ => h _ H (Same.refl H) (.str z)) pe_str
theorem pE_bl {z : Bool} {m : Nat} : PE X (.Constant (.bool z) m pos) (tE X.K H0 S C fun _ => .bool z) := pe_imp (fun σ H Q ⟨_, _, _, h⟩ => h _ H (Same.refl H) (.bl z)) pe_bl
theorem pE_non {m : Nat} : PE X (.Constant .none m pos) (tE X.K H0 S C fun _ => .none) := pe_imp (fun σ H Q ⟨_, _, _, h⟩ => h _ H (Same.refl H) .non) pe_non
theorem pE_var (n : Nat) {x : Str} (hd : n ∈ S) (hN : X.N[n]? = some x := by rfl) (hv : Vis X.env.scope x := by first | exact Or.inl rfl | exact Or.inr (Or.inl rfl) | exact Or.inr (Or.inr rfl)) (hb : (x == ("__debug__" : Str)) = false := by decide)
    (hc : (x == ("__classdict__" : Str)) = false := by decide) : PE X (.Name x pos) (tE X.K H0 S C fun ρ => ρ n) :=
  pe_imp (fun σ H Q ⟨ρ, _, g, h⟩ => let ⟨v, a, b⟩ := g.2 _ hd; ⟨v, a, h v H (Same.refl H) b⟩) (pe_var hN hv hb hc)
/-- the same data, known by another name -/
theorem pE_as {d' : (Nat → PyData) → PyData} (h : PE X e (tE X.K H0 S C d)) (hd : ∀ ρ, C ρ → d ρ = d' ρ) : PE X e (tE X.K H0 S C d') :=
  pe_imp (fun σ H Q ⟨ρ, c, g, q⟩ => ⟨ρ, c, g, fun v H' s h => q v H' s (by rw [← hd ρ c]; exact h)⟩) h
theorem pE_nil : PA X [] (tEs X.K H0 S C fun _ => []) := pa_imp (fun σ H Q ⟨_, _, _, h⟩ => h _ H (Same.refl H) .nil) pa_nil
theorem pE_cons (he : PE X e (tE X.K H0 S C d)) (hr : PA X es (tEs X.K H0 S C ds)) (hs : starEach (e :: es) X.env = (false, eval e X.env) :: starEach es X.env := by rfl) : PA X (e :: es) (tEs X.K H0 S C fun ρ => d ρ :: ds ρ) :=
  pa_imp (fun σ H Q ⟨ρ, c, g, h⟩ => ⟨ρ, c, g, fun v H1 s1 h1 => ⟨ρ, c, g.mono s1, fun vs H2 s2 h2 => h _ H2 (Same.trans s1 s2) (.cons (dp_same (nw_l s2) _ _ h1) h2)⟩⟩) (pa_cons he hr hs)
theorem new0 {H H' : Hp} {σ : L2.St} {K : PySem.W.Frag} {ρ : Nat → PyData} {p : Addr} (h : EnvD K H0 S ρ σ H) (s : Same H H') (hp : H' p = none) : H0 p = none := Same.free (Same.trans h.1 s) hp
theorem pE_tup {x1 : Nat} (h : PA X es (tEs X.K H0 S C ds)) (hl : ∀ ρ, C ρ → (ds ρ).length ≤ 1000) : PE X (.Tuple es x1 pos) (tE X.K H0 S C fun ρ => .tuple (ds ρ)) :=
  pe_imp (fun σ H Q ⟨ρ, c, g, h⟩ => ⟨ρ, c, g, fun vs H1 s1 h1 => ⟨by rw [dpAll_len h1]; exact Nat.le_trans (hl ρ c) (by decide), fun p hp => h _ _ (Same.trans s1 (same_upd hp)) (.tup (SqT.of (nw_at (new0 g s1 hp) upd_same)) (dpAll_same (nw_l (same_upd hp)) _ _ h1))⟩⟩) (pe_tup h)
theorem pE_lstR (h : PA X es (tEs X.K H0 S C ds)) (hl : ∀ ρ, C ρ → (ds ρ).length ≤ 1000) : PE X (.List es pos) (tER X.K H0 S C ds) :=
  pe_imp (fun σ H Q ⟨ρ, c, g, h⟩ => ⟨ρ, c, g, fun vs H1 s1 h1 => ⟨by rw [dpAll_len h1]; exact Nat.le_trans (hl ρ c) (by decide), fun p hp => h p vs _ (Same.trans s1 (same_upd hp)) (Same.free s1 hp) upd_same (dpAll_same (nw_l (same_upd hp)) _ _ h1)⟩⟩) (pe_lst h)
theorem pE_raw (h : PE X e (tER X.K H0 S C ds)) : PE X e (tE X.K H0 S C fun ρ => .list (ds ρ)) :=
  pe_imp (fun σ H Q ⟨ρ, c, g, h⟩ => ⟨ρ, c, g, fun l vs H1 s1 hn h1 h2 => h _ H1 s1 (.lst (SqL.of (nw_at (Same.free g.1 hn) h1)) h2)⟩) h
theorem pE_add (ha : PE X a (tE X.K H0 S C fun ρ => .int (i ρ))) (hb : PE X b (tE X.K H0 S C fun ρ => .int (j ρ))) : PE X (.BinOp a .Add b pos) (tE X.K H0 S C fun ρ => .int (i ρ + j ρ)) :=
  pe_imp (fun σ H Q ⟨ρ, c, g, h⟩ => ⟨ρ, c, g, fun v H1 s1 h1 => ⟨ρ, c, g.mono s1, fun u H2 s2 h2 => by
    cases h1
    cases h2
    exact ⟨_, _, rfl, rfl, h _ H2 (Same.trans s1 s2) (.int _)⟩⟩⟩) (pe_op op_add ha hb)
theorem pE_sub (ha : PE X a (tE X.K H0 S C fun ρ => .int (i ρ))) (hb : PE X b (tE X.K H0 S C fun ρ => .int (j ρ))) : PE X (.BinOp a .Sub b pos) (tE X.K H0 S C fun ρ => .int (i ρ - j ρ)) :=
  pe_imp (fun σ H Q ⟨ρ, c, g, h⟩ => ⟨ρ, c, g, fun v H1 s1 h1 => ⟨ρ, c, g.mono s1, fun u H2 s2 h2 => by
    cases h1
    cases h2
    exact ⟨_, _, rfl, rfl, h _ H2 (Same.trans s1 s2) (.int _)⟩⟩⟩) (pe_op op_sub ha hb)
theorem pE_catT (ha : PE X a (tE X.K H0 S C fun ρ => .tuple (ds ρ))) (hb : PE X b (tE X.K H0 S C fun ρ => .tuple (fs ρ))) (hl : ∀ ρ, C ρ → (ds ρ).length + (fs ρ).length ≤ 1000) : PE X (.BinOp a .Add b pos) (tE X.K H0 S C fun ρ => .tuple (ds ρ ++ fs ρ)) :=
  pe_imp (fun σ H Q ⟨ρ, c, g, h⟩ => ⟨ρ, c, g, fun v H1 s1 h1 => ⟨ρ, c, g.mono s1, fun u H2 s2 h2 => by
    have s12 := Same.trans s1 s2
    have h : ∀ (v : V) (H' : Hp), Same H H' → Dp X.K (nw H0 H') v (.tuple (ds ρ ++ fs ρ)) → Q v H' := h
    cases h1 with
    | tup a1 a2 =>
      rename_i p xs
      cases h2 with
      | tup b1 b2 =>
        rename_i r ys
        have a1' := seqT_same (nw_l s2) a1
        have a2' := dpAll_same (nw_l s2) _ _ a2
        have lx := dpAll_len a2
        have ly := dpAll_len b2
        refine ⟨p, r, xs, ys, rfl, rfl, seqT_same nw_same a1', seqT_same nw_same b1, le1k (by have := hl ρ c; omega), fun z => ?_, fun z z' => ?_, fun z z' q hq => ?_⟩
        · subst z
          have e0 : ds ρ = [] := by cases hh : ds ρ with | nil => rfl | cons _ _ => rw [hh] at a2; cases a2
          rw [e0] at h
          exact h _ H2 s12 (.tup b1 b2)
        · subst z'
          have e0 : fs ρ = [] := by cases hh : fs ρ with | nil => rfl | cons _ _ => rw [hh] at b2; cases b2
          rw [e0] at h
          rw [List.append_nil] at h
          exact h _ H2 s12 (.tup a1' a2')
        · have s3 := same_upd (o := .tup (xs ++ ys)) hq
          exact h _ _ (Same.trans s12 s3) (.tup (SqT.of (nw_at (new0 g s12 hq) upd_same)) (dpAll_same (nw_l s3) _ _ (dpAll_app a2' b2)))⟩⟩) (pe_op op_catA ha hb)
theorem pE_mulT (ha : PE X a (tE X.K H0 S C fun ρ => .tuple (ds ρ))) (hb : PE X b (tE X.K H0 S C fun ρ => .int (k ρ))) (hne : ∀ ρ, C ρ → ds ρ ≠ []) (hl : ∀ ρ, C ρ → (ds ρ).length ≤ 100) (hk : ∀ ρ, C ρ → 0 ≤ k ρ ∧ k ρ ≤ 100) : PE X (.BinOp a .Mult b pos) (tE X.K H0 S C fun ρ => .tuple (List.replicate (k ρ).toNat (ds ρ)).flatten) :=
  pe_imp (fun σ H Q ⟨ρ, c, g, h⟩ => ⟨ρ, c, g, fun v H1 s1 h1 => ⟨ρ, c, g.mono s1, fun u H2 s2 h2 => by
    obtain rfl : u = .int (k ρ) := by cases h2; rfl
    have s12 := Same.trans s1 s2
    have h : ∀ (v : V) (H' : Hp), Same H H' → Dp X.K (nw H0 H') v (.tuple (List.replicate (k ρ).toNat (ds ρ)).flatten) → Q v H' := h
    cases h1 with
    | tup a1 a2 =>
      rename_i p xs
      have a1' := seqT_same (nw_l s2) a1
      have a2' := dpAll_same (nw_l s2) _ _ a2
      have lx := dpAll_len a2
      obtain ⟨k0, k1⟩ := hk ρ c
      have hl := hl ρ c
      have hne := hne ρ c
      generalize k ρ = kk at h k0 k1
      generalize ds ρ = dd at h a2 a2' lx hl hne
      refine ⟨p, kk, xs, rfl, rfl, seqT_same nw_same a1', fun z => ?_, by omega, k0, by omega, fun z => ?_, fun z q hq => ?_⟩
      · subst z
        exact hne (by cases a2; rfl)
      · subst z
        have e : (List.replicate (1 : Int).toNat dd).flatten = dd := by simp
        rw [e] at h
        exact h _ H2 s12 (.tup a1' a2')
      · have s3 := same_upd (o := .tup (List.replicate kk.toNat xs).flatten) hq
        exact h _ _ (Same.trans s12 s3) (.tup (SqT.of (nw_at (new0 g s12 hq) upd_same)) (dpAll_same (nw_l s3) _ _ (rep_flat a2' _)))⟩⟩) (pe_op op_repA ha hb)
theorem pE_catR (ha : PE X a (tER X.K H0 S C ds)) (hb : PE X b (tER X.K H0 S C fs)) (hl : ∀ ρ, C ρ → (ds ρ).length + (fs ρ).length ≤ 1000) : PE X (.BinOp a .Add b pos) (tER X.K H0 S C fun ρ => ds ρ ++ fs ρ) :=
  pe_imp (fun σ H Q ⟨ρ, c, g, h⟩ => ⟨ρ, c, g, fun l vs H1 s1 hn1 e1 h1 => ⟨ρ, c, g.mono s1, fun r us H2 s2 hn2 e2 h2 => by
    have s12 := Same.trans s1 s2
    have lx := dpAll_len h1
    have ly := dpAll_len h2
    refine ⟨l, r, vs, us, rfl, rfl, s2 _ _ e1, e2, le1k (by have := hl ρ c; omega), fun q hq => ?_⟩
    have s3 := same_upd (o := .lst (vs ++ us)) hq
    exact h q _ _ (Same.trans s12 s3) (Same.free s12 hq) upd_same (dpAll_same (nw_l s3) _ _ (dpAll_app (dpAll_same (nw_l s2) _ _ h1) h2))⟩⟩) (pe_op op_cat ha hb)
theorem pE_mulR (ha : PE X a (tER X.K H0 S C ds)) (hb : PE X b (tE X.K H0 S C fun ρ => .int (k ρ))) (hl : ∀ ρ, C ρ → (ds ρ).length ≤ 100) (hk : ∀ ρ, C ρ → 0 ≤ k ρ ∧ k ρ ≤ 100) : PE X (.BinOp a .Mult b pos) (tER X.K H0 S C fun ρ => (List.replicate (k ρ).toNat (ds ρ)).flatten) :=
  pe_imp (fun σ H Q ⟨ρ, c, g, h⟩ => ⟨ρ, c, g, fun l vs H1 s1 hn1 e1 h1 => ⟨ρ, c, g.mono s1, fun u H2 s2 h2 => by
    have s12 := Same.trans s1 s2
    have lx := dpAll_len h1
    obtain rfl : u = .int (k ρ) := by cases h2; rfl
    obtain ⟨k0, k1⟩ := hk ρ c
    have hl := hl ρ c
    have h : ∀ (l : Addr) (vs : List V) (H' : Hp), Same H H' → H l = none → H' l = some (.lst vs) → DpAll X.K (nw H0 H') vs (List.replicate (k ρ).toNat (ds ρ)).flatten → Q (.ref l) H' := h
    generalize k ρ = kk at h k0 k1 ⊢
    have hz : vs.length * kk.toNat ≤ sizeLine := by
      have : vs.length * kk.toNat ≤ 100 * 100 := Nat.mul_le_mul (by omega) (by omega)
      exact Nat.le_trans this (by decide)
    refine ⟨l, kk, vs, rfl, rfl, s2 _ _ e1, by omega, by omega, hz, fun q hq => ?_⟩
    have s3 := same_upd (o := .lst (List.replicate kk.toNat vs).flatten) hq
    exact h q _ _ (Same.trans s12 s3) (Same.free s12 hq) upd_same (dpAll_same (nw_l s3) _ _ (rep_flat (dpAll_same (nw_l s2) _ _ h1) _))⟩⟩) (pe_op op_rep ha hb)
end
end Sg

set_option maxRecDepth 100000
set_option maxHeartbeats 8000000
namespace Sg
open PySem PySem.Spec PyProof.Rows L2 Dr Gd Er Cm Ow XT TM
abbrev sBad : Stmt := top 27
def xs_ (k : Int) : List PyData := (List.replicate k.toNat [PyData.str "X"]).flatten
def bt0 : List PyData := [.none, .tuple [], .str "x", .tuple [.str "q"], .int 0, .list [.str "X"], .tuple [.str "X"], .bool true, .tuple [.list [.str "f"]], .tuple [.tuple [.str "q"], .str "X"]]
def btA (z : Str) (m : Int) : List PyData := [.str z, .tuple ([.str z] ++ xs_ (m + 1)), .list ([.str z] ++ xs_ m)]
def btB (z : Str) (m : Int) : List PyData := [.tuple ([.str z] ++ xs_ (m - 1)), .tuple ([.str z, .int 0] ++ xs_ (m - 1)), .tuple ([.str z] ++ xs_ (m - 1) ++ [.tuple [.str "q"]]), .tuple ([.str z] ++ xs_ (m - 1) ++ [.str "x"])]
def btC (z : Str) (m : Int) : List PyData := [.tuple ([.str z] ++ xs_ (m - 1) ++ [.none]), .tuple ([.str z, .list []] ++ xs_ (m - 1)), .tuple ([.str z, .tuple [.str z]] ++ xs_ (m - 1))]
theorem fit_in {W D : Nat} {ds : List PyData} (h : ∀ d ∈ ds, Fit 40 3 d) (hl : ds.length ≤ 6) : Fit 300 5 (.tuple ds) := (fit_tup h).mono (Nat.le_trans (Nat.mul_le_mul hl (Nat.le_refl _)) (by decide)) (by decide)
theorem fit_inL {ds : List PyData} (h : ∀ d ∈ ds, Fit 40 3 d) (hl : ds.length ≤ 6) : Fit 300 5 (.list ds) := (fit_lst h).mono (Nat.le_trans (Nat.mul_le_mul hl (Nat.le_refl _)) (by decide)) (by decide)
theorem xs_len (k : Int) : (xs_ k).length = k.toNat := by unfold xs_; rw [rep_len]; simp
theorem xs_fit (k : Int) : ∀ d ∈ xs_ k, Fit 40 3 d := by
  intro d hd
  unfold xs_ at hd
  rw [List.mem_flatten] at hd
  obtain ⟨l, hl, hm⟩ := hd
  rw [(List.mem_replicate.mp hl).2] at hm
  rw [List.mem_singleton.mp hm]
  decide +kernel
theorem bt0_fit : ∀ d ∈ bt0, Fit 300 5 d := by decide +kernel
theorem app_fit {W D : Nat} {a b : List PyData} (h : ∀ d ∈ a, Fit W D d) (g : ∀ d ∈ b, Fit W D d) : ∀ d ∈ a ++ b, Fit W D d := fun d hd => (List.mem_append.mp hd).elim (h d) (g d)
theorem one_fit {W D : Nat} {e : PyData} (h : Fit W D e) : ∀ d ∈ [e], Fit W D d := fun d hd => by rw [List.mem_singleton.mp hd]; exact h
theorem two_fit {W D : Nat} {e f : PyData} (h : Fit W D e) (g : Fit W D f) : ∀ d ∈ [e, f], Fit W D d := fun d hd => by
  simp only [List.mem_cons, List.not_mem_nil, or_false] at hd
  rcases hd with rfl | rfl
  · exact h
  · exact g
theorem btA_fit {z : Str} {m : Int} (hz : Fit 8 0 (.str z)) (h0 : 0 ≤ m) (h3 : m ≤ 3) : ∀ d ∈ btA z m, Fit 300 5 d := by
  have z4 : Fit 40 3 (.str z) := hz.mono (by decide) (by decide)
  intro d hd
  simp only [btA, List.mem_cons, List.not_mem_nil, or_false] at hd
  rcases hd with rfl | rfl | rfl
  · exact hz.mono (by decide) (by decide)
  · exact fit_in (W := 0) (D := 0) (app_fit (one_fit z4) (xs_fit _)) (by rw [List.length_append, xs_len]; show 1 + _ ≤ 6; omega)
  · exact fit_inL (app_fit (one_fit z4) (xs_fit _)) (by rw [List.length_append, xs_len]; show 1 + _ ≤ 6; omega)
theorem btB_fit {z : Str} {m : Int} (hz : Fit 8 0 (.str z)) (h0 : 0 ≤ m) (h3 : m ≤ 3) : ∀ d ∈ btB z m, Fit 300 5 d := by
  have z4 : Fit 40 3 (.str z) := hz.mono (by decide) (by decide)
  intro d hd
  simp only [btB, List.mem_cons, List.not_mem_nil, or_false] at hd
  rcases hd with rfl | rfl | rfl | rfl
  · exact fit_in (W := 0) (D := 0) (app_fit (one_fit z4) (xs_fit _)) (by rw [List.length_append, xs_len]; show 1 + _ ≤ 6; omega)
  · exact fit_in (W := 0) (D := 0) (app_fit (two_fit z4 (by decide +kernel)) (xs_fit _)) (by rw [List.length_append, xs_len]; show 2 + _ ≤ 6; omega)
  · exact fit_in (W := 0) (D := 0) (app_fit (app_fit (one_fit z4) (xs_fit _)) (one_fit (by decide +kernel))) (by rw [List.length_append, List.length_append, xs_len]; show 1 + _ + 1 ≤ 6; omega)
  · exact fit_in (W := 0) (D := 0) (app_fit (app_fit (one_fit z4) (xs_fit _)) (one_fit (by decide +kernel))) (by rw [List.length_append, List.length_append, xs_len]; show 1 + _ + 1 ≤ 6; omega)
theorem btC_fit {z : Str} {m : Int} (hz : Fit 8 0 (.str z)) (h0 : 0 ≤ m) (h3 : m ≤ 3) : ∀ d ∈ btC z m, Fit 300 5 d := by
  have z4 : Fit 40 3 (.str z) := hz.mono (by decide) (by decide)
  have zz : Fit 40 3 (.tuple [.str z]) := (fit_tup (one_fit hz)).mono (by show 1 * 9 ≤ 40; decide) (by decide)
  intro d hd
  simp only [btC, List.mem_cons, List.not_mem_nil, or_false] at hd
  rcases hd with rfl | rfl | rfl
  · exact fit_in (W := 0) (D := 0) (app_fit (app_fit (one_fit z4) (xs_fit _)) (one_fit (by decide +kernel))) (by rw [List.length_append, List.length_append, xs_len]; show 1 + _ + 1 ≤ 6; omega)
  · exact fit_in (W := 0) (D := 0) (app_fit (two_fit z4 (by decide +kernel)) (xs_fit _)) (by rw [List.length_append, xs_len]; show 2 + _ ≤ 6; omega)
  · exact fit_in (W := 0) (D := 0) (app_fit (two_fit z4 zz) (xs_fit _)) (by rw [List.length_append, xs_len]; show 2 + _ ≤ 6; omega)
theorem cat_E {K : PySem.W.Frag} {H0 H : Hp} {S : List Nat} {C : (Nat → PyData) → Prop} {ρ : Nat → PyData} {σ : L2.St} {Q : VK} {l : Addr} {vs : List V} {ds : List PyData} {es : (Nat → PyData) → List PyData} {i : Nat} (hv : σ[i]? = some (some (.ref l))) (hl : H l = some (.lst vs)) (hd : DpAll K (nw H0 H) vs ds) (c : C ρ) (env : EnvD K H0 S ρ σ H) (hz : ds.length + (es ρ).length ≤ 1000)
    (h : ∀ q us H', Same H H' → H0 q = none → H' q = some (.lst us) → DpAll K (nw H0 H') us (ds ++ es ρ) → Q (.ref q) H') : tOp rCat (tVar i) (tER K H0 S C es) σ H Q := by
  refine ⟨_, hv, ρ, c, env, fun q us H1 s1 hn e1 h1 => ?_⟩
  have lx := dpAll_len hd
  have ly := dpAll_len h1
  refine ⟨l, q, vs, us, rfl, rfl, s1 _ _ hl, e1, le1k (by omega), fun r hr => ?_⟩
  have s3 := same_upd (o := .lst (vs ++ us)) hr
  exact h r _ _ (Same.trans s1 s3) (new0 env s1 hr) upd_same (dpAll_same (nw_l s3) _ _ (dpAll_app (dpAll_same (nw_l s1) _ _ hd) h1))
def iO : PyData → Int
  | .int m => m
  | _ => 0
def tO : PyData → List PyData
  | .tuple ds => ds
  | _ => []
def C1 : (Nat → PyData) → Prop := fun ρ => ∃ m, ρ 3 = .int m ∧ 0 ≤ m ∧ m ≤ 3
def C2 : (Nat → PyData) → Prop := fun ρ => ∃ m, ρ 3 = .int m ∧ 0 ≤ m ∧ m ≤ 3 ∧ ρ 4 = .tuple (xs_ (m - 1))
def C3 : (Nat → PyData) → Prop := fun ρ => ∃ m, ρ 3 = .int m ∧ 1 ≤ m ∧ m ≤ 3
theorem C3i {ρ : Nat → PyData} (c : C3 ρ) : ρ 3 = .int (iO (ρ 3)) ∧ 1 ≤ iO (ρ 3) ∧ iO (ρ 3) ≤ 3 := by
  obtain ⟨m, e, h0, h3⟩ := c
  rw [e]
  exact ⟨rfl, h0, h3⟩
theorem C1i {ρ : Nat → PyData} (c : C1 ρ) : ρ 3 = .int (iO (ρ 3)) ∧ 0 ≤ iO (ρ 3) ∧ iO (ρ 3) ≤ 3 := by
  obtain ⟨m, e, h0, h3⟩ := c
  rw [e]
  exact ⟨rfl, h0, h3⟩
theorem C2t {ρ : Nat → PyData} (c : C2 ρ) : ρ 4 = .tuple (tO (ρ 4)) ∧ (tO (ρ 4)).length ≤ 3 := by
  obtain ⟨m, _, h0, h3, e⟩ := c
  rw [e]
  refine ⟨rfl, ?_⟩
  show (xs_ (m - 1)).length ≤ 3
  rw [xs_len]
  omega
def rX (k : Int) : List PyData := (List.replicate k.toNat [PyData.str "X"]).flatten
theorem rX_len (k : Int) : (List.replicate k.toNat [PyData.str "X"]).flatten.length = k.toNat := by rw [rep_len]; simp
def eA : (Nat → PyData) → List PyData := fun ρ => [ρ 2, .tuple ([ρ 2] ++ (List.replicate (iO (ρ 3) + 1).toNat [PyData.str "X"]).flatten), .list ([ρ 2] ++ (List.replicate (iO (ρ 3)).toNat [PyData.str "X"]).flatten)]
def eB : (Nat → PyData) → List PyData := fun ρ => [.tuple ([ρ 2] ++ tO (ρ 4)), .tuple ([ρ 2, .int 0] ++ tO (ρ 4)), .tuple ([ρ 2] ++ tO (ρ 4) ++ [.tuple [.str "q"]]), .tuple ([ρ 2] ++ tO (ρ 4) ++ [.str "x"])]
def eC : (Nat → PyData) → List PyData := fun ρ => [.tuple ([ρ 2] ++ tO (ρ 4) ++ [.none]), .tuple ([ρ 2, .list []] ++ tO (ρ 4)), .tuple ([ρ 2, .tuple [ρ 2]] ++ tO (ρ 4))]
section
variable {X : Cx} {H0 : Hp} {pos : Pos} {x : Str}
theorem pEi (C : (Nat → PyData) → Prop) (hC : ∀ ρ, C ρ → ρ 3 = .int (iO (ρ 3))) (hN : X.N[3]? = some x := by rfl) (hv : Vis X.env.scope x := by first | exact Or.inl rfl | exact Or.inr (Or.inl rfl) | exact Or.inr (Or.inr rfl)) (hb : (x == ("__debug__" : Str)) = false := by decide)
    (hc : (x == ("__classdict__" : Str)) = false := by decide) : PE X (.Name x pos) (tE X.K H0 [2, 3] C fun ρ => .int (iO (ρ 3))) := pE_as (pE_var 3 (by decide) hN hv hb hc) hC
theorem pEt (hN : X.N[4]? = some x := by rfl) (hv : Vis X.env.scope x := by first | exact Or.inl rfl | exact Or.inr (Or.inl rfl) | exact Or.inr (Or.inr rfl)) (hb : (x == ("__debug__" : Str)) = false := by decide)
    (hc : (x == ("__classdict__" : Str)) = false := by decide) : PE X (.Name x pos) (tE X.K H0 [2, 4] C2 fun ρ => .tuple (tO (ρ 4))) := pE_as (pE_var 4 (by decide) hN hv hb hc) fun ρ c => (C2t c).1
end
def spBad (K : PySem.W.Frag) : Sp := fun vs H Q _ => ∃ v ps, vs = [v] ∧ Dp K H v (psD ps) ∧ Good ps ∧ ∀ p us H' ds, Same H H' → H p = none → H' p = some (.lst us) → DpAll K (nw H H') us ds → (∀ d ∈ ds, Fit 300 5 d) → 0 < ds.length → ds.length ≤ 50 → Q (.ref p) H'
section
variable {P : Program} {w : World} {K : PySem.W.Frag} {mg : Str → Option Value} {base : Heap}
theorem scBd : FnScope ["pairs", "odd", "name", "arity", "more"] ["pairs"] (defScope sBad) := ⟨rfl, rfl, rfl, by decide +kernel, rfl, by decide +kernel, by decide +kernel⟩
theorem cut_to3 (xs : List V) : cutV xs none (some 3) = xs.take 3 := by
  unfold cutV
  rw [HT.sIx_none, List.drop_zero, Nat.sub_zero, show HT.sIx xs.length xs.length (some 3) = min 3 xs.length from HT.sIx_nat _ _ 3]
  rcases Nat.le_total 3 xs.length with h | h
  · rw [Nat.min_eq_left h]
  · rw [Nat.min_eq_right h, List.take_length, List.take_of_length_le h]
theorem ok_bad {f : Addr} {fd : FuncData} (F : Fun K "_law_bad_terms" "_law_bad_terms" sBad f fd) : FnOk P w K mg base CX0 1 f fd ["pairs"] (spBad K) := by
  refine F.ok scBd (fun vs H Q E h => ?_) (fun cdv A outer s H vs Q E hr h => ?_)
  · obtain ⟨v, ps, rfl, _⟩ := h
    rfl
  · obtain ⟨v, ps, rfl, hd, hg, q⟩ := h
    have hi1 : ∀ ρ, C1 ρ → ρ 3 = .int (iO (ρ 3)) := fun ρ c => (C1i c).1
    have l3 : ∀ ρ, C2 ρ → (tO (ρ 4)).length ≤ 3 := fun ρ c => (C2t c).2
    refine ⟨_, pss_cons (ps_set (i := 1) (te := tDatL K (fun _ => True) bt0) scBd.nd rfl (Or.inl rfl) (pd_lstL (by repeat (first | exact pd_int | exact pd_str | exact pd_bl | exact pd_non | exact pd_nil | refine pd_cons ?_ ?_ | refine pd_lst ?_ (by decide) | refine pd_tup ?_ (by decide))) (by decide)))
      (pss_cons (ps_for PassesOwn.never rfl (pi_list (pe_slice sl_list (pv 0) po_none (po_some pe_int))) (pg_tup rfl (pgs_cons (pg_name (i := 2) scBd.nd rfl (Or.inl rfl)) (pgs_cons (pg_name (i := 3) scBd.nd rfl (Or.inl rfl)) pgs_nil)))
        (pss_cons (ps_set (i := 1) (te := tOp rCat (tVar 1) (tER K H [2, 3] C1 eA)) scBd.nd rfl (Or.inl rfl) (pe_op op_cat (pv 1) (pE_lstR (pE_cons (pE_var 2 (by decide)) (pE_cons (pE_catT (pE_tup (pE_cons (pE_var 2 (by decide)) pE_nil) (fun _ _ => by simp)) (pE_mulT (pE_tup (pE_cons pE_str pE_nil) (fun _ _ => by simp)) (pE_add (pEi C1 hi1) pE_int) (fun _ _ => by simp) (fun _ _ => by simp) (fun ρ c => by have := C1i c; omega)) (fun ρ c => by have := C1i c; rw [rX_len]; simp; omega))
            (pE_cons (pE_raw (pE_catR (pE_lstR (pE_cons (pE_var 2 (by decide)) pE_nil) (fun _ _ => by simp)) (pE_mulR (pE_lstR (pE_cons pE_str pE_nil) (fun _ _ => by simp)) (pEi C1 hi1) (fun _ _ => by simp) (fun ρ c => by have := C1i c; omega)) (fun ρ c => by have := C1i c; rw [rX_len]; simp; omega))) pE_nil))) (fun _ _ => by simp [eA]))))
        (pss_one (ps_if (pt_cmpR op_gt (pv 3) pe_int (nomark _))
          (pss_cons (ps_set (i := 4) (te := tE K H [2, 3] C3 (fun ρ => .tuple (List.replicate (iO (ρ 3) - 1).toNat [PyData.str "X"]).flatten)) scBd.nd rfl (Or.inl rfl) (pE_mulT (pE_tup (pE_cons pE_str pE_nil) (fun _ _ => by simp)) (pE_sub (pEi C3 fun ρ c => (C3i c).1) pE_int) (fun _ _ => by simp) (fun _ _ => by simp) (fun ρ c => by have := C3i c; omega)))
          (pss_cons (ps_set (i := 1) (te := tOp rCat (tVar 1) (tER K H [2, 4] C2 eB)) scBd.nd rfl (Or.inl rfl) (pe_op op_cat (pv 1) (pE_lstR (pE_cons (pE_catT (pE_tup (pE_cons (pE_var 2 (by decide)) pE_nil) (fun _ _ => by simp)) pEt (fun ρ c => by have := l3 ρ c; simp; omega))
              (pE_cons (pE_catT (pE_tup (pE_cons (pE_var 2 (by decide)) (pE_cons pE_int pE_nil)) (fun _ _ => by simp)) pEt (fun ρ c => by have := l3 ρ c; simp; omega))
              (pE_cons (pE_catT (pE_catT (pE_tup (pE_cons (pE_var 2 (by decide)) pE_nil) (fun _ _ => by simp)) pEt (fun ρ c => by have := l3 ρ c; simp; omega)) (pE_tup (pE_cons (pE_tup (pE_cons pE_str pE_nil) (fun _ _ => by simp)) pE_nil) (fun _ _ => by simp)) (fun ρ c => by have := l3 ρ c; simp; omega))
              (pE_cons (pE_catT (pE_catT (pE_tup (pE_cons (pE_var 2 (by decide)) pE_nil) (fun _ _ => by simp)) pEt (fun ρ c => by have := l3 ρ c; simp; omega)) (pE_tup (pE_cons pE_str pE_nil) (fun _ _ => by simp)) (fun ρ c => by have := l3 ρ c; simp; omega)) pE_nil)))) (fun _ _ => by simp [eB]))))
          (pss_one (ps_set (i := 1) (te := tOp rCat (tVar 1) (tER K H [2, 4] C2 eC)) scBd.nd rfl (Or.inl rfl) (pe_op op_cat (pv 1) (pE_lstR (pE_cons (pE_catT (pE_catT (pE_tup (pE_cons (pE_var 2 (by decide)) pE_nil) (fun _ _ => by simp)) pEt (fun ρ c => by have := l3 ρ c; simp; omega)) (pE_tup (pE_cons pE_non pE_nil) (fun _ _ => by simp)) (fun ρ c => by have := l3 ρ c; simp; omega))
              (pE_cons (pE_catT (pE_tup (pE_cons (pE_var 2 (by decide)) (pE_cons (pE_raw (pE_lstR pE_nil (fun _ _ => by simp))) pE_nil)) (fun _ _ => by simp)) pEt (fun ρ c => by have := l3 ρ c; simp; omega))
              (pE_cons (pE_catT (pE_tup (pE_cons (pE_var 2 (by decide)) (pE_cons (pE_tup (pE_cons (pE_var 2 (by decide)) pE_nil) (fun _ _ => by simp)) pE_nil)) (fun _ _ => by simp)) pEt (fun ρ c => by have := l3 ρ c; simp; omega)) pE_nil))) (fun _ _ => by simp [eC])))))))
          pss_nil))))
      (pss_one (ps_ret (pv 1)))), ?_⟩
    refine ⟨trivial, fun l us H1 s1 hn1 e1 d1 => ?_⟩
    cases hd with
    | lst g1 g2 =>
      rename_i a xs
      have g2 : DpAll K H xs (prD ps) := g2
      refine ⟨_, rfl, 3, rfl, a, xs, rfl, Same.seq s1 g1, fun p3 hp3 => ?_⟩
      rw [cut_to3]
      have s3 := same_upd (o := .lst (xs.take 3)) hp3
      have e3 : (L2.upd H1 p3 (.lst (xs.take 3))) p3 = some (.lst (xs.take 3)) := upd_same
      refine ⟨p3, rfl, ⟨_, SqL.of e3⟩, ?_⟩
      have sH := Same.trans s1 s3
      have d3 := dpAll_same (nw_l s3) _ _ d1
      have e1' := s3 _ _ e1
      generalize (L2.upd H1 p3 (.lst (xs.take 3))) = H2 at e3 sH d3 e1' ⊢
      have g3 : DpAll K H2 (xs.take 3) (prD (ps.take 3)) := by
        have tk : ∀ (k : Nat) {vs : List V} {ds : List PyData}, DpAll K H2 vs ds → DpAll K H2 (vs.take k) (ds.take k) := by
          intro k
          induction k with
          | zero => intro vs ds _; exact .nil
          | succ k ih =>
            intro vs ds h
            cases h with
            | nil => exact .nil
            | cons a b => exact .cons a (ih b)
        unfold prD
        rw [List.map_take]
        exact tk 3 (dpAll_same sH _ _ g2)
      refine for_it (walk_list (xs := xs.take 3)) (fun i σ H' => ∃ l us ds c2 c3 c4, σ = [some (.ref a), some (.ref l), c2, c3, c4] ∧ Same H2 H' ∧ H' l = some (.lst us) ∧ H l = none ∧ DpAll K (nw H H') us ds ∧ (∀ d ∈ ds, Fit 300 5 d) ∧ 10 ≤ ds.length ∧ ds.length ≤ 10 + 10 * i)
        ⟨l, us, bt0, none, none, none, rfl, Same.refl H2, e1', hn1, d3, bt0_fit, by decide, by decide⟩ (fun i σ H' hi hp => by obtain ⟨_, _, _, _, _, _, _, sm, _⟩ := hp; exact SqL.of (sm _ _ e3)) (fun i y σ Hy H' hi hp hy => ?_) (fun σ H' hp => ?_)
      · obtain ⟨l, us, ds, c2, c3, c4, rfl, sm, hl, hnl, hds, hfit, h10, hlen⟩ := hp
        obtain ⟨rfl, ey⟩ := hy
        obtain ⟨z, m, t, ep, rfl, ht⟩ := pr_at g3 ey
        have hi3 : i < 3 := by
          have := hi
          rw [List.length_take] at this
          omega
        have hzm := hg.2.2.2.1 _ (List.mem_of_mem_take (List.mem_of_getElem? ep))
        have fz : Fit 8 0 (.str z) := fit_word hzm.1 lc_lt
        have hm0 : 0 ≤ m := hzm.2.1
        have hm3 : m ≤ 3 := hzm.2.2
        have sHH := Same.trans sH sm
        refine ⟨t, _, rfl, seqT_same sm ht, rfl, ?_⟩
        refine ⟨_, _, rfl, _, _, rfl, rfl, ?_⟩
        obtain ⟨ρA, hρ2, hρ3⟩ : ∃ ρ : Nat → PyData, ρ 2 = .str z ∧ ρ 3 = .int m := ⟨fun n => if n = 2 then .str z else .int m, rfl, rfl⟩
        obtain ⟨ρB, kρ2, kρ3, kρ4⟩ : ∃ ρ : Nat → PyData, ρ 2 = .str z ∧ ρ 3 = .int m ∧ ρ 4 = .tuple (xs_ (m - 1)) := ⟨fun n => if n = 2 then .str z else if n = 3 then .int m else .tuple (xs_ (m - 1)), rfl, rfl, rfl⟩
        have eAA : eA ρA = btA z m := by
          unfold eA
          rw [hρ2, hρ3]
          rfl
        have eBB : eB ρB = btB z m := by
          unfold eB
          rw [kρ2, kρ4]
          rfl
        have eCC : eC ρB = btC z m := by
          unfold eC
          rw [kρ2, kρ4]
          rfl
        have envA : ∀ {σ : L2.St} {Hc : Hp}, σ[2]? = some (some (.str z)) → σ[3]? = some (some (.int m)) → Same H Hc → EnvD K H [2, 3] ρA σ Hc := fun a2 a3 sc => ⟨sc, fun n hn => by
          simp only [List.mem_cons, List.not_mem_nil, or_false] at hn
          rcases hn with rfl | rfl
          · exact ⟨_, a2, by rw [hρ2]; exact .str z⟩
          · exact ⟨_, a3, by rw [hρ3]; exact .int m⟩⟩
        refine cat_E (ρ := ρA) (i := 1) rfl hl hds ⟨m, hρ3, hm0, hm3⟩ (envA rfl rfl sHH) (by rw [eAA]; show ds.length + 3 ≤ 1000; omega) (fun q5 us5 H5 s5 hn5 e5 d5 => ?_)
        rw [eAA] at d5
        have fit5 := app_fit hfit (btA_fit fz hm0 hm3)
        have len5 : (ds ++ btA z m).length = ds.length + 3 := by rw [List.length_append]; rfl
        refine ⟨_, rfl, _, _, rfl, rfl, _, rfl, ?_⟩
        refine ite2 (fun hc => ?_) (fun hc => ?_)
        · have hc : 0 < m := of_decide_eq_true hc
          refine ⟨ρA, ⟨m, hρ3, by omega, hm3⟩, envA rfl rfl (Same.trans sHH s5), fun vm H6 s6 h6 => ?_⟩
          have h6 : Dp K (nw H H6) vm (.tuple (List.replicate (iO (ρA 3) - 1).toNat [PyData.str "X"]).flatten) := h6
          rw [hρ3] at h6
          have h6 : Dp K (nw H H6) vm (.tuple (xs_ (m - 1))) := h6
          have envB : ∀ {σ : L2.St} {Hc : Hp}, σ[2]? = some (some (.str z)) → σ[4]? = some (some vm) → Same H6 Hc → EnvD K H [2, 4] ρB σ Hc := fun a2 a4 sc => ⟨Same.trans (Same.trans sHH (Same.trans s5 s6)) sc, fun n hn => by
            simp only [List.mem_cons, List.not_mem_nil, or_false] at hn
            rcases hn with rfl | rfl
            · exact ⟨_, a2, by rw [kρ2]; exact .str z⟩
            · exact ⟨_, a4, by rw [kρ4]; exact dp_same (nw_l sc) _ _ h6⟩⟩
          refine cat_E (ρ := ρB) (i := 1) rfl (s6 _ _ e5) (dpAll_same (nw_l s6) _ _ d5) ⟨m, kρ3, hm0, hm3, kρ4⟩ (envB rfl rfl (Same.refl H6)) (by rw [eBB, len5]; show ds.length + 3 + 4 ≤ 1000; omega) (fun q7 us7 H7 s7 hn7 e7 d7 => ?_)
          rw [eBB] at d7
          refine cat_E (ρ := ρB) (i := 1) rfl e7 d7 ⟨m, kρ3, hm0, hm3, kρ4⟩ (envB rfl rfl s7) (by rw [eCC, List.length_append, len5]; show ds.length + 3 + 4 + 3 ≤ 1000; omega) (fun q8 us8 H8 s8 hn8 e8 d8 => ?_)
          rw [eCC] at d8
          have l8 : (ds ++ btA z m ++ btB z m ++ btC z m).length = ds.length + 10 := by
            rw [List.length_append, List.length_append, len5]
            rfl
          exact ⟨q8, us8, _, _, _, _, rfl, Same.trans sm (Same.trans s5 (Same.trans s6 (Same.trans s7 s8))), e8, hn8, d8, app_fit (app_fit fit5 (btB_fit fz hm0 hm3)) (btC_fit fz hm0 hm3), by omega, by omega⟩
        · exact ⟨q5, us5, _, _, _, _, rfl, Same.trans sm s5, e5, hn5, d5, fit5, by omega, by omega⟩
      · obtain ⟨l, us, ds, c2, c3, c4, rfl, sm, hl, hnl, hds, hfit, h10, hlen⟩ := hp
        have : (xs.take 3).length ≤ 3 := by rw [List.length_take]; omega
        exact ⟨_, rfl, q l us H' ds (Same.trans sH sm) hnl hl hds hfit (by omega) (by omega)⟩
end
end Sg

set_option maxRecDepth 100000
set_option maxHeartbeats 8000000
namespace Sg
open PySem PySem.Spec PyProof.Rows L2 Dr Gd Er Cm Ow XT TM
/-! how big a spoiled term is: at most twice the weight and 400, six deeper -/
theorem wtA_app : ∀ a b : List PyData, PyData.weightAll (a ++ b) = PyData.weightAll a + PyData.weightAll b
  | [], b => by simp [PyData.weightAll]
  | x :: a, b => by
    rw [List.cons_append, PyData.weightAll, PyData.weightAll, wtA_app a b]
    omega
theorem wtA_at : ∀ (ds : List PyData) (i : Nat) (d : PyData), ds[i]? = some d → PyData.weightAll ds = PyData.weightAll (ds.take i) + (d.weight + 1 + PyData.weightAll (ds.drop (i + 1)))
  | [], _, _, h => by simp at h
  | x :: ds, 0, d, h => by
    obtain rfl : x = d := by simpa using h
    simp [PyData.weightAll]
  | x :: ds, i + 1, d, h => by
    have := wtA_at ds i d (by simpa using h)
    rw [PyData.weightAll, List.take_succ_cons, PyData.weightAll, List.drop_succ_cons, this]
    omega
/-- the parts of what fits fit -/
theorem fitA_mem {D : Nat} : ∀ {ds : List PyData}, PyData.canLayAll0 ds = true → PyData.depthAll ds ≤ D → PyData.intsShortAll 40 ds = true → PyData.showableAll ds = true → PyData.hasDictAll ds = false → okTs ds = true → ∀ d ∈ ds, Fit d.weight D d
  | [], _, _, _, _, _, _, d, hd => by simp at hd
  | x :: ds, h1, h2, h3, h4, h5, h6, d, hd => by
    simp only [PyData.canLayAll0, Bool.and_eq_true] at h1
    simp only [PyData.depthAll] at h2
    simp only [PyData.intsShortAll, Bool.and_eq_true] at h3
    simp only [PyData.showableAll, Bool.and_eq_true] at h4
    simp only [PyData.hasDictAll, Bool.or_eq_false_iff] at h5
    simp only [okTs, Bool.and_eq_true] at h6
    rcases List.mem_cons.mp hd with rfl | hd
    · exact ⟨h1.1, by omega, h3.1, Nat.le_refl _, h4.1, h5.1, h6.1⟩
    · exact fitA_mem h1.2 (by omega) h3.2 h4.2 h5.2 h6.2 d hd
theorem fit_parts {W D : Nat} {ds : List PyData} (h : Fit W D (.tuple ds)) : ∀ d ∈ ds, Fit d.weight (D - 1) d := by
  have h2 := h.dep
  simp only [PyData.depth] at h2
  exact fitA_mem h.lay (by omega) (by simpa only [PyData.intsShort] using h.isn) (by simpa only [PyData.showable] using h.sh) (by simpa only [PyData.hasDict] using h.nd) (by have := h.ok; rwa [okT] at this)
/-- a tuple of what fits, by its weight -/
theorem fit_tupW {W D : Nat} {ds : List PyData} (h : ∀ d ∈ ds, Fit d.weight D d) (hw : PyData.weightAll ds ≤ W) : Fit W (D + 1) (.tuple ds) := by
  have hm : ∀ d ∈ ds, Fit (PyData.weightAll ds) D d := fun d hd => (h d hd).mono (by
    obtain ⟨i, hi⟩ := List.getElem?_of_mem hd
    have := wtA_at ds i d hi
    omega) (Nat.le_refl _)
  have f := fit_tup hm
  exact ⟨f.lay, f.dep, f.isn, by simpa only [PyData.weight] using hw, f.sh, f.nd, f.ok⟩
/-- one part otherwise -/
theorem fit_put {W D : Nat} {ds : List PyData} {i : Nat} {d e : PyData} (h : Fit W D (.tuple ds)) (hi : ds[i]? = some d) (he : Fit (2 * d.weight + 400) (D - 1 + 6) e) : Fit (2 * W + 400) (D + 6) (.tuple (ds.take i ++ [e] ++ ds.drop (i + 1))) := by
  have hp := fit_parts h
  have hw := h.wt
  simp only [PyData.weight] at hw
  have hD := h.dep
  simp only [PyData.depth] at hD
  have ha := wtA_at ds i d hi
  have hew := he.wt
  have := fit_tupW (W := 2 * W + 400) (D := D - 1 + 6) (ds := ds.take i ++ [e] ++ ds.drop (i + 1)) (fun x hx => by
    rcases List.mem_append.mp hx with hx | hx
    · rcases List.mem_append.mp hx with hx | hx
      · exact (hp x (List.mem_of_mem_take hx)).mono (Nat.le_refl _) (by omega)
      · rw [List.mem_singleton.mp hx]
        exact ⟨he.lay, he.dep, he.isn, Nat.le_refl _, he.sh, he.nd, he.ok⟩
    · exact (hp x (List.mem_of_mem_drop hx)).mono (Nat.le_refl _) (by omega)) (by
    rw [wtA_app, wtA_app]
    simp only [PyData.weightAll]
    omega)
  exact this.mono (Nat.le_refl _) (by omega)
theorem app_fit' {D : Nat} {a b : List PyData} (h : ∀ d ∈ a, Fit d.weight D d) (g : ∀ d ∈ b, Fit d.weight D d) : ∀ d ∈ a ++ b, Fit d.weight D d := fun d hd => (List.mem_append.mp hd).elim (h d) (g d)
theorem one' {D : Nat} {e : PyData} (h : Fit e.weight D e) : ∀ d ∈ [e], Fit d.weight D d := fun d hd => by rw [List.mem_singleton.mp hd]; exact h
/-! what the spoiling draws from -/
def odA : List PyData := [.none, .tuple [], .list [], .int 0, .bool true, .str "", .str "x", .str "XY", .str "X1", .str "ABCDEFGH", .str "ABCDEFGHI", .tuple [.str "q"], .tuple [.str "X"], .tuple [.int 0], .tuple [.none], .str "X Y"]
def odB (d : PyData) : List PyData := [.list [d], .tuple [d], .tuple [.str "f"], .tuple [.str "f", .str "X"], .tuple [.str "f", .str "X", .str "Y"]]
def odC : List PyData := [.tuple [.str "f", .str "X", .str "Y", .str "Z"], .tuple [.str "g", .str "X"], .tuple [.str "a"]]
def odD : List PyData := [.tuple [.list [.str "f"]], .tuple [.tuple [.str "f"]], .tuple [.bool true, .str "X"], .int (10 ^ 30), .tuple [.str "plus", .str "X", .str "Y"], .tuple [.str "F", .str "X"], .tuple [.str ""]]
def odE : List PyData := [.str "Xy", .str "xY"]
def odT (ds : List PyData) : List PyData := [.tuple (ds ++ [.str "X"]), .tuple ds.dropLast, .tuple ds.tail, .tuple (ds.take 1 ++ ds), .tuple (ds.take 1 ++ ds.tail.reverse)]
theorem odA_fit : ∀ d ∈ odA, Fit 400 6 d := by decide +kernel
theorem odC_fit : ∀ d ∈ odC, Fit 400 6 d := by decide +kernel
theorem odD_fit : ∀ d ∈ odD, Fit 400 6 d := by decide +kernel
theorem odE_fit : ∀ d ∈ odE, Fit 400 6 d := by decide +kernel
theorem odB_fit {W D : Nat} {d : PyData} (h : Fit W D d) : ∀ x ∈ odB d, Fit (2 * W + 400) (D + 6) x := by
  intro x hx
  simp only [odB, List.mem_cons, List.not_mem_nil, or_false] at hx
  rcases hx with rfl | rfl | rfl | rfl | rfl
  · exact (fit_lst (one_fit h)).mono (by show 1 * (W + 1) ≤ _; omega) (by omega)
  · exact (fit_tup (one_fit h)).mono (by show 1 * (W + 1) ≤ _; omega) (by omega)
  · exact (show Fit 400 6 (.tuple [.str "f"]) by decide +kernel).mono (by omega) (by omega)
  · exact (show Fit 400 6 (.tuple [.str "f", .str "X"]) by decide +kernel).mono (by omega) (by omega)
  · exact (show Fit 400 6 (.tuple [.str "f", .str "X", .str "Y"]) by decide +kernel).mono (by omega) (by omega)
theorem wtA_rev : ∀ a : List PyData, PyData.weightAll a.reverse = PyData.weightAll a
  | [] => rfl
  | x :: a => by
    rw [List.reverse_cons, wtA_app, wtA_rev a]
    simp only [PyData.weightAll]
    omega
theorem wtA_take (n : Nat) (a : List PyData) : PyData.weightAll (a.take n) + PyData.weightAll (a.drop n) = PyData.weightAll a := by
  rw [← wtA_app, List.take_append_drop]
theorem odT_fit {W D : Nat} {ds : List PyData} (h : Fit W D (.tuple ds)) : ∀ x ∈ odT ds, Fit (2 * W + 400) (D + 6) x := by
  have hp := fit_parts h
  have hw := h.wt
  simp only [PyData.weight] at hw
  have hX : Fit (PyData.str "X").weight (D - 1) (.str "X") := (show Fit (PyData.str "X").weight 0 (.str "X") by decide +kernel).mono (Nat.le_refl _) (by omega)
  have w1 := wtA_take 1 ds
  have w2 := wtA_take (ds.length - 1) ds
  have hx1 : (PyData.str "X").weight = 1 := rfl
  have go : ∀ l : List PyData, (∀ d ∈ l, Fit d.weight (D - 1) d) → PyData.weightAll l ≤ 2 * W + 400 → Fit (2 * W + 400) (D + 6) (.tuple l) := fun l a b => (fit_tupW a b).mono (Nat.le_refl _) (by omega)
  intro x hx
  simp only [odT, List.mem_cons, List.not_mem_nil, or_false] at hx
  rcases hx with rfl | rfl | rfl | rfl | rfl
  · exact go _ (app_fit' hp (one' hX)) (by rw [wtA_app]; simp only [PyData.weightAll, hx1]; omega)
  · exact go _ (fun d hd => hp d (by rw [List.dropLast_eq_take] at hd; exact List.mem_of_mem_take hd)) (by rw [List.dropLast_eq_take]; omega)
  · exact go _ (fun d hd => hp d (List.mem_of_mem_tail hd)) (by rw [← List.drop_one]; omega)
  · exact go _ (app_fit' (fun d hd => hp d (List.mem_of_mem_take hd)) hp) (by rw [wtA_app]; omega)
  · exact go _ (app_fit' (fun d hd => hp d (List.mem_of_mem_take hd)) fun d hd => hp d (List.mem_of_mem_tail (List.mem_reverse.mp hd))) (by rw [wtA_app, wtA_rev, ← List.drop_one]; omega)
/-- the signs of a text -/
def sgD (z : Str) : List PyData := z.cps.toList.map fun c => .str ⟨#[c]⟩
theorem wtA_sgs : ∀ l : List Nat, PyData.weightAll (l.map fun c => PyData.str ⟨#[c]⟩) = 2 * l.length
  | [] => rfl
  | c :: l => by
    rw [List.map_cons, PyData.weightAll, wtA_sgs l, List.length_cons]
    show 1 + 1 + _ = _
    omega
theorem fit_lstW {W D : Nat} {ds : List PyData} (h : ∀ d ∈ ds, Fit d.weight D d) (hw : PyData.weightAll ds ≤ W) : Fit W (D + 1) (.list ds) := by
  have f := fit_tupW h hw
  have d1 := f.dep
  simp only [PyData.depth] at d1
  exact ⟨f.lay, by simpa only [PyData.depth] using d1, by simpa only [PyData.intsShort] using f.isn, by simpa only [PyData.weight] using hw, by simpa only [PyData.showable] using f.sh, by simpa only [PyData.hasDict] using f.nd, by rw [okT]; have := f.ok; rwa [okT] at this⟩
/-- list(d) of a text: its signs -/
theorem fit_sgs {W D : Nat} {z : Str} (h : Fit W D (.str z)) : Fit (2 * W + 400) (D + 6) (.list (sgD z)) := by
  have hw : z.cps.size ≤ W := h.wt
  have hl := h.lay
  simp only [PyData.canLay0, PyData.strOk] at hl
  refine (fit_lstW (W := 2 * W + 400) (D := 0) (fun d hd => ?_) ?_).mono (Nat.le_refl _) (by omega)
  · obtain ⟨c, hc, rfl⟩ := List.mem_map.mp hd
    have hc' : c < 0x110000 := by
      have := (Array.all_eq_true'.mp hl) c (by simpa using hc)
      simpa using this
    refine ⟨?_, by simp [PyData.depth], by simp [PyData.intsShort], Nat.le_refl _, by simp [PyData.showable], by simp [PyData.hasDict], ?_⟩
    · simpa [PyData.canLay0, PyData.strOk] using hc'
    · simp [okT, Str.length]
  · rw [sgD, wtA_sgs, Array.length_toList]
    omega
/-- list(d) of a tuple -/
theorem fit_asL {W D : Nat} {ds : List PyData} (h : Fit W D (.tuple ds)) : Fit (2 * W + 400) (D + 6) (.list ds) := by
  have hw := h.wt
  simp only [PyData.weight] at hw
  exact (fit_lstW (fit_parts h) (by omega)).mono (Nat.le_refl _) (by omega)
abbrev sSpl : Stmt := top 29
theorem scSpl : FnScope ["feed", "pairs", "term", "at", "odd", "name", "arity"] ["feed", "pairs", "term"] (defScope sSpl) := ⟨rfl, rfl, rfl, by decide +kernel, rfl, by decide +kernel, by decide +kernel⟩
/-- the spoiling's promise, by the depth of the term -/
def spSpl (K : PySem.W.Frag) (n : Nat) : Sp := fun vs H Q _ => ∃ p vp v d ps x y, ∃ W D : Nat, vs = [.ref p, vp, v] ∧ H p = some (feedO x y) ∧ Dp K (L2.del H p) vp (psD ps) ∧ Good ps ∧ Dp K (L2.del H p) v d ∧ Fit W D d ∧ W ≤ 2000 ∧ D ≤ 20 ∧ d.depth < n ∧
  ∀ v' d' x' y' H', SameX p H H' → H' p = some (feedO x' y') → Dp K (L2.del H' p) v' d' → Fit (2 * W + 400) (D + 6) d' → Q v' H'
end Sg

set_option maxRecDepth 100000
set_option maxHeartbeats 4000000
/-! t[::-1], t a tuple -/
namespace RT
open PySem PySem.Spec PyProof.Rows L2 HT
theorem revAdj (n : Nat) : Builtin.Slice.sliceAdjust none none (-1) (n : Int) = ((n : Int) - 1, -1) := by
  unfold Builtin.Slice.sliceAdjust
  simp
theorem revPlaces (n : Nat) : Builtin.Slice.slicePlaces ((n : Int) - 1) (-1) (-1) = n := by
  unfold Builtin.Slice.slicePlaces
  have h1 : ¬ (-1 : Int) > 0 := by decide
  simp only [h1, if_false]
  rw [show (- -1 : Int) = 1 from rfl, Int.ediv_one]
  split <;> omega
theorem fmCongr {α β : Type} {f g : α → Option β} : ∀ (l : List α), (∀ x ∈ l, f x = g x) → l.filterMap f = l.filterMap g
  | [], _ => rfl
  | x :: l, h => by
    rw [List.filterMap_cons, List.filterMap_cons, h x List.mem_cons_self, fmCongr l fun y hy => h y (List.mem_cons_of_mem _ hy)]
theorem revPick (xs : Array Value) : ((List.range xs.size).filterMap fun (k : Nat) => xs[(((xs.size : Int) - 1) + (k : Int) * (-1)).toNat]?).toArray = xs.toList.reverse.toArray := by
  have e : ((List.range xs.size).filterMap fun (k : Nat) => xs[(((xs.size : Int) - 1) + (k : Int) * (-1)).toNat]?) = ((List.range xs.size).map fun k => xs.size - 1 - k).filterMap (xs[·]?) := by
    rw [List.filterMap_map]
    refine fmCongr _ fun k hk => ?_
    have := List.mem_range.mp hk
    show xs[(((xs.size : Int) - 1) + (k : Int) * (-1)).toNat]? = xs[xs.size - 1 - k]?
    have e : (((xs.size : Int) - 1) + (k : Int) * (-1)).toNat = xs.size - 1 - k := by omega
    rw [e]
  rw [e, PySem.W.krv_range, List.filterMap_reverse, PySem.W.krv_all]
section
variable {prog : Program} {w : World} {A : Around} {E : Value → Shared → Prop} {s : Shared}
theorem sliceRev {sl : Addr} {vl vu vs : Value} {n : Nat} {Q : Int × Int × Nat → Shared → Prop} (hs : s.heap.IsSliceOf sl vl vu vs) (pl : IsPart vl none) (pu : IsPart vu none) (ps : IsPart vs (some (-1)))
    (h : Q ((n : Int) - 1, -1, n) s) : wpAny (model prog w) A (Builtin.Slice.sliceApplied (.ref sl) (pure (n : Int))) Q E s := by
  obtain ⟨os, hos, hcs, hds⟩ := id hs
  unfold Builtin.Slice.sliceApplied Builtin.Slice.sliceFields
  refine wpAny_bind (wpAny_bind (wpAny_field hos hds (x := vl) rfl (wpAny_bind (wpAny_field hos hds (x := vu) rfl (wpAny_bind (wpAny_field hos hds (x := vs) rfl (wpAny_pure ?_)))))))
  refine wpAny_bind (slicePart_ ps ?_)
  show wpAny _ _ (if ((-1 : Int) == 0) = true then _ else _) _ _ s
  rw [if_neg (by decide)]
  refine wpAny_bind (slicePart_ pl (wpAny_bind (slicePart_ pu (wpAny_bind (wpAny_pure ?_)))))
  show wpAny _ _ (match Builtin.Slice.sliceAdjust none none (-1) (n : Int) with | (lo, hi) => pure (lo, (-1 : Int), Builtin.Slice.slicePlaces lo hi (-1))) _ _ s
  rw [revAdj]
  show wpAny _ _ (pure ((n : Int) - 1, (-1 : Int), Builtin.Slice.slicePlaces ((n : Int) - 1) (-1) (-1))) _ _ s
  rw [revPlaces]
  exact wpAny_pure h

theorem getItem_tuple_rev {t sl : Addr} {items : Array Value} {vl vu vs : Value} {Q : Value → Shared → Prop} (ht : IsTup s.heap t items) (hs : s.heap.IsSliceOf sl vl vu vs) (pl : IsPart vl none) (pu : IsPart vu none) (ps : IsPart vs (some (-1)))
    (h : Q (.ref s.heap.objs.size) { s with heap := s.heap.push { cls := .type "tuple", data := .seq items.toList.reverse.toArray } })
    (hsz : items.size ≤ sizeLine) : wpAny (model prog w) A (getItem (.ref t) (.ref sl)) Q E s := by
  have htake : sizeOk (.seq items.toList.reverse.toArray) := by
    show items.toList.reverse.toArray.size ≤ sizeLine
    rw [List.size_toArray, List.length_reverse, Array.length_toList]
    exact hsz
  obtain ⟨os, hos, hcs, hds⟩ := id hs
  have hTs : s.TypeIs (.ref sl) "slice" := ⟨os, hos, hcs⟩
  unfold getItem
  try with_reducible refine wpAny_holding ?_
  first | refine wpAny_bind (wpAny_pure ?_) | skip
  refine wpAny_bind (wpAny_sequenceKey ht.typeIs (by decide) ?_)
  refine wpAny_bind (wpAny_callSpecial?_slot (name := Str.ofString "__getitem__") ht.typeIs PyProof.Rows.slot_tuple_getitem
    (wpAny_call_entry PyProof.Rows.slot_tuple_getitem ht.typeIs entry_tuple_getitem ?_ (args_tuple_getitem _ _)))
  show wpAny _ _ (Builtin.Tuple.tupleItemsOf (.ref t) >>= _) _ _ s
  refine wpAny_bind (tupleItemsOf_ ht ?_)
  refine wpAny_bind (wpAny_typeOf hTs ?_)
  rw [if_pos (by decide)]
  refine wpAny_bind (sliceRev hs pl pu ps ?_)
  have hno : ¬ ((((items.size : Int) - 1) == 0 && (-1 : Int) == 1 && items.size == items.size) = true) := by
    intro q
    rw [Bool.and_eq_true, Bool.and_eq_true] at q
    exact absurd q.1.2 (by decide)
  show wpAny _ _ (if (((items.size : Int) - 1) == 0 && (-1 : Int) == 1 && items.size == items.size) = true then _ else _) _ _ s
  rw [if_neg hno, revPick]
  first
    | exact wpAny_bind (m := Builtin.Tuple.tupleExact _) (wpAny_newObj_type (wpAny_pure ⟨_, rfl, wpAny_pure h⟩) htake)
    | exact wpAny_bind (m := Builtin.Tuple.tupleExact _) (wpAny_newObj_type (wpAny_bind (wpAny_pure (wpAny_pure ⟨_, rfl, wpAny_pure h⟩))) htake)
    | exact wpAny_bind (wpAny_bind (m := Builtin.Tuple.tupleExact _) (wpAny_newObj_type (wpAny_pure (wpAny_pure ⟨_, rfl, wpAny_pure h⟩)) htake))
    | exact wpAny_bind (wpAny_bind (m := Builtin.Tuple.tupleExact _) (wpAny_newObj_type (wpAny_pure ⟨_, rfl, wpAny_pure h⟩) htake))
end
section
variable {X : Cx}
/-- t[::-1]: the rule -/
def tRevT (K : PySem.W.Frag) (te : TE) : TE := fun σ H Q => te σ H fun x H1 => ∃ a xs, x = .ref a ∧ SqT K H1 a xs ∧ ∀ p, H1 p = none → Q (.ref p) (upd H1 p (.tup xs.reverse))
theorem pe_revT {e : Expr} {te : TE} {k : Nat} {p1 p2 p3 pos : Pos} (he : PE X e te) : PE X (.Subscript e (.Slice none none (some (.UnaryOp .USub (.Constant (.int 1) k p1) p2)) p3) pos) (tRevT X.K te) := by
  refine ⟨fun pins s σ H Q I h => ?_⟩
  refine Subscript_ (thn (he.run pins s σ H _ I h) fun v s1 ⟨x, H1, I1, r1, q1⟩ => ?_)
  obtain ⟨a, xs, ex, hx, q⟩ := q1
  subst ex
  cases r1
  have hst : PO X (some (.UnaryOp .USub (.Constant (.int 1) k p1) p2)) (tPart (tUn (rU fun i => .int (-i)) (tC (.int 1)))) := po_some (pe_un un_neg pe_int)
  refine wpAny_Slice (thn (po_none.run pins s1 σ H1 (fun o H2 => o = none ∧ H2 = H1) I1 ⟨rfl, rfl⟩) fun vl s2 ⟨l, H2, I2, pl, el, e2⟩ => ?_)
  subst el e2
  refine thn (po_none.run pins s2 σ H2 (fun o H3 => o = none ∧ H3 = H2) I2 ⟨rfl, rfl⟩) fun vu s3 ⟨u, H3, I3, pu, eu, e3⟩ => ?_
  subst eu e3
  refine thn (hst.run pins s3 σ H3 (fun o H4 => o = some (-1) ∧ H4 = H3) I3 ⟨1, rfl, -1, rfl, rfl, rfl⟩) fun vs s4 ⟨o, H4, I4, ps, eo, e4⟩ => ?_
  subst eo e4
  have I5 : Inv X pins σ H4 { s4 with heap := s4.heap.push { cls := .type "slice", data := .fields #[vl, vu, vs] } } := I4.kept (t' := s4.toks) fun b ob q => Heap.get?_push_of_some _ q
  obtain ⟨its, r, ht, hz⟩ := I5.tuple hx
  have hlen : its.toArray.size = xs.length := by rw [List.size_toArray]; exact r.length.symm
  show wpAny (model X.prog X.w) X.A (subscriptTail e (.Slice none none (some (.UnaryOp .USub (.Constant (.int 1) k p1) p2)) p3) (.ref a) (.ref s4.heap.objs.size)) (EP X pins σ Q) X.xe { s4 with heap := s4.heap.push { cls := .type "slice", data := .fields #[vl, vu, vs] } }
  refine tail_any (ops := [.ref a, .ref s4.heap.objs.size]) ht.typeIs (PyProof.Rows.slot_tuple_getitem.lookup) ?_ (by with_unfolding_all rfl)
  refine getItem_tuple_rev ht (Heap.IsSliceOf.new _ vl vu vs) pl pu ps ?_ (by rw [hlen]; exact hz)
  refine ⟨.ref _, _, I5.laid (t' := s4.toks) (o := .tup xs.reverse) (fun b ob q => Heap.get?_push_of_some _ q) (Nat.le_refl _) ?_, rfl, q _ (I5.hok.fresh (Nat.le_refl _))⟩
  exact ⟨by rw [List.length_reverse]; exact hz, _, r.reverse, IsTup.new _ _⟩
end
end RT

set_option maxRecDepth 100000
set_option maxHeartbeats 4000000
/-! list(x), x a text: a new list of its signs -/
namespace LS
open PySem PySem.Spec PyProof.Rows L2
/-- the signs of a text, as data -/
def sgs (z : Str) : List V := z.cps.toList.map fun c => .str ⟨#[c]⟩
theorem sgs_len (z : Str) : (sgs z).length = z.cps.size := by
  unfold sgs
  rw [List.length_map, Array.length_toList]
section
variable {X : Cx} {a : Expr} {ta : TE}
def kLstS (x : V) (H : Hp) (Q : VK) : Prop := ∃ z, x = .str z ∧ z.cps.size ≤ sizeLine ∧ ∀ q, H q = none → Q (.ref q) (upd H q (.lst (sgs z)))
theorem rl_listS (hc : X.calm = true) (pins : List (Addr × Obj)) (s : Shared) (σ : L2.St) (H : Hp) (x : V) (v : Value) (Q : VK) (I : Inv X pins σ H s) (r : RelV x v) (h : kLstS x H Q) :
    wpAny (model X.prog X.w) X.A (call (.type "list") [v]) (EP X pins σ Q) X.xe s := by
  obtain ⟨z, rfl, hz, q⟩ := h
  obtain ⟨t, rfl⟩ := r
  refine call_list_str (I.ok.hd hc) z t (hn := hz) fun h' tk acc c' hk e hi => ?_
  refine ⟨.ref s.heap.objs.size, upd H s.heap.objs.size (.lst (sgs z)), I.laid hk (Nat.le_refl _) ⟨by rw [sgs_len]; exact hz, acc.toList, c', ?_, by rw [Array.toArray_toList]; exact e⟩, rfl, q _ (I.hok.fresh (Nat.le_refl _))⟩
  refine vals_of_idx _ _ (by rw [sgs_len, Array.length_toList]; exact hi.1) fun j u hj => ?_
  obtain ⟨c, t', hc, rfl⟩ := hi.2 j u (by rw [← Array.getElem?_toList]; exact hj)
  exact ⟨.str ⟨#[c]⟩, by simp [sgs, hc], ⟨_, rfl⟩⟩
theorem pe_listOfS {p pos : Pos} (hc : X.calm = true) (hg : Gl X "list") (hm : X.mg "list" = none) (ha : PE X a ta) (na : starEach [a] X.env = (false, eval a X.env) :: starEach [] X.env := by rfl) :
    PE X (.Call (.Name "list" p) [a] [] pos) (tThenZ ta kLstS) := pe_callTy (call_r1 (rl_listS hc)) hg hm (by decide +kernel) (pa_cons ha pa_nil na) (he := na)
end
end LS

set_option maxRecDepth 100000
set_option maxHeartbeats 8000000
namespace Sg
open PySem PySem.Spec PyProof.Rows L2 Dr Gd Er Cm Ow XT TM RT LS
/-! more expressions over data: slices, turned round, longer tuples; a start that only the question knows -/
def tEx (t : Hp → TE) : TE := fun σ H Q => ∃ H0, t H0 σ H Q
theorem le20k {n : Nat} (h : n ≤ 20000) : n ≤ sizeLine := Nat.le_trans h (by decide)
def cutD (xs : List PyData) (lo hi : Option Int) : List PyData := (xs.drop (HT.sIx xs.length 0 lo)).take (HT.sIx xs.length xs.length hi - HT.sIx xs.length 0 lo)
theorem dpA_drop {K : PySem.W.Frag} {H : Hp} : ∀ (k : Nat) {vs : List V} {ds : List PyData}, DpAll K H vs ds → DpAll K H (vs.drop k) (ds.drop k)
  | 0, _, _, h => h
  | k + 1, _, _, .nil => .nil
  | k + 1, _, _, .cons a b => dpA_drop k b
theorem dpA_take {K : PySem.W.Frag} {H : Hp} : ∀ (k : Nat) {vs : List V} {ds : List PyData}, DpAll K H vs ds → DpAll K H (vs.take k) (ds.take k)
  | 0, _, _, h => .nil
  | k + 1, _, _, .nil => .nil
  | k + 1, _, _, .cons a b => .cons a (dpA_take k b)
theorem dpA_rev {K : PySem.W.Frag} {H : Hp} : ∀ {vs : List V} {ds : List PyData}, DpAll K H vs ds → DpAll K H vs.reverse ds.reverse
  | _, _, .nil => .nil
  | _, _, .cons a b => by
    rw [List.reverse_cons, List.reverse_cons]
    exact dpAll_app (dpA_rev b) (.cons a .nil)
theorem dpA_cut {K : PySem.W.Frag} {H : Hp} {vs : List V} {ds : List PyData} (lo hi : Option Int) (h : DpAll K H vs ds) : DpAll K H (cutV vs lo hi) (cutD ds lo hi) := by
  unfold cutV cutD
  rw [dpAll_len h]
  exact dpA_take _ (dpA_drop _ h)
theorem cutD_whole {ds : List PyData} {lo hi : Option Int} (h : HT.sIx ds.length 0 lo = 0 ∧ HT.sIx ds.length ds.length hi = ds.length) : cutD ds lo hi = ds := by
  unfold cutD
  rw [h.1, h.2, List.drop_zero, Nat.sub_zero, List.take_length]
theorem cutD_to1 (ds : List PyData) : cutD ds none (some 1) = ds.take 1 := by
  unfold cutD
  rw [HT.sIx_none, List.drop_zero, Nat.sub_zero, show HT.sIx ds.length ds.length (some 1) = min 1 ds.length from HT.sIx_nat _ _ 1]
  rcases Nat.le_total 1 ds.length with h | h
  · rw [Nat.min_eq_left h]
  · rw [Nat.min_eq_right h, List.take_length, List.take_of_length_le h]
theorem cutD_from1 (ds : List PyData) : cutD ds (some 1) none = ds.tail := by
  unfold cutD
  rw [HT.sIx_none, show HT.sIx ds.length 0 (some 1) = min 1 ds.length from HT.sIx_nat _ _ 1, ← List.drop_one]
  rcases Nat.le_total 1 ds.length with h | h
  · rw [Nat.min_eq_left h, List.take_of_length_le (by rw [List.length_drop]; omega)]
  · rw [Nat.min_eq_right h, List.drop_eq_nil_of_le h, List.drop_eq_nil_of_le (Nat.le_refl _), List.take_nil]
theorem cutD_last (ds : List PyData) : cutD ds none (some (-1)) = ds.dropLast := by
  unfold cutD
  rw [HT.sIx_none, List.drop_zero, Nat.sub_zero, List.dropLast_eq_take]
  congr 1
  unfold HT.sIx
  simp
  omega
theorem nw_sub {H0 H H' : Hp} (h : ∀ b o, H0 b = some o → ∃ o', H b = some o') : Same (nw H H') (nw H0 H') := fun b o e => by
  have h1 := nw_inv e
  refine nw_at ?_ h1.2
  cases e0 : H0 b with
  | none => rfl
  | some o0 =>
    obtain ⟨o', e1⟩ := h b o0 e0
    rw [h1.1] at e1
    cases e1
section
variable {X : Cx} {H0 : Hp} {S : List Nat} {C : (Nat → PyData) → Prop} {e a b : Expr} {es : List Expr} {d : (Nat → PyData) → PyData} {ds fs : (Nat → PyData) → List PyData} {pos : Pos} {t : Hp → TE}
theorem pE_ex (h : ∀ H0, PE X e (t H0)) : PE X e (tEx t) := ⟨fun pins s σ H Q I ⟨H0, q⟩ => (h H0).run pins s σ H Q I q⟩
theorem pE_pow30 {j k : Nat} {p1 p2 : Pos} : PE X (.BinOp (.Constant (.int 10) j p1) .Pow (.Constant (.int 30) k p2) pos) (tE X.K H0 S C fun _ => .int (10 ^ 30)) :=
  pe_imp (fun σ H Q ⟨_, _, _, h⟩ => ⟨_, _, rfl, rfl, ⟨by decide, by decide, by decide⟩, h _ H (Same.refl H) (.int _)⟩) (pe_op op_pow pe_int pe_int)
theorem pE_catW (ha : PE X a (tE X.K H0 S C fun ρ => .tuple (ds ρ))) (hb : PE X b (tE X.K H0 S C fun ρ => .tuple (fs ρ))) (hl : ∀ ρ, C ρ → (ds ρ).length + (fs ρ).length ≤ 20000) : PE X (.BinOp a .Add b pos) (tE X.K H0 S C fun ρ => .tuple (ds ρ ++ fs ρ)) :=
  pe_imp (fun σ H Q ⟨ρ, c, g, h⟩ => ⟨ρ, c, g, fun v H1 s1 h1 => ⟨ρ, c, g.mono s1, fun u H2 s2 h2 => by
    have s12 := Same.trans s1 s2
    have h : ∀ (v : V) (H' : Hp), Same H H' → Dp X.K (nw H0 H') v (.tuple (ds ρ ++ fs ρ)) → Q v H' := h
    cases h1 with
    | tup a1 a2 =>
      rename_i p xs
      cases h2 with
      | tup b1 b2 =>
        rename_i r ys
        have a1' := seqT_same (nw_l s2) a1
        have a2' := dpAll_same (nw_l s2) _ _ a2
        have lx := dpAll_len a2
        have ly := dpAll_len b2
        refine ⟨p, r, xs, ys, rfl, rfl, seqT_same nw_same a1', seqT_same nw_same b1, le20k (by have := hl ρ c; omega), fun z => ?_, fun z z' => ?_, fun z z' q hq => ?_⟩
        · subst z
          have e0 : ds ρ = [] := by cases hh : ds ρ with | nil => rfl | cons _ _ => rw [hh] at a2; cases a2
          rw [e0] at h
          exact h _ H2 s12 (.tup b1 b2)
        · subst z'
          have e0 : fs ρ = [] := by cases hh : fs ρ with | nil => rfl | cons _ _ => rw [hh] at b2; cases b2
          rw [e0] at h
          rw [List.append_nil] at h
          exact h _ H2 s12 (.tup a1' a2')
        · have s3 := same_upd (o := .tup (xs ++ ys)) hq
          exact h _ _ (Same.trans s12 s3) (.tup (SqT.of (nw_at (new0 g s12 hq) upd_same)) (dpAll_same (nw_l s3) _ _ (dpAll_app a2' b2)))⟩⟩) (pe_op op_catA ha hb)
theorem pE_sl {lo hi : Option Expr} {tl th : TO} {p2 : Pos} (l u : Option Int) (kl : ∀ (σ : L2.St) (H : Hp) (Q : Option Int → Hp → Prop), Q l H → tl σ H Q) (ku : ∀ (σ : L2.St) (H : Hp) (Q : Option Int → Hp → Prop), Q u H → th σ H Q) (hl : PO X lo tl) (hu : PO X hi th)
    (ha : PE X a (tE X.K H0 S C fun ρ => .tuple (ds ρ))) : PE X (.Subscript a (.Slice lo hi none p2) pos) (tE X.K H0 S C fun ρ => .tuple (cutD (ds ρ) l u)) :=
  pe_imp (fun σ H Q ⟨ρ, c, g, h⟩ => ⟨ρ, c, g, fun v H1 s1 h1 => kl _ _ _ (ku _ _ _ (by
    have h : ∀ (v : V) (H' : Hp), Same H H' → Dp X.K (nw H0 H') v (.tuple (cutD (ds ρ) l u)) → Q v H' := h
    cases h1 with
    | tup a1 a2 =>
      rename_i p xs
      have lx := dpAll_len a2
      refine ⟨p, xs, rfl, seqT_same nw_same a1, fun z => ?_, fun z q hq => ?_⟩
      · rw [lx] at z
        rw [cutD_whole z] at h
        exact h _ H1 s1 (.tup a1 a2)
      · have s3 := same_upd (o := .tup (cutV xs l u)) hq
        exact h _ _ (Same.trans s1 s3) (.tup (SqT.of (nw_at (new0 g s1 hq) upd_same)) (dpAll_same (nw_l s3) _ _ (dpA_cut l u a2)))))⟩) (pe_slice sl_tupA ha hl hu)
theorem pE_rev {k : Nat} {p1 p2 p3 : Pos} (ha : PE X a (tE X.K H0 S C fun ρ => .tuple (ds ρ))) : PE X (.Subscript a (.Slice none none (some (.UnaryOp .USub (.Constant (.int 1) k p1) p2)) p3) pos) (tE X.K H0 S C fun ρ => .tuple (ds ρ).reverse) :=
  pe_imp (fun σ H Q ⟨ρ, c, g, h⟩ => ⟨ρ, c, g, fun v H1 s1 h1 => by
    have h : ∀ (v : V) (H' : Hp), Same H H' → Dp X.K (nw H0 H') v (.tuple (ds ρ).reverse) → Q v H' := h
    cases h1 with
    | tup a1 a2 =>
      rename_i p xs
      refine ⟨p, xs, rfl, seqT_same nw_same a1, fun q hq => ?_⟩
      have s3 := same_upd (o := .tup xs.reverse) hq
      exact h _ _ (Same.trans s1 s3) (.tup (SqT.of (nw_at (new0 g s1 hq) upd_same)) (dpAll_same (nw_l s3) _ _ (dpA_rev a2)))⟩) (pe_revT ha)
/-- a built-in called by either of two rules -/
theorem callR_or {f : Value} {r r' : List V → Hp → VK → Prop} (h : CallR X f r) (h' : CallR X f r') : CallR X f (fun xs H Q => r xs H Q ∨ r' xs H Q) := by
  intro pins s σ H xs us Q I rx q
  rcases q with q | q
  · exact h pins s σ H xs us Q I rx q
  · exact h' pins s σ H xs us Q I rx q
end
theorem wtA_len : ∀ ds : List PyData, ds.length ≤ PyData.weightAll ds
  | [] => Nat.zero_le _
  | d :: ds => by
    have := wtA_len ds
    rw [PyData.weightAll, List.length_cons]
    omega
/-- only what stands at p -/
def only (p : Addr) (H : Hp) : Hp := fun b => if b = p then H b else none
theorem only_same {p : Addr} {H : Hp} : Same (only p H) H := fun b o e => by
  unfold only at e
  by_cases h : b = p
  · rw [if_pos h] at e; exact e
  · rw [if_neg h] at e; cases e
theorem nw_only {p : Addr} {H H' : Hp} {o : HO} (h : H p = some o) : nw (only p H) H' = L2.del H' p := by
  funext b
  unfold nw only
  by_cases hb : b = p
  · subst hb
    rw [if_pos rfl, h, del_same]
    rfl
  · rw [if_neg hb, if_pos rfl, del_ne hb]
def isSq : PyData → Bool
  | .tuple _ => true
  | .str _ => true
  | .list _ => true
  | _ => false
theorem k3 {K : PySem.W.Frag} {a : String} {x y z : Bool} (h1 : kitB a "tuple" = some x) (h2 : kitB a "str" = some y) (h3 : kitB a "list" = some z) : PySem.W.kitAny K (.type a) [.type "tuple", .type "str", .type "list"] = some (x || (y || z)) := by
  refine kitAny_cons (kit_ty h1) (fun e => ?_) (fun e => by rw [e]; rfl)
  rw [e, Bool.false_or]
  refine kitAny_cons (kit_ty h2) (fun e => ?_) (fun e => by rw [e]; rfl)
  rw [e, Bool.false_or]
  exact kitAny_cons (kit_ty h3) (fun e => by rw [e]; exact kitAny_nil) (fun e => e)
theorem k_sq {K : PySem.W.Frag} (d : PyData) : PySem.W.kitAny K (.type (tyD d)) [.type "tuple", .type "str", .type "list"] = some (isSq d) := by
  cases d
  · exact k3 (a := "NoneType") (x := false) (y := false) (z := false) (by decide +kernel) (by decide +kernel) (by decide +kernel)
  · exact k3 (a := "bool") (x := false) (y := false) (z := false) (by decide +kernel) (by decide +kernel) (by decide +kernel)
  · exact k3 (a := "int") (x := false) (y := false) (z := false) (by decide +kernel) (by decide +kernel) (by decide +kernel)
  · exact k3 (a := "str") (x := false) (y := true) (z := false) (by decide +kernel) (by decide +kernel) (by decide +kernel)
  · exact k3 (a := "list") (x := false) (y := false) (z := true) (by decide +kernel) (by decide +kernel) (by decide +kernel)
  · exact k3 (a := "tuple") (x := true) (y := false) (z := false) (by decide +kernel) (by decide +kernel) (by decide +kernel)
  · exact k3 (a := "dict") (x := false) (y := false) (z := false) (by decide +kernel) (by decide +kernel) (by decide +kernel)
end Sg

set_option maxRecDepth 100000
set_option maxHeartbeats 8000000
namespace Sg
open PySem PySem.Spec PyProof.Rows L2 Dr Gd Er Cm Ow XT TM RT LS
/-- t gives a list of what fits, at least m and at most n -/
def Yl (K : PySem.W.Frag) (H0 : Hp) (W D m n : Nat) (t : TE) (σ : L2.St) (H : Hp) : Prop := ∀ Q : VK, (∀ l vs ds H1, Same H H1 → H1 l = some (.lst vs) → DpAll K (nw H0 H1) vs ds → (∀ d ∈ ds, Fit W D d) → m ≤ ds.length → ds.length ≤ n → Q (.ref l) H1) → t σ H Q
/-- the same, a new one that none of its elements holds -/
def YlN (K : PySem.W.Frag) (H0 : Hp) (W D m n : Nat) (t : TE) (σ : L2.St) (H : Hp) : Prop := ∀ Q : VK, (∀ l vs ds H1, Same H H1 → H l = none → H1 l = some (.lst vs) → DpAll K (L2.del (nw H0 H1) l) vs ds → (∀ d ∈ ds, Fit W D d) → m ≤ ds.length → ds.length ≤ n → Q (.ref l) H1) → t σ H Q
theorem same_del {l : Addr} {H : Hp} : Same (L2.del H l) H := fun b o e => by
  by_cases hb : b = l
  · subst hb; rw [del_same] at e; cases e
  · rw [del_ne hb] at e; exact e
theorem YlN.yl {K : PySem.W.Frag} {H0 H : Hp} {W D m n : Nat} {t : TE} {σ : L2.St} (h : YlN K H0 W D m n t σ H) : Yl K H0 W D m n t σ H := fun Q q => h Q fun l vs ds H1 s _ e d f a b => q l vs ds H1 s e (dpAll_same same_del _ _ d) f a b
theorem Yl.mono {K : PySem.W.Frag} {H0 H : Hp} {W D W' D' m n : Nat} {t : TE} {σ : L2.St} (h : Yl K H0 W D m n t σ H) (hw : W ≤ W') (hd : D ≤ D') : Yl K H0 W' D' m n t σ H := fun Q q => h Q fun l vs ds H1 s e d f a b => q l vs ds H1 s e d (fun x hx => (f x hx).mono hw hd) a b
theorem cat_Y {K : PySem.W.Frag} {H0 H : Hp} {W D m1 n1 m2 n2 : Nat} {ta tb : TE} {σ : L2.St} (s0 : Same H0 H) (ha : Yl K H0 W D m1 n1 ta σ H) (hb : ∀ H1, Same H H1 → Yl K H0 W D m2 n2 tb σ H1) (hn : n1 + n2 ≤ 1000) : YlN K H0 W D (m1 + m2) (n1 + n2) (tOp rCat ta tb) σ H := by
  intro Q q
  refine ha _ fun l vs ds H1 s1 e1 d1 f1 a1 b1 => hb H1 s1 _ fun r us es H2 s2 e2 d2 f2 a2 b2 => ?_
  have lx := dpAll_len d1
  have ly := dpAll_len d2
  refine ⟨l, r, vs, us, rfl, rfl, s2 _ _ e1, e2, le1k (by omega), fun p hp => ?_⟩
  have s3 := same_upd (o := .lst (vs ++ us)) hp
  have s12 := Same.trans s1 s2
  refine q p _ (ds ++ es) _ (Same.trans s12 s3) (Same.free s12 hp) upd_same ?_ (app_fit f1 f2) (by rw [List.length_append]; omega) (by rw [List.length_append]; omega)
  have sD : Same (nw H0 H2) (L2.del (nw H0 (L2.upd H2 p (.lst (vs ++ us)))) p) := fun b o e => by
    have h2 := nw_inv e
    have hb : b ≠ p := ne_of_none h2.2 hp
    rw [del_ne hb]
    exact nw_at h2.1 (s3 _ _ h2.2)
  exact dpAll_same sD _ _ (dpAll_app (dpAll_same (nw_l s2) _ _ d1) d2)
theorem var_Y {K : PySem.W.Frag} {H0 H : Hp} {W D m n i : Nat} {σ : L2.St} {l : Addr} {vs : List V} {ds : List PyData} (h : σ[i]? = some (some (.ref l))) (e : H l = some (.lst vs)) (d : DpAll K (nw H0 H) vs ds) (f : ∀ x ∈ ds, Fit W D x) (a : m ≤ ds.length) (b : ds.length ≤ n) : Yl K H0 W D m n (tVar i) σ H :=
  fun Q q => ⟨_, h, q l vs ds H (Same.refl H) e d f a b⟩
theorem dat_Y {K : PySem.W.Frag} {H0 H : Hp} {W D : Nat} {σ : L2.St} {c : L2.St → Prop} {ds : List PyData} (s0 : Same H0 H) (hc : c σ) (f : ∀ x ∈ ds, Fit W D x) : Yl K H0 W D ds.length ds.length (tDatL K c ds) σ H :=
  fun Q q => ⟨hc, fun p vs H1 s1 hn e d => q p vs ds H1 s1 e (dpAll_same (nw_sub fun b o e => ⟨_, s0 _ _ e⟩) _ _ d) f (Nat.le_refl _) (Nat.le_refl _)⟩
theorem ex_Y {K : PySem.W.Frag} {H0 H : Hp} {W D : Nat} {σ : L2.St} {S : List Nat} {C : (Nat → PyData) → Prop} {ds : (Nat → PyData) → List PyData} {ρ : Nat → PyData} (c : C ρ) (g : EnvD K H0 S ρ σ H) (f : ∀ x ∈ ds ρ, Fit W D x) : Yl K H0 W D (ds ρ).length (ds ρ).length (tEx fun H0 => tER K H0 S C ds) σ H :=
  fun Q q => ⟨H0, ρ, c, g, fun l vs H1 s1 hn e d => q l vs (ds ρ) H1 s1 e d f (Nat.le_refl _) (Nat.le_refl _)⟩
theorem lc_Y {K : PySem.W.Frag} {H0 H : Hp} {v : V} {ps : List (Str × Int)} {a0 a2 a3 a4 a5 a6 : Option V} (hd : Dp K H v (psD ps)) (hg : Good ps) : Yl K H0 8 0 0 4 (tLc (iList K (tVar 1)) (gTup K 2 (gCons (gName 5) (gCons (gName 6) gNil))) tYes (tVar 5) [5, 6]) [a0, some v, a2, a3, a4, a5, a6] H := by
  intro Q q
  cases hd with
  | lst g1 g2 =>
    rename_i a xs
    have g2 : DpAll K H xs (prD ps) := g2
    have hl : xs.length = ps.length := (dpAll_len g2).trans (List.length_map ..)
    have p4 : ps.length ≤ 4 := hg.2.1
    refine ⟨_, rfl, a, rfl, ⟨_, g1⟩, fun D hD => ?_⟩
    refine lc_it (walk_list (xs := xs)) (fun i H' => Same H H' ∧ H' D = some (.lst ((ps.take i).map fun p => V.str p.1))) ⟨same_upd hD, upd_same⟩ (fun i H' hi hp => Same.seq hp.1 g1) (fun i y H1 H2 hi hp hy => ?_) (fun H' hp => ?_)
    · obtain ⟨rfl, ey⟩ := hy
      obtain ⟨sm, hDl⟩ := hp
      obtain ⟨z, n, t, ep, rfl, ht⟩ := pr_at g2 ey
      refine ⟨t, _, rfl, seqT_same sm ht, rfl, ?_⟩
      refine ⟨_, _, rfl, _, _, rfl, rfl, ?_⟩
      refine ⟨rfl, lcYes ?_⟩
      refine ⟨_, rfl, _, hDl, ?_, ?_, ?_⟩
      · rw [List.length_map, List.length_take]
        have : min i ps.length < 1000 := by omega
        exact Nat.lt_trans this (by decide)
      · exact fun b o e => by
          have : b ≠ D := fun z => by rw [z, hD] at e; cases e
          rw [upd_ne this]
          exact sm b o e
      · rw [upd_same, List.take_succ, ep, List.map_append]
        rfl
    · obtain ⟨sm, hDl⟩ := hp
      rw [hl, List.take_length] at hDl
      refine q D _ (ps.map fun p => PyData.str p.1) H' sm hDl ?_ (fun x hx => ?_) (Nat.zero_le _) (by rw [List.length_map]; exact p4)
      · have go : ∀ qs : List (Str × Int), DpAll K (nw H0 H') (qs.map fun p => V.str p.1) (qs.map fun p => PyData.str p.1) := fun qs => by
          induction qs with
          | nil => exact .nil
          | cons a b ih => exact .cons (.str _) ih
        exact go ps
      · obtain ⟨p, hp, rfl⟩ := List.mem_map.mp hx
        exact fit_word (hg.2.2.2.1 p hp).1 lc_lt
theorem bad_Y {K : PySem.W.Frag} {H0 H : Hp} {v : V} {ps : List (Str × Int)} {σ : L2.St} (h1 : σ[1]? = some (some v)) (s0 : Same H0 H) (hd : Dp K H v (psD ps)) (hg : Good ps) : Yl K H0 300 5 0 50 (tCall (spBad K) [] E0 (tCons (tVar 1) tNil)) σ H :=
  fun Q q => ⟨_, h1, v, ps, rfl, hd, hg, fun p us H' ds s n e d f a b => q p us ds H' s e (dpAll_same (nw_sub fun b o e => ⟨_, s0 _ _ e⟩) _ _ d) f (Nat.zero_le _) b⟩
end Sg

set_option maxRecDepth 100000
set_option maxHeartbeats 8000000
namespace Sg
open PySem PySem.Spec PyProof.Rows L2 Dr Gd Er Cm Ow XT TM RT LS
def CT (W : Nat) : (Nat → PyData) → Prop := fun ρ => ∃ ds, ρ 2 = .tuple ds ∧ ds.length ≤ 2000
theorem ct_tup {W : Nat} {ρ : Nat → PyData} (c : CT W ρ) : ρ 2 = .tuple (tO (ρ 2)) ∧ (tO (ρ 2)).length ≤ 2000 := by
  obtain ⟨ds, e, h⟩ := c
  rw [e]
  exact ⟨rfl, h⟩
section
variable {X : Cx} {H0 : Hp} {pos : Pos} {x : Str}
theorem pEu (hN : X.N[2]? = some x := by rfl) (hv : Vis X.env.scope x := by first | exact Or.inl rfl | exact Or.inr (Or.inl rfl) | exact Or.inr (Or.inr rfl)) (hb : (x == ("__debug__" : Str)) = false := by decide)
    (hc : (x == ("__classdict__" : Str)) = false := by decide) : PE X (.Name x pos) (tE X.K H0 [2] (CT 0) fun ρ => .tuple (tO (ρ 2))) := pE_as (pE_var 2 (by decide) hN hv hb hc) fun ρ c => (ct_tup c).1
end
def dT : (Nat → PyData) → List PyData := fun ρ => [.tuple (tO (ρ 2) ++ [.str "X"]), .tuple (cutD (tO (ρ 2)) none (some (-1))), .tuple (cutD (tO (ρ 2)) (some 1) none), .tuple (cutD (tO (ρ 2)) none (some 1) ++ tO (ρ 2)), .tuple (cutD (tO (ρ 2)) none (some 1) ++ (cutD (tO (ρ 2)) (some 1) none).reverse)]
theorem dT_eq {ρ : Nat → PyData} {ds : List PyData} (h : ρ 2 = .tuple ds) : dT ρ = odT ds := by
  unfold dT odT
  rw [h]
  simp only [tO, cutD_to1, cutD_from1, cutD_last]
theorem cutD_len (ds : List PyData) (lo hi : Option Int) : (cutD ds lo hi).length ≤ ds.length := by
  unfold cutD
  rw [List.length_take, List.length_drop]
  omega
theorem set_seq {te : TE} {i : Nat} {u : TS} {D : Ends} {σ : L2.St} {H : Hp} (h : te σ H fun v H1 => u D (σ.set i (some v)) H1) : tSeq (tAsg te (gName i)) u D σ H := h
theorem set_one {te : TE} {i : Nat} {D : Ends} {σ : L2.St} {H : Hp} (h : te σ H fun v H1 => D.nx (σ.set i (some v)) H1) : tAsg te (gName i) D σ H := h
section
variable {P : Program} {w : World} {K : PySem.W.Frag} {mg : Str → Option Value} {base : Heap} {fT fP fB : Addr} {dTk dPk dBd : FuncData}
theorem ok_spl {f : Addr} {fd : FuncData} (F : Fun K "_law_spoiled" "_law_spoiled" sSpl f fd) (g : mg "_law_spoiled" = some (.ref f)) (T : KTxt mg) (GT : Cal P w K mg base CX0 1 "_law_take" fT dTk ["feed", "many"] spTake) (GP : Cal P w K mg base CX0 2 "_law_pick" fP dPk ["feed", "some"] (spPick K))
    (GB : Cal P w K mg base CX0 1 "_law_bad_terms" fB dBd ["pairs"] (spBad K)) (hls : mg "list" = none) : ∀ n : Nat, FnOk P w K mg base CX0 (n + 2) f fd ["feed", "pairs", "term"] (spSpl K n)
  | 0 => ⟨fun vs H Q E h => (by obtain ⟨_, _, _, _, _, _, _, _, _, _, _, _, _, _, _, _, _, h, _⟩ := h; omega), fun _ _ _ _ _ _ _ _ _ _ _ _ _ h => (by obtain ⟨_, _, _, _, _, _, _, _, _, _, _, _, _, _, _, _, _, h, _⟩ := h; omega)⟩
  | n + 1 => by
    have IH := ok_spl F g T GT GP GB hls n
    have b : Binds K fd ["feed", "pairs", "term"] [] := F.binds fun _ _ _ _ _ _ us hl => match us, hl with | [_, _, _], _ => rfl
    refine F.ok scSpl (fun vs H Q E h => ?_) (fun cdv A outer s H vs Q E hr h => ?_)
    · obtain ⟨p, vp, v, d, ps, x, y, W, D, rfl, _⟩ := h
      rfl
    · obtain ⟨p, vp, v, d, ps, x, y, W, D, rfl, hp, hps, hg, hv, hf, hW, hD, hdn, q⟩ := h
      have r1 : Room 1 (A.deeper (envOfC "_law_spoiled" (defScope sSpl) s.heap.objs.size f cdv)) := hr.mono (by omega)
      have r2 : Room 2 (A.deeper (envOfC "_law_spoiled" (defScope sSpl) s.heap.objs.size f cdv)) := hr.mono (by omega)
      refine ⟨_, C8.pss_cut (ps_if (PW.pt (pw_and (pt_val (pe_callB call_isi (by rfl) T.isi (by decide +kernel) (pa_cons (pv 2) (pa_cons (pe_bltn (v := .ty "tuple") (by rfl) T.tup (by decide +kernel) rfl) pa_nil))))
            (pw_and (pt_cmpR op_gt (pe_callB call_len_seq (by rfl) T.len PySem.boot_len (pa_cons (pv 2) pa_nil)) pe_int (nomark _)) (pw_and1 (pt_cmpR op_gt (pe_call GT.ok r1 rfl GT.g GT.kp GT.b .nil pass0 (pa_cons (pv 0) (pa_cons pe_int pa_nil))) pe_int (nomark _))))))
          (pss_cons (ps_set (i := 3) scSpl.nd rfl (Or.inl rfl) (pe_op op_add pe_int (pe_call GT.ok r1 rfl GT.g GT.kp GT.b .nil pass0 (pa_cons (pv 0) (pa_cons (pe_op op_sub (pe_callB call_len_seq (by rfl) T.len PySem.boot_len (pa_cons (pv 2) pa_nil)) pe_int) pa_nil)))))
          (pss_one (ps_ret (pe_op op_catA (pe_op op_catA (pe_slice sl_tupA (pv 2) po_none (po_some (pv 3))) (pe_tup (pa_cons (pe_call IH hr rfl g F.kp b .nil pass0 (pa_cons (pv 0) (pa_cons (pv 1) (pa_cons (pe_ix ix_tup (pv 2) (pv 3) fun _ _ => rfl) pa_nil)))) pa_nil))) (pe_slice sl_tupA (pv 2) (po_some (pe_op op_add (pv 3) pe_int)) po_none)))))
          pss_nil)
        (pss_cons (ps_set (i := 4) (te := tDatL K (fun _ => True) odA) scSpl.nd rfl (Or.inl rfl) (pd_lstL (by repeat (first | exact pd_int | exact pd_str | exact pd_bl | exact pd_non | exact pd_nil | refine pd_cons ?_ ?_ | refine pd_lst ?_ (by decide) | refine pd_tup ?_ (by decide))) (by decide)))
        (pss_cons (ps_set (i := 4) (te := tOp rCat (tVar 4) (tEx fun H0 => tER K H0 [2] (fun _ => True) (fun ρ => odB (ρ 2)))) scSpl.nd rfl (Or.inl rfl) (pe_op op_cat (pv 4) (pE_ex fun H0 => pE_lstR (pE_cons (pE_raw (pE_lstR (pE_cons (pE_var 2 (by decide)) pE_nil) (fun _ _ => by simp))) (pE_cons (pE_tup (pE_cons (pE_var 2 (by decide)) pE_nil) (fun _ _ => by simp))
            (pE_cons (pE_tup (pE_cons pE_str pE_nil) (fun _ _ => by simp)) (pE_cons (pE_tup (pE_cons pE_str (pE_cons pE_str pE_nil)) (fun _ _ => by simp)) (pE_cons (pE_tup (pE_cons pE_str (pE_cons pE_str (pE_cons pE_str pE_nil))) (fun _ _ => by simp)) pE_nil))))) (fun _ _ => by simp [odB]))))
        (C8.pss_cut (ps_if (pt_val (pe_callB call_isiT (by rfl) T.isi (by decide +kernel) (pa_cons (pv 2) (pa_cons (pe_tup (pa_cons (pe_bltn (v := .ty "tuple") (by rfl) T.tup (by decide +kernel) rfl) (pa_cons (pe_bltn (v := .ty "str") (by rfl) T.str (by decide +kernel) rfl) (pa_cons (pe_bltn (v := .ty "list") (by rfl) hls (by decide +kernel) rfl) pa_nil)))) pa_nil))))
          (pss_one (ps_expr (pe_bm PySem.F.plainAttrs_list PySem.F.slot_list_append PySem.F.type_list_append mt_append (pv 4) (pa_cons (pe_callTy (callR_or call_list_of (call_r1 (rl_listS rfl))) (by rfl) hls (by decide +kernel) (pa_cons (pv 2) pa_nil)) pa_nil))))
          pss_nil)
        (pss_cons (ps_set (i := 4) scSpl.nd rfl (Or.inl rfl) (pe_op op_cat (pv 4) (pd_lstL (c := fun _ => True) (ds := odC) (by repeat (first | exact pd_int | exact pd_str | exact pd_bl | exact pd_non | exact pd_nil | refine pd_cons ?_ ?_ | refine pd_lst ?_ (by decide) | refine pd_tup ?_ (by decide))) (by decide))))
        (pss_cons (ps_set (i := 4) (te := tOp rCat (tVar 4) (tEx fun H0 => tER K H0 [] (fun _ => True) (fun _ => odD))) scSpl.nd rfl (Or.inl rfl) (pe_op op_cat (pv 4) (pE_ex fun H0 => pE_lstR (by unfold odD; repeat (first | exact pE_pow30 | exact pE_int | exact pE_str | exact pE_bl | exact pE_nil | refine pE_cons ?_ ?_ | refine pE_raw (pE_lstR ?_ (fun _ _ => by simp)) | refine pE_tup ?_ (fun _ _ => by simp))) (fun _ _ => by simp [odD]))))
        (pss_cons (ps_set (i := 4) scSpl.nd rfl (Or.inl rfl) (pe_op op_cat (pe_op op_cat (pe_op op_cat (pv 4) (pe_lc (own := [("name", 5), ("arity", 6)]) (g := gTup K 2 (gCons (gName 5) (gCons (gName 6) gNil))) (tt := tYes) (te := tVar 5) rfl scSpl.nd (pi_list (pv 1)) (blkOk_by (N := ["feed", "pairs", "term", "at", "odd", "name", "arity"]) (sc := defScope sSpl) (by decide +kernel))
              (fun _ _ _ _ _ => pg_tup rfl (pgs_cons (pg_name (i := 5) scSpl.nd rfl (Or.inl rfl)) (pgs_cons (pg_name (i := 6) scSpl.nd rfl (Or.inl rfl)) pgs_nil))) (fun _ _ _ _ _ => pts_nil) (fun _ _ _ _ _ => pv 5)))
            (pe_call GB.ok r1 rfl GB.g GB.kp GB.b .nil pass0 (pa_cons (pv 1) pa_nil))) (pd_lstL (c := fun _ => True) (ds := odE) (by repeat (first | exact pd_str | exact pd_nil | refine pd_cons ?_ ?_)) (by decide))))
        (C8.pss_cut (ps_if (pt_val (pe_callB call_isi (by rfl) T.isi (by decide +kernel) (pa_cons (pv 2) (pa_cons (pe_bltn (v := .ty "tuple") (by rfl) T.tup (by decide +kernel) rfl) pa_nil))))
          (pss_one (ps_set (i := 4) (te := tOp rCat (tVar 4) (tEx fun H0 => tER K H0 [2] (CT 0) dT)) scSpl.nd rfl (Or.inl rfl) (pe_op op_cat (pv 4) (pE_ex fun H0 => pE_lstR (pE_cons (pE_catW pEu (pE_tup (pE_cons pE_str pE_nil) (fun _ _ => by simp)) (fun ρ c => by have := (ct_tup c).2; simp; omega))
            (pE_cons (pE_sl none (some (-1)) (fun _ _ _ h => h) (fun _ _ _ h => ⟨1, rfl, -1, rfl, h⟩) po_none (po_some (pe_un un_neg pe_int)) pEu)
            (pE_cons (pE_sl (some 1) none (fun _ _ _ h => ⟨1, rfl, h⟩) (fun _ _ _ h => h) (po_some pe_int) po_none pEu)
            (pE_cons (pE_catW (pE_sl none (some 1) (fun _ _ _ h => h) (fun _ _ _ h => ⟨1, rfl, h⟩) po_none (po_some pe_int) pEu) pEu (fun ρ c => by have := (ct_tup c).2; have := cutD_len (tO (ρ 2)) none (some 1); omega))
            (pE_cons (pE_catW (pE_sl none (some 1) (fun _ _ _ h => h) (fun _ _ _ h => ⟨1, rfl, h⟩) po_none (po_some pe_int) pEu) (pE_rev (pE_sl (some 1) none (fun _ _ _ h => ⟨1, rfl, h⟩) (fun _ _ _ h => h) (po_some pe_int) po_none pEu)) (fun ρ c => by have := (ct_tup c).2; have := cutD_len (tO (ρ 2)) none (some 1); have := cutD_len (tO (ρ 2)) (some 1) none; rw [List.length_reverse]; omega)) pE_nil))))) (fun _ _ => by simp [dT])))))
          pss_nil)
        (pss_one (ps_ret (pe_call GP.ok r2 rfl GP.g GP.kp GP.b .nil pass0 (pa_cons (pv 0) (pa_cons (pv 4) pa_nil)))))))))))), ?_⟩
      have hvH := dp_same same_del _ _ hv
      have hw := hf.wt
      refine ⟨fun σ' H' => ∃ x1 y1, σ' = [some (.ref p), some vp, some v, none, none, none, none] ∧ SameX p H H' ∧ H' p = some (feedO x1 y1), ?_, ?_⟩
      · refine ⟨_, rfl, v, .ty "tuple", .type (tyD d), .type "tuple", _, rfl, .ty _, ty_dp hvH, kit_ty (k_tup d), _, rfl, ?_⟩
        have hv0 := hv
        cases hv with
        | tup g1 g2 =>
          rename_i ta xs ds
          have h1 := seqT_same same_del g1
          have lx := dpAll_len g2
          have hl := wtA_len ds
          simp only [PyData.weight] at hw
          have hl2 : ds.length ≤ 2000 := by omega
          refine iteT ?_
          refine ⟨_, rfl, ta, xs, rfl, .inr h1, _, _, rfl, rfl, _, rfl, ?_⟩
          refine ite2 (fun c1 => ?_) (fun c1 => ?_)
          · have c1 := of_decide_eq_true c1
            refine ⟨_, rfl, p, x, y, 3, rfl, hp, by decide, by decide, fun r x1 y1 hr0 hr1 => ?_⟩
            refine ⟨_, _, rfl, rfl, _, rfl, ?_⟩
            have sx1 : SameX p H (L2.upd H p (feedO x1 y1)) := (SameX.refl p H).upd
            have f1 : (L2.upd H p (feedO x1 y1)) p = some (feedO x1 y1) := upd_same
            generalize (L2.upd H p (feedO x1 y1)) = H1 at sx1 f1 ⊢
            refine ite2 (fun c2 => ?_) (fun c2 => ?_)
            · have dv1 := dpAll_same (SameX.del sx1) _ _ g2
              have t1' := seqT_same (SameX.del sx1) g1
              have ps1 := dp_same (SameX.del sx1) _ _ hps
              refine ⟨_, rfl, _, rfl, ta, xs, rfl, .inr (seqT_same same_del t1'), _, _, rfl, rfl, p, x1, y1, _, rfl, f1, by omega, by omega, fun r2 x2 y2 h20 h21 => ?_⟩
              have sx2 : SameX p H (L2.upd H1 p (feedO x2 y2)) := sx1.upd
              have f2 : (L2.upd H1 p (feedO x2 y2)) p = some (feedO x2 y2) := upd_same
              rw [← del_upd (o := feedO x2 y2)] at dv1 t1' ps1
              generalize (L2.upd H1 p (feedO x2 y2)) = H2 at sx2 f2 dv1 t1' ps1 ⊢
              obtain ⟨j, rfl⟩ : ∃ j : Nat, r2 = (j : Int) := ⟨r2.toNat, by omega⟩
              have hj : j + 1 < xs.length := by omega
              refine ⟨_, _, rfl, rfl, _, rfl, ?_⟩
              have e1j : (1 : Int) + (j : Int) = ((j + 1 : Nat) : Int) := by omega
              have hxl : xs.length ≤ 2000 := by omega
              have cto : cutV xs none (some ((1 : Int) + (j : Int))) = xs.take (j + 1) := by
                unfold cutV
                rw [e1j, HT.sIx_none, List.drop_zero, Nat.sub_zero, HT.sIx_nat, Nat.min_eq_left (by omega)]
              have cfr : cutV xs (some ((j + 2 : Nat) : Int)) none = xs.drop (j + 2) := by
                unfold cutV
                rw [HT.sIx_none, HT.sIx_nat, Nat.min_eq_left (by omega), List.take_of_length_le (by rw [List.length_drop]; omega)]
              refine ⟨_, rfl, _, rfl, ta, xs, rfl, seqT_same same_del t1', fun z => ?_, fun _ p3 hp3 => ?_⟩
              · have z := z.2
                rw [e1j, HT.sIx_nat] at z
                omega
              · rw [cto]
                have s3 := same_upd (o := .tup (xs.take (j + 1))) hp3
                have e3 : (L2.upd H2 p3 (.tup (xs.take (j + 1)))) p3 = some (.tup (xs.take (j + 1))) := upd_same
                have p3p : p3 ≠ p := fun z => by rw [z, f2] at hp3; cases hp3
                have sx3 := sx2.trans (Same.x s3)
                have f3 := s3 _ _ f2
                have dv3 := dpAll_same (SameX.del (p := p) (Same.x s3)) _ _ dv1
                have t3 := seqT_same (SameX.del (p := p) (Same.x s3)) t1'
                have ps3 := dp_same (SameX.del (p := p) (Same.x s3)) _ _ ps1
                generalize (L2.upd H2 p3 (.tup (xs.take (j + 1)))) = H3 at e3 sx3 f3 dv3 t3 ps3 ⊢
                obtain ⟨dk, hdk, hvk⟩ := dpAll_get' dv3 (show xs[j + 1]? = some xs[j + 1] from List.getElem?_eq_getElem hj)
                have fk := fit_parts hf dk (List.mem_of_getElem? hdk)
                have fk2 := fit_parts (W := W) (D := (PyData.tuple ds).depth) ⟨hf.lay, Nat.le_refl _, hf.isn, hf.wt, hf.sh, hf.nd, hf.ok⟩ dk (List.mem_of_getElem? hdk)
                have wk := wtA_at ds (j + 1) dk hdk
                have hD0 : 1 ≤ (PyData.tuple ds).depth := by simp only [PyData.depth]; omega
                refine ⟨_, rfl, _, rfl, _, rfl, _, rfl, ta, xs, _, _, rfl, rfl, seqT_same same_del t3, by rw [e1j]; exact atI_nat (List.getElem?_eq_getElem hj), ?_⟩
                refine ⟨p, vp, _, dk, ps, x2, y2, dk.weight, D - 1, rfl, f3, ps3, hg, hvk, fk, by omega, by omega, by have := fk2.dep; omega, fun v' d' x' y' H4 sx4 f4 hv4 ft4 => ?_⟩
                have e4 := sx4 _ _ e3 p3p
                have t4 := seqT_same (SameX.del sx4) t3
                have dv4 := dpAll_same (SameX.del sx4) _ _ dv3
                have sx04 := sx3.trans sx4
                refine ⟨(by show 1 ≤ sizeLine; decide), fun t5 ht5 => ?_⟩
                have s5 := same_upd (o := .tup [v']) ht5
                have e5 : (L2.upd H4 t5 (.tup [v'])) t5 = some (.tup [v']) := upd_same
                have f5 := s5 _ _ f4
                have sx05 := sx04.trans (Same.x s5)
                have e35 := s5 _ _ e4
                have t5' := seqT_same (SameX.del (p := p) (Same.x s5)) t4
                have dv5 := dpAll_same (SameX.del (p := p) (Same.x s5)) _ _ dv4
                have hv5 := dp_same (SameX.del (p := p) (Same.x s5)) _ _ hv4
                generalize (L2.upd H4 t5 (.tup [v'])) = H5 at e5 f5 sx05 e35 t5' dv5 hv5 ⊢
                have ltk : (xs.take (j + 1)).length = j + 1 := by rw [List.length_take]; omega
                have big : (10000 : Nat) ≤ sizeLine := by decide
                refine ⟨p3, t5, xs.take (j + 1), [v'], rfl, rfl, SqT.of e35, SqT.of e5, by rw [ltk]; show j + 1 + 1 ≤ _; omega, fun z => (by rw [z] at ltk; cases ltk), fun _ z => (by cases z), fun _ _ p6 hp6 => ?_⟩
                have s6 := same_upd (o := .tup (xs.take (j + 1) ++ [v'])) hp6
                have e6 : (L2.upd H5 p6 (.tup (xs.take (j + 1) ++ [v']))) p6 = some (.tup (xs.take (j + 1) ++ [v'])) := upd_same
                have f6 := s6 _ _ f5
                have sx06 := sx05.trans (Same.x s6)
                have t6 := seqT_same (SameX.del (p := p) (Same.x s6)) t5'
                have dv6 := dpAll_same (SameX.del (p := p) (Same.x s6)) _ _ dv5
                have hv6 := dp_same (SameX.del (p := p) (Same.x s6)) _ _ hv5
                have p6p : p6 ≠ p := fun z => by rw [z, f5] at hp6; cases hp6
                generalize (L2.upd H5 p6 (.tup (xs.take (j + 1) ++ [v']))) = H6 at e6 f6 sx06 t6 dv6 hv6 ⊢
                refine ⟨_, rfl, _, rfl, _, _, rfl, rfl, _, rfl, ta, xs, rfl, seqT_same same_del t6, fun z => ?_, fun _ p7 hp7 => ?_⟩
                · have z := z.1
                  rw [show (1 : Int) + (j : Int) + 1 = ((j + 2 : Nat) : Int) by omega, HT.sIx_nat] at z
                  omega
                · rw [show (1 : Int) + (j : Int) + 1 = ((j + 2 : Nat) : Int) by omega, cfr]
                  have s7 := same_upd (o := .tup (xs.drop (j + 2))) hp7
                  have e7 : (L2.upd H6 p7 (.tup (xs.drop (j + 2)))) p7 = some (.tup (xs.drop (j + 2))) := upd_same
                  have f7 := s7 _ _ f6
                  have sx07 := sx06.trans (Same.x s7)
                  have e67 := s7 _ _ e6
                  have dv7 := dpAll_same (SameX.del (p := p) (Same.x s7)) _ _ dv6
                  have hv7 := dp_same (SameX.del (p := p) (Same.x s7)) _ _ hv6
                  generalize (L2.upd H6 p7 (.tup (xs.drop (j + 2)))) = H7 at e7 f7 sx07 e67 dv7 hv7 ⊢
                  have fin := fit_put hf hdk ft4
                  have dfin : DpAll K (L2.del H7 p) (xs.take (j + 1) ++ [v'] ++ xs.drop (j + 2)) (ds.take (j + 1) ++ [d'] ++ ds.drop (j + 1 + 1)) := dpAll_app (dpAll_app (dpA_take _ dv7) (.cons hv7 .nil)) (dpA_drop _ dv7)
                  refine ⟨p6, p7, _, _, rfl, rfl, SqT.of e67, SqT.of e7, by rw [List.length_append, ltk, List.length_drop]; show j + 1 + 1 + _ ≤ _; omega, fun z => (by have := congrArg List.length z; rw [List.length_append, ltk] at this; cases this), fun _ z => ?_, fun _ _ p8 hp8 => ?_⟩
                  · rw [z, List.append_nil] at dfin
                    exact q _ _ _ _ _ sx07 f7 (.tup (SqT.of (by rw [del_ne p6p]; exact e67)) dfin) fin
                  · have s8 := same_upd (o := .tup (xs.take (j + 1) ++ [v'] ++ xs.drop (j + 2))) hp8
                    have p8p : p8 ≠ p := fun z => by rw [z, f7] at hp8; cases hp8
                    exact q _ _ _ _ _ (sx07.trans (Same.x s8)) (s8 _ _ f7) (.tup (SqT.of (by rw [del_ne p8p, upd_same])) (dpAll_same (SameX.del (p := p) (Same.x s8)) _ _ dfin)) fin
            · exact ⟨x1, y1, rfl, sx1, f1⟩
          · exact ⟨x, y, rfl, SameX.refl p H, hp⟩
        | _ => exact iteF ⟨x, y, rfl, SameX.refl p H, hp⟩
      · rintro σ' H1 ⟨x1, y1, rfl, sx1, f1⟩
        have s01 : Same (only p H1) H1 := only_same
        have hv1 : Dp K (nw (only p H1) H1) v d := by rw [nw_only f1]; exact dp_same (SameX.del sx1) _ _ hv
        have hps1 : Dp K H1 vp (psD ps) := dp_same same_del _ _ (dp_same (SameX.del sx1) _ _ hps)
        have dn1 : DpAll K (nw (only p H1) H1) [v] [d] := .cons hv1 .nil
        have env : ∀ {σ : L2.St} {Hc : Hp} {S : List Nat}, σ[2]? = some (some v) → (∀ n ∈ S, n = 2) → Same H1 Hc → EnvD K (only p H1) S (fun _ => d) σ Hc := fun a hS sc => ⟨Same.trans s01 sc, fun n hn => by
          rw [hS n hn]
          exact ⟨_, a, dp_same (nw_l sc) _ _ hv1⟩⟩
        have p4 : ps.length ≤ 4 := hg.2.1
        refine set_seq (dat_Y (c := fun _ => True) (W := 2 * W + 400) (D := D + 6) s01 trivial (fun x hx => (odA_fit x hx).mono (by omega) (by omega)) _ fun l2 us2 ds2 H2 s2 e2 d2 ft2 a2 b2 => ?_)
        refine set_seq (cat_Y (Same.trans s01 s2) (var_Y rfl e2 d2 ft2 a2 b2) (fun H' s' => ex_Y (ρ := fun _ => d) trivial (env rfl (by simp) (Same.trans s2 s')) (odB_fit hf)) (by show 16 + 5 ≤ 1000; omega) _ fun l3 us3 ds3 H3 s3 n3 e3 d3 ft3 a3 b3 => ?_)
        have a3 : 16 + 5 ≤ ds3.length := a3
        have b3 : ds3.length ≤ 16 + 5 := b3
        have s13 := Same.trans s2 s3
        have n13 : H1 l3 = none := Same.free s2 n3
        refine ⟨fun σ' H' => ∃ l us ds, σ' = [some (.ref p), some vp, some v, none, some (.ref l), none, none] ∧ Same H1 H' ∧ H' l = some (.lst us) ∧ DpAll K (nw (only p H1) H') us ds ∧ (∀ x ∈ ds, Fit (2 * W + 400) (D + 6) x) ∧ 21 ≤ ds.length ∧ ds.length ≤ 22, ?_, ?_⟩
        · refine ⟨_, rfl, (by show 3 ≤ sizeLine; decide), fun tp htp => ?_⟩
          have st := same_upd (o := .tup [V.ty "tuple", V.ty "str", V.ty "list"]) htp
          have et : (L2.upd H3 tp (.tup [V.ty "tuple", V.ty "str", V.ty "list"])) tp = some (.tup [V.ty "tuple", V.ty "str", V.ty "list"]) := upd_same
          have s14 := Same.trans s13 st
          have e4 := st _ _ e3
          have d4 : DpAll K (L2.del (nw (only p H1) (L2.upd H3 tp (.tup [V.ty "tuple", V.ty "str", V.ty "list"]))) l3) us3 ds3 := dpAll_same (fun b o e => by
            by_cases hb : b = l3
            · subst hb; rw [del_same] at e; cases e
            · rw [del_ne hb] at e ⊢
              exact nw_l st _ _ e) _ _ d3
          generalize (L2.upd H3 tp (.tup [V.ty "tuple", V.ty "str", V.ty "list"])) = H4 at et s14 e4 d4 ⊢
          have hv4 : Dp K H4 v d := dp_same nw_same _ _ (dp_same (nw_l s14) _ _ hv1)
          refine ⟨v, tp, [.ty "tuple", .ty "str", .ty "list"], .type (tyD d), [.type "tuple", .type "str", .type "list"], _, rfl, et, .cons (.ty _) (.cons (.ty _) (.cons (.ty _) .nil)), ty_dp hv4, k_sq d, _, rfl, ?_⟩
          have us3l : us3.length < 1000 := by have := dpAll_len d3; omega
          have big : (10000 : Nat) ≤ sizeLine := by decide
          have stay : ∃ l us ds, [some (V.ref p), some vp, some v, none, some (V.ref l3), none, none] = [some (.ref p), some vp, some v, none, some (.ref l), none, none] ∧ Same H1 H4 ∧ H4 l = some (.lst us) ∧ DpAll K (nw (only p H1) H4) us ds ∧ (∀ x ∈ ds, Fit (2 * W + 400) (D + 6) x) ∧ 21 ≤ ds.length ∧ ds.length ≤ 22 :=
            ⟨l3, us3, ds3, rfl, s14, e4, dpAll_same same_del _ _ d4, ft3, by omega, by omega⟩
          have fin : ∀ m ys es, H4 m = none → DpAll K (nw (only p H1) H1) ys es → Fit (2 * W + 400) (D + 6) (.list es) → ∃ l us ds, [some (V.ref p), some vp, some v, none, some (V.ref l3), none, none] = [some (.ref p), some vp, some v, none, some (.ref l), none, none] ∧ Same H1 (L2.upd (L2.upd H4 m (.lst ys)) l3 (.lst (us3 ++ [.ref m]))) ∧ (L2.upd (L2.upd H4 m (.lst ys)) l3 (.lst (us3 ++ [.ref m]))) l = some (.lst us) ∧
              DpAll K (nw (only p H1) (L2.upd (L2.upd H4 m (.lst ys)) l3 (.lst (us3 ++ [.ref m])))) us ds ∧ (∀ x ∈ ds, Fit (2 * W + 400) (D + 6) x) ∧ 21 ≤ ds.length ∧ ds.length ≤ 22 := by
            intro m ys es hm hd hf2
            have ml : m ≠ l3 := fun z => by rw [z, e4] at hm; cases hm
            have sm := same_upd (o := .lst ys) hm
            have em : (L2.upd H4 m (.lst ys)) m = some (.lst ys) := upd_same
            have s15 := Same.trans s14 sm
            have m1 : H1 m = none := Same.free s14 hm
            have m0 : only p H1 m = none := by
              unfold only
              by_cases hz : m = p
              · rw [if_pos hz]; exact m1
              · rw [if_neg hz]
            have d5 := dpAll_same (fun b o e => by
              by_cases hb : b = l3
              · subst hb; rw [del_same] at e; cases e
              · rw [del_ne hb] at e ⊢
                exact nw_l sm _ _ e : Same (L2.del (nw (only p H1) H4) l3) (L2.del (nw (only p H1) (L2.upd H4 m (.lst ys))) l3)) _ _ d4
            generalize (L2.upd H4 m (.lst ys)) = H5 at sm em s15 d5 ⊢
            have sA : Same (L2.del (nw (only p H1) H5) l3) (nw (only p H1) (L2.upd H5 l3 (.lst (us3 ++ [.ref m])))) := fun b o e => by
              by_cases hb : b = l3
              · subst hb; rw [del_same] at e; cases e
              · rw [del_ne hb] at e
                have h2 := nw_inv e
                exact nw_at h2.1 (by rw [upd_ne hb]; exact h2.2)
            have sB : Same (nw (only p H1) H1) (nw (only p H1) (L2.upd H5 l3 (.lst (us3 ++ [.ref m])))) := fun b o e => by
              have h2 := nw_inv e
              have hb : b ≠ l3 := ne_of_none h2.2 n13
              exact nw_at h2.1 (by rw [upd_ne hb]; exact s15 _ _ h2.2)
            refine ⟨l3, _, ds3 ++ [.list es], rfl, fun b o e => ?_, upd_same, dpAll_app (dpAll_same sA _ _ d5) (.cons (.lst (SqL.of (nw_at m0 (by rw [upd_ne ml]; exact em))) (dpAll_same sB _ _ hd)) .nil), app_fit ft3 (one_fit hf2), by rw [List.length_append]; omega, by rw [List.length_append]; show _ + 1 ≤ 22; omega⟩
            rw [upd_ne (ne_of_none e n13)]
            exact s15 _ _ e
          cases d with
          | tuple es =>
            refine iteT ?_
            cases hv1 with
            | tup g1 g2 =>
              rename_i ta ys
              refine ⟨_, rfl, .inl ⟨rfl, _, SqL.of e4⟩, _, rfl, .inl ⟨ta, ys, rfl, .inr (seqT_same nw_same (seqT_same (nw_l s14) g1)), fun m hm => ?_⟩⟩
              have ml : m ≠ l3 := fun z => by rw [z, e4] at hm; cases hm
              exact ⟨l3, us3, _, rfl, rfl, by rw [upd_ne ml.symm]; exact e4, by omega, fin m ys es hm g2 (fit_asL hf)⟩
          | list es =>
            refine iteT ?_
            cases hv1 with
            | lst g1 g2 =>
              rename_i ta ys
              refine ⟨_, rfl, .inl ⟨rfl, _, SqL.of e4⟩, _, rfl, .inl ⟨ta, ys, rfl, .inl (Same.seq nw_same (Same.seq (nw_l s14) g1)), fun m hm => ?_⟩⟩
              have ml : m ≠ l3 := fun z => by rw [z, e4] at hm; cases hm
              exact ⟨l3, us3, _, rfl, rfl, by rw [upd_ne ml.symm]; exact e4, by omega, fin m ys es hm g2 (hf.mono (by omega) (by omega))⟩
          | str z =>
            refine iteT ?_
            cases hv1
            have hz : z.cps.size ≤ W := hf.wt
            refine ⟨_, rfl, .inl ⟨rfl, _, SqL.of e4⟩, _, rfl, .inr ⟨z, rfl, by omega, fun m hm => ?_⟩⟩
            have ml : m ≠ l3 := fun z => by rw [z, e4] at hm; cases hm
            exact ⟨l3, us3, _, rfl, rfl, by rw [upd_ne ml.symm]; exact e4, by omega, fin m _ (sgD z) hm (sg_dp _) (fit_sgs hf)⟩
          | _ => exact iteF stay
        · rintro σ' H5 ⟨l5, us5, ds5, rfl, s5, e5, d5, ft5, a5, b5⟩
          refine set_seq (cat_Y (Same.trans s01 s5) (var_Y rfl e5 d5 ft5 a5 b5) (fun H' s' => dat_Y (c := fun _ => True) (Same.trans s01 (Same.trans s5 s')) trivial (fun x hx => (odC_fit x hx).mono (by omega) (by omega))) (by show 22 + 3 ≤ 1000; omega) _ fun l6 us6 ds6 H6 s6 n6 e6 d6 ft6 a6 b6 => ?_)
          refine set_seq (cat_Y (Same.trans s01 (Same.trans s5 s6)) (var_Y rfl e6 (dpAll_same same_del _ _ d6) ft6 a6 b6) (fun H' s' => ex_Y (ρ := fun _ => d) trivial (env rfl (by simp) (Same.trans s5 (Same.trans s6 s'))) (fun x hx => (odD_fit x hx).mono (by omega) (by omega))) (by show 22 + 3 + 7 ≤ 1000; omega) _ fun l7 us7 ds7 H7 s7 n7 e7 d7 ft7 a7 b7 => ?_)
          have s17 := Same.trans s5 (Same.trans s6 s7)
          have hpsH : ∀ {Hc : Hp}, Same H7 Hc → Dp K Hc vp (psD ps) := fun sc => dp_same (Same.trans s17 sc) _ _ hps1
          have y1 := cat_Y (K := K) (Same.trans s01 s17) (var_Y (i := 4) rfl e7 (dpAll_same same_del _ _ d7) ft7 a7 b7) (fun H' s' => (lc_Y (H0 := only p H1) (a0 := some (.ref p)) (a2 := some v) (a3 := none) (a4 := some (.ref l7)) (a5 := none) (a6 := none) (hpsH s') hg).mono (show 8 ≤ 2 * W + 400 by omega) (show 0 ≤ D + 6 by omega)) (by show 22 + 3 + 7 + 4 ≤ 1000; omega)
          have y2 := cat_Y (K := K) (Same.trans s01 s17) y1.yl (fun H' s' => (bad_Y (σ := [some (.ref p), some vp, some v, none, some (.ref l7), none, none]) rfl (Same.trans (Same.trans s01 s17) s') (hpsH s') hg).mono (show 300 ≤ 2 * W + 400 by omega) (show 5 ≤ D + 6 by omega)) (by show 22 + 3 + 7 + 4 + 50 ≤ 1000; omega)
          have y3 := cat_Y (K := K) (Same.trans s01 s17) y2.yl (fun H' s' => dat_Y (c := fun _ => True) (Same.trans (Same.trans s01 s17) s') trivial (fun x hx => (odE_fit x hx).mono (show 400 ≤ 2 * W + 400 by omega) (show 6 ≤ D + 6 by omega))) (by show 22 + 3 + 7 + 4 + 50 + 2 ≤ 1000; omega)
          refine set_seq (y3 _ fun l8 us8 ds8 H8 s8 n8 e8 d8 ft8 a8 b8 => ?_)
          have s18 := Same.trans s17 s8
          have a8 : 21 + 3 + 7 + 0 + 0 + 2 ≤ ds8.length := a8
          have b8 : ds8.length ≤ 22 + 3 + 7 + 4 + 50 + 2 := b8
          refine ⟨fun σ' H' => ∃ l us ds, σ' = [some (.ref p), some vp, some v, none, some (.ref l), none, none] ∧ Same H1 H' ∧ H' l = some (.lst us) ∧ DpAll K (nw (only p H1) H') us ds ∧ (∀ x ∈ ds, Fit (2 * W + 400) (D + 6) x) ∧ 21 ≤ ds.length ∧ ds.length ≤ 100, ?_, ?_⟩
          · have hv8 : Dp K H8 v d := dp_same nw_same _ _ (dp_same (nw_l s18) _ _ hv1)
            refine ⟨_, rfl, v, .ty "tuple", .type (tyD d), .type "tuple", _, rfl, .ty _, ty_dp hv8, kit_ty (k_tup d), _, rfl, ?_⟩
            have stay : ∃ l us ds, [some (V.ref p), some vp, some v, none, some (V.ref l8), none, none] = [some (.ref p), some vp, some v, none, some (.ref l), none, none] ∧ Same H1 H8 ∧ H8 l = some (.lst us) ∧ DpAll K (nw (only p H1) H8) us ds ∧ (∀ x ∈ ds, Fit (2 * W + 400) (D + 6) x) ∧ 21 ≤ ds.length ∧ ds.length ≤ 100 :=
              ⟨l8, us8, ds8, rfl, s18, e8, dpAll_same same_del _ _ d8, ft8, by omega, by omega⟩
            cases d with
            | tuple es =>
              refine iteT ?_
              have hlen : es.length ≤ 2000 := by
                have h1 := wtA_len es
                have h2 := hf.wt
                simp only [PyData.weight] at h2
                omega
              refine set_one (cat_Y (K := K) (Same.trans s01 s18) (var_Y rfl e8 (dpAll_same same_del _ _ d8) ft8 a8 b8) (fun H' s' => ex_Y (ρ := fun _ => .tuple es) ⟨es, rfl, hlen⟩ (env rfl (by simp) (Same.trans s18 s')) (by rw [dT_eq rfl]; exact odT_fit hf)) (by show 22 + 3 + 7 + 4 + 50 + 2 + 5 ≤ 1000; omega) _ fun l9 us9 ds9 H9 s9 n9 e9 d9 ft9 a9 b9 => ?_)
              have a9 : 21 + 3 + 7 + 0 + 0 + 2 + 5 ≤ ds9.length := a9
              have b9 : ds9.length ≤ 22 + 3 + 7 + 4 + 50 + 2 + 5 := b9
              exact ⟨l9, us9, ds9, rfl, Same.trans s18 s9, e9, dpAll_same same_del _ _ d9, ft9, by omega, by omega⟩
            | _ => exact iteF stay
          · rintro σ' H9 ⟨l9, us9, ds9, rfl, s9, e9, d9, ft9, a9, b9⟩
            have f9 := s9 _ _ f1
            have lu := dpAll_len d9
            have l9p : l9 ≠ p := fun z => by
              rw [z, f9] at e9
              have e := HO.lst.inj (Option.some.inj e9)
              rw [← e] at lu
              simp only [List.length_cons, List.length_nil] at lu
              omega
            refine ⟨_, rfl, _, rfl, p, _, _, f9, .inl ⟨l9, us9, rfl, SqL.of e9, l9p, by omega, by omega, fun u x' y' hu => ?_⟩⟩
            obtain ⟨du, hdu, hvu⟩ := dpAll_mem d9 hu
            refine q u du x' y' _ ((sx1.trans (Same.x s9)).upd) upd_same ?_ (ft9 du hdu)
            rw [del_upd, ← nw_only (H' := H9) f1]
            exact hvu
end
end Sg

set_option maxRecDepth 100000
set_option maxHeartbeats 4000000
namespace Sg
open PySem PySem.Spec PyProof.Rows L2 Dr Gd Er Cm Ow
theorem word_ok {z : Str} (h : wordIn Lc z = true) : PyData.strOk z = true := by
  unfold wordIn at h
  rw [Bool.and_eq_true, Bool.and_eq_true] at h
  have h2 := h.2.2
  rw [List.all_eq_true] at h2
  unfold PyData.strOk
  rw [Array.all_eq_true']
  intro c hc
  have := h2 c (by simpa using hc)
  have hm : c ∈ Lc.cps.toList := of_decide_eq_true this
  have all : ∀ c ∈ Lc.cps.toList, c < 0x110000 := by decide +kernel
  exact decide_eq_true (all c hm)
theorem good_ok {ps : List (Str × Int)} (h : Good ps) : OkNames ps := fun p hp => word_ok (h.2.2.2.1 p hp).1
def Fine (ps : List (Str × Int)) : Prop := 1 ≤ ps.length ∧ ps.length ≤ 5 ∧ (ps.map (·.1)).Nodup ∧ ∀ p ∈ ps, wordIn Lc p.1 = true ∧ 0 ≤ p.2 ∧ p.2 ≤ 3
theorem Good.fine {ps : List (Str × Int)} (h : Good ps) : Fine ps := ⟨h.1, by have := h.2.1; omega, h.2.2.1, h.2.2.2.1⟩
theorem fine_ok {ps : List (Str × Int)} (h : Fine ps) : OkNames ps := fun p hp => word_ok (h.2.2.2 p hp).1
theorem sign_pr {z : Str} {n : Int} (h : wordIn Lc z = true) (h0 : 0 ≤ n) (h3 : n ≤ 3) : isSign (.tuple [.str z, .int n]) = true := by
  show (isWord Lc (.str z) && isAr (.int n)) = true
  rw [show isWord Lc (.str z) = true from h]
  show (decide (0 ≤ n) && decide (n ≤ 3)) = true
  simp [h0, h3]
theorem build_ok : ∀ (ps acc : List (Str × Int)) (i : Nat), (∀ p ∈ ps, wordIn Lc p.1 = true ∧ 0 ≤ p.2 ∧ p.2 ≤ 3) → ((acc ++ ps).map (·.1)).Nodup → build (prD ps) acc i = .ok (acc ++ ps)
  | [], acc, i, _, _ => by rw [List.append_nil]; rfl
  | p :: ps, acc, i, h, nd => by
    have hp := h p List.mem_cons_self
    have hn : hasN acc p.1 = false := by
      unfold hasN
      rw [List.any_eq_false]
      intro q hq e
      have e := of_decide_eq_true e
      rw [List.map_append] at nd
      exact (List.nodup_append.mp nd).2.2 q.1 (List.mem_map.mpr ⟨q, hq, rfl⟩) p.1 (by simp) e
    show (if isSign (.tuple [.str p.1, .int p.2]) && !hasN acc (prOf (.tuple [.str p.1, .int p.2])).1 then build (prD ps) (acc ++ [prOf (.tuple [.str p.1, .int p.2])]) (i + 1) else .bad i) = _
    rw [if_pos (by rw [sign_pr hp.1 hp.2.1 hp.2.2]; show (true && !hasN acc p.1) = true; rw [hn]; rfl)]
    have e := build_ok ps (acc ++ [p]) (i + 1) (fun q hq => h q (List.mem_cons_of_mem _ hq)) (by rw [List.append_assoc]; exact nd)
    rw [List.append_assoc] at e
    exact e
theorem made_fine {ps : List (Str × Int)} (h : Fine ps) : madeOf (psD ps) = .ok ps := by
  show madeL (prD ps) = _
  unfold madeL
  have e : (prD ps).length = ps.length := List.length_map ..
  rw [if_pos (by rw [e]; exact ⟨h.1, h.2.1⟩), build_ok ps [] 0 h.2.2.2 (by simpa using h.2.2.1)]
  rfl
theorem word_len {z : Str} (h : wordIn Lc z = true) : z.length ≤ sizeLine := by
  unfold wordIn at h
  rw [Bool.and_eq_true, Bool.and_eq_true] at h
  exact Nat.le_trans (of_decide_eq_true h.2.1) (by decide)
theorem shorts_fine {ps : List (Str × Int)} (h : ∀ p ∈ ps, wordIn Lc p.1 = true) : Shorts (psD ps) := by
  intro e he
  obtain ⟨p, hp, rfl⟩ := List.mem_map.mp he
  exact word_len (h p hp)
structure MkS (P : Program) (w : World) (K : PySem.W.Frag) (mg : Str → Option Value) (base : Heap) (cN cC cB C fi : Addr) (di : FuncData) : Prop where
  mm : Mk K C fi
  ok : FnOk P w K mg base (L2.CX P w) 3 fi di ["self", "pairs"] (spInit K cN cC cB C)
  b : Binds K di ["self", "pairs"] []
  g : mg "Signs" = some (.ref C)
theorem same_ins {H H' : Hp} {x dx C : Addr} (hx : H x = none) (hdx : H dx = none) (s : SameX x (L2.upd (L2.upd H dx (.own x)) x (.ins C dx [])) H') : Same H H' := fun b o e => by
  have n := ne_of_none e hx
  exact s b o (by rw [upd_ne n, upd_ne (ne_of_none e hdx)]; exact e) n
theorem joinL_one : ∀ cs : List Nat, TL.joinL [] (cs.map fun c => [c]) = cs
  | [] => rfl
  | [c] => rfl
  | c :: d :: r => by
    show [c] ++ ([] ++ TL.joinL [] ((d :: r).map fun c => [c])) = _
    rw [joinL_one (d :: r)]
    rfl
theorem word_join {cs : List Nat} (h1 : 1 ≤ cs.length) (h8 : cs.length ≤ 8) (hc : ∀ c ∈ cs, c ∈ Uc.cps.toList) : wordIn Uc (Txt.join "" (cs.map fun c => (⟨#[c]⟩ : Str))) = true := by
  have e : (Txt.join "" (cs.map fun c => (⟨#[c]⟩ : Str))).cps.toList = cs := by
    rw [TL.join_eq]
    have := TL.tl_join "" (cs.map fun c => (⟨#[c]⟩ : Str))
    rw [List.map_map] at this
    exact this.trans (joinL_one cs)
  have el : (Txt.join "" (cs.map fun c => (⟨#[c]⟩ : Str))).length = cs.length := by
    show (Txt.join "" (cs.map fun c => (⟨#[c]⟩ : Str))).cps.size = _
    rw [← Array.length_toList, e]
  unfold wordIn
  rw [el, e, decide_eq_true h1, decide_eq_true h8, Bool.true_and, Bool.true_and, List.all_eq_true]
  exact fun c hx => decide_eq_true (hc c hx)
theorem sum_ones : ∀ cs : List Nat, ((cs.map fun c => (⟨#[c]⟩ : Str)).map (·.length)).sum = cs.length
  | [] => rfl
  | c :: cs => by
    rw [List.map_cons, List.map_cons, List.sum_cons, sum_ones cs]
    show 1 + cs.length = cs.length + 1
    omega
theorem same_viaX {p : Addr} {H H1 H2 : Hp} (s : Same H H1) (hp : H p = none) (sx : SameX p H1 H2) : Same H H2 := fun b o e => sx b o (s b o e) (ne_of_none e hp)
end Sg

set_option maxRecDepth 100000
set_option maxHeartbeats 8000000
namespace Sg
open PySem PySem.Spec PyProof.Rows L2 Dr Gd Er Cm Ow XT TM RT LS
abbrev sLaw2 : Stmt := top 30
structure LTxt2 (mg : Str → Option Value) : Prop where
  rng : mg "range" = none
  max : mg "max" = none
  min : mg "min" = none
  len : mg "len" = none
  lst : mg "list" = none
  rep : mg "repr" = none
  isi : mg "isinstance" = none
  bool : mg "bool" = none
/-- what stands while a cell of the law is walked -/
structure Wt (K : PySem.W.Frag) (C p x : Addr) (vp : V) (ps : List (Str × Int)) (H : Hp) : Prop where
  f : ∃ a b, H p = some (feedO a b)
  d : Dp K (L2.del H p) vp (psD ps)
  s : SgAt C (L2.del H p) x ps
section
variable {K : PySem.W.Frag} {C p x : Addr} {vp : V} {ps : List (Str × Int)} {H H' : Hp}
theorem Wt.same (W : Wt K C p x vp ps H) (s : Same H H') : Wt K C p x vp ps H' := by
  obtain ⟨a, b, f⟩ := W.f
  exact ⟨⟨a, b, s _ _ f⟩, dp_same (SameX.del (Same.x s)) _ _ W.d, W.s.same (SameX.del (Same.x s))⟩
theorem Wt.step (W : Wt K C p x vp ps H) (s : SameX p H H') {a b : Int} (f : H' p = some (feedO a b)) : Wt K C p x vp ps H' :=
  ⟨⟨a, b, f⟩, dp_same (SameX.del s) _ _ W.d, W.s.same (SameX.del s)⟩
theorem Wt.sg (W : Wt K C p x vp ps H) : SgAt C H x ps := W.s.same same_del
theorem Wt.dp (W : Wt K C p x vp ps H) : Dp K H vp (psD ps) := dp_same same_del _ _ W.d
end
def ps0 : List (Str × Int) := [("f", 2), ("g", 1)]
def od0 : List PyData := [.tuple [.str "f", .tuple [.str "g", .str "X", .str "Y"]], .tuple [.str "g", .tuple [.str "f", .str "X"], .str "Y"], .tuple [.str "f", .tuple [.str "f", .str "X"], .str "Y", .str "X"], .tuple [.str "g", .tuple [.str "g"], .str "X"]]
def odY : PyData := .tuple [.str "f", .str "X", .str "X"]
theorem od0_no : ∀ d ∈ od0, isTerm ps0 d = false ∧ okT d = true ∧ tsz d ≤ 5000 := by decide +kernel
theorem odY_yes : isTerm ps0 odY = true ∧ okT odY = true ∧ tsz odY ≤ 5000 := by decide +kernel
theorem fine0 : Fine ps0 := by
  unfold Fine ps0
  decide +kernel
def spLaw2 (K : PySem.W.Frag) : Sp := fun vs H Q _ => ∃ (a : Addr) (ns : List Int), vs = [.ref a] ∧ SqL K H a (ns.map V.int) ∧ ns.length < 1000 ∧ ∀ H', Q (.bl true) H'
section
variable {P : Program} {w : World} {K : PySem.W.Frag} {mg : Str → Option Value} {base : Heap} {cN cC cB C fi fF fD fT fP fM fI fS fL : Addr} {di dF dD dT dP dM dI dS dL : FuncData}
theorem scLw2 : FnScope ["script", "k", "feed", "pairs", "signs", "turn", "word", "term", "value", "shown", "told", "odd", "nth"] ["script"] (defScope sLaw2) := ⟨rfl, rfl, rfl, by decide +kernel, rfl, by decide +kernel, by decide +kernel⟩
theorem ok_law2 {f : Addr} {fd : FuncData} (F : Fun K "law" "law" sLaw2 f fd) (T : LTxt2 mg) (MK : MkS P w K mg base cN cC cB C fi di)
    (GF : Cal P w K mg base CX0 1 "_law_feed" fF dF ["script", "k"] (spFeed K)) (GD : Cal P w K mg base CX0 3 "_law_drawn_signs" fD dD ["feed"] (spDrawn K)) (GT : Cal P w K mg base CX0 1 "_law_take" fT dT ["feed", "many"] spTake) (GP : Cal P w K mg base CX0 2 "_law_pick" fP dP ["feed", "some"] (spPick K))
    (GM : Cal P w K mg base CX0 6 "_law_term" fM dM ["feed", "pairs", "deep", "letters"] (spTerm K 4)) (GI : Cal P w K mg base CX0 4 "is_term" fI dI ["signs", "value"] (spIsT K C)) (GS : Cal P w K mg base CX0 12 "_law_spoiled" fS dS ["feed", "pairs", "term"] (spSpl K 10))
    (GL : Cal P w K mg base CX0 16 "_law_is" fL dL ["pairs", "value"] (spLook K 16)) : FnG P w K mg base CX0 17 f fd ["script"] (spLaw2 K) := by
  refine okG F scLw2 (fun vs H Q E h => ?_) (fun cdv A outer s H vs Q E hgd hr h => ?_)
  · obtain ⟨a, ns, rfl, _⟩ := h
    rfl
  · obtain ⟨a, ns, rfl, hsc, hlen, q⟩ := h
    have r1 : Room 1 (A.deeper (envOfC "law" (defScope sLaw2) s.heap.objs.size f cdv)) := hr.mono (by decide)
    have r2 : Room 2 (A.deeper (envOfC "law" (defScope sLaw2) s.heap.objs.size f cdv)) := hr.mono (by decide)
    have r3 : Room 3 (A.deeper (envOfC "law" (defScope sLaw2) s.heap.objs.size f cdv)) := hr.mono (by decide)
    have r4 : Room 4 (A.deeper (envOfC "law" (defScope sLaw2) s.heap.objs.size f cdv)) := hr.mono (by decide)
    have r6 : Room 6 (A.deeper (envOfC "law" (defScope sLaw2) s.heap.objs.size f cdv)) := hr.mono (by decide)
    have r12 : Room 12 (A.deeper (envOfC "law" (defScope sLaw2) s.heap.objs.size f cdv)) := hr.mono (by decide)
    have hu : (A.deeper (envOfC "law" (defScope sLaw2) s.heap.objs.size f cdv)).units + 70 < cLine := by
      have := hr.un
      omega
    have nd := scLw2.nd
    refine ⟨_, C8.pss_cut (ps_for PassesOwn.never rfl (pi_range1 (by rfl) T.rng (pa_cons (pe_callB (call_max2 rfl) (by rfl) T.max boot_max (pa_cons pe_int (pa_cons (pe_callB (call_min2 rfl) (by rfl) T.min (by decide +kernel) (pa_cons pe_int (pa_cons (pe_callB call_len (by rfl) T.len PySem.boot_len (pa_cons (pv 0) pa_nil)) pa_nil))) pa_nil))) pa_nil)) (pg_name (i := 1) nd rfl (Or.inl rfl))
      (pss_cons (ps_set (i := 2) nd rfl (Or.inr rfl) (pe_call GF.ok r1 rfl GF.g GF.kp GF.b .nil pass0 (pa_cons (pv 0) (pa_cons (pv 1) pa_nil))))
      (pss_cons (ps_set (i := 3) nd rfl (Or.inl rfl) (pe_call GD.ok r3 rfl GD.g GD.kp GD.b .nil pass0 (pa_cons (pv 2) pa_nil)))
      (pss_cons (ps_set (i := 4) nd rfl (Or.inr rfl) (pe_make MK.mm MK.ok r4 rfl MK.g MK.b .nil passL (pa_cons (pe_callTy call_list_of (by rfl) T.lst (by decide +kernel) (pa_cons (pv 3) pa_nil)) pa_nil)))
      (pss_one (ps_for PassesOwn.never rfl (pi_range1 (by rfl) T.rng (pa_cons pe_int pa_nil)) (pg_name (i := 5) nd rfl (Or.inl rfl))
        (pss_cons (ps_set (i := 6) nd rfl (Or.inl rfl) (pe_join pe_str (pe_lc (own := [("nth", 12)]) (g := gName 12) (tt := tYes) (te := tCall (spPick K) [] E0 (tCons (tVar 2) (tCons (tC (.str Uc)) tNil))) rfl nd
          (pi_range1 (by rfl) T.rng (pa_cons (pe_op op_add pe_int (pe_call GT.ok r1 rfl GT.g GT.kp GT.b .nil pass0 (pa_cons (pv 2) (pa_cons pe_int pa_nil)))) pa_nil)) (blkOk_by (N := ["script", "k", "feed", "pairs", "signs", "turn", "word", "term", "value", "shown", "told", "odd", "nth"]) (sc := defScope sLaw2) (by decide +kernel)) (fun _ _ _ _ _ => pg_name (i := 12) nd rfl (Or.inl rfl))
          (fun _ _ _ _ _ => pts_nil) (fun _ _ _ _ _ => pe_call GP.ok r2 rfl GP.g GP.kp GP.b .nil pass0 (pa_cons (pv 2) (pa_cons pe_str pa_nil))))))
        (pss_cons (ps_set (i := 7) nd rfl (Or.inl rfl) (pe_call GM.ok r6 rfl GM.g GM.kp GM.b .nil pass0 (pa_cons (pv 2) (pa_cons (pv 3) (pa_cons pe_int (pa_cons (pe_lst (pa_cons pe_str (pa_cons (pv 6) pa_nil))) pa_nil))))))
        (pss_cons (ps_if (pt_cmpR op_notBl (pe_call GI.ok r4 rfl GI.g GI.kp GI.b .nil pass0 (pa_cons (pv 4) (pa_cons (pv 7) pa_nil))) pe_bl (nomark _)) (pss_one (ps_ret pe_bl)) pss_nil)
        (pss_cons (ps_set (i := 8) nd rfl (Or.inl rfl) (pe_call GS.ok r12 rfl GS.g GS.kp GS.b .nil pass0 (pa_cons (pv 2) (pa_cons (pv 3) (pa_cons (pv 7) pa_nil)))))
        (C8.pss_cut (ps_if (pt_cmpR op_eq (pe_call GT.ok r1 rfl GT.g GT.kp GT.b .nil pass0 (pa_cons (pv 2) (pa_cons pe_int pa_nil))) pe_int (nomark _)) (pss_one (ps_set (i := 8) nd rfl (Or.inl rfl) (pe_call GS.ok r12 rfl GS.g GS.kp GS.b .nil pass0 (pa_cons (pv 2) (pa_cons (pv 3) (pa_cons (pv 8) pa_nil)))))) pss_nil)
        (pss_cons (ps_par (i := 9) (j := 10) rfl nd rfl rfl (by decide) rfl rfl (pa_cons (pe_callB (call_reprD hgd hu) (by rfl) T.rep (by decide +kernel) (pa_cons (pv 8) pa_nil)) (pa_cons (pe_call GI.ok r4 rfl GI.g GI.kp GI.b .nil pass0 (pa_cons (pv 4) (pa_cons (pv 8) pa_nil))) pa_nil)) (by rfl))
        (pss_one (ps_if (PW.pt (pw_or (pt_not (pt_val (pe_callB call_isi (by rfl) T.isi (by decide +kernel) (pa_cons (pv 10) (pa_cons (pe_bltn (v := .ty "bool") (by rfl) T.bool (by decide +kernel) rfl) pa_nil)))))
            (pw_or (pt_cmpR op_ne (pv 10) (pe_call GL.ok hr rfl GL.g GL.kp GL.b .nil pass0 (pa_cons (pv 3) (pa_cons (pv 8) pa_nil))) (nomark _)) (pw_or1 (pt_cmpR op_ne (pe_callB (call_reprD hgd hu) (by rfl) T.rep (by decide +kernel) (pa_cons (pv 8) pa_nil)) (pv 9) (nomark _)))))) (pss_one (ps_ret pe_bl)) pss_nil))))))))))))))
      (pss_cons (ps_set (i := 4) nd rfl (Or.inr rfl) (pe_make MK.mm MK.ok r4 rfl MK.g MK.b .nil passL (pa_cons (te := tDat K (fun _ => True) (psD ps0)) (pd_lst (by unfold ps0; repeat (first | exact pd_int | exact pd_str | exact pd_nil | refine pd_cons ?_ ?_ | refine pd_lst ?_ (by decide) | refine pd_tup ?_ (by decide))) (by decide)) pa_nil)))
      (pss_cons (ps_set (i := 11) nd rfl (Or.inl rfl) (pd_lstL (c := fun _ => True) (ds := od0) (by unfold od0; repeat (first | exact pd_int | exact pd_str | exact pd_nil | refine pd_cons ?_ ?_ | refine pd_lst ?_ (by decide) | refine pd_tup ?_ (by decide))) (by decide)))
      (pss_one (ps_ret (pe_and (pe_cmpR (op_eqD hr.units) (pe_lc (own := [("value", 8)]) (g := gName 8) (tt := tTest (tOp rNotB (tCall (spIsT K C) [] E0 (tCons (tVar 4) (tCons (tVar 8) tNil))) (tC (.bl false)))) (te := tVar 8) rfl nd (pi_list (pv 11))
          (blkOk_by (N := ["script", "k", "feed", "pairs", "signs", "turn", "word", "term", "value", "shown", "told", "odd", "nth"]) (sc := defScope sLaw2) (by decide +kernel)) (fun _ _ _ _ _ => pg_name (i := 8) nd rfl (Or.inl rfl)) (fun _ _ _ _ _ => pts_one (pt_cmpR op_notBl (pe_call GI.ok r4 rfl GI.g GI.kp GI.b .nil pass0 (pa_cons (pv 4) (pa_cons (pv 8) pa_nil))) pe_bl (nomark _))) (fun _ _ _ _ _ => pv 8)) (pe_lst pa_nil) (nomark _))
        (pe_one (pe_call GI.ok r4 rfl GI.g GI.kp GI.b .nil pass0 (pa_cons (pv 4) (pa_cons (te := tDat K (fun _ => True) odY) (by unfold odY; repeat (first | exact pd_int | exact pd_str | exact pd_nil | refine pd_cons ?_ ?_ | refine pd_lst ?_ (by decide) | refine pd_tup ?_ (by decide))) pa_nil))))))))), ?_⟩
    have big : (1000 : Nat) ≤ sizeLine := by decide
    refine ⟨fun σ' H' => ∃ c0 c1 c2 c3 c4 c5 c6 c7 c8 c9 c10 c11 c12 : Option V, σ' = [c0, c1, c2, c3, c4, c5, c6, c7, c8, c9, c10, c11, c12], ?_, ?_⟩
    · refine ⟨_, rfl, _, _, rfl, .inl ⟨_, hsc, rfl⟩, _, _, rfl, _, _, rfl, ?_⟩
      generalize hj : (if (if ((ns.map V.int).length : Int) < 3 then ((ns.map V.int).length : Int) else 3) > 1 then (if ((ns.map V.int).length : Int) < 3 then ((ns.map V.int).length : Int) else 3) else 1) = j
      have j1 : 1 ≤ j ∧ j ≤ 3 := by
        rw [← hj]
        split <;> (split at * <;> omega)
      refine ⟨j, rfl, by omega, by omega, ?_⟩
      refine for_it (walk_range (lo := 0) (n := j.toNat)) (fun i σ H' => ∃ c1 c2 c3 c4 c5 c6 c7 c8 c9 c10 c11 c12 : Option V, σ = [some (.ref a), c1, c2, c3, c4, c5, c6, c7, c8, c9, c10, c11, none] ∧ c12 = none ∧ Same H H')
        ⟨none, none, none, none, none, none, none, none, none, none, none, none, rfl, rfl, Same.refl H⟩ (fun _ _ _ _ _ => trivial) (fun i z σ Hx H0 hi hp hy => ?_) (fun σ H' hp => ?_)
      · obtain ⟨c1, c2, c3, c4, c5, c6, c7, c8, c9, c10, c11, c12, rfl, rfl, sm0⟩ := hp
        obtain ⟨rfl, hz⟩ := hy
        have hz : z = V.int (i : Int) := by
          rw [hz]
          show V.int (0 + (i : Int)) = _
          rw [Int.zero_add]
        subst hz
        have hi2 : i < 1000 := by omega
        refine ⟨_, rfl, _, rfl, a, ns, i, rfl, Same.seq sm0 hsc, hi2, fun p fx fy hp => ?_⟩
        have hp0 : H p = none := Same.free sm0 hp
        have sm1 : Same H (L2.upd H0 p (feedO fx fy)) := Same.trans sm0 (same_upd hp)
        refine ⟨_, rfl, p, fx, fy, rfl, upd_same, fun v ps x2 y2 H2 sx2 f2 hv hg => ?_⟩
        have sm2 : Same H H2 := same_viaX sm1 hp0 sx2
        have hf := hg.fine
        have okn := good_ok hg
        have pl4 : ps.length ≤ 4 := hg.2.1
        have hv0 := hv
        cases hv with
        | lst g1 g2 =>
          rename_i lv xs
          refine ⟨_, rfl, lv, xs, rfl, .inl (Same.seq same_del g1), fun l hl => ?_⟩
          have sl := same_upd (o := .lst xs) hl
          have el : (L2.upd H2 l (.lst xs)) l = some (.lst xs) := upd_same
          have dl : DpAll K (L2.upd H2 l (.lst xs)) xs (prD ps) := dpAll_same (Same.trans same_del sl) _ _ g2
          have hv3 := dp_same (SameX.del (p := p) (Same.x sl)) _ _ hv0
          have f3 := sl _ _ f2
          have sm3 := Same.trans sm2 sl
          generalize (L2.upd H2 l (.lst xs)) = H3 at el dl hv3 f3 sm3 ⊢
          intro x dx hx hdx hne
          refine ⟨x, .ref l, psD ps, dx, rfl, upd_same, .lst (SqL.of (xs := xs) ?_) (dpAll_same (fun b o e => ?_) _ _ dl), shorts_fine (fun q hq => (hf.2.2.2 q hq).1), ?_⟩
          · rw [upd_ne (ne_of_none el hx), upd_ne (ne_of_none el hdx)]
            exact el
          · rw [upd_ne (ne_of_none e hx), upd_ne (ne_of_none e hdx)]
            exact e
          · rw [made_fine hf]
            intro H4 s4 hS4
            refine ⟨rfl, ?_⟩
            have s34 := same_ins hx hdx s4
            have sm4 := Same.trans sm3 s34
            have f4 := s34 _ _ f3
            have xp : x ≠ p := fun z => by rw [z, f3] at hx; cases hx
            have dxp : dx ≠ p := fun z => by rw [z, f3] at hdx; cases hdx
            have W4 : Wt K C p x (.ref lv) ps H4 := ⟨⟨_, _, f4⟩, dp_same (SameX.del (Same.x s34)) _ _ hv3, (by
              obtain ⟨q1, q2, q3, q4⟩ := hS4
              have n3 : x ≠ p := ne_of q3 f4 (by intro z; cases z)
              have n4 : q2 ≠ p := ne_of q4 f4 (by intro z; cases z)
              exact ⟨q1, q2, by rw [del_ne n3]; exact q3, by rw [del_ne n4]; exact q4⟩)⟩
            refine ⟨8, rfl, by decide, by decide, ?_⟩
            refine for_it (walk_range (lo := 0) (n := (8 : Int).toNat)) (fun m σ H' => ∃ c5 c6 c7 c8 c9 c10 : Option V, σ = [some (.ref a), some (.int (i : Int)), some (.ref p), some (.ref lv), some (.ref x), c5, c6, c7, c8, c9, c10, c11, none] ∧ Same H H' ∧ Wt K C p x (.ref lv) ps H')
              ⟨_, _, _, _, _, _, rfl, sm4, W4⟩ (fun _ _ _ _ _ => trivial) (fun m z σ Hy H5 hm hp5 hy => ?_) (fun σ H5 hp5 => ?_)
            · obtain ⟨c5, c6, c7, c8, c9, c10, rfl, sm5, W5⟩ := hp5
              obtain ⟨rfl, _⟩ := hy
              obtain ⟨a5, b5, f5⟩ := W5.f
              refine ⟨⟨_, rfl⟩, ?_⟩
              refine ⟨_, rfl, p, a5, b5, 8, rfl, f5, by decide, by decide, fun r a6 b6 hr0 hr1 => ?_⟩
              refine ⟨_, _, rfl, rfl, 1 + r, rfl, by omega, by omega, fun D3 hD3 => ?_⟩
              have hDp : D3 ≠ p := fun z => by rw [z, upd_same] at hD3; cases hD3
              have sx : SameX p H5 (L2.upd H5 p (feedO a6 b6)) := (SameX.refl p H5).upd
              refine lc_it (walk_range (lo := 0) (n := (1 + r).toNat)) (fun i H' => ∃ (cs : List Nat) (aa bb : Int), SameX p H5 H' ∧ H' p = some (feedO aa bb) ∧ H' D3 = some (.lst ((cs.map fun c => (⟨#[c]⟩ : Str)).map V.str)) ∧ cs.length = i ∧ ∀ c ∈ cs, c ∈ Uc.cps.toList)
                ⟨[], a6, b6, fun b o e hb => by rw [upd_ne (ne_of_none (sx b o e hb) hD3)]; exact sx b o e hb, by rw [upd_ne hDp.symm, upd_same], upd_same, rfl, fun c hc => by cases hc⟩ (fun _ _ _ _ => trivial) (fun i y H5' H' hi hp' hy => ?_) (fun H6 hp' => ?_)
              · obtain ⟨cs, aa, bb, sm, k1, k2, k3, k4⟩ := hp'
                obtain ⟨rfl, rfl⟩ := hy
                refine ⟨rfl, lcYes ?_⟩
                refine ⟨_, rfl, p, aa, bb, k1, .inr ⟨Uc, rfl, by decide +kernel, by decide +kernel, fun c a' b' hc => ?_⟩⟩
                refine ⟨_, by rw [upd_ne hDp]; exact k2, ?_, cs ++ [c], a', b', ?_, ?_, ?_, ?_, ?_⟩
                · rw [List.length_map, List.length_map, k3]
                  have : i < 1000 := by omega
                  omega
                · intro b o e hb
                  have hbD : b ≠ D3 := by
                    have h3 := sx b o e hb
                    exact ne_of_none h3 hD3
                  rw [upd_ne hbD, upd_ne hb]
                  exact sm b o e hb
                · rw [upd_ne hDp.symm, upd_same]
                · rw [upd_same, List.map_append, List.map_append]
                  rfl
                · rw [List.length_append, k3]
                  rfl
                · intro d hd
                  rcases List.mem_append.mp hd with hd | hd
                  · exact k4 d hd
                  · rw [List.mem_singleton.mp hd]
                    exact hc
              · obtain ⟨cs, aa, bb, sx6, k1, k2, k3, k4⟩ := hp'
                refine ⟨"", D3, _, rfl, rfl, .inl (SqL.of k2), ?_, ?_⟩
                · rw [sum_ones, List.length_map, k3]
                  show (1 + r).toNat + (1 + r).toNat * 0 ≤ 16777216
                  omega
                · have hw : wordIn Uc (Txt.join "" (cs.map fun c => (⟨#[c]⟩ : Str))) = true := word_join (by omega) (by omega) k4
                  generalize Txt.join "" (cs.map fun c => (⟨#[c]⟩ : Str)) = word at hw ⊢
                  have W6 := W5.step sx6 k1
                  have sm6 := same_viaX sm5 hp0 sx6
                  refine ⟨_, rfl, _, rfl, _, rfl, (by show 2 ≤ sizeLine; decide), fun lz hlz => ?_⟩
                  have sz := same_upd (o := .lst [V.str "X", .str word]) hlz
                  have W7 := W6.same sz
                  have sm7 := Same.trans sm6 sz
                  have lzp : lz ≠ p := fun z => by rw [z, k1] at hlz; cases hlz
                  have e7 : L2.del (L2.upd H6 lz (.lst [V.str "X", .str word])) p lz = some (.lst [V.str "X", .str word]) := by rw [del_ne lzp, upd_same]
                  have f7 := sz _ _ k1
                  generalize (L2.upd H6 lz (.lst [V.str "X", .str word])) = H7 at W7 sm7 e7 f7 ⊢
                  refine ⟨p, .ref lv, lz, ps, ["X", word], aa, bb, 3, rfl, f7, W7.d, hg, e7, (by simp), (by show 2 < 1000; decide), (fun z hz => ?_), by decide, fun vt dt a8 b8 H8 sx8 f8 hvt htt fit8 => ?_⟩
                  · simp only [List.mem_cons, List.not_mem_nil, or_false] at hz
                    rcases hz with rfl | rfl
                    · decide +kernel
                    · exact hw
                  have W8 := W7.step sx8 f8
                  have sm8 := same_viaX sm7 hp0 sx8
                  have t8 : tsz dt ≤ 5000 := Nat.le_trans (tsz_wt dt) (by have := fit8.wt; have e : wB 3 = 596 := (by decide); omega)
                  refine ⟨_, rfl, _, rfl, x, vt, dt, ps, rfl, W8.sg, dp_same same_del _ _ hvt, fit8.ok, t8, fun H9 s9 => ?_⟩
                  rw [htt]
                  refine ⟨_, _, rfl, rfl, _, rfl, ?_⟩
                  refine iteF ?_
                  have W9 := W8.same s9
                  have sm9 := Same.trans sm8 s9
                  have f9 := s9 _ _ f8
                  have hvt9 := dp_same (SameX.del (p := p) (Same.x s9)) _ _ hvt
                  have wb3 : wB 3 = 596 := by decide
                  refine ⟨_, rfl, _, rfl, _, rfl, p, .ref lv, vt, dt, ps, a8, b8, 596, 3, rfl, f9, W9.d, hg, hvt9, fit8.mono (by omega) (by omega), by decide, by decide, by have := fit8.dep; omega, fun vv dv a10 b10 H10 sx10 f10 hvv fit10 => ?_⟩
                  have W10 := W9.step sx10 f10
                  have sm10 := same_viaX sm9 hp0 sx10
                  refine ⟨fun σ' H' => ∃ v8 d8, σ' = [some (.ref a), some (.int (i : Int)), some (.ref p), some (.ref lv), some (.ref x), some z, some (.str word), some vt, some v8, c9, c10, c11, none] ∧ Same H H' ∧ Wt K C p x (.ref lv) ps H' ∧ Dp K (L2.del H' p) v8 d8 ∧ Fit 3584 15 d8, ?_, ?_⟩
                  · refine ⟨_, rfl, p, a10, b10, 4, rfl, f10, by decide, by decide, fun r11 a11 b11 h110 h111 => ?_⟩
                    have W11 := W10.step ((SameX.refl p H10).upd) (upd_same : (L2.upd H10 p (feedO a11 b11)) p = _)
                    have sm11 := same_viaX sm10 hp0 ((SameX.refl p H10).upd : SameX p H10 (L2.upd H10 p (feedO a11 b11)))
                    have f11 : (L2.upd H10 p (feedO a11 b11)) p = some (feedO a11 b11) := upd_same
                    rw [← del_upd (o := feedO a11 b11)] at hvv
                    generalize (L2.upd H10 p (feedO a11 b11)) = H11 at W11 sm11 f11 hvv ⊢
                    refine ⟨rfl, _, rfl, ?_⟩
                    refine ite2 (fun _ => ?_) (fun _ => ?_)
                    · refine ⟨_, rfl, _, rfl, _, rfl, p, .ref lv, vv, dv, ps, a11, b11, 1592, 9, rfl, f11, W11.d, hg, hvv, fit10.mono (by decide) (by decide), by decide, by decide, by have := fit10.dep; omega, fun v8 d8 a12 b12 H12 sx12 f12 hv8 fit8' => ?_⟩
                      exact ⟨v8, d8, rfl, same_viaX sm11 hp0 sx12, W11.step sx12 f12, hv8, fit8'⟩
                    · exact ⟨vv, dv, rfl, sm11, W11, hvv, fit10.mono (by decide) (by decide)⟩
                  · rintro σ' H11 ⟨v8, d8, rfl, sm11, W11, hv8, ft8⟩
                    have hv8' : Dp K H11 v8 d8 := dp_same same_del _ _ hv8
                    have z8 := fit_shown ft8 (by decide)
                    have d60 : d8.depth ≤ 60 := Nat.le_trans ft8.dep (by decide)
                    have t8 : tsz d8 ≤ 5000 := Nat.le_trans (tsz_wt d8) (by have := ft8.wt; omega)
                    refine ⟨_, rfl, v8, d8, rfl, hv8', ft8.sh, ft8.nd, z8, d60, ?_⟩
                    refine ⟨_, rfl, _, rfl, x, v8, d8, ps, rfl, W11.sg, hv8', ft8.ok, t8, fun H12 s12 => ?_⟩
                    have W12 := W11.same s12
                    have sm12 := Same.trans sm11 s12
                    have hv12 : Dp K H12 v8 d8 := dp_same s12 _ _ hv8'
                    refine ⟨_, _, rfl, ?_⟩
                    refine ⟨_, rfl, .bl _, .ty "bool", .type "bool", .type "bool", true, rfl, .ty _, .base (.bl _), kit_ty (by decide +kernel), _, rfl, ?_⟩
                    refine iteF ?_
                    refine ⟨_, rfl, _, rfl, _, rfl, .ref lv, v8, d8, ps, rfl, W12.dp, hv12, by omega, okn, hg.2.2.1, ft8.ok, t8, ft8.lay, d60, Nat.lt_of_le_of_lt ft8.dep (by decide), fun H13 s13 => ?_⟩
                    have W13 := W12.same s13
                    have sm13 := Same.trans sm12 s13
                    have hv13 : Dp K H13 v8 d8 := dp_same s13 _ _ hv12
                    refine ⟨rfl, _, rfl, iteNS rfl ?_⟩
                    refine ⟨_, rfl, v8, d8, rfl, hv13, ft8.sh, ft8.nd, z8, d60, ?_⟩
                    refine ⟨_, rfl, rfl, _, rfl, iteNS rfl ?_⟩
                    exact ⟨_, _, _, _, _, _, rfl, sm13, W13⟩
            · obtain ⟨c5, c6, c7, c8, c9, c10, rfl, sm5, W5⟩ := hp5
              exact ⟨_, _, _, _, _, _, _, _, _, _, _, _, rfl, rfl, sm5⟩
      · obtain ⟨c1, c2, c3, c4, c5, c6, c7, c8, c9, c10, c11, c12, rfl, rfl, sm0⟩ := hp
        exact ⟨_, _, _, _, _, _, _, _, _, _, _, _, _, rfl⟩
    · rintro σ' H' ⟨c0, c1, c2, c3, c4, c5, c6, c7, c8, c9, c10, c11, c12, rfl⟩
      refine ⟨trivial, fun v1 H1 s1 hv1 => ?_⟩
      intro x dx hx hdx hne
      refine ⟨x, v1, psD ps0, dx, rfl, upd_same, dp_same (fun b o e => ?_) _ _ hv1, shorts_fine (fun q hq => (fine0.2.2.2 q hq).1), ?_⟩
      · have e := nw_same b o e
        rw [upd_ne (ne_of_none e hx), upd_ne (ne_of_none e hdx)]
        exact e
      · rw [made_fine fine0]
        intro H2 s2 hS2
        refine ⟨rfl, ?_⟩
        refine ⟨trivial, fun lo us H3 s3 hn3 e3 d3 => ?_⟩
        have d3 := dpAll_same nw_same _ _ d3
        have hS3 := hS2.same s3
        refine ⟨_, rfl, lo, rfl, ⟨us, SqL.of e3⟩, fun D hD => ?_⟩
        refine lc_it (walk_list (xs := us)) (fun i H' => Same H3 H' ∧ H' D = some (.lst [])) ⟨same_upd hD, upd_same⟩ (fun i H' hi hp => Same.seq hp.1 (SqL.of e3)) (fun i y H5 H' hi hp hy => ?_) (fun H' hp => ?_)
        · obtain ⟨rfl, ey⟩ := hy
          obtain ⟨sm, hDl⟩ := hp
          obtain ⟨d, hd1, hd2⟩ := dpAll_get' d3 ey
          obtain ⟨n1, n2, n3⟩ := od0_no d (List.mem_of_getElem? hd1)
          refine ⟨rfl, ?_⟩
          refine ⟨_, rfl, _, rfl, x, y, d, ps0, rfl, hS3.same sm, dp_same sm _ _ hd2, n2, n3, fun H6 s6 => ?_⟩
          rw [n1]
          refine ⟨_, _, rfl, rfl, _, rfl, ?_⟩
          exact iteF ⟨Same.trans sm s6, s6 _ _ hDl⟩
        · obtain ⟨sm, hDl⟩ := hp
          refine ⟨Nat.zero_le _, fun l2 hl2 => ?_⟩
          refine ⟨.list [], .list [], .lst (SqL.of (same_upd hl2 _ _ hDl)) .nil, .lst (SqL.of upd_same) .nil, by decide, by decide, _, rfl, iteT ?_⟩
          have sm2 := Same.trans sm (same_upd (o := .lst []) hl2)
          generalize (L2.upd H' l2 (.lst [])) = H7 at sm2 ⊢
          refine ⟨_, rfl, trivial, fun vy H8 s8 hvy => ?_⟩
          obtain ⟨y1, y2, y3⟩ := odY_yes
          refine ⟨x, vy, odY, ps0, rfl, hS3.same (Same.trans sm2 s8), dp_same nw_same _ _ hvy, y2, y3, fun H9 s9 => ?_⟩
          rw [y1]
          exact q H9
end
end Sg

set_option maxRecDepth 100000
set_option maxHeartbeats 4000000
namespace Gd
open PySem L2 PySem.Spec PyProof.Rows
/-- the only thing tracked at the law's entry: the script, where it is no object of the top's -/
def scr (K : PySem.W.Frag) (a : Addr) (vs : List Value) (ns : List Int) : Hp := fun b => if b = a ∧ K.lookup a = none then some (.frz { cls := .type "list", data := .seq vs.toArray } (.lst (ns.map V.int))) else none
section
variable {P : Program} {w : World} {K : PySem.W.Frag} {mg mb : Str → Option Value} {CX : CXT} {k : Nat} {fa a : Addr} {fd : FuncData} {x : Str} {sp : Sp} {s₁ : Shared} {vs : List Value} {ns : List Int}
theorem lawG (KX : K.In s₁.heap) (hns : s₁.heap.Ns mainGlobals mg) (hb : s₁.heap.Ns builtinsNs mb) (hbb : ∀ x : Str, x ≠ "__name__" → mb x = bootBuiltins x) (hlim : s₁.heap.NoLimit) (hg : s₁.gens = #[])
    (ha : s₁.heap.get? a = some { cls := .type "list", data := .seq vs.toArray }) (hi : IntsAre vs ns) (hl : ns.length ≤ sizeLine) (hr : Room k callerA)
    (F : ∀ base : Heap, K.In base → base.Ns mainGlobals mg → FnG P w K mg base CX k fa fd [x] sp) (hbind : ∀ (s : Shared) (u : Value), BindsTo s fd ⟨[u], []⟩ [(x, u)])
    (hsp : ∀ H : Hp, SqL K H a (ns.map V.int) → sp [.ref a] H (fun v _ => v = .bl true) fun _ _ _ => False)
    (hCX : ∀ H e s', CX [] H s₁ (fun _ _ _ => False) e s' → False) :
    codeAny (model P w) callerA (.call (.ref fa) ⟨[.ref a], []⟩) (fun r s' => r = .ok (.ret (.bool true)) ∧ OldK s₁.heap s'.heap ∧ s'.os = s₁.os ∧ AllBare s'.gens) s₁ := by
  have rv := vals_ints hi
  have lv := hi.length
  generalize hH : scr K a vs ns = H
  have cs : ∀ b, H b = none ∨ (b = a ∧ K.lookup a = none ∧ H b = some (.frz { cls := .type "list", data := .seq vs.toArray } (.lst (ns.map V.int)))) := fun b => by
    subst hH
    unfold scr
    by_cases z : b = a ∧ K.lookup a = none
    · rw [if_pos z]
      exact Or.inr ⟨z.1, z.2, rfl⟩
    · rw [if_neg z]
      exact Or.inl rfl
  have hS : SqL K H a (ns.map V.int) := by
    cases z : K.lookup a with
    | none =>
      refine .inl (.inr ⟨{ cls := .type "list", data := .seq vs.toArray }, ?_⟩)
      subst hH
      exact if_pos ⟨rfl, z⟩
    | some o =>
      have y := (KX a o z).symm.trans ha
      cases y
      exact .inr ⟨_, vs.toArray, _, z, rfl, rfl, rfl, by rw [List.size_toArray, lv]; exact hl, by simpa using rv⟩
  have hok : HOk P w H s₁.heap := fun b u e => by
    rcases cs b with z | ⟨rfl, _, z⟩
    · rw [z] at e
      cases e
    · rw [z] at e
      cases e
      exact ⟨ha, by rw [List.length_map]; exact hl, vs, _, rv, ha⟩
  have nh : ∀ {b o}, s₁.heap.get? b = some o → (∀ es ep, o.data = .dict es ep → True) → (b = a → K.lookup a = none → False) → H b = none := fun {b o} _ _ n => by
    rcases cs b with z | ⟨z1, z2, _⟩
    · exact z
    · exact (n z1 z2).elim
  have nsB : ∀ {b : Addr} {m : Str → Option Value}, s₁.heap.Ns b m → (hidT s₁.heap H).Ns b m := by
    rintro b m ⟨o, es, ep, e, d, r⟩
    refine ⟨o, es, ep, hidT_get e (nh e (fun _ _ _ => trivial) fun z _ => ?_), d, r⟩
    subst z
    rw [ha] at e
    cases e
    cases d
  have kB : K.In (hidT s₁.heap H) := fun b o e => hidT_get (KX b o e) (nh (KX b o e) (fun _ _ _ => trivial) fun z1 z2 => by rw [z1, z2] at e; cases e)
  obtain ⟨mc, c1, c2⟩ := hlim
  have hM : Mod K mg (hidT s₁.heap H) := ⟨kB, nsB hns, ⟨mb, nsB hb, hbb⟩, mc, nsB c1, c2⟩
  have e0 : Env0 P w K mg (hidT s₁.heap H) callerA [] s₁ H := ⟨rfl, hM, fun b o e => of_hidT e, Nat.le_of_eq (hidT_size _ _), trivial, (fun b z => by cases z), hok, .of_eq hg⟩
  refine codeAny_mono ((F _ kB (nsB hns)).go callerA [] s₁ H ⟨[.ref a], []⟩ [.ref a] [.ref a] _ _ rfl hr e0 (hbind s₁ (.ref a)) (.cons rfl .nil) (hsp H hS)) ?_
  intro r s' h
  cases r with
  | error e => exact (hCX H e s' h).elim
  | ok fl =>
    cases fl with
    | ret u =>
      obtain ⟨v, H', os, bare, un, hok', r', q⟩ := h
      obtain rfl : v = .bl true := q
      obtain rfl : u = Value.bool true := r'
      refine ⟨rfl, OldK.of_keep fun b o e => ?_, os, bare⟩
      rcases cs b with z | ⟨rfl, _, z⟩
      · exact un.keep b o e z (fun y => by cases y) (fun y => by cases y)
      · have z2 := un.frzs b _ _ z
        rw [ha] at e
        cases e
        exact (hok' b _ z2).1
    | next => exact False.elim h
    | brk => exact False.elim h
    | cont => exact False.elim h
end
/-- the goal that the head leaves, from the law's promise -/
theorem walkG {l : PySem.W.OpenLaw} {n k : Nat} {q : Program} {loose : List Str} {XP : (Str → Option Value) → Heap → Prop} {YP : World → Heap → Prop} {d : DefRec} {K : Params → PySem.W.Frag} {CX : World → CXT} {sp : World → Sp} {x : Str}
    (hn : l.most = some n) (hn2 : n ≤ sizeLine) (hdf : d.params.defaults = []) (hr : Room k callerA) (hY : ∀ (w : World) (h : Heap), YP w h → (K w.params).In h)
    (F : ∀ (w : World) (mg : Str → Option Value) (fa : Addr) (h : Heap), (K w.params).In h → h.Ns mainGlobals mg → mg d.name = some (.ref fa) →
      ∃ fd : FuncData, (∀ (s : Shared) (u : Value), BindsTo s fd ⟨[u], []⟩ [(x, u)]) ∧ ∀ base : Heap, (K w.params).In base → base.Ns mainGlobals mg → FnG l.prog w (K w.params) mg base (CX w) k fa fd [x] (sp w))
    (hsp : ∀ (w : World) (H : Hp) (a : Addr) (ns : List Int), ns.length ≤ n → (∀ z ∈ ns, Builtin.Int.intBits z ≤ 1048576) → SqL (K w.params) H a (ns.map V.int) → sp w [.ref a] H (fun v _ => v = .bl true) fun _ _ _ => False)
    (hCX : ∀ (w : World) (H : Hp) (s : Shared) (e : Value) (s' : Shared), CX w [] H s (fun _ _ _ => False) e s' → False) :
    PySem.W.WalkO q loose XP YP l.row.toRowW d [] (fun f vs => PySem.call f vs) := by
  refine Att.attach_callB hn hdf ?_
  intro w s₀ s₁ mg mb fa o pm cd doc a vs ns G Y ho hd hcd hmg hobj hints hlen hbits hg
  obtain ⟨fd, hb, hF⟩ := F w mg fa _ (hY w _ Y) G.T.g hmg
  exact lawG (hY w _ Y) G.T.g G.T.b G.T.builtins G.T.nolimit hg hobj hints (Nat.le_trans hlen hn2) hr hF hb (fun H hS => hsp w H a ns hlen hbits hS) fun H e s' => hCX w H s₁ e s'
end Gd

set_option maxRecDepth 100000
set_option maxHeartbeats 8000000
namespace Sg
open PySem PySem.W PySem.Spec PyProof.Rows L2 Dr Gd Er Cm Ow XT TM RT LS
/-- one own error as the top has made it -/
structure Cl1 (P : Program) (K : Frag) (mg : Str → Option Value) (x : Str) (fl : Option Str) (C f : Addr) : Prop where
  e : ErrC P K x fl C f
  g : mg x = some (.ref C)
  xf : XfC K C
  r : subIn K (.ref C) (.type "BaseException") = some true ∧ typeIn K (.ref C) = some (.type "type")
section
variable {P : Program} {K : Frag} {h : Heap} {mg : Str → Option Value} {x : Str} {fl : Option Str} {C f : Addr}
theorem mkCl1 {nm q : Str} {N : Addr} {bs bm : List Value} {sn : List Str} {sub : List Value} {ab : Bool} {col : Option Bool} {dd : Option Addr} {k0 k1 k2 k3 k5 : Option Value}
    {oc doc pm ct ccl cl : Value} {od an cdd cld : Option Addr} {osl ccs csl : Array (Option Value)} {cc cda : Addr} {qual z file : Str} {kz : Nat} {tf : Tok} {vs : Array Value} {p p' p0 p1 p2 p3 p4 p5 q1 q2 q3 q4 : Pos}
    (X : K.In h) (G : h.Ns mainGlobals mg)
    (any : nsIn K cStatics "thirdparty.any" = some none) (top : (P.main.scope.names.lookup ("super" : Str)).isSome = false)
    (aC : nsIn K mainGlobals x = some (some (.ref C))) (kC : keepIn K (.ref C) = true)
    (hC : K.lookup C = some (excClassObj nm q C N bs bm true sn sub ab col dd k0 k1 k2 k3 k5 "ValueError.__new__")) (hbm : PySem.HandSPX.refsVE bm = true)
    (sa : findIn K (.ref C) "__setattr__" = some (some (.builtin "object.__setattr__")))
    (iC : findIn K (.ref C) "__init__" = some (some (.ref f))) (tI : typeIn K (.ref f) = some (.type "function"))
    (lF : K.lookup f = some ⟨oc, od, .func (ksFn "__init__" qual (pars fl p p') (body fl z kz p0 p1 p2 p3 p4 p5 q1 q2 q3 q4) (scp fl) .none .none doc pm an (.ref cda) ct cc), osl⟩) (hcd : codeIn K (.ref cda) qual = true)
    (lc : K.lookup cda = some ⟨ccl, cdd, .fields vs, ccs⟩) (hv : vs[2]? = some (.str file tf)) (hfile : ((P.main.file : Str) == file) = true)
    (lcell : K.lookup cc = some ⟨cl, cld, .cell (some (.ref C)), csl⟩)
    (along : ks_superIn K C C "__init__" = some (some (.builtin "ValueError.__init__"))) (subVE : subIn K (.ref C) (.type "ValueError") = some true) (mro : mroIn K C (.ref C) = some true)
    (noF : ∀ y, fl = some y → findIn K (.ref C) y = some none)
    (ga : findIn K (.ref C) "__getattribute__" = some (some (.builtin "BaseException.__getattribute__"))) (gg : findIn K (.ref C) "__getattr__" = some none) (exC : subIn K (.ref C) (.type "BaseException") = some true) (hdC : hasDictIn K C = true)
    (tC : typeIn K (.ref C) = some (.type "type"))
    (ev : EvP z kz p0 p1 p2 p3 p4 p5) (bd : BdP fl (ksFn "__init__" qual (pars fl p p') (body fl z kz p0 p1 p2 p3 p4 p5 q1 q2 q3 q4) (scp fl) .none .none doc pm an (.ref cda) ct cc))
    (kS : (names fl).lookup ("super" : Str) = some .globalImplicit) (kF : (names fl).lookup ("__class__" : Str) = some .free) (kL : (names fl).lookup ("self" : Str) = some .local)
    (kP : ∀ y, fl = some y → (names fl).lookup y = some .local ∧ (y == ("self" : Str)) = false ∧ (y == ("__debug__" : Str)) = false) : Cl1 P K mg x fl C f where
  e := ⟨kC, ⟨nm, q, N, bs, bm, sn, sub, ab, col, dd, k0, k1, k2, k3, k5, hC, hbm⟩, sa, iC, tI,
    ⟨oc, od, doc, pm, an, ct, osl, cc, cda, qual, z, kz, p, p', p0, p1, p2, p3, p4, p5, q1, q2, q3, q4, lF, hcd, ev, bd, ⟨ccl, cdd, vs, ccs, file, tf, lc, hv, hfile⟩, cl, cld, csl, lcell⟩,
    any, along, subVE, mro, top, noF, kS, kF, kL, kP⟩
  g := mg_of X G aC
  xf := ⟨ga, gg, exC, hdC⟩
  r := ⟨exC, tC⟩
end

theorem all_mk {l : OpenLaw} {w : World} {K : Frag} {h : Heap} {mg : Str → Option Value} {fa cN cC cB cS eN eC eB eS C g0 g1 g2 g3 g4 g5 g6 g7 g8 g9 g10 g11 g12 g13 g14 g15 g16 g17 g18 : Addr} {od0 an0 od1 an1 od2 an2 od3 an3 od4 an4 od5 an5 od6 an6 od7 an7 od8 an8 od9 an9 od10 an10 od11 an11 od12 an12 od13 an13 od14 an14 od15 an15 od16 an16 od17 an17 od18 an18 : Option Addr} {sl0 sl1 sl2 sl3 sl4 sl5 sl6 sl7 sl8 sl9 sl10 sl11 sl12 sl13 sl14 sl15 sl16 sl17 sl18 : Array (Option Value)} {oc0 kV0 dc0 pm0 cd0 ct0 oc1 kV1 dc1 pm1 cd1 ct1 oc2 kV2 dc2 pm2 cd2 ct2 oc3 kV3 dc3 pm3 cd3 ct3 oc4 kV4 dc4 pm4 cd4 ct4 oc5 kV5 dc5 pm5 cd5 ct5 oc6 kV6 dc6 pm6 cd6 ct6 oc7 kV7 dc7 pm7 cd7 ct7 oc8 kV8 dc8 pm8 cd8 ct8 oc9 kV9 dc9 pm9 cd9 ct9 oc10 kV10 dc10 pm10 cd10 ct10 oc11 kV11 dc11 pm11 cd11 ct11 oc12 kV12 dc12 pm12 cd12 ct12 oc13 kV13 dc13 pm13 cd13 ct13 oc14 kV14 dc14 pm14 cd14 ct14 oc15 kV15 dc15 pm15 cd15 ct15 oc16 kV16 dc16 pm16 cd16 ct16 oc17 kV17 dc17 pm17 cd17 ct17 oc18 kV18 dc18 pm18 cd18 ct18 : Value} {n1 n2 n3 : Int} {zS zU : Str} {t1 t2 t3 t4 t5 : Tok} (X : K.In h) (G : h.Ns mainGlobals mg) (hfa : mg "law" = some (.ref fa))
    (h0 : Cl1 l.prog K mg "NoList" none cN eN) (h1 : Cl1 l.prog K mg "BadCount" none cC eC) (h2 : Cl1 l.prog K mg "BadSign" (some "number") cB eB) (h3 : Cl1 l.prog K mg "NoSign" (some "name") cS eS)
    (a0 : nsIn K mainGlobals "is_whole" = some (some (.ref g0))) (l0 : K.lookup g0 = some ⟨oc0, od0, .func (fnOf "is_whole" "is_whole" (defArgs sWhole) (defBody sWhole) (defScope sWhole) .none kV0 dc0 pm0 an0 cd0 ct0), sl0⟩) (d0 : codeIn K cd0 "is_whole" = true) (k0 : keepIn K (.ref g0) = true)
    (a1 : nsIn K mainGlobals "is_word" = some (some (.ref g1))) (l1 : K.lookup g1 = some ⟨oc1, od1, .func (fnOf "is_word" "is_word" (defArgs sWord) (defBody sWord) (defScope sWord) .none kV1 dc1 pm1 an1 cd1 ct1), sl1⟩) (d1 : codeIn K cd1 "is_word" = true) (k1 : keepIn K (.ref g1) = true)
    (a2 : nsIn K mainGlobals "is_tuple_of" = some (some (.ref g2))) (l2 : K.lookup g2 = some ⟨oc2, od2, .func (fnOf "is_tuple_of" "is_tuple_of" (defArgs sTupOf) (defBody sTupOf) (defScope sTupOf) .none kV2 dc2 pm2 an2 cd2 ct2), sl2⟩) (d2 : codeIn K cd2 "is_tuple_of" = true) (k2 : keepIn K (.ref g2) = true)
    (a3 : nsIn K mainGlobals "_is_sign" = some (some (.ref g3))) (l3 : K.lookup g3 = some ⟨oc3, od3, .func (fnOf "_is_sign" "_is_sign" (defArgs sIsSign) (defBody sIsSign) (defScope sIsSign) .none kV3 dc3 pm3 an3 cd3 ct3), sl3⟩) (d3 : codeIn K cd3 "_is_sign" = true) (k3 : keepIn K (.ref g3) = true)
    (a4 : nsIn K mainGlobals "is_term" = some (some (.ref g4))) (l4 : K.lookup g4 = some ⟨oc4, od4, .func (fnOf "is_term" "is_term" (defArgs sIsTerm) (defBody sIsTerm) (defScope sIsTerm) .none kV4 dc4 pm4 an4 cd4 ct4), sl4⟩) (d4 : codeIn K cd4 "is_term" = true) (k4 : keepIn K (.ref g4) = true)
    (a5 : nsIn K mainGlobals "_has_head" = some (some (.ref g5))) (l5 : K.lookup g5 = some ⟨oc5, od5, .func (fnOf "_has_head" "_has_head" (defArgs sHead) (defBody sHead) (defScope sHead) .none kV5 dc5 pm5 an5 cd5 ct5), sl5⟩) (d5 : codeIn K cd5 "_has_head" = true) (k5 : keepIn K (.ref g5) = true)
    (a6 : nsIn K mainGlobals "_law_feed" = some (some (.ref g6))) (l6 : K.lookup g6 = some ⟨oc6, od6, .func (fnOf "_law_feed" "_law_feed" (defArgs sFeed) (defBody sFeed) (defScope sFeed) .none kV6 dc6 pm6 an6 cd6 ct6), sl6⟩) (d6 : codeIn K cd6 "_law_feed" = true) (k6 : keepIn K (.ref g6) = true)
    (a7 : nsIn K mainGlobals "_law_take" = some (some (.ref g7))) (l7 : K.lookup g7 = some ⟨oc7, od7, .func (fnOf "_law_take" "_law_take" (defArgs sTake) (defBody sTake) (defScope sTake) .none kV7 dc7 pm7 an7 cd7 ct7), sl7⟩) (d7 : codeIn K cd7 "_law_take" = true) (k7 : keepIn K (.ref g7) = true)
    (a8 : nsIn K mainGlobals "_law_pick" = some (some (.ref g8))) (l8 : K.lookup g8 = some ⟨oc8, od8, .func (fnOf "_law_pick" "_law_pick" (defArgs sPick) (defBody sPick) (defScope sPick) .none kV8 dc8 pm8 an8 cd8 ct8), sl8⟩) (d8 : codeIn K cd8 "_law_pick" = true) (k8 : keepIn K (.ref g8) = true)
    (a9 : nsIn K mainGlobals "_law_known_signs" = some (some (.ref g9))) (l9 : K.lookup g9 = some ⟨oc9, od9, .func (fnOf "_law_known_signs" "_law_known_signs" (defArgs sKnown) (defBody sKnown) (defScope sKnown) .none kV9 dc9 pm9 an9 cd9 ct9), sl9⟩) (d9 : codeIn K cd9 "_law_known_signs" = true) (k9 : keepIn K (.ref g9) = true)
    (a10 : nsIn K mainGlobals "_law_drawn_signs" = some (some (.ref g10))) (l10 : K.lookup g10 = some ⟨oc10, od10, .func (fnOf "_law_drawn_signs" "_law_drawn_signs" (defArgs sDrawn) (defBody sDrawn) (defScope sDrawn) .none kV10 dc10 pm10 an10 cd10 ct10), sl10⟩) (d10 : codeIn K cd10 "_law_drawn_signs" = true) (k10 : keepIn K (.ref g10) = true)
    (a11 : nsIn K mainGlobals "_law_term" = some (some (.ref g11))) (l11 : K.lookup g11 = some ⟨oc11, od11, .func (fnOf "_law_term" "_law_term" (defArgs sTerm) (defBody sTerm) (defScope sTerm) .none kV11 dc11 pm11 an11 cd11 ct11), sl11⟩) (d11 : codeIn K cd11 "_law_term" = true) (k11 : keepIn K (.ref g11) = true)
    (a12 : nsIn K mainGlobals "_law_bad_terms" = some (some (.ref g12))) (l12 : K.lookup g12 = some ⟨oc12, od12, .func (fnOf "_law_bad_terms" "_law_bad_terms" (defArgs sBad) (defBody sBad) (defScope sBad) .none kV12 dc12 pm12 an12 cd12 ct12), sl12⟩) (d12 : codeIn K cd12 "_law_bad_terms" = true) (k12 : keepIn K (.ref g12) = true)
    (a13 : nsIn K mainGlobals "_law_is" = some (some (.ref g13))) (l13 : K.lookup g13 = some ⟨oc13, od13, .func (fnOf "_law_is" "_law_is" (defArgs sLook) (defBody sLook) (defScope sLook) .none kV13 dc13 pm13 an13 cd13 ct13), sl13⟩) (d13 : codeIn K cd13 "_law_is" = true) (k13 : keepIn K (.ref g13) = true)
    (a14 : nsIn K mainGlobals "_law_spoiled" = some (some (.ref g14))) (l14 : K.lookup g14 = some ⟨oc14, od14, .func (fnOf "_law_spoiled" "_law_spoiled" (defArgs sSpl) (defBody sSpl) (defScope sSpl) .none kV14 dc14 pm14 an14 cd14 ct14), sl14⟩) (d14 : codeIn K cd14 "_law_spoiled" = true) (k14 : keepIn K (.ref g14) = true)
    (a15 : nsIn K mainGlobals "law" = some (some (.ref g15))) (l15 : K.lookup g15 = some ⟨oc15, od15, .func (fnOf "law" "law" (defArgs sLaw2) (defBody sLaw2) (defScope sLaw2) .none kV15 dc15 pm15 an15 cd15 ct15), sl15⟩) (d15 : codeIn K cd15 "law" = true) (k15 : keepIn K (.ref g15) = true)
    (aC : nsIn K mainGlobals "Signs" = some (some (.ref C))) (kC : keepIn K (.ref C) = true) (mkC : makesIn K C = true) (pgC : plainGet K C Str.empty = true) (hdC : hasDictIn K C = true) (poC : plainOver K C = true) (saC : findIn K (.ref C) "__setattr__" = some (some (.builtin "object.__setattr__"))) (naC : findIn K (.ref C) "_arities" = some none)
    (fa16 : findIn K (.ref C) "__init__" = some (some (.ref g16))) (fn16 : isFn K (.ref g16) = true)
    (l16 : K.lookup g16 = some ⟨oc16, od16, .func (fnOf "__init__" "Signs.__init__" (defArgs sInit) (defBody sInit) (defScope sInit) .none kV16 dc16 pm16 an16 cd16 ct16), sl16⟩) (d16 : codeIn K cd16 "Signs.__init__" = true) (k16 : keepIn K (.ref g16) = true)
    (fa17 : findIn K (.ref C) "arity" = some (some (.ref g17))) (fn17 : isFn K (.ref g17) = true)
    (l17 : K.lookup g17 = some ⟨oc17, od17, .func (fnOf "arity" "Signs.arity" (defArgs sArity) (defBody sArity) (defScope sArity) .none kV17 dc17 pm17 an17 cd17 ct17), sl17⟩) (d17 : codeIn K cd17 "Signs.arity" = true) (k17 : keepIn K (.ref g17) = true)
    (fa18 : findIn K (.ref C) "__contains__" = some (some (.ref g18))) (fn18 : isFn K (.ref g18) = true)
    (l18 : K.lookup g18 = some ⟨oc18, od18, .func (fnOf "__contains__" "Signs.__contains__" (defArgs sHas) (defBody sHas) (defScope sHas) .none kV18 dc18 pm18 an18 cd18 ct18), sl18⟩) (d18 : codeIn K cd18 "Signs.__contains__" = true) (k18 : keepIn K (.ref g18) = true)
    (z0 : nsIn K mainGlobals "super" = some none) (z1 : nsIn K mainGlobals "enumerate" = some none) (z2 : nsIn K mainGlobals "list" = some none) (z3 : nsIn K mainGlobals "isinstance" = some none) (z4 : nsIn K mainGlobals "int" = some none) (z5 : nsIn K mainGlobals "bool" = some none) (z6 : nsIn K mainGlobals "str" = some none) (z7 : nsIn K mainGlobals "tuple" = some none) (z8 : nsIn K mainGlobals "len" = some none) (z9 : nsIn K mainGlobals "all" = some none) (z10 : nsIn K mainGlobals "max" = some none) (z11 : nsIn K mainGlobals "abs" = some none) (z12 : nsIn K mainGlobals "min" = some none) (z13 : nsIn K mainGlobals "range" = some none) (z14 : nsIn K mainGlobals "repr" = some none)
    (v1 : nsIn K mainGlobals "MOST_LETTERS" = some (some (.int n1 t1))) (v2 : nsIn K mainGlobals "MOST_SIGNS" = some (some (.int n2 t2))) (v3 : nsIn K mainGlobals "MOST_ARGUMENTS" = some (some (.int n3 t3))) (v4 : nsIn K mainGlobals "SMALL" = some (some (.str zS t4))) (v5 : nsIn K mainGlobals "CAPITAL" = some (some (.str zU t5))) (w1 : n1 = 8) (w2 : n2 = 5) (w3 : n3 = 3) (w4 : zS = Lc) (w5 : zU = Uc)
    : ∃ fd : FuncData, (∀ (s : Shared) (v : Value), BindsTo s fd ⟨[v], []⟩ [("script", v)]) ∧ ∀ base : Heap, K.In base → base.Ns mainGlobals mg → FnG l.prog w K mg base CX0 17 fa fd ["script"] (spLaw2 K) := by
  have e := hfa.symm.trans (mg_of X G a15)
  cases e
  subst w1 w2 w3 w4 w5
  have nn := fun {y : Str} (z : nsIn K mainGlobals y = some none) => mg_none_of X G z
  have F0 := fun_mk (st := sWhole) l0 d0 k0
  have B0 := F0.binds (ps := ["value"]) fun _ _ _ _ _ _ us hl => match us, hl with | [_], _ => rfl
  have F1 := fun_mk (st := sWord) l1 d1 k1
  have B1 := F1.binds (ps := ["value", "letters"]) fun _ _ _ _ _ _ us hl => match us, hl with | [_, _], _ => rfl
  have F2 := fun_mk (st := sTupOf) l2 d2 k2
  have B2 := F2.binds (ps := ["value", "many"]) fun _ _ _ _ _ _ us hl => match us, hl with | [_, _], _ => rfl
  have F3 := fun_mk (st := sIsSign) l3 d3 k3
  have B3 := F3.binds (ps := ["value"]) fun _ _ _ _ _ _ us hl => match us, hl with | [_], _ => rfl
  have F4 := fun_mk (st := sIsTerm) l4 d4 k4
  have B4 := F4.binds (ps := ["signs", "value"]) fun _ _ _ _ _ _ us hl => match us, hl with | [_, _], _ => rfl
  have F5 := fun_mk (st := sHead) l5 d5 k5
  have B5 := F5.binds (ps := ["signs", "value"]) fun _ _ _ _ _ _ us hl => match us, hl with | [_, _], _ => rfl
  have F6 := fun_mk (st := sFeed) l6 d6 k6
  have B6 := F6.binds (ps := ["script", "k"]) fun _ _ _ _ _ _ us hl => match us, hl with | [_, _], _ => rfl
  have F7 := fun_mk (st := sTake) l7 d7 k7
  have B7 := F7.binds (ps := ["feed", "many"]) fun _ _ _ _ _ _ us hl => match us, hl with | [_, _], _ => rfl
  have F8 := fun_mk (st := sPick) l8 d8 k8
  have B8 := F8.binds (ps := ["feed", "some"]) fun _ _ _ _ _ _ us hl => match us, hl with | [_, _], _ => rfl
  have F9 := fun_mk (st := sKnown) l9 d9 k9
  have B9 := F9.binds (ps := []) fun _ _ _ _ _ _ us hl => match us, hl with | [], _ => rfl
  have F10 := fun_mk (st := sDrawn) l10 d10 k10
  have B10 := F10.binds (ps := ["feed"]) fun _ _ _ _ _ _ us hl => match us, hl with | [_], _ => rfl
  have F11 := fun_mk (st := sTerm) l11 d11 k11
  have B11 := F11.binds (ps := ["feed", "pairs", "deep", "letters"]) fun _ _ _ _ _ _ us hl => match us, hl with | [_, _, _, _], _ => rfl
  have F12 := fun_mk (st := sBad) l12 d12 k12
  have B12 := F12.binds (ps := ["pairs"]) fun _ _ _ _ _ _ us hl => match us, hl with | [_], _ => rfl
  have F13 := fun_mk (st := sLook) l13 d13 k13
  have B13 := F13.binds (ps := ["pairs", "value"]) fun _ _ _ _ _ _ us hl => match us, hl with | [_, _], _ => rfl
  have F14 := fun_mk (st := sSpl) l14 d14 k14
  have B14 := F14.binds (ps := ["feed", "pairs", "term"]) fun _ _ _ _ _ _ us hl => match us, hl with | [_, _, _], _ => rfl
  have F15 := fun_mk (st := sLaw2) l15 d15 k15
  have F16 := fun_mk (st := sInit) l16 d16 k16
  have B16 := F16.binds (ps := ["self", "pairs"]) fun _ _ _ _ _ _ us hl => match us, hl with | [_, _], _ => rfl
  have F17 := fun_mk (st := sArity) l17 d17 k17
  have B17 := F17.binds (ps := ["self", "name"]) fun _ _ _ _ _ _ us hl => match us, hl with | [_, _], _ => rfl
  have F18 := fun_mk (st := sHas) l18 d18 k18
  have B18 := F18.binds (ps := ["self", "name"]) fun _ _ _ _ _ _ us hl => match us, hl with | [_, _], _ => rfl
  have TK : KTxt mg := ⟨nn z3, nn z4, nn z5, nn z6, nn z7, nn z8, nn z9, ⟨t1, mg_of X G v1⟩⟩
  have DT : DTxt mg := ⟨nn z8, nn z10, nn z11, nn z4⟩
  have LT : LTxt2 mg := ⟨nn z13, nn z10, nn z12, nn z8, nn z2, nn z14, nn z3, nn z5⟩
  have KN : Kn K mg g0 g1 g2 _ _ _ := ⟨TK, F0, F1, F2, mg_of X G a0, mg_of X G a1, mg_of X G a2, ⟨t4, mg_of X G v4⟩, ⟨t3, mg_of X G v3⟩⟩
  have KE1 : Ke l.prog K mg cN cC cB cS eN eC eB eS := ⟨h0.e, h1.e, h2.e, h3.e, h0.g, h1.g, h2.g, h3.g, h0.r, h1.r, h2.r, h3.r, nn z0, nn z1, nn z2, ⟨t2, mg_of X G v2⟩⟩
  have SC : SCl K C := ⟨⟨pgC, hdC, poC, saC⟩, naC⟩
  refine ⟨fnOf "law" "law" (defArgs sLaw2) (defBody sLaw2) (defScope sLaw2) .none kV15 dc15 pm15 an15 cd15 ct15, fun s v => .of_eq rfl, fun base _ _ => ?_⟩
  have hH : HasAt K C g18 _ := ⟨F18, fa18, fn18⟩
  have MK : MkS l.prog w K mg base cN cC cB C g16 _ := ⟨⟨mkC, fa16, fn16, kC⟩, ok_init F16 KN F3 (mg_of X G a3) KE1 SC, B16, mg_of X G aC⟩
  have AA : ArAt l.prog w K mg base cS C g17 _ := ⟨⟨fa17, fn17, k17⟩, ok_arity F17 TK KE1 SC hH, B17⟩
  have GF : Cal l.prog w K mg base CX0 1 "_law_feed" g6 _ ["script", "k"] (spFeed K) := ⟨ok_feed F6 DT, mg_of X G a6, k6, B6⟩
  have GT : Cal l.prog w K mg base CX0 1 "_law_take" g7 _ ["feed", "many"] spTake := ⟨ok_take F7 DT, mg_of X G a7, k7, B7⟩
  have GP : Cal l.prog w K mg base CX0 2 "_law_pick" g8 _ ["feed", "some"] (spPick K) := ⟨ok_pick F8 DT F7 B7 (mg_of X G a7), mg_of X G a8, k8, B8⟩
  have GK : Cal l.prog w K mg base CX0 1 "_law_known_signs" g9 _ [] (spKnown K) := ⟨ok_known F9, mg_of X G a9, k9, B9⟩
  have GD : Cal l.prog w K mg base CX0 3 "_law_drawn_signs" g10 _ ["feed"] (spDrawn K) := ⟨ok_drawn F10 GT GP GK (nn z4) (nn z13), mg_of X G a10, k10, B10⟩
  have GW : Cal l.prog w K mg base CX0 1 "is_word" g1 _ ["value", "letters"] (spWord K) := ⟨ok_word F1 TK, mg_of X G a1, k1, B1⟩
  have GH : Cal l.prog w K mg base CX0 3 "_has_head" g5 _ ["signs", "value"] (spHead K C) := ⟨ok_head F5 TK SC hH AA, mg_of X G a5, k5, B5⟩
  have GI : Cal l.prog w K mg base CX0 4 "is_term" g4 _ ["signs", "value"] (spIsT K C) := ⟨ok_isTerm F4 TK GH GW ⟨t5, mg_of X G v5⟩, mg_of X G a4, k4, B4⟩
  have GM : Cal l.prog w K mg base CX0 6 "_law_term" g11 _ ["feed", "pairs", "deep", "letters"] (spTerm K 4) := ⟨ok_term F11 (mg_of X G a11) GT GP (nn z10) (nn z7) (nn z13) 4, mg_of X G a11, k11, B11⟩
  have GB : Cal l.prog w K mg base CX0 1 "_law_bad_terms" g12 _ ["pairs"] (spBad K) := ⟨ok_bad F12, mg_of X G a12, k12, B12⟩
  have GL : Cal l.prog w K mg base CX0 16 "_law_is" g13 _ ["pairs", "value"] (spLook K 16) := ⟨ok_look F13 TK (mg_of X G a13) 16, mg_of X G a13, k13, B13⟩
  have GS : Cal l.prog w K mg base CX0 12 "_law_spoiled" g14 _ ["feed", "pairs", "term"] (spSpl K 10) := ⟨ok_spl F14 (mg_of X G a14) TK GT GP GB (nn z2) 10, mg_of X G a14, k14, B14⟩
  exact ok_law2 F15 LT MK GF GD GT GP GM GI GS GL
theorem walk {l : OpenLaw} {q : Program} {loose : List Str} {XP : (Str → Option Value) → Heap → Prop} {YP : World → Heap → Prop} {d : DefRec} {K : Params → Frag} (hn : l.most = some 63) (hdf : d.params.defaults = []) (hY : ∀ (w : World) (h : Heap), YP w h → (K w.params).In h)
    (F : ∀ (w : World) (mg : Str → Option Value) (fa : Addr) (h : Heap), (K w.params).In h → h.Ns mainGlobals mg → mg d.name = some (.ref fa) →
      ∃ fd : FuncData, (∀ (s : Shared) (u : Value), BindsTo s fd ⟨[u], []⟩ [("script", u)]) ∧ ∀ base : Heap, (K w.params).In base → base.Ns mainGlobals mg → FnG l.prog w (K w.params) mg base CX0 17 fa fd ["script"] (spLaw2 (K w.params))) :
    WalkO q loose XP YP l.row.toRowW d [] (fun f vs => PySem.call f vs) :=
  walkG (n := 63) (k := 17) (x := "script") (CX := fun _ => CX0) (sp := fun w => spLaw2 (K w.params)) hn (by decide) hdf ⟨rfl, by decide, by decide⟩ hY F (fun _ _ a ns hl _ hS => ⟨a, ns, rfl, hS, Nat.lt_of_le_of_lt hl (by decide), fun _ => rfl⟩) fun _ _ _ _ _ z => z
end Sg

open PySem PySem.W PyProof.Rows
local macro_rules | `(tactic| walk_at "mkcl") => `(tactic| (
  refine' Sg.mkCl1 (by assumption) (by assumption) ?any ?top ?aC ?kC ?hC ?hbm ?sa ?iC ?tI ?lF ?hcd ?lc ?hv ?hfile ?lcell ?along ?subVE ?mro ?noF ?ga ?gg ?exC ?hdC ?tC ?ev ?bd ?kS ?kF ?kL ?kP;
  (case any => k_is); (case top => decide +kernel); (case aC => k_is); (case kC => k_is); (case hC => k_is); (case hbm => rfl); (case sa => k_is); (case iC => k_is); (case tI => k_is);
  (case lF => k_is); (case hcd => k_is); (case lc => k_is); (case hv => rfl); (case hfile => decide +kernel); (case lcell => k_is); (case along => kernel_rfl); (case subVE => k_is); (case mro => k_is);
  (case noF => (intro y hy; cases hy; try k_is)); (case ga => k_is); (case gg => k_is); (case exC => k_is); (case hdC => k_is); (case tC => k_is);
  (case ev => exact fun env => ⟨⟨_, rfl⟩, rfl⟩); (case bd => first | exact fun e v => ⟨rfl, rfl⟩ | exact fun e => rfl); (case kS => rfl); (case kF => rfl); (case kL => rfl); (case kP => (intro y hy; cases hy; try decide +kernel)); (all_goals exact (⟨0, 0, 0, 0⟩ : Pos))))
set_option maxRecDepth 100000 in
set_option maxHeartbeats 0 in
theorem PySem.Challenge.cw_shutbyrings_k02_what_is_a_term_holds : PySem.Challenge.rw_shutbyrings_k02_what_is_a_term.Holds := by
  w_on; o_law; k_head; (case hw => w_witness2)
  k_fill
  refine Sg.walk (l := PySem.Challenge.rw_shutbyrings_k02_what_is_a_term) rfl rfl (fun w h Y => PySem.W.kIn_of Y) ?F
  case F =>
    intro w mg fa h KX G hmg
    refine' Sg.all_mk KX G hmg ?h0 ?h1 ?h2 ?h3 ?a0 ?l0 ?d0 ?k0 ?a1 ?l1 ?d1 ?k1 ?a2 ?l2 ?d2 ?k2 ?a3 ?l3 ?d3 ?k3 ?a4 ?l4 ?d4 ?k4 ?a5 ?l5 ?d5 ?k5 ?a6 ?l6 ?d6 ?k6 ?a7 ?l7 ?d7 ?k7 ?a8 ?l8 ?d8 ?k8 ?a9 ?l9 ?d9 ?k9 ?a10 ?l10 ?d10 ?k10 ?a11 ?l11 ?d11 ?k11 ?a12 ?l12 ?d12 ?k12 ?a13 ?l13 ?d13 ?k13 ?a14 ?l14 ?d14 ?k14 ?a15 ?l15 ?d15 ?k15 ?aC ?kC ?mkC ?pgC ?hdC ?poC ?saC ?naC ?fa16 ?fn16 ?l16 ?d16 ?k16 ?fa17 ?fn17 ?l17 ?d17 ?k17 ?fa18 ?fn18 ?l18 ?d18 ?k18 ?z0 ?z1 ?z2 ?z3 ?z4 ?z5 ?z6 ?z7 ?z8 ?z9 ?z10 ?z11 ?z12 ?z13 ?z14 ?v1 ?v2 ?v3 ?v4 ?v5 ?w1 ?w2 ?w3 ?w4 ?w5
    (case h0 => walk_at "mkcl")
    (case h1 => walk_at "mkcl")
    (case h2 => walk_at "mkcl")
    (case h3 => walk_at "mkcl")
    (case a0 => k_is)
    (case l0 => k_is)
    (case d0 => k_is)
    (case k0 => k_is)
    (case a1 => k_is)
    (case l1 => k_is)
    (case d1 => k_is)
    (case k1 => k_is)
    (case a2 => k_is)
    (case l2 => k_is)
    (case d2 => k_is)
    (case k2 => k_is)
    (case a3 => k_is)
    (case l3 => k_is)
    (case d3 => k_is)
    (case k3 => k_is)
    (case a4 => k_is)
    (case l4 => k_is)
    (case d4 => k_is)
    (case k4 => k_is)
    (case a5 => k_is)
    (case l5 => k_is)
    (case d5 => k_is)
    (case k5 => k_is)
    (case a6 => k_is)
    (case l6 => k_is)
    (case d6 => k_is)
    (case k6 => k_is)
    (case a7 => k_is)
    (case l7 => k_is)
    (case d7 => k_is)
    (case k7 => k_is)
    (case a8 => k_is)
    (case l8 => k_is)
    (case d8 => k_is)
    (case k8 => k_is)
    (case a9 => k_is)
    (case l9 => k_is)
    (case d9 => k_is)
    (case k9 => k_is)
    (case a10 => k_is)
    (case l10 => k_is)
    (case d10 => k_is)
    (case k10 => k_is)
    (case a11 => k_is)
    (case l11 => k_is)
    (case d11 => k_is)
    (case k11 => k_is)
    (case a12 => k_is)
    (case l12 => k_is)
    (case d12 => k_is)
    (case k12 => k_is)
    (case a13 => k_is)
    (case l13 => k_is)
    (case d13 => k_is)
    (case k13 => k_is)
    (case a14 => k_is)
    (case l14 => k_is)
    (case d14 => k_is)
    (case k14 => k_is)
    (case a15 => k_is)
    (case l15 => k_is)
    (case d15 => k_is)
    (case k15 => k_is)
    (case aC => k_is)
    (case kC => k_is)
    (case mkC => k_is)
    (case pgC => k_is)
    (case hdC => k_is)
    (case poC => k_is)
    (case saC => k_is)
    (case naC => k_is)
    (case fa16 => k_is)
    (case fn16 => k_is)
    (case l16 => k_is)
    (case d16 => k_is)
    (case k16 => k_is)
    (case fa17 => k_is)
    (case fn17 => k_is)
    (case l17 => k_is)
    (case d17 => k_is)
    (case k17 => k_is)
    (case fa18 => k_is)
    (case fn18 => k_is)
    (case l18 => k_is)
    (case d18 => k_is)
    (case k18 => k_is)
    (case z0 => k_is)
    (case z1 => k_is)
    (case z2 => k_is)
    (case z3 => k_is)
    (case z4 => k_is)
    (case z5 => k_is)
    (case z6 => k_is)
    (case z7 => k_is)
    (case z8 => k_is)
    (case z9 => k_is)
    (case z10 => k_is)
    (case z11 => k_is)
    (case z12 => k_is)
    (case z13 => k_is)
    (case z14 => k_is)
    (case v1 => k_is); (case v2 => k_is); (case v3 => k_is); (case v4 => k_is); (case v5 => k_is)
    (case w1 => rfl); (case w2 => rfl); (case w3 => rfl); (case w4 => decide +kernel); (case w5 => decide +kernel)
