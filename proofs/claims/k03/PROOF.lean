import PyProof.Rows.All
import Wide.All
import OpenK.AllK
import Wide.FinOn
import HandS.Base
import HandS.Call
import HandS.List
import HandS.Ends
import HandS.EndBits
import HandS.Words
import HandS.WordsList
import HandS.More
import KE.KExcSuper
import HandS.Exc
import HandS.ExcInit
import HandS.ExcField
import HandS.ExcIs
import KE.KExcIs
import HandS.ExcOwn
import HandS.TryMany
import HandS.WordsExc
import HandS.Flow
import HandS.CallLocal
import KE.KRevSl
import HandS.TupAny
import HandS.Style
import HandS.Comp
import HandS.ForMost
import HandS.Walk
import HandS.IsInst
import HandS.ListItems
import HandS.NestedK
import HandS.Codes
import HandS.Star
import HandS.Dict
import HandS.Conv
import HandS.Deep
import PyProof.P3Eq
import HandS.SetBool
import HandS.SetTxt0
import PyProof.Rows.SortShellAny
import PyProof.ReprLen
import PyProof.Rows.StrMeet
import HandS.EndTab
import PySem.Challenge.RW_shutbyrings_k03_parts_variables_put
set_option Elab.async false
set_option linter.all false
set_option maxRecDepth 100000
set_option maxHeartbeats 2000000
/-! A promise of a def that is called where no guard stands (so that repr may be asked in it). -/
namespace Gd
open PySem L2 PySem.Spec PyProof.Rows
structure FnG (P : Program) (w : World) (K : PySem.W.Frag) (mg : Str → Option Value) (base : Heap) (CX : CXT) (k : Nat) (f : Addr) (fd : FuncData) (ps : List Str) (sp : Sp) : Prop where
  len : ∀ vs H Q E, sp vs H Q E → vs.length = ps.length
  go : ∀ (A : Around) (outer : List Env) (s : Shared) (H : Hp) (args : Args) (us : List Value) (vs : List V) (Q : VK) (E : XK),
    A.guards = some [] → Room k A → Env0 P w K mg base A outer s H → BindsTo s fd args (ps.zip us) → Vals vs us →
    sp vs H Q E → codeAny (model P w) A (.call (.ref f) args) (CR CX outer P w H s Q E) s
section
variable {P : Program} {w : World} {K : PySem.W.Frag} {mg : Str → Option Value} {base : Heap} {CX : CXT} {k : Nat} {f : Addr} {fd : FuncData} {ps : List Str} {sp : Sp}
theorem FnG.of (F : FnOk P w K mg base CX k f fd ps sp) : FnG P w K mg base CX k f fd ps sp := ⟨F.len, fun A o s H a us vs Q E _ => F.run A o s H a us vs Q E⟩
theorem FnG.weaker {sp' : Sp} (F : FnG P w K mg base CX k f fd ps sp) (h : ∀ vs H Q E, sp' vs H Q E → sp vs H Q E) : FnG P w K mg base CX k f fd ps sp' :=
  ⟨fun vs H Q E q => F.len vs H Q E (h _ _ _ _ q), fun A o s H a us vs Q E g r e b v q => F.go A o s H a us vs Q E g r e b v (h _ _ _ _ q)⟩
theorem okG {x qual : Str} {st : Stmt} {N : List Str} (F : Fun K x qual st f fd) (S : FnScope N ps (defScope st)) (len : ∀ vs H Q E, sp vs H Q E → vs.length = ps.length)
    (body : ∀ (cdv : Value) (A : Around) (outer : List Env) (s : Shared) (H : Hp) (vs : List V) (Q : VK) (E : XK), A.guards = some [] →
      Room k (A.deeper (envOfC qual (defScope st) s.heap.objs.size f cdv)) → sp vs H Q E →
      ∃ t, PSs (cxOf CX P w K mg base N qual (defScope st) f cdv A outer s H E).nox (defBody st) t ∧ t { nx := fun _ H' => Q .non H', rt := Q } (start N vs) H) :
    FnG P w K mg base CX (k + 1) f fd ps sp := by
  obtain ⟨oc, od, kV, doc, pm, an, cdv, ct, osl, rfl, lk, hcd⟩ := F.ex
  constructor
  · exact len
  · intro A outer s H args us vs Q E hg hr e0 hb r hsp
    have nl := len _ _ _ _ hsp
    have kb : ∀ b o, base.get? b = some o → s.heap.get? b = some o := fun b o z => (e0.bs b o z).1
    have KX : K.In s.heap := e0.mod.kin.keeps kb
    have kinds : ∀ y ∈ ps.zip us, (defScope st).names.lookup y.1 = some .local ∨ ((defScope st).names.lookup y.1 = some .cell ∧ ((cellsFrom (s.heap.objs.size + 1) (defScope st).names []).lookup y.1).isSome = true) := by
      rintro ⟨n, v⟩ hy
      cases S.par n (List.of_mem_zip hy).1 with
      | inl q => exact Or.inl q
      | inr q => exact Or.inr ⟨q, PySem.W.cellsFrom_some _ _ _ (Or.inl q)⟩
    refine codeAny_call_function hr.depth (KX _ _ lk) rfl S.co S.gen rfl (PySem.W.codeRec_of KX hcd) (hb _ _ _ _ (wpAny_newFunctionEnv_cells S.kind kinds fun env he s1 x => ?_))
    subst he
    obtain ⟨t, ht, hq⟩ := body cdv A outer s H vs Q E hg (hr.deeper _) hsp
    refine ⟨(e0.mod.nolimit.keeps kb).keeps x.toInCall.keep, codeAny_func ?_⟩
    refine wpAny_mono (ht.nox.run [] s1 (start N vs) H _ (inv_start S hr.hd e0 nl r x) hq) (fun fl s' hs => ?_) fun e s' hs => hs
    cases fl with
    | ret u =>
      obtain ⟨v, σ', H', J, rv, q⟩ := hs
      exact ⟨v, H', J.os, J.bare, J.base, J.hok, rv, q⟩
    | next =>
      obtain ⟨σ', H', J, q⟩ := hs
      exact ⟨V.non, H', J.os, J.bare, J.base, J.hok, rfl, q⟩
    | brk => exact hs.choose_spec.choose_spec.2.elim
    | cont => exact hs.choose_spec.choose_spec.2.elim
end
section
variable {X : Cx} {CX : CXT} {k : Nat} {f : Addr} {fd : FuncData} {ps : List Str} {sp : Sp} {dvs : List V} {ds : List Value} {E : XK} {x : Str} {p pos : Pos} {e : Expr} {es : List Expr} {t : TA}
theorem runG {pins : List (Addr × Obj)} {σ : L2.St} {H : Hp} {s : Shared} {Q : VK} {us : List Value} {vs : List V} (F : FnG X.prog X.w X.K X.mg X.base CX k f fd ps sp) (hg : X.A.guards = some []) (hr : Room k X.A)
    (hb : L2.Binds X.K fd ps ds) (hd : Vals dvs ds) (hx : Passes CX X E) (I : Inv X pins σ H s) (r : Vals vs us) (h : sp (vs ++ dvs) H Q E) :
    wpAny (model X.prog X.w) X.A (call (.ref f) us) (EP X pins σ Q) X.xe s := by
  have r2 := r.append hd
  have nl : (us ++ ds).length = ps.length := r2.length.symm.trans (F.len _ _ _ _ h)
  refine wpAny_call (codeAny_mono (F.go X.A X.stack s H ⟨us, []⟩ _ _ Q E hg hr I.env0 (hb s us I.kIn nl) r2 h) ?_)
  intro r s' hq
  cases r with
  | error er => exact hx pins σ H s er s' I hq
  | ok fl => cases fl <;> first | exact I.after hq | exact False.elim hq
/-- f(e, ..) where f's promise asks that no guard stands -/
theorem pe_callG (F : FnG X.prog X.w X.K X.mg X.base CX k f fd ps sp) (hgd : X.A.guards = some []) (hr : Room k X.A) (hg : Gl X x) (hm : X.mg x = some (.ref f)) (hk : PySem.W.keepIn X.K (.ref f) = true)
    (hb : L2.Binds X.K fd ps ds) (hd : Vals dvs ds) (hx : Passes CX X E) (ha : PA X (e :: es) t)
    (hdb : (x == ("__debug__" : Str)) = false := by decide) (he : starEach (e :: es) X.env = (false, eval e X.env) :: starEach es X.env := by rfl) (hpl : (backTo pos (starEach es X.env)).any (·.1) = false := by rfl) :
    PE X (.Call (.Name x p) (e :: es) [] pos) (tCall sp dvs E t) := by
  constructor
  intro pins s σ H Q I h
  refine wpAny_Call_Name_kw (ld_glob I hg hm ?_ hdb)
  refine PySem.W.callWith_K (h₀ := X.base) I.ok.mod.kin hk (thn (ha.run pos pins s σ H _ I h) ?_) he hpl
  rintro us s1 ⟨vs, H1, I1, r, q⟩
  exact ⟨I1.kIn, runG F hgd hr hb hd hx I1 r q⟩
end
/-! ### repr of data -/
section
variable {X : Cx}
/-- repr(v): v is data d -/
def rRepr (K : PySem.W.Frag) : List V → Hp → VK → Prop := fun xs H Q => ∃ (v : V) (d : PyData), xs = [v] ∧ Dp K H v d ∧ d.showable = true ∧ d.hasDict = false ∧ d.shown.length ≤ sizeLine ∧ d.depth ≤ 60 ∧ Q (.str d.shown) H
theorem call_reprD (hg : X.A.guards = some []) (hu : X.A.units + 70 < cLine) : CallR X (.builtin "repr") (rRepr X.K) := by
  intro pins s σ H xs us Q I r h
  obtain ⟨v, d, rfl, hd, hs, hn, hz, hdp, q⟩ := h
  obtain ⟨u, rfl, ru⟩ := vals1 r
  cases hd with
  | non =>
    cases ru
    rw [PyData.shown_none] at q
    exact PySem.P.repr_of_none ⟨.str _, H, I.tok _, ⟨_, rfl⟩, q⟩
  | bl b =>
    cases ru
    rw [PyData.shown_bool] at q
    exact PySem.P.repr_of_bool ⟨.str _, H, I.tok _, ⟨_, rfl⟩, q⟩
  | int i =>
    obtain ⟨t, rfl⟩ := ru
    rw [PyData.shown_int] at q
    exact PySem.P.repr_of_int (by simpa [PyData.showable] using hs) ⟨.str _, H, I.tok _, ⟨_, rfl⟩, q⟩
  | str z =>
    obtain ⟨t, rfl⟩ := ru
    rw [PyData.shown_str] at q hz
    exact PySem.P.repr_of_str ⟨.str _, H, I.tok _, ⟨_, rfl⟩, q⟩
  | @lst a xs ds h1 h2 =>
    obtain rfl : u = Value.ref a := ru
    obtain ⟨as, rd⟩ := Dp.reads I _ _ _ (Dp.lst h1 h2) (rfl : RelV (.ref a) (.ref a))
    exact PySem.repr_of_reads' rd hs (fun z => by rw [hn] at z; cases z) hg (by omega) (fun _ _ e => e) (fun h' u tk k => ⟨.str _, H, I.kept (t' := tk) k, ⟨_, rfl⟩, q⟩) hz
  | @tup a xs ds h1 h2 =>
    obtain rfl : u = Value.ref a := ru
    obtain ⟨as, rd⟩ := Dp.reads I _ _ _ (Dp.tup h1 h2) (rfl : RelV (.ref a) (.ref a))
    exact PySem.repr_of_reads' rd hs (fun z => by rw [hn] at z; cases z) hg (by omega) (fun _ _ e => e) (fun h' u tk k => ⟨.str _, H, I.kept (t' := tk) k, ⟨_, rfl⟩, q⟩) hz
end
end Gd

set_option maxRecDepth 100000
set_option maxHeartbeats 2000000
/-! Own errors over an own error over ValueError, each with an __init__ that says super().__init__('..') and keeps its argument, made as values. -/
namespace Er
open PySem PySem.W PySem.Calls PyProof.Rows PySem.HandSPX
/-- the text of such an __init__ -/
def sup (z : Str) (k : Nat) (p0 p1 p2 p3 p4 p5 : Pos) : Stmt :=
  .Expr (.Call (.Attribute (.Call (.Name "super" p0) [] [] p1) "__init__" p2) [.Constant (.str z) k p3] [] p4) p5
def keepS (fl : Str) (q1 q2 q3 q4 : Pos) : Stmt := .Assign [.Attribute (.Name "self" q1) fl q2] (.Name fl q3) q4
def body : Option Str → Str → Nat → Pos → Pos → Pos → Pos → Pos → Pos → Pos → Pos → Pos → Pos → List Stmt
  | none, z, k, p0, p1, p2, p3, p4, p5, _, _, _, _ => [sup z k p0 p1 p2 p3 p4 p5]
  | some fl, z, k, p0, p1, p2, p3, p4, p5, q1, q2, q3, q4 => [sup z k p0 p1 p2 p3 p4 p5, keepS fl q1 q2 q3 q4]
def pars : Option Str → Pos → Pos → Arguments
  | none, p, _ => { posonlyargs := [], args := [{ arg := "self", annotation := none, pos := p }], vararg := none, kwonlyargs := [], kw_defaults := [], kwarg := none, defaults := [] }
  | some fl, p, q => { posonlyargs := [], args := [{ arg := "self", annotation := none, pos := p }, { arg := fl, annotation := none, pos := q }], vararg := none, kwonlyargs := [], kw_defaults := [], kwarg := none, defaults := [] }
def names : Option Str → List (Str × NameKind)
  | none => [("self", .local), ("__class__", .free), ("super", .globalImplicit)]
  | some fl => [("self", .local), (fl, .local), ("__class__", .free), ("super", .globalImplicit)]
def scp (o : Option Str) : Scope := { kind := .function, names := names o, isGenerator := false, isCoroutine := false, more := [] }
/-- how the call super().__init__('..') is read (by its places) -/
def EvP (z : Str) (kz : Nat) (p0 p1 p2 p3 p4 p5 : Pos) : Prop := ∀ env : Env, (∃ pl, eval (.Call (.Attribute (.Call (.Name "super" p0) [] [] p1) "__init__" p2) [.Constant (.str z) kz p3] [] p4) env = (do
      let ov ← attributeBase (.Call (.Name "super" p0) [] [] p1) "__init__" env (eval (.Call (.Name "super" p0) [] [] p1) env)
      standAt p2.atName
      let (f, first) ← holding [ov] (getMethod ov "__init__" pl)
      callWith p4 f first (backTo p4 (starEach [.Constant (.str z) kz p3] env)) [])) ∧
    swapsWith (.Call (.Attribute (.Call (.Name "super" p0) [] [] p1) "__init__" p2) [.Constant (.str z) kz p3] [] p4) none p5.line env = pure false
/-- how its arguments bind -/
def BdP : Option Str → FuncData → Prop
  | none, fd => ∀ e, bindArgs fd ⟨[e], []⟩ = pure [(("self" : Str), e)]
  | some f, fd => ∀ e v, bindArgs fd ⟨[e, v], []⟩ = pure [(("self" : Str), e), (f, v)] ∧ bindArgs fd ⟨[e], [(f, v)]⟩ = pure [(("self" : Str), e), (f, v)]
/-- what the written part says of the class at C, of its __init__ at fI -/
structure ErrC (P : Program) (K : Frag) (x : Str) (fl : Option Str) (C fI : Addr) : Prop where
  kC : keepIn K (.ref C) = true
  cls : ∃ nm q N bs bm sn sub ab col dd k0 k1 k2 k3 k5, K.lookup C = some (excClassObj nm q C N bs bm true sn sub ab col dd k0 k1 k2 k3 k5 "ValueError.__new__") ∧ refsVE bm = true
  sa : findIn K (.ref C) "__setattr__" = some (some (.builtin "object.__setattr__"))
  iC : findIn K (.ref C) "__init__" = some (some (.ref fI))
  tI : typeIn K (.ref fI) = some (.type "function")
  fn : ∃ (oc : Value) (od : Option Addr) (doc pm : Value) (an : Option Addr) (ct : Value) (osl : Array (Option Value)) (cc cda : Addr) (qual z : Str) (kz : Nat) (p p' p0 p1 p2 p3 p4 p5 q1 q2 q3 q4 : Pos),
    K.lookup fI = some ⟨oc, od, .func (ksFn "__init__" qual (pars fl p p') (body fl z kz p0 p1 p2 p3 p4 p5 q1 q2 q3 q4) (scp fl) .none .none doc pm an (.ref cda) ct cc), osl⟩ ∧ codeIn K (.ref cda) qual = true ∧
    EvP z kz p0 p1 p2 p3 p4 p5 ∧ BdP fl (ksFn "__init__" qual (pars fl p p') (body fl z kz p0 p1 p2 p3 p4 p5 q1 q2 q3 q4) (scp fl) .none .none doc pm an (.ref cda) ct cc) ∧ (∃ (ccl : Value) (cdd : Option Addr) (vs : Array Value) (ccs : Array (Option Value)) (file : Str) (tf : Tok), K.lookup cda = some ⟨ccl, cdd, .fields vs, ccs⟩ ∧ vs[2]? = some (.str file tf) ∧ ((P.main.file : Str) == file) = true) ∧
    ∃ (cl : Value) (cld : Option Addr) (csl : Array (Option Value)), K.lookup cc = some ⟨cl, cld, .cell (some (.ref C)), csl⟩
  any : nsIn K cStatics "thirdparty.any" = some none
  along : ks_superIn K C C "__init__" = some (some (.builtin "ValueError.__init__"))
  subVE : subIn K (.ref C) (.type "ValueError") = some true
  mro : mroIn K C (.ref C) = some true
  top : (P.main.scope.names.lookup ("super" : Str)).isSome = false
  noF : ∀ f, fl = some f → findIn K (.ref C) f = some none
  kS : (names fl).lookup ("super" : Str) = some .globalImplicit
  kF : (names fl).lookup ("__class__" : Str) = some .free
  kL : (names fl).lookup ("self" : Str) = some .local
  kP : ∀ f, fl = some f → (names fl).lookup f = some .local ∧ (f == ("self" : Str)) = false ∧ (f == ("__debug__" : Str)) = false
theorem one_size (v : Value) : [v].length ≤ sizeLine := by
  rw [sizeLine_eq]
  exact (by decide : 1 ≤ 16777216)
section
variable {P : Program} {w : World} {A : Around} {E : Value → Shared → Prop} {R : Result → Shared → Prop} {K : Frag} {mg mb : Str → Option Value} {x : Str} {fl : Option Str} {C fI : Addr}
/-- the first row of __init__ -/
theorem sup_run (T : ErrC P K x fl C fI) {hh : Heap} {g : Array GenState} {d : Drawn} {t : Nat} {os : OsState} {e t0 cc cda L : Addr} {m : Str → Option Value} {q z : Str} {kz : Nat} {bd : List Stmt} {p0 p1 p2 p3 p4 p5 : Pos} {fd : FuncData} {Q : Flow → Shared → Prop}
    (ev : EvP z kz p0 p1 p2 p3 p4 p5) (X : K.In hh) (G : hh.Ns mainGlobals mg) (hmg : mg "super" = none) (B : hh.Ns builtinsNs mb) (hmb : mb "super" = some (.type "super")) (he : hh.get? e = some (excO C t0))
    (hns : hh.Ns L m) (hv : m "self" = some (.ref e)) (hf : ∃ of, hh.get? fI = some of ∧ of.data = .func fd) (hp : ∃ ar, (fd.params.posonlyargs ++ fd.params.args).head? = some ar ∧ ar.arg = ("self" : Str))
    (hcode : ∃ oc vs file tf, hh.get? cda = some oc ∧ oc.data = .fields vs ∧ vs[2]? = some (.str file tf) ∧ ((P.main.file : Str) == file) = true) (hcell : hh.IsCell cc (some (.ref C)))
    (hq : ∀ h' t1 tk, (∀ b o, b ≠ e → hh.get? b = some o → h'.get? b = some o) → h'.get? e = some (excO C t1) → Q .next ⟨h', g, d, tk, os⟩) :
    _root_.PySem.wpAt (model P w) A (.func bd (ksEnv q (scp fl) L fI (.ref cda) cc)) (exec (sup z kz p0 p1 p2 p3 p4 p5) (ksEnv q (scp fl) L fI (.ref cda) cc)) Q E ⟨hh, g, d, t, os⟩ := by
  obtain ⟨nm, q', N, bs, bm, sn, sub, ab, col, dd, k0, k1, k2, k3, k5, hC, hbm⟩ := T.cls
  have hcl : clsIn K C = some { name := nm, bases := bs, mro := .ref C :: bm, ns := N, qualname := q', hasDict := true, slotNames := sn, subclasses := sub, abstract := ab, collection := col, hasDel := false } := by
    unfold clsIn
    rw [hC] <;> rfl
  have I : InstAt hh e (excO C t0) C none := ⟨he, rfl, rfl, trivial⟩
  have neC : e ≠ C := ks_ne X I hcl
  obtain ⟨of, hf1, hf2⟩ := hf
  obtain ⟨ar, har, har2⟩ := hp
  obtain ⟨oc, vs, file, tf, hc1, hc2, hc3, hc4⟩ := hcode
  unfold sup
  obtain ⟨⟨pl, ev1⟩, ev2⟩ := ev (ksEnv q (scp fl) L fI (.ref cda) cc)
  refine ks_wpAt_Expr_any (ks_wpAt_MethodCall ?_ ev1) rfl ev2
  refine ks_wpAt_super_base (env := ksEnv q (scp fl) L fI (.ref cda) cc) T.kS T.kF rfl rfl hf1 hf2 har rfl hc1 hc2 hc3 hc4 T.top ?_
  refine ks_loadName_global rfl T.kS (loadGlobal_builtin (env := ksEnv q (scp fl) L fI (.ref cda) cc) G hmg B hmb ⟨rfl, ?_⟩)
  refine wpAny_loadName_free rfl T.kF rfl hcell ?_
  rw [har2]
  refine wpAny_loadName_local rfl T.kL hns hv ?_
  refine ks_wpAny_isType_cls (X _ _ hC) rfl ⟨rfl, ?_⟩
  refine ks_wpAny_call_super (X _ _ hC) rfl he rfl (fun c z => by cases z) (looks_mroIn X T.mro) (fun h1 hso k1 => ?_)
  have X1 : K.In h1 := X.keeps k1
  have I1 : InstAt h1 e (excO C t0) C none := ⟨k1 _ _ he, rfl, rfl, trivial⟩
  have hal : alongIn K "__init__" (((Value.ref C :: bm).dropWhile (· != .ref C)).drop 1) = some (some (.builtin "ValueError.__init__")) := by
    have z := T.along
    unfold ks_superIn at z
    rw [hcl] at z
    exact z
  refine kxs_getMethod kxs_ValueError hso (looks_opaque X1 T.any) (l₀ := .ref C :: bm) (fun A Q E s k q => wpAny_bind ((looks_clsIn X1 hcl) A _ E s k (wpAny_pure q))) rfl X1 hal (I1.type.andThen (looks_subIn X1 T.subVE)) neC rfl ?_
  have hu : (h1.push (kxs_mw "ValueError.__init__" e)).get? h1.objs.size = some (kxs_mw "ValueError.__init__" e) := Heap.get?_push_at rfl rfl
  have k2 : ∀ b o, hh.get? b = some o → (h1.push (kxs_mw "ValueError.__init__" e)).get? b = some o := fun b o q => Heap.get?_push_of_some _ (k1 b o q)
  refine kxs_callWith (i := "ValueError.__init__") (x := e) rfl ?_
  refine evalArgs_plain (Calls.spliced_cons (Calls.Constant_str (k := kz) (pos := p3) (Calls.spliced_nil ⟨hu, ?_⟩)))
  refine wpAny_call (codeAny_of_tree ?_)
  show wpAny _ A.in1 (callAny (.ref h1.objs.size) ⟨_, []⟩) _ _ _
  simp only [callAny]
  refine wpAny_bind (wpAny_load hu ?_)
  have c1 : (Value.type "method-wrapper" == Value.type "method" || Value.type "method-wrapper" == Value.type "builtin_function_or_method" || Value.type "method-wrapper" == Value.type "method-wrapper") = true := by decide
  simp only [kxs_mw, c1, if_true]
  refine KFB.if_so (by decide) ?_
  have FB := PySem.F.excBase_ValueError
  refine wpAny_bind (check_bound_init FB.toExcCallFacts (k2 _ _ (X _ _ hC)) (k2 _ _ he) rfl ?_)
  refine wpAny_bind (wpAny_pure (wpAny_pure ⟨plainId_quiet FB.init.plain _, codeAny_builtin FB.initEntry ?_⟩))
  refine exc_init_tree (cls := .ref C) (t0 := t0) (dv := none) (c2 := .none) (c3 := .none) (b4 := .bool false) (k2 _ _ he) (one_size _) fun h2 k3 e2 _ => ?_
  exact hq h2 _ _ (fun b o hb z => k3 b o hb (k2 b o z)) e2
theorem noCell (o : Option Str) : ∀ y ∈ names o, y.2 ≠ .cell := by
  intro y hy
  cases o <;> simp only [names, List.mem_cons, List.not_mem_nil, or_false] at hy
  · rcases hy with rfl | rfl | rfl <;> exact fun z => by cases z
  · rcases hy with rfl | rfl | rfl | rfl <;> exact fun z => by cases z
/-- what an exception is behind its making: its dict (none where it keeps nothing) -/
def fsOf : Option Str → List Value → List (Str × Value)
  | some f, [_, v] => [(f, v)]
  | _, _ => []
theorem err_init0 (T : ErrC P K x none C fI) {s : Shared} {e t0 : Addr} (X : K.In s.heap) (lim : s.heap.NoLimit) (G : s.heap.Ns mainGlobals mg) (hmg : mg "super" = none) (B : s.heap.Ns builtinsNs mb) (hmb : mb "super" = some (.type "super"))
    (he : s.heap.get? e = some (excO C t0)) (hroom : A.depth < recursionLimit)
    (hq : ∀ h' t1 tk, (∀ b o, b ≠ e → s.heap.get? b = some o → h'.get? b = some o) → h'.get? e = some (excO C t1) → R (.ok (.ret .none)) { s with heap := h', toks := tk }) :
    codeAny (model P w) A (.call (.ref fI) ⟨[.ref e], []⟩) R s := by
  obtain ⟨oc, od, doc, pm, an, ct, osl, cc, cda, qual, z, kz, p, p', p0, p1, p2, p3, p4, p5, q1, q2, q3, q4, hf, hcd, ev, bd, ⟨ccl, cdd, vs, ccs, file, tf, hc1, hc2, hc3⟩, cl, cld, csl, hcell⟩ := T.fn
  refine ks_codeAny_call_defAt (binds := [("self", .ref e)]) hroom (X _ _ hf) rfl lim (codeRec_of X hcd) rfl (BindsTo.of_eq (by first | rfl | with_unfolding_all rfl)) (noCell none) (by
    intro y hy
    obtain rfl : y = (("self" : Str), Value.ref e) := by simpa using hy
    exact T.kL) (fun h1 hns k1 => ?_) rfl rfl rfl
  obtain ⟨hh, g, d, t, os⟩ := s
  have X1 : K.In h1 := X.keeps k1
  show _root_.PySem.wpAt _ _ _ (execs (sup z kz p0 p1 p2 p3 p4 p5 :: []) _) _ _ _
  refine ks_wpAt_execs_cons (sup_run (m := fun y => [(("self" : Str), Value.ref e)].reverse.lookup y) T ev X1 (G.keeps k1) hmg (B.keeps k1) hmb (k1 _ _ he) hns (by with_unfolding_all rfl) ⟨_, X1 _ _ hf, rfl⟩ ⟨_, rfl, rfl⟩ ⟨_, vs, file, tf, X1 _ _ hc1, rfl, hc2, hc3⟩ ⟨_, X1 _ _ hcell, rfl⟩ fun h2 t1 tk k2 e2 => ?_)
  exact wpAt_of_wpAny (wpAny_execs_nil (hq h2 t1 tk (fun b o hb z => k2 b o hb (k1 b o z)) e2))
def args1 (f : Str) (v : Value) (e : Value) (byName : Bool) : Args := if byName = true then ⟨[e], [(f, v)]⟩ else ⟨[e, v], []⟩
theorem err_init1 {f : Str} (T : ErrC P K x (some f) C fI) {s : Shared} {e t0 : Addr} {v : Value} {bn : Bool} (X : K.In s.heap) (lim : s.heap.NoLimit) (G : s.heap.Ns mainGlobals mg) (hmg : mg "super" = none) (B : s.heap.Ns builtinsNs mb) (hmb : mb "super" = some (.type "super"))
    (he : s.heap.get? e = some (excO C t0)) (hne : K.lookup e = none) (hroom : A.depth < recursionLimit)
    (hq : ∀ h' t1 tk dx, (∀ b o, b ≠ e → s.heap.get? b = some o → h'.get? b = some o) → h'.get? e = some { cls := .ref C, dict := some dx, data := .fields #[.ref t1, .none, .none, .none, .bool false, .none] } →
      s.heap.objs.size ≤ dx → dx ≠ e → h'.Ns1 dx (fun y => if y = f then some v else none) → R (.ok (.ret .none)) { s with heap := h', toks := tk }) :
    codeAny (model P w) A (.call (.ref fI) (args1 f v (.ref e) bn)) R s := by
  obtain ⟨oc, od, doc, pm, an, ct, osl, cc, cda, qual, z, kz, p, p', p0, p1, p2, p3, p4, p5, q1, q2, q3, q4, hf, hcd, ev, bd, ⟨ccl, cdd, vs, ccs, file, tf, hc1, hc2, hc3⟩, cl, cld, csl, hcell⟩ := T.fn
  obtain ⟨nm, q', N, bs, bm, sn, sub, ab, col, dd, k0, k1, k2, k3, k5, hC, hbm⟩ := T.cls
  have hcl : clsIn K C = some { name := nm, bases := bs, mro := .ref C :: bm, ns := N, qualname := q', hasDict := true, slotNames := sn, subclasses := sub, abstract := ab, collection := col, hasDel := false } := by
    unfold clsIn
    rw [hC] <;> rfl
  obtain ⟨kf1, kf2, kf3⟩ := T.kP f rfl
  have hbd : BindsTo s (ksFn "__init__" qual (pars (some f) p p') (body (some f) z kz p0 p1 p2 p3 p4 p5 q1 q2 q3 q4) (scp (some f)) .none .none doc pm an (.ref cda) ct cc) (args1 f v (.ref e) bn) [("self", .ref e), (f, v)] := by
    cases bn
    · exact BindsTo.of_eq (bd _ _).1
    · exact BindsTo.of_eq (bd _ _).2
  refine ks_codeAny_call_defAt (binds := [("self", .ref e), (f, v)]) hroom (X _ _ hf) rfl lim (codeRec_of X hcd) rfl hbd (noCell (some f)) (by
    intro y hy
    rcases List.mem_cons.mp hy with rfl | hy
    · exact T.kL
    · obtain rfl : y = (f, v) := by simpa using hy
      exact kf1) (fun h1 hns kk => ?_) rfl rfl rfl
  obtain ⟨hh, g, d, t, os⟩ := s
  have X1 : K.In h1 := X.keeps kk
  have nsf : f ≠ ("self" : Str) := by simpa using kf2
  have lf : [(("self" : Str), Value.ref e), (f, v)].reverse.lookup f = some v := by simp [List.lookup]
  have ls : [(("self" : Str), Value.ref e), (f, v)].reverse.lookup ("self" : Str) = some (Value.ref e) := by
    have z : (("self" : Str) == f) = false := by simpa using (Ne.symm nsf)
    simp [List.lookup, z]
  have heL : e ≠ hh.objs.size := Nat.ne_of_lt (Heap.lt_size he)
  show _root_.PySem.wpAt _ _ _ (execs (sup z kz p0 p1 p2 p3 p4 p5 :: [keepS f q1 q2 q3 q4]) _) _ _ _
  refine ks_wpAt_execs_cons (sup_run (m := fun y => [(("self" : Str), Value.ref e), (f, v)].reverse.lookup y) T ev X1 (G.keeps kk) hmg (B.keeps kk) hmb (kk _ _ he) hns ls ⟨_, X1 _ _ hf, rfl⟩ ⟨_, rfl, rfl⟩ ⟨_, vs, file, tf, X1 _ _ hc1, rfl, hc2, hc3⟩ ⟨_, X1 _ _ hcell, rfl⟩ fun h2 t1 tk k4 e2 => ?_)
  have X2 : K.In h2 := fun a o q => k4 a o (fun y => by rw [y, hne] at q; cases q) (X1 a o q)
  obtain ⟨oL, esL, epL, hL, rL⟩ := hns
  have hns2 : h2.Ns hh.objs.size (fun y => [(("self" : Str), Value.ref e), (f, v)].reverse.lookup y) := ⟨oL, esL, epL, k4 _ _ (Ne.symm heL) hL, rL⟩
  refine wpAt_of_wpAny (wpAny_execs_cons (plainObj_wpAny_Assign_Attribute ?_))
  refine wpAny_Name (wpAny_loadName_local rfl kf1 hns2 lf ?_) kf3
  refine wpAny_Name (wpAny_loadName_local rfl T.kL hns2 ls ?_) (by decide)
  refine set_plain X2 (ox := excO C t1) (od := none) ⟨e2, rfl, rfl, trivial⟩ T.sa ?_
  refine exc_osa X2 e2 hcl (show refsVE (.ref C :: bm) = true from hbm) rfl (T.noF f rfl) (fun h3 tk3 dx k5 dn dne hx3 hn3 => ?_)
  have zz : hh.objs.size ≤ dx := Nat.le_trans (Nat.le_of_lt (Heap.lt_size (k4 _ _ (Ne.symm heL) hL))) dn
  exact wpAny_execs_nil (hq h3 t1 tk3 dx (fun b o hb z => k5 b o hb (k4 b o hb (kk b o z))) hx3 zz dne hn3)
end
end Er

set_option maxRecDepth 100000
set_option maxHeartbeats 2000000
namespace Er
open PySem PySem.W PySem.Calls PyProof.Rows PySem.HandSPX
section
variable {P : Program} {w : World} {A : Around} {E : Value → Shared → Prop} {R : Result → Shared → Prop} {h : Heap} {g : Array GenState} {d : Drawn} {t : Nat} {os : OsState}
variable {nm q : Str} {C N : Addr} {bs bm : List Value} {sn : List Str} {sub : List Value} {ab : Bool} {col : Option Bool} {dd : Option Addr} {k0 k1 k2 k3 k5 : Option Value}
/-- the class's own part of the making, with arguments by name -/
theorem newKw {kw : List (Str × Value)} (hbm : refsVE bm = true)
    (hC : h.get? C = some (excClassObj nm q C N bs bm true sn sub ab col dd k0 k1 k2 k3 k5 "ValueError.__new__"))
    (hq : R (.ok (.ret (.ref (h.objs.size + 1)))) ⟨(h.push (kdv_tup [])).push (excO C h.objs.size), g, d, t, os⟩) :
    codeAny (model P w) A (.builtin "ValueError.__new__" ⟨[.ref C], kw⟩) R ⟨h, g, d, t, os⟩ := by
  have FB := PySem.F.excBase_ValueError
  have ends := FB.ends
  have hT := fun Y => refsVE_contains Y bm hbm
  have cB : (Value.ref C :: bm).contains (.type "ValueError") = true := by rw [List.contains_cons, hT, FB.hasB, Bool.or_true]
  have cA : (Value.ref C :: bm).contains (.type "AttributeError") = false := by rw [List.contains_cons, hT, FB.noAttr]; rfl
  have cN : (Value.ref C :: bm).contains (.type "NameError") = false := by rw [List.contains_cons, hT, FB.noName]; rfl
  refine codeAny_builtinAt FB.entry ?_
  unfold Builtin.«BaseException.__new__»
  refine _root_.PySem.wpAt_bind ?_
  refine _root_.PySem.wpAt_bind (_root_.PySem.wpAt_stack fun p below => _root_.PySem.wpAt_of_wpAny ?_)
  wp_walk
  refine _root_.PySem.wpAt_of_wpAny ?_
  rw [FB.owner]
  repeat (first | with_reducible refine wpAny_madeHere_exc FB.canon hC ?_ | with_reducible refine wpAny_loadPart_at hC ?_ | (with_reducible refine wpAny_isSubtype_exc hC ?_; first | rw [cB] | rw [cA] | rw [cN]) | wp_step)
  rw [Heap.size_push]
  exact hq
theorem checkKw {kw : List (Str × Value)} {M : Model} {Q : Unit → Shared → Prop} (hbm : refsVE bm = true)
    (hC : h.get? C = some (excClassObj nm q C N bs bm true sn sub ab col dd k0 k1 k2 k3 k5 "ValueError.__new__")) (hq : Q () ⟨h, g, d, t, os⟩) :
    wpAny M A (checkBuiltinCall "ValueError.__new__" ⟨[.ref C], kw⟩) Q E ⟨h, g, d, t, os⟩ := by
  have FB := PySem.F.excBase_ValueError
  have cB : (Value.ref C :: bm).contains (.type "ValueError") = true := by rw [List.contains_cons, refsVE_contains "ValueError" bm hbm, FB.hasB, Bool.or_true]
  have st := FB.noStar
  simp only [checkBuiltinCall, FB.newKind, FB.newSplit, FB.newRow]
  repeat (first
    | refine wpAny_loadPart_at hC ?_
    | (refine wpAny_isSubtype_exc hC ?_; rw [cB])
    | refine wpAny_staticBase_exc hC ?_
    | refine wpAny_madeBy_exc hC ?_
    | simp only [bne_self_eq_false, Bool.false_eq_true, if_false]
    | wp_step)
  exact hq
theorem typeKw {kw : List (Str × Value)} {fI : Addr} {Q : Fin → Shared → Prop} (hbm : refsVE bm = true)
    (hC : h.get? C = some (excClassObj nm q C N bs bm true sn sub ab col dd k0 k1 k2 k3 k5 "ValueError.__new__"))
    (hi : Looks (model P w) h (typeLookup (.ref C) "__init__") (some (.ref fI))) (hb : ∀ self, Looks (model P w) h (bindSpecial (.ref fI) self) (.ref fI, [self]))
    (hq : codeAny (model P w) A (.call (.ref fI) ⟨[.ref (h.objs.size + 1)], kw⟩)
      (fun r s' => match r with | .ok (.ret v) => v = .none ∧ Q (.done (.ret (.ref (h.objs.size + 1)))) s' | .ok _ => False | .error e => E e s')
      ⟨(h.push (kdv_tup [])).push (excO C h.objs.size), g, d, t, os⟩) :
    wpAny (model P w) A (Builtin.«type.__call__» ⟨[.ref C], kw⟩) Q E ⟨h, g, d, t, os⟩ := by
  have FB := PySem.F.excBase_ValueError
  repeat (first | with_reducible refine wpAny_loadPart_at hC ?_ | with_reducible refine wpAny_madeBy_exc hC ?_ | wp_step)
  refine codeAny_call_builtin_code (Code.quiet_builtin _ FB.quiet) (checkKw hbm hC (newKw hbm hC ?_))
  have kk : ∀ b o, h.get? b = some o → ((h.push (kdv_tup [])).push (excO C h.objs.size)).get? b = some o := fun b o z => Heap.get?_push_of_some _ (Heap.get?_push_of_some _ z)
  have e1 : ((h.push (kdv_tup [])).push (excO C h.objs.size)).get? (h.objs.size + 1) = some (excO C h.objs.size) := by heap_get
  have cC : (Value.ref C :: bm).contains (.ref C) = true := by simp
  show wpAny _ _ _ _ _ _
  unfold isInstance
  repeat (first
    | with_reducible refine wpAny_loadPart_at e1 ?_
    | (with_reducible refine wpAny_isSubtype_exc (kk _ _ hC) ?_; rw [cC])
    | wp_step)
  show wpAny _ _ (typeLookup (.ref C) _) _ _ _
  refine (hi.keeps kk).at (wpAny_holding (wpAny_bind (((hb (.ref (h.objs.size + 1))).keeps kk).at ?_)))
  refine wpAny_bind (wpAny_call (codeAny_mono hq fun r s' z => ?_))
  cases r with
  | error e => exact z
  | ok fl =>
    cases fl with
    | ret v =>
      obtain ⟨rfl, z⟩ := z
      first
        | exact wpAny_pure (wpAny_pure z)
        | (wp_walk; exact z)
    | next => exact z.elim
    | brk => exact z.elim
    | cont => exact z.elim
theorem callKw {kw : List (Str × Value)} {fI : Addr} (hbm : refsVE bm = true)
    (hC : h.get? C = some (excClassObj nm q C N bs bm true sn sub ab col dd k0 k1 k2 k3 k5 "ValueError.__new__"))
    (hi : Looks (model P w) h (typeLookup (.ref C) "__init__") (some (.ref fI))) (hb : ∀ self, Looks (model P w) h (bindSpecial (.ref fI) self) (.ref fI, [self]))
    (hq : codeAny (model P w) (A.under (.builtin "type.__call__" ⟨[.ref C], kw⟩)) (.call (.ref fI) ⟨[.ref (h.objs.size + 1)], kw⟩) (InitBack (h.objs.size + 1) R)
      ⟨(h.push (kdv_tup [])).push (excO C h.objs.size), g, d, t, os⟩) :
    codeAny (model P w) A (.call (.ref C) ⟨[], kw⟩) R ⟨h, g, d, t, os⟩ := by
  have f1 := tc_lookup
  have f2 := tc_bind (.ref C)
  have ty : (⟨h, g, d, t, os⟩ : Shared).TypeIs (.ref C) "type" := ⟨_, hC, rfl⟩
  refine codeAny_of_tree ?_
  show wpAny _ _ (callAny (.ref C) _) _ _ _
  repeat (any_goals (first | assumption | with_reducible refine wpAny_loadPart_at hC ?_ | wp_step))
  refine ⟨rfl, codeAny_call_builtin_at (Code.quiet_builtin _ (by decide +kernel)) entry_typeCall (wpAny_check_type_call_sub hC (typeKw hbm hC hi hb ?_))⟩
  refine codeAny_mono hq fun r s' z => ?_
  rcases r with e | (v | _ | _ | _) <;> exact z
end
end Er

set_option maxRecDepth 100000
set_option maxHeartbeats 2000000
namespace Er
open PySem PySem.Spec PyProof.Rows L2
section
variable {X : Cx} {pins : List (Addr × Obj)} {σ : L2.St} {H : Hp} {s : Shared}
/-- two new objects, tracked -/
theorem laid2 {h' : Heap} {a b : Addr} {oa ob : HO} {t' : Nat} (I : Inv X pins σ H s) (k : ∀ c u, s.heap.get? c = some u → h'.get? c = some u) (ha : s.heap.objs.size ≤ a) (hb : s.heap.objs.size ≤ b)
    (na : ObjOk X.prog X.w (upd (upd H b ob) a oa) h' a oa) (nb : a ≠ b → ObjOk X.prog X.w (upd (upd H b ob) a oa) h' b ob) : Inv X pins σ (upd (upd H b ob) a oa) { s with heap := h', toks := t' } := by
  have fa : H a = none := I.hok.fresh ha
  have fb : H b = none := I.hok.fresh hb
  have ne : ∀ {c u}, H c = some u → c ≠ a ∧ c ≠ b := fun {c u} q => ⟨ne_of_none q fa, ne_of_none q fb⟩
  have nh : ∀ {c u}, s.heap.get? c = some u → c ≠ a ∧ c ≠ b := fun {c u} q => ⟨Nat.ne_of_lt (Nat.lt_of_lt_of_le (Heap.lt_size q) ha), Nat.ne_of_lt (Nat.lt_of_lt_of_le (Heap.lt_size q) hb)⟩
  have up : ∀ {c}, c ≠ a → c ≠ b → upd (upd H b ob) a oa c = H c := fun {c} h1 h2 => by rw [upd_ne h1, upd_ne h2]
  refine I.un ⟨fun c u q _ _ _ => k c u q, fun c u q _ _ _ => ⟨u.slots, k c u q⟩, fun c u q n _ => by rw [up (nh q).1 (nh q).2]; exact n, fun c u q _ => ⟨u, k c u q⟩,
    fun c xs q => by rw [up (ne q).1 (ne q).2]; exact q, fun c o u q => by rw [up (ne q).1 (ne q).2]; exact q, fun c ps q => ⟨#[], by rw [up (ne q).1 (ne q).2, q]; simp⟩⟩ ?_
  intro c u q
  by_cases h1 : c = a
  · subst h1
    rw [upd_same] at q
    cases q
    exact na
  · by_cases h2 : c = b
    · subst h2
      rw [upd_ne h1, upd_same] at q
      cases q
      exact nb (Ne.symm h1)
    · rw [up h1 h2] at q
      exact (I.hok c u q).stay (fun e v _ z => k e v z) (fun e z => by rw [up (ne z).1 (ne z).2]; exact z) fun e xs z => by rw [up (ne z).1 (ne z).2]; exact z
end
section
variable {X : Cx} {x f : Str} {C fI : Addr} {k : Nat} {e : Expr} {te : TE} {p pos kp : Pos}
/-- what the world about says of the name super -/
structure SupOk (X : Cx) : Prop where
  mg : X.mg "super" = none
theorem facts {pins : List (Addr × Obj)} {σ : L2.St} {H : Hp} {s : Shared} (I : Inv X pins σ H s) : s.heap.NoLimit ∧ s.heap.Ns mainGlobals X.mg ∧ ∃ mb, s.heap.Ns builtinsNs mb ∧ mb "super" = some (.type "super") := by
  obtain ⟨mb, b1, b2⟩ := I.mod.blt
  exact ⟨I.mod.nolimit.keeps I.bk, I.mod.glob.keeps I.bk, mb, b1.keeps I.bk, (b2 _ (by decide +kernel)).trans (by decide +kernel)⟩
/-- C() as a value -/
def tErr0 (C : Addr) : TE := fun σ H Q => ∀ a, H a = none → Q (.ref a) (upd H a (exo a C none))
/-- C(e) as a value -/
def tErr1 (C : Addr) (f : Str) (te : TE) : TE := fun σ H Q => te σ H fun v H1 => ∀ a d, H1 a = none → H1 d = none → d ≠ a → Q (.ref a) (upd (upd H1 d (exd d [(f, v)])) a (exo a C (some d)))
theorem pe_err0 (T : ErrC X.prog X.K x none C fI) (S : X.mg "super" = none) (hr : Room k X.A) (hg : Gl X x) (hm : X.mg x = some (.ref C)) (hdb : (x == ("__debug__" : Str)) = false := by decide) :
    PE X (.Call (.Name x p) [] [] pos) (tErr0 C) := by
  constructor
  intro pins s σ H Q I h
  refine wpAny_Call_Name_kw (ld_glob I hg hm ?_ hdb)
  refine PySem.W.callWith_K0 I.kIn T.kC ?_
  show wpAny _ _ (call (.ref C) []) _ _ _
  obtain ⟨nm, q, N, bs, bm, sn, sub, ab, col, dd, k0, k1, k2, k3, k5, hC, hbm⟩ := T.cls
  obtain ⟨lim, G, mb, B, hmb⟩ := facts I
  obtain ⟨hp, g, dr, tk, os⟩ := s
  have X0 : X.K.In hp := I.kIn
  have kk : ∀ b o, hp.get? b = some o → ((hp.push (PySem.W.kdv_tup [])).push (PySem.HandSPX.excO C hp.objs.size)).get? b = some o := fun b o z => Heap.get?_push_of_some _ (Heap.get?_push_of_some _ z)
  have e1 : ((hp.push (PySem.W.kdv_tup [])).push (PySem.HandSPX.excO C hp.objs.size)).get? (hp.objs.size + 1) = some (PySem.HandSPX.excO C hp.objs.size) := by heap_get
  refine wpAny_call (callKw hbm (X0 _ _ hC) (PySem.W.looks_findIn X0 T.iC) (fun self => PySem.W.bind_fn X0 self T.tI) ?_)
  refine err_init0 (s := ⟨(hp.push (PySem.W.kdv_tup [])).push (PySem.HandSPX.excO C hp.objs.size), g, dr, tk, os⟩) T (X0.keeps kk) (lim.keeps kk) (G.keeps kk) S (B.keeps kk) hmb e1 ?_ ?_
  · have := hr.dp
    show X.A.depth + 1 < recursionLimit
    omega
  · intro h' t1 tk' k' e'
    have hn : H (hp.objs.size + 1) = none := I.hok.fresh (Nat.le_succ _)
    refine ⟨rfl, .ref (hp.objs.size + 1), upd H (hp.objs.size + 1) (exo (hp.objs.size + 1) C none), ?_, rfl, h _ hn⟩
    exact I.laid (t' := tk') (fun b o z => k' b o (Nat.ne_of_lt (Nat.lt_succ_of_lt (Heap.lt_size z))) (kk b o z)) (Nat.le_succ _) (exo_ok e')
theorem vals_one {v : V} {us : List Value} (r : Vals [v] us) : ∃ u, us = [u] ∧ RelV v u := by
  cases r with
  | cons a b => cases b; exact ⟨_, rfl, a⟩
/-- the making itself, behind the argument's reading -/
theorem make1 (T : ErrC X.prog X.K x (some f) C fI) (S : X.mg "super" = none) (hr : Room k X.A) (bn : Bool) {pins : List (Addr × Obj)} {σ : L2.St} {H1 : Hp} {s1 : Shared} {v : V} {u : Value} {Q : VK} (I1 : Inv X pins σ H1 s1) (ru : RelV v u)
    (q : ∀ a d, H1 a = none → H1 d = none → d ≠ a → Q (.ref a) (upd (upd H1 d (exd d [(f, v)])) a (exo a C (some d)))) :
    wpAny (model X.prog X.w) X.A (call (.ref C) (if bn = true then [] else [u]) (if bn = true then [(f, u)] else [])) (EP X pins σ Q) X.xe s1 := by
  obtain ⟨nm, qn, N, bs, bm, sn, sub, ab, col, dd, k0, k1, k2, k3, k5, hC, hbm⟩ := T.cls
  obtain ⟨lim, G, mb, B, hmb⟩ := facts I1
  obtain ⟨hp, g, dr, tk, os⟩ := s1
  have X0 : X.K.In hp := I1.kIn
  have fin : ∀ l : List Value, ∀ A' : Around, A'.depth < recursionLimit → ∀ R : Result → Shared → Prop, (∀ h' tk', (∃ w' H', Inv X pins σ H' ⟨h', g, dr, tk', os⟩ ∧ RelV w' (.ref (hp.objs.size + 1)) ∧ Q w' H') → R (.ok (.ret .none)) ⟨h', g, dr, tk', os⟩) →
      codeAny (model X.prog X.w) A' (.call (.ref fI) (args1 f u (.ref (hp.objs.size + 1)) bn)) R ⟨(hp.push (PySem.W.kdv_tup l)).push (PySem.HandSPX.excO C hp.objs.size), g, dr, tk, os⟩ := by
    intro l A' hA R hR
    have kk : ∀ b o, hp.get? b = some o → ((hp.push (PySem.W.kdv_tup l)).push (PySem.HandSPX.excO C hp.objs.size)).get? b = some o := fun b o z => Heap.get?_push_of_some _ (Heap.get?_push_of_some _ z)
    have e1 : ((hp.push (PySem.W.kdv_tup l)).push (PySem.HandSPX.excO C hp.objs.size)).get? (hp.objs.size + 1) = some (PySem.HandSPX.excO C hp.objs.size) := by heap_get
    have hne : X.K.lookup (hp.objs.size + 1) = none := by
      cases z : X.K.lookup (hp.objs.size + 1) with
      | none => rfl
      | some o => exact absurd (Nat.lt_of_succ_lt (Heap.lt_size (X0 _ _ z))) (Nat.lt_irrefl _)
    refine err_init1 (s := ⟨(hp.push (PySem.W.kdv_tup l)).push (PySem.HandSPX.excO C hp.objs.size), g, dr, tk, os⟩) T (X0.keeps kk) (lim.keeps kk) (G.keeps kk) S (B.keeps kk) hmb e1 hne hA ?_
    intro h' t1 tk' dx k' e' dn dne hns
    have dn' : hp.objs.size ≤ dx := by
      have z : hp.objs.size ≤ ((hp.push (PySem.W.kdv_tup l)).push (PySem.HandSPX.excO C hp.objs.size)).objs.size := by
        rw [Heap.size_push, Heap.size_push]
        omega
      exact Nat.le_trans z dn
    have fa : H1 (hp.objs.size + 1) = none := I1.hok.fresh (Nat.le_succ _)
    have fd : H1 dx = none := I1.hok.fresh dn'
    refine hR h' tk' ⟨.ref (hp.objs.size + 1), _, ?_, rfl, q _ dx fa fd dne⟩
    refine laid2 (t' := tk') I1 (fun b o z => k' b o (Nat.ne_of_lt (Nat.lt_succ_of_lt (Heap.lt_size z))) (kk b o z)) (Nat.le_succ _) dn' (exo_ok e') fun _ => exd_ok hns fun y => ?_
    exact relO_put (fs := []) (mA := fun _ => none) ru (fun _ => True.intro) y
  cases bn with
  | false =>
    refine wpAny_call (PySem.HandSPX.call_own (rest := [u]) F.excBase_ValueError (fun Y => PySem.HandSPX.refsVE_contains Y bm hbm) (X0 _ _ hC) (PySem.W.looks_findIn X0 T.iC) (fun self => PySem.W.bind_fn X0 self T.tI) (one_size u) ?_)
    refine fin [u] _ ?_ _ fun h' tk' hh => ⟨rfl, hh⟩
    have := hr.dp
    show X.A.depth + 1 < recursionLimit
    omega
  | true =>
    refine wpAny_call (callKw hbm (X0 _ _ hC) (PySem.W.looks_findIn X0 T.iC) (fun self => PySem.W.bind_fn X0 self T.tI) ?_)
    refine fin [] _ ?_ _ fun h' tk' hh => ⟨rfl, hh⟩
    have := hr.dp
    show X.A.depth + 1 < recursionLimit
    omega
theorem pe_err1 (T : ErrC X.prog X.K x (some f) C fI) (S : X.mg "super" = none) (hr : Room k X.A) (hg : Gl X x) (hm : X.mg x = some (.ref C)) (he : PE X e te) (hdb : (x == ("__debug__" : Str)) = false := by decide)
    (hs : starEach [e] X.env = (false, eval e X.env) :: starEach [] X.env := by rfl) : PE X (.Call (.Name x p) [e] [] pos) (tErr1 C f te) := by
  constructor
  intro pins s σ H Q I h
  refine wpAny_Call_Name_kw (ld_glob I hg hm (PySem.W.callWith_K (h₀ := X.base) I.ok.mod.kin T.kC ?_ hs (by rfl)) hdb)
  rw [hs]
  refine Calls.spliced_cons (thn (he.run pins s σ H _ I h) ?_)
  rintro u s1 ⟨v, H1, I1, r1, q1⟩
  exact Calls.spliced_nil ⟨I1.kIn, make1 T S hr false I1 r1 q1⟩
/-- C(f=e) -/
theorem pe_err1k (T : ErrC X.prog X.K x (some f) C fI) (S : X.mg "super" = none) (hr : Room k X.A) (hg : Gl X x) (hm : X.mg x = some (.ref C)) (he : PE X e te) (hdb : (x == ("__debug__" : Str)) = false := by decide)
    (hall : (backToKw pos (keywordEach [⟨some f, e, kp⟩] X.env)).all (·.1.isSome) = true := by rfl) (hks : (backToKw pos (keywordEach [⟨some f, e, kp⟩] X.env)).filterMap (·.1) = [f] := by rfl)
    (hpl : ((backTo pos (starEach [] X.env)).any (·.1) || (backToKw pos (keywordEach [⟨some f, e, kp⟩] X.env)).any (·.1.isNone)) = false := by rfl) :
    PE X (.Call (.Name x p) [] [⟨some f, e, kp⟩] pos) (tErr1 C f te) := by
  constructor
  intro pins s σ H Q I h
  refine wpAny_Call_Name_kw (ld_glob I hg hm (PySem.W.callWith_KW0 (h₀ := X.base) I.ok.mod.kin T.kC hall ?_ hpl) hdb)
  show wpAny _ _ (evalAll ((do let v ← eval e X.env; standAt pos; pure v) :: [])) _ _ s
  refine wpAny_evalAll_cons (wpAny_bind (thn (he.run pins s σ H _ I h) ?_))
  rintro u s1 ⟨v, H1, I1, r1, q1⟩
  refine wpAny_bind (wpAny_standAt (wpAny_pure (wpAny_evalAll_nil ⟨I1.kIn, ?_⟩)))
  rw [hks]
  exact make1 T S hr true I1 r1 q1
/-- e.n of a made error -/
def tErrF (K : PySem.W.Frag) (n : Str) (te : TE) : TE := fun σ H Q => te σ H fun y H1 => ∃ (a C d : Addr) (fs : List (Str × V)) (v : V), y = .ref a ∧ XfC K C ∧ PySem.W.findIn K (.ref C) n = some none ∧
  H1 a = some (exo a C (some d)) ∧ H1 d = some (exd d fs) ∧ fs.lookup n = some v ∧ Q v H1
theorem pe_errF {n : Str} (he : PE X e te) (hb : attributeBase e n X.env (eval e X.env) = eval e X.env := by rfl) : PE X (.Attribute e n pos) (tErrF X.K n te) := by
  constructor
  intro pins s σ H Q I h
  refine attr_of hb (thn (he.run pins s σ H _ I h) ?_)
  rintro u s1 ⟨y, H1, I1, rx, a, C, d, fs, v, rfl, T, hno, ea, ed, l, q⟩
  obtain rfl : u = Value.ref a := rx
  obtain ⟨t1, ho⟩ := exo_at I1.hok ea
  obtain ⟨mA, hns, hr⟩ := exd_at I1.hok ed
  obtain ⟨od, hod, hl⟩ := lookIn_ns hns
  obtain ⟨u, hu, ru⟩ := RelO.some_of (v := v) (o := mA n) (by rw [← l]; exact hr n)
  have J : PySem.W.InstAt s1.heap a _ C (some od) := ⟨ho, rfl, rfl, hod⟩
  exact HandSPX.exc_get I1.kIn J T.ga T.gg T.exC (PySem.W.findObj_own T.hdC hno rfl (by rw [hl, hu])) (handed_of ru) ⟨v, H1, I1.tok _, ru, q⟩
/-- isinstance(a made error, c) -/
def rIsErr (K : PySem.W.Frag) : List V → Hp → VK → Prop := fun xs H Q => ∃ (a C : Addr) (d : Option Addr) (c : V) (cv : Value) (b : Bool), xs = [.ref a, c] ∧ ExcC K C ∧ (PySem.W.clsIn K C).isSome = true ∧ H a = some (exo a C d) ∧
  (∀ dd, d = some dd → ∃ fs, H dd = some (exd dd fs)) ∧ (∀ u, RelV c u → u = cv) ∧ PySem.W.kitOne K (.ref C) cv = some b ∧ Q (.bl b) H
theorem call_isErr : CallR X (.builtin "isinstance") (rIsErr X.K) := by
  intro pins s σ H xs us Q I r h
  obtain ⟨a, C, d, c, cv, b, rfl, T, hcl, ea, ed, hcv, ek, q⟩ := h
  cases r with
  | cons rx rr =>
    cases rr with
    | cons rt rr =>
      cases rr
      cases rx
      obtain rfl := hcv _ rt
      obtain ⟨t1, ho⟩ := exo_at I.hok ea
      have J : ∃ od, PySem.W.InstAt s.heap a { cls := .ref C, dict := d, data := .fields #[.ref t1, .none, .none, .none, .bool false, .none] } C od := by
        cases d with
        | none => exact ⟨none, ho, rfl, rfl, trivial⟩
        | some dd =>
          obtain ⟨fs, e2⟩ := ed dd rfl
          obtain ⟨mA, hns, _⟩ := exd_at I.hok e2
          obtain ⟨od, hod, _⟩ := lookIn_ns hns
          exact ⟨some od, ho, rfl, rfl, hod⟩
      obtain ⟨od, J⟩ := J
      exact PySem.W.kia_one (PySem.W.kitx_exc hcl T.hg T.hk T.hs T.ha T.hn T.ht T.hm) I.kIn J ek (fun z => nomatch z) fun tk => ⟨.bl b, H, I.kept (t' := tk) fun _ _ z => z, rfl, q⟩
end
end Er

set_option maxRecDepth 100000
set_option maxHeartbeats 2000000
/-! Own errors (super().__init__('..')) raised. -/
namespace Er
open PySem PySem.Spec PyProof.Rows L2
section
variable {X : Cx} {x f : Str} {C fI : Addr} {k : Nat} {e : Expr} {te : TE} {p pos kp : Pos}
theorem pmk_err0 (T : ErrC X.prog X.K x none C fI) (S : X.mg "super" = none) (hr : Room k X.A) (rC : Raises X (.ref C)) (hm : X.mg x = some (.ref C)) (hg : Gl X x := by rfl) (hdb : (x == ("__debug__" : Str)) = false := by decide) :
    PMk X (.Call (.Name x p) [] [] pos) (fun σ H Q => Q (.ref C) none H) := by
  intro pins s σ H Q I h
  refine wpAny_Call_Name_kw (ld_glob I hg hm (PySem.W.callWith_K0 I.kIn T.kC ?_) hdb)
  show wpAny _ _ (call (.ref C) []) _ _ _
  obtain ⟨nm, q, N, bs, bm, sn, sub, ab, col, dd, k0, k1, k2, k3, k5, hC, hbm⟩ := T.cls
  obtain ⟨lim, G, mb, B, hmb⟩ := facts I
  obtain ⟨hp, g, dr, tk, os⟩ := s
  have X0 : X.K.In hp := I.kIn
  have kk : ∀ b o, hp.get? b = some o → ((hp.push (PySem.W.kdv_tup [])).push (PySem.HandSPX.excO C hp.objs.size)).get? b = some o := fun b o z => Heap.get?_push_of_some _ (Heap.get?_push_of_some _ z)
  have e1 : ((hp.push (PySem.W.kdv_tup [])).push (PySem.HandSPX.excO C hp.objs.size)).get? (hp.objs.size + 1) = some (PySem.HandSPX.excO C hp.objs.size) := by heap_get
  refine wpAny_call (callKw hbm (X0 _ _ hC) (PySem.W.looks_findIn X0 T.iC) (fun self => PySem.W.bind_fn X0 self T.tI) ?_)
  refine err_init0 (s := ⟨(hp.push (PySem.W.kdv_tup [])).push (PySem.HandSPX.excO C hp.objs.size), g, dr, tk, os⟩) T (X0.keeps kk) (lim.keeps kk) (G.keeps kk) S (B.keeps kk) hmb e1 ?_ ?_
  · have := hr.dp
    show X.A.depth + 1 < recursionLimit
    omega
  · intro h' t1 tk' k' e'
    have hn : H (hp.objs.size + 1) = none := I.hok.fresh (Nat.le_succ _)
    have hq : hp.get? (hp.objs.size + 1) = none := by
      cases z : hp.get? (hp.objs.size + 1) with
      | none => rfl
      | some o => exact absurd (Nat.lt_of_succ_lt (Heap.lt_size z)) (Nat.lt_irrefl _)
    exact ⟨rfl, hp.objs.size + 1, _, _, ⟨hp, g, dr, tk, os⟩, H, .ref C, none, rfl, I, fun b o z => k' b o (Nat.ne_of_lt (Nat.lt_succ_of_lt (Heap.lt_size z))) (kk b o z), hq, e', ⟨rfl, rfl⟩, rfl, rfl, hn, rfl, I.bare, rC, h⟩
theorem pmk_err1 (T : ErrC X.prog X.K x (some f) C fI) (S : X.mg "super" = none) (hr : Room k X.A) (rC : Raises X (.ref C)) (hm : X.mg x = some (.ref C)) (he : PE X e te) (hg : Gl X x := by rfl) (hdb : (x == ("__debug__" : Str)) = false := by decide)
    (hs : starEach [e] X.env = (false, eval e X.env) :: starEach [] X.env := by rfl) : PMk X (.Call (.Name x p) [e] [] pos) (fun σ H Q => te σ H fun v H1 => ∀ d, H1 d = none → Q (.ref C) (some d) (upd H1 d (.xd [(f, v)]))) := by
  intro pins s σ H Q I h
  refine wpAny_Call_Name_kw (ld_glob I hg hm (PySem.W.callWith_K (h₀ := X.base) I.ok.mod.kin T.kC ?_ hs (by rfl)) hdb)
  rw [hs]
  refine Calls.spliced_cons (thn (he.run pins s σ H _ I h) ?_)
  rintro u s1 ⟨v, H1, I1, ru, q1⟩
  refine Calls.spliced_nil ⟨I1.kIn, ?_⟩
  show wpAny _ _ (call (.ref C) [u]) _ _ _
  obtain ⟨nm, qn, N, bs, bm, sn, sub, ab, col, dd, k0, k1, k2, k3, k5, hC, hbm⟩ := T.cls
  obtain ⟨lim, G, mb, B, hmb⟩ := facts I1
  obtain ⟨hp, g, dr, tk, os⟩ := s1
  have X0 : X.K.In hp := I1.kIn
  have kk : ∀ b o, hp.get? b = some o → ((hp.push (PySem.W.kdv_tup [u])).push (PySem.HandSPX.excO C hp.objs.size)).get? b = some o := fun b o z => Heap.get?_push_of_some _ (Heap.get?_push_of_some _ z)
  have e1 : ((hp.push (PySem.W.kdv_tup [u])).push (PySem.HandSPX.excO C hp.objs.size)).get? (hp.objs.size + 1) = some (PySem.HandSPX.excO C hp.objs.size) := by heap_get
  have hne : X.K.lookup (hp.objs.size + 1) = none := by
    cases z : X.K.lookup (hp.objs.size + 1) with
    | none => rfl
    | some o => exact absurd (Nat.lt_of_succ_lt (Heap.lt_size (X0 _ _ z))) (Nat.lt_irrefl _)
  refine wpAny_call (PySem.HandSPX.call_own (rest := [u]) F.excBase_ValueError (fun Y => PySem.HandSPX.refsVE_contains Y bm hbm) (X0 _ _ hC) (PySem.W.looks_findIn X0 T.iC) (fun self => PySem.W.bind_fn X0 self T.tI) (one_size u) ?_)
  refine err_init1 (bn := false) (s := ⟨(hp.push (PySem.W.kdv_tup [u])).push (PySem.HandSPX.excO C hp.objs.size), g, dr, tk, os⟩) T (X0.keeps kk) (lim.keeps kk) (G.keeps kk) S (B.keeps kk) hmb e1 hne ?_ ?_
  · have := hr.dp
    show X.A.depth + 1 < recursionLimit
    omega
  · intro h' t1 tk' dx k' e' dn dne hns
    have dn' : hp.objs.size ≤ dx := by
      have z : hp.objs.size ≤ ((hp.push (PySem.W.kdv_tup [u])).push (PySem.HandSPX.excO C hp.objs.size)).objs.size := by
        rw [Heap.size_push, Heap.size_push]
        omega
      exact Nat.le_trans z dn
    have fa : H1 (hp.objs.size + 1) = none := I1.hok.fresh (Nat.le_succ _)
    have fd : H1 dx = none := I1.hok.fresh dn'
    have old : ∀ b o, hp.get? b = some o → h'.get? b = some o := fun b o z => k' b o (Nat.ne_of_lt (Nat.lt_succ_of_lt (Heap.lt_size z))) (kk b o z)
    have J := laid2 (t' := tk') I1 old (Nat.le_succ _) dn' (oa := exo (hp.objs.size + 1) C (some dx)) (ob := exd dx [(f, v)]) (exo_ok e') fun _ => exd_ok hns fun y => relO_put (fs := []) (mA := fun _ => none) ru (fun _ => True.intro) y
    have nh : ∀ {c u}, hp.get? c = some u → c ≠ hp.objs.size + 1 ∧ c ≠ dx := fun {c u} q => ⟨Nat.ne_of_lt (Nat.lt_succ_of_lt (Heap.lt_size q)), Nat.ne_of_lt (Nat.lt_of_lt_of_le (Heap.lt_size q) dn')⟩
    have ea : (upd (upd H1 dx (exd dx [(f, v)])) (hp.objs.size + 1) (exo (hp.objs.size + 1) C (some dx))) (hp.objs.size + 1) = some (exo (hp.objs.size + 1) C (some dx)) := upd_same
    have ed : (upd (upd H1 dx (exd dx [(f, v)])) (hp.objs.size + 1) (exo (hp.objs.size + 1) C (some dx))) dx = some (exd dx [(f, v)]) := by rw [upd_ne dne, upd_same]
    have un : Un (frs X.stack) [] (upd H1 (hp.objs.size + 1) (exo (hp.objs.size + 1) C none)) (upd (upd H1 dx (exd dx [(f, v)])) (hp.objs.size + 1) (exo (hp.objs.size + 1) C (some dx))) hp h' := by
      have go : ∀ {c : Addr} {o : HO}, (upd H1 (hp.objs.size + 1) (exo (hp.objs.size + 1) C none)) c = some o → o ≠ exo (hp.objs.size + 1) C none → (upd (upd H1 dx (exd dx [(f, v)])) (hp.objs.size + 1) (exo (hp.objs.size + 1) C (some dx))) c = some o := fun {c o} q ne => by
        have h1 : c ≠ hp.objs.size + 1 := fun z => by
          rw [z, upd_same] at q
          exact ne (Option.some.inj q).symm
        rw [upd_ne h1] at q
        rw [upd_ne h1, upd_ne (ne_of_none q fd)]
        exact q
      refine ⟨fun c o z _ _ _ => old c o z, fun c o z _ _ _ => ⟨o.slots, old c o z⟩, fun c o z n _ => ?_, fun c o z _ => ⟨o, old c o z⟩, fun c xs q => go q fun z => exo_tup z.symm, fun c o w q => go q fun z => exo_frz z.symm, fun c ps q => ⟨#[], by rw [go q fun z => exo_tbl z.symm]; simp⟩⟩
      rw [upd_ne (nh z).1] at n
      rw [upd_ne (nh z).1, upd_ne (nh z).2]
      exact n
    refine ⟨rfl, mk_end (d1 := dr) (t1 := tk) (os1 := os) (g1 := g) rC I1 (Nat.le_succ _) (fun _ _ z => z) un J.hok rfl I1.bare ea ed fd ?_⟩
    have eq1 : upd (del (upd (upd H1 dx (exd dx [(f, v)])) (hp.objs.size + 1) (exo (hp.objs.size + 1) C (some dx))) (hp.objs.size + 1)) dx (.xd [(f, v)]) = upd H1 dx (.xd [(f, v)]) := by
      funext b
      by_cases h1 : b = dx
      · subst h1
        rw [upd_same, upd_same]
      · rw [upd_ne h1, upd_ne h1]
        by_cases h2 : b = hp.objs.size + 1
        · subst h2
          rw [del_same, fa]
        · rw [del_ne h2, upd_ne h2, upd_ne h1]
    rw [eq1]
    exact q1 dx fd
end
end Er

set_option maxRecDepth 100000
set_option maxHeartbeats 4000000
namespace Cm
open PySem PySem.Spec PyProof.Rows L2
theorem same_upd {H : Hp} {p : Addr} {o : HO} (h : H p = none) : Same H (upd H p o) := fun b u e => by
  have : b ≠ p := fun z => by rw [z, h] at e; cases e
  rw [upd_ne this]; exact e
theorem seqT_same {K : PySem.W.Frag} {H H' : Hp} {a : Addr} {xs : List V} (e : Same H H') (h : SqT K H a xs) : SqT K H' a xs := by
  rcases h with (h | ⟨o, h⟩) | h
  · exact .inl (.inl (e _ _ h))
  · exact .inl (.inr ⟨o, e _ _ h⟩)
  · exact .inr h
mutual
theorem dp_same {K : PySem.W.Frag} {H H' : Hp} (s : Same H H') : ∀ (d : PyData) (v : V), Dp K H v d → Dp K H' v d
  | .none, _, h => by cases h; exact .non
  | .bool b, _, h => by cases h; exact .bl b
  | .int i, _, h => by cases h; exact .int i
  | .str x, _, h => by cases h; exact .str x
  | .list ds, _, h => by
    cases h with
    | lst h1 h2 => exact .lst (s.seq h1) (dpAll_same s ds _ h2)
  | .tuple ds, _, h => by
    cases h with
    | tup h1 h2 => exact .tup (seqT_same s h1) (dpAll_same s ds _ h2)
  | .dict kvs, _, h => by cases h
theorem dpAll_same {K : PySem.W.Frag} {H H' : Hp} (s : Same H H') : ∀ (ds : List PyData) (vs : List V), DpAll K H vs ds → DpAll K H' vs ds
  | [], _, h => by cases h; exact .nil
  | d :: ds, _, h => by
    cases h with
    | cons a b => exact .cons (dp_same s d _ a) (dpAll_same s ds _ b)
end
theorem dpAll_len {K : PySem.W.Frag} {H : Hp} : ∀ {vs : List V} {ds : List PyData}, DpAll K H vs ds → vs.length = ds.length
  | [], [], _ => rfl
  | _ :: _, _ :: _, h => by
    cases h with
    | cons _ b => exact congrArg (· + 1) (dpAll_len b)
theorem dpAll_get {K : PySem.W.Frag} {H : Hp} : ∀ {vs : List V} {ds : List PyData} {i : Nat} {d : PyData}, DpAll K H vs ds → ds[i]? = some d → ∃ v, vs[i]? = some v ∧ Dp K H v d
  | [], [], i, d, _, h => by simp at h
  | v :: vs, e :: ds, i, d, h, g => by
    cases h with
    | cons a b =>
      cases i with
      | zero => simp at g; subst g; exact ⟨v, rfl, a⟩
      | succ i =>
        simp at g
        obtain ⟨u, h1, h2⟩ := dpAll_get b g
        exact ⟨u, by simpa using h1, h2⟩
theorem dpAll_get' {K : PySem.W.Frag} {H : Hp} {vs : List V} {ds : List PyData} {i : Nat} {v : V} (h : DpAll K H vs ds) (g : vs[i]? = some v) : ∃ d, ds[i]? = some d ∧ Dp K H v d := by
  have hi : i < ds.length := by
    rw [← dpAll_len h]
    exact (List.getElem?_eq_some_iff.mp g).1
  obtain ⟨u, h1, h2⟩ := dpAll_get h (List.getElem?_eq_getElem hi)
  rw [g] at h1
  cases h1
  exact ⟨_, List.getElem?_eq_getElem hi, h2⟩
theorem dpAll_app {K : PySem.W.Frag} {H : Hp} : ∀ {vs us : List V} {ds es : List PyData}, DpAll K H vs ds → DpAll K H us es → DpAll K H (vs ++ us) (ds ++ es)
  | [], us, [], es, _, h => h
  | v :: vs, us, d :: ds, es, h, g => by
    cases h with
    | cons a b => exact .cons a (dpAll_app b g)
end Cm

set_option maxRecDepth 100000
set_option maxHeartbeats 2000000
namespace Dr
open PySem L2 PyProof.Rows
def top (i : Nat) : Stmt := PySem.Challenge.pw_shutbyrings_k03_parts_variables_put.main.body.getD i (.Pass ⟨0, 0, 0, 0⟩)
abbrev sFeed : Stmt := top 13
abbrev sTake : Stmt := top 14
abbrev sPick : Stmt := top 15
structure DTxt (mg : Str → Option Value) : Prop where
  len : mg "len" = none
  max : mg "max" = none
  abs : mg "abs" = none
  int : mg "int" = none
def feedO (x y : Int) : HO := .lst [.int x, .int y]
def spFeed (K : PySem.W.Frag) : Sp := fun vs H Q _ => ∃ (a : Addr) (ns : List Int) (k : Nat), vs = [.ref a, .int (k : Int)] ∧ SqL K H a (ns.map V.int) ∧ k < 1000 ∧
  ∀ (p : Addr) (x y : Int), H p = none → Q (.ref p) (upd H p (feedO x y))
def spTake : Sp := fun vs H Q _ => ∃ (p : Addr) (x y m : Int), vs = [.ref p, .int m] ∧ H p = some (feedO x y) ∧ 0 < m ∧ m < 1000000 ∧
  ∀ (r x' y' : Int), 0 ≤ r → r < m → Q (.int r) (upd H p (feedO x' y'))
section
variable {P : Program} {w : World} {K : PySem.W.Frag} {mg : Str → Option Value} {base : Heap}
theorem scF : FnScope ["script", "k", "cell", "digits", "state"] ["script", "k"] (defScope sFeed) := ⟨rfl, rfl, rfl, by decide +kernel, rfl, by decide +kernel, by decide +kernel⟩
theorem ok_feed {f : Addr} {fd : FuncData} (F : Fun K "_law_feed" "_law_feed" sFeed f fd) (T : DTxt mg) : FnOk P w K mg base CX0 1 f fd ["script", "k"] (spFeed K) := by
  refine F.ok scF (fun vs H Q E h => ?_) (fun cdv A outer s H vs Q E hr h => ?_)
  · obtain ⟨a, ns, k, rfl, _⟩ := h
    rfl
  · obtain ⟨a, ns, k, rfl, hs, hk, q⟩ := h
    refine ⟨_, pss_cons (ps_set (i := 2) scF.nd rfl (Or.inl rfl) (pe_ifExp (pt_cmpR op_lt (pv 1) (pe_callB call_len (by rfl) T.len PySem.boot_len (pa_cons (pv 0) pa_nil)) (nomark _)) (pe_ix ix_list (pv 0) (pv 1) fun _ _ => rfl) (pe_op op_add (pe_op op_mul pe_int (pv 1)) pe_int)))
      (pss_cons (ps_set (i := 3) scF.nd rfl (Or.inl rfl) (pe_callB (call_max2 rfl) (by rfl) T.max boot_max (pa_cons pe_int (pa_cons (pe_op op_sub (pe_callB call_abs (by rfl) T.abs boot_abs (pa_cons (pv 2) pa_nil)) (pe_op op_pow pe_int pe_int)) pa_nil))))
      (pss_cons (ps_set (i := 4) scF.nd rfl (Or.inl rfl) (pe_op op_mod (pe_callTy call_int1 (by rfl) T.int (by decide +kernel) (pa_cons (pe_op op_add (pe_op op_add (pe_op op_mul (pv 2) pe_int) (pe_op op_mul pe_int (pv 1))) pe_int) pa_nil)) pe_int))
      (pss_one (ps_ret (pe_lst (pa_cons (pv 3) (pa_cons (pv 4) pa_nil))))))), ?_⟩
    refine ⟨_, rfl, _, rfl, _, _, rfl, .inl ⟨_, hs, rfl⟩, _, _, rfl, rfl, _, rfl, ?_⟩
    have he : (10 : Int) ^ (18 : Int).toNat = 1000000000000000000 := by decide
    have h7 : CMul 7919 (k : Int) := .inl ⟨by decide, by decide⟩
    have hC : ∀ c : Int, CMul c 6364136223846793005 := fun c => .inr ⟨by decide, by decide⟩
    have hP : CPow 10 18 := ⟨by decide, by decide, by decide⟩
    refine ite2 (fun h1 => ?_) (fun h1 => ?_)
    · have hkl : k < (ns.map V.int).length := by
        have := of_decide_eq_true h1
        omega
      obtain ⟨c, hc⟩ : ∃ c : Int, (ns.map V.int)[k]? = some (V.int c) := by
        rw [List.length_map] at hkl
        exact ⟨ns[k], by rw [List.getElem?_map, List.getElem?_eq_getElem hkl]; rfl⟩
      refine ⟨_, rfl, _, rfl, _, _, _, _, rfl, rfl, hs, atI_nat hc, ?_⟩
      refine ⟨_, rfl, _, rfl, _, _, rfl, rfl, hP, _, _, rfl, rfl, _, _, rfl, ?_⟩
      refine ⟨_, rfl, _, _, rfl, rfl, hC _, _, rfl, _, _, rfl, rfl, h7, _, _, rfl, rfl, _, _, rfl, rfl, .inl ⟨_, rfl, _, _, rfl, rfl, (by show (0 : Int) < 2305843009213693951; decide), ?_⟩⟩
      exact ⟨_, rfl, _, rfl, (by show 2 ≤ sizeLine; decide), fun p hp => q p _ _ hp⟩
    · refine ⟨_, rfl, _, _, rfl, rfl, .inl ⟨by decide, by decide⟩, _, _, rfl, rfl, ?_⟩
      refine ⟨_, rfl, _, rfl, _, _, rfl, rfl, hP, _, _, rfl, rfl, _, _, rfl, ?_⟩
      refine ⟨_, rfl, _, _, rfl, rfl, hC _, _, rfl, _, _, rfl, rfl, h7, _, _, rfl, rfl, _, _, rfl, rfl, .inl ⟨_, rfl, _, _, rfl, rfl, (by show (0 : Int) < 2305843009213693951; decide), ?_⟩⟩
      exact ⟨_, rfl, _, rfl, (by show 2 ≤ sizeLine; decide), fun p hp => q p _ _ hp⟩
theorem scT : FnScope ["feed", "many", "digit"] ["feed", "many"] (defScope sTake) := ⟨rfl, rfl, rfl, by decide +kernel, rfl, by decide +kernel, by decide +kernel⟩
theorem feed0 {H : Hp} {p : Addr} {x y : Int} (h : H p = some (feedO x y)) : SqL K H p [.int x, .int y] := SqL.of h
theorem at0 {x y : Int} : atI [V.int x, V.int y] 0 = some (.int x) := rfl
theorem at1 {x y : Int} : atI [V.int x, V.int y] 1 = some (.int y) := rfl
theorem upd2 {H : Hp} {p : Addr} {o u : HO} : upd (upd H p o) p u = upd H p u := by
  funext b
  by_cases h : b = p
  · subst h
    rw [upd_same, upd_same]
  · rw [upd_ne h, upd_ne h, upd_ne h]
theorem ok_take {f : Addr} {fd : FuncData} (F : Fun K "_law_take" "_law_take" sTake f fd) (T : DTxt mg) : FnOk P w K mg base CX0 1 f fd ["feed", "many"] spTake := by
  refine F.ok scT (fun vs H Q E h => ?_) (fun cdv A outer s H vs Q E hr h => ?_)
  · obtain ⟨p, x, y, m, rfl, _⟩ := h
    rfl
  · obtain ⟨p, x, y, m, rfl, hp, hm0, hm1, q⟩ := h
    refine ⟨_, pss_cons (ps_if (pt_cmpR op_gt (pe_ix ix_list (pv 0) pe_int fun _ _ => rfl) pe_int (nomark _))
        (pss_cons (ps_set (i := 2) scT.nd rfl (Or.inl rfl) (pe_op op_mod (pe_callTy call_int1 (by rfl) T.int (by decide +kernel) (pa_cons (pe_ix ix_list (pv 0) pe_int fun _ _ => rfl) pa_nil)) (pv 1)))
        (pss_cons (ps_asg (pe_op op_fdiv (pe_ix ix_list (pv 0) pe_int fun _ _ => rfl) (pv 1)) (pg_sub (pv 0) pe_int set_list))
        (pss_one (ps_ret (pv 2))))) pss_nil)
      (pss_cons (ps_asg (pe_op op_mod (pe_callTy call_int1 (by rfl) T.int (by decide +kernel) (pa_cons (pe_op op_add (pe_op op_mul (pe_ix ix_list (pv 0) pe_int fun _ _ => rfl) pe_int) pe_int) pa_nil)) pe_int) (pg_sub (pv 0) pe_int set_list))
      (pss_one (ps_ret (pe_op op_mod (pe_callTy call_int1 (by rfl) T.int (by decide +kernel) (pa_cons (pe_op op_fdiv (pe_ix ix_list (pv 0) pe_int fun _ _ => rfl) pe_int) pa_nil)) (pv 1))))), ?_⟩
    have hS := feed0 (K := K) hp
    refine ⟨_, rfl, _, _, _, _, rfl, rfl, hS, at0, _, _, rfl, rfl, _, rfl, ?_⟩
    refine ite2 (fun h1 => ?_) (fun h1 => ?_)
    · refine ⟨_, rfl, _, _, _, _, rfl, rfl, hS, at0, .inl ⟨_, rfl, _, rfl, _, _, rfl, rfl, hm0, ?_⟩⟩
      refine ⟨_, rfl, _, _, _, _, rfl, rfl, hS, at0, _, rfl, _, _, rfl, rfl, ⟨hm0, by omega⟩, ?_⟩
      refine ⟨_, rfl, _, _, _, 0, rfl, rfl, hp, rfl, _, rfl, ?_⟩
      exact q _ _ _ (Int.emod_nonneg _ (by omega)) (Int.emod_lt_of_pos _ hm0)
    · refine ⟨_, rfl, _, _, _, _, rfl, rfl, hS, at1, _, _, rfl, rfl, .inr ⟨by decide, by decide⟩, _, _, rfl, rfl, .inl ⟨_, rfl, _, _, rfl, rfl, (by show (0 : Int) < 2305843009213693951; decide), ?_⟩⟩
      refine ⟨_, rfl, _, _, _, 1, rfl, rfl, hp, rfl, ?_⟩
      refine ⟨_, rfl, _, _, _, _, rfl, rfl, SqL.of upd_same, at1, _, _, rfl, rfl, ⟨by decide, by decide⟩, .inl ⟨_, rfl, _, rfl, _, _, rfl, rfl, hm0, ?_⟩⟩
      exact q _ _ _ (Int.emod_nonneg _ (by omega)) (Int.emod_lt_of_pos _ hm0)
def spPick (K : PySem.W.Frag) : Sp := fun vs H Q _ => ∃ (p : Addr) (x y : Int), H p = some (feedO x y) ∧
  ((∃ (l : Addr) (xs : List V), vs = [.ref p, .ref l] ∧ SqL K (L2.del H p) l xs ∧ 0 < xs.length ∧ xs.length < 1000000 ∧
      ∀ (v : V) (x' y' : Int), v ∈ xs → Q v (upd H p (feedO x' y'))) ∨
   (∃ (z : Str), vs = [.ref p, .str z] ∧ 0 < z.length ∧ z.length < 1000000 ∧
      ∀ (c : Nat) (x' y' : Int), c ∈ z.cps.toList → Q (.str ⟨#[c]⟩) (upd H p (feedO x' y'))))
theorem atI_in {α : Type} {xs : List α} {r : Int} (h0 : 0 ≤ r) (h1 : r < (xs.length : Int)) : ∃ v, atI xs r = some v ∧ v ∈ xs := by
  have h2 : r.toNat < xs.length := by omega
  refine ⟨xs[r.toNat], ?_, List.getElem_mem h2⟩
  unfold atI ixN
  rw [if_pos h0, if_pos h1]
  exact List.getElem?_eq_getElem h2
theorem scK : FnScope ["feed", "some"] ["feed", "some"] (defScope sPick) := ⟨rfl, rfl, rfl, by decide +kernel, rfl, by decide +kernel, by decide +kernel⟩
theorem seq_upd {H : Hp} {l p : Addr} {xs : List V} {o : HO} (h : SqL K H l xs) (n : l ≠ p) : SqL K (upd H p o) l xs := by
  rcases h with (h | ⟨u, h⟩) | h
  · exact .inl (.inl (by rw [upd_ne n]; exact h))
  · exact .inl (.inr ⟨u, by rw [upd_ne n]; exact h⟩)
  · exact .inr h
theorem seq_of_del {H : Hp} {l p : Addr} {xs : List V} {o : HO} (h : SqL K (L2.del H p) l xs) : SqL K (L2.upd H p o) l xs := by
  have key : ∀ {u : HO}, L2.del H p l = some u → L2.upd H p o l = some u := fun {u} e => by
    have n : l ≠ p := fun z => by rw [z] at e; unfold L2.del at e; simp at e
    rw [upd_ne n]
    unfold L2.del at e
    rwa [if_neg n] at e
  rcases h with (h | ⟨u, h⟩) | h
  · exact .inl (.inl (key h))
  · exact .inl (.inr ⟨u, key h⟩)
  · exact .inr h
theorem seq_del_sub {H : Hp} {l p : Addr} {xs : List V} (h : SqL K (L2.del H p) l xs) : SqL K H l xs := by
  have key : ∀ {u : HO}, L2.del H p l = some u → H l = some u := fun {u} e => by
    have n : l ≠ p := fun z => by rw [z] at e; unfold L2.del at e; simp at e
    unfold L2.del at e
    rwa [if_neg n] at e
  rcases h with (h | ⟨u, h⟩) | h
  · exact .inl (.inl (key h))
  · exact .inl (.inr ⟨u, key h⟩)
  · exact .inr h
theorem ok_pick {f fT : Addr} {fd fdT : FuncData} (F : Fun K "_law_pick" "_law_pick" sPick f fd) (T : DTxt mg) (FT : Fun K "_law_take" "_law_take" sTake fT fdT) (bT : Binds K fdT ["feed", "many"] []) (gT : mg "_law_take" = some (.ref fT)) :
    FnOk P w K mg base CX0 2 f fd ["feed", "some"] (spPick K) := by
  have GT : FnOk P w K mg base CX0 1 fT fdT ["feed", "many"] spTake := ok_take FT T
  refine F.ok scK (fun vs H Q E h => ?_) (fun cdv A outer s H vs Q E hr h => ?_)
  · obtain ⟨p, x, y, _, ⟨l, xs, rfl, _⟩ | ⟨z, rfl, _⟩⟩ := h <;> rfl
  · refine ⟨_, pss_one (ps_ret (pe_ix ix_seq (pv 1) (pe_call GT hr (by rfl) gT FT.kp bT .nil pass0 (pa_cons (pv 0) (pa_cons (pe_callB call_len (by rfl) T.len PySem.boot_len (pa_cons (pv 1) pa_nil)) pa_nil))) fun _ _ => rfl)), ?_⟩
    obtain ⟨p, x, y, hp, ⟨l, xs, rfl, hl, h0, h1, q⟩ | ⟨z, rfl, h0, h1, q⟩⟩ := h
    · refine ⟨_, rfl, _, rfl, _, rfl, _, _, rfl, .inl ⟨_, seq_del_sub hl, rfl⟩, ?_⟩
      refine ⟨p, x, y, _, rfl, hp, by omega, by omega, fun r x' y' hr0 hr1 => ?_⟩
      have e : r = ((r.toNat : Nat) : Int) := by omega
      have hlt : r.toNat < xs.length := by omega
      refine .inl ⟨_, _, _, _, rfl, rfl, seq_of_del hl, (by rw [e]; exact atI_nat (List.getElem?_eq_getElem hlt)), ?_⟩
      exact q _ _ _ (List.getElem_mem hlt)
    · refine ⟨_, rfl, _, rfl, _, rfl, _, z.length, rfl, ⟨Nat.le_trans (Nat.le_of_lt h1) (by decide), rfl⟩, ?_⟩
      refine ⟨p, x, y, _, rfl, hp, by omega, by omega, fun r x' y' hr0 hr1 => ?_⟩
      have el : z.length = z.cps.toList.length := by simp [Str.length]
      obtain ⟨c, hc, hm⟩ := atI_in (xs := z.cps.toList) hr0 (by omega)
      exact .inr (.inr ⟨_, _, _, rfl, rfl, Nat.le_trans (Nat.le_of_lt h1) (by decide), hc, q _ _ _ hm⟩)
end
end Dr

set_option maxRecDepth 100000
set_option maxHeartbeats 4000000
/-! del xs[a:] -/
namespace LD
open PySem PySem.Spec PyProof.Rows L2
def selO (start stop step : Int) (i : Nat) : Bool :=
  if step > 0 then start ≤ i && i < stop && (i - start) % step == 0 else stop < i && i ≤ start && (start - i) % (-step) == 0
def cutO (a n : Nat) (xs : Array Value) : Array Value := (xs.toList.zipIdx.filterMap fun (x, k) => if selO (a : Int) (n : Int) 1 k then none else some x).toArray
theorem sel_one (a n i : Nat) : selO (a : Int) (n : Int) 1 i = (decide (a ≤ i) && decide (i < n)) := by
  unfold selO
  rw [if_pos (by decide)]
  have : (((i : Int) - a) % 1 == 0) = true := by rw [Int.emod_one]; rfl
  rw [this, Bool.and_true]
  by_cases h1 : a ≤ i <;> by_cases h2 : i < n <;> simp [h1, h2]
theorem fm_cut (a n : Nat) : ∀ (l : List Value) (k : Nat), k + l.length = n → ((l.zipIdx k).filterMap fun (x, j) => if selO (a : Int) (n : Int) 1 j then none else some x) = l.take (a - k)
  | [], k, _ => by simp
  | x :: l, k, h => by
    rw [List.length_cons] at h
    rw [List.zipIdx_cons, List.filterMap_cons, fm_cut a n l (k + 1) (by omega)]
    simp only [sel_one]
    by_cases h1 : a ≤ k
    · have h2 : k < n := by omega
      have h3 : a - k = 0 := by omega
      have h4 : a - (k + 1) = 0 := by omega
      simp [h1, h2, h3, h4]
    · have h3 : a - k = (a - (k + 1)) + 1 := by omega
      simp [h1, h3]
theorem cutO_eq (its : List Value) {a : Nat} : cutO a its.length its.toArray = (its.take a).toArray := by
  unfold cutO
  rw [show its.toArray.toList = its by simp, fm_cut a its.length its 0 (by omega), Nat.sub_zero]
section
variable {prog : Program} {w : World} {A : Around} {E : Value → Shared → Prop} {s : Shared}
theorem bounds_tail {a n : Nat} (ha : a ≤ n) : sliceBounds (some (a : Int)) none none n = ((a : Int), (n : Int), 1) := by
  simp only [sliceBounds, Option.getD_none]
  have h1 : ¬ ((a : Int) < 0) := by omega
  simp only [h1, if_false, show (1 : Int) > 0 by decide, if_true]
  congr 1
  omega
theorem delItem_tail {l sl : Addr} {items : Array Value} {n : Nat} {vl : Value} {a : Nat} {Q : Unit → Shared → Prop} (e : s.heap.get? l = some { cls := .type "list", data := .seq items n }) (hs : s.heap.IsSliceOf sl vl .none .none)
    (pl : IsPart vl (some (a : Int))) (ha : a ≤ items.size) (hsz : items.size ≤ sizeLine) (h2 : (cutO a items.size items).size ≤ sizeLine + 1) (h : Q () { s with heap := s.heap.update l (Obj.mapSeq (cutO a items.size)) }) : wpAny (model prog w) A (delItem (.ref l) (.ref sl)) Q E s := by
  have hl : s.heap.IsList l items := PySem.IsL.isList e
  obtain ⟨os, hos, hcs, hds⟩ := id hs
  have hTs : s.TypeIs (.ref sl) "slice" := ⟨os, hos, hcs⟩
  have nz : ¬ ((rawPart none == rawInt 0) = true) := Bool.false_ne_true
  unfold delItem
  refine wpAny_holding ?_
  refine wpAny_bind (wpAny_sequenceKey hl.typeIs (by decide) ?_)
  refine wpAny_bind (wpAny_callSpecial?_slot (name := Str.ofString "__delitem__") hl.typeIs PySem.F.slot_list_delitem (wpAny_call_entry PySem.F.slot_list_delitem hl.typeIs PySem.F.entry_list_delitem ?_ (PySem.F.args_list_delitem_2 _ _)))
  show wpAny _ _ (Builtin.List.listSubscript? (.ref sl) >>= _) _ _ s
  refine wpAny_bind ?_
  unfold Builtin.List.listSubscript?
  refine wpAny_bind (wpAny_specialOf hTs slice_no_index ?_)
  simp only [Option.isNone_none, if_true]
  refine wpAny_pure ?_
  show wpAny _ _ (typeOf (.ref sl) >>= _) _ _ s
  refine wpAny_bind (wpAny_typeOf hTs ?_)
  refine PySem.W.KFB.if_not (by decide) ?_
  rw [listSliceParts_eq]
  refine wpAny_bind (wpAny_bind (wpAny_field hos hds (x := .none) rfl (wpAny_bind (wpAny_listPart .none ?_))))
  rw [if_neg nz]
  refine wpAny_bind (wpAny_field hos hds (x := vl) rfl (wpAny_bind (wpAny_listPart pl ?_)))
  refine wpAny_bind (wpAny_field hos hds (x := .none) rfl (wpAny_bind (wpAny_listPart .none (wpAny_pure ?_))))
  refine wpAny_bind (m := Builtin.List.listItems (.ref l)) ?_
  unfold Builtin.List.listItems
  refine wpAny_bind (wpAny_seqItems e rfl (wpAny_pure ?_))
  refine wpAny_bind (wpAny_of_eq ((sliceIndices_raw (some (a : Int)) none none items.size (by simp)).trans (congrArg (pure : Int × Int × Int → Sem (Int × Int × Int)) (bounds_tail ha))) ?_)
  refine wpAny_bind (wpAny_rule ?_)
  show wpAny _ _ (updateSeq l (cutO a items.size) >>= _) _ _ s
  refine wpAny_bind (wpAny_updateSeq (hz := hsz) (_hz' := h2) e rfl ?_)
  refine wpAny_bind (wpAny_letGo ?_)
  exact wpAny_pure ⟨.none, rfl, wpAny_pure h⟩
end
section
variable {X : Cx}
/-- del xs[a:] of a list -/
def tDelT (to : TE) (tl : TO) : TS := fun D σ H => to σ H fun x H1 => tl σ H1 fun lo H2 => ∃ (l : Addr) (xs : List V) (a : Nat), x = .ref l ∧ lo = some (a : Int) ∧ H2 l = some (.lst xs) ∧ a ≤ xs.length ∧ D.nx σ (upd H2 l (.lst (xs.take a)))
theorem ps_delT {o : Expr} {lo : Option Expr} {to : TE} {tl : TO} {p2 tpos pos : Pos} (ho : PE X o to) (hl : PO X lo tl) : PS X (.Delete [.Subscript o (.Slice lo none none p2) tpos] pos) (tDelT to tl) := by
  refine ⟨fun pins s σ H D I h => ?_⟩
  refine wpAny_Delete (wpAny_deleteEach_cons (wpAny_delete_Subscript (thn (ho.run pins s σ H _ I h) fun u s1 ⟨x, H1, I1, rx, q1⟩ => ?_)))
  refine wpAny_Slice (thn (hl.run pins s1 σ H1 _ I1 q1) fun vl s2 ⟨l, H2, I2, pl, q2⟩ => ?_)
  obtain ⟨a, xs, k, ex, el, hH, hk, q⟩ := q2
  subst ex el
  cases (show u = Value.ref a from rx)
  refine wpAny_pure (wpAny_pure ?_)
  have I3 : Inv X pins σ H2 { s2 with heap := s2.heap.push { cls := .type "slice", data := .fields #[vl, .none, .none] } } := I2.kept (t' := s2.toks) fun b ob q => Heap.get?_push_of_some _ q
  obtain ⟨z, its, n, r, hlen, e⟩ := I3.lstM hH
  have h1 : its.toArray.size = its.length := List.size_toArray ..
  refine delItem_tail (a := k) e (Heap.IsSliceOf.new ..) pl (by omega) (by omega) ?_ ?_
  · rw [h1, cutO_eq, List.size_toArray, List.length_take]
    omega
  · refine wpAny_deleteEach_nil ⟨σ, _, I3.lset (its' := its.take k) (t' := s2.toks) hH e ?_ (r.take k) ?_, q⟩
    · rw [h1, cutO_eq]
    · rw [List.length_take]
      omega
end
end LD

set_option maxRecDepth 100000
set_option maxHeartbeats 4000000
/-! a bound method as a value, and called through a local -/
namespace CM
open PySem PySem.Spec PyProof.Rows L2
def tMet (C : Addr) (m : Str) (g : Addr) (to : TE) : TE := fun σ H Q => to σ H fun x H1 => ∃ a dx fs, x = .ref a ∧ H1 a = some (.ins C dx fs) ∧ fs.lookup m = none ∧ ∀ q, H1 q = none → Q (.ref q) (upd H1 q (.met g a))
def tCallM (i : Nat) (g : Addr) (sp : Sp) (E : XK) (t : TA) : TE := fun σ H Q => ∃ q a, σ[i]? = some (some (.ref q)) ∧ H q = some (.met g a) ∧ t σ H fun vs H1 => H1 q = some (.met g a) ∧ sp (.ref a :: vs) H1 Q E
section
variable {X : Cx} {CX : CXT} {k i : Nat} {C g : Addr} {m x : Str} {sp : Sp} {E : XK} {o e : Expr} {es : List Expr} {to : TE} {t : TA} {p pos : Pos}
theorem pe_met (he : PE X o to) (c : Cls X.K C) (b : BMeth X.K C m g) (hab : attributeBase o m X.env (eval o X.env) = eval o X.env := by rfl) : PE X (.Attribute o m pos) (tMet C m g to) := by
  refine ⟨fun pins s σ H Q I h => ?_⟩
  refine attr_of hab (thn (he.run pins s σ H _ I h) fun u s1 ⟨x, H1, I1, rx, a, dx, fs, ex, ea, l, q⟩ => ?_)
  subst ex
  exact op_getbound I1 ea c b l rx q
theorem pe_callM (F : FnR X.prog X.w X.K X.mg X.base CX k g sp) (hr : Room k X.A) (hf : PySem.W.fnIn X.K g = true) (hN : X.N[i]? = some x) (hv : Vis X.env.scope x) (hx : Passes CX X E) (ha : PA X (e :: es) t)
    (hdb : (x == ("__debug__" : Str)) = false := by decide) (hcd : (x == ("__classdict__" : Str)) = false := by decide)
    (he : starEach (e :: es) X.env = (false, eval e X.env) :: starEach es X.env := by rfl) (hpl : (backTo pos (starEach es X.env)).any (·.1) = false := by rfl) : PE X (.Call (.Name x p) (e :: es) [] pos) (tCallM i g sp E t) := by
  refine ⟨fun pins s σ H Q I h => ?_⟩
  obtain ⟨q, a, hs, hq, ht⟩ := h
  refine wpAny_Call_Name_kw (thn ((pe_var (pos := p) hN hv hdb hcd).run pins s σ H (fun v H1 => v = .ref q ∧ H1 = H) I ⟨.ref q, hs, rfl, rfl⟩) fun u s1 ⟨v, H1, I1, r1, q1⟩ => ?_)
  obtain ⟨rfl, rfl⟩ := q1
  cases r1
  have hz := ha.run pos pins s1 σ _ _ I1 ht
  rw [he] at hz ⊢
  refine PySem.W.callWith_of (P := PySem.W.MethP X.K q g (.ref a)) (by show ((false || (backTo pos (starEach es X.env)).any (·.1)) || false) = false; rw [hpl]; rfl) (PySem.W.keeps_M hf) (Calls.evalArgs_plain (thn hz fun us s2 ⟨vs, H2, I2, r, hm, q2⟩ => ?_))
  exact ⟨met_P I2 hm, wpAny_call (PySem.W.method_call (met_P I2 hm).1 (run_fnR (us := Value.ref a :: us) (vs := V.ref a :: vs) F hr hx I2 (.cons rfl r) q2))⟩
end
end CM

set_option maxRecDepth 100000
set_option maxHeartbeats 4000000
/-! xs.extend(t), t a tuple -/
namespace XT
open PySem PySem.Spec PyProof.Rows L2
theorem extendW (l : Addr) (items : Array Value) (n : Nat) (b : Addr) (items2 : Array Value) (n2 : Nat) (dd : Option Addr) (sl : Array (Option Value)) (h0 : ¬(!items.isEmpty && Builtin.List.listTooLong (items.size + items2.size)) = true) (h1 : items.size ≤ sizeLine) (h2 : items.size + items2.size ≤ sizeLine + 1) :
    Meets (Builtin.«list.extend» ⟨[.ref l, .ref b], []⟩) (fun _ R s => s.heap.get? l = some { cls := .type "list", dict := none, data := .seq items n, slots := #[] } ∧ s.heap.get? b = some { cls := .type "tuple", dict := dd, data := .seq items2 n2, slots := sl } ∧
      R (.ok (.ret Value.none)) { s with heap := s.heap.update l (Obj.mapSeq fun x => x ++ items2), toks := s.toks }) :=
  .of_wp fun prog w A R s h => by
    obtain ⟨hp, g, d, tk, os⟩ := s
    obtain ⟨hl, hb, h⟩ := h
    have f2 := AutoSeq1.sub_tuple_tuple
    have f3 := AutoSeq1.sub_list_list
    have f4 := AutoSeq1.sub_tuple_list
    have f5 := AutoSeq1.sub_list_tuple
    have hz' : (items ++ items2).size ≤ sizeLine + 1 := by rw [Array.size_append]; exact h2
    wp_walk using (wpAny_updateSeq hl rfl (hz := h1) (_hz' := hz')), wpAny_loadPart' hl, wpAny_loadPart' hb
    exact ⟨_, rfl, h⟩
def rExtT (K : PySem.W.Frag) : V → List V → Hp → VK → Prop := fun x vs H Q => ∃ l b xs zs, x = .ref l ∧ vs = [.ref b] ∧ H l = some (.lst xs) ∧ SqT K H b zs ∧ xs.length + zs.length ≤ sizeLine ∧ Q .non (upd H l (.lst (xs ++ zs)))
theorem mt_extendT {X : Cx} : MtM X "list.extend" (rExtT X.K) := by
  intro pins s σ H x vs v us Q I rx rv h
  obtain ⟨l, b, xs, zs, rfl, rfl, hH, hB, hz, q⟩ := h
  cases rx
  obtain ⟨u, rfl, ru⟩ := rv.one
  cases ru
  obtain ⟨z, its, n, r, hl, e⟩ := I.lstM hH
  obtain ⟨its2, r2, ⟨⟨cls, dd, data, sl⟩, ho, hc, n2, hd⟩, hs⟩ := I.tuple hB
  simp only at hc hd
  subst hc hd
  have l2 : its2.length = zs.length := r2.length.symm
  have hsz : its.toArray.size + its2.toArray.size ≤ sizeLine := by rw [List.size_toArray, List.size_toArray]; omega
  have hlong : ¬ (!its.toArray.isEmpty && Builtin.List.listTooLong (its.toArray.size + its2.toArray.size)) = true := by
    rw [notLongL hsz, Bool.and_false]
    exact Bool.false_ne_true
  refine call_meets PySem.F.slot_list_extend ⟨_, e, rfl⟩ PySem.F.entry_list_extend (PySem.F.args_list_extend_2 _ _) (extendW l its.toArray n b its2.toArray n2 dd sl hlong (by rw [List.size_toArray]; omega) (by omega)) ⟨e, ho, ?_⟩
  refine ⟨.non, _, I.lset (its' := its ++ its2) hH e (by simp) (r.append r2) ?_, rfl, q⟩
  rw [List.length_append]
  omega
end XT

set_option maxRecDepth 100000
set_option maxHeartbeats 4000000
/-! t[::-1], t a tuple -/
namespace RT
open PySem PySem.Spec PyProof.Rows L2 HT
theorem revAdj (n : Nat) : Builtin.Slice.sliceAdjust none none (-1) (n : Int) = ((n : Int) - 1, -1) := by
  unfold Builtin.Slice.sliceAdjust
  simp
theorem revPlaces (n : Nat) : Builtin.Slice.slicePlaces ((n : Int) - 1) (-1) (-1) = n := by
  unfold Builtin.Slice.slicePlaces
  have h1 : ¬ (-1 : Int) > 0 := by decide
  simp only [h1, if_false]
  rw [show (- -1 : Int) = 1 from rfl, Int.ediv_one]
  split <;> omega
theorem fmCongr {α β : Type} {f g : α → Option β} : ∀ (l : List α), (∀ x ∈ l, f x = g x) → l.filterMap f = l.filterMap g
  | [], _ => rfl
  | x :: l, h => by
    rw [List.filterMap_cons, List.filterMap_cons, h x List.mem_cons_self, fmCongr l fun y hy => h y (List.mem_cons_of_mem _ hy)]
theorem revPick (xs : Array Value) : ((List.range xs.size).filterMap fun (k : Nat) => xs[(((xs.size : Int) - 1) + (k : Int) * (-1)).toNat]?).toArray = xs.toList.reverse.toArray := by
  have e : ((List.range xs.size).filterMap fun (k : Nat) => xs[(((xs.size : Int) - 1) + (k : Int) * (-1)).toNat]?) = ((List.range xs.size).map fun k => xs.size - 1 - k).filterMap (xs[·]?) := by
    rw [List.filterMap_map]
    refine fmCongr _ fun k hk => ?_
    have := List.mem_range.mp hk
    show xs[(((xs.size : Int) - 1) + (k : Int) * (-1)).toNat]? = xs[xs.size - 1 - k]?
    have e : (((xs.size : Int) - 1) + (k : Int) * (-1)).toNat = xs.size - 1 - k := by omega
    rw [e]
  rw [e, PySem.W.krv_range, List.filterMap_reverse, PySem.W.krv_all]
section
variable {prog : Program} {w : World} {A : Around} {E : Value → Shared → Prop} {s : Shared}
theorem sliceRev {sl : Addr} {vl vu vs : Value} {n : Nat} {Q : Int × Int × Nat → Shared → Prop} (hs : s.heap.IsSliceOf sl vl vu vs) (pl : IsPart vl none) (pu : IsPart vu none) (ps : IsPart vs (some (-1)))
    (h : Q ((n : Int) - 1, -1, n) s) : wpAny (model prog w) A (Builtin.Slice.sliceApplied (.ref sl) (pure (n : Int))) Q E s := by
  obtain ⟨os, hos, hcs, hds⟩ := id hs
  unfold Builtin.Slice.sliceApplied Builtin.Slice.sliceFields
  refine wpAny_bind (wpAny_bind (wpAny_field hos hds (x := vl) rfl (wpAny_bind (wpAny_field hos hds (x := vu) rfl (wpAny_bind (wpAny_field hos hds (x := vs) rfl (wpAny_pure ?_)))))))
  refine wpAny_bind (slicePart_ ps ?_)
  show wpAny _ _ (if ((-1 : Int) == 0) = true then _ else _) _ _ s
  rw [if_neg (by decide)]
  refine wpAny_bind (slicePart_ pl (wpAny_bind (slicePart_ pu (wpAny_bind (wpAny_pure ?_)))))
  show wpAny _ _ (match Builtin.Slice.sliceAdjust none none (-1) (n : Int) with | (lo, hi) => pure (lo, (-1 : Int), Builtin.Slice.slicePlaces lo hi (-1))) _ _ s
  rw [revAdj]
  show wpAny _ _ (pure ((n : Int) - 1, (-1 : Int), Builtin.Slice.slicePlaces ((n : Int) - 1) (-1) (-1))) _ _ s
  rw [revPlaces]
  exact wpAny_pure h

theorem getItem_tuple_rev {t sl : Addr} {items : Array Value} {vl vu vs : Value} {Q : Value → Shared → Prop} (ht : IsTup s.heap t items) (hs : s.heap.IsSliceOf sl vl vu vs) (pl : IsPart vl none) (pu : IsPart vu none) (ps : IsPart vs (some (-1)))
    (h : Q (.ref s.heap.objs.size) { s with heap := s.heap.push { cls := .type "tuple", data := .seq items.toList.reverse.toArray } })
    (hsz : items.size ≤ sizeLine) : wpAny (model prog w) A (getItem (.ref t) (.ref sl)) Q E s := by
  have htake : sizeOk (.seq items.toList.reverse.toArray) := by
    show items.toList.reverse.toArray.size ≤ sizeLine
    rw [List.size_toArray, List.length_reverse, Array.length_toList]
    exact hsz
  obtain ⟨os, hos, hcs, hds⟩ := id hs
  have hTs : s.TypeIs (.ref sl) "slice" := ⟨os, hos, hcs⟩
  unfold getItem
  try with_reducible refine wpAny_holding ?_
  first | refine wpAny_bind (wpAny_pure ?_) | skip
  refine wpAny_bind (wpAny_sequenceKey ht.typeIs (by decide) ?_)
  refine wpAny_bind (wpAny_callSpecial?_slot (name := Str.ofString "__getitem__") ht.typeIs PyProof.Rows.slot_tuple_getitem
    (wpAny_call_entry PyProof.Rows.slot_tuple_getitem ht.typeIs entry_tuple_getitem ?_ (args_tuple_getitem _ _)))
  show wpAny _ _ (Builtin.Tuple.tupleItemsOf (.ref t) >>= _) _ _ s
  refine wpAny_bind (tupleItemsOf_ ht ?_)
  refine wpAny_bind (wpAny_typeOf hTs ?_)
  rw [if_pos (by decide)]
  refine wpAny_bind (sliceRev hs pl pu ps ?_)
  have hno : ¬ ((((items.size : Int) - 1) == 0 && (-1 : Int) == 1 && items.size == items.size) = true) := by
    intro q
    rw [Bool.and_eq_true, Bool.and_eq_true] at q
    exact absurd q.1.2 (by decide)
  show wpAny _ _ (if (((items.size : Int) - 1) == 0 && (-1 : Int) == 1 && items.size == items.size) = true then _ else _) _ _ s
  rw [if_neg hno, revPick]
  first
    | exact wpAny_bind (m := Builtin.Tuple.tupleExact _) (wpAny_newObj_type (wpAny_pure ⟨_, rfl, wpAny_pure h⟩) htake)
    | exact wpAny_bind (m := Builtin.Tuple.tupleExact _) (wpAny_newObj_type (wpAny_bind (wpAny_pure (wpAny_pure ⟨_, rfl, wpAny_pure h⟩))) htake)
    | exact wpAny_bind (wpAny_bind (m := Builtin.Tuple.tupleExact _) (wpAny_newObj_type (wpAny_pure (wpAny_pure ⟨_, rfl, wpAny_pure h⟩)) htake))
    | exact wpAny_bind (wpAny_bind (m := Builtin.Tuple.tupleExact _) (wpAny_newObj_type (wpAny_pure ⟨_, rfl, wpAny_pure h⟩) htake))
end
section
variable {X : Cx}
/-- t[::-1]: the rule -/
def tRevT (K : PySem.W.Frag) (te : TE) : TE := fun σ H Q => te σ H fun x H1 => ∃ a xs, x = .ref a ∧ SqT K H1 a xs ∧ ∀ p, H1 p = none → Q (.ref p) (upd H1 p (.tup xs.reverse))
theorem pe_revT {e : Expr} {te : TE} {k : Nat} {p1 p2 p3 pos : Pos} (he : PE X e te) : PE X (.Subscript e (.Slice none none (some (.UnaryOp .USub (.Constant (.int 1) k p1) p2)) p3) pos) (tRevT X.K te) := by
  refine ⟨fun pins s σ H Q I h => ?_⟩
  refine Subscript_ (thn (he.run pins s σ H _ I h) fun v s1 ⟨x, H1, I1, r1, q1⟩ => ?_)
  obtain ⟨a, xs, ex, hx, q⟩ := q1
  subst ex
  cases r1
  have hst : PO X (some (.UnaryOp .USub (.Constant (.int 1) k p1) p2)) (tPart (tUn (rU fun i => .int (-i)) (tC (.int 1)))) := po_some (pe_un un_neg pe_int)
  refine wpAny_Slice (thn (po_none.run pins s1 σ H1 (fun o H2 => o = none ∧ H2 = H1) I1 ⟨rfl, rfl⟩) fun vl s2 ⟨l, H2, I2, pl, el, e2⟩ => ?_)
  subst el e2
  refine thn (po_none.run pins s2 σ H2 (fun o H3 => o = none ∧ H3 = H2) I2 ⟨rfl, rfl⟩) fun vu s3 ⟨u, H3, I3, pu, eu, e3⟩ => ?_
  subst eu e3
  refine thn (hst.run pins s3 σ H3 (fun o H4 => o = some (-1) ∧ H4 = H3) I3 ⟨1, rfl, -1, rfl, rfl, rfl⟩) fun vs s4 ⟨o, H4, I4, ps, eo, e4⟩ => ?_
  subst eo e4
  have I5 : Inv X pins σ H4 { s4 with heap := s4.heap.push { cls := .type "slice", data := .fields #[vl, vu, vs] } } := I4.kept (t' := s4.toks) fun b ob q => Heap.get?_push_of_some _ q
  obtain ⟨its, r, ht, hz⟩ := I5.tuple hx
  have hlen : its.toArray.size = xs.length := by rw [List.size_toArray]; exact r.length.symm
  show wpAny (model X.prog X.w) X.A (subscriptTail e (.Slice none none (some (.UnaryOp .USub (.Constant (.int 1) k p1) p2)) p3) (.ref a) (.ref s4.heap.objs.size)) (EP X pins σ Q) X.xe { s4 with heap := s4.heap.push { cls := .type "slice", data := .fields #[vl, vu, vs] } }
  refine tail_any (ops := [.ref a, .ref s4.heap.objs.size]) ht.typeIs (PyProof.Rows.slot_tuple_getitem.lookup) ?_ (by with_unfolding_all rfl)
  refine getItem_tuple_rev ht (Heap.IsSliceOf.new _ vl vu vs) pl pu ps ?_ (by rw [hlen]; exact hz)
  refine ⟨.ref _, _, I5.laid (t' := s4.toks) (o := .tup xs.reverse) (fun b ob q => Heap.get?_push_of_some _ q) (Nat.le_refl _) ?_, rfl, q _ (I5.hok.fresh (Nat.le_refl _))⟩
  exact ⟨by rw [List.length_reverse]; exact hz, _, r.reverse, IsTup.new _ _⟩
end
end RT

set_option maxRecDepth 100000
set_option maxHeartbeats 8000000
namespace Sg
open PySem PySem.Spec PyProof.Rows L2 Dr Gd Er Cm LD CM
abbrev sFolded : Stmt := top 2
abbrev sArgs : Stmt := top 3
theorem lcYes {σ : L2.St} {H : Hp} {A B : Hp → Prop} (h : A H) : tYes σ H (fun b H3 => if b = true then A H3 else B H3) := by
  show (if true = true then A H else B H)
  rw [if_pos rfl]
  exact h
def argsD : PyData → List PyData
  | .tuple (_ :: r) => r
  | _ => []
mutual
def okF : PyData → Bool
  | .str _ => true
  | .tuple [] => false
  | .tuple (_ :: r) => okFs r
  | .none => false
  | .bool _ => false
  | .int _ => false
  | .list _ => false
  | .dict _ => false
def okFs : List PyData → Bool
  | [] => true
  | d :: r => okF d && okFs r
end
mutual
def fsz : PyData → Nat
  | .tuple (_ :: r) => 1 + fszs r
  | .tuple [] => 1
  | .str _ => 1
  | .none => 1
  | .bool _ => 1
  | .int _ => 1
  | .list _ => 1
  | .dict _ => 1
def fszs : List PyData → Nat
  | [] => 0
  | d :: r => fsz d + fszs r
end
theorem fsz_args (d : PyData) : fsz d = 1 + fszs (argsD d) := by
  cases d with
  | tuple ds =>
    cases ds with
    | nil => simp [fsz, argsD, fszs]
    | cons e r => simp [fsz, argsD]
  | _ => simp [fsz, argsD, fszs]
theorem okF_args {d : PyData} (h : okF d = true) : okFs (argsD d) = true := by
  cases d with
  | tuple ds =>
    cases ds with
    | nil => simp [argsD, okFs]
    | cons e r => rw [okF] at h; exact h
  | _ => simp [argsD, okFs]
theorem okFs_mem : ∀ {ds : List PyData}, okFs ds = true → ∀ d ∈ ds, okF d = true
  | [], _, d, hd => by cases hd
  | e :: r, h, d, hd => by
    rw [okFs, Bool.and_eq_true] at h
    rcases List.mem_cons.mp hd with rfl | hd
    · exact h.1
    · exact okFs_mem h.2 d hd
theorem fsz_pos : ∀ d : PyData, 1 ≤ fsz d := fun d => by rw [fsz_args]; omega
theorem fszs_len : ∀ ds : List PyData, ds.length ≤ fszs ds
  | [] => Nat.zero_le _
  | d :: ds => by
    have := fszs_len ds
    have := fsz_pos d
    rw [fszs, List.length_cons]
    omega
def spArgs (K : PySem.W.Frag) : Sp := fun vs H Q _ => ∃ v, vs = [v] ∧ ((∃ z, v = .str z ∧ ∀ l H', Same H H' → H l = none → H' l = some (.lst []) → Q (.ref l) H') ∨
  ∃ a x xs, v = .ref a ∧ SqT K H a (x :: xs) ∧ ∀ l H', Same H H' → H l = none → H' l = some (.lst xs) → Q (.ref l) H')
section
variable {P : Program} {w : World} {K : PySem.W.Frag} {mg : Str → Option Value} {base : Heap}
theorem scAg : FnScope ["term"] ["term"] (defScope sArgs) := ⟨rfl, rfl, rfl, by decide +kernel, rfl, by decide +kernel, by decide +kernel⟩
theorem ty_tup {H : Hp} {a : Addr} {xs : List V} (h : SqT K H a xs) : TyX K H (.ref a) (.type "tuple") := by
  rcases h with (h | ⟨o, h⟩) | ⟨o, its, n, e, c, _⟩
  · exact .base (.tup h)
  · exact .fTuple h
  · exact .kTuple e c
theorem cut1 (x : V) (xs : List V) : cutV (x :: xs) (some 1) none = xs := by
  unfold cutV
  rw [HT.sIx_none]
  rw [show HT.sIx (x :: xs).length 0 (some 1) = min 1 (x :: xs).length from HT.sIx_nat _ _ 1]
  rw [List.length_cons, Nat.min_eq_left (by omega)]
  simp
theorem ok_args {f : Addr} {fd : FuncData} (F : Fun K "arguments" "arguments" sArgs f fd) (hi : mg "isinstance" = none) (hl : mg "list" = none) (hs : mg "str" = none) : FnOk P w K mg base CX0 1 f fd ["term"] (spArgs K) := by
  refine F.ok scAg (fun vs H Q E h => ?_) (fun cdv A outer s H vs Q E hr h => ?_)
  · obtain ⟨v, rfl, _⟩ := h
    rfl
  · obtain ⟨v, rfl, h⟩ := h
    refine ⟨_, pss_one (ps_ret (pe_ifExp (pt_val (pe_callB call_isi (by rfl) hi (by decide +kernel) (pa_cons (pv 0) (pa_cons (pe_bltn (v := .ty "str") (by rfl) hs (by decide +kernel) rfl) pa_nil)))) (pe_lst pa_nil)
      (pe_callTy call_list_of (by rfl) hl (by decide +kernel) (pa_cons (pe_slice sl_tup (pv 0) (po_some pe_int) po_none) pa_nil)))), ?_⟩
    rcases h with ⟨z, rfl, q⟩ | ⟨a, x, xs, rfl, ht, q⟩
    · refine ⟨_, rfl, .str z, .ty "str", .type "str", .type "str", true, rfl, .ty _, .base (.str z), kit_ty (by decide +kernel), _, rfl, iteT ?_⟩
      refine ⟨Nat.zero_le _, fun l hl => ?_⟩
      exact q l _ (same_upd hl) hl upd_same
    · refine ⟨_, rfl, .ref a, .ty "str", .type "tuple", .type "str", false, rfl, .ty _, ty_tup ht, kit_ty (by decide +kernel), _, rfl, iteF ?_⟩
      refine ⟨_, rfl, 1, rfl, a, x :: xs, rfl, ht, ?_, fun p hp => ?_⟩
      · rw [show HT.sIx (x :: xs).length 0 (some 1) = min 1 (x :: xs).length from HT.sIx_nat _ _ 1, List.length_cons]
        omega
      · rw [cut1]
        have s1 := same_upd (o := .tup xs) hp
        refine ⟨p, xs, rfl, .inr (SqT.of upd_same), fun l hl => ?_⟩
        exact q l _ (Same.trans s1 (same_upd hl)) (Same.free s1 hl) upd_same
end
end Sg

set_option maxRecDepth 100000
set_option maxHeartbeats 8000000
namespace Sg
open PySem PySem.Spec PyProof.Rows L2 Dr Gd Er Cm LD CM
/-- H without the addresses in S -/
def delS (S : List Addr) (H : Hp) : Hp := fun b => if b ∈ S then none else H b
theorem delS_of {S : List Addr} {H : Hp} {b : Addr} (h : b ∉ S) : delS S H b = H b := by unfold delS; rw [if_neg h]
theorem delS_inv {S : List Addr} {H : Hp} {b : Addr} {o : HO} (h : delS S H b = some o) : b ∉ S ∧ H b = some o := by
  unfold delS at h
  by_cases e : b ∈ S
  · rw [if_pos e] at h; cases h
  · rw [if_neg e] at h; exact ⟨e, h⟩
theorem delS_sub {S : List Addr} {H : Hp} : Same (delS S H) H := fun b o h => (delS_inv h).2
theorem delS_same {S : List Addr} {H H' : Hp} (s : Same H H') : Same (delS S H) (delS S H') := fun b o h => by
  obtain ⟨a, b'⟩ := delS_inv h
  rw [delS_of a]
  exact s _ _ b'
theorem delS_upd {S : List Addr} {H : Hp} {a : Addr} {o : HO} (h : a ∈ S) : delS S (L2.upd H a o) = delS S H := by
  funext b
  unfold delS
  by_cases e : b ∈ S
  · rw [if_pos e, if_pos e]
  · rw [if_neg e, if_neg e, upd_ne (fun z => e (by rw [z]; exact h))]
theorem delS_in {S T : List Addr} {H H' : Hp} (h : ∀ b ∈ S, b ∈ T) (s : Same (delS S H) (delS S H')) : Same (delS T H) (delS T H') := fun b o e => by
  obtain ⟨a, b'⟩ := delS_inv e
  have k : b ∉ S := fun z => a (h b z)
  have := s b o (by rw [delS_of k]; exact b')
  rw [delS_of a]
  exact (delS_inv this).2
theorem delS_less {S T : List Addr} {H : Hp} (h : ∀ b ∈ S, b ∈ T) : Same (delS T H) (delS S H) := fun b o e => by
  obtain ⟨a, b'⟩ := delS_inv e
  rw [delS_of fun z => a (h b z)]
  exact b'
inductive Item where
  | op (d : PyData)
  | cl (d : PyData)
def meas : List Item → Nat
  | [] => 0
  | .op d :: I => 2 * fsz d + meas I
  | .cl _ :: I => 1 + meas I
theorem meas_len : ∀ I : List Item, I.length ≤ meas I
  | [] => Nat.zero_le _
  | .op d :: I => by
    have := meas_len I
    have := fsz_pos d
    rw [meas, List.length_cons]
    omega
  | .cl d :: I => by
    have := meas_len I
    rw [meas, List.length_cons]
    omega
theorem meas_ops (ds : List PyData) (I : List Item) : meas (ds.map .op ++ I) = 2 * fszs ds + meas I := by
  induction ds with
  | nil => simp [fszs]
  | cons d ds ih =>
    rw [List.map_cons, List.cons_append, meas, ih, fszs]
    omega
/-- what stands at the end, if what is left to do is done over what is done -/
inductive Exec : List Item → List PyData → List PyData → Prop where
  | nil {D : List PyData} : Exec [] D D
  | op {d : PyData} {I : List Item} {D F : List PyData} : Exec I (D ++ [d]) F → Exec (.op d :: I) D F
  | cl {d : PyData} {I : List Item} {D F : List PyData} : Exec I (D ++ [d]) F → Exec (.cl d :: I) (D ++ argsD d) F
theorem exec_ops {J : List Item} {F : List PyData} : ∀ (ds D : List PyData), Exec J (D ++ ds) F → Exec (ds.map .op ++ J) D F
  | [], D, h => by simpa using h
  | d :: ds, D, h => .op (exec_ops ds (D ++ [d]) (by rw [List.append_assoc]; exact h))
inductive StkR (K : PySem.W.Frag) (Pd : PyData → Prop) (Z : Hp) : List V → List Item → Prop where
  | nil : StkR K Pd Z [] []
  | op {t : Addr} {v : V} {d : PyData} {tr : List V} {I : List Item} : Z t = some (.tup [v, .non]) → Dp K Z v d → Pd d → StkR K Pd Z tr I → StkR K Pd Z (.ref t :: tr) (.op d :: I)
  | cl {t b : Addr} {v : V} {us : List V} {d : PyData} {tr : List V} {I : List Item} : Z t = some (.tup [v, .ref b]) → Dp K Z v d → Pd d → Z b = some (.lst us) → us.length = (argsD d).length → StkR K Pd Z tr I → StkR K Pd Z (.ref t :: tr) (.cl d :: I)
theorem StkR.mono {K : PySem.W.Frag} {Pd : PyData → Prop} {Z Z' : Hp} (s : Same Z Z') : ∀ {tr : List V} {I : List Item}, StkR K Pd Z tr I → StkR K Pd Z' tr I
  | _, _, .nil => .nil
  | _, _, .op a b c d => .op (s _ _ a) (dp_same s _ _ b) c (d.mono s)
  | _, _, .cl a b c d e f => .cl (s _ _ a) (dp_same s _ _ b) c (s _ _ d) e (f.mono s)
theorem StkR.len {K : PySem.W.Frag} {Pd : PyData → Prop} {Z : Hp} : ∀ {tr : List V} {I : List Item}, StkR K Pd Z tr I → tr.length = I.length
  | _, _, .nil => rfl
  | _, _, .op _ _ _ d => by rw [List.length_cons, List.length_cons, d.len]
  | _, _, .cl _ _ _ _ _ f => by rw [List.length_cons, List.length_cons, f.len]
inductive All2 (R : PyData → V → Prop) : List PyData → List V → Prop where
  | nil : All2 R [] []
  | cons {d : PyData} {v : V} {ds : List PyData} {vs : List V} : R d v → All2 R ds vs → All2 R (d :: ds) (v :: vs)
theorem All2.len {R : PyData → V → Prop} : ∀ {ds : List PyData} {vs : List V}, All2 R ds vs → ds.length = vs.length
  | _, _, .nil => rfl
  | _, _, .cons _ b => by rw [List.length_cons, List.length_cons, b.len]
theorem All2.imp {R R' : PyData → V → Prop} (h : ∀ d v, R d v → R' d v) : ∀ {ds : List PyData} {vs : List V}, All2 R ds vs → All2 R' ds vs
  | _, _, .nil => .nil
  | _, _, .cons a b => .cons (h _ _ a) (b.imp h)
theorem All2.app {R : PyData → V → Prop} : ∀ {ds : List PyData} {vs : List V} {es : List PyData} {us : List V}, All2 R ds vs → All2 R es us → All2 R (ds ++ es) (vs ++ us)
  | _, _, _, _, .nil, h => h
  | _, _, _, _, .cons a b, h => .cons a (b.app h)
theorem All2.split {R : PyData → V → Prop} : ∀ {ds es : List PyData} {vs : List V}, All2 R (ds ++ es) vs → All2 R ds (vs.take ds.length) ∧ All2 R es (vs.drop ds.length)
  | [], es, vs, h => ⟨.nil, by simpa using h⟩
  | d :: ds, es, vs, h => by
    cases h with
    | cons a b =>
      obtain ⟨p, q⟩ := b.split
      exact ⟨.cons a p, q⟩
/-- what a fold asks of the making: S: what the making changes; St, G: what stands, what a value is of a term -/
structure FoldP (K : PySem.W.Frag) (Pd : PyData → Prop) (S : List Addr) (H0 : Hp) (St : Hp → Prop) (G : PyData → V → Hp → Prop) (CM : List V → Hp → VK → Prop) : Prop where
  sub : ∀ d, Pd d → okF d = true ∧ ∀ a ∈ argsD d, Pd a
  trk : ∀ H, St H → ∀ b ∈ S, ∃ o, H b = some o
  alc : ∀ H H', Same H H' → St H → St H' ∧ ∀ d v, G d v H → G d v H'
  upl : ∀ H c ys zs, c ∉ S → H c = some (.lst ys) → St H → St (L2.upd H c (.lst zs)) ∧ ∀ d v, G d v H → G d v (L2.upd H c (.lst zs))
  made : ∀ (d : PyData) (v : V) (l : Addr) (us : List V) (H : Hp) (Q : VK), Same (delS S H0) (delS S H) → St H → Pd d → Dp K (delS S H) v d → l ∉ S → H l = some (.lst us) → All2 (fun d v => G d v H) (argsD d) us →
    (∀ r H', Same (delS S H) (delS S H') → St H' → (∀ d v, G d v H → G d v H') → G d r H' → Q r H') → CM [v, .ref l] H Q
def spFold (K : PySem.W.Frag) (fa g : Addr) (sp : Sp) : Sp := fun vs H0 Q _ => ∃ v q a d Pd S St G, vs = [v, .ref fa, .ref q] ∧ H0 q = some (.met g a) ∧ q ∉ S ∧ Pd d ∧ fsz d ≤ 5000 ∧ Dp K (delS S H0) v d ∧ St H0 ∧
  FoldP K Pd S H0 St G (fun vs H Q => sp (.ref a :: vs) H Q E0) ∧ ∀ r H', Same (delS S H0) (delS S H') → St H' → G d r H' → (∀ d v, G d v H0 → G d v H') → Q r H'
end Sg

set_option maxRecDepth 100000
set_option maxHeartbeats 4000000
/-! a lambda with parameters as a value, and the call of it in a def that it was handed to -/
namespace LM
open PySem PySem.Spec PyProof.Rows L2 LamX NdefX
/-- the object at f is the lambda F with the body b (F's own body is not looked at) -/
def LamO (f : Addr) (F : NF) (b : Expr) : HO := .ext fun h => ∃ pm ctv : Value, h.get? f = some (PySem.W.kla_obj F.name F.qual F.params b F.scope F.cl pm F.c ctv)
theorem lamO_tbl {f : Addr} {F : NF} {b : Expr} (ps : Array Value) : LamO f F b ≠ .tbl ps := fun z => by
  unfold LamO at z
  cases z
theorem lamO_at {P : Program} {w : World} {H : Hp} {h : Heap} {f : Addr} {F : NF} {b : Expr} (hok : HOk P w H h) (e : H f = some (LamO f F b)) : ∃ pm ctv : Value, h.get? f = some (PySem.W.kla_obj F.name F.qual F.params b F.scope F.cl pm F.c ctv) := (hok f _ e).1
abbrev nfL (q : Str) (params : Arguments) (scope : Scope) (cl : List (Str × Addr)) (c : Addr) : NF := ⟨"<lambda>", q, params, [], scope, cl, c⟩
/-- all but what is at P stays -/
def SameB (P : Addr) (H H' : Hp) : Prop := ∀ b o, H b = some o → b ≠ P → H' b = some o
section
variable {X : Cx} {pins : List (Addr × Obj)} {σ : L2.St} {H : Hp} {s : Shared}
theorem inv_lam {F : NF} {b : Expr} {t' : Nat} {pm ctv : Value} (I : Inv X pins σ H s) :
    Inv X pins σ (upd H s.heap.objs.size (LamO s.heap.objs.size F b)) { s with heap := s.heap.push (PySem.W.kla_obj F.name F.qual F.params b F.scope F.cl pm F.c ctv), toks := t' } := by
  have e : (s.heap.push (PySem.W.kla_obj F.name F.qual F.params b F.scope F.cl pm F.c ctv)).get? s.heap.objs.size = some (PySem.W.kla_obj F.name F.qual F.params b F.scope F.cl pm F.c ctv) := Heap.get?_push_size _ rfl
  refine I.laid (a := s.heap.objs.size) (fun b u e => Heap.get?_push_of_some _ e) (Nat.le_refl _) ⟨⟨pm, ctv, e⟩, ⟨_, e⟩, ?_⟩
  rintro h1 h2 ⟨p, c, z⟩ st
  exact ⟨p, c, st _ z⟩
/-- the reading of a lambda: f the new function, c' its code object, P the table of the maker's code object -/
def tLamV (P : Addr) (q : Str) (mk : Addr → NF) (b : Expr) : TE := fun _ H Q => TabS H P q ∧ ∀ (f c' : Addr) (H1 : Hp), SameB P H H1 → TabS H1 P q → H f = none → H1 f = some (LamO f (mk c') b) → H1 c' = some (CodeO c' q) → Q (.ref f) H1
theorem pe_lam {c P : Addr} {params : Arguments} {body : Expr} {scope : Scope} {pos : Pos} (TB : TabB X.base X.mg c P) (hcode : X.env.code = .ref c) (hdef : defaultsOf params X.env = ([], []))
    (hfree : ∀ y ∈ scope.names, y.2 = .free → X.env.scope.names.lookup y.1 = some .cell ∨ X.env.scope.names.lookup y.1 = some .free) :
    PE X (.Lambda params body scope pos) (tLamV P (X.env.qual ++ "<lambda>") (nfL (X.env.qual ++ "<lambda>") params scope (cloFrom X.env.cells scope.names [])) body) := by
  constructor
  intro pins s σ H Q I h
  obtain ⟨hT, h⟩ := h
  obtain ⟨ps, hP, ht, ha⟩ := id hT
  have hfr : ∀ y ∈ scope.names, y.2 = .free → ∃ c, X.env.cells.lookup y.1 = some c := fun y hy e => I.ok.has _ (hfree y hy e)
  have bP : s.heap.BuiltinsAt X.mg P := TB.bm.keeps I.bk
  have hP' : s.heap.get? P = some { cls := .none, data := .fields ps } := I.hok P _ hP
  refine PySem.W.kla_eval hdef ?_
  cases hc : codeAmong pos ps.toList with
  | none =>
    refine PySem.W.kla_makeFunction (mg := X.mg) (c := c) (P := P) (ps := ps) (closure_ok hfr) I.ok.glob (I.mod.glob.keeps I.bk) hcode (TB.code.keeps I.bk) hP' ht hc TB.gP bP ?_
    rintro c' ctv h' tk hx hge hlt ⟨c2, oc, vs, t, ec, hoc, hd, hv⟩ htb
    cases ec
    have nC : H c' = none := I.hok.fresh hge
    have I1 := inv_table (q := X.env.qual ++ "<lambda>") (t' := tk) (more := #[rawInt pos.line, rawInt pos.col, .ref c']) (h' := h') I hP (fun b o hb e => hx b o hb e) htb hge ⟨oc, vs, t, hoc, hd, hv⟩
    have nPc : P ≠ c' := ne_of_none hP nC
    have eL : (ps ++ #[rawInt pos.line, rawInt pos.col, .ref c']).toList = ps.toList ++ [rawInt pos.line, rawInt pos.col, .ref c'] := by simp
    have kp : SameB P H (upd (upd H P (.tbl (ps ++ #[rawInt pos.line, rawInt pos.col, .ref c']))) c' (CodeO c' (X.env.qual ++ "<lambda>"))) := fun b o e n => by
      rw [upd_ne (ne_of_none e nC), upd_ne n]
      exact e
    have eC : (upd (upd H P (.tbl (ps ++ #[rawInt pos.line, rawInt pos.col, .ref c']))) c' (CodeO c' (X.env.qual ++ "<lambda>"))) c' = some (CodeO c' (X.env.qual ++ "<lambda>")) := upd_same
    have eP : (upd (upd H P (.tbl (ps ++ #[rawInt pos.line, rawInt pos.col, .ref c']))) c' (CodeO c' (X.env.qual ++ "<lambda>"))) P = some (.tbl (ps ++ #[rawInt pos.line, rawInt pos.col, .ref c'])) := by rw [upd_ne nPc, upd_same]
    have hf0 : H h'.objs.size = none := I.hok.fresh (Nat.le_trans hge (Nat.le_of_lt hlt))
    generalize (upd (upd H P (.tbl (ps ++ #[rawInt pos.line, rawInt pos.col, .ref c']))) c' (CodeO c' (X.env.qual ++ "<lambda>"))) = H1 at I1 kp eC eP
    have T1 : TabS H1 P (X.env.qual ++ "<lambda>") := by
      refine ⟨_, eP, by rw [eL]; exact PySem.TriplesOk_snoc _ _ _ _ ht, fun p' cv hcv => ?_⟩
      rw [eL] at hcv
      rcases among_app _ ht hcv with z | rfl
      · obtain ⟨c0, e1, e2⟩ := ha p' cv z
        exact ⟨c0, e1, kp _ _ e2 fun z => codeO_ne _ (Option.some.inj (e2.symm.trans (by rw [z]; exact hP)))⟩
      · exact ⟨c', rfl, eC⟩
    have nF := I1.hok.fresh (Nat.le_refl _)
    have I2 := inv_lam (F := nfL (X.env.qual ++ "<lambda>") params scope (cloFrom X.env.cells scope.names []) c') (b := body) (t' := tk) (pm := (X.mg "__name__").getD .none) (ctv := ctv) I1
    exact ⟨.ref _, _, I2, rfl, h h'.objs.size c' _ (fun b o e n => (upd_ne (ne_of_none (kp b o e n) nF)).trans (kp b o e n)) (T1.ext fun b o e => (upd_ne (ne_of_none e nF)).trans e) hf0 upd_same ((upd_ne (ne_of_none eC nF)).trans eC)⟩
  | some cv =>
    obtain ⟨c', rfl, hco⟩ := ha pos cv hc
    refine PySem.W.kla_makeFunctionHit (mg := X.mg) (c := c) (P := P) (ps := ps) (closure_ok hfr) I.ok.glob (I.mod.glob.keeps I.bk) hcode (TB.code.keeps I.bk) hP' ht hc bP fun ctv h' tk hx hsz => ?_
    have I1 : Inv X pins σ H { s with heap := h', toks := tk } := I.kept hx
    have nF : H h'.objs.size = none := I1.hok.fresh (Nat.le_refl _)
    have I2 := inv_lam (F := nfL (X.env.qual ++ "<lambda>") params scope (cloFrom X.env.cells scope.names []) c') (b := body) (t' := tk) (pm := (X.mg "__name__").getD .none) (ctv := ctv) I1
    exact ⟨.ref _, _, I2, rfl, h h'.objs.size c' _ (fun b o e _ => (upd_ne (ne_of_none e nF)).trans e) (hT.ext fun b o e => (upd_ne (ne_of_none e nF)).trans e) nF upd_same ((upd_ne (ne_of_none hco nF)).trans hco)⟩
end
/-- the promise of the lambda F with the body b at f: sp ws, ws what its captured cells hold at the call -/
structure LOk (P : Program) (w : World) (K : PySem.W.Frag) (mg : Str → Option Value) (base : Heap) (k : Nat) (f : Addr) (F : NF) (b : Expr) (ps fr : List Str) (sp : List (Option V) → List V → Hp → VK → Prop) : Prop where
  len : ∀ ws vs H Q, sp ws vs H Q → vs.length = ps.length
  run : ∀ (A : Around) (outer : List Env) (s : Shared) (H : Hp) (us : List Value) (vs : List V) (ws : List (Option V)) (Q : VK), Room k A → Env0 P w K mg base A outer s H → H f = some (LamO f F b) → H F.c = some (CodeO F.c F.qual) →
    CellsAt F.cl fr ws s.heap H → Vals vs us → sp ws vs H Q → codeAny (model P w) A (.call (.ref f) ⟨us, []⟩) (CR CX0 outer P w H s Q E0) s
section
variable {P : Program} {w : World} {K : PySem.W.Frag} {mg : Str → Option Value} {base : Heap} {N ps fr : List Str} {F : NF} {b : Expr} {f : Addr} {k : Nat} {sp : List (Option V) → List V → Hp → VK → Prop}
theorem lok_of (S : NScope N ps fr F.scope) (hb : ∀ (pm ctv : Value) (us : List Value), us.length = ps.length → bindArgs (PySem.W.kla_fn F.name F.qual F.params b F.scope F.cl pm (.ref F.c) ctv) ⟨us, []⟩ = pure (ps.zip us)) (len : ∀ ws vs H Q, sp ws vs H Q → vs.length = ps.length)
    (hbody : ∀ (A : Around) (outer : List Env) (s : Shared) (H : Hp) (vs : List V) (ws : List (Option V)) (Q : VK), Room k (A.deeper (envF F f s.heap.objs.size)) → ws.length = fr.length → sp ws vs H Q → ∃ t, PE (ncx CX0 P w K mg base N F f A outer s H E0) b t ∧ t (startF N vs ws) H Q) :
    LOk P w K mg base (k + 1) f F b ps fr sp := by
  refine ⟨len, fun A outer s H us vs ws Q hr e0 hf hc C r hsp => ?_⟩
  have hl := len _ _ _ _ hsp
  have lim : s.heap.NoLimit := e0.mod.nolimit.keeps fun b o e => (e0.bs b o e).1
  obtain ⟨pm, ctv, ho⟩ := lamO_at e0.hok hf
  refine PySem.W.kla_callFunE hr.depth ho rfl S.co S.gen rfl (codeO_at e0.hok hc) ?_
  rw [hb pm ctv us (by rw [← r.length]; exact hl)]
  refine wpAny_pure (wpAny_newFunctionEnv S.nocell (fun ⟨n, _⟩ hy => S.par n (List.of_mem_zip hy).1) (fun h₁ hns hsb => ⟨lim.fresh _ hsb, ?_⟩) S.kind)
  show codeAny _ _ (.expr b (envF F f s.heap.objs.size)) _ _
  have kp : ∀ b o, s.heap.get? b = some o → h₁.get? b = some o := fun b o e => hsb.extBut b o (Nat.ne_of_lt (Heap.lt_size e)) (Heap.get?_push_of_some _ e)
  obtain ⟨t, ht, hq⟩ := hbody A outer s H vs ws Q (hr.deeper _) C.len hsp
  have I := inv_startN (CX := CX0) (E := E0) (f := f) (h₁ := h₁) (tk := s.toks + (ps.zip us).length) S hr.hd e0 hl r C hns kp
  refine PySem.W.kla_codeExpr (wpAny_mono (ht.run [] _ (startF N vs ws) H Q I hq) ?_ fun e s' hq => hq)
  rintro v s' ⟨v', H', J, rv, q⟩
  exact ⟨v', H', J.os, J.bare, J.base, J.hok, rv, q⟩
end
/-- made(..), made the slot i: a lambda that was handed in -/
def tCallL (i : Nat) (f : Addr) (F : NF) (b : Expr) (sp : List V → Hp → VK → Prop) (t : TA) : TE := fun σ H Q => σ[i]? = some (some (.ref f)) ∧ H f = some (LamO f F b) ∧ t σ H fun vs H1 => H1 f = some (LamO f F b) ∧ H1 F.c = some (CodeO F.c F.qual) ∧ sp vs H1 Q
section
variable {X : Cx} {ps fr : List Str} {F : NF} {b : Expr} {f : Addr} {i k : Nat} {ws : List (Option V)} {sp : List (Option V) → List V → Hp → VK → Prop} {x : Str} {t : TA} {e : Expr} {es : List Expr} {p pos : Pos}
theorem pe_callLam (L : LOk X.prog X.w X.K X.mg X.base k f F b ps fr sp) (C : CellsAt F.cl fr ws X.s_0.heap X.H_0) (nf : ∀ y c, F.cl.lookup y = some c → c ∉ X.fs) (hx : X.ex = []) (hr : Room k X.A) (hN : X.N[i]? = some x) (hv : Vis X.env.scope x) (hp : Passes CX0 X E0) (ha : PA X (e :: es) t)
    (he : starEach (e :: es) X.env = (false, eval e X.env) :: starEach es X.env) (hpl : (backTo pos (starEach es X.env)).any (·.1) = false) (hd : (x == ("__debug__" : Str)) = false := by decide) (hcd : (x == ("__classdict__" : Str)) = false := by decide) :
    PE X (.Call (.Name x p) (e :: es) [] pos) (tCallL i f F b (sp ws) t) := by
  constructor
  intro pins s σ H Q I h
  obtain ⟨hs, hf, ht⟩ := h
  refine wpAny_Call_Name_kw (thn ((pe_var (pos := p) hN hv hd hcd).run pins s σ H (fun v H1 => v = .ref f ∧ H1 = H) I ⟨.ref f, hs, rfl, rfl⟩) ?_)
  rintro u s1 ⟨v, H1, I1, r1, rfl, rfl⟩
  cases r1
  have fnAt : ∀ {H' : Hp} {s' : Shared}, Inv X pins σ H' s' → H' f = some (LamO f F b) → PySem.W.FnAt f s'.heap := fun {H' s'} J e => by
    obtain ⟨pm, ctv, ho⟩ := lamO_at J.hok e
    exact ⟨_, _, _, _, ho⟩
  refine PySem.W.callWith_F (first := []) (fnAt I1 hf) (thn (ha.run pos pins s1 σ H1 _ I1 ht) ?_) he hpl
  rintro us s2 ⟨vs, H2, I2, r, h1, h2, q⟩
  refine ⟨fnAt I2 h1, wpAny_call (codeAny_mono (L.run X.A X.stack s2 H2 us vs ws Q hr I2.env0 h1 h2 (C.later nf (fun y c _ z => by rw [hx] at z; cases z) I2) r q) ?_)⟩
  intro r s' hq
  cases r with
  | error er => exact hp pins σ H2 s2 er s' I2 hq
  | ok fl => cases fl <;> first | exact I2.after hq | exact False.elim hq
end
/-! ### a def that is told of the caller's cells -/
structure FnC (P : Program) (w : World) (K : PySem.W.Frag) (mg : Str → Option Value) (base : Heap) (k : Nat) (f : Addr) (fd : FuncData) (ps : List Str) (cl : List (Str × Addr)) (fr : List Str) (sp : List (Option V) → List V → Hp → VK → Prop) : Prop where
  len : ∀ ws vs H Q, sp ws vs H Q → vs.length = ps.length
  go : ∀ (A : Around) (outer : List Env) (s : Shared) (H : Hp) (args : Args) (us : List Value) (vs : List V) (ws : List (Option V)) (Q : VK),
    Room k A → Env0 P w K mg base A outer s H → BindsTo s fd args (ps.zip us) → Vals vs us → CellsAt cl fr ws s.heap H → (∀ y c, cl.lookup y = some c → c ∉ frs outer) →
    sp ws vs H Q → codeAny (model P w) A (.call (.ref f) args) (CR CX0 outer P w H s Q E0) s
section
variable {P : Program} {w : World} {K : PySem.W.Frag} {mg : Str → Option Value} {base : Heap} {k : Nat} {f : Addr} {fd : FuncData} {ps fr : List Str} {cl : List (Str × Addr)} {sp : List (Option V) → List V → Hp → VK → Prop}
theorem okC {x qual : Str} {st : Stmt} {N : List Str} (F : Fun K x qual st f fd) (S : FnScope N ps (defScope st)) (len : ∀ ws vs H Q, sp ws vs H Q → vs.length = ps.length)
    (body : ∀ (cdv : Value) (A : Around) (outer : List Env) (s : Shared) (H : Hp) (vs : List V) (ws : List (Option V)) (Q : VK), Room k (A.deeper (envOfC qual (defScope st) s.heap.objs.size f cdv)) → CellsAt cl fr ws s.heap H → (∀ y c, cl.lookup y = some c → c ∉ frs outer) → sp ws vs H Q →
      ∃ t, PSs (cxOf CX0 P w K mg base N qual (defScope st) f cdv A outer s H E0).nox (defBody st) t ∧ t { nx := fun _ H' => Q .non H', rt := Q } (start N vs) H) :
    FnC P w K mg base (k + 1) f fd ps cl fr sp := by
  obtain ⟨oc, od, kV, doc, pm, an, cdv, ct, osl, rfl, lk, hcd⟩ := F.ex
  refine ⟨len, fun A outer s H args us vs ws Q hr e0 hb r C nf hsp => ?_⟩
  have nl := len _ _ _ _ hsp
  have kb : ∀ b o, base.get? b = some o → s.heap.get? b = some o := fun b o z => (e0.bs b o z).1
  have KX : K.In s.heap := e0.mod.kin.keeps kb
  have kinds : ∀ y ∈ ps.zip us, (defScope st).names.lookup y.1 = some .local ∨ ((defScope st).names.lookup y.1 = some .cell ∧ ((cellsFrom (s.heap.objs.size + 1) (defScope st).names []).lookup y.1).isSome = true) := by
    rintro ⟨n, v⟩ hy
    exact (S.par n (List.of_mem_zip hy).1).imp id fun q => ⟨q, PySem.W.cellsFrom_some _ _ _ (Or.inl q)⟩
  refine codeAny_call_function hr.depth (KX _ _ lk) rfl S.co S.gen rfl (PySem.W.codeRec_of KX hcd) (hb _ _ _ _ (wpAny_newFunctionEnv_cells S.kind kinds fun env he s1 x => ?_))
  subst he
  obtain ⟨t, ht, hq⟩ := body cdv A outer s H vs ws Q (hr.deeper _) C nf hsp
  refine ⟨(e0.mod.nolimit.keeps kb).keeps x.toInCall.keep, codeAny_func (wpAny_mono (ht.nox.run [] s1 (start N vs) H _ (inv_start S hr.hd e0 nl r x) hq) (fun fl s' hs => ?_) fun e s' hs => hs)⟩
  cases fl with
  | ret u =>
    obtain ⟨v, σ', H', J, rv, q⟩ := hs
    exact ⟨v, H', J.os, J.bare, J.base, J.hok, rv, q⟩
  | next =>
    obtain ⟨σ', H', J, q⟩ := hs
    exact ⟨V.non, H', J.os, J.bare, J.base, J.hok, rfl, q⟩
  | brk => exact hs.choose_spec.choose_spec.2.elim
  | cont => exact hs.choose_spec.choose_spec.2.elim
end
def tCallC (js : List Nat) (sp : List (Option V) → List V → Hp → VK → Prop) (t : TA) : TE := fun σ H Q => t σ H fun vs H1 => sp (js.map (slotAt σ)) vs H1 Q
section
variable {X : Cx} {k : Nat} {f : Addr} {fd : FuncData} {ps fr : List Str} {cl : List (Str × Addr)} {js : List Nat} {sp : List (Option V) → List V → Hp → VK → Prop} {x : Str} {p pos : Pos} {e : Expr} {es : List Expr} {t : TA}
theorem cells_fs {pins : List (Addr × Obj)} {σ : L2.St} {H : Hp} {s : Shared} (I : Inv X pins σ H s) (own : X.fn = fun _ => true) {y : Str} {c : Addr} (hc : X.env.cells.lookup y = some c) : c ∉ frs X.stack := fun hb => by
  rcases List.mem_cons.mp (I.stkSub c hb) with z | z
  · exact I.cne y c hc z
  · have h1 := I.ok.cab y c (by rw [own]) hc
    obtain ⟨_, o, ho, _⟩ := I.ok.funs.mem z
    exact absurd (Heap.lt_size ho) (Nat.not_lt.mpr h1)
theorem pe_callC (F : FnC X.prog X.w X.K X.mg X.base k f fd ps cl fr sp) (own : X.fn = fun _ => true) (cp : X.Ok → Caps X cl fr js) (hr : Room k X.A) (hg : Gl X x) (hm : X.mg x = some (.ref f)) (hk : PySem.W.keepIn X.K (.ref f) = true)
    (hb : L2.Binds X.K fd ps []) (hx : Passes CX0 X E0) (ha : PA X (e :: es) t)
    (hdb : (x == ("__debug__" : Str)) = false := by decide) (he : starEach (e :: es) X.env = (false, eval e X.env) :: starEach es X.env := by rfl) (hpl : (backTo pos (starEach es X.env)).any (·.1) = false := by rfl) :
    PE X (.Call (.Name x p) (e :: es) [] pos) (tCallC js sp t) := by
  constructor
  intro pins s σ H Q I h
  refine wpAny_Call_Name_kw (ld_glob I hg hm ?_ hdb)
  refine PySem.W.callWith_K (h₀ := X.base) I.ok.mod.kin hk (thn (ha.run pos pins s σ H _ I h) ?_) he hpl
  rintro us s1 ⟨vs, H1, I1, r, q⟩
  have cps := cp I1.ok
  have nl : (us ++ []).length = ps.length := by rw [List.append_nil, ← r.length]; exact F.len _ _ _ _ q
  refine ⟨I1.kIn, wpAny_call (codeAny_mono (F.go X.A X.stack s1 H1 ⟨us, []⟩ us vs (js.map (slotAt σ)) Q hr I1.env0 (by have := hb s1 us I1.kIn nl; rwa [List.append_nil] at this) r (cells_of I1 cps) (fun y c hc => cells_fs I1 own (cps.sub y c hc)) q) ?_)⟩
  intro r s' hq
  cases r with
  | error er => exact hx pins σ H1 s1 er s' I1 hq
  | ok fl => cases fl <;> first | exact I1.after hq | exact False.elim hq
end
end LM

set_option maxRecDepth 100000
set_option maxHeartbeats 8000000
namespace Sg
open PySem PySem.Spec PyProof.Rows L2 Dr Gd Er Cm LD CM
theorem cut_fromV (xs : List V) (k : Nat) : cutV xs (some (k : Int)) none = xs.drop k := by
  unfold cutV
  rw [HT.sIx_none, HT.sIx_nat]
  rcases Nat.le_total k xs.length with h | h
  · rw [Nat.min_eq_left h, List.take_of_length_le (by rw [List.length_drop]; omega)]
  · rw [Nat.min_eq_right h, List.drop_eq_nil_of_le h, List.drop_eq_nil_of_le (Nat.le_refl _), List.take_nil]
theorem args_of {K : PySem.W.Frag} {Z : Hp} {v : V} {d : PyData} (h : Dp K Z v d) (hok : okF d = true) : ∃ us, DpAll K Z us (argsD d) ∧ ((∃ z, v = .str z ∧ us = []) ∨ ∃ a x, v = .ref a ∧ SqT K Z a (x :: us)) := by
  cases h with
  | str z => exact ⟨[], .nil, .inl ⟨z, rfl, rfl⟩⟩
  | tup g1 g2 =>
    rename_i a xs ds
    cases ds with
    | nil => rw [okF] at hok; cases hok
    | cons e r =>
      cases g2 with
      | cons p1 p2 => exact ⟨_, p2, .inr ⟨a, _, rfl, g1⟩⟩
  | non => rw [okF] at hok; cases hok
  | bl _ => rw [okF] at hok; cases hok
  | int _ => rw [okF] at hok; cases hok
  | lst _ _ => rw [okF] at hok; cases hok
theorem args_or {K : PySem.W.Frag} {Z H : Hp} {v : V} {us : List V} {R : Addr → Hp → Prop} (h : (∃ z, v = .str z ∧ us = []) ∨ ∃ a x, v = .ref a ∧ SqT K Z a (x :: us)) (s : Same Z H) (q : ∀ l H', Same H H' → H l = none → H' l = some (.lst us) → R l H') :
    (∃ z, v = .str z ∧ ∀ l H', Same H H' → H l = none → H' l = some (.lst []) → R l H') ∨ ∃ a x xs, v = .ref a ∧ SqT K H a (x :: xs) ∧ ∀ l H', Same H H' → H l = none → H' l = some (.lst xs) → R l H' := by
  rcases h with ⟨z, rfl, rfl⟩ | ⟨a, x, rfl, g⟩
  · exact .inl ⟨z, rfl, q⟩
  · exact .inr ⟨a, x, us, rfl, seqT_same s g, q⟩
theorem StkR.app {K : PySem.W.Frag} {Pd : PyData → Prop} {Z : Hp} : ∀ {tr tr2 : List V} {I J : List Item}, StkR K Pd Z tr I → StkR K Pd Z tr2 J → StkR K Pd Z (tr ++ tr2) (I ++ J)
  | _, _, _, _, .nil, h => h
  | _, _, _, _, .op a b c d, h => .op a b c (d.app h)
  | _, _, _, _, .cl a b c d e f, h => .cl a b c d e (f.app h)
section
variable {P : Program} {w : World} {K : PySem.W.Frag} {mg : Str → Option Value} {base : Heap} {fa : Addr} {da : FuncData}
theorem scFd : FnScope ["root", "children", "made", "done", "todo", "node", "below", "first", "told", "child"] ["root", "children", "made"] (defScope sFolded) := ⟨rfl, rfl, rfl, by decide +kernel, rfl, by decide +kernel, by decide +kernel⟩
/-- made(..): Pk what stands of what was handed in, CM what its call asks -/
def tMk (mk : V) (Pk : Hp → Prop) (CM : List V → Hp → VK → Prop) (t : TA) : TE := fun σ H Q => σ[2]? = some (some mk) ∧ Pk H ∧ t σ H fun vs H1 => Pk H1 ∧ CM vs H1 Q
def spFoldG (K : PySem.W.Frag) (fa : Addr) (mk : V) (Pk : Hp → Prop) (CM : List V → Hp → VK → Prop) : List V → Hp → VK → Prop := fun vs H0 Q => ∃ v d Pd S St G, vs = [v, .ref fa, mk] ∧ (∀ H', Same (delS S H0) (delS S H') → Pk H') ∧ Pd d ∧ fsz d ≤ 5000 ∧ Dp K (delS S H0) v d ∧ St H0 ∧
  FoldP K Pd S H0 St G CM ∧ ∀ r H', Same (delS S H0) (delS S H') → St H' → G d r H' → (∀ d v, G d v H0 → G d v H') → Q r H'
theorem fold_body {f : Addr} {cdv : Value} {A : Around} {outer : List Env} {s : Shared} {H : Hp} {vs : List V} {Q : VK} {E : XK} {mk : V} {Pk : Hp → Prop} {CM : List V → Hp → VK → Prop} (hln : mg "len" = none) (FA : FnOk P w K mg base CX0 1 fa da ["term"] (spArgs K)) (bA : Binds K da ["term"] []) (kA : PySem.W.keepIn K (.ref fa) = true)
    (r1 : Room 1 (A.deeper (envOfC "folded" (defScope sFolded) s.heap.objs.size f cdv)))
    (hcall : ∀ {e1 e2 : Expr} {t : TA} {p pos : Pos}, PA (cxOf CX0 P w K mg base ["root", "children", "made", "done", "todo", "node", "below", "first", "told", "child"] "folded" (defScope sFolded) f cdv A outer s H E).nox [e1, e2] t →
      starEach [e1, e2] (envOfC "folded" (defScope sFolded) s.heap.objs.size f cdv) = (false, eval e1 (envOfC "folded" (defScope sFolded) s.heap.objs.size f cdv)) :: starEach [e2] (envOfC "folded" (defScope sFolded) s.heap.objs.size f cdv) →
      (backTo pos (starEach [e2] (envOfC "folded" (defScope sFolded) s.heap.objs.size f cdv))).any (·.1) = false →
      PE (cxOf CX0 P w K mg base ["root", "children", "made", "done", "todo", "node", "below", "first", "told", "child"] "folded" (defScope sFolded) f cdv A outer s H E).nox (.Call (.Name "made" p) [e1, e2] [] pos) (tMk mk Pk CM t))
    (h : spFoldG K fa mk Pk CM vs H Q) :
    ∃ t, PSs (cxOf CX0 P w K mg base ["root", "children", "made", "done", "todo", "node", "below", "first", "told", "child"] "folded" (defScope sFolded) f cdv A outer s H E).nox (defBody sFolded) t ∧ t { nx := fun _ H' => Q .non H', rt := Q } (start ["root", "children", "made", "done", "todo", "node", "below", "first", "told", "child"] vs) H := by
    obtain ⟨v, d0, Pd, S, St, G, rfl, pkK, hok, hsz, hd, hSt, FP, qq⟩ := h
    have nd := scFd.nd
    refine ⟨_, pss_cons (ps_set (i := 3) nd rfl (Or.inl rfl) (pe_lst pa_nil))
      (pss_cons (ps_set (i := 4) nd rfl (Or.inl rfl) (pe_lst (pa_cons (pe_tup (pa_cons (pv 0) (pa_cons pe_non pa_nil))) pa_nil)))
      (pss_cons (ps_while PassesOwn.never (pt_truth (pv 4) (by intro _; rfl))
        (pss_cons (ps_asg (pe_bm0 PySem.F.plainAttrs_list PySem.F.slot_list_pop PySem.F.type_list_pop mt_pop (pv 4)) (pg_tup rfl (pgs_cons (pg_name (i := 5) nd rfl (Or.inl rfl)) (pgs_cons (pg_name (i := 6) nd rfl (Or.inl rfl)) pgs_nil))))
        (pss_one (ps_if (pt_cmpR op_isN (pv 6) pe_non (nomark _))
          (pss_cons (ps_set (i := 6) nd rfl (Or.inl rfl) (pe_callL (i := 1) FA r1 rfl (Or.inl rfl) kA bA .nil pass0 (pa_cons (pv 5) pa_nil)))
          (pss_cons (ps_expr (pe_bm PySem.F.plainAttrs_list PySem.F.slot_list_append PySem.F.type_list_append mt_append (pv 4) (pa_cons (pe_tup (pa_cons (pv 5) (pa_cons (pv 6) pa_nil))) pa_nil)))
          (pss_one (ps_expr (pe_bm PySem.F.plainAttrs_list PySem.F.slot_list_extend PySem.F.type_list_extend mt_extend (pv 4) (pa_cons (pe_lc (own := [("child", 9)]) (g := gName 9) (tt := tYes) (te := tTup (tCons (tVar 9) (tCons (tC .non) tNil))) rfl nd (pi_list (pe_revL (pv 6)))
            (blkOk_by (N := ["root", "children", "made", "done", "todo", "node", "below", "first", "told", "child"]) (sc := defScope sFolded) (by decide +kernel)) (fun _ _ _ _ _ => pg_name (i := 9) nd rfl (Or.inl rfl)) (fun _ _ _ _ _ => pts_nil) (fun _ _ _ _ _ => pe_tup (pa_cons (pv 9) (pa_cons pe_non pa_nil)))) pa_nil))))))
          (pss_cons (ps_set (i := 7) nd rfl (Or.inl rfl) (pe_op op_sub (pe_callB call_len_seq (by rfl) hln PySem.boot_len (pa_cons (pv 3) pa_nil)) (pe_callB call_len_seq (by rfl) hln PySem.boot_len (pa_cons (pv 6) pa_nil))))
          (pss_cons (ps_set (i := 8) nd rfl (Or.inl rfl) (pe_slice sl_list (pv 3) (po_some (pv 7)) po_none))
          (pss_cons (ps_delT (pv 3) (po_some (pv 7)))
          (pss_one (ps_expr (pe_bm PySem.F.plainAttrs_list PySem.F.slot_list_append PySem.F.type_list_append mt_append (pv 3) (pa_cons (hcall (pa_cons (pv 5) (pa_cons (pv 8) pa_nil)) rfl rfl) pa_nil)))))))))))
      (pss_one (ps_ret (pe_ix ix_list (pv 3) pe_int fun _ _ => rfl))))), ?_⟩
    have big : (20000 : Nat) ≤ sizeLine := by decide
    refine ⟨Nat.zero_le _, fun ld hld => ?_⟩
    have s1 := same_upd (o := .lst []) hld
    refine ⟨_, rfl, (by show 2 ≤ sizeLine; decide), fun t0 ht0 => ⟨(by show 1 ≤ sizeLine; decide), fun lo hlo => ?_⟩⟩
    have ldt : ld ≠ t0 := fun z => by rw [← z, upd_same] at ht0; cases ht0
    have ldo : ld ≠ lo := fun z => by rw [← z, upd_ne ldt, upd_same] at hlo; cases hlo
    have t0o : t0 ≠ lo := fun z => by rw [← z, upd_same] at hlo; cases hlo
    have s2 := Same.trans s1 (same_upd (o := .tup [v, .non]) ht0)
    have s3 := Same.trans s2 (same_upd (o := .lst [.ref t0]) hlo)
    have hlo0 : H lo = none := Same.free s2 hlo
    have ht00 : H t0 = none := Same.free s1 ht0
    have out : ∀ {b : Addr}, H b = none → b ∉ S := fun {b} hb hS => by
      obtain ⟨o, e⟩ := FP.trk H hSt b hS
      rw [hb] at e
      cases e
    have ldS := out hld
    have loS := out hlo0
    have t0S := out ht00
    have al : ∀ H' H'', Same H' H'' → (Same (delS S H) (delS S H') ∧ St H' ∧ ∀ d v, G d v H → G d v H') → (Same (delS S H) (delS S H'') ∧ St H'' ∧ ∀ d v, G d v H → G d v H'') ∧ ∀ d v, G d v H' → G d v H'' := fun H' H'' s W => by
      obtain ⟨a1, a2⟩ := FP.alc H' H'' s W.2.1
      exact ⟨⟨Same.trans W.1 (delS_same s), a1, fun d v g => a2 d v (W.2.2 d v g)⟩, a2⟩
    have up : ∀ H' c ys zs, H c = none → H' c = some (.lst ys) → (Same (delS S H) (delS S H') ∧ St H' ∧ ∀ d v, G d v H → G d v H') → (Same (delS S H) (delS S (L2.upd H' c (.lst zs))) ∧ St (L2.upd H' c (.lst zs)) ∧ ∀ d v, G d v H → G d v (L2.upd H' c (.lst zs))) ∧ ∀ d v, G d v H' → G d v (L2.upd H' c (.lst zs)) := fun H' c ys zs hc hl W => by
      obtain ⟨a1, a2⟩ := FP.upl H' c ys zs (out hc) hl W.2.1
      refine ⟨⟨fun b o e => ?_, a1, fun d v g => a2 d v (W.2.2 d v g)⟩, a2⟩
      obtain ⟨e1, e2⟩ := delS_inv e
      rw [delS_of e1, upd_ne (ne_of_none e2 hc)]
      exact (delS_inv (W.1 b o e)).2
    have W0 := (al H _ s3 ⟨Same.refl _, hSt, fun _ _ g => g⟩).1
    refine ⟨fun m σ H' => ∃ tr I us D c5 c6 c7 c8, m = meas I ∧ σ = [some v, some (.ref fa), some mk, some (.ref ld), some (.ref lo), c5, c6, c7, c8, none] ∧ (Same (delS S H) (delS S H') ∧ St H' ∧ ∀ d v, G d v H → G d v H') ∧ H' ld = some (.lst us) ∧ H' lo = some (.lst tr.reverse) ∧ StkR K Pd (delS (ld :: lo :: S) H') tr I ∧ All2 (fun d v => G d v H') D us ∧ Exec I D [d0] ∧ D.length + meas I ≤ 10000,
      ⟨_, [.ref t0], [.op d0], [], [], none, none, none, none, rfl, rfl, W0, ?_, upd_same, ?_, .nil, .op .nil, ?_⟩, ?_⟩
    · rw [upd_ne ldo, upd_ne ldt, upd_same]
    · have hz : ∀ b, b ≠ ld → b ≠ lo → b ∉ S → b ∉ ld :: lo :: S := fun b h1 h2 h3 h => by
        simp only [List.mem_cons] at h
        rcases h with h | h | h
        · exact h1 h
        · exact h2 h
        · exact h3 h
      refine .op (by rw [delS_of (hz t0 ldt.symm t0o t0S), upd_ne t0o, upd_same]) (dp_same (fun b o e => ?_) _ _ hd) hok .nil
      obtain ⟨e1, e2⟩ := delS_inv e
      rw [delS_of (hz b (ne_of_none e2 hld) (ne_of_none e2 hlo0) e1)]
      exact s3 _ _ e2
    · show 0 + (2 * fsz d0 + 0) ≤ 10000
      omega
    · rintro m σ H0 ⟨tr, I, us, D, c5, c6, c7, c8, rfl, rfl, W, hL, hT, hK, hG, hE, hB⟩
      have itr := hK.len
      have iml := meas_len I
      have lus := hG.len
      refine ⟨_, rfl, !tr.reverse.isEmpty, .inl ⟨tr.reverse, SqL.of hT, rfl⟩, ?_⟩
      cases hK with
      | nil =>
        refine iteF ?_
        cases hE
        cases hG with
        | cons g1 g2 =>
          cases g2
          exact ⟨_, rfl, ld, _, 0, _, rfl, rfl, SqL.of hL, rfl, qq _ _ W.1 W.2.1 g1 W.2.2⟩
      | @op t vn d tr I k1 k2 k3 k4 =>
        rw [show (!(V.ref t :: tr).reverse.isEmpty) = true by simp]
        refine iteT ?_
        refine ⟨_, fun _ _ z => z, ?_⟩
        have hne : ((V.ref t :: tr).reverse)[(V.ref t :: tr).reverse.length - 1]? = some (.ref t) := by simp
        have hdl : (V.ref t :: tr).reverse.dropLast = tr.reverse := by simp
        obtain ⟨tS, ht⟩ := delS_inv k1
        have tlo : t ≠ lo := fun z => tS (by rw [z]; simp)
        refine ⟨_, rfl, .inl ⟨rfl, _, SqL.of hT⟩, lo, _, .ref t, rfl, rfl, hT, hne, ?_⟩
        rw [hdl]
        obtain ⟨W1, G1⟩ := up H0 lo _ tr.reverse hlo0 hT W
        have L1 : (L2.upd H0 lo (.lst tr.reverse)) ld = some (.lst us) := by rw [upd_ne ldo]; exact hL
        have T1 : (L2.upd H0 lo (.lst tr.reverse)) lo = some (.lst tr.reverse) := upd_same
        have t1 : (L2.upd H0 lo (.lst tr.reverse)) t = H0 t := upd_ne tlo
        have Z1 : delS (ld :: lo :: S) (L2.upd H0 lo (.lst tr.reverse)) = delS (ld :: lo :: S) H0 := delS_upd (by simp)
        have hG1 := hG.imp G1
        generalize (L2.upd H0 lo (.lst tr.reverse)) = H1 at W1 L1 T1 t1 Z1 hG1 ⊢
        rw [ht] at t1
        rw [← Z1] at k2 k4
        refine ⟨t, _, rfl, SqT.of t1, rfl, ?_⟩
        refine ⟨_, _, rfl, _, _, rfl, rfl, ?_⟩
        refine ⟨_, rfl, rfl, _, rfl, iteT ?_⟩
        obtain ⟨as, das, spA⟩ := args_of k2 (FP.sub d k3).1
        have las := dpAll_len das
        rw [meas] at hB
        have fz := fsz_args d
        have fl := fszs_len (argsD d)
        refine ⟨rfl, _, rfl, vn, rfl, args_or spA delS_sub fun lb H2 s2 hlb elb => ?_⟩
        obtain ⟨W2, G2⟩ := al H1 H2 s2 W1
        have hG2 := hG1.imp G2
        have L2' := s2 _ _ L1
        have T2 := s2 _ _ T1
        have sz2 : Same (delS (ld :: lo :: S) H1) (delS (ld :: lo :: S) H2) := delS_same s2
        have k2' := dp_same sz2 _ _ k2
        have k4' := k4.mono sz2
        have das2 := dpAll_same sz2 _ _ das
        have lbld : lb ≠ ld := fun z => by rw [z, L1] at hlb; cases hlb
        have lblo : lb ≠ lo := fun z => by rw [z, T1] at hlb; cases hlb
        have outW : ∀ {H' : Hp} {b : Addr}, St H' → H' b = none → b ∉ S := fun {H' b} st hb hS => by
          obtain ⟨o, e⟩ := FP.trk H' st b hS
          rw [hb] at e
          cases e
        have lbS := outW W1.2.1 hlb
        refine ⟨_, rfl, .inl ⟨rfl, _, SqL.of T2⟩, _, rfl, _, rfl, (by show 2 ≤ sizeLine; decide), fun t2 ht2 => ?_⟩
        have t2ld : t2 ≠ ld := fun z => by rw [z, L2'] at ht2; cases ht2
        have t2lo : t2 ≠ lo := fun z => by rw [z, T2] at ht2; cases ht2
        have t2S := outW W2.2.1 ht2
        have s3' := same_upd (o := .tup [vn, .ref lb]) ht2
        have e3 : (L2.upd H2 t2 (.tup [vn, .ref lb])) t2 = some (.tup [vn, .ref lb]) := upd_same
        obtain ⟨W3, G3⟩ := al H2 _ s3' W2
        have hG3 := hG2.imp G3
        have L3 := s3' _ _ L2'
        have T3 := s3' _ _ T2
        have elb3 := s3' _ _ elb
        have sz3 : Same (delS (ld :: lo :: S) H2) (delS (ld :: lo :: S) (L2.upd H2 t2 (.tup [vn, .ref lb]))) := delS_same s3'
        generalize (L2.upd H2 t2 (.tup [vn, .ref lb])) = H3 at s3' e3 W3 G3 hG3 L3 T3 elb3 sz3 ⊢
        have k2'' := dp_same sz3 _ _ k2'
        have k4'' := k4'.mono sz3
        have das3 := dpAll_same sz3 _ _ das2
        refine ⟨lo, _, .ref t2, rfl, rfl, T3, Nat.lt_of_lt_of_le (show tr.reverse.length < 20000 by rw [List.length_reverse]; have := k4.len; have := meas_len I; omega) big, ?_⟩
        obtain ⟨W4, G4⟩ := up H3 lo _ (tr.reverse ++ [.ref t2]) hlo0 T3 W3
        have hG4 := hG3.imp G4
        have L4 : (L2.upd H3 lo (.lst (tr.reverse ++ [.ref t2]))) ld = some (.lst us) := by rw [upd_ne ldo]; exact L3
        have T4 : (L2.upd H3 lo (.lst (tr.reverse ++ [.ref t2]))) lo = some (.lst (tr.reverse ++ [.ref t2])) := upd_same
        have e4 : (L2.upd H3 lo (.lst (tr.reverse ++ [.ref t2]))) t2 = some (.tup [vn, .ref lb]) := by rw [upd_ne t2lo]; exact e3
        have elb4 : (L2.upd H3 lo (.lst (tr.reverse ++ [.ref t2]))) lb = some (.lst as) := by rw [upd_ne lblo]; exact elb3
        have Z4 : delS (ld :: lo :: S) (L2.upd H3 lo (.lst (tr.reverse ++ [.ref t2]))) = delS (ld :: lo :: S) H3 := delS_upd (by simp)
        generalize (L2.upd H3 lo (.lst (tr.reverse ++ [.ref t2]))) = H4 at W4 hG4 L4 T4 e4 elb4 Z4 ⊢
        rw [← Z4] at k2'' k4'' das3
        have inZ : ∀ {b : Addr}, b ≠ ld → b ≠ lo → b ∉ S → b ∉ ld :: lo :: S := fun {b} h1 h2 h3 h => by
          simp only [List.mem_cons] at h
          rcases h with h | h | h
          · exact h1 h
          · exact h2 h
          · exact h3 h
        have stk4 : StkR K Pd (delS (ld :: lo :: S) H4) (.ref t2 :: tr) (.cl d :: I) := .cl (by rw [delS_of (inZ t2ld t2lo t2S)]; exact e4) k2'' k3 (by rw [delS_of (inZ lbld lblo lbS)]; exact elb4) las k4''
        refine ⟨_, rfl, .inl ⟨rfl, _, SqL.of T4⟩, _, rfl, lb, _, rfl, SqL.of elb4, fun p1 hp1 => ?_⟩
        have s5 := same_upd (o := .lst as.reverse) hp1
        have e5 : (L2.upd H4 p1 (.lst as.reverse)) p1 = some (.lst as.reverse) := upd_same
        obtain ⟨W5, G5⟩ := al H4 _ s5 W4
        have hG5 := hG4.imp G5
        have L5 := s5 _ _ L4
        have T5 := s5 _ _ T4
        have sz5 : Same (delS (ld :: lo :: S) H4) (delS (ld :: lo :: S) (L2.upd H4 p1 (.lst as.reverse))) := delS_same s5
        generalize (L2.upd H4 p1 (.lst as.reverse)) = H5 at s5 e5 W5 hG5 L5 T5 sz5 ⊢
        have das5 := dpAll_same sz5 _ _ das3
        have stk5 := stk4.mono sz5
        have das5r : ∀ (i : Nat) (y : V), as.reverse[i]? = some y → ∃ e, (argsD d).reverse[i]? = some e ∧ Dp K (delS (ld :: lo :: S) H5) y e := fun i y e => by
          have hi : i < as.length := by
            have := (List.getElem?_eq_some_iff.mp e).1
            simpa using this
          rw [List.getElem?_reverse hi] at e
          obtain ⟨e', h1, h2⟩ := dpAll_get' das5 e
          refine ⟨e', ?_, h2⟩
          rw [List.getElem?_reverse (by omega), ← las]
          exact h1
        refine ⟨p1, rfl, ⟨_, SqL.of e5⟩, fun D1 hD1 => ?_⟩
        have D1ld : D1 ≠ ld := fun z => by rw [z, L5] at hD1; cases hD1
        have D1lo : D1 ≠ lo := fun z => by rw [z, T5] at hD1; cases hD1
        refine lc_it (walk_list (xs := as.reverse)) (fun i H' => ∃ ks, Same H5 H' ∧ H' D1 = some (.lst ks) ∧ ks.length = i ∧ StkR K Pd (delS (D1 :: ld :: lo :: S) H') ks.reverse (((argsD d).reverse.take i).reverse.map .op))
          ⟨[], same_upd hD1, upd_same, rfl, .nil⟩ (fun i H' hi hp => by obtain ⟨_, sm, _⟩ := hp; exact SqL.of (sm _ _ e5)) (fun i y H5' H' hi hp hy => ?_) (fun H6 hp => ?_)
        · obtain ⟨ks, sm, hD, hl, hst⟩ := hp
          obtain ⟨rfl, ey⟩ := hy
          obtain ⟨e, he, hye⟩ := das5r i y ey
          have hi' : i < as.length := by simpa using hi
          refine ⟨rfl, lcYes ?_⟩
          refine ⟨_, rfl, (by show 2 ≤ sizeLine; decide), fun tk htk => ?_⟩
          have tkD : tk ≠ D1 := fun z => by rw [z, hD] at htk; cases htk
          have tkld : tk ≠ ld := fun z => by rw [z, sm _ _ L5] at htk; cases htk
          have tklo : tk ≠ lo := fun z => by rw [z, sm _ _ T5] at htk; cases htk
          have st' := (al H5 _ sm W5).1.2.1
          have tkS := outW st' htk
          have sk := same_upd (o := .tup [y, .non]) htk
          refine ⟨ks, sk _ _ hD, Nat.lt_of_lt_of_le (show ks.length < 20000 by omega) big, ks ++ [.ref tk], ?_, upd_same, by rw [List.length_append, hl]; rfl, ?_⟩
          · intro b o e'
            have := sm b o e'
            rw [upd_ne (ne_of_none e' hD1)]
            exact sk _ _ this
          · rw [List.reverse_append, List.take_succ, he]
            rw [delS_upd (by simp)]
            have kz : tk ∉ D1 :: ld :: lo :: S := fun h => by
              rcases List.mem_cons.mp h with h | h
              · exact tkD h
              · exact inZ tkld tklo tkS h
            rw [show (List.take i (argsD d).reverse ++ (some e).toList).reverse = e :: (List.take i (argsD d).reverse).reverse by simp]
            refine .op (by rw [delS_of kz, upd_same]) (dp_same (fun b o e' => ?_) _ _ hye) ((FP.sub d k3).2 e ?_) (hst.mono (delS_same sk))
            · obtain ⟨z1, z2⟩ := delS_inv e'
              have bD : b ≠ D1 := ne_of_none z2 hD1
              rw [delS_of (fun h => by
                rcases List.mem_cons.mp h with h | h
                · exact bD h
                · exact z1 h)]
              exact sk _ _ (sm _ _ z2)
            · exact List.mem_reverse.mp (List.mem_of_getElem? he)
        · obtain ⟨ks, sm, hD, hl, hst⟩ := hp
          have lk : ks.length = as.length := by simpa using hl
          obtain ⟨W6, G6⟩ := al H5 H6 sm W5
          have hG6 := hG5.imp G6
          have L6 := sm _ _ L5
          have T6 := sm _ _ T5
          refine ⟨lo, D1, _, ks, rfl, rfl, T6, hD, Nat.le_trans (show (tr.reverse ++ [V.ref t2]).length + ks.length ≤ 20000 by rw [List.length_append, List.length_reverse, List.length_singleton]; have := k4.len; have := meas_len I; omega) big, ?_⟩
          obtain ⟨W7, G7⟩ := up H6 lo _ (tr.reverse ++ [.ref t2] ++ ks) hlo0 T6 W6
          have er : (List.take as.reverse.length (argsD d).reverse).reverse = argsD d := by
            rw [List.take_of_length_le (by rw [List.length_reverse, List.length_reverse]; omega), List.reverse_reverse]
          rw [er] at hst
          refine ⟨meas ((argsD d).map .op ++ .cl d :: I), ?_, ks.reverse ++ .ref t2 :: tr, (argsD d).map .op ++ .cl d :: I, us, D, _, _, _, _, rfl, rfl, W7, (by rw [upd_ne ldo]; exact L6), (by rw [upd_same]; simp), ?_, hG6.imp G7, exec_ops _ _ (.cl (by cases hE with | op h => exact h)), ?_⟩
          · rw [meas_ops, meas, meas]
            omega
          · rw [delS_upd (by simp)]
            refine (hst.mono (delS_less fun b hb => List.mem_cons_of_mem _ hb)).app (stk5.mono (delS_same sm))
          · rw [meas_ops, meas]
            omega
      | @cl t b vn bs d tr I k1 k2 k3 k4 k5 k6 =>
        rw [show (!(V.ref t :: tr).reverse.isEmpty) = true by simp]
        refine iteT ?_
        refine ⟨_, fun _ _ z => z, ?_⟩
        have hne : ((V.ref t :: tr).reverse)[(V.ref t :: tr).reverse.length - 1]? = some (.ref t) := by simp
        have hdl : (V.ref t :: tr).reverse.dropLast = tr.reverse := by simp
        obtain ⟨tS, ht⟩ := delS_inv k1
        have tlo : t ≠ lo := fun z => tS (by rw [z]; simp)
        refine ⟨_, rfl, .inl ⟨rfl, _, SqL.of hT⟩, lo, _, .ref t, rfl, rfl, hT, hne, ?_⟩
        rw [hdl]
        obtain ⟨W1, G1⟩ := up H0 lo _ tr.reverse hlo0 hT W
        have L1 : (L2.upd H0 lo (.lst tr.reverse)) ld = some (.lst us) := by rw [upd_ne ldo]; exact hL
        have T1 : (L2.upd H0 lo (.lst tr.reverse)) lo = some (.lst tr.reverse) := upd_same
        have t1 : (L2.upd H0 lo (.lst tr.reverse)) t = H0 t := upd_ne tlo
        have Z1 : delS (ld :: lo :: S) (L2.upd H0 lo (.lst tr.reverse)) = delS (ld :: lo :: S) H0 := delS_upd (by simp)
        have hG1 := hG.imp G1
        generalize (L2.upd H0 lo (.lst tr.reverse)) = H1 at W1 L1 T1 t1 Z1 hG1 ⊢
        rw [ht] at t1
        rw [← Z1] at k2 k4 k6
        obtain ⟨bS, hb⟩ := delS_inv k4
        have blo : b ≠ lo := fun z => bS (by rw [z]; simp)
        have ldb : ld ≠ b := fun z => bS (by rw [z]; simp)
        refine ⟨t, _, rfl, SqT.of t1, rfl, ?_⟩
        refine ⟨_, _, rfl, _, _, rfl, rfl, ?_⟩
        refine ⟨_, rfl, rfl, _, rfl, iteF ?_⟩
        rw [meas] at hB
        have fz := fsz_args d
        cases hE with
        | @cl d I D F hE' =>
          rw [List.length_append] at hB lus
          obtain ⟨gl, gr⟩ := hG1.split
          refine ⟨_, rfl, ld, us, rfl, .inl (SqL.of L1), _, rfl, b, bs, rfl, .inl (SqL.of hb), _, _, rfl, rfl, ?_⟩
          have ek : (us.length : Int) - (bs.length : Int) = ((D.length : Nat) : Int) := by omega
          refine ⟨_, rfl, _, rfl, (us.length : Int) - (bs.length : Int), rfl, ld, us, rfl, SqL.of L1, fun p1 hp1 => ?_⟩
          rw [show cutV us (some ((us.length : Int) - (bs.length : Int))) none = us.drop D.length by rw [ek]; exact cut_fromV us D.length]
          have s5 := same_upd (o := .lst (us.drop D.length)) hp1
          have e5 : (L2.upd H1 p1 (.lst (us.drop D.length))) p1 = some (.lst (us.drop D.length)) := upd_same
          have p1ld : p1 ≠ ld := fun z => by rw [z, L1] at hp1; cases hp1
          have p1lo : p1 ≠ lo := fun z => by rw [z, T1] at hp1; cases hp1
          have p1S : p1 ∉ S := fun hS => by
            obtain ⟨o, e⟩ := FP.trk H1 W1.2.1 p1 hS
            rw [hp1] at e
            cases e
          obtain ⟨W5, G5⟩ := al H1 _ s5 W1
          have gl5 := gl.imp G5
          have gr5 := gr.imp G5
          have L5 := s5 _ _ L1
          have T5 := s5 _ _ T1
          have sz5 : Same (delS (ld :: lo :: S) H1) (delS (ld :: lo :: S) (L2.upd H1 p1 (.lst (us.drop D.length)))) := delS_same s5
          generalize (L2.upd H1 p1 (.lst (us.drop D.length))) = H5 at s5 e5 W5 gl5 gr5 L5 T5 sz5 ⊢
          refine ⟨_, rfl, _, rfl, (us.length : Int) - (bs.length : Int), rfl, ld, us, D.length, rfl, congrArg some ek, L5, by omega, ?_⟩
          obtain ⟨W6, G6⟩ := up H5 ld _ (us.take D.length) hld L5 W5
          have gl6 := gl5.imp G6
          have gr6 := gr5.imp G6
          have L6 : (L2.upd H5 ld (.lst (us.take D.length))) ld = some (.lst (us.take D.length)) := upd_same
          have T6 : (L2.upd H5 ld (.lst (us.take D.length))) lo = some (.lst tr.reverse) := by rw [upd_ne ldo.symm]; exact T5
          have e6 : (L2.upd H5 ld (.lst (us.take D.length))) p1 = some (.lst (us.drop D.length)) := by rw [upd_ne p1ld]; exact e5
          have Z6 : delS (ld :: lo :: S) (L2.upd H5 ld (.lst (us.take D.length))) = delS (ld :: lo :: S) H5 := delS_upd (by simp)
          generalize (L2.upd H5 ld (.lst (us.take D.length))) = H6 at W6 gl6 gr6 L6 T6 e6 Z6 ⊢
          have k2' := dp_same sz5 _ _ k2
          have k6' := k6.mono sz5
          rw [← Z6] at k2' k6'
          have q6 : Pk H6 := pkK H6 W6.1
          refine ⟨_, rfl, .inl ⟨rfl, _, SqL.of L6⟩, rfl, q6, _, rfl, _, rfl, q6, ?_⟩
          refine FP.made d vn p1 (us.drop D.length) H6 _ W6.1 W6.2.1 k3 (dp_same (delS_less fun b hb => List.mem_cons_of_mem _ (List.mem_cons_of_mem _ hb)) _ _ k2') p1S e6 gr6 fun r H7 s7 st7 g7 gd => ?_
          have L7 : H7 ld = some (.lst (us.take D.length)) := (delS_inv (s7 ld _ (by rw [delS_of ldS]; exact L6))).2
          have T7 : H7 lo = some (.lst tr.reverse) := (delS_inv (s7 lo _ (by rw [delS_of loS]; exact T6))).2
          have W7 : Same (delS S H) (delS S H7) ∧ St H7 ∧ ∀ d v, G d v H → G d v H7 := ⟨Same.trans W6.1 s7, st7, fun d v h => g7 d v (W6.2.2 d v h)⟩
          refine ⟨ld, _, r, rfl, rfl, L7, Nat.lt_of_lt_of_le (show (us.take D.length).length < 20000 by rw [List.length_take]; omega) big, ?_⟩
          obtain ⟨W8, G8⟩ := up H7 ld _ (us.take D.length ++ [r]) hld L7 W7
          refine ⟨meas I, by rw [meas]; omega, tr, I, us.take D.length ++ [r], D ++ [d], _, _, _, _, rfl, rfl, W8, upd_same, (by rw [upd_ne ldo.symm]; exact T7), ?_, ((gl6.imp g7).imp G8).app (.cons (G8 _ _ gd) .nil), hE', ?_⟩
          · rw [delS_upd (by simp)]
            exact k6'.mono (delS_in (fun b hb => List.mem_cons_of_mem _ (List.mem_cons_of_mem _ hb)) s7)
          · rw [List.length_append, List.length_singleton]
            omega
variable {g : Addr} {sp : Sp} {k : Nat}
theorem ok_folded {f : Addr} {fd : FuncData} (F : Fun K "folded" "folded" sFolded f fd) (hln : mg "len" = none) (FA : FnOk P w K mg base CX0 1 fa da ["term"] (spArgs K)) (bA : Binds K da ["term"] []) (kA : PySem.W.keepIn K (.ref fa) = true)
    (FG : FnR P w K mg base CX0 (k + 1) g sp) (hg : PySem.W.fnIn K g = true) : FnOk P w K mg base CX0 (k + 2) f fd ["root", "children", "made"] (spFold K fa g sp) := by
  refine F.ok scFd (fun vs H Q E h => ?_) (fun cdv A outer s H vs Q E hr h => ?_)
  · obtain ⟨v, q, a, d, Pd, S, St, G, rfl, _⟩ := h
    rfl
  · obtain ⟨v, q, a, d, Pd, S, St, G, rfl, hq, hqS, hok, hsz, hd, hSt, FP, qq⟩ := h
    refine fold_body (mk := .ref q) (Pk := fun H' => H' q = some (.met g a)) (CM := fun vs H' Q' => sp (.ref a :: vs) H' Q' E0) hln FA bA kA (hr.mono (by omega)) (fun {e1 e2 t p pos} ha he hpl => ?_)
      ⟨v, d, Pd, S, St, G, rfl, fun H' sm => (delS_inv (sm q _ (by rw [delS_of hqS]; exact hq))).2, hok, hsz, hd, hSt, FP, qq⟩
    have z := pe_callM (i := 2) (x := "made") (p := p) (pos := pos) FG (hr.mono (by omega)) hg rfl (Or.inl rfl) pass0 ha (he := he) (hpl := hpl)
    refine ⟨fun pins s1 σ H1 Q1 I h1 => z.run pins s1 σ H1 Q1 I ?_⟩
    obtain ⟨m1, m2, m3⟩ := h1
    exact ⟨q, a, m1, m2, m3⟩
end
end Sg

set_option maxRecDepth 100000
set_option maxHeartbeats 8000000
namespace Sg
open PySem PySem.Spec PyProof.Rows L2 Dr Gd Er Cm LD CM
/-! terms by number: what is in the tables, without the heap -/
mutual
def okN (U : Str → Bool) : PyData → Bool
  | .str z => U z
  | .tuple (.str h :: r) => !U h && okNs U r
  | _ => false
def okNs (U : Str → Bool) : List PyData → Bool
  | [] => true
  | d :: r => okN U d && okNs U r
end
theorem okN_case {U : Str → Bool} {d : PyData} (h : okN U d = true) : (∃ z, d = .str z ∧ U z = true) ∨ ∃ z r, d = .tuple (.str z :: r) ∧ U z = false ∧ okNs U r = true := by
  cases d with
  | str z => rw [okN] at h; exact .inl ⟨z, rfl, h⟩
  | tuple ds =>
    cases ds with
    | nil => simp [okN] at h
    | cons e r =>
      cases e with
      | str z =>
        rw [okN, Bool.and_eq_true] at h
        exact .inr ⟨z, r, rfl, by simpa using h.1, h.2⟩
      | _ => simp [okN] at h
  | _ => simp [okN] at h
theorem okNs_mem {U : Str → Bool} : ∀ {ds : List PyData}, okNs U ds = true → ∀ d ∈ ds, okN U d = true
  | [], _, d, hd => by cases hd
  | e :: r, h, d, hd => by
    rw [okNs, Bool.and_eq_true] at h
    rcases List.mem_cons.mp hd with rfl | hd
    · exact h.1
    · exact okNs_mem h.2 d hd
theorem okN_args {U : Str → Bool} {d : PyData} (h : okN U d = true) : okNs U (argsD d) = true := by
  rcases okN_case h with ⟨z, rfl, _⟩ | ⟨z, r, rfl, _, h2⟩
  · rfl
  · exact h2
mutual
theorem okN_F {U : Str → Bool} : ∀ d : PyData, okN U d = true → okF d = true
  | .str z, _ => by simp [okF]
  | .tuple [], h => by simp [okN] at h
  | .tuple (e :: r), h => by
    rcases okN_case h with ⟨z, e, _⟩ | ⟨z, r', e, _, h2⟩
    · cases e
    · injection e with e
      injection e with e1 e2
      subst e2
      rw [okF]
      exact okNs_F r h2
  | .none, h => by simp [okN] at h
  | .bool _, h => by simp [okN] at h
  | .int _, h => by simp [okN] at h
  | .list _, h => by simp [okN] at h
  | .dict _, h => by simp [okN] at h
theorem okNs_F {U : Str → Bool} : ∀ ds : List PyData, okNs U ds = true → okFs ds = true
  | [], _ => by simp [okFs]
  | d :: r, h => by
    rw [okNs, Bool.and_eq_true] at h
    rw [okFs, okN_F d h.1, okNs_F r h.2]
    rfl
end
def headV : PyData → V
  | .tuple (.str h :: _) => .str h
  | _ => .non
def nK (n : Nat) : Key := .inl (n : Int)
def keyN : PyData → List Nat → List Key
  | .str z, _ => [.inr z]
  | .tuple (.str h :: _), ns => .inr h :: ns.map nK
  | _, _ => []
/-- ns are the numbers of ds -/
def NumL (Ts : List PyData) (ns : List Nat) (ds : List PyData) : Prop := ns.map (fun n => Ts[n]?) = ds.map some
theorem NumL.app {Ts Us : List PyData} : ∀ {ns : List Nat} {ds : List PyData}, NumL Ts ns ds → NumL (Ts ++ Us) ns ds
  | [], ds, h => by cases ds with
    | nil => rfl
    | cons d ds => cases h
  | n :: ns, ds, h => by cases ds with
    | nil => cases h
    | cons d ds =>
      have h : Ts[n]? :: ns.map (fun n => Ts[n]?) = some d :: ds.map some := h
      injection h with h1 h2
      show (Ts ++ Us)[n]? :: ns.map (fun n => (Ts ++ Us)[n]?) = some d :: ds.map some
      rw [show ns.map (fun n => (Ts ++ Us)[n]?) = ds.map some from NumL.app (Us := Us) h2]
      have hn : n < Ts.length := (List.getElem?_eq_some_iff.mp h1).1
      rw [List.getElem?_append_left hn, h1]
theorem NumL.lt {Ts : List PyData} : ∀ {ns : List Nat} {ds : List PyData}, NumL Ts ns ds → ∀ n ∈ ns, n < Ts.length
  | [], ds, _, n, hn => by cases hn
  | m :: ns, ds, h, n, hn => by cases ds with
    | nil => cases h
    | cons d ds =>
      have h : Ts[m]? :: ns.map (fun n => Ts[n]?) = some d :: ds.map some := h
      injection h with h1 h2
      rcases List.mem_cons.mp hn with rfl | hn
      · exact (List.getElem?_eq_some_iff.mp h1).1
      · exact NumL.lt (ds := ds) h2 n hn
theorem NumL.inj {Ts : List PyData} {ns : List Nat} {ds es : List PyData} (h : NumL Ts ns ds) (g : NumL Ts ns es) : ds = es := by
  have : ds.map some = es.map some := h.symm.trans g
  exact (List.map_inj_right (fun a b e => Option.some.inj e)).mp this
theorem nodup_at {α : Type} {l : List α} (nd : l.Nodup) {i j : Nat} {a : α} (h1 : l[i]? = some a) (h2 : l[j]? = some a) : i = j := by
  exact (List.getElem?_inj (List.getElem?_eq_some_iff.mp h1).1 nd).mp (h1.trans h2.symm)
theorem NumL.uniq {Ts : List PyData} (nd : Ts.Nodup) : ∀ {ns ms : List Nat} {ds : List PyData}, NumL Ts ns ds → NumL Ts ms ds → ns = ms
  | [], ms, ds, h, g => by cases ds with
    | nil => cases ms with
      | nil => rfl
      | cons m ms => cases g
    | cons d ds => cases h
  | n :: ns, ms, ds, h, g => by cases ds with
    | nil => cases h
    | cons d ds => cases ms with
      | nil => cases g
      | cons m ms =>
        have h : Ts[n]? :: ns.map (fun n => Ts[n]?) = some d :: ds.map some := h
        have g : Ts[m]? :: ms.map (fun n => Ts[n]?) = some d :: ds.map some := g
        injection h with h1 h2
        injection g with g1 g2
        rw [nodup_at nd h1 g1, NumL.uniq nd (ds := ds) h2 g2]
theorem key_inj {U : Str → Bool} {Ts : List PyData} {d e : PyData} {ns ms : List Nat} (hd : okN U d = true) (he : okN U e = true) (h : NumL Ts ns (argsD d)) (g : NumL Ts ms (argsD e)) (k : keyN d ns = keyN e ms) : d = e := by
  rcases okN_case hd with ⟨z, rfl, hz⟩ | ⟨z, r, rfl, hz, hr⟩ <;> rcases okN_case he with ⟨y, rfl, hy⟩ | ⟨y, s, rfl, hy, hs⟩
  · have k : [(Sum.inr z : Key)] = [.inr y] := k
    injection k with k
    injection k with k
    rw [k]
  · have k : [(Sum.inr z : Key)] = (Sum.inr y : Key) :: ms.map nK := k
    injection k with k
    injection k with k
    rw [k, hy] at hz
    cases hz
  · have k : ((Sum.inr z : Key) :: ns.map nK) = [(Sum.inr y : Key)] := k
    injection k with k
    injection k with k
    rw [k, hy] at hz
    cases hz
  · have k : ((Sum.inr z : Key) :: ns.map nK) = .inr y :: ms.map nK := k
    injection k with k1 k2
    injection k1 with k1
    have e2 : ns = ms := (List.map_inj_right (fun a b e => by have e : (Sum.inl (a : Int) : Key) = .inl (b : Int) := e; injection e with e; omega)).mp k2
    subst e2
    have : r = s := h.inj g
    rw [k1, this]
/-- the tables -/
structure WfN (U : Str → Bool) (Ts : List PyData) (Ns : List (List Nat)) : Prop where
  len : Ns.length = Ts.length
  nd : Ts.Nodup
  ok : ∀ d ∈ Ts, okN U d = true
  num : ∀ (i : Nat) (d : PyData) (ns : List Nat), Ts[i]? = some d → Ns[i]? = some ns → NumL Ts ns (argsD d) ∧ ∀ n ∈ ns, n < i
def knownF : List PyData → List (List Nat) → Nat → List (List Key × V)
  | d :: Ts, ns :: Ns, i => (keyN d ns, .int (i : Int)) :: knownF Ts Ns (i + 1)
  | _, _, _ => []
theorem known_len : ∀ (Ts : List PyData) (Ns : List (List Nat)) (i : Nat), (knownF Ts Ns i).length ≤ Ts.length
  | [], _, _ => by simp [knownF]
  | _ :: _, [], _ => by simp [knownF]
  | d :: Ts, ns :: Ns, i => by
    have := known_len Ts Ns (i + 1)
    rw [knownF, List.length_cons, List.length_cons]
    omega
theorem known_app : ∀ (Ts : List PyData) (Ns : List (List Nat)) (i : Nat) (d : PyData) (ns : List Nat), Ns.length = Ts.length → knownF (Ts ++ [d]) (Ns ++ [ns]) i = knownF Ts Ns i ++ [(keyN d ns, .int ((i + Ts.length : Nat) : Int))]
  | [], [], i, d, ns, _ => rfl
  | [], _ :: _, _, _, _, h => by cases h
  | _ :: _, [], _, _, _, h => by cases h
  | e :: Ts, ms :: Ns, i, d, ns, h => by
    show (keyN e ms, V.int (i : Int)) :: knownF (Ts ++ [d]) (Ns ++ [ns]) (i + 1) = _
    rw [known_app Ts Ns (i + 1) d ns (by simpa using h)]
    show _ = (keyN e ms, V.int (i : Int)) :: (knownF Ts Ns (i + 1) ++ [(keyN d ns, V.int ((i + (Ts.length + 1) : Nat) : Int))])
    rw [show i + (Ts.length + 1) = i + 1 + Ts.length by omega]
theorem known_val (k : List Key) : ∀ (Ts : List PyData) (Ns : List (List Nat)) (i : Nat), Ns.length = Ts.length →
    (∃ (j : Nat) (d : PyData) (ns : List Nat), Ts[j]? = some d ∧ Ns[j]? = some ns ∧ keyN d ns = k ∧ valV (knownF Ts Ns i) k = some (.int ((i + j : Nat) : Int))) ∨ ((∀ (j : Nat) (d : PyData) (ns : List Nat), Ts[j]? = some d → Ns[j]? = some ns → keyN d ns ≠ k) ∧ valV (knownF Ts Ns i) k = none)
  | [], [], i, _ => .inr ⟨fun j d ns h => by simp at h, rfl⟩
  | [], _ :: _, _, h => by cases h
  | _ :: _, [], _, h => by cases h
  | e :: Ts, ms :: Ns, i, h => by
    by_cases he : keyN e ms = k
    · exact .inl ⟨0, e, ms, rfl, rfl, he, by rw [knownF, valV_pos he]; rfl⟩
    · rw [knownF, valV_neg he]
      rcases known_val k Ts Ns (i + 1) (by simpa using h) with ⟨j, d, ns, h1, h2, h3, h4⟩ | ⟨h1, h2⟩
      · exact .inl ⟨j + 1, d, ns, h1, h2, h3, by rw [h4, show i + (j + 1) = i + 1 + j by omega]⟩
      · refine .inr ⟨fun j d ns a b => ?_, h2⟩
        cases j with
        | zero =>
          cases a
          cases b
          exact he
        | succ j => exact h1 j d ns a b
/-- a term's number is found by its key, if it has one -/
theorem known_at {U : Str → Bool} {Ts : List PyData} {Ns : List (List Nat)} (W : WfN U Ts Ns) {d : PyData} {ns : List Nat} (hd : okN U d = true) (hn : NumL Ts ns (argsD d)) :
    (∃ j : Nat, Ts[j]? = some d ∧ valV (knownF Ts Ns 0) (keyN d ns) = some (.int (j : Int))) ∨ (d ∉ Ts ∧ valV (knownF Ts Ns 0) (keyN d ns) = none) := by
  rcases known_val (keyN d ns) Ts Ns 0 W.len with ⟨j, e, ms, h1, h2, h3, h4⟩ | ⟨h1, h2⟩
  · have := key_inj (W.ok e (List.mem_of_getElem? h1)) hd (W.num j e ms h1 h2).1 hn h3
    subst this
    rw [Nat.zero_add] at h4
    exact .inl ⟨j, h1, h4⟩
  · refine .inr ⟨fun hm => ?_, h2⟩
    obtain ⟨j, hj, e⟩ := List.getElem_of_mem hm
    have a : Ts[j]? = some d := by rw [List.getElem?_eq_getElem hj, e]
    have hj2 : j < Ns.length := by rw [W.len]; exact hj
    have b : Ns[j]? = some Ns[j] := List.getElem?_eq_getElem hj2
    have := NumL.uniq W.nd (W.num j d _ a b).1 hn
    exact h1 j d _ a b (by rw [this])
theorem WfN.push {U : Str → Bool} {Ts : List PyData} {Ns : List (List Nat)} (W : WfN U Ts Ns) {d : PyData} {ns : List Nat} (hd : okN U d = true) (hn : NumL Ts ns (argsD d)) (no : d ∉ Ts) : WfN U (Ts ++ [d]) (Ns ++ [ns]) where
  len := by rw [List.length_append, List.length_append, W.len]; rfl
  nd := by
    rw [List.nodup_append]
    refine ⟨W.nd, by simp, fun a ha b hb e => ?_⟩
    rw [List.mem_singleton.mp hb] at e
    exact no (e ▸ ha)
  ok := fun e he => by
    rcases List.mem_append.mp he with he | he
    · exact W.ok e he
    · rw [List.mem_singleton.mp he]; exact hd
  num := fun i e ms h1 h2 => by
    rcases Nat.lt_or_ge i Ts.length with hi | hi
    · rw [List.getElem?_append_left hi] at h1
      rw [List.getElem?_append_left (by rw [W.len]; exact hi)] at h2
      obtain ⟨a, b⟩ := W.num i e ms h1 h2
      exact ⟨a.app, b⟩
    · rw [List.getElem?_append_right hi] at h1
      rw [List.getElem?_append_right (by rw [W.len]; exact hi), W.len] at h2
      obtain ⟨k, hk⟩ : ∃ k, i - Ts.length = k := ⟨_, rfl⟩
      rw [hk] at h1 h2
      cases k with
      | zero =>
        cases h1
        cases h2
        exact ⟨hn.app, fun n hm => by have := hn.lt n hm; omega⟩
      | succ k => simp at h1
end Sg

set_option maxRecDepth 100000
set_option maxHeartbeats 8000000
namespace Sg
open PySem PySem.Spec PyProof.Rows L2 Dr Gd Er Cm LD CM
abbrev cNum : Stmt := top 4
abbrev sNInit : Stmt := inClass cNum 0
abbrev sTake_ : Stmt := inClass cNum 1
abbrev sTW : Stmt := inClass cNum 2
abbrev sPartsOf : Stmt := inClass cNum 5
def iV (n : Nat) : V := .int (n : Int)
def PlR (Z : Hp) : List V → List (List Nat) → Prop
  | [], [] => True
  | v :: vs, ns :: Ns => (∃ a, v = .ref a ∧ Z a = some (.tup (ns.map iV))) ∧ PlR Z vs Ns
  | _, _ => False
theorem PlR.mono {Z Z' : Hp} (s : Same Z Z') : ∀ {vs : List V} {Ns : List (List Nat)}, PlR Z vs Ns → PlR Z' vs Ns
  | [], [], _ => trivial
  | [], _ :: _, h => h.elim
  | _ :: _, [], h => h.elim
  | v :: vs, ns :: Ns, ⟨⟨a, e, h⟩, r⟩ => ⟨⟨a, e, s _ _ h⟩, r.mono s⟩
theorem PlR.len {Z : Hp} : ∀ {vs : List V} {Ns : List (List Nat)}, PlR Z vs Ns → vs.length = Ns.length
  | [], [], _ => rfl
  | [], _ :: _, h => h.elim
  | _ :: _, [], h => h.elim
  | v :: vs, ns :: Ns, ⟨_, r⟩ => by rw [List.length_cons, List.length_cons, r.len]
theorem PlR.snoc {Z : Hp} {a : Addr} {ns : List Nat} (h : Z a = some (.tup (ns.map iV))) : ∀ {vs : List V} {Ns : List (List Nat)}, PlR Z vs Ns → PlR Z (vs ++ [.ref a]) (Ns ++ [ns])
  | [], [], _ => ⟨⟨a, rfl, h⟩, trivial⟩
  | [], _ :: _, h => h.elim
  | _ :: _, [], h => h.elim
  | v :: vs, ns :: Ns, ⟨x, r⟩ => ⟨x, r.snoc h⟩
theorem PlR.get {Z : Hp} : ∀ {vs : List V} {Ns : List (List Nat)} {i : Nat} {ns : List Nat}, PlR Z vs Ns → Ns[i]? = some ns → ∃ a, vs[i]? = some (.ref a) ∧ Z a = some (.tup (ns.map iV))
  | [], [], i, ns, _, e => by simp at e
  | [], _ :: _, _, _, h, _ => h.elim
  | _ :: _, [], _, _, h, _ => h.elim
  | v :: vs, ms :: Ns, 0, ns, ⟨⟨a, e1, h⟩, r⟩, e => by
    cases e
    exact ⟨a, by rw [e1]; rfl, h⟩
  | v :: vs, ms :: Ns, i + 1, ns, ⟨x, r⟩, e => r.get (i := i) e
/-- the object that numbers terms -/
structure NumAt (K : PySem.W.Frag) (CN : Addr) (U : Str → Bool) (H : Hp) (x lt lh lp dk : Addr) (Ts : List PyData) (Ns : List (List Nat)) : Prop where
  i : ∃ dx, H x = some (.ins CN dx [("terms", .ref lt), ("heads", .ref lh), ("places", .ref lp), ("_known", .ref dk)])
  t : ∃ tv, H lt = some (.lst tv) ∧ DpAll K (delS [lt, lh, lp, dk] H) tv Ts
  h : H lh = some (.lst (Ts.map headV))
  p : ∃ pv, H lp = some (.lst pv) ∧ PlR (delS [lt, lh, lp, dk] H) pv Ns
  k : H dk = some (.dT (knownF Ts Ns 0))
  wf : WfN U Ts Ns
structure NCl (K : PySem.W.Frag) (CN : Addr) : Prop where
  cl : Cls K CN
  n1 : NoAttr K CN "terms"
  n2 : NoAttr K CN "heads"
  n3 : NoAttr K CN "places"
  n4 : NoAttr K CN "_known"
section
variable {K : PySem.W.Frag} {CN : Addr} {U : Str → Bool} {H H' : Hp} {x lt lh lp dk : Addr} {Ts : List PyData} {Ns : List (List Nat)}
theorem NumAt.same (h : NumAt K CN U H x lt lh lp dk Ts Ns) (s : Same H H') : NumAt K CN U H' x lt lh lp dk Ts Ns := by
  obtain ⟨dx, a⟩ := h.i
  obtain ⟨tv, b, c⟩ := h.t
  obtain ⟨pv, d, e⟩ := h.p
  exact ⟨⟨dx, s _ _ a⟩, ⟨tv, s _ _ b, dpAll_same (delS_same s) _ _ c⟩, s _ _ h.h, ⟨pv, s _ _ d, e.mono (delS_same s)⟩, s _ _ h.k, h.wf⟩
theorem NumAt.ne (h : NumAt K CN U H x lt lh lp dk Ts Ns) : x ∉ [lt, lh, lp, dk] ∧ dk ∉ [lt, lh, lp] := by
  obtain ⟨dx, a⟩ := h.i
  obtain ⟨tv, b, c⟩ := h.t
  obtain ⟨pv, d, e⟩ := h.p
  constructor
  · intro m
    simp only [List.mem_cons, List.not_mem_nil, or_false] at m
    rcases m with m | m | m | m
    · rw [← m, a] at b; cases b
    · have := h.h; rw [← m, a] at this; cases this
    · rw [← m, a] at d; cases d
    · have := h.k; rw [← m, a] at this; cases this
  · intro m
    have k := h.k
    simp only [List.mem_cons, List.not_mem_nil, or_false] at m
    rcases m with m | m | m
    · rw [m, b] at k; cases k
    · have := h.h; rw [m, this] at k; cases k
    · rw [m, d] at k; cases k
end
def spTW (K : PySem.W.Frag) (CN : Addr) (U : Str → Bool) : Sp := fun vs H Q _ => ∃ x v l lt lh lp dk Ts Ns d ns, vs = [.ref x, v, .ref l] ∧ NumAt K CN U H x lt lh lp dk Ts Ns ∧ lt ≠ lh ∧ lt ≠ lp ∧ lh ≠ lp ∧ Dp K (delS [lt, lh, lp, dk] H) v d ∧ okN U d = true ∧ l ∉ [lt, lh, lp, dk] ∧ H l = some (.lst (ns.map iV)) ∧
  NumL Ts ns (argsD d) ∧ Ts.length < 10000 ∧ ns.length ≤ 5000 ∧
  ∀ (m : Nat) Ts' Ns' H', Same (delS [lt, lh, lp, dk] H) (delS [lt, lh, lp, dk] H') → NumAt K CN U H' x lt lh lp dk Ts' Ns' → Ts <+: Ts' → (∀ y ∈ Ts', y ∈ Ts ∨ y = d) → Ts'[m]? = some d → Q (iV m) H'
structure NTxt (mg : Str → Option Value) : Prop where
  isi : mg "isinstance" = none
  str : mg "str" = none
  len : mg "len" = none
  tup : mg "tuple" = none
section
variable {P : Program} {w : World} {K : PySem.W.Frag} {mg : Str → Option Value} {base : Heap} {CN : Addr} {U : Str → Bool}
theorem atI_zero {α : Type} (a : α) (l : List α) : atI (a :: l) 0 = some a := by simp [atI, ixN]
theorem scTW : FnScope ["self", "term", "places", "head", "key"] ["self", "term", "places"] (defScope sTW) := ⟨rfl, rfl, rfl, by decide +kernel, rfl, by decide +kernel, by decide +kernel⟩
theorem key_V : ∀ (d : PyData) (ns : List Nat), (keyN d ns).map kV = (match d with
    | .str z => [V.str z]
    | .tuple (.str h :: _) => V.str h :: ns.map iV
    | _ => []) := fun d ns => by
  have e : (ns.map nK).map kV = ns.map iV := by
    rw [List.map_map]
    rfl
  cases d with
  | str z => rfl
  | tuple ds =>
    cases ds with
    | nil => rfl
    | cons x r =>
      cases x with
      | str h =>
        show V.str h :: (ns.map nK).map kV = _
        rw [e]
      | _ => rfl
  | _ => rfl
theorem ok_TW {f : Addr} {fd : FuncData} (F : Fun K "_take_whole" "Numbered._take_whole" sTW f fd) (T : NTxt mg) (S : NCl K CN) : FnOk P w K mg base CX0 1 f fd ["self", "term", "places"] (spTW K CN U) := by
  refine F.ok scTW (fun vs H Q E h => ?_) (fun cdv A outer s H vs Q E hr h => ?_)
  · obtain ⟨x, v, l, lt, lh, lp, dk, Ts, Ns, d, ns, rfl, _⟩ := h
    rfl
  · obtain ⟨x, v, l, lt, lh, lp, dk, Ts, Ns, d, ns, rfl, hN, n1, n2, n3, hv, hok, hl, el, hn, hT, hns, q⟩ := h
    have nd := scTW.nd
    have hu := hu_of hr
    refine ⟨_, C8.pss_cut (ps_set (i := 3) nd rfl (Or.inl rfl) (pe_ifExp (pt_val (pe_callB call_isi (by rfl) T.isi (by decide +kernel) (pa_cons (pv 1) (pa_cons (pe_bltn (v := .ty "str") (by rfl) T.str (by decide +kernel) rfl) pa_nil)))) pe_non (pe_ix ix_tup (pv 1) pe_int fun _ _ => rfl)))
      (C8.pss_cut (ps_set (i := 4) nd rfl (Or.inl rfl) (pe_ifExp (pt_cmpR op_isN (pv 3) pe_non (nomark _)) (pe_tup (pa_cons (pv 1) pa_nil)) (pe_tup (pa_cons (pv 3) (StX.pa_star (pv 2) pa_nil)))))
      (C8.pss_cut (ps_if (pt_cmp (pc_dnotin hu (pv 4) (pe_fld (pv 0) rfl)))
        (pss_cons (ps_dput hu (pe_fld (pv 0) rfl) (pv 4) (pe_callB call_len_seq (by rfl) T.len PySem.boot_len (pa_cons (pe_fld (pv 0) rfl) pa_nil)) rfl)
        (pss_cons (ps_expr (pe_bm PySem.F.plainAttrs_list PySem.F.slot_list_append PySem.F.type_list_append mt_append (pe_fld (pv 0) rfl) (pa_cons (pv 1) pa_nil)))
        (pss_cons (ps_expr (pe_bm PySem.F.plainAttrs_list PySem.F.slot_list_append PySem.F.type_list_append mt_append (pe_fld (pv 0) rfl) (pa_cons (pv 3) pa_nil)))
        (pss_one (ps_expr (pe_bm PySem.F.plainAttrs_list PySem.F.slot_list_append PySem.F.type_list_append mt_append (pe_fld (pv 0) rfl) (pa_cons (pe_callTy call_tuple_of (by rfl) T.tup (by decide +kernel) (pa_cons (pv 2) pa_nil)) pa_nil))))))) pss_nil)
      (pss_one (ps_ret (pe_dget hu (pe_fld (pv 0) rfl) (pv 4) fun _ _ => rfl))))), ?_⟩
    have big : (20000 : Nat) ≤ sizeLine := by decide
    obtain ⟨dx, hx⟩ := hN.i
    obtain ⟨xS, dS⟩ := hN.ne
    refine ⟨fun σ' H' => σ' = [some (.ref x), some v, some (.ref l), some (headV d), none] ∧ H' = H, ?_, ?_⟩
    · rcases okN_case hok with ⟨z, rfl, _⟩ | ⟨z, r, rfl, _, _⟩
      · cases hv
        exact ⟨_, rfl, .str z, .ty "str", .type "str", .type "str", true, rfl, .ty _, .base (.str z), kit_ty (by decide +kernel), _, rfl, iteT ⟨rfl, rfl⟩⟩
      · cases hv with
        | tup g1 g2 =>
          cases g2 with
          | cons p1 p2 =>
            cases p1
            have g1' := seqT_same delS_sub g1
            exact ⟨_, rfl, _, .ty "str", .type "tuple", .type "str", false, rfl, .ty _, ty_tup g1', kit_ty (by decide +kernel), _, rfl, iteF ⟨_, rfl, _, _, 0, .str z, rfl, rfl, g1', atI_zero _ _, rfl, rfl⟩⟩
    · rintro σ' H' ⟨rfl, rfl⟩
      refine ⟨fun σ' H1 => ∃ tk, σ' = [some (.ref x), some v, some (.ref l), some (headV d), some (.ref tk)] ∧ Same H' H1 ∧ H1 tk = some (.tup ((keyN d ns).map kV)) ∧ H' tk = none, ?_, ?_⟩
      · rw [key_V]
        rcases okN_case hok with ⟨z, rfl, _⟩ | ⟨z, r, rfl, _, _⟩
        · cases hv
          exact ⟨_, rfl, rfl, _, rfl, iteT ⟨_, rfl, (by show 1 ≤ sizeLine; decide), fun tk htk => ⟨tk, rfl, same_upd htk, upd_same, htk⟩⟩⟩
        · refine ⟨_, rfl, rfl, _, rfl, iteF ⟨_, rfl, _, rfl, l, _, rfl, .inr (SqL.of el), ?_, fun tk htk => ⟨tk, rfl, same_upd htk, ?_, htk⟩⟩⟩
          · refine Nat.le_trans ?_ big
            show (V.str z :: (ns.map iV ++ [])).length ≤ 20000
            rw [List.length_cons, List.append_nil, List.length_map]
            omega
          · rw [upd_same]
            show some (HO.tup (V.str z :: (ns.map iV ++ []))) = some (HO.tup (V.str z :: ns.map iV))
            rw [List.append_nil]
      · rintro σ' H1 ⟨tk, rfl, s1, htk, htk0⟩
        have hN1 := hN.same s1
        have hx1 := s1 _ _ hx
        refine ⟨fun σ' H2 => ∃ Ts' Ns', σ' = [some (.ref x), some v, some (.ref l), some (headV d), some (.ref tk)] ∧ Same (delS [lt, lh, lp, dk] H') (delS [lt, lh, lp, dk] H2) ∧ NumAt K CN U H2 x lt lh lp dk Ts' Ns' ∧ Ts <+: Ts' ∧ (∀ y ∈ Ts', y ∈ Ts ∨ y = d) ∧ d ∈ Ts' ∧ NumL Ts' ns (argsD d) ∧ H2 tk = some (.tup ((keyN d ns).map kV)), ?_, ?_⟩
        · refine ⟨_, rfl, _, rfl, x, CN, dx, _, .ref dk, rfl, hx1, S.cl, S.n4, rfl, dk, _, rfl, DGet.t hN1.k htk, _, rfl, ?_⟩
          rcases known_at hN.wf hok hn with ⟨j, hj, e⟩ | ⟨hno, e⟩
          · rw [e]
            exact iteF ⟨Ts, Ns, rfl, delS_same s1, hN1, List.prefix_refl _, fun y hy => .inl hy, List.mem_of_getElem? hj, hn, htk⟩
          · rw [e]
            refine iteT ?_
            obtain ⟨tv, ht, hd⟩ := hN1.t
            obtain ⟨pv, hp, hpl⟩ := hN1.p
            have ltv := dpAll_len hd
            have lpv := hpl.len
            have lN := hN.wf.len
            have out : ∀ {b : Addr}, H' b = none → b ∉ [lt, lh, lp, dk] := fun {b} hb hS => by
              obtain ⟨tv0, ht0, _⟩ := hN.t
              obtain ⟨pv0, hp0, _⟩ := hN.p
              have h2 := hN.h
              have h4 := hN.k
              simp only [List.mem_cons, List.not_mem_nil, or_false] at hS
              rcases hS with rfl | rfl | rfl | rfl
              · rw [hb] at ht0; cases ht0
              · rw [hb] at h2; cases h2
              · rw [hb] at hp0; cases hp0
              · rw [hb] at h4; cases h4
            have tkS := out htk0
            simp only [List.mem_cons, List.not_mem_nil, or_false, not_or] at tkS xS dS hl
            obtain ⟨x1, x2, x3, x4⟩ := xS
            obtain ⟨d1, d2, d3⟩ := dS
            obtain ⟨k1, k2, k3, k4⟩ := tkS
            obtain ⟨l1, l2, l3, l4⟩ := hl
            refine ⟨_, rfl, x, CN, dx, _, .ref lt, rfl, hx1, S.cl, S.n1, rfl, lt, tv, rfl, .inl (SqL.of ht), _, rfl, x, CN, dx, _, .ref dk, rfl, hx1, S.cl, S.n4, rfl, _, rfl, dk, _, rfl, DPut.t hN1.k htk (Nat.lt_of_lt_of_le (show (knownF Ts Ns 0).length < 20000 by have := known_len Ts Ns 0; omega) big), ?_⟩
            rw [putK_new _ e, ltv]
            have ek : knownF Ts Ns 0 ++ [(keyN d ns, V.int ((Ts.length : Nat) : Int))] = knownF (Ts ++ [d]) (Ns ++ [ns]) 0 := by rw [known_app Ts Ns 0 d ns lN, Nat.zero_add]
            rw [ek]
            have lk : lt ≠ dk := fun z => d1 z.symm
            have hk : lh ≠ dk := fun z => d2 z.symm
            have pk : lp ≠ dk := fun z => d3 z.symm
            have bl : ∀ {n : Nat}, n ≤ 10000 → n < sizeLine := fun h => Nat.lt_of_lt_of_le (show _ < 20000 by omega) big
            have el1 := s1 _ _ el
            -- the dict
            have hx2 : (L2.upd H1 dk (.dT (knownF (Ts ++ [d]) (Ns ++ [ns]) 0))) x = some (.ins CN dx [("terms", .ref lt), ("heads", .ref lh), ("places", .ref lp), ("_known", .ref dk)]) := by rw [upd_ne x4]; exact hx1
            have ht2 : (L2.upd H1 dk (.dT (knownF (Ts ++ [d]) (Ns ++ [ns]) 0))) lt = some (.lst tv) := by rw [upd_ne lk]; exact ht
            have hh2 : (L2.upd H1 dk (.dT (knownF (Ts ++ [d]) (Ns ++ [ns]) 0))) lh = some (.lst (Ts.map headV)) := by rw [upd_ne hk]; exact hN1.h
            have hp2 : (L2.upd H1 dk (.dT (knownF (Ts ++ [d]) (Ns ++ [ns]) 0))) lp = some (.lst pv) := by rw [upd_ne pk]; exact hp
            have hk2 : (L2.upd H1 dk (.dT (knownF (Ts ++ [d]) (Ns ++ [ns]) 0))) dk = some (.dT (knownF (Ts ++ [d]) (Ns ++ [ns]) 0)) := upd_same
            have htk2 : (L2.upd H1 dk (.dT (knownF (Ts ++ [d]) (Ns ++ [ns]) 0))) tk = some (.tup ((keyN d ns).map kV)) := by rw [upd_ne k4]; exact htk
            have el2 : (L2.upd H1 dk (.dT (knownF (Ts ++ [d]) (Ns ++ [ns]) 0))) l = some (.lst (ns.map iV)) := by rw [upd_ne l4]; exact el1
            have z2 : delS [lt, lh, lp, dk] (L2.upd H1 dk (.dT (knownF (Ts ++ [d]) (Ns ++ [ns]) 0))) = delS [lt, lh, lp, dk] H1 := delS_upd (by simp)
            generalize (L2.upd H1 dk (.dT (knownF (Ts ++ [d]) (Ns ++ [ns]) 0))) = H2 at hx2 ht2 hh2 hp2 hk2 htk2 el2 z2 ⊢
            refine ⟨_, rfl, x, CN, dx, _, .ref lt, rfl, hx2, S.cl, S.n1, rfl, .inl ⟨rfl, _, SqL.of ht2⟩, _, rfl, lt, tv, v, rfl, rfl, ht2, bl (by omega), ?_⟩
            have hx3 : (L2.upd H2 lt (.lst (tv ++ [v]))) x = some (.ins CN dx [("terms", .ref lt), ("heads", .ref lh), ("places", .ref lp), ("_known", .ref dk)]) := by rw [upd_ne x1]; exact hx2
            have ht3 : (L2.upd H2 lt (.lst (tv ++ [v]))) lt = some (.lst (tv ++ [v])) := upd_same
            have hh3 : (L2.upd H2 lt (.lst (tv ++ [v]))) lh = some (.lst (Ts.map headV)) := by rw [upd_ne n1.symm]; exact hh2
            have hp3 : (L2.upd H2 lt (.lst (tv ++ [v]))) lp = some (.lst pv) := by rw [upd_ne n2.symm]; exact hp2
            have hk3 : (L2.upd H2 lt (.lst (tv ++ [v]))) dk = some (.dT (knownF (Ts ++ [d]) (Ns ++ [ns]) 0)) := by rw [upd_ne d1]; exact hk2
            have htk3 : (L2.upd H2 lt (.lst (tv ++ [v]))) tk = some (.tup ((keyN d ns).map kV)) := by rw [upd_ne k1]; exact htk2
            have el3 : (L2.upd H2 lt (.lst (tv ++ [v]))) l = some (.lst (ns.map iV)) := by rw [upd_ne l1]; exact el2
            have z3 : delS [lt, lh, lp, dk] (L2.upd H2 lt (.lst (tv ++ [v]))) = delS [lt, lh, lp, dk] H1 := (delS_upd (by simp)).trans z2
            generalize (L2.upd H2 lt (.lst (tv ++ [v]))) = H3 at hx3 ht3 hh3 hp3 hk3 htk3 el3 z3 ⊢
            refine ⟨_, rfl, x, CN, dx, _, .ref lh, rfl, hx3, S.cl, S.n2, rfl, .inl ⟨rfl, _, SqL.of hh3⟩, _, rfl, lh, _, headV d, rfl, rfl, hh3, bl (by rw [List.length_map]; omega), ?_⟩
            have hx4 : (L2.upd H3 lh (.lst (Ts.map headV ++ [headV d]))) x = some (.ins CN dx [("terms", .ref lt), ("heads", .ref lh), ("places", .ref lp), ("_known", .ref dk)]) := by rw [upd_ne x2]; exact hx3
            have ht4 : (L2.upd H3 lh (.lst (Ts.map headV ++ [headV d]))) lt = some (.lst (tv ++ [v])) := by rw [upd_ne n1]; exact ht3
            have hh4 : (L2.upd H3 lh (.lst (Ts.map headV ++ [headV d]))) lh = some (.lst (Ts.map headV ++ [headV d])) := upd_same
            have hp4 : (L2.upd H3 lh (.lst (Ts.map headV ++ [headV d]))) lp = some (.lst pv) := by rw [upd_ne n3.symm]; exact hp3
            have hk4 : (L2.upd H3 lh (.lst (Ts.map headV ++ [headV d]))) dk = some (.dT (knownF (Ts ++ [d]) (Ns ++ [ns]) 0)) := by rw [upd_ne d2]; exact hk3
            have htk4 : (L2.upd H3 lh (.lst (Ts.map headV ++ [headV d]))) tk = some (.tup ((keyN d ns).map kV)) := by rw [upd_ne k2]; exact htk3
            have el4 : (L2.upd H3 lh (.lst (Ts.map headV ++ [headV d]))) l = some (.lst (ns.map iV)) := by rw [upd_ne l2]; exact el3
            have z4 : delS [lt, lh, lp, dk] (L2.upd H3 lh (.lst (Ts.map headV ++ [headV d]))) = delS [lt, lh, lp, dk] H1 := (delS_upd (by simp)).trans z3
            generalize (L2.upd H3 lh (.lst (Ts.map headV ++ [headV d]))) = H4 at hx4 ht4 hh4 hp4 hk4 htk4 el4 z4 ⊢
            refine ⟨_, rfl, x, CN, dx, _, .ref lp, rfl, hx4, S.cl, S.n3, rfl, .inl ⟨rfl, _, SqL.of hp4⟩, _, rfl, l, _, rfl, .inl ⟨SqL.of el4, fun tt htt => ?_⟩⟩
            have s5 := same_upd (o := .tup (ns.map iV)) htt
            have e5 : (L2.upd H4 tt (.tup (ns.map iV))) tt = some (.tup (ns.map iV)) := upd_same
            generalize (L2.upd H4 tt (.tup (ns.map iV))) = H5 at s5 e5 ⊢
            refine ⟨lp, pv, .ref tt, rfl, rfl, s5 _ _ hp4, bl (by omega), ?_⟩
            have tt1 : tt ≠ lt := fun z => by rw [z, ht4] at htt; cases htt
            have tt2 : tt ≠ lh := fun z => by rw [z, hh4] at htt; cases htt
            have tt3 : tt ≠ lp := fun z => by rw [z, hp4] at htt; cases htt
            have tt4 : tt ≠ dk := fun z => by rw [z, hk4] at htt; cases htt
            have ttS : tt ∉ [lt, lh, lp, dk] := by simp [tt1, tt2, tt3, tt4]
            have z6 : delS [lt, lh, lp, dk] (L2.upd H5 lp (.lst (pv ++ [.ref tt]))) = delS [lt, lh, lp, dk] H5 := delS_upd (by simp)
            have sz : Same (delS [lt, lh, lp, dk] H1) (delS [lt, lh, lp, dk] (L2.upd H5 lp (.lst (pv ++ [.ref tt])))) := by
              rw [z6, ← z4]
              exact delS_same s5
            refine ⟨Ts ++ [d], Ns ++ [ns], rfl, Same.trans (delS_same s1) sz, ⟨⟨dx, by rw [upd_ne x3]; exact s5 _ _ hx4⟩, ⟨tv ++ [v], by rw [upd_ne n2]; exact s5 _ _ ht4, dpAll_app (dpAll_same sz _ _ hd) (.cons (dp_same (Same.trans (delS_same s1) sz) _ _ hv) .nil)⟩, ?_,
              ⟨pv ++ [.ref tt], upd_same, (hpl.mono sz).snoc ?_⟩, by rw [upd_ne d3]; exact s5 _ _ hk4, hN.wf.push hok hn hno⟩, List.prefix_append _ _, fun y hy => (List.mem_append.mp hy).elim .inl fun h => .inr (List.mem_singleton.mp h), List.mem_append_right _ List.mem_cons_self, hn.app, by rw [upd_ne k3]; exact s5 _ _ htk4⟩
            · rw [upd_ne n3, List.map_append]
              exact s5 _ _ hh4
            · rw [delS_of ttS, upd_ne tt3]
              exact e5
        · rintro σ' H2 ⟨Ts', Ns', rfl, s2, hN2, hpre, hle, hmem, hn2, htk2⟩
          obtain ⟨dx2, hx2⟩ := hN2.i
          rcases known_at hN2.wf hok hn2 with ⟨j, hj, e⟩ | ⟨hno, e⟩
          · have g := DGet.t hN2.k htk2
            rw [e] at g
            exact ⟨_, rfl, x, CN, dx2, _, .ref dk, rfl, hx2, S.cl, S.n4, rfl, _, rfl, dk, _, rfl, g, q j Ts' Ns' H2 s2 hN2 hpre hle hj⟩
          · exact absurd hmem hno
end
end Sg

set_option maxRecDepth 100000
set_option maxHeartbeats 8000000
namespace Sg
open PySem PySem.Spec PyProof.Rows L2 Dr Gd Er Cm LD CM
mutual
theorem dp_off {K : PySem.W.Frag} {U : Str → Bool} {Z Z' : Hp} (s : ∀ b o, Z b = some o → (∀ ys, o ≠ .lst ys) → Z' b = some o) : ∀ (d : PyData) (v : V), okN U d = true → Dp K Z v d → Dp K Z' v d
  | .str z, v, _, h => by cases h; exact .str z
  | .tuple [], v, h, _ => by simp [okN] at h
  | .tuple (e :: r), v, h, hd => by
    rcases okN_case h with ⟨z, e', _⟩ | ⟨z, r', e', _, h2⟩
    · cases e'
    · injection e' with e'
      injection e' with e1 e2
      subst e2
      subst e1
      cases hd with
      | tup g1 g2 =>
        cases g2 with
        | cons p1 p2 =>
          cases p1
          refine .tup ?_ (.cons (.str z) (dps_off s r _ h2 p2))
          rcases g1 with (e | ⟨u, e⟩) | k
          · exact .inl (.inl (s _ _ e (fun ys z => by cases z)))
          · exact .inl (.inr ⟨u, s _ _ e (fun ys z => by cases z)⟩)
          · exact .inr k
  | .none, v, h, _ => by simp [okN] at h
  | .bool _, v, h, _ => by simp [okN] at h
  | .int _, v, h, _ => by simp [okN] at h
  | .list _, v, h, _ => by simp [okN] at h
  | .dict _, v, h, _ => by simp [okN] at h
theorem dps_off {K : PySem.W.Frag} {U : Str → Bool} {Z Z' : Hp} (s : ∀ b o, Z b = some o → (∀ ys, o ≠ .lst ys) → Z' b = some o) : ∀ (ds : List PyData) (vs : List V), okNs U ds = true → DpAll K Z vs ds → DpAll K Z' vs ds
  | [], vs, _, h => by cases h; exact .nil
  | d :: ds, vs, h, hd => by
    rw [okNs, Bool.and_eq_true] at h
    cases hd with
    | cons a b => exact .cons (dp_off s d _ h.1 a) (dps_off s ds _ h.2 b)
end
theorem okNs_all {U : Str → Bool} : ∀ {ds : List PyData}, (∀ d ∈ ds, okN U d = true) → okNs U ds = true
  | [], _ => rfl
  | d :: r, h => by
    rw [okNs, h d List.mem_cons_self, okNs_all fun x hx => h x (List.mem_cons_of_mem _ hx)]
    rfl
theorem PlR.off {Z Z' : Hp} (s : ∀ b o, Z b = some o → (∀ ys, o ≠ .lst ys) → Z' b = some o) : ∀ {vs : List V} {Ns : List (List Nat)}, PlR Z vs Ns → PlR Z' vs Ns
  | [], [], _ => trivial
  | [], _ :: _, h => h.elim
  | _ :: _, [], h => h.elim
  | v :: vs, ns :: Ns, ⟨⟨a, e, h⟩, r⟩ => ⟨⟨a, e, s _ _ h (fun ys z => by cases z)⟩, r.off s⟩
theorem NumAt.upl {K : PySem.W.Frag} {CN : Addr} {U : Str → Bool} {H : Hp} {x lt lh lp dk c : Addr} {Ts : List PyData} {Ns : List (List Nat)} {ys zs : List V} (h : NumAt K CN U H x lt lh lp dk Ts Ns) (hc : c ∉ [lt, lh, lp, dk]) (hl : H c = some (.lst ys)) :
    NumAt K CN U (L2.upd H c (.lst zs)) x lt lh lp dk Ts Ns := by
  obtain ⟨dx, a⟩ := h.i
  obtain ⟨tv, b, d⟩ := h.t
  obtain ⟨pv, e, f⟩ := h.p
  have s : ∀ b o, delS [lt, lh, lp, dk] H b = some o → (∀ ys, o ≠ .lst ys) → delS [lt, lh, lp, dk] (L2.upd H c (.lst zs)) b = some o := fun b o e n => by
    obtain ⟨e1, e2⟩ := delS_inv e
    have bc : b ≠ c := fun z => by
      rw [z, hl] at e2
      exact n ys (Option.some.inj e2).symm
    rw [delS_of e1, upd_ne bc]
    exact e2
  simp only [List.mem_cons, List.not_mem_nil, or_false, not_or] at hc
  obtain ⟨c1, c2, c3, c4⟩ := hc
  have xc : x ≠ c := fun z => by rw [z, hl] at a; cases a
  exact ⟨⟨dx, by rw [upd_ne xc]; exact a⟩, ⟨tv, by rw [upd_ne (fun z => c1 z.symm)]; exact b, dps_off s _ _ (okNs_all h.wf.ok) d⟩, by rw [upd_ne (fun z => c2 z.symm)]; exact h.h, ⟨pv, by rw [upd_ne (fun z => c3 z.symm)]; exact e, f.off s⟩, by rw [upd_ne (fun z => c4 z.symm)]; exact h.k, h.wf⟩
theorem NumAt.trk {K : PySem.W.Frag} {CN : Addr} {U : Str → Bool} {H : Hp} {x lt lh lp dk : Addr} {Ts : List PyData} {Ns : List (List Nat)} (h : NumAt K CN U H x lt lh lp dk Ts Ns) : ∀ b ∈ [lt, lh, lp, dk], ∃ o, H b = some o := by
  obtain ⟨tv, b, _⟩ := h.t
  obtain ⟨pv, e, _⟩ := h.p
  intro c hc
  simp only [List.mem_cons, List.not_mem_nil, or_false] at hc
  rcases hc with rfl | rfl | rfl | rfl
  · exact ⟨_, b⟩
  · exact ⟨_, h.h⟩
  · exact ⟨_, e⟩
  · exact ⟨_, h.k⟩
mutual
def preD : PyData → List PyData
  | .tuple (e :: r) => .tuple (e :: r) :: preDs r
  | .tuple [] => [.tuple []]
  | .str z => [.str z]
  | .none => [.none]
  | .bool b => [.bool b]
  | .int i => [.int i]
  | .list l => [.list l]
  | .dict l => [.dict l]
def preDs : List PyData → List PyData
  | [] => []
  | d :: r => preD d ++ preDs r
end
theorem preD_eq (d : PyData) : preD d = d :: preDs (argsD d) := by
  cases d with
  | tuple ds => cases ds with
    | nil => simp [preD, argsD, preDs]
    | cons e r => simp [preD, argsD]
  | _ => simp [preD, argsD, preDs]
mutual
theorem preD_len : ∀ d : PyData, (preD d).length = fsz d
  | .tuple (e :: r) => by rw [preD, fsz, List.length_cons, preDs_len r]; omega
  | .tuple [] => by simp [preD, fsz]
  | .str _ => by simp [preD, fsz]
  | .none => by simp [preD, fsz]
  | .bool _ => by simp [preD, fsz]
  | .int _ => by simp [preD, fsz]
  | .list _ => by simp [preD, fsz]
  | .dict _ => by simp [preD, fsz]
theorem preDs_len : ∀ ds : List PyData, (preDs ds).length = fszs ds
  | [] => by simp [preDs, fszs]
  | d :: r => by rw [preDs, fszs, List.length_append, preD_len d, preDs_len r]
end
theorem preDs_mem : ∀ {ds : List PyData} {t : PyData}, t ∈ preDs ds → ∃ d ∈ ds, t ∈ preD d
  | [], t, h => by simp [preDs] at h
  | d :: r, t, h => by
    rw [preDs] at h
    rcases List.mem_append.mp h with h | h
    · exact ⟨d, List.mem_cons_self, h⟩
    · obtain ⟨e, he, h⟩ := preDs_mem h
      exact ⟨e, List.mem_cons_of_mem _ he, h⟩
theorem preDs_of : ∀ {ds : List PyData} {d t : PyData}, d ∈ ds → t ∈ preD d → t ∈ preDs ds
  | [], d, t, h, _ => by cases h
  | e :: r, d, t, h, ht => by
    rw [preDs]
    rcases List.mem_cons.mp h with rfl | h
    · exact List.mem_append_left _ ht
    · exact List.mem_append_right _ (preDs_of h ht)
theorem pre_self (d : PyData) : d ∈ preD d := by rw [preD_eq]; exact List.mem_cons_self
theorem pre_trans : ∀ (n : Nat) (d t a : PyData), fsz d ≤ n → t ∈ preD d → a ∈ argsD t → a ∈ preD d
  | 0, d, t, a, hn, _, _ => by have := fsz_pos d; omega
  | n + 1, d, t, a, hn, ht, ha => by
    rw [preD_eq] at ht ⊢
    rcases List.mem_cons.mp ht with rfl | ht
    · exact List.mem_cons_of_mem _ (preDs_of ha (pre_self a))
    · obtain ⟨e, he, hte⟩ := preDs_mem ht
      have : fsz e ≤ n := by
        have h1 := fsz_args d
        have h2 : fsz e ≤ fszs (argsD d) := by
          clear hte ht ha h1 hn
          generalize argsD d = ds at he
          induction ds with
          | nil => cases he
          | cons x r ih =>
            rw [fszs]
            rcases List.mem_cons.mp he with rfl | he
            · omega
            · have := ih he
              omega
        omega
      exact List.mem_cons_of_mem _ (preDs_of he (pre_trans n e t a this hte ha))
theorem fszs_mem : ∀ {ds : List PyData} {e : PyData}, e ∈ ds → fsz e ≤ fszs ds
  | [], e, h => by cases h
  | x :: r, e, h => by
    rw [fszs]
    rcases List.mem_cons.mp h with rfl | h
    · omega
    · have := fszs_mem h
      omega
theorem pre_sz : ∀ (n : Nat) (d t : PyData), fsz d ≤ n → t ∈ preD d → fsz t ≤ fsz d
  | 0, d, t, hn, _ => by have := fsz_pos d; omega
  | n + 1, d, t, hn, ht => by
    rw [preD_eq] at ht
    rcases List.mem_cons.mp ht with rfl | ht
    · exact Nat.le_refl _
    · obtain ⟨e, he, hte⟩ := preDs_mem ht
      have h1 := fsz_args d
      have h2 := fszs_mem he
      have := pre_sz n e t (by omega) hte
      omega
open Classical in
theorem nodup_leD : ∀ {l m : List PyData}, l.Nodup → (∀ x ∈ l, x ∈ m) → l.length ≤ m.length
  | [], m, _, _ => Nat.zero_le _
  | x :: l, m, nd, h => by
    rw [List.nodup_cons] at nd
    have hx := h x List.mem_cons_self
    obtain ⟨a, b, rfl⟩ := List.append_of_mem hx
    have ih := nodup_leD (l := l) (m := a ++ b) nd.2 fun y hy => by
      have := h y (List.mem_cons_of_mem _ hy)
      rcases List.mem_append.mp this with k | k
      · exact List.mem_append_left _ k
      · rcases List.mem_cons.mp k with rfl | k
        · exact absurd hy nd.1
        · exact List.mem_append_right _ k
    rw [List.length_append] at ih ⊢
    rw [List.length_cons, List.length_cons]
    omega
end Sg

set_option maxRecDepth 100000
set_option maxHeartbeats 8000000
namespace Sg
open PySem PySem.Spec PyProof.Rows L2 Dr Gd Er Cm LD CM
theorem known_get : ∀ (Ts : List PyData) (Ns : List (List Nat)) (i j : Nat) (d : PyData) (ns : List Nat), Ts[j]? = some d → Ns[j]? = some ns → (knownF Ts Ns i)[j]? = some (keyN d ns, .int ((i + j : Nat) : Int))
  | [], _, _, _, _, _, h, _ => by simp at h
  | _ :: _, [], _, _, _, _, _, h => by simp at h
  | e :: Ts, ms :: Ns, i, 0, d, ns, h, g => by
    cases h
    cases g
    rfl
  | e :: Ts, ms :: Ns, i, j + 1, d, ns, h, g => by
    show (knownF Ts Ns (i + 1))[j]? = _
    rw [known_get Ts Ns (i + 1) j d ns h g, show i + 1 + j = i + (j + 1) by omega]
theorem known_lenE : ∀ (Ts : List PyData) (Ns : List (List Nat)) (i : Nat), Ns.length = Ts.length → (knownF Ts Ns i).length = Ts.length
  | [], _, _, _ => by simp [knownF]
  | _ :: _, [], _, h => by cases h
  | d :: Ts, ns :: Ns, i, h => by rw [knownF, List.length_cons, List.length_cons, known_lenE Ts Ns (i + 1) (by simpa using h)]
theorem NumL.to {Ts Ts' : List PyData} : ∀ {ns : List Nat} {ds : List PyData}, NumL Ts ns ds → (∀ n ∈ ns, Ts[n]? = Ts'[n]?) → NumL Ts' ns ds
  | [], ds, h, _ => by cases ds with
    | nil => rfl
    | cons d ds => cases h
  | n :: ns, ds, h, e => by cases ds with
    | nil => cases h
    | cons d ds =>
      have h : Ts[n]? :: ns.map (fun n => Ts[n]?) = some d :: ds.map some := h
      injection h with h1 h2
      show Ts'[n]? :: ns.map (fun n => Ts'[n]?) = some d :: ds.map some
      rw [← e n List.mem_cons_self, h1]
      rw [show ns.map (fun n => Ts'[n]?) = ds.map some from NumL.to (ds := ds) h2 fun m hm => e m (List.mem_cons_of_mem _ hm)]
theorem wf_uniq {U : Str → Bool} {Ts Ts' : List PyData} {Ns Ns' : List (List Nat)} (W : WfN U Ts Ns) (W' : WfN U Ts' Ns') (e : knownF Ts Ns 0 = knownF Ts' Ns' 0) : Ts = Ts' := by
  have hl : Ts.length = Ts'.length := by rw [← known_lenE Ts Ns 0 W.len, ← known_lenE Ts' Ns' 0 W'.len, e]
  have go : ∀ n j : Nat, j < n → Ts[j]? = Ts'[j]? := by
    intro n
    induction n with
    | zero => intro j h; omega
    | succ n ih =>
      intro j hj
      rcases Nat.lt_or_ge j Ts.length with hlt | hge
      · obtain ⟨d, hd⟩ : ∃ d, Ts[j]? = some d := ⟨_, List.getElem?_eq_getElem hlt⟩
        obtain ⟨d', hd'⟩ : ∃ d, Ts'[j]? = some d := ⟨_, List.getElem?_eq_getElem (by omega)⟩
        obtain ⟨ns, hn⟩ : ∃ d, Ns[j]? = some d := ⟨_, List.getElem?_eq_getElem (by rw [W.len]; omega)⟩
        obtain ⟨ns', hn'⟩ : ∃ d, Ns'[j]? = some d := ⟨_, List.getElem?_eq_getElem (by rw [W'.len]; omega)⟩
        obtain ⟨a1, a2⟩ := W.num j d ns hd hn
        obtain ⟨b1, b2⟩ := W'.num j d' ns' hd' hn'
        have k := known_get Ts Ns 0 j d ns hd hn
        rw [e, known_get Ts' Ns' 0 j d' ns' hd' hn'] at k
        have k : keyN d' ns' = keyN d ns := by
          have := Option.some.inj k
          injection this
        have a1' : NumL Ts' ns (argsD d) := a1.to fun m hm => ih m (by have := a2 m hm; omega)
        rw [hd, hd', key_inj (W'.ok d' (List.mem_of_getElem? hd')) (W.ok d (List.mem_of_getElem? hd)) b1 a1' k]
      · rw [List.getElem?_eq_none hge, List.getElem?_eq_none (by omega)]
  exact List.ext_getElem? fun j => go (j + 1) j (by omega)
theorem NumAt.uniq {K : PySem.W.Frag} {CN : Addr} {U : Str → Bool} {H : Hp} {x lt lh lp dk : Addr} {Ts Ts' : List PyData} {Ns Ns' : List (List Nat)} (h : NumAt K CN U H x lt lh lp dk Ts Ns) (g : NumAt K CN U H x lt lh lp dk Ts' Ns') : Ts = Ts' := by
  refine wf_uniq h.wf g.wf ?_
  have := h.k.symm.trans g.k
  have := Option.some.inj this
  injection this
/-- the numbers of several terms -/
theorem nums_of {Ts : List PyData} {R : PyData → V → Prop} (h : ∀ d v, R d v → ∃ m : Nat, v = iV m ∧ Ts[m]? = some d) : ∀ {ds : List PyData} {us : List V}, All2 R ds us → ∃ ns : List Nat, us = ns.map iV ∧ NumL Ts ns ds
  | _, _, .nil => ⟨[], rfl, rfl⟩
  | _, _, .cons a b => by
    obtain ⟨m, rfl, hm⟩ := h _ _ a
    obtain ⟨ns, rfl, hn⟩ := nums_of h b
    refine ⟨m :: ns, rfl, ?_⟩
    show Ts[m]? :: ns.map (fun n => Ts[n]?) = some _ :: List.map some _
    rw [hm, show ns.map (fun n => Ts[n]?) = _ from hn]
def spTakeN (K : PySem.W.Frag) (CN : Addr) (U : Str → Bool) : Sp := fun vs H Q _ => ∃ x v lt lh lp dk Ts Ns d, vs = [.ref x, v] ∧ NumAt K CN U H x lt lh lp dk Ts Ns ∧ lt ≠ lh ∧ lt ≠ lp ∧ lh ≠ lp ∧ Dp K (delS [lt, lh, lp, dk] H) v d ∧ okN U d = true ∧ fsz d ≤ 5000 ∧ Ts.length + fsz d < 10000 ∧
  ∀ (m : Nat) Ts' Ns' H', Same (delS [lt, lh, lp, dk] H) (delS [lt, lh, lp, dk] H') → NumAt K CN U H' x lt lh lp dk Ts' Ns' → Ts <+: Ts' → (∀ t ∈ Ts', t ∈ Ts ∨ t ∈ preD d) → Ts'[m]? = some d → Q (iV m) H'
section
variable {P : Program} {w : World} {K : PySem.W.Frag} {mg : Str → Option Value} {base : Heap} {CN : Addr} {U : Str → Bool} {fF fA fW : Addr} {dF dA dW : FuncData}
theorem scTk : FnScope ["self", "term"] ["self", "term"] (defScope sTake_) := ⟨rfl, rfl, rfl, by decide +kernel, rfl, by decide +kernel, by decide +kernel⟩
theorem ok_takeN {f : Addr} {fd : FuncData} (F : Fun K "take" "Numbered.take" sTake_ f fd) (S : NCl K CN) (B : BMeth K CN "_take_whole" fW) (gF : mg "folded" = some (.ref fF)) (kF : PySem.W.keepIn K (.ref fF) = true) (bF : Binds K dF ["root", "children", "made"] []) (gA : mg "arguments" = some (.ref fA))
    (FF : FnOk P w K mg base CX0 2 fF dF ["root", "children", "made"] (spFold K fA fW (spTW K CN U))) : FnOk P w K mg base CX0 3 f fd ["self", "term"] (spTakeN K CN U) := by
  refine F.ok scTk (fun vs H Q E h => ?_) (fun cdv A outer s H vs Q E hr h => ?_)
  · obtain ⟨x, v, lt, lh, lp, dk, Ts, Ns, d, rfl, _⟩ := h
    rfl
  · obtain ⟨x, v, lt, lh, lp, dk, Ts, Ns, d, rfl, hN, n1, n2, n3, hv, hok, hsz, hT, q⟩ := h
    refine ⟨_, pss_one (ps_ret (pe_call FF hr rfl gF kF bF .nil pass0 (pa_cons (pv 1) (pa_cons (pe_glob (v := .ref fA) rfl gA rfl) (pa_cons (pe_met (pv 0) S.cl B) pa_nil))))), ?_⟩
    obtain ⟨dx, hx⟩ := hN.i
    refine ⟨_, rfl, _, rfl, x, dx, _, rfl, hx, rfl, fun qm hqm => ?_⟩
    have s1 := same_upd (o := .met fW x) hqm
    have e1 : (L2.upd H qm (.met fW x)) qm = some (.met fW x) := upd_same
    generalize (L2.upd H qm (.met fW x)) = H1 at s1 e1 ⊢
    have hN1 := hN.same s1
    have qS : qm ∉ [lt, lh, lp, dk] := fun hS => by
      obtain ⟨o, e⟩ := hN.trk qm hS
      rw [hqm] at e
      cases e
    refine ⟨v, qm, x, d, fun t => t ∈ preD d ∧ okN U t = true, [lt, lh, lp, dk], fun H' => ∃ Ts' Ns', NumAt K CN U H' x lt lh lp dk Ts' Ns' ∧ Ts <+: Ts' ∧ ∀ t ∈ Ts', t ∈ Ts ∨ t ∈ preD d,
      fun t r H' => ∃ (m : Nat) (Ts' : List PyData) (Ns' : List (List Nat)), NumAt K CN U H' x lt lh lp dk Ts' Ns' ∧ r = iV m ∧ Ts'[m]? = some t, rfl, e1, qS, ⟨pre_self d, hok⟩, hsz, dp_same (delS_same s1) _ _ hv, ⟨Ts, Ns, hN1, List.prefix_refl _, fun t h => .inl h⟩, ?_, ?_⟩
    · exact {
        sub := fun t ⟨h1, h2⟩ => ⟨okN_F t h2, fun a ha => ⟨pre_trans (fsz d) d t a (Nat.le_refl _) h1 ha, okNs_mem (okN_args h2) a ha⟩⟩
        trk := fun H' ⟨Ts', Ns', h, _⟩ => h.trk
        alc := fun H' H'' s ⟨Ts', Ns', h, h2, h3⟩ => ⟨⟨Ts', Ns', h.same s, h2, h3⟩, fun t r ⟨m, Ts2, Ns2, g, g2, g3⟩ => ⟨m, Ts2, Ns2, g.same s, g2, g3⟩⟩
        upl := fun H' c ys zs hc hl ⟨Ts', Ns', h, h2, h3⟩ => ⟨⟨Ts', Ns', h.upl hc hl, h2, h3⟩, fun t r ⟨m, Ts2, Ns2, g, g2, g3⟩ => ⟨m, Ts2, Ns2, g.upl hc hl, g2, g3⟩⟩
        made := fun t vt l us H' Q' sb ⟨Ts', Ns', h, h2, h3⟩ ⟨p1, p2⟩ hvt hl el gs hQ => by
          obtain ⟨ns, rfl, hn⟩ := nums_of (Ts := Ts') (fun d v ⟨m, Ts2, Ns2, g, g2, g3⟩ => ⟨m, g2, by rw [h.uniq g]; exact g3⟩) gs
          have lT : Ts'.length ≤ Ts.length + fsz d := by
            have := nodup_leD (m := Ts ++ preD d) h.wf.nd fun y hy => List.mem_append.mpr (h3 y hy)
            rw [List.length_append, preD_len] at this
            exact this
          have lns : ns.length ≤ 5000 := by
            have e1 := congrArg List.length hn
            rw [List.length_map, List.length_map] at e1
            have e2 := fszs_len (argsD t)
            have e3 := fsz_args t
            have e4 : fsz t ≤ fsz d := pre_sz (fsz d) d t (Nat.le_refl _) p1
            omega
          refine ⟨x, vt, l, lt, lh, lp, dk, Ts', Ns', t, ns, rfl, h, n1, n2, n3, hvt, p2, hl, el, hn, by omega, lns, fun m Ts2 Ns2 H2 s2 hN2 pre le at_ => ?_⟩
          have mem : ∀ y ∈ Ts2, y ∈ Ts ∨ y ∈ preD d := fun y hy => (le y hy).elim (h3 y) fun e => .inr (by rw [e]; exact p1)
          refine hQ _ H2 s2 ⟨Ts2, Ns2, hN2, List.IsPrefix.trans h2 pre, mem⟩ (fun d' v' ⟨m', Ts3, Ns3, g, g2, g3⟩ => ⟨m', Ts2, Ns2, hN2, g2, ?_⟩) ⟨m, Ts2, Ns2, hN2, rfl, at_⟩
          have := h.uniq g
          subst this
          obtain ⟨r, rfl⟩ := pre
          rw [List.getElem?_append_left (List.getElem?_eq_some_iff.mp g3).1]
          exact g3 }
    · rintro r H' s2 ⟨Ts', Ns', h, h2, h3⟩ ⟨m, Ts2, Ns2, g, rfl, g3⟩ _
      have := h.uniq g
      subst this
      exact q m Ts' Ns' H' (Same.trans (delS_same s1) s2) h h2 h3 g3
end
end Sg

set_option maxRecDepth 100000
set_option maxHeartbeats 8000000
namespace Sg
open PySem PySem.Spec PyProof.Rows L2 Dr Gd Er Cm LD CM
open Classical in
noncomputable def addD (M : List PyData) (d : PyData) : List PyData := if d ∈ M then M else M ++ [d]
noncomputable def addAll (M : List PyData) (ds : List PyData) : List PyData := ds.foldl addD M
theorem addD_in {M : List PyData} {d : PyData} (h : d ∈ M) : addD M d = M := by unfold addD; rw [if_pos h]
theorem addD_no {M : List PyData} {d : PyData} (h : d ∉ M) : addD M d = M ++ [d] := by unfold addD; rw [if_neg h]
theorem addAll_in : ∀ {ds M : List PyData}, (∀ d ∈ ds, d ∈ M) → addAll M ds = M
  | [], M, _ => rfl
  | d :: ds, M, h => by
    show addAll (addD M d) ds = M
    rw [addD_in (h d List.mem_cons_self)]
    exact addAll_in fun x hx => h x (List.mem_cons_of_mem _ hx)
theorem addAll_app (M a b : List PyData) : addAll M (a ++ b) = addAll (addAll M a) b := List.foldl_append ..
theorem preDs_app : ∀ a b : List PyData, preDs (a ++ b) = preDs a ++ preDs b
  | [], b => by simp [preDs]
  | d :: a, b => by rw [List.cons_append, preDs, preDs, preDs_app a b, List.append_assoc]
/-- once what stands above s is done, what is met and not larger than s is closed -/
def Clos (S M : List PyData) : Prop := ∀ A s B, S = A ++ s :: B → ∀ m ∈ M, fsz m ≤ fsz s → ∀ t ∈ preD m, t ∈ M ∨ ∃ a ∈ A, t ∈ preD a
theorem clos_in {p : PyData} {S M : List PyData} (h : Clos (p :: S) M) (hp : p ∈ M) : (∀ t ∈ preD p, t ∈ M) ∧ Clos S M := by
  have top : ∀ t ∈ preD p, t ∈ M := fun t ht => (h [] p S rfl p hp (Nat.le_refl _) t ht).elim id fun ⟨a, ha, _⟩ => by cases ha
  refine ⟨top, fun A s B e m hm hs t ht => ?_⟩
  rcases h (p :: A) s B (by rw [e]; rfl) m hm hs t ht with k | ⟨a, ha, k⟩
  · exact .inl k
  · rcases List.mem_cons.mp ha with rfl | ha
    · exact .inl (top t k)
    · exact .inr ⟨a, ha, k⟩
theorem split_app {α : Type} {x y A B : List α} {s : α} (e : x ++ y = A ++ s :: B) : (∃ A', A = x ++ A' ∧ y = A' ++ s :: B) ∨ s ∈ x := by
  induction x generalizing A with
  | nil => exact .inl ⟨A, rfl, e⟩
  | cons a x ih =>
    cases A with
    | nil =>
      injection e with e1 e2
      exact .inr (by rw [← e1]; exact List.mem_cons_self)
    | cons a' A =>
      injection e with e1 e2
      rcases ih e2 with ⟨A', rfl, h⟩ | h
      · exact .inl ⟨A', by rw [← e1]; rfl, h⟩
      · exact .inr (List.mem_cons_of_mem _ h)
theorem arg_lt {d a : PyData} (h : a ∈ argsD d) : fsz a < fsz d := by
  have h1 := fsz_args d
  have h2 := fszs_mem h
  omega
theorem clos_new {p : PyData} {S M : List PyData} (h : Clos (p :: S) M) : Clos (argsD p ++ S) (M ++ [p]) := by
  have mem : ∀ {t}, t ∈ preD p → t ∈ M ++ [p] ∨ ∃ a ∈ argsD p, t ∈ preD a := fun {t} ht => by
    rw [preD_eq] at ht
    rcases List.mem_cons.mp ht with rfl | ht
    · exact .inl (List.mem_append_right _ List.mem_cons_self)
    · exact .inr (preDs_mem ht)
  intro A s B e m hm hs t ht
  rcases split_app e with ⟨A', rfl, e2⟩ | hin
  · rcases List.mem_append.mp hm with hm | hm
    · rcases h (p :: A') s B (by rw [e2]; rfl) m hm hs t ht with k | ⟨a, ha, k⟩
      · exact .inl (List.mem_append_left _ k)
      · rcases List.mem_cons.mp ha with rfl | ha
        · rcases mem k with k | ⟨b, hb, k⟩
          · exact .inl k
          · exact .inr ⟨b, List.mem_append_left _ hb, k⟩
        · exact .inr ⟨a, List.mem_append_right _ ha, k⟩
    · rw [List.mem_singleton.mp hm] at ht
      rcases mem ht with k | ⟨b, hb, k⟩
      · exact .inl k
      · exact .inr ⟨b, List.mem_append_left _ hb, k⟩
  · have lt := arg_lt hin
    rcases List.mem_append.mp hm with hm | hm
    · rcases h [] p S rfl m hm (by omega) t ht with k | ⟨a, ha, _⟩
      · exact .inl (List.mem_append_left _ k)
      · cases ha
    · rw [List.mem_singleton.mp hm] at hs
      omega
theorem run_in {p : PyData} {S M : List PyData} (h : ∀ t ∈ preD p, t ∈ M) : addAll M (preDs (p :: S)) = addAll M (preDs S) := by
  rw [preDs, addAll_app, addAll_in h]
theorem run_new {p : PyData} {S M : List PyData} (h : p ∉ M) : addAll M (preDs (p :: S)) = addAll (M ++ [p]) (preDs (argsD p ++ S)) := by
  rw [preDs, preD_eq, preDs_app]
  show addAll (addD M p) (preDs (argsD p) ++ preDs S) = _
  rw [addD_no h]
theorem fszs_app : ∀ a b : List PyData, fszs (a ++ b) = fszs a + fszs b
  | [], b => by simp [fszs]
  | d :: a, b => by rw [List.cons_append, fszs, fszs, fszs_app a b]; omega
end Sg

set_option maxRecDepth 100000
set_option maxHeartbeats 8000000
namespace Sg
open PySem PySem.Spec PyProof.Rows L2 Dr Gd Er Cm LD CM XT RT
def metF (ks : List Nat) : List (Key × V) := ks.map fun k => (nK k, V.bl true)
theorem met_val (p : Nat) : ∀ ks : List Nat, valV (metF ks) (nK p) = if p ∈ ks then some (.bl true) else none
  | [] => rfl
  | k :: ks => by
    by_cases h : k = p
    · subst h
      rw [show metF (k :: ks) = (nK k, V.bl true) :: metF ks from rfl, valV_pos rfl]
      simp
    · have hn : ¬ nK k = nK p := fun e => by
        have e : (Sum.inl (k : Int) : Key) = .inl (p : Int) := e
        injection e with e
        exact h (by omega)
      rw [show metF (k :: ks) = (nK k, V.bl true) :: metF ks from rfl, valV_neg hn, met_val p ks]
      simp [Ne.symm h]
theorem num_mem {Ts : List PyData} (nd : Ts.Nodup) {p : Nat} {d : PyData} (hp : Ts[p]? = some d) : ∀ {ks : List Nat} {ds : List PyData}, NumL Ts ks ds → (p ∈ ks ↔ d ∈ ds)
  | [], ds, h => by cases ds with
    | nil => simp
    | cons x r => cases h
  | k :: ks, ds, h => by cases ds with
    | nil => cases h
    | cons x r =>
      have h : Ts[k]? :: ks.map (fun n => Ts[n]?) = some x :: r.map some := h
      injection h with h1 h2
      have ih := num_mem nd hp (ks := ks) (ds := r) h2
      rw [List.mem_cons, List.mem_cons, ih]
      constructor
      · rintro (rfl | h)
        · rw [hp] at h1
          exact .inl (Option.some.inj h1)
        · exact .inr h
      · rintro (rfl | h)
        · exact .inl (nodup_at nd hp h1)
        · exact .inr h
theorem num_app {Ts : List PyData} : ∀ {ns ms : List Nat} {ds es : List PyData}, NumL Ts ns ds → NumL Ts ms es → NumL Ts (ns ++ ms) (ds ++ es) := fun {ns ms ds es} h g => by
  unfold NumL at *
  rw [List.map_append, List.map_append, h, g]
theorem num_len {Ts : List PyData} {ns : List Nat} {ds : List PyData} (h : NumL Ts ns ds) : ns.length = ds.length := by
  have := congrArg List.length h
  rwa [List.length_map, List.length_map] at this
theorem num_in {Ts : List PyData} {ns : List Nat} {ds : List PyData} (h : NumL Ts ns ds) : ∀ d ∈ ds, d ∈ Ts := fun d hd => by
  have : some d ∈ ds.map some := List.mem_map.mpr ⟨d, hd, rfl⟩
  rw [← show ns.map (fun n => Ts[n]?) = ds.map some from h] at this
  obtain ⟨n, _, e⟩ := List.mem_map.mp this
  exact List.mem_of_getElem? e
def spPartsOf (K : PySem.W.Frag) (CN : Addr) (U : Str → Bool) : Sp := fun vs H Q _ => ∃ x lt lh lp dk Ts Ns d, ∃ n : Nat, vs = [.ref x, iV n] ∧ NumAt K CN U H x lt lh lp dk Ts Ns ∧ Ts[n]? = some d ∧ fsz d ≤ 5000 ∧ Ts.length < 10000 ∧
  ∀ (l : Addr) (ks : List Nat) (H' : Hp), Same H H' → H l = none → H' l = some (.lst (ks.map iV)) → NumL Ts ks (addAll [] (preD d)) → Q (.ref l) H'
section
variable {P : Program} {w : World} {K : PySem.W.Frag} {mg : Str → Option Value} {base : Heap} {CN : Addr} {U : Str → Bool}
theorem scPO : FnScope ["self", "number", "met", "todo", "part"] ["self", "number"] (defScope sPartsOf) := ⟨rfl, rfl, rfl, by decide +kernel, rfl, by decide +kernel, by decide +kernel⟩
theorem ok_partsOf {f : Addr} {fd : FuncData} (F : Fun K "parts_of" "Numbered.parts_of" sPartsOf f fd) (S : NCl K CN) (hl : mg "list" = none) : FnOk P w K mg base CX0 1 f fd ["self", "number"] (spPartsOf K CN U) := by
  refine F.ok scPO (fun vs H Q E h => ?_) (fun cdv A outer s H vs Q E hr h => ?_)
  · obtain ⟨x, lt, lh, lp, dk, Ts, Ns, d, n, rfl, _⟩ := h
    rfl
  · obtain ⟨x, lt, lh, lp, dk, Ts, Ns, d, n, rfl, hN, hd, hsz, hT, q⟩ := h
    have nd := scPO.nd
    have hu := hu_of hr
    have big : (20000 : Nat) ≤ sizeLine := by decide
    refine ⟨_, pss_cons (ps_set (i := 2) nd rfl (Or.inl rfl) pe_dnewK)
      (pss_cons (ps_set (i := 3) nd rfl (Or.inl rfl) (pe_lst (pa_cons (pv 1) pa_nil)))
      (pss_cons (ps_while PassesOwn.never (pt_truth (pv 3) (by intro _; rfl))
        (pss_cons (ps_set (i := 4) nd rfl (Or.inl rfl) (pe_bm0 PySem.F.plainAttrs_list PySem.F.slot_list_pop PySem.F.type_list_pop mt_pop (pv 3)))
        (pss_one (ps_if (pt_cmp (pc_dnotin hu (pv 4) (pv 2)))
          (pss_cons (ps_dput hu (pv 2) (pv 4) pe_bl rfl)
          (pss_one (ps_expr (pe_bm PySem.F.plainAttrs_list PySem.F.slot_list_extend PySem.F.type_list_extend mt_extendT (pv 3) (pa_cons (pe_revT (pe_ix ix_list (pe_fld (pv 0) rfl) (pv 4) fun _ _ => rfl)) pa_nil))))) pss_nil))))
      (pss_one (ps_ret (pe_callTy (call_listD rfl) (by rfl) hl (by decide +kernel) (pa_cons (pv 2) pa_nil)))))), ?_⟩
    refine fun dm hdm => ?_
    have s1 := same_upd (o := .dK []) hdm
    have e1 : (L2.upd H dm (.dK [])) dm = some (.dK []) := upd_same
    generalize (L2.upd H dm (.dK [])) = H1 at s1 e1 ⊢
    refine ⟨_, rfl, (by show 1 ≤ sizeLine; decide), fun lo hlo => ?_⟩
    have s2 := same_upd (o := .lst [iV n]) hlo
    have e2 : (L2.upd H1 lo (.lst [iV n])) lo = some (.lst [iV n]) := upd_same
    have e12 := s2 _ _ e1
    have hlo0 : H lo = none := Same.free s1 hlo
    have dmo : dm ≠ lo := ne_of_none e1 hlo
    generalize (L2.upd H1 lo (.lst [iV n])) = H2 at s2 e2 e12 ⊢
    have hd1 : NumL Ts [n] [d] := by
      show [Ts[n]?] = [some d]
      rw [hd]
    refine ⟨fun m σ H' => ∃ Sn Sd ks Md c4, m = fszs Sd ∧ σ = [some (.ref x), some (iV n), some (.ref dm), some (.ref lo), c4] ∧ Same H H' ∧ H' lo = some (.lst (Sn.map iV).reverse) ∧ H' dm = some (.dK (metF ks)) ∧ NumL Ts Sn Sd ∧ NumL Ts ks Md ∧ Md.Nodup ∧ Clos Sd Md ∧ addAll Md (preDs Sd) = addAll [] (preD d) ∧ fszs Sd ≤ 5000,
      ⟨_, [n], [d], [], [], none, rfl, rfl, Same.trans s1 s2, e2, e12, hd1, rfl, List.nodup_nil, (show Clos [d] [] from fun A s B _ m hm => by cases hm), (by simp [preDs]), (by simpa [fszs] using hsz)⟩, ?_⟩
    rintro m σ H0 ⟨Sn, Sd, ks, Md, c4, rfl, rfl, sm, hL, hM, nS, nM, mnd, hC, hE, hB⟩
    have lS := num_len nS
    have lM := num_len nM
    have lSz := fszs_len Sd
    refine ⟨_, rfl, !(Sn.map iV).reverse.isEmpty, .inl ⟨_, SqL.of hL, rfl⟩, ?_⟩
    cases Sn with
    | nil =>
      refine iteF ?_
      cases Sd with
      | cons _ _ => cases lS
      | nil =>
        refine ⟨_, rfl, dm, _, rfl, .inl hM, fun p hp => ?_⟩
        have ek : (metF ks).map (fun kv => kV kv.1) = ks.map iV := by
          unfold metF
          rw [List.map_map]
          rfl
        rw [ek]
        rw [show addAll Md (preDs []) = Md from rfl] at hE
        exact q p ks _ (Same.trans sm (same_upd hp)) (Same.free sm hp) upd_same (by rw [← hE]; exact nM)
    | cons p Sn =>
      cases Sd with
      | nil => cases lS
      | cons pd Sd =>
        rw [show (!((p :: Sn).map iV).reverse.isEmpty) = true by simp]
        refine iteT ?_
        refine ⟨_, fun _ _ z => z, ?_⟩
        have nS' : Ts[p]? :: Sn.map (fun n => Ts[n]?) = some pd :: Sd.map some := nS
        injection nS' with hp nS2
        have nS2 : NumL Ts Sn Sd := nS2
        refine ⟨_, rfl, .inl ⟨rfl, _, SqL.of hL⟩, lo, _, iV p, rfl, rfl, hL, (by simp), ?_⟩
        rw [show ((p :: Sn).map iV).reverse.dropLast = (Sn.map iV).reverse by simp]
        have sm3 : Same H (L2.upd H0 lo (.lst (Sn.map iV).reverse)) := fun b o e => by
          rw [upd_ne (ne_of_none e hlo0)]
          exact sm b o e
        have L3 : (L2.upd H0 lo (.lst (Sn.map iV).reverse)) lo = some (.lst (Sn.map iV).reverse) := upd_same
        have M3 : (L2.upd H0 lo (.lst (Sn.map iV).reverse)) dm = some (.dK (metF ks)) := by rw [upd_ne dmo]; exact hM
        generalize (L2.upd H0 lo (.lst (Sn.map iV).reverse)) = H3 at sm3 L3 M3 ⊢
        have mem := num_mem hN.wf.nd hp nM
        rw [fszs] at hB
        have fz := fsz_args pd
        refine ⟨_, rfl, _, rfl, dm, _, rfl, DGet.k (k := nK p) M3, _, rfl, ?_⟩
        rw [met_val]
        by_cases hin : p ∈ ks
        · rw [if_pos hin]
          obtain ⟨c1, c2⟩ := clos_in hC (mem.mp hin)
          refine iteF ⟨fszs Sd, by rw [fszs]; omega, Sn, Sd, ks, Md, _, rfl, rfl, sm3, L3, M3, nS2, nM, mnd, c2, ?_, by omega⟩
          rw [← hE, run_in c1]
        · rw [if_neg hin]
          have hno : pd ∉ Md := fun h => hin (mem.mpr h)
          have lT : Md.length ≤ Ts.length := nodup_leD mnd (num_in nM)
          refine iteT ?_
          refine ⟨_, rfl, _, rfl, dm, _, rfl, DPut.k (k := nK p) M3 (Nat.lt_of_lt_of_le (show (metF ks).length < 20000 by unfold metF; rw [List.length_map]; omega) big), ?_⟩
          rw [putK_new _ (by rw [met_val, if_neg hin]), show metF ks ++ [(nK p, V.bl true)] = metF (ks ++ [p]) by unfold metF; rw [List.map_append]; rfl]
          have sm4 : Same H (L2.upd H3 dm (.dK (metF (ks ++ [p])))) := fun b o e => by
            rw [upd_ne (ne_of_none e hdm)]
            exact sm3 b o e
          have L4 : (L2.upd H3 dm (.dK (metF (ks ++ [p])))) lo = some (.lst (Sn.map iV).reverse) := by rw [upd_ne dmo.symm]; exact L3
          have M4 : (L2.upd H3 dm (.dK (metF (ks ++ [p])))) dm = some (.dK (metF (ks ++ [p]))) := upd_same
          generalize (L2.upd H3 dm (.dK (metF (ks ++ [p])))) = H4 at sm4 L4 M4 ⊢
          have hN4 := hN.same sm4
          obtain ⟨dx, hx⟩ := hN4.i
          obtain ⟨pv, hp4, hpl⟩ := hN4.p
          obtain ⟨ns, hns⟩ : ∃ ns, Ns[p]? = some ns := ⟨_, List.getElem?_eq_getElem (by rw [hN.wf.len]; exact (List.getElem?_eq_some_iff.mp hp).1)⟩
          obtain ⟨w1, w2⟩ := hN.wf.num p pd ns hp hns
          obtain ⟨ta, ha1, ha2⟩ := hpl.get hns
          have ha3 := delS_sub _ _ ha2
          have lns := num_len w1
          have lar := fszs_len (argsD pd)
          refine ⟨_, rfl, .inl ⟨rfl, _, SqL.of L4⟩, _, rfl, x, CN, dx, _, .ref lp, rfl, hx, S.cl, S.n3, rfl, _, rfl, lp, pv, (p : Int), .ref ta, rfl, rfl, SqL.of hp4, ?_, ta, _, rfl, SqT.of ha3, fun tr htr => ?_⟩
          · exact atI_nat ha1
          · have s5 := same_upd (o := .tup (ns.map iV).reverse) htr
            have e5 : (L2.upd H4 tr (.tup (ns.map iV).reverse)) tr = some (.tup (ns.map iV).reverse) := upd_same
            have L5 := s5 _ _ L4
            have M5 := s5 _ _ M4
            generalize (L2.upd H4 tr (.tup (ns.map iV).reverse)) = H5 at s5 e5 L5 M5 ⊢
            refine ⟨lo, tr, _, _, rfl, rfl, L5, SqT.of e5, Nat.le_trans (show (Sn.map iV).reverse.length + (ns.map iV).reverse.length ≤ 20000 by rw [List.length_reverse, List.length_reverse, List.length_map, List.length_map]; rw [List.length_cons, List.length_cons] at lS; rw [fszs, List.length_cons] at lSz; omega) big, ?_⟩
            refine ⟨fszs (argsD pd ++ Sd), by rw [fszs_app, fszs]; omega, ns ++ Sn, argsD pd ++ Sd, ks ++ [p], Md ++ [pd], _, rfl, rfl, fun b o e => ?_, ?_, ?_, num_app w1 nS2, num_app nM (show NumL Ts [p] [pd] by show [Ts[p]?] = [some pd]; rw [hp]), ?_, clos_new hC, ?_, by rw [fszs_app]; omega⟩
            · rw [upd_ne (ne_of_none e hlo0)]
              exact s5 _ _ (sm4 b o e)
            · rw [upd_same]
              simp
            · rw [upd_ne dmo]
              exact M5
            · rw [List.nodup_append]
              refine ⟨mnd, by simp, fun a ha b hb e => ?_⟩
              rw [List.mem_singleton.mp hb] at e
              exact hno (e ▸ ha)
            · rw [← hE, run_new hno]
end
end Sg

set_option maxRecDepth 100000
set_option maxHeartbeats 8000000
namespace Sg
open PySem PySem.Spec PyProof.Rows L2 Dr Gd Er Cm LD CM XT RT
def SameX (x : Addr) (H H' : Hp) : Prop := ∀ b o, H b = some o → b ≠ x → H' b = some o
theorem SameX.refl (x : Addr) (H : Hp) : SameX x H H := fun _ _ h _ => h
theorem SameX.trans {x : Addr} {H H1 H2 : Hp} (a : SameX x H H1) (b : SameX x H1 H2) : SameX x H H2 := fun c o h n => b c o (a c o h n) n
theorem Same.x {x : Addr} {H H' : Hp} (s : Same H H') : SameX x H H' := fun b o h _ => s b o h
theorem SameX.upd {x : Addr} {H H1 : Hp} {o : HO} (s : SameX x H H1) : SameX x H (L2.upd H1 x o) := fun b u h n => by
  rw [upd_ne n]
  exact s b u h n
abbrev sParts : Stmt := top 6
def spNInit (K : PySem.W.Frag) (CN : Addr) (U : Str → Bool) : Sp := fun vs H Q _ => ∃ x dx, vs = [.ref x] ∧ H x = some (.ins CN dx []) ∧
  ∀ lt lh lp dk H', SameX x H H' → (∀ b ∈ [lt, lh, lp, dk], H b = none) → lt ≠ lh → lt ≠ lp → lh ≠ lp → NumAt K CN U H' x lt lh lp dk [] [] → Q .non H'
section
variable {P : Program} {w : World} {K : PySem.W.Frag} {mg : Str → Option Value} {base : Heap} {CN : Addr} {U : Str → Bool} {fI fT fP : Addr} {dI dT dP : FuncData}
theorem scNI : FnScope ["self"] ["self"] (defScope sNInit) := ⟨rfl, rfl, rfl, by decide +kernel, rfl, by decide +kernel, by decide +kernel⟩
theorem ok_ninit {f : Addr} {fd : FuncData} (F : Fun K "__init__" "Numbered.__init__" sNInit f fd) (S : NCl K CN) : FnOk P w K mg base CX0 1 f fd ["self"] (spNInit K CN U) := by
  refine F.ok scNI (fun vs H Q E h => ?_) (fun cdv A outer s H vs Q E hr h => ?_)
  · obtain ⟨x, dx, rfl, _⟩ := h
    rfl
  · obtain ⟨x, dx, rfl, hx, q⟩ := h
    refine ⟨_, pss_cons (ps_fld (pv 0) (pe_lst pa_nil) rfl) (pss_cons (ps_fld (pv 0) (pe_lst pa_nil) rfl) (pss_cons (ps_fld (pv 0) (pe_lst pa_nil) rfl) (pss_one (ps_fld (pv 0) pe_dnewT rfl)))), ?_⟩
    refine ⟨Nat.zero_le _, fun lt h1 => ⟨_, rfl, x, CN, dx, [], rfl, ?_, S.cl, S.n1, by decide, ?_⟩⟩
    · rw [upd_ne (ne_of_none hx h1)]; exact hx
    have xl : x ≠ lt := ne_of_none hx h1
    have sx1 : SameX x H (L2.upd (L2.upd H lt (.lst [])) x (.ins CN dx (putF "terms" (.ref lt) []))) := (Same.x (same_upd h1)).upd
    have x1 : (L2.upd (L2.upd H lt (.lst [])) x (.ins CN dx (putF "terms" (.ref lt) []))) x = some (.ins CN dx [("terms", .ref lt)]) := upd_same
    have t1 : (L2.upd (L2.upd H lt (.lst [])) x (.ins CN dx (putF "terms" (.ref lt) []))) lt = some (.lst []) := by rw [upd_ne xl.symm, upd_same]
    generalize (L2.upd (L2.upd H lt (.lst [])) x (.ins CN dx (putF "terms" (.ref lt) []))) = H1 at sx1 x1 t1 ⊢
    refine ⟨Nat.zero_le _, fun lh h2 => ⟨_, rfl, x, CN, dx, [("terms", .ref lt)], rfl, ?_, S.cl, S.n2, (by simp), ?_⟩⟩
    · rw [upd_ne (ne_of_none x1 h2)]; exact x1
    have xh : x ≠ lh := ne_of_none x1 h2
    have th : lt ≠ lh := ne_of_none t1 h2
    have n2 : H lh = none := by
      cases e : H lh with
      | none => rfl
      | some o => have := sx1 _ _ e xh.symm; rw [h2] at this; cases this
    have sx2 : SameX x H (L2.upd (L2.upd H1 lh (.lst [])) x (.ins CN dx (putF "heads" (.ref lh) [("terms", .ref lt)]))) := (sx1.trans (Same.x (same_upd h2))).upd
    have x2 : (L2.upd (L2.upd H1 lh (.lst [])) x (.ins CN dx (putF "heads" (.ref lh) [("terms", .ref lt)]))) x = some (.ins CN dx [("terms", .ref lt), ("heads", .ref lh)]) := upd_same
    have t2 : (L2.upd (L2.upd H1 lh (.lst [])) x (.ins CN dx (putF "heads" (.ref lh) [("terms", .ref lt)]))) lt = some (.lst []) := by rw [upd_ne xl.symm, upd_ne th]; exact t1
    have u2 : (L2.upd (L2.upd H1 lh (.lst [])) x (.ins CN dx (putF "heads" (.ref lh) [("terms", .ref lt)]))) lh = some (.lst []) := by rw [upd_ne xh.symm, upd_same]
    generalize (L2.upd (L2.upd H1 lh (.lst [])) x (.ins CN dx (putF "heads" (.ref lh) [("terms", .ref lt)]))) = H2 at sx2 x2 t2 u2 ⊢
    refine ⟨Nat.zero_le _, fun lp h3 => ⟨_, rfl, x, CN, dx, [("terms", .ref lt), ("heads", .ref lh)], rfl, ?_, S.cl, S.n3, (by simp), ?_⟩⟩
    · rw [upd_ne (ne_of_none x2 h3)]; exact x2
    have xp : x ≠ lp := ne_of_none x2 h3
    have tp : lt ≠ lp := ne_of_none t2 h3
    have hp : lh ≠ lp := ne_of_none u2 h3
    have n3 : H lp = none := by
      cases e : H lp with
      | none => rfl
      | some o => have := sx2 _ _ e xp.symm; rw [h3] at this; cases this
    have sx3 : SameX x H (L2.upd (L2.upd H2 lp (.lst [])) x (.ins CN dx (putF "places" (.ref lp) [("terms", .ref lt), ("heads", .ref lh)]))) := (sx2.trans (Same.x (same_upd h3))).upd
    have x3 : (L2.upd (L2.upd H2 lp (.lst [])) x (.ins CN dx (putF "places" (.ref lp) [("terms", .ref lt), ("heads", .ref lh)]))) x = some (.ins CN dx [("terms", .ref lt), ("heads", .ref lh), ("places", .ref lp)]) := upd_same
    have t3 : (L2.upd (L2.upd H2 lp (.lst [])) x (.ins CN dx (putF "places" (.ref lp) [("terms", .ref lt), ("heads", .ref lh)]))) lt = some (.lst []) := by rw [upd_ne xl.symm, upd_ne tp]; exact t2
    have u3 : (L2.upd (L2.upd H2 lp (.lst [])) x (.ins CN dx (putF "places" (.ref lp) [("terms", .ref lt), ("heads", .ref lh)]))) lh = some (.lst []) := by rw [upd_ne xh.symm, upd_ne hp]; exact u2
    have v3 : (L2.upd (L2.upd H2 lp (.lst [])) x (.ins CN dx (putF "places" (.ref lp) [("terms", .ref lt), ("heads", .ref lh)]))) lp = some (.lst []) := by rw [upd_ne xp.symm, upd_same]
    generalize (L2.upd (L2.upd H2 lp (.lst [])) x (.ins CN dx (putF "places" (.ref lp) [("terms", .ref lt), ("heads", .ref lh)]))) = H3 at sx3 x3 t3 u3 v3 ⊢
    refine fun dk h4 => ⟨_, rfl, x, CN, dx, [("terms", .ref lt), ("heads", .ref lh), ("places", .ref lp)], rfl, ?_, S.cl, S.n4, (by simp), ?_⟩
    · rw [upd_ne (ne_of_none x3 h4)]; exact x3
    have xk : x ≠ dk := ne_of_none x3 h4
    have n4 : H dk = none := by
      cases e : H dk with
      | none => rfl
      | some o => have := sx3 _ _ e xk.symm; rw [h4] at this; cases this
    refine q lt lh lp dk _ ((sx3.trans (Same.x (same_upd h4))).upd) (fun b hb => ?_) th tp hp ⟨⟨dx, upd_same⟩, ⟨[], ?_, .nil⟩, ?_, ⟨[], ?_, trivial⟩, ?_, ⟨rfl, List.nodup_nil, (fun d hd => by cases hd), (fun i d ns h => by simp at h)⟩⟩
    · simp only [List.mem_cons, List.not_mem_nil, or_false] at hb
      rcases hb with rfl | rfl | rfl | rfl
      · exact h1
      · exact n2
      · exact n3
      · exact n4
    · rw [upd_ne xl.symm, upd_ne (ne_of_none t3 h4)]; exact t3
    · rw [upd_ne xh.symm, upd_ne (ne_of_none u3 h4)]; exact u3
    · rw [upd_ne xp.symm, upd_ne (ne_of_none v3 h4)]; exact v3
    · rw [upd_ne xk.symm, upd_same]; rfl
end
end Sg

set_option maxRecDepth 100000
set_option maxHeartbeats 8000000
namespace Sg
open PySem PySem.Spec PyProof.Rows L2 Dr Gd Er Cm LD CM XT RT
theorem addAll_nd : ∀ {ds M : List PyData}, M.Nodup → (addAll M ds).Nodup
  | [], M, h => h
  | d :: ds, M, h => by
    show (addAll (addD M d) ds).Nodup
    refine addAll_nd ?_
    by_cases hd : d ∈ M
    · rw [addD_in hd]; exact h
    · rw [addD_no hd, List.nodup_append]
      refine ⟨h, by simp, fun a ha b hb e => ?_⟩
      rw [List.mem_singleton.mp hb] at e
      exact hd (e ▸ ha)
def spParts (K : PySem.W.Frag) (U : Str → Bool) : Sp := fun vs H Q _ => ∃ v d, vs = [v] ∧ Dp K H v d ∧ okN U d = true ∧ fsz d ≤ 4000 ∧ ∀ (l : Addr) (us : List V) (H' : Hp), Same H H' → H l = none → H' l = some (.lst us) → DpAll K (delS [l] H') us (addAll [] (preD d)) → Q (.ref l) H'
section
variable {P : Program} {w : World} {K : PySem.W.Frag} {mg : Str → Option Value} {base : Heap} {CN : Addr} {U : Str → Bool} {fI fT fP : Addr} {dI dT dP : FuncData}
theorem scPs : FnScope ["term", "store", "number"] ["term"] (defScope sParts) := ⟨rfl, rfl, rfl, by decide +kernel, rfl, by decide +kernel, by decide +kernel⟩
theorem ok_parts {f : Addr} {fd : FuncData} (F : Fun K "parts" "parts" sParts f fd) (S : NCl K CN) (M : Mk K CN fI) (gN : mg "Numbered" = some (.ref CN)) (FI : FnOk P w K mg base CX0 1 fI dI ["self"] (spNInit K CN U)) (bI : Binds K dI ["self"] [])
    (mT : Meth K CN "take" fT) (FT : FnOk P w K mg base CX0 3 fT dT ["self", "term"] (spTakeN K CN U)) (bT : Binds K dT ["self", "term"] []) (mP : Meth K CN "parts_of" fP) (FPo : FnOk P w K mg base CX0 1 fP dP ["self", "number"] (spPartsOf K CN U)) (bP : Binds K dP ["self", "number"] []) :
    FnOk P w K mg base CX0 4 f fd ["term"] (spParts K U) := by
  refine F.ok scPs (fun vs H Q E h => ?_) (fun cdv A outer s H vs Q E hr h => ?_)
  · obtain ⟨v, d, rfl, _⟩ := h
    rfl
  · obtain ⟨v, d, rfl, hv, hok, hsz, q⟩ := h
    have nd := scPs.nd
    have big : (20000 : Nat) ≤ sizeLine := by decide
    refine ⟨_, pss_cons (ps_set (i := 1) nd rfl (Or.inr rfl) (pe_make0 M FI (hr.mono (by decide)) rfl gN bI .nil pass0))
      (pss_one (ps_ret (pe_lc (own := [("number", 2)]) (g := gName 2) (tt := tYes) (te := tOp (rIxL K) (tFld K (tVar 1) "terms") (tVar 2)) rfl nd (pi_list (pe_meth (pv 1) S.cl mP FPo (hr.mono (by decide)) bP .nil pass0 (pa_cons (pe_meth (pv 1) S.cl mT FT (hr.mono (by decide)) bT .nil pass0 (pa_cons (pv 0) pa_nil)) pa_nil)))
        (blkOk_by (N := ["term", "store", "number"]) (sc := defScope sParts) (by decide +kernel)) (fun _ _ _ _ _ => pg_name (i := 2) nd rfl (Or.inl rfl)) (fun _ _ _ _ _ => pts_nil) (fun _ _ _ _ _ => pe_ix ix_list (pe_fld (pv 1) rfl) (pv 2) fun _ _ => rfl)))), ?_⟩
    intro x dx hx hdx hne
    refine ⟨x, dx, rfl, upd_same, fun lt lh lp dk H1 sx fr n1 n2 n3 hN => ⟨rfl, ?_⟩⟩
    have sm1 : Same H H1 := fun b o e => by
      have n := ne_of_none e hx
      exact sx b o (by rw [upd_ne n, upd_ne (ne_of_none e hdx)]; exact e) n
    have fr0 : ∀ b, H b ≠ none → b ∉ [lt, lh, lp, dk] := fun b hb hm => by
      have e := fr b hm
      by_cases h1 : b = x
      · exact hb (h1 ▸ hx)
      · rw [upd_ne h1] at e
        by_cases h2 : b = dx
        · exact hb (h2 ▸ hdx)
        · rw [upd_ne h2] at e
          exact hb e
    have hv1 : Dp K (delS [lt, lh, lp, dk] H1) v d := dp_same (fun b o e => by
      rw [delS_of (fr0 b (by rw [e]; exact fun z => by cases z))]
      exact sm1 b o e) _ _ hv
    obtain ⟨dx1, hx1⟩ := hN.i
    refine ⟨_, rfl, x, dx1, _, rfl, hx1, rfl, _, rfl, x, dx1, _, rfl, hx1, rfl, _, rfl, ?_⟩
    refine ⟨x, v, lt, lh, lp, dk, [], [], d, rfl, hN, n1, n2, n3, hv1, hok, by omega, (by show 0 + fsz d < 10000; omega), fun m Ts Ns H2 s2 hN2 pre mem at_ => ?_⟩
    have lT : Ts.length ≤ fsz d := by
      have := nodup_leD (m := preD d) hN2.wf.nd fun y hy => (mem y hy).elim (fun h => by cases h) id
      rw [preD_len] at this
      exact this
    refine ⟨x, lt, lh, lp, dk, Ts, Ns, d, m, rfl, hN2, at_, by omega, by omega, fun lk ks H3 s3 hk ek nk => ?_⟩
    have sm2 : Same H H2 := fun b o e => (delS_inv (s2 b o (by rw [delS_of (fr0 b (by rw [e]; exact fun z => by cases z))]; exact sm1 b o e))).2
    have sm3 := Same.trans sm2 s3
    have hN3 := hN2.same s3
    have lks := num_len nk
    have lall : (addAll [] (preD d)).length ≤ Ts.length ∨ True := .inr trivial
    refine ⟨lk, rfl, ⟨_, SqL.of ek⟩, fun D hD => ?_⟩
    refine lc_it (walk_list (xs := ks.map iV)) (fun i H' => ∃ us, Same H3 H' ∧ H' D = some (.lst us) ∧ us.length = i ∧ DpAll K (delS [D] H') us ((addAll [] (preD d)).take i))
      ⟨[], same_upd hD, upd_same, rfl, .nil⟩ (fun i H' hi hp => by obtain ⟨_, sm, _⟩ := hp; exact SqL.of (sm _ _ ek)) (fun i y H5' H' hi hp hy => ?_) (fun H6 hp => ?_)
    · obtain ⟨us, sm, eD, hl, hus⟩ := hp
      obtain ⟨rfl, ey⟩ := hy
      rw [List.getElem?_map] at ey
      obtain ⟨k, ek1, rfl⟩ := Option.map_eq_some_iff.mp ey
      have hN' := hN3.same sm
      obtain ⟨dx2, hx2⟩ := hN'.i
      obtain ⟨tv, ht, hd⟩ := hN'.t
      have ek2 : Ts[k]? = (addAll [] (preD d))[i]? := by
        have h1 := congrArg (fun l : List (Option PyData) => l[i]?) (show ks.map (fun n => Ts[n]?) = (addAll [] (preD d)).map some from nk)
        simp only [List.getElem?_map, ek1] at h1
        cases e : (addAll [] (preD d))[i]? with
        | none => rw [e] at h1; cases h1
        | some t => rw [e] at h1; exact Option.some.inj h1
      have hi' : i < ks.length := by simpa using hi
      obtain ⟨t, et⟩ : ∃ t, (addAll [] (preD d))[i]? = some t := ⟨_, List.getElem?_eq_getElem (by omega)⟩
      rw [et] at ek2
      have ltv := dpAll_len hd
      obtain ⟨y, ey2⟩ : ∃ y, tv[k]? = some y := ⟨_, List.getElem?_eq_getElem (by rw [ltv]; exact (List.getElem?_eq_some_iff.mp ek2).1)⟩
      obtain ⟨t2, et2, hyt⟩ := dpAll_get' hd ey2
      rw [ek2] at et2
      obtain rfl := Option.some.inj et2
      have okt : okN U t = true := hN'.wf.ok t (List.mem_of_getElem? ek2)
      refine ⟨rfl, lcYes ?_⟩
      refine ⟨_, rfl, x, CN, dx2, _, .ref lt, rfl, hx2, S.cl, S.n1, rfl, _, rfl, lt, tv, (k : Int), y, rfl, rfl, SqL.of ht, atI_nat ey2, ?_⟩
      have lim : us.length < 20000 := by
        have h2 : ks.length ≤ Ts.length := by
          rw [lks]
          exact nodup_leD (addAll_nd List.nodup_nil) (num_in nk)
        omega
      refine ⟨us, eD, Nat.lt_of_lt_of_le lim big, us ++ [y], ?_, upd_same, by rw [List.length_append, hl]; rfl, ?_⟩
      · intro b o e'
        rw [upd_ne (ne_of_none e' hD)]
        exact sm b o e'
      · rw [List.take_succ, et, delS_upd (by simp)]
        refine dpAll_app hus (.cons (dp_off (U := U) (fun b o e n => ?_) t y okt hyt) .nil)
        obtain ⟨e1, e2⟩ := delS_inv e
        have bD : b ∉ [D] := fun h => by
          rw [List.mem_singleton.mp h, eD] at e2
          exact n us (Option.some.inj e2).symm
        rw [delS_of bD]
        exact e2
    · obtain ⟨us, sm, eD, hl, hus⟩ := hp
      rw [List.take_of_length_le (by rw [List.length_map]; omega)] at hus
      exact q D us H6 (Same.trans sm3 sm) (Same.free sm3 hD) eD hus
end
end Sg

set_option maxRecDepth 100000
set_option maxHeartbeats 8000000
namespace Sg
open PySem PySem.Spec PyProof.Rows L2 Dr Gd Er Cm LD CM XT RT
abbrev sSize : Stmt := top 8
abbrev sWD : Stmt := top 9
theorem dpAll_rev {K : PySem.W.Frag} {H : Hp} : ∀ {vs : List V} {ds : List PyData}, DpAll K H vs ds → DpAll K H vs.reverse ds.reverse
  | _, _, .nil => .nil
  | _, _, .cons a b => by
    rw [List.reverse_cons, List.reverse_cons]
    exact dpAll_app (dpAll_rev b) (.cons a .nil)
theorem preDs_rev : ∀ ds : List PyData, (preDs ds.reverse).Perm (preDs ds)
  | [] => List.Perm.refl _
  | d :: ds => by
    have e : preDs [d] = preD d := by simp [preDs]
    have e2 : preDs (d :: ds) = preD d ++ preDs ds := by rw [preDs]
    rw [List.reverse_cons, preDs_app, e, e2]
    exact List.perm_append_comm.trans ((preDs_rev ds).append_left _)
theorem okNs_rev {U : Str → Bool} {ds : List PyData} (h : okNs U ds = true) : okNs U ds.reverse = true := okNs_all fun d hd => okNs_mem h d (List.mem_reverse.mp hd)
theorem okNs_app {U : Str → Bool} {a b : List PyData} (h : okNs U a = true) (g : okNs U b = true) : okNs U (a ++ b) = true := okNs_all fun d hd => (List.mem_append.mp hd).elim (okNs_mem h d) (okNs_mem g d)
theorem fszs_rev : ∀ ds : List PyData, fszs ds.reverse = fszs ds
  | [] => rfl
  | d :: ds => by
    have e : fszs [d] = fsz d := by simp [fszs]
    have e2 : fszs (d :: ds) = fsz d + fszs ds := by rw [fszs]
    rw [List.reverse_cons, fszs_app, fszs_rev ds, e, e2]
    omega
def spWD (K : PySem.W.Frag) (U : Str → Bool) : Sp := fun vs H Q _ => ∃ v d, vs = [v] ∧ Dp K H v d ∧ okN U d = true ∧ fsz d ≤ 4000 ∧ ∀ (l : Addr) (us : List V) (ds : List PyData) (H' : Hp), Same H H' → H l = none → H' l = some (.lst us) → DpAll K H us ds → ds.Perm (preD d) → Q (.ref l) H'
def spSize (K : PySem.W.Frag) (U : Str → Bool) : Sp := fun vs H Q _ => ∃ v d, vs = [v] ∧ Dp K H v d ∧ okN U d = true ∧ fsz d ≤ 4000 ∧ ∀ H', Same H H' → Q (.int (fsz d : Nat)) H'
section
variable {P : Program} {w : World} {K : PySem.W.Frag} {mg : Str → Option Value} {base : Heap} {U : Str → Bool} {fA fW : Addr} {dA dW : FuncData}
theorem scWD : FnScope ["term", "met", "todo", "part"] ["term"] (defScope sWD) := ⟨rfl, rfl, rfl, by decide +kernel, rfl, by decide +kernel, by decide +kernel⟩
theorem ok_wd {f : Addr} {fd : FuncData} (F : Fun K "_with_doubles" "_with_doubles" sWD f fd) (gA : mg "arguments" = some (.ref fA)) (kA : PySem.W.keepIn K (.ref fA) = true) (bA : Binds K dA ["term"] []) (FA : FnOk P w K mg base CX0 1 fA dA ["term"] (spArgs K)) : FnOk P w K mg base CX0 2 f fd ["term"] (spWD K U) := by
  refine F.ok scWD (fun vs H Q E h => ?_) (fun cdv A outer s H vs Q E hr h => ?_)
  · obtain ⟨v, d, rfl, _⟩ := h
    rfl
  · obtain ⟨v, d, rfl, hv, hok, hsz, q⟩ := h
    have nd := scWD.nd
    have big : (20000 : Nat) ≤ sizeLine := by decide
    refine ⟨_, pss_cons (ps_set (i := 1) nd rfl (Or.inl rfl) (pe_lst pa_nil))
      (pss_cons (ps_set (i := 2) nd rfl (Or.inl rfl) (pe_lst (pa_cons (pv 0) pa_nil)))
      (pss_cons (ps_while PassesOwn.never (pt_truth (pv 2) (by intro _; rfl))
        (pss_cons (ps_set (i := 3) nd rfl (Or.inl rfl) (pe_bm0 PySem.F.plainAttrs_list PySem.F.slot_list_pop PySem.F.type_list_pop mt_pop (pv 2)))
        (pss_cons (ps_expr (pe_bm PySem.F.plainAttrs_list PySem.F.slot_list_append PySem.F.type_list_append mt_append (pv 1) (pa_cons (pv 3) pa_nil)))
        (pss_one (ps_expr (pe_bm PySem.F.plainAttrs_list PySem.F.slot_list_extend PySem.F.type_list_extend mt_extend (pv 2) (pa_cons (pe_call FA (hr.mono (by decide)) rfl gA kA bA .nil pass0 (pa_cons (pv 3) pa_nil)) pa_nil)))))))
      (pss_one (ps_ret (pv 1))))), ?_⟩
    refine ⟨Nat.zero_le _, fun lm hlm => ?_⟩
    have s1 := same_upd (o := .lst []) hlm
    have e1 : (L2.upd H lm (.lst [])) lm = some (.lst []) := upd_same
    generalize (L2.upd H lm (.lst [])) = H1 at s1 e1 ⊢
    refine ⟨_, rfl, (by show 1 ≤ sizeLine; decide), fun lo hlo => ?_⟩
    have s2 := same_upd (o := .lst [v]) hlo
    have e2 : (L2.upd H1 lo (.lst [v])) lo = some (.lst [v]) := upd_same
    have e12 := s2 _ _ e1
    have hlo0 : H lo = none := Same.free s1 hlo
    have mo : lm ≠ lo := ne_of_none e1 hlo
    generalize (L2.upd H1 lo (.lst [v])) = H2 at s2 e2 e12 ⊢
    refine ⟨fun m σ H' => ∃ tr Sd us Md c3, m = fszs Sd ∧ σ = [some v, some (.ref lm), some (.ref lo), c3] ∧ Same H H' ∧ H' lo = some (.lst tr.reverse) ∧ H' lm = some (.lst us) ∧ DpAll K H tr Sd ∧ DpAll K H us Md ∧ okNs U Sd = true ∧ (Md ++ preDs Sd).Perm (preD d) ∧ us.length + fszs Sd ≤ 4000,
      ⟨_, [v], [d], [], [], none, rfl, rfl, Same.trans s1 s2, e2, e12, .cons hv .nil, .nil, (by simp [okNs, hok]), (by simp [preDs]), (by simpa [fszs] using hsz)⟩, ?_⟩
    rintro m σ H0 ⟨tr, Sd, us, Md, c3, rfl, rfl, sm, hL, hM, hS, hU, hk, hP, hB⟩
    have lS := dpAll_len hS
    have lSz := fszs_len Sd
    refine ⟨_, rfl, !tr.reverse.isEmpty, .inl ⟨_, SqL.of hL, rfl⟩, ?_⟩
    cases hS with
    | nil =>
      refine iteF ⟨_, rfl, q lm us Md _ sm hlm hM hU ?_⟩
      simpa [preDs] using hP
    | @cons pv tr pd Sd hp hS =>
      rw [show (!(pv :: tr).reverse.isEmpty) = true by simp]
      refine iteT ?_
      refine ⟨_, fun _ _ z => z, ?_⟩
      rw [okNs, Bool.and_eq_true] at hk
      refine ⟨_, rfl, .inl ⟨rfl, _, SqL.of hL⟩, lo, _, pv, rfl, rfl, hL, (by simp), ?_⟩
      rw [show (pv :: tr).reverse.dropLast = tr.reverse by simp]
      have sm3 : Same H (L2.upd H0 lo (.lst tr.reverse)) := fun b o e => by
        rw [upd_ne (ne_of_none e hlo0)]
        exact sm b o e
      have L3 : (L2.upd H0 lo (.lst tr.reverse)) lo = some (.lst tr.reverse) := upd_same
      have M3 : (L2.upd H0 lo (.lst tr.reverse)) lm = some (.lst us) := by rw [upd_ne mo]; exact hM
      generalize (L2.upd H0 lo (.lst tr.reverse)) = H3 at sm3 L3 M3 ⊢
      rw [fszs] at hB
      rw [fszs, List.length_cons] at lSz
      rw [List.length_cons, List.length_cons] at lS
      have fz := fsz_args pd
      refine ⟨_, rfl, .inl ⟨rfl, _, SqL.of M3⟩, _, rfl, lm, us, pv, rfl, rfl, M3, Nat.lt_of_lt_of_le (show us.length < 20000 by omega) big, ?_⟩
      have sm4 : Same H (L2.upd H3 lm (.lst (us ++ [pv]))) := fun b o e => by
        rw [upd_ne (ne_of_none e hlm)]
        exact sm3 b o e
      have L4 : (L2.upd H3 lm (.lst (us ++ [pv]))) lo = some (.lst tr.reverse) := by rw [upd_ne mo.symm]; exact L3
      have M4 : (L2.upd H3 lm (.lst (us ++ [pv]))) lm = some (.lst (us ++ [pv])) := upd_same
      generalize (L2.upd H3 lm (.lst (us ++ [pv]))) = H4 at sm4 L4 M4 ⊢
      obtain ⟨as, das, spA⟩ := args_of hp (okN_F pd hk.1)
      have las := dpAll_len das
      have lar := fszs_len (argsD pd)
      refine ⟨_, rfl, .inl ⟨rfl, _, SqL.of L4⟩, _, rfl, pv, rfl, args_or spA sm4 fun la H5 s5 hla ela => ?_⟩
      have L5 := s5 _ _ L4
      have M5 := s5 _ _ M4
      refine ⟨lo, la, _, as, rfl, rfl, L5, ela, Nat.le_trans (show tr.reverse.length + as.length ≤ 20000 by rw [List.length_reverse]; omega) big, ?_⟩
      refine ⟨fszs ((argsD pd).reverse ++ Sd), by rw [fszs_app, fszs_rev, fszs]; omega, as.reverse ++ tr, (argsD pd).reverse ++ Sd, us ++ [pv], Md ++ [pd], _, rfl, rfl, fun b o e => ?_, ?_, ?_, dpAll_app (dpAll_rev das) hS, dpAll_app hU (.cons hp .nil), okNs_app (okNs_rev (okN_args hk.1)) hk.2, ?_, ?_⟩
      · rw [upd_ne (ne_of_none e hlo0)]
        exact s5 _ _ (sm4 b o e)
      · rw [upd_same]
        simp
      · rw [upd_ne mo]
        exact M5
      · refine List.Perm.trans ?_ hP
        rw [preDs_app, preDs, preD_eq pd, List.append_assoc]
        refine List.Perm.append_left _ ?_
        show (pd :: (preDs (argsD pd).reverse ++ preDs Sd)).Perm (pd :: (preDs (argsD pd) ++ preDs Sd))
        exact ((preDs_rev _).append_right _).cons _
      · rw [fszs_app, fszs_rev, List.length_append, List.length_singleton]
        omega
theorem scSz : FnScope ["term"] ["term"] (defScope sSize) := ⟨rfl, rfl, rfl, by decide +kernel, rfl, by decide +kernel, by decide +kernel⟩
theorem ok_size {f : Addr} {fd : FuncData} (F : Fun K "size" "size" sSize f fd) (hln : mg "len" = none) (gW : mg "_with_doubles" = some (.ref fW)) (kW : PySem.W.keepIn K (.ref fW) = true) (bW : Binds K dW ["term"] []) (FW : FnOk P w K mg base CX0 2 fW dW ["term"] (spWD K U)) : FnOk P w K mg base CX0 3 f fd ["term"] (spSize K U) := by
  refine F.ok scSz (fun vs H Q E h => ?_) (fun cdv A outer s H vs Q E hr h => ?_)
  · obtain ⟨v, d, rfl, _⟩ := h
    rfl
  · obtain ⟨v, d, rfl, hv, hok, hsz, q⟩ := h
    refine ⟨_, pss_one (ps_ret (pe_callB call_len_seq (by rfl) hln PySem.boot_len (pa_cons (pe_call FW (hr.mono (by decide)) rfl gW kW bW .nil pass0 (pa_cons (pv 0) pa_nil)) pa_nil))), ?_⟩
    refine ⟨_, rfl, v, d, rfl, hv, hok, hsz, fun l us ds H' sm hl el hd hp => ?_⟩
    refine ⟨l, us, rfl, .inl (SqL.of el), ?_⟩
    rw [dpAll_len hd, hp.length_eq, preD_len]
    exact q H' sm
end
end Sg

set_option maxRecDepth 100000
set_option maxHeartbeats 8000000
namespace Sg
open PySem PySem.Spec PyProof.Rows L2 Dr Gd Er Cm LD CM XT RT
abbrev sLSize : Stmt := top 22
theorem dep_memA : ∀ {ds : List PyData} {d : PyData}, d ∈ ds → d.depth ≤ PyData.depthAll ds
  | [], d, h => by cases h
  | e :: r, d, h => by
    rw [PyData.depthAll]
    rcases List.mem_cons.mp h with rfl | h
    · omega
    · have := dep_memA h
      omega
theorem dep_arg {d a : PyData} (h : a ∈ argsD d) : a.depth < d.depth := by
  cases d with
  | tuple ds =>
    cases ds with
    | nil => cases h
    | cons e r =>
      have h1 := dep_memA (List.mem_cons_of_mem e (show a ∈ r from h))
      have h2 : (PyData.tuple (e :: r)).depth = PyData.depthAll (e :: r) + 1 := by rw [PyData.depth]
      omega
  | _ => cases h
def spLSize (K : PySem.W.Frag) (U : Str → Bool) (n : Nat) : Sp := fun vs H Q _ => ∃ v d, vs = [v] ∧ Dp K H v d ∧ okN U d = true ∧ d.depth < n ∧ fsz d ≤ 4000 ∧ ∀ H', Same H H' → Q (.int (fsz d : Nat)) H'
section
variable {P : Program} {w : World} {K : PySem.W.Frag} {mg : Str → Option Value} {base : Heap} {U : Str → Bool}
theorem scLSz : FnScope ["term", "argument"] ["term"] (defScope sLSize) := ⟨rfl, rfl, rfl, by decide +kernel, rfl, by decide +kernel, by decide +kernel⟩
theorem fszs_take {ds : List PyData} {i : Nat} {d : PyData} (h : ds[i]? = some d) : fszs (ds.take (i + 1)) = fszs (ds.take i) + fsz d := by
  rw [List.take_succ, h, fszs_app]
  simp [fszs]
theorem ok_lsize {f : Addr} {fd : FuncData} (F : Fun K "_law_size" "_law_size" sLSize f fd) (g : mg "_law_size" = some (.ref f)) (hi : mg "isinstance" = none) (hs : mg "str" = none) (hsm : mg "sum" = none) : ∀ n : Nat, FnOk P w K mg base CX0 n f fd ["term"] (spLSize K U n)
  | 0 => ⟨fun vs H Q E h => (by obtain ⟨_, _, _, _, _, h, _⟩ := h; omega), fun _ _ _ _ _ _ _ _ _ _ _ _ _ h => (by obtain ⟨_, _, _, _, _, h, _⟩ := h; omega)⟩
  | n + 1 => by
    have IH := ok_lsize F g hi hs hsm n
    have b : Binds K fd ["term"] [] := F.binds fun _ _ _ _ _ _ us hl => match us, hl with | [_], _ => rfl
    refine F.ok scLSz (fun vs H Q E h => ?_) (fun cdv A outer s H vs Q E hr h => ?_)
    · obtain ⟨v, d, rfl, _⟩ := h
      rfl
    · obtain ⟨v, d, rfl, hv, hok, hd, hsz, q⟩ := h
      have big : (20000 : Nat) ≤ sizeLine := by decide
      refine ⟨_, pss_cons (ps_if (pt_val (pe_callB call_isi (by rfl) hi (by decide +kernel) (pa_cons (pv 0) (pa_cons (pe_bltn (v := .ty "str") (by rfl) hs (by decide +kernel) rfl) pa_nil)))) (pss_one (ps_ret pe_int)) pss_nil)
        (pss_one (ps_ret (pe_op op_add pe_int (pe_callB (cr_sum rfl) (by rfl) hsm (by decide +kernel) (pa_cons (pe_lc (own := [("argument", 1)]) (g := gName 1) (tt := tYes) (te := tCall (spLSize K U n) [] E0 (tCons (tVar 1) tNil)) rfl scLSz.nd (pi_tup (pe_slice sl_tup (pv 0) (po_some pe_int) po_none))
          (blkOk_by (N := ["term", "argument"]) (sc := defScope sLSize) (by decide +kernel)) (fun _ _ _ _ _ => pg_name (i := 1) scLSz.nd rfl (Or.inl rfl)) (fun _ _ _ _ _ => pts_nil) (fun _ _ _ _ _ => pe_call IH hr rfl g F.kp b .nil pass0 (pa_cons (pv 1) pa_nil))) pa_nil))))), ?_⟩
      rcases okN_case hok with ⟨z, rfl, _⟩ | ⟨z, r, rfl, _, hr2⟩
      · cases hv
        refine ⟨_, rfl, .str z, .ty "str", .type "str", .type "str", true, rfl, .ty _, .base (.str z), kit_ty (by decide +kernel), _, rfl, iteT ?_⟩
        have := q H (Same.refl H)
        rwa [show fsz (.str z) = 1 by simp [fsz]] at this
      · cases hv with
        | tup g1 g2 =>
          rename_i a xs
          cases g2 with
          | cons p1 p2 =>
            rename_i x0 ys
            refine ⟨_, rfl, .ref a, .ty "str", .type "tuple", .type "str", false, rfl, .ty _, ty_tup g1, kit_ty (by decide +kernel), _, rfl, iteF ?_⟩
            refine ⟨_, rfl, 1, rfl, a, x0 :: ys, rfl, g1, ?_, fun p hp => ?_⟩
            · rw [show HT.sIx (x0 :: ys).length 0 (some 1) = min 1 (x0 :: ys).length from HT.sIx_nat _ _ 1, List.length_cons]
              omega
            · rw [cut1]
              have s1 := same_upd (o := .tup ys) hp
              have e1 : (L2.upd H p (.tup ys)) p = some (.tup ys) := upd_same
              generalize (L2.upd H p (.tup ys)) = H1 at s1 e1 ⊢
              have ly := dpAll_len p2
              have lr := fszs_len r
              have fz : fsz (.tuple (.str z :: r)) = 1 + fszs r := by simp [fsz]
              refine ⟨p, rfl, ⟨_, SqT.of e1⟩, fun D hD => ?_⟩
              refine lc_it (walk_tup (xs := ys)) (fun i H' => ∃ ns : List Int, Same H1 H' ∧ H' D = some (.lst (ns.map V.int)) ∧ ns.length = i ∧ ns.sum = ((fszs (r.take i) : Nat) : Int))
                ⟨[], same_upd hD, upd_same, rfl, by simp [fszs]⟩ (fun i H' hi hp => by obtain ⟨_, sm, _⟩ := hp; exact SqT.of (sm _ _ e1)) (fun i y H5' H' hi hp hy => ?_) (fun H6 hp => ?_)
              · obtain ⟨ns, sm, eD, hl, hsum⟩ := hp
                obtain ⟨rfl, ey⟩ := hy
                obtain ⟨e, he, hye⟩ := dpAll_get' p2 ey
                have hm : e ∈ argsD (.tuple (.str z :: r)) := List.mem_of_getElem? he
                refine ⟨rfl, lcYes ?_⟩
                refine ⟨_, rfl, y, e, rfl, dp_same (Same.trans s1 sm) _ _ hye, okNs_mem hr2 e hm, by have := dep_arg hm; omega, by have := arg_lt hm; omega, fun H7 s7 => ?_⟩
                refine ⟨_, s7 _ _ eD, Nat.lt_of_lt_of_le (show (ns.map V.int).length < 20000 by rw [List.length_map]; omega) big, ns ++ [((fsz e : Nat) : Int)], ?_, ?_, by rw [List.length_append, hl]; rfl, ?_⟩
                · intro b o e'
                  rw [upd_ne (ne_of_none e' hD)]
                  exact s7 _ _ (sm b o e')
                · rw [upd_same, List.map_append]
                  rfl
                · rw [List.sum_append, hsum, fszs_take he]
                  simp
              · obtain ⟨ns, sm, eD, hl, hsum⟩ := hp
                rw [List.take_of_length_le (by omega)] at hsum
                refine ⟨D, ns, rfl, SqL.of eD, _, _, rfl, rfl, ?_⟩
                have := q H6 (Same.trans s1 sm)
                rw [fz] at this
                rw [hsum]
                exact this
end
end Sg

set_option maxRecDepth 100000
set_option maxHeartbeats 8000000
namespace Sg
open PySem PySem.Spec PyProof.Rows L2 Dr Gd Er Cm LD CM XT RT
abbrev sLParts : Stmt := top 19
theorem layAllN : ∀ {ds : List PyData}, PyData.canLayAll0 ds = true → ∀ d ∈ ds, d.canLay0 = true
  | [], _, d, h => by cases h
  | e :: r, h, d, hd => by
    rw [PyData.canLayAll0, Bool.and_eq_true] at h
    rcases List.mem_cons.mp hd with rfl | hd
    · exact h.1
    · exact layAllN h.2 d hd
theorem layAllT : ∀ {ds : List PyData}, (∀ d ∈ ds, d.canLay0 = true) → PyData.canLayAll0 ds = true
  | [], _ => by simp [PyData.canLayAll0]
  | e :: r, h => by
    rw [PyData.canLayAll0, h e List.mem_cons_self, layAllT fun x hx => h x (List.mem_cons_of_mem _ hx)]
    rfl
theorem lay_arg {d a : PyData} (h : d.canLay0 = true) (ha : a ∈ argsD d) : a.canLay0 = true := by
  cases d with
  | tuple ds =>
    cases ds with
    | nil => cases ha
    | cons e r =>
      rw [PyData.canLay0] at h
      exact layAllN h a (List.mem_cons_of_mem _ ha)
  | _ => cases ha
theorem pre_all {Pd : PyData → Prop} (h : ∀ d, Pd d → ∀ a ∈ argsD d, Pd a) : ∀ (n : Nat) (d t : PyData), fsz d ≤ n → Pd d → t ∈ preD d → Pd t
  | 0, d, t, hn, _, _ => by have := fsz_pos d; omega
  | n + 1, d, t, hn, hd, ht => by
    rw [preD_eq] at ht
    rcases List.mem_cons.mp ht with rfl | ht
    · exact hd
    · obtain ⟨e, he, hte⟩ := preDs_mem ht
      have := arg_lt he
      exact pre_all h n e t (by omega) (h d hd e he) hte
mutual
theorem eqvN {U : Str → Bool} : ∀ a b : PyData, okN U a = true → okN U b = true → PyData.eqv a b = true → a = b
  | .str z, b, _, hb, h => by
    rcases okN_case hb with ⟨y, rfl, _⟩ | ⟨y, s, rfl, _, _⟩
    · rw [PyData.eqv] at h
      rw [eq_of_beq h]
    · simp [PyData.eqv] at h
  | .tuple (.str z :: r), b, ha, hb, h => by
    rcases okN_case hb with ⟨y, rfl, _⟩ | ⟨y, s, rfl, _, hs⟩
    · simp [PyData.eqv] at h
    · rw [PyData.eqv, PyData.eqvAll, Bool.and_eq_true] at h
      obtain ⟨h1, h2⟩ := h
      rw [PyData.eqv] at h1
      rw [okN, Bool.and_eq_true] at ha
      rw [eq_of_beq h1, eqvNs r s ha.2 hs h2]
  | .tuple [], b, ha, _, _ => by simp [okN] at ha
  | .tuple (.none :: _), b, ha, _, _ => by simp [okN] at ha
  | .tuple (.bool _ :: _), b, ha, _, _ => by simp [okN] at ha
  | .tuple (.int _ :: _), b, ha, _, _ => by simp [okN] at ha
  | .tuple (.list _ :: _), b, ha, _, _ => by simp [okN] at ha
  | .tuple (.tuple _ :: _), b, ha, _, _ => by simp [okN] at ha
  | .tuple (.dict _ :: _), b, ha, _, _ => by simp [okN] at ha
  | .none, b, ha, _, _ => by simp [okN] at ha
  | .bool _, b, ha, _, _ => by simp [okN] at ha
  | .int _, b, ha, _, _ => by simp [okN] at ha
  | .list _, b, ha, _, _ => by simp [okN] at ha
  | .dict _, b, ha, _, _ => by simp [okN] at ha
theorem eqvNs {U : Str → Bool} : ∀ a b : List PyData, okNs U a = true → okNs U b = true → PyData.eqvAll a b = true → a = b
  | [], [], _, _, _ => rfl
  | [], _ :: _, _, _, h => by simp [PyData.eqvAll] at h
  | _ :: _, [], _, _, h => by simp [PyData.eqvAll] at h
  | x :: a, y :: b, ha, hb, h => by
    rw [PyData.eqvAll, Bool.and_eq_true] at h
    rw [okNs, Bool.and_eq_true] at ha hb
    rw [eqvN x y ha.1 hb.1 h.1, eqvNs a b ha.2 hb.2 h.2]
end
theorem any_mem {U : Str → Bool} {ds : List PyData} {d : PyData} (hds : ∀ x ∈ ds, okN U x = true) (hd : okN U d = true) (hl : d.canLay0 = true) : (ds.any fun z => PyData.eqv z d) = true ↔ d ∈ ds := by
  rw [List.any_eq_true]
  constructor
  · rintro ⟨z, hz, e⟩
    rw [← eqvN z d (hds z hz) hd e]
    exact hz
  · intro h
    exact ⟨d, h, SeqAt.eqv_refl d hl⟩
theorem addAll_filter {F : List PyData} {p : PyData → Bool} : ∀ (l M : List PyData), (∀ x ∈ l, p x = true ↔ x ∉ F) → addAll (F ++ M.filter p) l = F ++ (addAll M l).filter p
  | [], M, _ => rfl
  | d :: l, M, h => by
    have hd := h d List.mem_cons_self
    have hl := fun x hx => h x (List.mem_cons_of_mem _ hx)
    show addAll (addD (F ++ M.filter p) d) l = F ++ (addAll (addD M d) l).filter p
    by_cases hM : d ∈ M
    · have : d ∈ F ++ M.filter p := by
        by_cases hp : p d = true
        · exact List.mem_append_right _ (List.mem_filter.mpr ⟨hM, hp⟩)
        · refine List.mem_append_left _ ?_
          by_cases hF : d ∈ F
          · exact hF
          · exact absurd (hd.mpr hF) hp
      rw [addD_in this, addD_in hM]
      exact addAll_filter l M hl
    · rw [addD_no hM]
      by_cases hp : p d = true
      · have : d ∉ F ++ M.filter p := fun hm => by
          rcases List.mem_append.mp hm with hm | hm
          · exact (hd.mp hp) hm
          · exact hM (List.mem_filter.mp hm).1
        rw [addD_no this, List.append_assoc, ← addAll_filter l (M ++ [d]) hl, List.filter_append]
        simp [hp]
      · have : d ∈ F := by
          by_cases hF : d ∈ F
          · exact hF
          · exact absurd (hd.mpr hF) hp
        rw [addD_in (List.mem_append_left _ this), ← addAll_filter l (M ++ [d]) hl, List.filter_append]
        simp [hp]
theorem addAll_mem : ∀ {l M : List PyData} {x : PyData}, x ∈ addAll M l → x ∈ M ∨ x ∈ l
  | [], M, x, h => .inl h
  | d :: l, M, x, h => by
    have h : x ∈ addAll (addD M d) l := h
    rcases addAll_mem h with h | h
    · by_cases hd : d ∈ M
      · rw [addD_in hd] at h; exact .inl h
      · rw [addD_no hd] at h
        rcases List.mem_append.mp h with h | h
        · exact .inl h
        · rw [List.mem_singleton.mp h]; exact .inr List.mem_cons_self
    · exact .inr (List.mem_cons_of_mem _ h)
end Sg

set_option maxRecDepth 100000
set_option maxHeartbeats 8000000
namespace Sg
open PySem PySem.Spec PyProof.Rows L2 Dr Gd Er Cm LD CM XT RT
theorem dep_allT : ∀ {ds : List PyData} {n : Nat}, (∀ d ∈ ds, d.depth ≤ n) → PyData.depthAll ds ≤ n
  | [], n, _ => by simp [PyData.depthAll]
  | d :: ds, n, h => by
    rw [PyData.depthAll]
    have := h d List.mem_cons_self
    have := dep_allT (ds := ds) (n := n) fun x hx => h x (List.mem_cons_of_mem _ hx)
    omega
theorem shapedL {ds : List PyData} (h : ∀ d ∈ ds, d.canLay0 = true ∧ d.depth ≤ 62) : SeqAt.shaped (.list ds) = true := by
  unfold SeqAt.shaped
  rw [Bool.and_eq_true]
  refine ⟨layAllT fun d hd => (h d hd).1, decide_eq_true ?_⟩
  have := dep_allT (n := 62) fun d hd => (h d hd).2
  show PyData.depth (.list _) ≤ 64
  simp only [PyData.depth]
  omega
theorem shapedD {d : PyData} (h1 : d.canLay0 = true) (h2 : d.depth ≤ 62) : SeqAt.shaped d = true := by
  unfold SeqAt.shaped
  rw [h1]
  show decide (d.depth ≤ 64) = true
  exact decide_eq_true (by omega)
def Nice (U : Str → Bool) (d : PyData) : Prop := okN U d = true ∧ d.canLay0 = true ∧ d.depth ≤ 50
theorem Nice.arg {U : Str → Bool} {d a : PyData} (h : Nice U d) (ha : a ∈ argsD d) : Nice U a := ⟨okNs_mem (okN_args h.1) a ha, lay_arg h.2.1 ha, by have := dep_arg ha; have := h.2.2; omega⟩
theorem Nice.pre {U : Str → Bool} {d t : PyData} (h : Nice U d) (ht : t ∈ preD d) : Nice U t := pre_all (Pd := Nice U) (fun d h a ha => h.arg ha) (fsz d) d t (Nat.le_refl _) h ht
def spLParts (K : PySem.W.Frag) (U : Str → Bool) (n : Nat) : Sp := fun vs H Q _ => ∃ v d Hb, vs = [v] ∧ Same Hb H ∧ Dp K Hb v d ∧ Nice U d ∧ d.depth < n ∧ fsz d ≤ 4000 ∧ ∀ (l : Addr) (us : List V) (H' : Hp), Same H H' → H l = none → H' l = some (.lst us) → DpAll K Hb us (addAll [] (preD d)) → Q (.ref l) H'
theorem all_len {d : PyData} : (addAll [] (preD d)).length ≤ fsz d := by
  rw [← preD_len d]
  exact nodup_leD (addAll_nd List.nodup_nil) fun x hx => (addAll_mem hx).elim (fun h => by cases h) id
section
variable {P : Program} {w : World} {K : PySem.W.Frag} {mg : Str → Option Value} {base : Heap} {U : Str → Bool}
theorem scLP : FnScope ["term", "found", "argument", "part"] ["term"] (defScope sLParts) := ⟨rfl, rfl, rfl, by decide +kernel, rfl, by decide +kernel, by decide +kernel⟩
theorem ok_lparts {f : Addr} {fd : FuncData} (F : Fun K "_law_parts" "_law_parts" sLParts f fd) (g : mg "_law_parts" = some (.ref f)) (hi : mg "isinstance" = none) (ht : mg "tuple" = none) : ∀ n : Nat, FnOk P w K mg base CX0 n f fd ["term"] (spLParts K U n)
  | 0 => ⟨fun vs H Q E h => (by obtain ⟨_, _, _, _, _, _, _, h, _⟩ := h; omega), fun _ _ _ _ _ _ _ _ _ _ _ _ _ h => (by obtain ⟨_, _, _, _, _, _, _, h, _⟩ := h; omega)⟩
  | n + 1 => by
    have IH := ok_lparts F g hi ht n
    have b : Binds K fd ["term"] [] := F.binds fun _ _ _ _ _ _ us hl => match us, hl with | [_], _ => rfl
    refine F.ok scLP (fun vs H Q E h => ?_) (fun cdv A outer s H vs Q E hr h => ?_)
    · obtain ⟨v, d, Hb, rfl, _⟩ := h
      rfl
    · obtain ⟨v, d, Hb, rfl, sB, hv, hok, hd, hsz, q⟩ := h
      have big : (20000 : Nat) ≤ sizeLine := by decide
      have nd := scLP.nd
      have hu : (A.deeper (envOfC "_law_parts" (defScope sLParts) s.heap.objs.size f cdv)).units + 65 < cLine := by
        have := hr.un
        omega
      refine ⟨_, pss_cons (ps_set (i := 1) nd rfl (Or.inr rfl) (pe_lst (pa_cons (pv 0) pa_nil)))
        (pss_cons (ps_if (pt_val (pe_callB call_isi (by rfl) hi (by decide +kernel) (pa_cons (pv 0) (pa_cons (pe_bltn (v := .ty "tuple") (by rfl) ht (by decide +kernel) rfl) pa_nil))))
          (pss_one (ps_for PassesOwn.never rfl (pi_tup (pe_slice sl_tup (pv 0) (po_some pe_int) po_none)) (pg_name (i := 2) nd rfl (Or.inl rfl))
            (pss_one (ps_set (i := 1) nd rfl (Or.inr rfl) (pe_op op_cat (pv 1) (pe_lc (own := [("part", 3)]) (g := gName 3) (tt := tTest (tOp (rNotInD K) (tVar 3) (tVar 1))) (te := tVar 3) rfl nd (pi_list (pe_call IH hr rfl g F.kp b .nil pass0 (pa_cons (pv 2) pa_nil)))
              (blkOk_by (N := ["term", "found", "argument", "part"]) (sc := defScope sLParts) (by decide +kernel)) (fun _ _ _ _ _ => pg_name (i := 3) nd rfl (Or.inl rfl)) (fun _ _ _ _ _ => pts_one (pt_cmpR (op_notInD hu) (pv 3) (pv 1) (by rfl))) (fun _ _ _ _ _ => pv 3))))))) pss_nil)
        (pss_one (ps_ret (pv 1)))), ?_⟩
      refine ⟨_, rfl, (by show 1 ≤ sizeLine; decide), fun l0 hl0 => ?_⟩
      have s0 := same_upd (o := .lst [v]) hl0
      have e0 : (L2.upd H l0 (.lst [v])) l0 = some (.lst [v]) := upd_same
      generalize (L2.upd H l0 (.lst [v])) = H0 at s0 e0 ⊢
      rcases okN_case hok.1 with ⟨z, rfl, _⟩ | ⟨z, r, rfl, _, hr2⟩
      · cases hv
        refine ⟨_, rfl, .str z, .ty "tuple", .type "str", .type "tuple", false, rfl, .ty _, .base (.str z), kit_ty (by decide +kernel), _, rfl, iteF ?_⟩
        refine ⟨_, rfl, q l0 _ H0 s0 hl0 e0 ?_⟩
        rw [preD_eq]
        show DpAll K Hb [V.str z] (addD [] (.str z))
        rw [addD_no (by simp)]
        exact .cons (.str z) .nil
      · have hv0 := hv
        cases hv with
        | tup g1 g2 =>
          rename_i a xs
          cases g2 with
          | cons p1 p2 =>
            rename_i x0 ys
            have g1' := seqT_same (Same.trans sB s0) g1
            refine ⟨_, rfl, .ref a, .ty "tuple", .type "tuple", .type "tuple", true, rfl, .ty _, ty_tup g1', kit_ty (by decide +kernel), _, rfl, iteT ?_⟩
            refine ⟨_, rfl, 1, rfl, a, x0 :: ys, rfl, g1', ?_, fun p hp => ?_⟩
            · rw [show HT.sIx (x0 :: ys).length 0 (some 1) = min 1 (x0 :: ys).length from HT.sIx_nat _ _ 1, List.length_cons]
              omega
            · rw [cut1]
              have s1 := same_upd (o := .tup ys) hp
              have e1 : (L2.upd H0 p (.tup ys)) p = some (.tup ys) := upd_same
              have e01 := s1 _ _ e0
              generalize (L2.upd H0 p (.tup ys)) = H1 at s1 e1 e01 ⊢
              have ly := dpAll_len p2
              have lr := fszs_len r
              have fz : fsz (.tuple (.str z :: r)) = 1 + fszs r := by simp [fsz]
              have s01 := Same.trans s0 s1
              have fin : ∀ i, ∀ x ∈ addAll [.tuple (.str z :: r)] (preDs (r.take i)), Nice U x := fun i x hx => by
                refine hok.pre ?_
                rcases addAll_mem hx with h | h
                · rw [List.mem_singleton.mp h]; exact pre_self _
                · obtain ⟨e, he, hxe⟩ := preDs_mem h
                  rw [preD_eq]
                  exact List.mem_cons_of_mem _ (preDs_of (List.mem_of_mem_take he) hxe)
              refine ⟨p, rfl, ⟨_, SqT.of e1⟩, ?_⟩
              refine for_it (walk_tup (xs := ys)) (fun i σ H' => ∃ l us c2, σ = [some (.ref a), some (.ref l), c2, none] ∧ Same H1 H' ∧ H' l = some (.lst us) ∧ H l = none ∧ DpAll K Hb us (addAll [.tuple (.str z :: r)] (preDs (r.take i))))
                ⟨l0, [.ref a], none, rfl, Same.refl H1, e01, hl0, (by simpa [preDs, addAll] using DpAll.cons hv0 .nil)⟩ (fun i σ H' hi hp => by obtain ⟨_, _, _, _, sm, _⟩ := hp; exact SqT.of (sm _ _ e1)) (fun i y σ Hy H' hi hp hy => ?_) (fun σ H' hp => ?_)
              · obtain ⟨l, us, c2, rfl, sm, el, hln, hus⟩ := hp
                obtain ⟨rfl, ey⟩ := hy
                obtain ⟨e, he, hye⟩ := dpAll_get' p2 ey
                have hm : e ∈ argsD (.tuple (.str z :: r)) := List.mem_of_getElem? he
                have hne := hok.arg hm
                have sH := Same.trans s01 sm
                refine ⟨_, rfl, _, rfl, y, e, Hb, rfl, Same.trans sB sH, hye, hne, by have := dep_arg hm; omega, by have := arg_lt hm; omega, fun l2 ws H2 s2 hl2 el2 dw => ?_⟩
                have lt := arg_lt hm
                have lw := dpAll_len dw
                have lall := all_len (d := e)
                have elF := s2 _ _ el
                have hF := fin i
                have lF : (addAll [.tuple (.str z :: r)] (preDs (r.take i))).length ≤ 4000 := by
                  have h1 : (addAll [] (preD (.tuple (.str z :: r)))).length ≤ fsz (.tuple (.str z :: r)) := all_len
                  have e1 : (addAll [.tuple (.str z :: r)] (preDs (r.take i))).Nodup := addAll_nd (by simp)
                  have e2 := nodup_leD (m := preD (.tuple (.str z :: r))) e1 fun x hx => by
                    rw [preD_eq]
                    rcases addAll_mem hx with h | h
                    · rw [List.mem_singleton.mp h]; exact List.mem_cons_self
                    · obtain ⟨e', he', hxe⟩ := preDs_mem h
                      exact List.mem_cons_of_mem _ (preDs_of (List.mem_of_mem_take he') hxe)
                  rw [preD_len] at e2
                  omega
                have eNext : addAll [.tuple (.str z :: r)] (preDs (r.take (i + 1))) = addAll (addAll [.tuple (.str z :: r)] (preDs (r.take i))) (preD e) := by
                  rw [List.take_succ, he, preDs_app, addAll_app]
                  simp [preDs]
                generalize addAll [.tuple (.str z :: r)] (preDs (r.take i)) = Fd at hus hF lF eNext
                have lus := dpAll_len hus
                have pE : ∀ x ∈ preD e, (!Fd.any fun z => PyData.eqv z x) = true ↔ x ∉ Fd := fun x hx => by
                  have nx := hne.pre hx
                  have k := any_mem (ds := Fd) (fun y hy => (hF y hy).1) nx.1 nx.2.1
                  rw [Bool.not_eq_true']
                  constructor
                  · intro h1 h2
                    rw [k.mpr h2] at h1
                    cases h1
                  · intro h1
                    cases h3 : Fd.any fun z => PyData.eqv z x with
                    | false => rfl
                    | true => exact absurd (k.mp h3) h1
                refine ⟨l2, rfl, ⟨_, SqL.of el2⟩, fun D hD => ?_⟩
                refine lc_it (walk_list (xs := ws)) (fun j H6 => ∃ ks, Same H2 H6 ∧ H6 D = some (.lst ks) ∧ ks.length ≤ j ∧ DpAll K Hb ks (((addAll [] (preD e)).take j).filter fun x => !Fd.any fun z => PyData.eqv z x))
                  ⟨[], same_upd hD, upd_same, Nat.le_refl _, .nil⟩ (fun j H6 hj hp => by obtain ⟨_, sm, _⟩ := hp; exact SqL.of (sm _ _ el2)) (fun j y2 H5' H6 hj hp hy => ?_) (fun H6 hp => ?_)
                · obtain ⟨ks, s6, eD, hl, hks⟩ := hp
                  obtain ⟨rfl, ey2⟩ := hy
                  obtain ⟨t, ht1, ht2⟩ := dpAll_get' dw ey2
                  have tm : t ∈ preD e := (addAll_mem (List.mem_of_getElem? ht1)).elim (fun h => by cases h) id
                  have nt := hne.pre tm
                  have sB6 := Same.trans (Same.trans sB sH) (Same.trans s2 s6)
                  refine ⟨rfl, ?_⟩
                  refine ⟨_, rfl, _, rfl, t, Fd, dp_same sB6 _ _ ht2, .lst (SqL.of (s6 _ _ elF)) (dpAll_same sB6 _ _ hus), shapedD nt.2.1 (by have := nt.2.2; omega), shapedL (fun x hx => ⟨(hF x hx).2.1, by have := (hF x hx).2.2; omega⟩), _, rfl, ?_⟩
                  have etk : (addAll [] (preD e)).take (j + 1) = (addAll [] (preD e)).take j ++ [t] := by
                    rw [List.take_succ, ht1]
                    rfl
                  refine ite2 (fun c => ?_) (fun c => ?_)
                  · refine ⟨_, rfl, ks, eD, Nat.lt_of_lt_of_le (show ks.length < 20000 by omega) big, ks ++ [y2], ?_, upd_same, by rw [List.length_append, List.length_singleton]; omega, ?_⟩
                    · intro b o e'
                      rw [upd_ne (ne_of_none e' hD)]
                      exact s6 b o e'
                    · rw [etk, List.filter_append]
                      refine dpAll_app hks ?_
                      rw [List.filter_cons_of_pos (by simpa using c)]
                      exact .cons ht2 .nil
                  · refine ⟨ks, s6, eD, by omega, ?_⟩
                    rw [etk, List.filter_append, List.filter_cons_of_neg (by simpa using c)]
                    simpa using hks
                · obtain ⟨ks, s6, eD, hl, hks⟩ := hp
                  rw [List.take_of_length_le (by omega)] at hks
                  refine ⟨l, D, us, ks, rfl, rfl, s6 _ _ elF, eD, Nat.le_trans (show us.length + ks.length ≤ 20000 by omega) big, fun l3 hl3 => ?_⟩
                  have s3 := same_upd (o := .lst (us ++ ks)) hl3
                  refine ⟨l3, us ++ ks, _, rfl, Same.trans sm (Same.trans s2 (Same.trans s6 s3)), upd_same, Same.free (Same.trans sH (Same.trans s2 s6)) hl3, ?_⟩
                  rw [eNext]
                  have := addAll_filter (F := Fd) (p := fun x => !Fd.any fun z => PyData.eqv z x) (preD e) [] pE
                  rw [List.filter_nil, List.append_nil] at this
                  rw [this]
                  exact dpAll_app hus hks
              · obtain ⟨l, us, c2, rfl, sm, el, hln, hus⟩ := hp
                rw [List.take_of_length_le (by omega)] at hus
                refine ⟨_, rfl, q l us H' (Same.trans s01 sm) hln el ?_⟩
                rw [preD_eq]
                show DpAll K Hb us (addAll (addD [] _) (preDs r))
                rw [addD_no (by simp)]
                exact hus
end
end Sg

set_option maxRecDepth 100000
set_option maxHeartbeats 8000000
namespace Sg
open PySem PySem.Spec PyProof.Rows L2 Dr Gd Er Cm LD CM XT RT
abbrev sLLet : Stmt := top 20
/-- the texts among data -/
def strsOf : List PyData → List Str
  | [] => []
  | .str z :: r => z :: strsOf r
  | _ :: r => strsOf r
theorem strs_app : ∀ a b : List PyData, strsOf (a ++ b) = strsOf a ++ strsOf b
  | [], b => rfl
  | d :: a, b => by cases d <;> simp [strsOf, strs_app a b]
theorem strs_len : ∀ a : List PyData, (strsOf a).length ≤ a.length
  | [] => Nat.le_refl _
  | d :: a => by
    have := strs_len a
    cases d <;> simp [strsOf] <;> omega
def isS : PyData → Bool
  | .str _ => true
  | _ => false
def spLLet (K : PySem.W.Frag) (U : Str → Bool) (n : Nat) : Sp := fun vs H Q _ => ∃ v d, vs = [v] ∧ Dp K H v d ∧ Nice U d ∧ d.depth < n ∧ fsz d ≤ 4000 ∧ (strsOf (addAll [] (preD d))).length < 64 ∧ ∀ (l : Addr) (ls : List Str) (H' : Hp), Same H H' → H l = none → H' l = some (.lst (ls.map V.str)) → ls.Perm (strsOf (addAll [] (preD d))) → sortedS ls = true → Q (.ref l) H'
section
variable {P : Program} {w : World} {K : PySem.W.Frag} {mg : Str → Option Value} {base : Heap} {U : Str → Bool} {fP : Addr} {dP : FuncData} {n : Nat}
theorem scLL : FnScope ["term", "part"] ["term"] (defScope sLLet) := ⟨rfl, rfl, rfl, by decide +kernel, rfl, by decide +kernel, by decide +kernel⟩
theorem ty_str_b {U : Str → Bool} {H : Hp} {v : V} {d : PyData} (h : Dp K H v d) (hok : okN U d = true) : ∃ t : Value, TyX K H v t ∧ PySem.W.kitOne K t (.type "str") = some (isS d) := by
  rcases okN_case hok with ⟨z, rfl, _⟩ | ⟨z, r, rfl, _, _⟩
  · cases h
    exact ⟨.type "str", .base (.str z), kit_ty (show kitB "str" "str" = some true by decide +kernel)⟩
  · cases h with
    | tup g1 g2 => exact ⟨.type "tuple", ty_tup g1, kit_ty (show kitB "tuple" "str" = some false by decide +kernel)⟩
theorem ok_llet {f : Addr} {fd : FuncData} (F : Fun K "_law_letters" "_law_letters" sLLet f fd) (hi : mg "isinstance" = none) (hs : mg "str" = none) (hso : mg "sorted" = none) (gP : mg "_law_parts" = some (.ref fP)) (kP : PySem.W.keepIn K (.ref fP) = true) (bP : Binds K dP ["term"] []) (FP : FnOk P w K mg base CX0 n fP dP ["term"] (spLParts K U n)) :
    FnOk P w K mg base CX0 (n + 1) f fd ["term"] (spLLet K U n) := by
  refine F.ok scLL (fun vs H Q E h => ?_) (fun cdv A outer s H vs Q E hr h => ?_)
  · obtain ⟨v, d, rfl, _⟩ := h
    rfl
  · obtain ⟨v, d, rfl, hv, hok, hd, hsz, h64, q⟩ := h
    have nd := scLL.nd
    have big : (20000 : Nat) ≤ sizeLine := by decide
    refine ⟨_, pss_one (ps_ret (pe_callB cr_sortedS (by rfl) hso (by decide +kernel) (pa_cons (pe_lc (own := [("part", 1)]) (g := gName 1) (tt := tB (tCB (rIsi K) (tCons (tVar 1) (tCons (tC (.ty "str")) tNil)))) (te := tVar 1) rfl nd (pi_list (pe_call FP hr rfl gP kP bP .nil pass0 (pa_cons (pv 0) pa_nil)))
      (blkOk_by (N := ["term", "part"]) (sc := defScope sLLet) (by decide +kernel)) (fun _ _ _ _ _ => pg_name (i := 1) nd rfl (Or.inl rfl)) (fun _ _ _ _ _ => pts_one (pt_val (pe_callB call_isi (by rfl) hi (by decide +kernel) (pa_cons (pv 1) (pa_cons (pe_bltn (v := .ty "str") (by rfl) hs (by decide +kernel) rfl) pa_nil))))) (fun _ _ _ _ _ => pv 1)) pa_nil))), ?_⟩
    refine ⟨_, rfl, v, d, H, rfl, Same.refl H, hv, hok, hd, hsz, fun l us H1 s1 hl el hus => ?_⟩
    have lall := all_len (d := d)
    have lus := dpAll_len hus
    refine ⟨l, rfl, ⟨_, SqL.of el⟩, fun D hD => ?_⟩
    refine lc_it (walk_list (xs := us)) (fun j H' => Same H1 H' ∧ H' D = some (.lst ((strsOf ((addAll [] (preD d)).take j)).map V.str)))
      ⟨same_upd hD, upd_same⟩ (fun j H' hj hp => SqL.of (hp.1 _ _ el)) (fun j y H5 H' hj hp hy => ?_) (fun H' hp => ?_)
    · obtain ⟨sm, eD⟩ := hp
      obtain ⟨rfl, ey⟩ := hy
      obtain ⟨t, ht1, ht2⟩ := dpAll_get' hus ey
      have tm : t ∈ preD d := (addAll_mem (List.mem_of_getElem? ht1)).elim (fun h => by cases h) id
      have nt := hok.pre tm
      have etk : (addAll [] (preD d)).take (j + 1) = (addAll [] (preD d)).take j ++ [t] := by
        rw [List.take_succ, ht1]
        rfl
      have ht3 := dp_same (Same.trans s1 sm) _ _ ht2
      obtain ⟨ty, ty1, ty2⟩ := ty_str_b ht3 nt.1
      refine ⟨rfl, ?_⟩
      refine ⟨_, rfl, y, .ty "str", ty, .type "str", _, rfl, .ty _, ty1, ty2, _, rfl, ?_⟩
      rcases okN_case nt.1 with ⟨z, rfl, _⟩ | ⟨z, r, rfl, _, _⟩
      · cases ht3
        refine iteT ?_
        refine ⟨_, rfl, _, eD, Nat.lt_of_lt_of_le (show ((strsOf ((addAll [] (preD d)).take j)).map V.str).length < 20000 by rw [List.length_map]; have := strs_len ((addAll [] (preD d)).take j); rw [List.length_take] at this; omega) big, ?_, ?_⟩
        · intro b o e'
          rw [upd_ne (ne_of_none e' hD)]
          exact sm b o e'
        · rw [upd_same, etk, strs_app, List.map_append]
          rfl
      · refine iteF ⟨sm, ?_⟩
        rw [eD, etk, strs_app]
        simp [strsOf]
    · obtain ⟨sm, eD⟩ := hp
      rw [List.take_of_length_le (by omega)] at eD
      refine ⟨D, _, rfl, SqL.of eD, h64, fun ls l3 hp hs2 hl3 => ?_⟩
      exact q l3 ls _ (Same.trans (Same.trans s1 sm) (same_upd hl3)) (Same.free (Same.trans s1 sm) hl3) upd_same hp hs2
end
end Sg

set_option maxRecDepth 100000
set_option maxHeartbeats 4000000
/-! sets of texts: what a comprehension makes, and sorted of it -/
namespace ST
open PySem PySem.Spec PyProof.Rows L2
abbrev raw (w : World) : Obj := { cls := .type "set", dict := none, data := .set #[] 0 (.fresh 0 0 (!w.params.followText "set-order")) }
/-- the set of the texts L, each once there -/
def SetS (P : Program) (w : World) (h : Heap) (a : Addr) (L : List Str) : Prop :=
  ∃ D : Froz.SD, h.get? a = some (Froz.sObj "set" D) ∧ Froz.TxOk P w D L ∧ L.Nodup ∧ L.length < scanBound ∧ Ris D.2.2.place.toList ∧ (w.params.followText "set-order" = true ∨ D.2.2.led = true)
def SO (P : Program) (w : World) (a : Addr) (L : List Str) : HO := .ext fun h => SetS P w h a L
def ins (z : Str) (L : List Str) : List Str := if z ∈ L then L else z :: L
section
variable {P : Program} {w : World} {A : Around} {E : Value → Shared → Prop} {s : Shared} {a : Addr} {L : List Str}
theorem SetS.new {h : Heap} : SetS P w (h.push (raw w)) h.objs.size [] := by
  refine ⟨(#[], 0, .fresh 0 0 (!w.params.followText "set-order")), Heap.get?_push_size _ rfl, Froz.TxOk.nil (by rfl), List.nodup_nil, by decide, List.Pairwise.nil, ?_⟩
  show _ ∨ (!w.params.followText "set-order") = true
  cases w.params.followText "set-order"
  · exact Or.inr rfl
  · exact Or.inl rfl
theorem so_ok {H : Hp} {h : Heap} (R : SetS P w h a L) : ObjOk P w H h a (SO P w a L) := by
  obtain ⟨D, ho, r⟩ := id R
  exact ⟨R, ⟨_, ho⟩, fun h1 h2 ⟨D', ho', r'⟩ k => ⟨D', k _ ho', r'⟩⟩
theorem ris_tail {ep : Nat} {es : Array (Int × Value)} {t : SetTable} {b : Bool} (r : Ris t.place.toList) : Ris (Froz.tailTx ep es t b).2.2.place.toList := by
  unfold Froz.tailTx
  split
  · exact relayAll_ris _ _ _
  · exact r
theorem led_tail {ep : Nat} {es : Array (Int × Value)} {t : SetTable} {b : Bool} : (Froz.tailTx ep es t b).2.2.led = t.led := by
  unfold Froz.tailTx
  split
  · exact relayAll_led _ _ _
  · rfl
theorem ris_add {D : Froz.SD} {x : Int} {v : Value} (r : Ris D.2.2.place.toList) : Ris (Froz.addTx x v D).2.2.place.toList := by
  have r1 := layNew_ris D.2.2 D.1 x v r
  unfold Froz.addTx
  refine ris_tail ?_
  split
  · exact r1
  · exact r1
theorem led_add {D : Froz.SD} {x : Int} {v : Value} : (Froz.addTx x v D).2.2.led = D.2.2.led := by
  have r1 := layNew_led D.2.2 D.1 x v
  unfold Froz.addTx
  rw [led_tail]
  split
  · exact r1
  · exact r1
theorem add_again {z : Str} {tk : Tok} {Q : Bool → Shared → Prop} {D : Froz.SD} (ho : s.heap.get? a = some (Froz.sObj "set" D)) (T : Froz.TxOk P w D L) (hz : z ∈ L) (hb : L.length < scanBound) (q : Q false s) :
    wpAny (model P w) A (setAddHashed a (.str z tk) (hashStr w z)) Q E s := by
  obtain ⟨es, ep, t⟩ := D
  have hd : (Froz.sObj "set" (es, ep, t)).data = .set es ep t := rfl
  have e1 : t.fits es.size = true := T.fit
  have e2 : ElemsOf (PySem.strKind P w) es.toList := T.el
  have e3 : es.size = L.length := T.sz
  have ky : (PySem.strKind P w).is z (.str z tk) = true := Froz.is_str z tk
  unfold setAddHashed setAddHashedIn
  refine wpAny_holding (wpAny_bind (wpAny_setState_of ho hd e1 ?_))
  dsimp only
  rw [byScan_of rfl (by omega) e2]
  simp only [↓reduceIte]
  unfold setAddByScan
  refine wpAny_bind (wpAny_bind (wpAny_rule (wpAny_bind (wpAny_setScan_of (knd := PySem.strKind P w) (k := z) ky ho hd e1 e2 ?_))))
  cases hf : List.findIdx? (fun e => (PySem.strKind P w).is z e.2) es.toList with
  | some j => exact wpAny_pure (wpAny_pure q)
  | none =>
    obtain ⟨e, he, hk⟩ := (T.mem z).mp hz
    have c := List.findIdx?_eq_none_iff.mp hf e he
    rw [hk] at c
    cases c
theorem add_text {z : Str} {tk : Tok} {Q : Value → Shared → Prop} (R : SetS P w s.heap a L) (room : L.length + 1 < scanBound)
    (hQ : ∀ h', (∀ c u, c ≠ a → s.heap.get? c = some u → h'.get? c = some u) → SetS P w h' a (ins z L) → Q .none { s with heap := h', toks := s.toks + 1 }) :
    wpAny (model P w) A (call (.builtin "set.add") [.ref a, .str z tk]) Q E s := by
  obtain ⟨D, ho, T, nd, hb, hr, hl⟩ := R
  refine wpAny_call_entry F.slot_set_add ⟨_, ho, rfl⟩ F.entry_set_add ?_ (F.args_set_add_2 _ _)
  unfold Builtin.«set.add» Builtin.Frozenset.oneOther
  simp only [List.isEmpty_nil, bind_assoc]
  unfold Builtin.Frozenset.addrOf setAdd
  refine wpAny_bind (wpAny_pure ?_)
  refine wpAny_bind (wpAny_pure ?_)
  refine wpAny_bind (wpAny_holding (wpAny_bind ((PySem.strKind P w).pyHash (Froz.is_str z tk) ?_)))
  by_cases hz : z ∈ L
  · refine add_again (s := { s with toks := s.toks + 1 }) ho T hz hb ?_
    show wpAny _ _ (ret Value.none) _ _ _
    refine wpAny_pure ⟨_, rfl, hQ s.heap (fun _ _ _ e => e) ?_⟩
    unfold ins
    rw [if_pos hz]
    exact ⟨D, ho, T, nd, hb, hr, hl⟩
  · refine Froz.add_x (s := { s with toks := s.toks + 1 }) ho T hz room ?_
    show wpAny _ _ (ret Value.none) _ _ _
    refine wpAny_pure ⟨_, rfl, hQ _ (fun c u n e => PySem.Heap.get?_update_of_ne _ (Ne.symm n) e) ?_⟩
    unfold ins
    rw [if_neg hz]
    refine ⟨_, Froz.get_upd _ ho rfl, Froz.add_ok tk T, List.nodup_cons.mpr ⟨hz, nd⟩, by rw [List.length_cons]; exact room, ris_add hr, ?_⟩
    rw [led_add]
    exact hl
theorem perm_cover : ∀ {l t : List Str}, l.Nodup → (∀ x ∈ l, x ∈ t) → t.length = l.length → t.Perm l
  | [], t, _, _, h => by
    rw [List.length_nil] at h
    rw [List.eq_nil_of_length_eq_zero h]
  | x :: l, t, nd, hs, h => by
    obtain ⟨n1, n2⟩ := List.nodup_cons.mp nd
    have hx := hs x List.mem_cons_self
    refine (List.perm_cons_erase hx).trans (List.Perm.cons x (perm_cover n2 (fun y hy => ?_) ?_))
    · exact (List.mem_erase_of_ne (fun e => n1 (by rw [← e]; exact hy))).mpr (hs y (List.mem_cons_of_mem _ hy))
    · rw [List.length_erase_of_mem hx, h, List.length_cons]
      omega
theorem sorted_set {Q : Value → Shared → Prop} (R : SetS P w s.heap a L) (hh : A.handled = none)
    (hQ : ∀ s' p (out : Array Value) (c : Nat) (ls : List Str), (∀ b o, s.heap.get? b = some o → s'.heap.get? b = some o) → s'.gens = s.gens → s'.os = s.os → s.heap.objs.size ≤ p →
      s'.heap.get? p = some (seqObj "list" out c) → StrsAre out.toList ls → ls.Perm L → sortedS ls = true → Q (.ref p) s') : wpAny (model P w) A (call (.builtin "sorted") [.ref a]) Q E s := by
  obtain ⟨⟨es, ep, t⟩, ho, T, nd, hb, hr, hl⟩ := R
  have e3 : es.size = L.length := T.sz
  have lt : es.size < scanBound := by omega
  refine Calls.call_function_entry kind_sorted plain_sorted entry_sorted (args_sorted1 _) ?_
  unfold Builtin.«sorted»
  refine wpAny_bind (m := checkCount "sorted" 1 1 _) (wpAny_pure (wpAny_bind (collect_set (A := A.in1) hh ⟨_, ho, rfl, rfl⟩ T.fit lt hr hl fun s1 vs k1 hz g1 o1 pm => ?_)))
  have al : ∀ v ∈ vs, ∃ x u, v = .str x u := fun v hv => by
    obtain ⟨e, he, rfl⟩ := List.mem_map.mp (pm.mem_iff.mp hv)
    obtain ⟨⟨k, hk, _⟩, _⟩ := T.el e he
    exact ⟨k, Value.isStrOf_shape hk⟩
  have hS : StrsAre vs (vs.map strOf) := strsAre_map vs al
  have hlv : vs.length = es.size := by rw [pm.length_eq, List.length_map, Array.length_toList]
  have pL : (vs.map strOf).Perm L := by
    refine perm_cover nd (fun x hx => ?_) (by rw [List.length_map, hlv, e3])
    obtain ⟨e, he, hk⟩ := (T.mem x).mp hx
    obtain ⟨u, hu⟩ := Value.isStrOf_shape hk
    exact List.mem_map.mpr ⟨e.2, pm.mem_iff.mpr (List.mem_map.mpr ⟨e, he, rfl⟩), by rw [hu]; rfl⟩
  have lz : vs.length ≤ sizeLine := by rw [hlv]; exact fits_of_scanBound lt
  refine wpAny_bind (wpAny_newList ?_ lz)
  have hoL : (s1.heap.push (seqObj "list" vs.toArray 0)).get? s1.heap.objs.size = some (seqObj "list" vs.toArray 0) := Heap.get?_push_size _ rfl
  refine wpAny_bind (wpAny_holding (wpAny_call_entry slot_list_sort ⟨_, hoL, rfl⟩ entry_list_sort (list_sort_treeKAny strKind_oneLt hoL hS.keysOf (fun v₁ v₂ rest e => keyKind_strs (by rw [← e]; exact hS)) lz fun st' hp hs => ⟨_, rfl, ?_⟩) (args_list_sort _)))
  obtain ⟨ls, a1, a2, a3⟩ := sorted_out_str hS hp hs
  obtain ⟨c, hc⟩ := sortedHeap_at (vs := vs) (out := (arrOf st').map (·.2)) hoL
  refine wpAny_pure ⟨_, rfl, hQ _ s1.heap.objs.size _ c ls (fun b u e => ?_) g1 o1 hz hc a1 (a2.trans pL) a3⟩
  have q := k1 b u e
  have l1 := Heap.lt_size q
  show (sortedHeap (s1.heap.push (seqObj "list" vs.toArray 0)) s1.heap.objs.size vs _).get? b = some u
  rw [sortedHeap_old (Nat.ne_of_lt l1) (by rw [size_push']; exact Nat.lt_succ_of_lt l1)]
  exact Heap.get?_push_of_some _ q
end
end ST

set_option maxRecDepth 100000
set_option maxHeartbeats 8000000
/-! {elt for target in iter if ..}, elt a text; sorted of it -/
namespace ST
open PySem PySem.Spec PyProof.Rows L2
section
variable {X : Cx}
def rSortedT (P : Program) (w : World) : List V → Hp → VK → Prop := fun vs H Q => ∃ (a : Addr) (L : List Str), vs = [V.ref a] ∧ H a = some (SO P w a L) ∧ ∀ (ls : List Str) (p : Addr), ls.Perm L → sortedS ls = true → H p = none → Q (.ref p) (upd H p (.lst (ls.map V.str)))
theorem so_at {pins : List (Addr × Obj)} {σ : L2.St} {H : Hp} {s : Shared} {a : Addr} {L : List Str} (I : Inv X pins σ H s) (h : H a = some (SO X.prog X.w a L)) : SetS X.prog X.w s.heap a L := (I.hok a _ h).1
theorem cr_sortedT (hc : X.calm = true) : CallR X (.builtin "sorted") (rSortedT X.prog X.w) := by
  intro pins s σ H vs us Q I r h
  obtain ⟨a, L, rfl, ha, q⟩ := h
  have R := so_at I ha
  have hb : L.length < scanBound := by obtain ⟨_, _, _, _, z, _⟩ := R; exact z
  rw [Vals.ref1 r]
  refine ST.sorted_set R (I.ok.hd hc) fun s' p out c ls k g o hp hg hi pm hs => ?_
  have hn : H p = none := I.hok.fresh hp
  have hz : (ls.map V.str).length ≤ sizeLine := by rw [List.length_map, pm.length_eq]; exact fits_of_scanBound hb
  have J : Inv X pins σ (upd H p (.lst (ls.map V.str))) { s with heap := s'.heap, gens := s'.gens, drawn := s'.drawn, toks := s'.toks } :=
    I.call (ch := []) (Un.laid k hp hn) (I.hok.laid k hp ⟨hz, out.toList, c, vals_of_strs hi, hg⟩) (by rw [g]; exact I.bare) (fun _ z => nomatch z)
  obtain ⟨h1, g1, d1, t1, o1⟩ := s'
  obtain rfl : o1 = s.os := o
  exact ⟨.ref p, _, J, rfl, q ls p pm hs hn⟩
/-- the reading: D the new set, W by the turn and a measure, Nx what a turn is to reach -/
def tSt (P : Program) (w : World) (wi : TI) (g : TG) (tt : TT) (te : TE) (vs : List Nat) : TE := fun σ H Q => wi σ H fun J H1 => ∀ D, H1 D = none → ∃ W : Nat → Nat → Hp → Prop, (∃ m, W 0 m (upd H1 D (SO P w D []))) ∧ ∀ i m H, W i m H →
  (J.stop i H ∧ Q (.ref D) H) ∨ (J.go i H ∧ ∃ Nx : Hp → Prop, (∀ H', Nx H' → ∃ m', m' < m ∧ W (i + 1) m' H') ∧ ∀ x H', J.yld i H x H' → g x (wipe σ vs) H' fun σ2 H2 => wipe σ2 vs = wipe σ vs ∧ tt σ2 H2 fun b H3 =>
    if b = true then te σ2 H3 fun y H4 => ∃ (z : Str) (L : List Str), y = .str z ∧ H4 D = some (SO P w D L) ∧ L.length + 1 < scanBound ∧ Nx (upd H4 D (SO P w D (ins z L))) else Nx H3)
theorem put_text {pins : List (Addr × Obj)} {σ : L2.St} {H : Hp} {s : Shared} {E : Value → Shared → Prop} {D : Addr} {L : List Str} {z : Str} {v : Value} {Q : Value → Shared → Prop} (I : Inv X pins σ H s) (hD : H D = some (SO X.prog X.w D L)) (room : L.length + 1 < scanBound) (rv : L2.RelV (.str z) v)
    (h : ∀ s', Inv X pins σ (upd H D (SO X.prog X.w D (ins z L))) s' → Q .none s') : wpAny (model X.prog X.w) X.A (call (.builtin "set.add") [.ref D, v]) Q E s := by
  obtain ⟨tk, rfl⟩ := rv
  refine add_text (so_at I hD) room fun h' kp new => h _ (I.write (e := D) (t' := s.toks + 1) (by rw [hD]; trivial) (.inl rfl) kp ?_ (so_ok new))
  obtain ⟨_, ho, _⟩ := id new
  exact ⟨_, ho⟩
theorem pe_sct {elt tg iter : Expr} {ifs : List Expr} {scope : Scope} {own : List (Str × Nat)} {pos : Pos} {wi : TI} {g : TG} {tt : TT} {te : TE} (hc : X.calm = true) (hN : X.N.Nodup) (hi : PI X tg iter wi) (ok : BlkOk X.N X.env.scope scope own)
    (hg : ∀ (s : Shared) (H : Hp) (C : Addr) (cl : List (Str × Addr)) (fp : List Addr), PG (X.blk s H scope (compEnvC scope cl C X.env) fp) tg g) (ht : ∀ (s : Shared) (H : Hp) (C : Addr) (cl : List (Str × Addr)) (fp : List Addr), PTs (X.blk s H scope (compEnvC scope cl C X.env) fp) ifs tt)
    (he : ∀ (s : Shared) (H : Hp) (C : Addr) (cl : List (Str × Addr)) (fp : List Addr), PE (X.blk s H scope (compEnvC scope cl C X.env) fp) elt te) (hf : ∀ x, foldedSetIterable iter X.env x = pure x := by intro _; rfl) :
    PE X (.SetComp elt [⟨tg, iter, ifs, 0⟩] scope pos) (tSt X.prog X.w wi g tt te (own.map (·.2))) := by
  constructor
  intro pins s σ H Q I h
  rw [PpSet.eval_SetComp]
  have fr : ∀ y ∈ scope.names, y.2 = .free → ∃ c, X.env.cells.lookup y.1 = some c := fun y hy e => I.ok.has _ (ok.free y hy e)
  refine wpAny_comprehension_free (use := none) rfl hf (closure_ok fr) ok.kind (fun y hy e => by rw [ok.uniq y hy, e]) (thn (hi.run pins s σ H _ I h) fun xv s1 hx => thn hx ?_)
  rintro itv s2 ⟨it, fp, tn, J, H2, rfl, I2, T, st2, f2, q⟩
  refine PpSet.newSet_ok (newEnv_comp ?_)
  have nD : H2 s2.heap.objs.size = none := I2.hok.fresh (Nat.le_refl _)
  have pR : s2.heap.push (raw X.w) = s2.heap.push (raw X.w) := rfl
  have I3 : Inv X pins σ (upd H2 s2.heap.objs.size (SO X.prog X.w s2.heap.objs.size [])) { s2 with heap := s2.heap.push (raw X.w) } := I2.laid (t' := s2.toks) (fun b o e => Heap.get?_push_of_some _ e) (Nat.le_refl _) (so_ok SetS.new)
  obtain ⟨W, ⟨m0, w0⟩, turn⟩ := q _ nD
  have f3 : ∀ b ∈ fp, FpOk X pins (upd H2 s2.heap.objs.size (SO X.prog X.w s2.heap.objs.size [])) b ∧ b < (s2.heap.push (raw X.w)).objs.size := fun b hb => by
    obtain ⟨o, e, _⟩ := T.obj _ _ st2 b hb
    have l := Heap.lt_size e
    refine ⟨⟨?_, (f2 b hb).2⟩, by rw [Heap.size_push]; exact Nat.lt_succ_of_lt l⟩
    rw [upd_ne (Nat.ne_of_lt l)]
    exact (f2 b hb).1
  have st3 : tn 0 (s2.heap.push (raw X.w)) := T.keep _ _ _ st2 fun b _ o e => Heap.get?_push_of_some _ e
  generalize s2.heap.objs.size = D at I3 w0 turn f3 ⊢
  clear nD pR q
  have I4 := block_start I3 ok hN f3
  generalize hs3 : ({ s2 with heap := s2.heap.push (raw X.w) } : Shared) = s3 at I3 I4 ⊢
  have h3 : s2.heap.push (raw X.w) = s3.heap := by rw [← hs3]
  rw [h3] at f3 st3
  have pg := hg s3 (upd H2 D (SO X.prog X.w D [])) s3.heap.objs.size (cellsFrom (s3.heap.objs.size + 1) scope.names (cloFrom X.env.cells scope.names [])) fp
  have pt := ht s3 (upd H2 D (SO X.prog X.w D [])) s3.heap.objs.size (cellsFrom (s3.heap.objs.size + 1) scope.names (cloFrom X.env.cells scope.names [])) fp
  have pe := he s3 (upd H2 D (SO X.prog X.w D [])) s3.heap.objs.size (cellsFrom (s3.heap.objs.size + 1) scope.names (cloFrom X.env.cells scope.names [])) fp
  show codeAny _ _ (.compStart (.SetComp elt [⟨tg, iter, ifs, 0⟩] scope pos) 0 (.ref it) (.ref D) (compEnvC scope (cellsFrom (s3.heap.objs.size + 1) scope.names (cloFrom X.env.cells scope.names [])) s3.heap.objs.size X.env)) (compPost (model X.prog X.w) X.A X.xe none _ (.ref D) s3.heap.objs.size) { s3 with heap := pushCells (s3.heap.push { cls := .type "dict", data := .dict #[] }) scope.names }
  generalize hce : compEnvC scope (cellsFrom (s3.heap.objs.size + 1) scope.names (cloFrom X.env.cells scope.names [])) s3.heap.objs.size X.env = ce at I4 pg pt pe ⊢
  have cL : ce.locals = s3.heap.objs.size := by subst hce; rfl
  generalize hH3 : upd H2 D (SO X.prog X.w D []) = H3 at I3 I4 pg pt pe w0 f3
  generalize hs4 : ({ s3 with heap := pushCells (s3.heap.push { cls := .type "dict", data := .dict #[] }) scope.names } : Shared) = s4 at I4 ⊢
  have st4 : tn 0 s4.heap := T.keep _ _ _ st3 fun b _ o e => by rw [← hs4]; exact pushCells_keeps _ _ _ _ (Heap.get?_push_of_some _ e)
  have fpk : ∀ {σ' : L2.St} {H' : Hp} {s' : Shared}, Inv (X.blk s3 H3 scope ce fp) [] σ' H' s' → (∀ b ∈ fp, H' b = none) → ∀ b ∈ fp, FpOk (X.blk s3 H3 scope ce fp) [] H' b := fun {σ' H' s'} I' hn b hb =>
    ⟨hn b hb, (I'.ok.exf b hb).1, I'.ok.exfs b hb, .inl hb, fun x c e => (I'.ok.exf b hb).2 x c e, fun p hp => by cases hp⟩
  have loop : codeAny (model X.prog X.w) X.A (.compLoop (.SetComp elt [⟨tg, iter, ifs, 0⟩] scope pos) 0 (.ref it) (.ref D) ce) (compPost (model X.prog X.w) X.A X.xe none (EP X pins σ Q) (.ref D) s3.heap.objs.size) s4 := by
    refine PpSet.compLoopS_any (fun n s' => ∃ i H', Inv (X.blk s3 H3 scope ce fp) [] (wipe σ (own.map (·.2))) H' s' ∧ tn i s'.heap ∧ (∀ b ∈ fp, H' b = none) ∧ W i n H') ?_ m0 ⟨0, H3, I4, st4, fun b hb => (f3 b hb).1.1, w0⟩
    rintro n s5 ⟨i, H5, I5, st5, n5, w5⟩
    rcases turn i n H5 w5 with ⟨stop, qq⟩ | ⟨go, Nx, hNx, step⟩
    · refine thnF (T.done (X.blk s3 H3 scope ce fp) rfl rfl rfl hc i [] s5 _ H5 (fun _ _ => False) I5 (fpk I5 n5) st5 stop) ?_
      rintro r s6 ⟨rfl, I6⟩
      have I7 : Inv X pins σ H5 s6 := I3.call' (ch := fp) I6.os I6.base I6.hok I6.bare fun b hb => ⟨(f3 b hb).1.2.2.2.1, (f3 b hb).1.2.1, (f3 b hb).1.2.2.2.2.1, (f3 b hb).1.2.2.2.2.2⟩
      have nC : H5 s3.heap.objs.size = none := by rw [← cL]; exact I6.free
      obtain ⟨m, hn, _⟩ := I6.loc
      obtain ⟨f0, f1, f2, f3', f4, f5⟩ := I3.fpOk (Nat.le_refl _) nC
      refine ⟨m, by rw [← cL]; exact hn, fun h'' sb => ⟨.ref D, H5, I7.turned (t' := s6.toks) (fun b o hb e => (sb.2 b hb).trans e) f0 f1 f3' f4 f5, rfl, qq⟩⟩
    · refine thnF (T.item (X.blk s3 H3 scope ce fp) rfl rfl rfl hc i [] s5 _ H5 (fun _ _ => False) I5 (fpk I5 n5) st5 go) ?_
      rintro r s6 ⟨u, rfl, h6⟩
      refine thnF h6 ?_
      rintro _ s7 ⟨x, H7, I7, r7, y7, st7, n7⟩
      refine thnF (pg.run _ s7 _ H7 x u _ (I7.pinned (fpk I7 n7) (T.obj _ _ st7)) r7 (step x H7 y7)) ?_
      rintro _ s8 ⟨σ8, H8, I8, hw8, q8⟩
      refine thnF (pt.run _ s8 σ8 H8 _ I8 q8) ?_
      rintro b s9 ⟨H9, I9, q9⟩
      have fin : ∀ {s' : Shared} {H' : Hp}, Inv (X.blk s3 H3 scope ce fp) ([] ++ pinsAt fp s7.heap) σ8 H' s' → Nx H' → ∃ m, m < n ∧ ∃ i H', Inv (X.blk s3 H3 scope ce fp) [] (wipe σ (own.map (·.2))) H' s' ∧ tn i s'.heap ∧ (∀ b ∈ fp, H' b = none) ∧ W i m H' := fun {s' H'} I' nx => by
        obtain ⟨m', hm, w'⟩ := hNx H' nx
        have pn : ∀ b ∈ fp, ∀ o, s7.heap.get? b = some o → s'.heap.get? b = some o ∧ H' b = none := fun b hb o e => by
          have z := I'.pin (b, o) (List.mem_append_right _ (List.mem_append_right _ (mem_pinsAt hb e)))
          exact ⟨z.1, z.2.1⟩
        refine ⟨m', hm, i + 1, H', (I'.unpinned (pins := [])).weak (by rw [← hw8, wipe_length]) (fun j v e => ?_), T.keep _ _ _ st7 fun b hb o e => (pn b hb o e).1, fun b hb => ?_, w'⟩
        · rw [← hw8] at e
          exact (wipe_some e).1
        · obtain ⟨o, e, _⟩ := T.obj _ _ st7 b hb
          exact (pn b hb o e).2
      cases b with
      | false =>
        simp only [Bool.false_eq_true, if_false] at q9 ⊢
        exact fin I9 q9
      | true =>
        simp only [if_true] at q9 ⊢
        refine thnF (pe.run _ s9 σ8 H9 _ I9 q9) ?_
        rintro z s10 ⟨yv, H10, I10, r10, zt, L0, rfl, hD10, hz10, nx⟩
        exact put_text (X := X.blk s3 H3 scope ce fp) I10 hD10 hz10 r10 fun s11 I11 => fin I11 nx
  exact PpSet.codeAny_compStart_set loop (T.self X.A 0 _ _ _ st4 loop)
end
/-- over a list that the block leaves as it is -/
theorem sct_list {P : Program} {w : World} {K : PySem.W.Frag} {a : Addr} {xs : List V} {g : TG} {tt : TT} {te : TE} {vs : List Nat} {σ : L2.St} {H1 : Hp} {D : Addr} {Qd : Hp → Prop} (Pv : Nat → Hp → Prop) (h0 : Pv 0 (upd H1 D (SO P w D []))) (hl : ∀ i H, i ≤ xs.length → Pv i H → SqL K H a xs)
    (hs : ∀ i x H, xs[i]? = some x → Pv i H → g x (wipe σ vs) H fun σ2 H2 => wipe σ2 vs = wipe σ vs ∧ tt σ2 H2 fun b H3 =>
      if b = true then te σ2 H3 fun y H4 => ∃ (z : Str) (L : List Str), y = .str z ∧ H4 D = some (SO P w D L) ∧ L.length + 1 < scanBound ∧ Pv (i + 1) (upd H4 D (SO P w D (ins z L))) else Pv (i + 1) H3) (hd : ∀ H, Pv xs.length H → Qd H) :
    ∃ W : Nat → Nat → Hp → Prop, (∃ m, W 0 m (upd H1 D (SO P w D []))) ∧ ∀ i m H, W i m H →
      ((Itl K a).stop i H ∧ Qd H) ∨ ((Itl K a).go i H ∧ ∃ Nx : Hp → Prop, (∀ H', Nx H' → ∃ m', m' < m ∧ W (i + 1) m' H') ∧ ∀ x H', (Itl K a).yld i H x H' → g x (wipe σ vs) H' fun σ2 H2 => wipe σ2 vs = wipe σ vs ∧ tt σ2 H2 fun b H3 =>
        if b = true then te σ2 H3 fun y H4 => ∃ (z : Str) (L : List Str), y = .str z ∧ H4 D = some (SO P w D L) ∧ L.length + 1 < scanBound ∧ Nx (upd H4 D (SO P w D (ins z L))) else Nx H3) := by
  refine ⟨fun i m H => i ≤ xs.length ∧ m = xs.length - i ∧ Pv i H, ⟨_, Nat.zero_le _, rfl, h0⟩, ?_⟩
  rintro i m H ⟨hi, rfl, p⟩
  have q := hl i H hi p
  rcases Nat.lt_or_ge i xs.length with hlt | hge
  · refine Or.inr ⟨⟨xs, xs[i], q, List.getElem?_eq_getElem hlt⟩, Pv (i + 1), fun H' p' => ⟨xs.length - (i + 1), by omega, hlt, rfl, p'⟩, ?_⟩
    rintro x H' ⟨e, y⟩
    subst e
    exact hs i x _ (y xs q) p
  · obtain rfl : i = xs.length := by omega
    exact Or.inl ⟨⟨xs, q, Nat.le_refl _⟩, hd H p⟩
end ST

set_option maxRecDepth 100000
set_option maxHeartbeats 8000000
namespace Sg
open PySem PySem.Spec PyProof.Rows L2 Dr Gd Er Cm LD CM XT RT
abbrev sVars : Stmt := top 7
theorem ins_mem {x z : Str} {L : List Str} : x ∈ ST.ins z L ↔ x = z ∨ x ∈ L := by
  unfold ST.ins
  by_cases h : z ∈ L
  · rw [if_pos h]
    exact ⟨Or.inr, fun e => e.elim (fun e => by rw [e]; exact h) id⟩
  · rw [if_neg h]
    exact List.mem_cons
theorem ins_nodup {z : Str} {L : List Str} (nd : L.Nodup) : (ST.ins z L).Nodup := by
  unfold ST.ins
  by_cases h : z ∈ L
  · rw [if_pos h]; exact nd
  · rw [if_neg h]; exact List.nodup_cons.mpr ⟨h, nd⟩
theorem ins_len {z : Str} {L : List Str} : (ST.ins z L).length ≤ L.length + 1 := by
  unfold ST.ins
  by_cases h : z ∈ L
  · rw [if_pos h]; omega
  · rw [if_neg h]; exact Nat.le_refl _
theorem strs_mem {z : Str} : ∀ {ds : List PyData}, z ∈ strsOf ds ↔ PyData.str z ∈ ds
  | [] => by simp [strsOf]
  | d :: ds => by
    have ih := @strs_mem z ds
    cases d <;> simp [strsOf, ih]
def spVars (K : PySem.W.Frag) (U : Str → Bool) : Sp := fun vs H Q _ => ∃ v d, vs = [v] ∧ Dp K H v d ∧ okN U d = true ∧ fsz d ≤ 4000 ∧ ∀ (l : Addr) (ls : List Str) (H' : Hp), Same H H' → H l = none → H' l = some (.lst (ls.map V.str)) → ls.Nodup → (∀ z, z ∈ ls ↔ PyData.str z ∈ preD d) → sortedS ls = true → Q (.ref l) H'
section
variable {P : Program} {w : World} {K : PySem.W.Frag} {mg : Str → Option Value} {base : Heap} {U : Str → Bool} {fW : Addr} {dW : FuncData}
theorem scVr : FnScope ["term", "part"] ["term"] (defScope sVars) := ⟨rfl, rfl, rfl, by decide +kernel, rfl, by decide +kernel, by decide +kernel⟩
theorem ok_vars {f : Addr} {fd : FuncData} (F : Fun K "variables" "variables" sVars f fd) (hi : mg "isinstance" = none) (hs : mg "str" = none) (hso : mg "sorted" = none) (gW : mg "_with_doubles" = some (.ref fW)) (kW : PySem.W.keepIn K (.ref fW) = true) (bW : Binds K dW ["term"] []) (FW : FnOk P w K mg base CX0 2 fW dW ["term"] (spWD K U)) :
    FnOk P w K mg base CX0 3 f fd ["term"] (spVars K U) := by
  refine F.ok scVr (fun vs H Q E h => ?_) (fun cdv A outer s H vs Q E hr h => ?_)
  · obtain ⟨v, d, rfl, _⟩ := h
    rfl
  · obtain ⟨v, d, rfl, hv, hok, hsz, q⟩ := h
    have nd := scVr.nd
    refine ⟨_, pss_one (ps_ret (pe_callB (ST.cr_sortedT rfl) (by rfl) hso (by decide +kernel) (pa_cons (ST.pe_sct (own := [("part", 1)]) (g := gName 1) (tt := tB (tCB (rIsi K) (tCons (tVar 1) (tCons (tC (.ty "str")) tNil)))) (te := tVar 1) rfl nd (pi_list (pe_call FW (hr.mono (by decide)) rfl gW kW bW .nil pass0 (pa_cons (pv 0) pa_nil)))
      (blkOk_by (N := ["term", "part"]) (sc := defScope sVars) (by decide +kernel)) (fun _ _ _ _ _ => pg_name (i := 1) nd rfl (Or.inl rfl)) (fun _ _ _ _ _ => pts_one (pt_val (pe_callB call_isi (by rfl) hi (by decide +kernel) (pa_cons (pv 1) (pa_cons (pe_bltn (v := .ty "str") (by rfl) hs (by decide +kernel) rfl) pa_nil))))) (fun _ _ _ _ _ => pv 1)) pa_nil))), ?_⟩
    refine ⟨_, rfl, v, d, rfl, hv, hok, hsz, fun l us ds H1 s1 hl el hus pm => ?_⟩
    have lds : ds.length ≤ 4000 := by rw [pm.length_eq, preD_len]; exact hsz
    have lus := dpAll_len hus
    have big : (4001 : Nat) < scanBound := by decide
    refine ⟨l, rfl, ⟨_, SqL.of el⟩, fun D hD => ?_⟩
    refine ST.sct_list (xs := us) (fun j H' => ∃ L : List Str, Same H1 H' ∧ H' D = some (ST.SO P w D L) ∧ L.Nodup ∧ L.length ≤ j ∧ ∀ z, z ∈ L ↔ z ∈ strsOf (ds.take j))
      ⟨[], same_upd hD, upd_same, List.nodup_nil, Nat.le_refl _, fun z => by simp [strsOf]⟩ (fun j H' hj hp => by obtain ⟨_, sm, _⟩ := hp; exact SqL.of (sm _ _ el)) (fun j y H' ey hp => ?_) (fun H' hp => ?_)
    · obtain ⟨L, sm, eD, nL, lL, mL⟩ := hp
      obtain ⟨t, ht1, ht2⟩ := dpAll_get' hus ey
      have hj : j < us.length := (List.getElem?_eq_some_iff.mp ey).1
      have nt : okN U t = true := pre_all (Pd := fun d => okN U d = true) (fun d h a ha => okNs_mem (okN_args h) a ha) (fsz d) d t (Nat.le_refl _) hok (pm.mem_iff.mp (List.mem_of_getElem? ht1))
      have ht3 := dp_same (Same.trans s1 sm) _ _ ht2
      have etk : ds.take (j + 1) = ds.take j ++ [t] := by
        rw [List.take_succ, ht1]
        rfl
      obtain ⟨ty, ty1, ty2⟩ := ty_str_b ht3 nt
      refine ⟨rfl, ?_⟩
      refine ⟨_, rfl, y, .ty "str", ty, .type "str", _, rfl, .ty _, ty1, ty2, _, rfl, ?_⟩
      rcases okN_case nt with ⟨z, rfl, _⟩ | ⟨z, r, rfl, _, _⟩
      · cases ht3
        refine iteT ?_
        refine ⟨_, rfl, z, L, rfl, eD, by omega, ST.ins z L, fun b o e' => ?_, upd_same, ins_nodup nL, by have := @ins_len z L; omega, fun x => ?_⟩
        · rw [upd_ne (ne_of_none e' hD)]
          exact sm b o e'
        · rw [ins_mem, mL, etk, strs_app, List.mem_append]
          simp [strsOf, or_comm]
      · refine iteF ⟨L, sm, eD, nL, by omega, fun x => ?_⟩
        rw [mL, etk, strs_app]
        simp [strsOf]
    · obtain ⟨L, sm, eD, nL, lL, mL⟩ := hp
      rw [List.take_of_length_le (by omega)] at mL
      refine ⟨D, L, rfl, eD, fun ls p pl hsrt hp => ?_⟩
      have s3 := same_upd (o := .lst (ls.map V.str)) hp
      exact q p ls _ (Same.trans s1 (Same.trans sm s3)) (Same.free (Same.trans s1 sm) hp) upd_same (pl.nodup_iff.mpr nL) (fun z => by rw [pl.mem_iff, mL, strs_mem, pm.mem_iff]) hsrt
end
end Sg

set_option maxRecDepth 100000
set_option maxHeartbeats 8000000
namespace Sg
open PySem PySem.Spec PyProof.Rows L2 Dr Gd Er Cm LD CM XT RT
abbrev sLPut : Stmt := top 21
def lookG (G : List (Str × PyData)) (z : Str) : Option PyData := (G.find? fun p => decide (p.1 = z)).map (·.2)
mutual
def putD (G : List (Str × PyData)) : PyData → PyData
  | .str z => (lookG G z).getD (.str z)
  | .tuple (e :: r) => .tuple (e :: putDs G r)
  | .tuple [] => .tuple []
  | .none => .none
  | .bool b => .bool b
  | .int i => .int i
  | .list l => .list l
  | .dict l => .dict l
def putDs (G : List (Str × PyData)) : List PyData → List PyData
  | [] => []
  | d :: r => putD G d :: putDs G r
end
theorem putDs_map (G : List (Str × PyData)) : ∀ ds : List PyData, putDs G ds = ds.map (putD G)
  | [] => rfl
  | d :: r => by rw [putDs, putDs_map G r]; rfl
mutual
theorem putD_ok {U : Str → Bool} {G : List (Str × PyData)} (h : ∀ z t, lookG G z = some t → okN U t = true) : ∀ d : PyData, okN U d = true → okN U (putD G d) = true
  | .str z, hd => by
    rw [putD]
    cases e : lookG G z with
    | none => exact hd
    | some t => exact h z t e
  | .tuple (e :: r), hd => by
    rcases okN_case hd with ⟨z, e', _⟩ | ⟨z, r', e', hz, h2⟩
    · cases e'
    · injection e' with e'
      injection e' with e1 e2
      subst e2
      subst e1
      rw [putD, okN, hz, putDs_ok h r h2]
      rfl
  | .tuple [], hd => by simp [okN] at hd
  | .none, hd => by simp [okN] at hd
  | .bool _, hd => by simp [okN] at hd
  | .int _, hd => by simp [okN] at hd
  | .list _, hd => by simp [okN] at hd
  | .dict _, hd => by simp [okN] at hd
theorem putDs_ok {U : Str → Bool} {G : List (Str × PyData)} (h : ∀ z t, lookG G z = some t → okN U t = true) : ∀ ds : List PyData, okNs U ds = true → okNs U (putDs G ds) = true
  | [], _ => rfl
  | d :: r, hd => by
    rw [okNs, Bool.and_eq_true] at hd
    rw [putDs, okNs, putD_ok h d hd.1, putDs_ok h r hd.2]
    rfl
end
/-- the dict of what is put -/
inductive KvR (K : PySem.W.Frag) (Hb : Hp) : List (Key × V) → List (Str × PyData) → Prop where
  | nil : KvR K Hb [] []
  | cons {z : Str} {v : V} {d : PyData} {kvs : List (Key × V)} {G : List (Str × PyData)} : Dp K Hb v d → KvR K Hb kvs G → KvR K Hb ((.inr z, v) :: kvs) ((z, d) :: G)
theorem KvR.get {K : PySem.W.Frag} {Hb : Hp} (z : Str) : ∀ {kvs : List (Key × V)} {G : List (Str × PyData)}, KvR K Hb kvs G → (∃ v d, valV kvs (.inr z) = some v ∧ lookG G z = some d ∧ Dp K Hb v d) ∨ (valV kvs (.inr z) = none ∧ lookG G z = none)
  | _, _, .nil => .inr ⟨rfl, rfl⟩
  | _, _, .cons (z := y) (v := v) (d := d) (G := G) a b => by
    by_cases h : y = z
    · subst h
      exact .inl ⟨v, d, valV_pos rfl, by unfold lookG; rw [List.find?_cons_of_pos (by simp)]; rfl, a⟩
    · have hn : ¬ (Sum.inr y : Key) = .inr z := fun e => h (by injection e)
      rw [valV_neg hn]
      have e : lookG ((y, d) :: G) z = lookG G z := by unfold lookG; rw [List.find?_cons_of_neg (by simp [h])]
      rw [e]
      exact b.get z
def spLPut (K : PySem.W.Frag) (U : Str → Bool) (n : Nat) : Sp := fun vs H Q _ => ∃ v d gd kvs G Hb, vs = [v, .ref gd] ∧ Same Hb H ∧ Hb gd = some (.dK kvs) ∧ KvR K Hb kvs G ∧ (∀ z t, lookG G z = some t → okN U t = true) ∧ Dp K Hb v d ∧ okN U d = true ∧ d.depth < n ∧ fsz d ≤ 4000 ∧ ∀ r H', Same H H' → Dp K H' r (putD G d) → Q r H'
section
variable {P : Program} {w : World} {K : PySem.W.Frag} {mg : Str → Option Value} {base : Heap} {U : Str → Bool}
theorem scLPt : FnScope ["term", "given", "argument"] ["term", "given"] (defScope sLPut) := ⟨rfl, rfl, rfl, by decide +kernel, rfl, by decide +kernel, by decide +kernel⟩
theorem ok_lput {f : Addr} {fd : FuncData} (F : Fun K "_law_put" "_law_put" sLPut f fd) (g : mg "_law_put" = some (.ref f)) (hi : mg "isinstance" = none) (hs : mg "str" = none) (htp : mg "tuple" = none) : ∀ n : Nat, FnOk P w K mg base CX0 n f fd ["term", "given"] (spLPut K U n)
  | 0 => ⟨fun vs H Q E h => (by obtain ⟨_, _, _, _, _, _, _, _, _, _, _, _, _, h, _⟩ := h; omega), fun _ _ _ _ _ _ _ _ _ _ _ _ _ h => (by obtain ⟨_, _, _, _, _, _, _, _, _, _, _, _, _, h, _⟩ := h; omega)⟩
  | n + 1 => by
    have IH := ok_lput F g hi hs htp n
    have b : Binds K fd ["term", "given"] [] := F.binds fun _ _ _ _ _ _ us hl => match us, hl with | [_, _], _ => rfl
    refine F.ok scLPt (fun vs H Q E h => ?_) (fun cdv A outer s H vs Q E hr h => ?_)
    · obtain ⟨v, d, gd, kvs, G, Hb, rfl, _⟩ := h
      rfl
    · obtain ⟨v, d, gd, kvs, G, Hb, rfl, sB, hgd, hG, hGo, hv, hok, hd, hsz, q⟩ := h
      have big : (20000 : Nat) ≤ sizeLine := by decide
      have nd := scLPt.nd
      have hu := hu_of hr
      refine ⟨_, pss_cons (ps_if (pt_val (pe_callB call_isi (by rfl) hi (by decide +kernel) (pa_cons (pv 0) (pa_cons (pe_bltn (v := .ty "str") (by rfl) hs (by decide +kernel) rfl) pa_nil))))
          (pss_one (ps_ret (pe_ifExp (pt_cmp (pc_din hu (pv 0) (pv 1))) (pe_dget hu (pv 1) (pv 0) fun _ _ => rfl) (pv 0)))) pss_nil)
        (pss_one (ps_ret (pe_op op_catT (pe_tup (pa_cons (pe_ix ix_tup (pv 0) pe_int fun _ _ => rfl) pa_nil)) (pe_callTy call_tuple_of (by rfl) htp (by decide +kernel) (pa_cons (pe_lc (own := [("argument", 2)]) (g := gName 2) (tt := tYes) (te := tCall (spLPut K U n) [] E0 (tCons (tVar 2) (tCons (tVar 1) tNil))) rfl nd (pi_tup (pe_slice sl_tup (pv 0) (po_some pe_int) po_none))
          (blkOk_by (N := ["term", "given", "argument"]) (sc := defScope sLPut) (by decide +kernel)) (fun _ _ _ _ _ => pg_name (i := 2) nd rfl (Or.inl rfl)) (fun _ _ _ _ _ => pts_nil) (fun _ _ _ _ _ => pe_call IH hr rfl g F.kp b .nil pass0 (pa_cons (pv 2) (pa_cons (pv 1) pa_nil)))) pa_nil))))), ?_⟩
      rcases okN_case hok with ⟨z, rfl, _⟩ | ⟨z, r, rfl, _, hr2⟩
      · cases hv
        refine ⟨_, rfl, .str z, .ty "str", .type "str", .type "str", true, rfl, .ty _, .base (.str z), kit_ty (by decide +kernel), _, rfl, iteT ?_⟩
        refine ⟨_, rfl, _, rfl, gd, _, rfl, DGet.k (k := Sum.inr z) (sB _ _ hgd), _, rfl, ?_⟩
        rcases hG.get z with ⟨v, t, e1, e2, e3⟩ | ⟨e1, e2⟩
        · rw [e1]
          have gg := DGet.k (k := Sum.inr z) (sB _ _ hgd)
          rw [e1] at gg
          refine iteT ⟨_, rfl, _, rfl, gd, v, rfl, gg, q v H (Same.refl H) ?_⟩
          rw [putD, e2]
          exact dp_same sB _ _ e3
        · rw [e1]
          refine iteF ⟨_, rfl, q _ H (Same.refl H) ?_⟩
          rw [putD, e2]
          exact .str z
      · cases hv with
        | tup g1 g2 =>
          rename_i a xs
          cases g2 with
          | cons p1 p2 =>
            rename_i x0 ys
            cases p1
            have g1' := seqT_same sB g1
            refine ⟨_, rfl, .ref a, .ty "str", .type "tuple", .type "str", false, rfl, .ty _, ty_tup g1', kit_ty (by decide +kernel), _, rfl, iteF ?_⟩
            refine ⟨_, rfl, a, _, 0, .str z, rfl, rfl, g1', atI_zero _ _, (by show 1 ≤ sizeLine; decide), fun tz htz => ?_⟩
            have s1 := same_upd (o := .tup [V.str z]) htz
            have e1 : (L2.upd H tz (.tup [V.str z])) tz = some (.tup [V.str z]) := upd_same
            generalize (L2.upd H tz (.tup [V.str z])) = H1 at s1 e1 ⊢
            refine ⟨_, rfl, 1, rfl, a, _, rfl, seqT_same s1 g1', ?_, fun p hp => ?_⟩
            · rw [show HT.sIx (V.str z :: ys).length 0 (some 1) = min 1 (V.str z :: ys).length from HT.sIx_nat _ _ 1, List.length_cons]
              omega
            · rw [cut1]
              have s2 := same_upd (o := .tup ys) hp
              have e2 : (L2.upd H1 p (.tup ys)) p = some (.tup ys) := upd_same
              have e12 := s2 _ _ e1
              generalize (L2.upd H1 p (.tup ys)) = H2 at s2 e2 e12 ⊢
              have s12 := Same.trans s1 s2
              have ly := dpAll_len p2
              have lr := fszs_len r
              have fz : fsz (.tuple (.str z :: r)) = 1 + fszs r := by simp [fsz]
              refine ⟨p, rfl, ⟨_, SqT.of e2⟩, fun D hD => ?_⟩
              refine lc_it (walk_tup (xs := ys)) (fun i H' => ∃ ks, Same H2 H' ∧ H' D = some (.lst ks) ∧ ks.length = i ∧ DpAll K (delS [D] H') ks ((r.take i).map (putD G)))
                ⟨[], same_upd hD, upd_same, rfl, .nil⟩ (fun i H' hi hp => by obtain ⟨_, sm, _⟩ := hp; exact SqT.of (sm _ _ e2)) (fun i y H5' H' hi hp hy => ?_) (fun H6 hp => ?_)
              · obtain ⟨ks, sm, eD, hl, hks⟩ := hp
                obtain ⟨rfl, ey⟩ := hy
                obtain ⟨e, he, hye⟩ := dpAll_get' p2 ey
                have hm : e ∈ argsD (.tuple (.str z :: r)) := List.mem_of_getElem? he
                have oke := okNs_mem hr2 e hm
                refine ⟨rfl, lcYes ?_⟩
                refine ⟨_, rfl, _, rfl, y, e, gd, kvs, G, Hb, rfl, Same.trans sB (Same.trans s12 sm), hgd, hG, hGo, hye, oke, by have := dep_arg hm; omega, by have := arg_lt hm; omega, fun rv H7 s7 hrv => ?_⟩
                refine ⟨ks, s7 _ _ eD, Nat.lt_of_lt_of_le (show ks.length < 20000 by omega) big, ks ++ [rv], ?_, upd_same, by rw [List.length_append, hl]; rfl, ?_⟩
                · intro b o e'
                  rw [upd_ne (ne_of_none e' hD)]
                  exact s7 _ _ (sm b o e')
                · rw [List.take_succ, he, List.map_append, delS_upd (by simp)]
                  refine dpAll_app (dpAll_same (delS_same s7) _ _ hks) (.cons (dp_off (U := U) (fun b o e0 n0 => ?_) _ rv (putD_ok hGo e oke) hrv) .nil)
                  have bD : b ∉ [D] := fun h => by
                    rw [List.mem_singleton.mp h, s7 _ _ eD] at e0
                    exact n0 ks (Option.some.inj e0).symm
                  rw [delS_of bD]
                  exact e0
              · obtain ⟨ks, sm, eD, hl, hks⟩ := hp
                rw [List.take_of_length_le (by omega), ← putDs_map] at hks
                refine ⟨D, ks, rfl, .inl ⟨SqL.of eD, fun tt htt => ?_⟩⟩
                have s6 := same_upd (o := .tup ks) htt
                have e6 : (L2.upd H6 tt (.tup ks)) tt = some (.tup ks) := upd_same
                have hks6 := dpAll_same (Same.trans delS_sub s6) _ _ hks
                have etz := s6 _ _ (sm _ _ e12)
                generalize (L2.upd H6 tt (.tup ks)) = H8 at s6 e6 hks6 etz ⊢
                have sAll := Same.trans s12 (Same.trans sm s6)
                have ePut : putD G (.tuple (.str z :: r)) = .tuple (.str z :: putDs G r) := by rw [putD]
                refine ⟨tz, tt, _, ks, rfl, rfl, SqT.of etz, SqT.of e6, by simp, Nat.le_trans (show ([V.str z] : List V).length + ks.length ≤ 20000 by rw [List.length_singleton]; omega) big, fun h => ?_, fun h p3 hp3 => ?_⟩
                · refine q _ H8 sAll ?_
                  rw [ePut]
                  subst h
                  exact .tup (SqT.of etz) (.cons (.str z) hks6)
                · refine q _ _ (Same.trans sAll (same_upd hp3)) ?_
                  rw [ePut]
                  exact .tup (SqT.of (xs := V.str z :: ks) (by rw [upd_same]; rfl)) (.cons (.str z) (dpAll_same (same_upd hp3) _ _ hks6))
end
end Sg

set_option maxRecDepth 100000
set_option maxHeartbeats 8000000
namespace Sg
open PySem PySem.Spec PyProof.Rows L2 Dr Gd Er Cm LD CM XT RT
abbrev sPW : Stmt := top 11
def spPW (K : PySem.W.Frag) (U : Str → Bool) : Sp := fun vs H Q _ => ∃ v d l us gd kvs G Hb, vs = [v, .ref l, .ref gd] ∧ Same Hb H ∧ Hb gd = some (.dK kvs) ∧ KvR K Hb kvs G ∧ Dp K H v d ∧ okN U d = true ∧ SqL K H l us ∧ DpAll K H us (putDs G (argsD d)) ∧ us.length ≤ 5000 ∧ ∀ r H', Same H H' → Dp K H' r (putD G d) → Q r H'
section
variable {P : Program} {w : World} {K : PySem.W.Frag} {mg : Str → Option Value} {base : Heap} {U : Str → Bool}
theorem scPW : FnScope ["part", "told", "given"] ["part", "told", "given"] (defScope sPW) := ⟨rfl, rfl, rfl, by decide +kernel, rfl, by decide +kernel, by decide +kernel⟩
theorem ok_pw {f : Addr} {fd : FuncData} (F : Fun K "_put_whole" "_put_whole" sPW f fd) (hi : mg "isinstance" = none) (hs : mg "str" = none) : FnOk P w K mg base CX0 1 f fd ["part", "told", "given"] (spPW K U) := by
  refine F.ok scPW (fun vs H Q E h => ?_) (fun cdv A outer s H vs Q E hr h => ?_)
  · obtain ⟨v, d, l, us, gd, kvs, G, Hb, rfl, _⟩ := h
    rfl
  · obtain ⟨v, d, l, us, gd, kvs, G, Hb, rfl, sB, hgd, hG, hv, hok, hl, hus, h5, q⟩ := h
    have big : (20000 : Nat) ≤ sizeLine := by decide
    have hu := hu_of hr
    refine ⟨_, pss_cons (ps_if (pt_val (pe_callB call_isi (by rfl) hi (by decide +kernel) (pa_cons (pv 0) (pa_cons (pe_bltn (v := .ty "str") (by rfl) hs (by decide +kernel) rfl) pa_nil))))
        (pss_one (ps_ret (pe_dget2 hu (pv 2) (pv 0) (pv 0) ⟨rfl, rfl, rfl, rfl⟩))) pss_nil)
      (pss_one (ps_ret (pe_tup (pa_cons (pe_ix ix_tup (pv 0) pe_int fun _ _ => rfl) (StX.pa_star (pv 1) pa_nil))))), ?_⟩
    rcases okN_case hok with ⟨z, rfl, _⟩ | ⟨z, r, rfl, _, hr2⟩
    · cases hv
      refine ⟨_, rfl, .str z, .ty "str", .type "str", .type "str", true, rfl, .ty _, .base (.str z), kit_ty (by decide +kernel), _, rfl, iteT ?_⟩
      refine ⟨_, rfl, gd, rfl, .inl ⟨kvs, .inl (sB _ _ hgd)⟩, _, rfl, _, rfl, _, DGet.k (k := Sum.inr z) (sB _ _ hgd), ?_⟩
      refine q _ H (Same.refl H) ?_
      rw [putD]
      rcases hG.get z with ⟨v, t, e1, e2, e3⟩ | ⟨e1, e2⟩
      · rw [e1, e2]
        exact dp_same sB _ _ e3
      · rw [e1, e2]
        exact .str z
    · cases hv with
      | tup g1 g2 =>
        rename_i a xs
        cases g2 with
        | cons p1 p2 =>
          rename_i x0 ys
          cases p1
          refine ⟨_, rfl, .ref a, .ty "str", .type "tuple", .type "str", false, rfl, .ty _, ty_tup g1, kit_ty (by decide +kernel), _, rfl, iteF ?_⟩
          refine ⟨_, rfl, a, _, 0, .str z, rfl, rfl, g1, atI_zero _ _, _, rfl, l, us, rfl, .inr hl, ?_, fun t ht => ?_⟩
          · refine Nat.le_trans ?_ big
            show (V.str z :: (us ++ [])).length ≤ 20000
            rw [List.length_cons, List.append_nil]
            omega
          · refine q _ _ (same_upd ht) ?_
            rw [show putD G (.tuple (.str z :: r)) = .tuple (.str z :: putDs G r) by rw [putD]]
            exact .tup (SqT.of (xs := V.str z :: us) (by rw [upd_same]; show some (HO.tup (V.str z :: (us ++ []))) = _; rw [List.append_nil])) (.cons (.str z) (dpAll_same (same_upd ht) _ _ hus))
end
end Sg

set_option maxRecDepth 100000
set_option maxHeartbeats 8000000
namespace Sg
open PySem PySem.Spec PyProof.Rows L2 Dr Gd Er Cm LD CM XT RT
section
variable {X : Cx} {pins : List (Addr × Obj)} {σ : L2.St} {H : Hp} {s : Shared} {U : Str → Bool}
mutual
theorem reads_N (I : Inv X pins σ H s) : ∀ (d : PyData) (v : V) (u : Value), okN U d = true → Dp X.K H v d → RelV v u → Reads s.heap u d []
  | .str x, _, _, _, h, r => by
    cases h
    obtain ⟨t, rfl⟩ := r
    exact Reads.str x t
  | .tuple [], _, _, hk, _, _ => by simp [okN] at hk
  | .tuple (e :: ds), _, _, hk, h, r => by
    rcases okN_case hk with ⟨z, e', _⟩ | ⟨z, r', e', _, h2⟩
    · cases e'
    · injection e' with e'
      injection e' with e1 e2
      subst e2
      subst e1
      cases h with
      | tup hs ha =>
        cases r
        cases ha with
        | cons p1 p2 =>
          cases p1
          obtain ⟨its, rv, ⟨o, ho, hc, n, hd⟩, _⟩ := I.tuple hs
          cases rv with
          | cons r1 r2 =>
            obtain ⟨t, rfl⟩ := r1
            refine Reads.tuple ho hc hd ?_
            exact ReadsAll.cons (as := []) (bs := []) (Reads.str z t) (reads_Ns I ds _ _ h2 p2 r2)
  | .none, _, _, hk, _, _ => by simp [okN] at hk
  | .bool _, _, _, hk, _, _ => by simp [okN] at hk
  | .int _, _, _, hk, _, _ => by simp [okN] at hk
  | .list _, _, _, hk, _, _ => by simp [okN] at hk
  | .dict _, _, _, hk, _, _ => by simp [okN] at hk
theorem reads_Ns (I : Inv X pins σ H s) : ∀ (ds : List PyData) (vs : List V) (us : List Value), okNs U ds = true → DpAll X.K H vs ds → Vals vs us → ReadsAll s.heap us ds []
  | [], _, _, _, h, r => by
    cases h
    cases r
    exact ReadsAll.nil
  | d :: ds, _, _, hk, h, r => by
    rw [okNs, Bool.and_eq_true] at hk
    cases h with
    | cons h1 h2 =>
      cases r with
      | cons r1 r2 => exact ReadsAll.cons (as := []) (bs := []) (reads_N I d _ _ hk.1 h1 r1) (reads_Ns I ds _ _ hk.2 h2 r2)
end
theorem reads_kv (I : Inv X pins σ H s) : ∀ {kvs : List (Key × V)} {G : List (Str × PyData)} {vs : List (Key × Value)} {es : List DictEntry}, KvR X.K H kvs G → (∀ p ∈ G, okN U p.2 = true) → KV kvs vs → Pairs (mixKind X.prog X.w) es vs →
    ReadsAll s.heap (es.map (·.key)) ((G.map fun p => ((PyData.str p.1, p.2) : PyData × PyData)).map (·.1)) [] ∧ ReadsAll s.heap (es.map (·.val)) ((G.map fun p => ((PyData.str p.1, p.2) : PyData × PyData)).map (·.2)) []
  | _, _, _, _, .nil, _, r, p => by
    cases r
    cases p
    exact ⟨ReadsAll.nil, ReadsAll.nil⟩
  | _, _, _, _, .cons (z := z) (d := d) a b, hk, r, p => by
    cases r with
    | cons r1 r2 =>
      cases p with
      | cons p1 p2 p3 =>
        obtain ⟨q1, q2⟩ := reads_kv I b (fun x hx => hk x (List.mem_cons_of_mem _ hx)) r2 p3
        obtain ⟨e1, e2⟩ := r1
        rw [← e1] at p1
        have p1 : keyIs (Sum.inr z) _ = true := p1
        obtain ⟨i, t, e, _⟩ | ⟨x, t, e, ek⟩ := keyIs_shape p1
        · cases e
        · have e : z = x := by injection e
          subst e
          refine ⟨ReadsAll.cons (as := []) (bs := []) (by show Reads s.heap (DictEntry.key _) (.str z) []; rw [ek]; exact Reads.str _ t) q1, ReadsAll.cons (as := []) (bs := []) (by show Reads s.heap (DictEntry.val _) d []; rw [p2]; exact reads_N I d _ _ (hk _ List.mem_cons_self) a e2) q2⟩
def gD (G : List (Str × PyData)) : PyData := .dict (G.map fun p => (.str p.1, p.2))
def rReprK (K : PySem.W.Frag) (U : Str → Bool) : List V → Hp → VK → Prop := fun xs H Q => ∃ (a : Addr) (kvs : List (Key × V)) (G : List (Str × PyData)), xs = [.ref a] ∧ H a = some (.dK kvs) ∧ KvR K H kvs G ∧ (∀ p ∈ G, okN U p.2 = true) ∧ (gD G).showable = true ∧ (gD G).shown.length ≤ sizeLine ∧ (gD G).depth ≤ 60 ∧ Q (.str (gD G).shown) H
theorem call_reprK (hg : X.A.guards = some []) (hu : X.A.units + 70 < cLine) : CallR X (.builtin "repr") (rReprK X.K U) := by
  intro pins s σ H xs us Q I r h
  obtain ⟨a, kvs, G, rfl, e, hk, ho, hs, hz, hdp, q⟩ := h
  obtain ⟨u, rfl, ru⟩ := vals1 r
  obtain rfl : u = Value.ref a := ru
  obtain ⟨_, hsys, vs, kv, o, es, ep, h1, h2, h3, _, prs, _⟩ := dk_rd I.hok (.inl e)
  obtain ⟨q1, q2⟩ := reads_kv I hk ho kv prs
  have rd : Reads s.heap (.ref a) (gD G) (a :: [] ++ []) := Reads.dict h1 h2.1 h3 q1 q2
  refine PySem.repr_of_reads' rd hs (fun _ hm => ?_) hg (by omega) (fun _ _ e => e) (fun h' u tk k => ⟨.str _, H, I.kept (t' := tk) k, ⟨_, rfl⟩, q⟩) hz
  simp only [List.cons_append, List.nil_append, List.mem_singleton] at hm
  rw [← hm] at hsys
  simp at hsys
end
end Sg

set_option maxRecDepth 100000
set_option maxHeartbeats 8000000
namespace Sg
open PySem PySem.Spec PyProof.Rows L2 Dr Gd Er Cm LD CM XT RT LM LamX NdefX
abbrev sPut : Stmt := top 10
def isT (o : HO) : Prop := (∃ xs, o = .tup xs) ∨ ∃ u xs, o = .frz u (.tup xs)
mutual
theorem dp_tt {K : PySem.W.Frag} {U : Str → Bool} {Z Z' : Hp} (s : ∀ b o, Z b = some o → isT o → Z' b = some o) : ∀ (d : PyData) (v : V), okN U d = true → Dp K Z v d → Dp K Z' v d
  | .str z, v, _, h => by cases h; exact .str z
  | .tuple [], v, h, _ => by simp [okN] at h
  | .tuple (e :: r), v, h, hd => by
    rcases okN_case h with ⟨z, e', _⟩ | ⟨z, r', e', _, h2⟩
    · cases e'
    · injection e' with e'
      injection e' with e1 e2
      subst e2
      subst e1
      cases hd with
      | tup g1 g2 =>
        cases g2 with
        | cons p1 p2 =>
          cases p1
          refine .tup ?_ (.cons (.str z) (dps_tt s r _ h2 p2))
          rcases g1 with (e | ⟨u, e⟩) | k
          · exact .inl (.inl (s _ _ e (Or.inl ⟨_, rfl⟩)))
          · exact .inl (.inr ⟨u, s _ _ e (Or.inr ⟨u, _, rfl⟩)⟩)
          · exact .inr k
  | .none, v, h, _ => by simp [okN] at h
  | .bool _, v, h, _ => by simp [okN] at h
  | .int _, v, h, _ => by simp [okN] at h
  | .list _, v, h, _ => by simp [okN] at h
  | .dict _, v, h, _ => by simp [okN] at h
theorem dps_tt {K : PySem.W.Frag} {U : Str → Bool} {Z Z' : Hp} (s : ∀ b o, Z b = some o → isT o → Z' b = some o) : ∀ (ds : List PyData) (vs : List V), okNs U ds = true → DpAll K Z vs ds → DpAll K Z' vs ds
  | [], vs, _, h => by cases h; exact .nil
  | d :: ds, vs, h, hd => by
    rw [okNs, Bool.and_eq_true] at h
    cases hd with
    | cons a b => exact .cons (dp_tt s d _ h.1 a) (dps_tt s ds _ h.2 b)
end
/-- without the lists -/
def noL (H : Hp) : Hp := fun b => match H b with
  | some (.lst _) => none
  | o => o
theorem noL_of {H : Hp} {b : Addr} {o : HO} (h : H b = some o) (n : ∀ ys, o ≠ .lst ys) : noL H b = some o := by
  unfold noL
  rw [h]
  cases o <;> first | rfl | exact absurd rfl (n _)
theorem noL_inv {H : Hp} {b : Addr} {o : HO} (h : noL H b = some o) : H b = some o := by
  unfold noL at h
  cases e : H b with
  | none => rw [e] at h; cases h
  | some u =>
    rw [e] at h
    cases u <;> first | exact h | cases h
theorem noL_lst {H : Hp} {b : Addr} {ys : List V} : noL H b ≠ some (.lst ys) := fun h => by
  have e := noL_inv h
  unfold noL at h
  rw [e] at h
  cases h
theorem noL_same {H H' : Hp} (s : Same H H') : Same (noL H) (noL H') := fun b o e => noL_of (s _ _ (noL_inv e)) fun ys z => noL_lst (e.trans (congrArg some z))
theorem noL_sub {H : Hp} : Same (noL H) H := fun b o e => noL_inv e
theorem noL_upd {H : Hp} {c : Addr} {ys zs : List V} (h : H c = some (.lst ys)) : noL (L2.upd H c (.lst zs)) = noL H := by
  funext b
  by_cases e : b = c
  · subst e
    unfold noL
    rw [upd_same, h]
  · unfold noL
    rw [upd_ne e]
theorem delS_nil {H : Hp} : delS [] H = H := by
  funext b
  exact delS_of (by simp)
def spFoldC (K : PySem.W.Frag) (fa : Addr) (q : Str) (mk : Addr → NF) (body : Expr) (spL : List (Option V) → List V → Hp → VK → Prop) : List (Option V) → List V → Hp → VK → Prop := fun ws vs H Q => ∃ f c' : Addr, H f = some (LamO f (mk c') body) ∧ H (mk c').c = some (CodeO (mk c').c (mk c').qual) ∧
  spFoldG K fa (.ref f) (fun H' => H' f = some (LamO f (mk c') body)) (fun us H' Q' => H' (mk c').c = some (CodeO (mk c').c (mk c').qual) ∧ spL ws us H' Q') vs H Q
section
variable {P : Program} {w : World} {K : PySem.W.Frag} {mg : Str → Option Value} {base : Heap} {fa : Addr} {da : FuncData} {k : Nat} {cl : List (Str × Addr)} {fr ps : List Str} {mk : Addr → NF} {body : Expr} {spL : List (Option V) → List V → Hp → VK → Prop} {q : Str}
theorem ok_foldedC {f : Addr} {fd : FuncData} (F : Fun K "folded" "folded" sFolded f fd) (hln : mg "len" = none) (FA : FnOk P w K mg base CX0 1 fa da ["term"] (spArgs K)) (bA : Binds K da ["term"] []) (kA : PySem.W.keepIn K (.ref fa) = true)
    (LK : ∀ f c' : Addr, LOk P w K mg base (k + 1) f (mk c') body ps fr spL) (hcl : ∀ c', (mk c').cl = cl) : FnC P w K mg base (k + 2) f fd ["root", "children", "made"] cl fr (spFoldC K fa q mk body spL) := by
  refine okC F scFd (fun ws vs H Q h => ?_) (fun cdv A outer s H vs ws Q hr C nf h => ?_)
  · obtain ⟨f, c', _, _, v, d, Pd, S, St, G, rfl, _⟩ := h
    rfl
  · obtain ⟨f, c', hf, hc, h⟩ := h
    refine fold_body (mk := .ref f) hln FA bA kA (hr.mono (by omega)) (fun {e1 e2 t p pos} ha he hpl => ?_) h
    have C' : CellsAt (mk c').cl fr ws s.heap H := by rw [hcl c']; exact C
    exact pe_callLam (LK f c') C' (by rw [hcl c']; exact nf) rfl hr rfl (Or.inl rfl) pass0 ha he hpl
end
/-- the term and the dict lie beside the table at P -/
def spPut (K : PySem.W.Frag) (U : Str → Bool) (P : Addr) (q : Str) : Sp := fun vs H Q _ => ∃ v d gd kvs G, vs = [v, .ref gd] ∧ TabS H P q ∧ delS [P] H gd = some (.dK kvs) ∧ KvR K (delS [P] H) kvs G ∧ (∀ p ∈ G, okN U p.2 = true) ∧ Dp K (delS [P] H) v d ∧ okN U d = true ∧ fsz d ≤ 4000 ∧
  ∀ r H', Same (delS [P] H) (delS [P] H') → TabS H' P q → Dp K (delS [P] H') r (putD G d) → Q r H'
theorem kvR_tt {K : PySem.W.Frag} {U : Str → Bool} {Z Z' : Hp} (s : ∀ b o, Z b = some o → isT o → Z' b = some o) : ∀ {kvs : List (Key × V)} {G : List (Str × PyData)}, (∀ p ∈ G, okN U p.2 = true) → KvR K Z kvs G → KvR K Z' kvs G
  | _, _, _, .nil => .nil
  | _, _, h, .cons a b => .cons (dp_tt (U := U) s _ _ (h _ List.mem_cons_self) a) (kvR_tt s (fun p hp => h p (List.mem_cons_of_mem _ hp)) b)
theorem lookG_mem {G : List (Str × PyData)} {z : Str} {t : PyData} (h : lookG G z = some t) : (z, t) ∈ G := by
  unfold lookG at h
  cases e : G.find? fun p => decide (p.1 = z) with
  | none => rw [e] at h; cases h
  | some p =>
    rw [e] at h
    cases h
    have h1 := List.find?_some e
    have h2 := List.mem_of_find?_eq_some e
    rw [decide_eq_true_eq] at h1
    rw [← h1]
    exact h2
/-- of the def: what its lambda is -/
def lamA : Stmt → Arguments
  | st => match defBody st with
    | [.Return (some (.Call _ [_, _, .Lambda p _ _ _] _ _)) _] => p
    | _ => defArgs st
def lamB : Stmt → Expr
  | st => match defBody st with
    | [.Return (some (.Call _ [_, _, .Lambda _ b _ _] _ _)) _] => b
    | _ => .Name "" ⟨0, 0, 0, 0⟩
def lamS : Stmt → Scope
  | st => match defBody st with
    | [.Return (some (.Call _ [_, _, .Lambda _ _ s _] _ _)) _] => s
    | _ => defScope st
def qLam : Str := (envOfC "put" (defScope sPut) 0 0 .none).qual ++ "<lambda>"
abbrev mkL (cl : List (Str × Addr)) : Addr → NF := nfL qLam (lamA sPut) (lamS sPut) cl
def spLam (K : PySem.W.Frag) (U : Str → Bool) : List (Option V) → List V → Hp → VK → Prop := fun ws vs H Q => ∃ a b g, vs = [a, b] ∧ ws = [some g] ∧ spPW K U [a, b, g] H Q E0
section
variable {P : Program} {w : World} {K : PySem.W.Frag} {mg : Str → Option Value} {base : Heap} {U : Str → Bool} {fP fF fA : Addr} {dP dF dA : FuncData}
theorem scLm : NScope ["part", "told", "given"] ["part", "told"] ["given"] (lamS sPut) := nscope_by (by decide +kernel)
theorem lok_put (cl : List (Str × Addr)) (gP : mg "_put_whole" = some (.ref fP)) (kP : PySem.W.keepIn K (.ref fP) = true) (bP : Binds K dP ["part", "told", "given"] []) (FP : FnOk P w K mg base CX0 1 fP dP ["part", "told", "given"] (spPW K U)) (f c' : Addr) :
    LOk P w K mg base 2 f (mkL cl c') (lamB sPut) ["part", "told"] ["given"] (spLam K U) := by
  refine lok_of (N := ["part", "told", "given"]) scLm (fun pm ctv us hl => ?_) (fun ws vs H Q h => ?_) (fun A outer s H vs ws Q hr hl h => ?_)
  · match us, hl with
    | [_, _], _ => rfl
  · obtain ⟨a, b, g, rfl, _⟩ := h
    rfl
  · obtain ⟨a, b, g, rfl, rfl, h⟩ := h
    refine ⟨_, pe_call FP hr rfl gP kP bP .nil pass0 (pa_cons (pv 0) (pa_cons (pv 1) (pa_cons (pv 2) pa_nil))), ?_⟩
    exact ⟨_, rfl, _, rfl, _, rfl, h⟩
theorem okCd {x qual : Str} {st : Stmt} {N ps : List Str} {f c : Addr} {fd : FuncData} {k : Nat} {sp : Sp} (F : Fun K x qual st f fd) (hc : fd.code = .ref c) (S : FnScope N ps (defScope st)) (len : ∀ vs H Q E, sp vs H Q E → vs.length = ps.length)
    (hbody : ∀ (A : Around) (outer : List Env) (s : Shared) (H : Hp) (vs : List V) (Q : VK) (E : XK), Room k (A.deeper (envOfC qual (defScope st) s.heap.objs.size f (.ref c))) → sp vs H Q E →
      ∃ t, PSs (cxOf CX0 P w K mg base N qual (defScope st) f (.ref c) A outer s H E).nox (defBody st) t ∧ t { nx := fun _ H' => Q .non H', rt := Q } (start N vs) H) : FnOk P w K mg base CX0 (k + 1) f fd ps sp := by
  obtain ⟨oc, od, kV, doc, pm, an, cdv, ct, osl, rfl, lk, hcd⟩ := F.ex
  cases hc
  refine fn_of lk hcd S len fun A outer s H vs Q E hr hsp => ?_
  obtain ⟨t, h, q⟩ := hbody A outer s H vs Q E hr hsp
  exact ⟨t, h.nox, q⟩
theorem scPu : FnScope ["term", "given"] ["term", "given"] (defScope sPut) := ⟨rfl, rfl, rfl, by decide +kernel, rfl, by decide +kernel, by decide +kernel⟩
theorem lamCap : ndefB (defScope sPut) (lamS sPut) ["given"] = true := by decide +kernel
theorem ok_put {f c Pt : Addr} {fd : FuncData} (F : Fun K "put" "put" sPut f fd) (hc : fd.code = .ref c) (TB : TabB base mg c Pt) (gA : mg "arguments" = some (.ref fA)) (gF : mg "folded" = some (.ref fF)) (kF : PySem.W.keepIn K (.ref fF) = true) (bF : Binds K dF ["root", "children", "made"] [])
    (FC : ∀ cl, FnC P w K mg base 3 fF dF ["root", "children", "made"] cl ["given"] (spFoldC K fA qLam (mkL cl) (lamB sPut) (spLam K U))) : FnOk P w K mg base CX0 4 f fd ["term", "given"] (spPut K U Pt qLam) := by
  refine okCd F hc scPu (fun vs H Q E h => ?_) (fun A outer s H vs Q E hr h => ?_)
  · obtain ⟨v, d, gd, kvs, G, rfl, _⟩ := h
    rfl
  · obtain ⟨v, d, gd, kvs, G, rfl, hT, hgd, hG, hGo, hv, hok, hsz, qq⟩ := h
    refine ⟨_, pss_one (ps_ret (pe_callC (js := [1]) (FC _) rfl (fun ok => Caps.made ok (ndef_free lamCap) (ndef_fr lamCap) rfl) hr rfl gF kF bF pass0 (pa_cons (pv 0) (pa_cons (pe_glob (v := .ref fA) rfl gA rfl) (pa_cons (pe_lam TB rfl rfl (ndef_free lamCap)) pa_nil))))), ?_⟩
    refine ⟨_, rfl, hT, fun fl c' H1 sB hT1 nf ef ec => ?_⟩
    have iz : ∀ {b : Addr} {o : HO}, delS [Pt] H b = some o → H1 b = some o := fun {b o} e => by
      obtain ⟨n, e'⟩ := delS_inv e
      exact sB b o e' (by simpa using n)
    have z1 : Same (noL (delS [Pt] H)) H1 := fun b o e => iz (noL_inv e)
    have gdZ : noL (delS [Pt] H) gd = some (.dK kvs) := noL_of hgd (fun ys z => by cases z)
    have kvZ : KvR K (noL (delS [Pt] H)) kvs G := kvR_tt (U := U) (fun b o e i => noL_of e fun ys z => by
      rcases i with ⟨xs, rfl⟩ | ⟨u, xs, rfl⟩ <;> cases z) hGo hG
    have lk : ∀ z t, lookG G z = some t → okN U t = true := fun z t e => hGo _ (lookG_mem e)
    have toN : ∀ {H' : Hp} {t : PyData} {r : V}, okN U t = true → Dp K H' r t → Dp K (noL H') r t := fun {H' t r} ok h => dp_tt (U := U) (fun b o e i => noL_of e fun ys z => by
      rcases i with ⟨xs, rfl⟩ | ⟨u, xs, rfl⟩ <;> cases z) _ _ ok h
    refine ⟨fl, c', ef, ec, v, d, fun t => okN U t = true ∧ fsz t ≤ 5000, [], fun H' => Same (noL (delS [Pt] H)) H', fun t r H' => Dp K (noL H') r (putD G t), rfl, ?_, ⟨hok, by omega⟩, by omega, ?_, z1, ?_, ?_⟩
    · intro H' sm
      rw [delS_nil, delS_nil] at sm
      exact sm _ _ ef
    · rw [delS_nil]
      exact dp_same (fun b o e => iz e) _ _ hv
    · exact {
        sub := fun t ⟨h1, h2⟩ => ⟨okN_F t h1, fun a ha => ⟨okNs_mem (okN_args h1) a ha, by have := arg_lt ha; omega⟩⟩
        trk := fun H' _ b hb => by cases hb
        alc := fun H' H'' s hst => ⟨Same.trans hst s, fun t r h => dp_same (noL_same s) _ _ h⟩
        upl := fun H' c ys zs _ hl hst => ⟨fun b o e => by
          have e1 := hst b o e
          rw [upd_ne (fun z => noL_lst (ys := ys) (by rw [z] at e e1; rw [e, ← e1, hl]))]
          exact e1, fun t r h => by rw [noL_upd hl]; exact h⟩
        made := fun t vt l us H' Q' sb hst ⟨p1, p2⟩ hvt _ el gs hQ => by
          rw [delS_nil] at hvt
          rw [delS_nil, delS_nil] at sb
          refine ⟨sb _ _ ec, _, _, _, rfl, rfl, vt, t, l, us, gd, kvs, G, _, rfl, hst, gdZ, kvZ, hvt, p1, SqL.of el, ?_, ?_, fun r H'' s'' hr'' => ?_⟩
          · rw [putDs_map]
            have go : ∀ {ds : List PyData} {xs : List V}, All2 (fun t r => Dp K (noL H') r (putD G t)) ds xs → DpAll K H' xs (ds.map (putD G)) := fun {ds xs} h => by
              induction h with
              | nil => exact .nil
              | cons a _ ih => exact .cons (dp_same noL_sub _ _ a) ih
            exact go gs
          · rw [← gs.len]
            have := fszs_len (argsD t)
            have := fsz_args t
            omega
          · refine hQ r H'' (by rw [delS_nil, delS_nil]; exact s'') (Same.trans hst s'') (fun d' v' h => dp_same (noL_same s'') _ _ h) (toN (putD_ok lk t p1) hr'') }
    · intro r H' sm hst hr' _
      rw [delS_nil, delS_nil] at sm
      have hT' : TabS H' Pt qLam := hT1.ext sm
      refine qq r H' (fun b o e => ?_) hT' (dp_tt (U := U) (fun b o e i => ?_) _ _ (putD_ok lk d hok) (dp_same noL_sub _ _ hr'))
      · obtain ⟨n, _⟩ := delS_inv e
        rw [delS_of n]
        exact sm _ _ (iz e)
      · obtain ⟨ps, hp, _⟩ := hT'
        rw [delS_of (fun h => by
          rw [List.mem_singleton.mp h, hp] at e
          cases Option.some.inj e
          rcases i with ⟨xs, z⟩ | ⟨u, xs, z⟩ <;> cases z)]
        exact e
end
end Sg

set_option maxRecDepth 100000
set_option maxHeartbeats 4000000
namespace Sg
open PySem PySem.Spec PyProof.Rows L2 Dr Gd Er Cm XT
def wordIn (L z : Str) : Bool := decide (1 ≤ z.length) && (decide (z.length ≤ 8) && z.cps.toList.all fun c => decide (c ∈ L.cps.toList))
def Lc : Str := "abcdefghijklmnopqrstuvwxyz"
theorem SameX.new {x p : Addr} {H H1 : Hp} {o : HO} (s : SameX x H H1) (hp : H p = none) : SameX x H (L2.upd H1 p o) := fun b u h n => by
  rw [upd_ne (ne_of_none h hp)]; exact s b u h n
structure SeqK (K : PySem.W.Frag) (H H' : Hp) : Prop where
  l : ∀ a xs, SqL K H a xs → SqL K H' a xs
  t : ∀ a xs, SqT K H a xs → SqT K H' a xs
mutual
theorem dp_seq {K : PySem.W.Frag} {H H' : Hp} (s : SeqK K H H') : ∀ (d : PyData) (v : V), Dp K H v d → Dp K H' v d
  | .none, _, h => by cases h; exact .non
  | .bool b, _, h => by cases h; exact .bl b
  | .int i, _, h => by cases h; exact .int i
  | .str x, _, h => by cases h; exact .str x
  | .list ds, _, h => by
    cases h with
    | lst h1 h2 => exact .lst (s.l _ _ h1) (dpAll_seq s ds _ h2)
  | .tuple ds, _, h => by
    cases h with
    | tup h1 h2 => exact .tup (s.t _ _ h1) (dpAll_seq s ds _ h2)
  | .dict kvs, _, h => by cases h
theorem dpAll_seq {K : PySem.W.Frag} {H H' : Hp} (s : SeqK K H H') : ∀ (ds : List PyData) (vs : List V), DpAll K H vs ds → DpAll K H' vs ds
  | [], _, h => by cases h; exact .nil
  | d :: ds, _, h => by
    cases h with
    | cons a b => exact .cons (dp_seq s d _ a) (dpAll_seq s ds _ b)
end
def arOf (ps : List (Str × Int)) (z : Str) : Option Int := (ps.find? fun p => decide (p.1 = z)).map (·.2)
def arD (ps : List (Str × Int)) : PyData → Option Int
  | .str z => arOf ps z
  | _ => none
def psD (ps : List (Str × Int)) : PyData := .list (ps.map fun p => .tuple [.str p.1, .int p.2])
def OkNames (ps : List (Str × Int)) : Prop := ∀ p ∈ ps, PyData.strOk p.1 = true
theorem psD_lay : ∀ ps : List (Str × Int), OkNames ps → PyData.canLayAll0 (ps.map fun p => .tuple [.str p.1, .int p.2]) = true
  | [], _ => rfl
  | p :: ps, h => by
    show (PyData.canLay0 (.tuple [.str p.1, .int p.2]) && _) = true
    rw [psD_lay ps fun q hq => h q (List.mem_cons_of_mem _ hq)]
    show ((PyData.strOk p.1 && (true && true)) && true) = true
    rw [h p List.mem_cons_self]
    rfl
theorem psD_dep : ∀ ps : List (Str × Int), PyData.depthAll (ps.map fun p => .tuple [.str p.1, .int p.2]) ≤ 2
  | [] => by simp [PyData.depthAll]
  | p :: ps => by
    have := psD_dep ps
    simp only [List.map_cons, PyData.depthAll]
    refine Nat.max_le.mpr ⟨?_, this⟩
    simp [PyData.depth, PyData.depthAll]
theorem psD_shaped {ps : List (Str × Int)} (h : OkNames ps) : SeqAt.shaped (psD ps) = true := by
  unfold SeqAt.shaped
  rw [Bool.and_eq_true]
  refine ⟨psD_lay ps h, decide_eq_true ?_⟩
  have := psD_dep ps
  show PyData.depth (.list _) ≤ 64
  simp only [PyData.depth]
  omega
theorem arOf_at : ∀ {ps : List (Str × Int)} {i : Nat} {z : Str} {n : Int}, (ps.map (·.1)).Nodup → ps[i]? = some (z, n) → arOf ps z = some n
  | [], i, z, n, _, h => by simp at h
  | p :: ps, 0, z, n, _, h => by
    simp at h
    subst h
    unfold arOf
    rw [List.find?_cons_of_pos (by simp)]
    rfl
  | p :: ps, i + 1, z, n, hn, h => by
    have h : ps[i]? = some (z, n) := by simpa using h
    obtain ⟨h1, h2⟩ := List.nodup_cons.mp (show (p.1 :: ps.map (·.1)).Nodup from hn)
    have hz : ¬ p.1 = z := fun e => h1 (by
      rw [e]
      exact List.mem_map.mpr ⟨(z, n), List.mem_of_getElem? h, rfl⟩)
    unfold arOf
    rw [List.find?_cons_of_neg (by simpa using hz)]
    exact arOf_at h2 h
def nw (H H' : Hp) : Hp := fun b => if H b = none then H' b else none
theorem nw_at {H H' : Hp} {b : Addr} {o : HO} (h : H b = none) (h' : H' b = some o) : nw H H' b = some o := by unfold nw; rw [if_pos h]; exact h'
theorem nw_inv {H H' : Hp} {b : Addr} {o : HO} (h : nw H H' b = some o) : H b = none ∧ H' b = some o := by
  unfold nw at h
  by_cases e : H b = none
  · rw [if_pos e] at h
    exact ⟨e, h⟩
  · rw [if_neg e] at h
    cases h
theorem nw_same {H H' : Hp} : Same (nw H H') H' := fun b o h => (nw_inv h).2
theorem nw_l {H H1 H2 : Hp} (s : Same H1 H2) : Same (nw H H1) (nw H H2) := fun b o h => nw_at (nw_inv h).1 (s _ _ (nw_inv h).2)
theorem nw_r {H H1 H2 : Hp} (s : Same H H1) : Same (nw H1 H2) (nw H H2) := fun b o h => nw_at (Same.free s (nw_inv h).1) (nw_inv h).2
theorem nw_del {H H' : Hp} {p : Addr} {o : HO} (h : H p = some o) : Same (nw H H') (del H' p) := fun b u e => by
  have hb : b ≠ p := fun z => by
    have := (nw_inv e).1
    rw [z, h] at this
    cases this
  rw [del_ne hb]
  exact (nw_inv e).2
def tDat (K : PySem.W.Frag) (c : L2.St → Prop) (d : PyData) : TE := fun σ H Q => c σ ∧ ∀ v H', Same H H' → Dp K (nw H H') v d → Q v H'
def taDat (K : PySem.W.Frag) (c : L2.St → Prop) (ds : List PyData) : TA := fun σ H Q => c σ ∧ ∀ vs H', Same H H' → DpAll K (nw H H') vs ds → Q vs H'
def tDatL (K : PySem.W.Frag) (c : L2.St → Prop) (ds : List PyData) : TE := fun σ H Q => c σ ∧ ∀ p vs H', Same H H' → H p = none → H' p = some (.lst vs) → DpAll K (nw H H') vs ds → Q (.ref p) H'
section
variable {X : Cx} {e : Expr} {es : List Expr}
theorem pe_imp {t t' : TE} (h : ∀ σ H Q, t' σ H Q → t σ H Q) (q : PE X e t) : PE X e t' := ⟨fun pins s σ H Q I z => q.run pins s σ H Q I (h σ H Q z)⟩
theorem pa_imp {t t' : TA} (h : ∀ σ H Q, t' σ H Q → t σ H Q) (q : PA X es t) : PA X es t' := ⟨fun pos pins s σ H Q I z => q.run pos pins s σ H Q I (h σ H Q z)⟩
end
section
variable {X : Cx} {c : L2.St → Prop} {e : Expr} {es : List Expr} {d : PyData} {ds : List PyData} {pos : Pos}
theorem pd_int {n : Int} {j : Nat} : PE X (.Constant (.int n) j pos) (tDat X.K c (.int n)) := pe_imp (fun σ H Q h => h.2 _ H (Same.refl H) (.int n)) pe_int
theorem pd_str {z : Str} {j : Nat} : PE X (.Constant (.str z) j pos) (tDat X.K c (.str z)) := pe_imp (fun σ H Q h => h.2 _ H (Same.refl H) (.str z)) pe_str
theorem pd_bl {b : Bool} {j : Nat} : PE X (.Constant (.bool b) j pos) (tDat X.K c (.bool b)) := pe_imp (fun σ H Q h => h.2 _ H (Same.refl H) (.bl b)) pe_bl
theorem pd_non {j : Nat} : PE X (.Constant .none j pos) (tDat X.K c .none) := pe_imp (fun σ H Q h => h.2 _ H (Same.refl H) .non) pe_non
theorem pd_neg {n : Int} {j : Nat} {p : Pos} : PE X (.UnaryOp .USub (.Constant (.int n) j p) pos) (tDat X.K c (.int (-n))) := pe_imp (fun σ H Q h => ⟨n, rfl, h.2 _ H (Same.refl H) (.int _)⟩) (pe_un un_neg pe_int)
theorem pd_nil : PA X [] (taDat X.K c []) := pa_imp (fun σ H Q h => h.2 _ H (Same.refl H) .nil) pa_nil
theorem pd_cons (he : PE X e (tDat X.K c d)) (hr : PA X es (taDat X.K c ds)) (hs : starEach (e :: es) X.env = (false, eval e X.env) :: starEach es X.env := by rfl) : PA X (e :: es) (taDat X.K c (d :: ds)) :=
  pa_imp (fun σ H Q h => ⟨h.1, fun v H1 s1 h1 => ⟨h.1, fun vs H2 s2 h2 => h.2 _ H2 (Same.trans s1 s2) (.cons (dp_same (nw_l s2) _ _ h1) (dpAll_same (nw_r s1) _ _ h2))⟩⟩) (pa_cons he hr hs)
theorem pd_lstL (h : PA X es (taDat X.K c ds)) (hl : ds.length ≤ 1000) : PE X (.List es pos) (tDatL X.K c ds) :=
  pe_imp (fun σ H Q h => ⟨h.1, fun vs H1 s1 h1 => ⟨by rw [dpAll_len h1]; exact Nat.le_trans hl (by decide), fun p hp => h.2 p vs _ (Same.trans s1 (same_upd hp)) (Same.free s1 hp) upd_same (dpAll_same (nw_l (same_upd hp)) _ _ h1)⟩⟩) (pe_lst h)
theorem pd_lst (h : PA X es (taDat X.K c ds)) (hl : ds.length ≤ 1000) : PE X (.List es pos) (tDat X.K c (.list ds)) :=
  pe_imp (fun σ H Q h => ⟨h.1, fun p vs H1 s1 hn h1 h2 => h.2 _ H1 s1 (.lst (SqL.of (nw_at hn h1)) h2)⟩) (pd_lstL h hl)
theorem pd_tup {x1 : Nat} (h : PA X es (taDat X.K c ds)) (hl : ds.length ≤ 1000) : PE X (.Tuple es x1 pos) (tDat X.K c (.tuple ds)) :=
  pe_imp (fun σ H Q h => ⟨h.1, fun vs H1 s1 h1 => ⟨by rw [dpAll_len h1]; exact Nat.le_trans hl (by decide), fun p hp => h.2 _ _ (Same.trans s1 (same_upd hp)) (.tup (SqT.of (nw_at (Same.free s1 hp) upd_same)) (dpAll_same (nw_l (same_upd hp)) _ _ h1))⟩⟩) (pe_tup h)
end
def Uc : Str := "ABCDEFGHIJKLMNOPQRSTUVWXYZ"
def headOk (ps : List (Str × Int)) (e : PyData) (n : Nat) : Bool := match arD ps e with
  | some m => decide (((n + 1 : Nat) : Int) = m + 1)
  | none => false
mutual
def isTerm (ps : List (Str × Int)) : PyData → Bool
  | .str z => wordIn Uc z
  | .tuple [] => false
  | .tuple (e :: r) => headOk ps e r.length && allTerm ps r
  | .none => false
  | .bool _ => false
  | .int _ => false
  | .list _ => false
  | .dict _ => false
def allTerm (ps : List (Str × Int)) : List PyData → Bool
  | [] => true
  | d :: r => isTerm ps d && allTerm ps r
end
mutual
def tsz : PyData → Nat
  | .tuple ds => 1 + tszs ds
  | .list ds => 1 + tszs ds
  | .str _ => 1
  | .none => 1
  | .bool _ => 1
  | .int _ => 1
  | .dict _ => 1
def tszs : List PyData → Nat
  | [] => 0
  | d :: r => tsz d + tszs r
end
mutual
def okT : PyData → Bool
  | .tuple ds => okTs ds
  | .list ds => okTs ds
  | .str z => decide (z.length ≤ 1000)
  | .none => true
  | .bool _ => true
  | .int _ => true
  | .dict _ => true
def okTs : List PyData → Bool
  | [] => true
  | d :: r => okT d && okTs r
end
theorem allTerm_app (ps : List (Str × Int)) : ∀ a b : List PyData, allTerm ps (a ++ b) = (allTerm ps a && allTerm ps b)
  | [], b => by simp [allTerm]
  | d :: a, b => by
    rw [List.cons_append, allTerm, allTerm, allTerm_app ps a b, Bool.and_assoc]
theorem eqv_nil (ds : List PyData) : PyData.eqvAll ds [] = ds.isEmpty := by cases ds <;> rfl
theorem shaped_nil : SeqAt.shaped (.list []) = true := by decide
theorem layAll_of : ∀ {ds : List PyData}, (∀ d ∈ ds, d.canLay0 = true) → PyData.canLayAll0 ds = true
  | [], _ => rfl
  | d :: ds, h => by
    rw [PyData.canLayAll0, h d List.mem_cons_self, layAll_of fun x hx => h x (List.mem_cons_of_mem _ hx)]
    rfl
theorem dep_of : ∀ {ds : List PyData} {n : Nat}, (∀ d ∈ ds, d.depth ≤ n) → PyData.depthAll ds ≤ n
  | [], n, _ => by simp [PyData.depthAll]
  | d :: ds, n, h => by
    rw [PyData.depthAll]
    exact Nat.max_le.mpr ⟨h d List.mem_cons_self, dep_of fun x hx => h x (List.mem_cons_of_mem _ hx)⟩
theorem shaped_list {ds : List PyData} (h : ∀ d ∈ ds, d.canLay0 = true ∧ d.depth ≤ 62) : SeqAt.shaped (.list ds) = true := by
  unfold SeqAt.shaped
  rw [Bool.and_eq_true]
  refine ⟨layAll_of fun d hd => (h d hd).1, decide_eq_true ?_⟩
  have := dep_of (n := 62) fun d hd => (h d hd).2
  show PyData.depth (.list _) ≤ 64
  simp only [PyData.depth]
  omega
theorem shaped_of {d : PyData} (h1 : d.canLay0 = true) (h2 : d.depth ≤ 62) : SeqAt.shaped d = true := by
  unfold SeqAt.shaped
  rw [h1, Bool.true_and]
  exact decide_eq_true (by omega)
end Sg

set_option maxRecDepth 100000
set_option maxHeartbeats 4000000
namespace Sg
open PySem PySem.Spec PyProof.Rows L2 Dr Gd Er Cm
abbrev sKnown : Stmt := top 16
def known1 : List (List (Str × Int)) := [[("plus", 2), ("s", 1), ("zero", 0)], [("f", 2), ("g", 1), ("a", 0)], [("f", 2), ("a", 0), ("b", 0)]]
def known2 : List (List (Str × Int)) := [[("g", 1), ("f", 2), ("h", 2)], [("a", 0), ("b", 0), ("c", 0)], [("f", 3), ("a", 0), ("b", 0)]]
def known3 : List (List (Str × Int)) := [[("f", 1), ("g", 1), ("h", 1)], [("times", 2), ("plus", 2), ("s", 1), ("zero", 0)]]
def known4 : List (List (Str × Int)) := [[("left", 2), ("above", 2), ("lots", 0)], [("order", 1), ("rule", 0), ("sign", 2)]]
def known5 : List (List (Str × Int)) := [[("b", 0), ("f", 2)], [("f", 2), ("g", 1), ("a", 0), ("b", 0)], [("f", 3)]]
def known : List (List (Str × Int)) := known1 ++ known2 ++ known3 ++ known4 ++ known5
def spKnown (K : PySem.W.Frag) : Sp := fun vs H Q _ => vs = [] ∧ ∀ p us H', Same H H' → H p = none → H' p = some (.lst us) → DpAll K (nw H H') us (known.map psD) → Q (.ref p) H'
theorem cat_dat {K : PySem.W.Frag} {c : L2.St → Prop} {σ : L2.St} {H0 H : Hp} {Q : VK} {l : Addr} {vs : List V} {ds es : List PyData} {i : Nat} (hv : σ[i]? = some (some (.ref l))) (s0 : Same H0 H) (hl : H l = some (.lst vs)) (hd : DpAll K (nw H0 H) vs ds) (hz : ds.length + es.length ≤ 1000) (hc : c σ)
    (h : ∀ p us H', Same H0 H' → H0 p = none → H' p = some (.lst us) → DpAll K (nw H0 H') us (ds ++ es) → Q (.ref p) H') : tOp rCat (tVar i) (tDatL K c es) σ H Q := by
  refine ⟨_, hv, hc, fun p us H1 s1 hp h1 h2 => ?_⟩
  refine ⟨l, p, _, _, rfl, rfl, s1 _ _ hl, h1, ?_, fun p2 hp2 => ?_⟩
  · rw [dpAll_len hd, dpAll_len h2]
    exact Nat.le_trans hz (by decide)
  · have s := Same.trans s0 s1
    exact h p2 _ _ (Same.trans s (same_upd hp2)) (Same.free s hp2) upd_same (dpAll_same (nw_l (same_upd hp2)) _ _ (dpAll_app (dpAll_same (nw_l s1) _ _ hd) (dpAll_same (nw_r s0) _ _ h2)))
section
variable {P : Program} {w : World} {K : PySem.W.Frag} {mg : Str → Option Value} {base : Heap}
theorem scKn : FnScope ["found"] [] (defScope sKnown) := ⟨rfl, rfl, rfl, by decide +kernel, rfl, by decide +kernel, by decide +kernel⟩
theorem ok_known {f : Addr} {fd : FuncData} (F : Fun K "_law_known_signs" "_law_known_signs" sKnown f fd) : FnOk P w K mg base CX0 1 f fd [] (spKnown K) := by
  refine F.ok scKn (fun vs H Q E h => ?_) (fun cdv A outer s H vs Q E hr h => ?_)
  · obtain ⟨rfl, _⟩ := h
    rfl
  · obtain ⟨rfl, q⟩ := h
    refine ⟨_, pss_cons (ps_set (i := 0) (te := tDatL K (fun _ => True) (known1.map psD)) scKn.nd rfl (Or.inl rfl) (pd_lstL (by repeat (first | exact pd_int | exact pd_str | exact pd_nil | refine pd_cons ?_ ?_ | refine pd_lst ?_ (by decide) | refine pd_tup ?_ (by decide))) (by decide)))
      (pss_cons (ps_set (i := 0) (te := tOp rCat (tVar 0) (tDatL K (fun _ => True) (known2.map psD))) scKn.nd rfl (Or.inl rfl) (pe_op op_cat (pv 0) (pd_lstL (by repeat (first | exact pd_int | exact pd_str | exact pd_nil | refine pd_cons ?_ ?_ | refine pd_lst ?_ (by decide) | refine pd_tup ?_ (by decide))) (by decide))))
      (pss_cons (ps_set (i := 0) (te := tOp rCat (tVar 0) (tDatL K (fun _ => True) (known3.map psD))) scKn.nd rfl (Or.inl rfl) (pe_op op_cat (pv 0) (pd_lstL (by repeat (first | exact pd_int | exact pd_str | exact pd_nil | refine pd_cons ?_ ?_ | refine pd_lst ?_ (by decide) | refine pd_tup ?_ (by decide))) (by decide))))
      (pss_cons (ps_set (i := 0) (te := tOp rCat (tVar 0) (tDatL K (fun _ => True) (known4.map psD))) scKn.nd rfl (Or.inl rfl) (pe_op op_cat (pv 0) (pd_lstL (by repeat (first | exact pd_int | exact pd_str | exact pd_nil | refine pd_cons ?_ ?_ | refine pd_lst ?_ (by decide) | refine pd_tup ?_ (by decide))) (by decide))))
      (pss_one (ps_ret (te := tOp rCat (tVar 0) (tDatL K (fun _ => True) (known5.map psD))) (pe_op op_cat (pv 0) (pd_lstL (by repeat (first | exact pd_int | exact pd_str | exact pd_nil | refine pd_cons ?_ ?_ | refine pd_lst ?_ (by decide) | refine pd_tup ?_ (by decide))) (by decide)))))))), ?_⟩
    refine ⟨trivial, fun p1 u1 H1 s1 n1 g1 e1 => ?_⟩
    refine cat_dat (i := 0) rfl s1 g1 e1 (by decide) trivial (fun p2 u2 H2 s2 n2 g2 e2 => ?_)
    refine cat_dat (i := 0) rfl s2 g2 e2 (by decide) trivial (fun p3 u3 H3 s3 n3 g3 e3 => ?_)
    refine cat_dat (i := 0) rfl s3 g3 e3 (by decide) trivial (fun p4 u4 H4 s4 n4 g4 e4 => ?_)
    exact cat_dat (i := 0) rfl s4 g4 e4 (by decide) trivial (fun p5 u5 H5 s5 n5 g5 e5 => q p5 u5 H5 s5 n5 g5 e5)
end
end Sg

set_option maxRecDepth 100000
set_option maxHeartbeats 4000000
namespace Sg
open PySem PySem.Spec PyProof.Rows L2 Dr Gd Er Cm
abbrev sDrawn : Stmt := top 17
structure Cal (P : Program) (w : World) (K : PySem.W.Frag) (mg : Str → Option Value) (base : Heap) (CX : CXT) (k : Nat) (x : Str) (f : Addr) (fd : FuncData) (ps : List Str) (sp : Sp) : Prop where
  ok : FnOk P w K mg base CX k f fd ps sp
  g : mg x = some (.ref f)
  kp : PySem.W.keepIn K (.ref f) = true
  b : Binds K fd ps []
def names3 : List (List Str) := [["f", "g", "h", "k"], ["k", "f", "a", "g"], ["z", "ab", "b", "abcdefgh"]]
def allN : List Str := (known.flatten.map (·.1)) ++ names3.flatten
def Good (ps : List (Str × Int)) : Prop := 1 ≤ ps.length ∧ ps.length ≤ 4 ∧ (ps.map (·.1)).Nodup ∧ (∀ p ∈ ps, wordIn Lc p.1 = true ∧ 0 ≤ p.2 ∧ p.2 ≤ 3) ∧ (("q" : Str) ∉ ps.map (·.1)) ∧ ∀ p ∈ ps, p.1 ∈ allN
instance (ps : List (Str × Int)) : Decidable (Good ps) := by unfold Good; infer_instance
theorem known_good : ∀ ps ∈ known, Good ps := by decide +kernel
theorem names3_ok : ∀ N ∈ names3, N.length = 4 ∧ N.Nodup ∧ (∀ z ∈ N, wordIn Lc z = true) ∧ ("q" : Str) ∉ N ∧ ∀ z ∈ N, z ∈ allN := by decide +kernel
def nmD (N : List Str) : PyData := .list (N.map .str)
def spDrawn (K : PySem.W.Frag) : Sp := fun vs H Q _ => ∃ p x y, vs = [.ref p] ∧ H p = some (feedO x y) ∧
  ∀ v ps x' y' H', SameX p H H' → H' p = some (feedO x' y') → Dp K (del H' p) v (psD ps) → Good ps → Q v H'
theorem SameX.del {p : Addr} {H H' : Hp} (s : SameX p H H') : Same (L2.del H p) (L2.del H' p) := fun b o h => by
  by_cases hb : b = p
  · subst hb; rw [del_same] at h; cases h
  · rw [del_ne hb] at h ⊢
    exact s b o h hb
theorem del_upd {p : Addr} {H : Hp} {o : HO} : L2.del (L2.upd H p o) p = L2.del H p := by
  funext b
  by_cases hb : b = p
  · subst hb; rw [del_same, del_same]
  · rw [del_ne hb, del_ne hb, upd_ne hb]
theorem dpAll_mem {K : PySem.W.Frag} {H : Hp} {vs : List V} {ds : List PyData} {v : V} (h : DpAll K H vs ds) (m : v ∈ vs) : ∃ d ∈ ds, Dp K H v d := by
  obtain ⟨i, hi, e⟩ := List.getElem_of_mem m
  obtain ⟨d, h1, h2⟩ := dpAll_get' h (show vs[i]? = some v by rw [List.getElem?_eq_getElem hi, e])
  exact ⟨d, List.mem_of_getElem? h1, h2⟩
def prD (ps : List (Str × Int)) : List PyData := ps.map fun p => .tuple [.str p.1, .int p.2]
theorem seqT_updL {K : PySem.W.Frag} {H : Hp} {l t : Addr} {us xs : List V} {o : HO} (hl : H l = some (.lst us)) (h : SqT K H t xs) : SqT K (L2.upd H l o) t xs := by
  rcases h with (h | ⟨u, h⟩) | h
  · exact .inl (.inl (by rw [upd_ne (ne_of h hl (by intro z; cases z))]; exact h))
  · exact .inl (.inr ⟨u, by rw [upd_ne (ne_of h hl (by intro z; cases z))]; exact h⟩)
  · exact .inr h
theorem pr_updL {K : PySem.W.Frag} {H : Hp} {l : Addr} {us : List V} {o : HO} (hl : H l = some (.lst us)) : ∀ {ts : List V} {ps : List (Str × Int)}, DpAll K H ts (prD ps) → DpAll K (L2.upd H l o) ts (prD ps)
  | [], [], _ => .nil
  | _ :: _, [], h => by cases h
  | [], _ :: _, h => by cases h
  | t :: ts, p :: ps, h => by
    cases h with
    | cons a b =>
      cases a with
      | tup h1 h2 =>
        cases h2 with
        | cons a1 h2 =>
          cases h2 with
          | cons a2 h2 =>
            cases h2
            cases a1
            cases a2
            exact .cons (.tup (seqT_updL hl h1) (.cons (.str _) (.cons (.int _) .nil))) (pr_updL hl b)
theorem nm_vs {K : PySem.W.Frag} {H : Hp} : ∀ {vs : List V} {N : List Str}, DpAll K H vs (N.map .str) → vs = N.map V.str
  | [], [], _ => rfl
  | _ :: _, _ :: _, h => by
    cases h with
    | cons a b =>
      cases a
      rw [nm_vs b]
      rfl
section
variable {P : Program} {w : World} {K : PySem.W.Frag} {mg : Str → Option Value} {base : Heap} {fT fP fK : Addr} {dT dP dK : FuncData}
theorem scDr : FnScope ["feed", "names", "many", "found", "ways", "at", "arity"] ["feed"] (defScope sDrawn) := ⟨rfl, rfl, rfl, by decide +kernel, rfl, by decide +kernel, by decide +kernel⟩
theorem ok_drawn {f : Addr} {fd : FuncData} (F : Fun K "_law_drawn_signs" "_law_drawn_signs" sDrawn f fd) (GT : Cal P w K mg base CX0 1 "_law_take" fT dT ["feed", "many"] spTake) (GP : Cal P w K mg base CX0 2 "_law_pick" fP dP ["feed", "some"] (spPick K))
    (GK : Cal P w K mg base CX0 1 "_law_known_signs" fK dK [] (spKnown K)) (hi : mg "int" = none) (hrg : mg "range" = none) : FnOk P w K mg base CX0 3 f fd ["feed"] (spDrawn K) := by
  refine F.ok scDr (fun vs H Q E h => ?_) (fun cdv A outer s H vs Q E hr h => ?_)
  · obtain ⟨p, x, y, rfl, _⟩ := h
    rfl
  · obtain ⟨p, x, y, rfl, hp, q⟩ := h
    refine ⟨_, pss_cons (ps_if (pt_cmpR op_gt (pe_call GT.ok (hr.mono (by decide)) rfl GT.g GT.kp GT.b .nil pass0 (pa_cons (pv 0) (pa_cons pe_int pa_nil))) pe_int (nomark _))
        (pss_one (ps_ret (pe_call GP.ok hr rfl GP.g GP.kp GP.b .nil pass0 (pa_cons (pv 0) (pa_cons (pe_call0 GK.ok (hr.mono (by decide)) (by rfl) GK.g GK.kp GK.b .nil pass0) pa_nil))))) pss_nil)
      (pss_cons (ps_set (i := 1) scDr.nd rfl (Or.inl rfl) (pe_call GP.ok hr rfl GP.g GP.kp GP.b .nil pass0 (pa_cons (pv 0) (pa_cons (te := tDatL K (fun _ => True) (names3.map nmD)) (pd_lstL (by repeat (first | exact pd_int | exact pd_str | exact pd_nil | refine pd_cons ?_ ?_ | refine pd_lst ?_ (by decide) | refine pd_tup ?_ (by decide))) (by decide)) pa_nil))))
      (pss_cons (ps_par3 (i := 2) (j := 3) (l := 4) rfl scDr.nd rfl rfl rfl (by decide) (by decide) (by decide) rfl rfl rfl (pa_cons (pe_op op_add pe_int (pe_call GT.ok (hr.mono (by decide)) rfl GT.g GT.kp GT.b .nil pass0 (pa_cons (pv 0) (pa_cons pe_int pa_nil)))) (pa_cons (pe_lst pa_nil) (pa_cons pe_int pa_nil))) (by rfl))
      (pss_cons (ps_for PassesOwn.never rfl (pi_range1 (by rfl) hrg (pa_cons (pv 2) pa_nil)) (pg_name (i := 5) scDr.nd rfl (Or.inl rfl))
        (pss_cons (ps_set (i := 6) scDr.nd rfl (Or.inl rfl) (pe_call GT.ok (hr.mono (by decide)) rfl GT.g GT.kp GT.b .nil pass0 (pa_cons (pv 0) (pa_cons (pe_ifExp (pt_cmpR op_lt (pv 4) pe_int (nomark _)) pe_int pe_int) pa_nil))))
        (pss_cons (ps_set (i := 4) scDr.nd rfl (Or.inl rfl) (pe_op op_add (pv 4) (pe_callTy call_int1 (by rfl) hi (by decide +kernel) (pa_cons (pe_cmp (pc_ge (pv 6) pe_int) rfl) pa_nil))))
        (pss_one (ps_expr (pe_bm PySem.F.plainAttrs_list PySem.F.slot_list_append PySem.F.type_list_append mt_append (pv 3) (pa_cons (pe_tup (pa_cons (pe_ix ix_list (pv 1) (pv 5) fun _ _ => rfl) (pa_cons (pv 6) pa_nil))) pa_nil)))))))
      (pss_one (ps_ret (pv 3)))))), ?_⟩
    have big : (1000000 : Nat) ≤ sizeLine := by decide
    refine ⟨_, rfl, p, x, y, 3, rfl, hp, by decide, by decide, fun r1 x1 y1 hr0 hr1 => ?_⟩
    refine ⟨_, _, rfl, rfl, _, rfl, ?_⟩
    have s01 : SameX p H (L2.upd H p (feedO x1 y1)) := (SameX.refl p H).upd
    refine ite2 (fun _ => ?_) (fun _ => ?_)
    · refine ⟨_, rfl, rfl, fun pk us H1 s1 hn e1 e2 => ?_⟩
      have hpk : pk ≠ p := fun z => by rw [z, upd_same] at hn; cases hn
      have hus : us.length = 13 := dpAll_len e2
      refine ⟨p, x1, y1, s1 _ _ upd_same, .inl ⟨pk, us, rfl, SqL.of (by rw [del_ne hpk]; exact e1), by omega, by omega, fun v x2 y2 hv => ?_⟩⟩
      obtain ⟨d, hd, hvd⟩ := dpAll_mem e2 hv
      obtain ⟨ps, hps, rfl⟩ := List.mem_map.mp hd
      refine q v ps x2 y2 _ (s01.trans (Same.x s1)).upd upd_same ?_ (known_good ps hps)
      rw [del_upd]
      exact dp_same (nw_del upd_same) _ _ hvd
    · refine ⟨_, rfl, trivial, fun pk us H1 s1 hn e1 e2 => ?_⟩
      have hpk : pk ≠ p := fun z => by rw [z, upd_same] at hn; cases hn
      have hus : us.length = 3 := dpAll_len e2
      refine ⟨p, x1, y1, s1 _ _ upd_same, .inl ⟨pk, us, rfl, SqL.of (by rw [del_ne hpk]; exact e1), by omega, by omega, fun v x2 y2 hv => ?_⟩⟩
      obtain ⟨d, hd, hvd⟩ := dpAll_mem e2 hv
      obtain ⟨N, hN, rfl⟩ := List.mem_map.mp hd
      obtain ⟨n4, nnd, nw1, nq, nal⟩ := names3_ok N hN
      have hvd := dp_same (nw_del (H' := H1) upd_same) _ _ hvd
      have s02 : SameX p H (L2.upd H1 p (feedO x2 y2)) := (s01.trans (Same.x s1)).upd
      cases hvd with
      | lst g1 g2 =>
        rename_i ln vs
        obtain rfl := nm_vs g2
        refine ⟨_, rfl, p, x2, y2, 4, rfl, upd_same, by decide, by decide, fun r x3 y3 h0 h1 => ?_⟩
        rw [upd2]
        refine ⟨_, _, rfl, rfl, Nat.zero_le _, fun l hl => ⟨_, _, _, rfl, ?_⟩⟩
        have hlp : l ≠ p := fun z => by rw [z, upd_same] at hl; cases hl
        have hl1 : H1 l = none := by rw [upd_ne hlp] at hl; exact hl
        have hlB : L2.del H1 p l = none := by rw [del_ne hlp]; exact hl1
        refine ⟨_, rfl, 1 + r, rfl, by omega, by omega, ?_⟩
        have sB : Same (L2.del H1 p) (L2.upd (L2.upd H1 p (feedO x3 y3)) l (.lst [])) := fun b o e => by
          have hb : b ≠ p := fun z => by rw [z, del_same] at e; cases e
          rw [upd_ne (ne_of_none e hlB), upd_ne hb]
          rw [del_ne hb] at e
          exact e
        refine for_it (walk_range (lo := 0) (n := (1 + r).toNat)) (fun i σ H' => ∃ ps ts xx yy w5 c5 c6, σ = [some (.ref p), some (.ref ln), some (.int (1 + r)), some (.ref l), some (.int w5), c5, c6] ∧ Same (L2.del H1 p) H' ∧ H' p = some (feedO xx yy) ∧ H' l = some (.lst ts) ∧
            DpAll K (L2.del H' p) ts (prD ps) ∧ ps.map (·.1) = N.take i ∧ ∀ q ∈ ps, 0 ≤ q.2 ∧ q.2 ≤ 3)
          ⟨[], [], x3, y3, 0, none, none, rfl, sB, by rw [upd_ne hlp.symm, upd_same], upd_same, .nil, by simp, by simp⟩ (fun _ _ _ _ _ => trivial) (fun i z σ H2 H' hi hp' hy => ?_) (fun σ H' hp' => ?_)
        · obtain ⟨ps, ts, xx, yy, w5, c5, c6, rfl, sH, k1, k2, k3, k4, k5⟩ := hp'
          obtain ⟨rfl, rfl⟩ := hy
          have hi4 : i < N.length := by omega
          refine ⟨_, rfl, _, rfl, _, _, rfl, rfl, _, rfl, ?_⟩
          refine ite2 (fun _ => ?_) (fun _ => ?_)
          all_goals
            refine ⟨p, xx, yy, _, rfl, k1, by decide, by decide, fun a x4 y4 ha0 ha1 => ?_⟩
            have ha3 : a ≤ 3 := by omega
            refine ⟨_, rfl, _, rfl, _, _, rfl, rfl, .inr ⟨_, rfl, _, _, rfl, rfl, ?_⟩⟩
            have m2 : (L2.upd H' p (feedO x4 y4)) l = some (.lst ts) := by rw [upd_ne hlp]; exact k2
            have sH2 : Same (L2.del H1 p) (L2.upd H' p (feedO x4 y4)) := fun b o e => by
              have hb : b ≠ p := fun z => by rw [z, del_same] at e; cases e
              rw [upd_ne hb]
              exact sH b o e
            refine ⟨_, rfl, .inl ⟨rfl, _, SqL.of m2⟩, ?_⟩
            refine ⟨_, rfl, _, rfl, ln, _, _, .str (N[i]), rfl, rfl, Same.seq sH2 g1, ?_, _, rfl, (by show 2 ≤ sizeLine; decide), fun t ht => ?_⟩
            · rw [Int.zero_add]
              exact atI_nat (by rw [List.getElem?_map, List.getElem?_eq_getElem hi4]; rfl)
            · have htl : l ≠ t := ne_of_none m2 ht
              have htp : p ≠ t := ne_of_none (upd_same : (L2.upd H' p (feedO x4 y4)) p = _) ht
              have ets : ts.length ≤ 4 := by
                have e1 := dpAll_len k3
                have e2 := congrArg List.length k4
                rw [List.length_map, List.length_take] at e2
                have e3 : (prD ps).length = ps.length := List.length_map ..
                omega
              refine ⟨l, ts, _, rfl, rfl, by rw [upd_ne htl]; exact m2, by omega, ?_⟩
              refine ⟨ps ++ [(N[i], a)], ts ++ [.ref t], x4, y4, _, _, _, rfl, ?_, ?_, upd_same, ?_, ?_, ?_⟩
              · intro b o e
                rw [upd_ne (ne_of_none e hlB), upd_ne (ne_of_none (sH2 b o e) ht)]
                exact sH2 b o e
              · rw [upd_ne hlp.symm, upd_ne htp, upd_same]
              · have sD : Same (L2.del H' p) (L2.del (L2.upd (L2.upd H' p (feedO x4 y4)) t (.tup [.str (N[i]), .int a])) p) := by
                  refine SameX.del fun b o e hb => ?_
                  have e' : (L2.upd H' p (feedO x4 y4)) b = some o := by rw [upd_ne hb]; exact e
                  rw [upd_ne (ne_of_none e' ht)]
                  exact e'
                have k3' := dpAll_same sD _ _ k3
                have et : (L2.del (L2.upd (L2.upd H' p (feedO x4 y4)) t (.tup [.str (N[i]), .int a])) p) t = some (.tup [.str (N[i]), .int a]) := by rw [del_ne htp.symm, upd_same]
                have el : (L2.del (L2.upd (L2.upd H' p (feedO x4 y4)) t (.tup [.str (N[i]), .int a])) p) l = some (.lst ts) := by rw [del_ne hlp, upd_ne htl]; exact m2
                have k6 : DpAll K (L2.del (L2.upd (L2.upd H' p (feedO x4 y4)) t (.tup [.str (N[i]), .int a])) p) (ts ++ [.ref t]) (prD (ps ++ [(N[i], a)])) := by
                  unfold prD
                  rw [List.map_append]
                  exact dpAll_app k3' (.cons (.tup (SqT.of et) (.cons (.str _) (.cons (.int _) .nil))) .nil)
                have k7 := pr_updL (o := .lst (ts ++ [.ref t])) el k6
                have e9 : L2.del (L2.upd (L2.upd (L2.upd H' p (feedO x4 y4)) t (.tup [.str (N[i]), .int a])) l (.lst (ts ++ [.ref t]))) p = L2.upd (L2.del (L2.upd (L2.upd H' p (feedO x4 y4)) t (.tup [.str (N[i]), .int a])) p) l (.lst (ts ++ [.ref t])) := by
                  funext b
                  by_cases hb : b = p
                  · subst hb; rw [del_same, upd_ne hlp.symm, del_same]
                  · rw [del_ne hb]
                    by_cases hbl : b = l
                    · subst hbl; rw [upd_same, upd_same]
                    · rw [upd_ne hbl, upd_ne hbl, del_ne hb]
                rw [e9]
                exact k7
              · rw [List.map_append, k4, List.take_succ, List.getElem?_eq_getElem hi4]
                rfl
              · intro q hq
                rcases List.mem_append.mp hq with hq | hq
                · exact k5 q hq
                · rw [List.mem_singleton.mp hq]
                  exact ⟨ha0, ha3⟩
        · obtain ⟨ps, ts, xx, yy, w5, c5, c6, rfl, sH, k1, k2, k3, k4, k5⟩ := hp'
          have hps : ps.length = (1 + r).toNat := by
            have e2 := congrArg List.length k4
            rw [List.length_map, List.length_take] at e2
            omega
          refine ⟨_, rfl, ?_⟩
          refine q (.ref l) ps xx yy H' (fun b o e hb => ?_) k1 (.lst (SqL.of (by rw [del_ne hlp]; exact k2)) k3) ⟨by omega, by omega, ?_, ?_, ?_, ?_⟩
          · refine sH b o ?_
            rw [del_ne hb]
            exact s1 _ _ (by rw [upd_ne hb]; exact e)
          · rw [k4]
            exact List.Nodup.sublist (List.take_sublist _ _) nnd
          · intro q hq
            refine ⟨nw1 _ ?_, k5 q hq⟩
            have : q.1 ∈ ps.map (·.1) := List.mem_map.mpr ⟨q, hq, rfl⟩
            rw [k4] at this
            exact List.mem_of_mem_take this
          · rw [k4]
            exact fun m => nq (List.mem_of_mem_take m)
          · intro q hq
            have : q.1 ∈ ps.map (·.1) := List.mem_map.mpr ⟨q, hq, rfl⟩
            rw [k4] at this
            exact nal _ (List.mem_of_mem_take this)
end
end Sg

set_option maxRecDepth 100000
set_option maxHeartbeats 4000000
namespace Sg
open PySem PySem.Spec PyProof.Rows L2 Dr Gd Er Cm XT
theorem pr_at {K : PySem.W.Frag} {H : Hp} {xs : List V} {ps : List (Str × Int)} {i : Nat} {y : V} (h : DpAll K H xs (prD ps)) (g : xs[i]? = some y) : ∃ z n t, ps[i]? = some (z, n) ∧ y = .ref t ∧ SqT K H t [.str z, .int n] := by
  obtain ⟨d, h1, h2⟩ := dpAll_get' h g
  unfold prD at h1
  rw [List.getElem?_map] at h1
  cases e : ps[i]? with
  | none => rw [e] at h1; cases h1
  | some p =>
    rw [e] at h1
    obtain rfl := Option.some.inj h1
    cases h2 with
    | tup g1 g2 =>
      cases g2 with
      | cons a g2 =>
        cases g2 with
        | cons b g2 =>
          cases g2
          cases a
          cases b
          exact ⟨p.1, p.2, _, rfl, rfl, g1⟩
end Sg

set_option maxRecDepth 100000
set_option maxHeartbeats 4000000
namespace Sg
open PySem PySem.Spec PyProof.Rows L2 Dr Gd Er Cm XT
abbrev sTerm : Stmt := top 18
/-- data that may be compared and shown -/
structure Fit (W D : Nat) (d : PyData) : Prop where
  lay : d.canLay0 = true
  dep : d.depth ≤ D
  isn : d.intsShort 40 = true
  wt : d.weight ≤ W
  sh : d.showable = true
  nd : d.hasDict = false
  ok : okT d = true
instance (W D : Nat) (d : PyData) : Decidable (Fit W D d) := decidable_of_iff (d.canLay0 = true ∧ d.depth ≤ D ∧ d.intsShort 40 = true ∧ d.weight ≤ W ∧ d.showable = true ∧ d.hasDict = false ∧ okT d = true) ⟨fun h => ⟨h.1, h.2.1, h.2.2.1, h.2.2.2.1, h.2.2.2.2.1, h.2.2.2.2.2.1, h.2.2.2.2.2.2⟩, fun h => ⟨h.lay, h.dep, h.isn, h.wt, h.sh, h.nd, h.ok⟩⟩
theorem Fit.mono {W D W' D' : Nat} {d : PyData} (h : Fit W D d) (hw : W ≤ W') (hd : D ≤ D') : Fit W' D' d := ⟨h.lay, Nat.le_trans h.dep hd, h.isn, Nat.le_trans h.wt hw, h.sh, h.nd, h.ok⟩
mutual
theorem tsz_wt : ∀ d : PyData, tsz d ≤ d.weight + 1
  | .none => by simp [tsz]
  | .bool _ => by simp [tsz]
  | .int _ => by simp [tsz]
  | .str _ => by simp [tsz]
  | .dict _ => by simp [tsz]
  | .list ds => by
    have := tszs_wt ds
    rw [tsz]
    simp only [PyData.weight]
    omega
  | .tuple ds => by
    have := tszs_wt ds
    rw [tsz]
    simp only [PyData.weight]
    omega
theorem tszs_wt : ∀ ds : List PyData, tszs ds ≤ PyData.weightAll ds
  | [] => by simp [tszs]
  | d :: ds => by
    have := tsz_wt d
    have := tszs_wt ds
    rw [tszs]
    simp only [PyData.weightAll]
    omega
end
theorem fit_all {W D : Nat} : ∀ {ds : List PyData}, (∀ d ∈ ds, Fit W D d) → PyData.canLayAll0 ds = true ∧ PyData.depthAll ds ≤ D ∧ PyData.intsShortAll 40 ds = true ∧ PyData.weightAll ds ≤ ds.length * (W + 1) ∧ PyData.showableAll ds = true ∧ PyData.hasDictAll ds = false ∧ okTs ds = true
  | [], _ => ⟨rfl, by simp [PyData.depthAll], by simp [PyData.intsShortAll], by simp [PyData.weightAll], by simp [PyData.showableAll], by simp [PyData.hasDictAll], by simp [okTs]⟩
  | d :: ds, h => by
    have hd := h d List.mem_cons_self
    obtain ⟨a, b, c, e, f, g, k⟩ := fit_all fun x hx => h x (List.mem_cons_of_mem _ hx)
    refine ⟨by rw [PyData.canLayAll0, hd.lay, a]; rfl, ?_, by simp [PyData.intsShortAll, hd.isn, c], ?_, by simp [PyData.showableAll, hd.sh, f], by simp [PyData.hasDictAll, hd.nd, g], by simp [okTs, hd.ok, k]⟩
    · rw [PyData.depthAll]
      exact Nat.max_le.mpr ⟨hd.dep, b⟩
    · rw [PyData.weightAll, List.length_cons, Nat.succ_mul]
      have := hd.wt
      omega
theorem fit_tup {W D : Nat} {ds : List PyData} (h : ∀ d ∈ ds, Fit W D d) : Fit (ds.length * (W + 1)) (D + 1) (.tuple ds) := by
  obtain ⟨a, b, c, e, f, g, k⟩ := fit_all h
  refine ⟨a, ?_, by simpa only [PyData.intsShort] using c, by simpa only [PyData.weight] using e, by simpa only [PyData.showable] using f, by simpa only [PyData.hasDict] using g, by rw [okT]; exact k⟩
  simp only [PyData.depth]
  omega
theorem fit_lst {W D : Nat} {ds : List PyData} (h : ∀ d ∈ ds, Fit W D d) : Fit (ds.length * (W + 1)) (D + 1) (.list ds) := by
  obtain ⟨a, b, c, e, f, g, k⟩ := fit_all h
  refine ⟨a, ?_, by simpa only [PyData.intsShort] using c, by simpa only [PyData.weight] using e, by simpa only [PyData.showable] using f, by simpa only [PyData.hasDict] using g, by rw [okT]; exact k⟩
  simp only [PyData.depth]
  omega
theorem fit_shown {W D : Nat} {d : PyData} (h : Fit W D d) (hw : W ≤ 100000) : d.shown.length ≤ sizeLine := by
  have := PyData.shown_le 40 (by decide) d (PyData.leavesShort_of_canLay0 40 d h.lay h.isn)
  have h1 := h.wt
  rw [sizeLine_eq]
  have : (40 + 2) * d.weight ≤ 42 * 100000 := Nat.mul_le_mul (Nat.le_refl _) (by omega)
  omega
theorem fit_word {z : Str} {L : Str} (h : wordIn L z = true) (hL : ∀ c ∈ L.cps.toList, c < 0x110000) : Fit 8 0 (.str z) := by
  unfold wordIn at h
  rw [Bool.and_eq_true, Bool.and_eq_true] at h
  have l8 : z.length ≤ 8 := of_decide_eq_true h.2.1
  refine ⟨?_, by simp [PyData.depth], by simp [PyData.intsShort], ?_, by simp [PyData.showable], by simp [PyData.hasDict], ?_⟩
  · show PyData.strOk z = true
    unfold PyData.strOk
    rw [Array.all_eq_true']
    intro c hc
    have h2 := h.2.2
    rw [List.all_eq_true] at h2
    exact decide_eq_true (hL c (of_decide_eq_true (h2 c (by simpa using hc))))
  · simp only [PyData.weight]
    exact l8
  · simp [okT]
    omega
theorem uc_lt : ∀ c ∈ Uc.cps.toList, c < 0x110000 := by decide +kernel
theorem lc_lt : ∀ c ∈ Lc.cps.toList, c < 0x110000 := by decide +kernel
/-- how heavy a drawn term of a depth may be -/
def wB : Nat → Nat
  | 0 => 8
  | n + 1 => 4 * (wB n + 1)
theorem wB_mono (n : Nat) : wB n ≤ wB (n + 1) := by
  rw [wB]
  omega
theorem wB_8 : ∀ n, 8 ≤ wB n
  | 0 => Nat.le_refl _
  | n + 1 => Nat.le_trans (wB_8 n) (wB_mono n)
def txD (zs : List Str) : PyData := .list (zs.map .str)
def spTerm (K : PySem.W.Frag) (n : Nat) : Sp := fun vs H Q _ => ∃ p vp la ps zs x y, ∃ deep : Nat, vs = [.ref p, vp, .int (deep : Int), .ref la] ∧ H p = some (feedO x y) ∧ Dp K (L2.del H p) vp (psD ps) ∧ Good ps ∧ SqL K (L2.del H p) la (zs.map V.str) ∧ zs ≠ [] ∧ zs.length < 1000 ∧ (∀ z ∈ zs, wordIn Uc z = true) ∧ deep < n ∧
  ∀ v d x' y' H', SameX p H H' → H' p = some (feedO x' y') → Dp K (L2.del H' p) v d → isTerm ps d = true → Fit (wB deep) deep d → Q v H'
end Sg

set_option maxRecDepth 100000
set_option maxHeartbeats 4000000
namespace Sg
open PySem PySem.Spec PyProof.Rows L2 Dr Gd Er Cm XT
theorem tx_dpAll {K : PySem.W.Frag} {H : Hp} : ∀ zs : List Str, DpAll K H (zs.map V.str) (zs.map .str)
  | [] => .nil
  | z :: zs => .cons (.str z) (tx_dpAll zs)
theorem tx_vs {K : PySem.W.Frag} {H : Hp} {v : V} {zs : List Str} (h : Dp K H v (txD zs)) : ∃ a, v = .ref a ∧ SqL K H a (zs.map V.str) := by
  cases h with
  | lst g1 g2 =>
    rename_i a xs
    exact ⟨a, rfl, by rw [← nm_vs g2]; exact g1⟩
theorem wordU_ok {z : Str} (h : wordIn Uc z = true) : PyData.strOk z = true := (fit_word h uc_lt).lay
theorem wordL_ok {z : Str} (h : wordIn Lc z = true) : PyData.strOk z = true := (fit_word h lc_lt).lay
theorem lcT {H : Hp} {A B : Hp → Prop} (h : A H) : (fun b H3 => if b = true then A H3 else B H3) true H := by
  show (if true = true then A H else B H)
  rw [if_pos rfl]
  exact h
mutual
theorem term_updL {K : PySem.W.Frag} {H : Hp} {l : Addr} {us : List V} {o : HO} (ps : List (Str × Int)) (hl : H l = some (.lst us)) : ∀ (d : PyData) (v : V), isTerm ps d = true → Dp K H v d → Dp K (L2.upd H l o) v d
  | .str z, v, _, h => by cases h; exact .str z
  | .tuple [], v, ht, _ => by rw [isTerm] at ht; cases ht
  | .tuple (e :: r), v, ht, h => by
    rw [isTerm, Bool.and_eq_true] at ht
    cases h with
    | tup g1 g2 =>
      cases g2 with
      | cons he hr =>
        refine .tup (seqT_updL hl g1) (.cons ?_ (terms_updL ps hl r _ ht.2 hr))
        have h1 := ht.1
        cases he with
        | str z => exact .str z
        | non => cases h1
        | bl _ => cases h1
        | int _ => cases h1
        | lst _ _ => cases h1
        | tup _ _ => cases h1
  | .none, v, ht, _ => by rw [isTerm] at ht; cases ht
  | .bool _, v, ht, _ => by rw [isTerm] at ht; cases ht
  | .int _, v, ht, _ => by rw [isTerm] at ht; cases ht
  | .list _, v, ht, _ => by rw [isTerm] at ht; cases ht
  | .dict _, v, ht, _ => by rw [isTerm] at ht; cases ht
theorem terms_updL {K : PySem.W.Frag} {H : Hp} {l : Addr} {us : List V} {o : HO} (ps : List (Str × Int)) (hl : H l = some (.lst us)) : ∀ (ds : List PyData) (vs : List V), allTerm ps ds = true → DpAll K H vs ds → DpAll K (L2.upd H l o) vs ds
  | [], _, _, h => by cases h; exact .nil
  | d :: ds, _, ht, h => by
    rw [allTerm, Bool.and_eq_true] at ht
    cases h with
    | cons a b => exact .cons (term_updL ps hl d _ ht.1 a) (terms_updL ps hl ds _ ht.2 b)
end
section
variable {P : Program} {w : World} {K : PySem.W.Frag} {mg : Str → Option Value} {base : Heap} {fT fP : Addr} {dT dP : FuncData}
theorem scTm : FnScope ["feed", "pairs", "deep", "letters", "some", "name", "arity", "under", "pair", "at"] ["feed", "pairs", "deep", "letters"] (defScope sTerm) := ⟨rfl, rfl, rfl, by decide +kernel, rfl, by decide +kernel, by decide +kernel⟩
theorem ok_term {f : Addr} {fd : FuncData} (F : Fun K "_law_term" "_law_term" sTerm f fd) (g : mg "_law_term" = some (.ref f)) (GT : Cal P w K mg base CX0 1 "_law_take" fT dT ["feed", "many"] spTake) (GP : Cal P w K mg base CX0 2 "_law_pick" fP dP ["feed", "some"] (spPick K))
    (hmx : mg "max" = none) (htu : mg "tuple" = none) (hrg : mg "range" = none) : ∀ n : Nat, FnOk P w K mg base CX0 (n + 2) f fd ["feed", "pairs", "deep", "letters"] (spTerm K n)
  | 0 => ⟨fun vs H Q E h => (by obtain ⟨_, _, _, _, _, _, _, _, _, _, _, _, _, _, _, _, h, _⟩ := h; omega), fun _ _ _ _ _ _ _ _ _ _ _ _ _ h => (by obtain ⟨_, _, _, _, _, _, _, _, _, _, _, _, _, _, _, _, h, _⟩ := h; omega)⟩
  | n + 1 => by
    have IH := ok_term F g GT GP hmx htu hrg n
    have b : Binds K fd ["feed", "pairs", "deep", "letters"] [] := F.binds fun _ _ _ _ _ _ us hl => match us, hl with | [_, _, _, _], _ => rfl
    refine F.ok scTm (fun vs H Q E h => ?_) (fun cdv A outer s H vs Q E hr h => ?_)
    · obtain ⟨p, vp, la, ps, zs, x, y, deep, rfl, _⟩ := h
      rfl
    · obtain ⟨p, vp, la, ps, zs, x, y, deep, rfl, hp, hps, hg, hzs, zne, zln, zw, hdn, q⟩ := h
      have r1 : Room 1 (A.deeper (envOfC "_law_term" (defScope sTerm) s.heap.objs.size f cdv)) := hr.mono (by omega)
      have r2 : Room 2 (A.deeper (envOfC "_law_term" (defScope sTerm) s.heap.objs.size f cdv)) := hr.mono (by omega)
      refine ⟨_, pss_cons (ps_if (PW.pt (pw_and (pt_cmpR (op_neD hr.units) (pv 3) (pe_lst pa_nil) (nomark _)) (pw_and1 (PW.pt (pw_or (pt_cmpR op_eq (pv 2) pe_int (nomark _)) (pw_or1 (pt_cmpR op_eq (pe_call GT.ok r1 rfl GT.g GT.kp GT.b .nil pass0 (pa_cons (pv 0) (pa_cons pe_int pa_nil))) pe_int (nomark _))))))))
          (pss_one (ps_ret (pe_call GP.ok r2 rfl GP.g GP.kp GP.b .nil pass0 (pa_cons (pv 0) (pa_cons (pv 3) pa_nil))))) pss_nil)
        (pss_cons (ps_setLc (i := 4) (own := [("pair", 8)]) (g := gName 8) (tt := tOr (tTest (tOp rEq (tOp (rIxT K) (tVar 8) (tC (.int 1))) (tC (.int 0)))) (tTest (tOp (rI0 fun i j => .bl (decide (j < i))) (tVar 2) (tC (.int 0))))) (te := tVar 8) (by rfl) scTm.nd rfl rfl (sw_true rfl rfl rfl (by decide +kernel)) (pi_list (pv 1))
            (blkOk_by (N := ["feed", "pairs", "deep", "letters", "some", "name", "arity", "under", "pair", "at"]) (sc := defScope sTerm) (by decide +kernel)) (fun _ _ _ _ _ => pg_name (i := 8) scTm.nd rfl (Or.inl rfl))
            (fun _ _ _ _ _ => pts_one (PW.pt (pw_or (pt_cmpR op_eq (pe_ix ix_tup (pv 8) pe_int fun _ _ => rfl) pe_int (nomark _)) (pw_or1 (pt_cmpR op_gt (pv 2) pe_int (nomark _)))))) (fun _ _ _ _ _ => pv 8))
        (pss_cons (ps_if (pt_cmpR (op_eqD hr.units) (pv 4) (pe_lst pa_nil) (nomark _)) (pss_one (ps_ret pe_str)) pss_nil)
        (pss_cons (ps_asg (pe_call GP.ok r2 rfl GP.g GP.kp GP.b .nil pass0 (pa_cons (pv 0) (pa_cons (pv 4) pa_nil))) (pg_tup rfl (pgs_cons (pg_name (i := 5) scTm.nd rfl (Or.inl rfl)) (pgs_cons (pg_name (i := 6) scTm.nd rfl (Or.inl rfl)) pgs_nil))))
        (pss_cons (ps_set (i := 7) scTm.nd rfl (Or.inr rfl) (pe_ifExp (pt_cmpR op_eq (pv 6) pe_int (nomark _)) (pe_callB (call_max2 rfl) (by rfl) hmx boot_max (pa_cons pe_int (pa_cons (pe_op op_sub (pv 2) pe_int) pa_nil))) (pe_op op_sub (pv 2) pe_int)))
        (pss_one (ps_ret (pe_op op_catA (pe_tup (pa_cons (pv 5) pa_nil)) (pe_callTy call_tuple_of (by rfl) htu (by decide +kernel) (pa_cons (pe_lc (own := [("at", 9)]) (g := gName 9) (tt := tYes) (te := tCall (spTerm K n) [] E0 (tCons (tVar 0) (tCons (tVar 1) (tCons (tVar 7) (tCons (tVar 3) tNil))))) rfl scTm.nd (pi_range1 (by rfl) hrg (pa_cons (pv 6) pa_nil))
            (blkOk_by (N := ["feed", "pairs", "deep", "letters", "some", "name", "arity", "under", "pair", "at"]) (sc := defScope sTerm) (by decide +kernel)) (fun _ _ _ _ _ => pg_name (i := 9) scTm.nd rfl (Or.inl rfl)) (fun _ _ _ _ _ => pts_nil)
            (fun _ _ _ _ _ => pe_call IH hr rfl g F.kp b .nil pass0 (pa_cons (pv 0) (pa_cons (pv 1) (pa_cons (pv 7) (pa_cons (pv 3) pa_nil)))))) pa_nil))))))))), ?_⟩
      have zok : ∀ e ∈ zs.map PyData.str, e.canLay0 = true ∧ e.depth ≤ 62 := fun e he => by
        obtain ⟨z, hz, rfl⟩ := List.mem_map.mp he
        exact ⟨wordU_ok (zw z hz), by simp [PyData.depth]⟩
      have sdp : ∀ {H : Hp}, Same (L2.del H p) H := fun b o e => by
        by_cases hb : b = p
        · subst hb; rw [del_same] at e; cases e
        · rw [del_ne hb] at e; exact e
      have hla : SqL K H la (zs.map V.str) := Same.seq sdp hzs
      refine ⟨_, rfl, Nat.zero_le _, fun l0 hl0 => ?_⟩
      have s0 := same_upd (o := .lst []) hl0
      refine ⟨txD zs, .list [], .lst (Same.seq s0 hla) (tx_dpAll zs), .lst (SqL.of upd_same) .nil, shaped_list zok, shaped_nil, _, rfl, ?_⟩
      have e0 : PyData.eqv (txD zs) (.list []) = false := by
        show PyData.eqvAll _ [] = _
        rw [eqv_nil]
        cases zs with
        | nil => exact absurd rfl zne
        | cons _ _ => rfl
      rw [e0]
      refine iteT ?_
      generalize (L2.upd H l0 (.lst [])) = H1 at s0 ⊢
      refine ⟨_, rfl, rfl, _, rfl, ?_⟩
      refine ite2 (fun c0 => ?_) (fun c0 => ?_)
      · refine iteT ?_
        refine ⟨_, rfl, _, rfl, p, _, _, (s0 _ _ hp), .inl ⟨la, zs.map V.str, rfl, Same.seq (SameX.del (Same.x s0)) hzs, by rw [List.length_map]; exact List.length_pos_iff.mpr zne, by rw [List.length_map]; omega, fun v x' y' hv => ?_⟩⟩
        obtain ⟨z, hz, rfl⟩ := List.mem_map.mp hv
        refine q _ (.str z) x' y' _ (SameX.upd (Same.x s0)) upd_same (.str z) (by rw [isTerm]; exact zw z hz) ((fit_word (zw z hz) uc_lt).mono (wB_8 _) (Nat.zero_le _))
      · have c0 : deep ≠ 0 := fun z => c0 (decide_eq_true (by rw [z]; rfl))
        refine ⟨_, rfl, p, x, y, 3, rfl, s0 _ _ hp, by decide, by decide, fun r x1 y1 hr0 hr1 => ?_⟩
        have sx : SameX p H (L2.upd H1 p (feedO x1 y1)) := (Same.x s0).upd
        have f2 : (L2.upd H1 p (feedO x1 y1)) p = some (feedO x1 y1) := upd_same
        have hla2 : SqL K (L2.del (L2.upd H1 p (feedO x1 y1)) p) la (zs.map V.str) := Same.seq (SameX.del sx) hzs
        generalize (L2.upd H1 p (feedO x1 y1)) = H2 at sx f2 hla2 ⊢
        refine ⟨rfl, _, rfl, ?_⟩
        refine ite2 (fun c1 => ?_) (fun c1 => ?_)
        · refine ⟨_, rfl, _, rfl, p, _, _, f2, .inl ⟨la, zs.map V.str, rfl, hla2, by rw [List.length_map]; exact List.length_pos_iff.mpr zne, by rw [List.length_map]; omega, fun v x' y' hv => ?_⟩⟩
          obtain ⟨z, hz, rfl⟩ := List.mem_map.mp hv
          refine q _ (.str z) x' y' _ (SameX.upd sx) upd_same (.str z) (by rw [isTerm]; exact zw z hz) ((fit_word (zw z hz) uc_lt).mono (wB_8 _) (Nat.zero_le _))
        · have hps2 := dp_same (SameX.del sx) _ _ hps
          cases hps2 with
          | lst p1 p2 =>
            rename_i a2 xs
            have p2 : DpAll K (L2.del H2 p) xs (prD ps) := p2
            have xl : xs.length = ps.length := (dpAll_len p2).trans (List.length_map ..)
            have pl4 : ps.length ≤ 4 := hg.2.1
            have big : (1000 : Nat) ≤ sizeLine := by decide
            refine ⟨_, rfl, a2, rfl, ⟨_, Same.seq sdp p1⟩, fun D hD => ?_⟩
            refine lc_it (walk_list (xs := xs)) (fun i H' => Same H2 H' ∧ H' D = some (.lst (xs.take i))) ⟨same_upd hD, upd_same⟩ (fun i H' hi hp' => Same.seq hp'.1 (Same.seq sdp p1)) (fun i yv H3 H' hi hp' hy => ?_) (fun H3 hp' => ?_)
            · obtain ⟨sm, hDl⟩ := hp'
              obtain ⟨rfl, ey⟩ := hy
              obtain ⟨z, m, t, ep, rfl, ht⟩ := pr_at p2 ey
              have ht := seqT_same (Same.trans sdp sm) ht
              have fin : ∃ acc, H' D = some (.lst acc) ∧ acc.length < sizeLine ∧ (Same H2 (L2.upd H' D (.lst (acc ++ [.ref t]))) ∧ (L2.upd H' D (.lst (acc ++ [.ref t]))) D = some (.lst (xs.take (i + 1)))) := by
                refine ⟨_, hDl, by rw [List.length_take]; omega, fun b o e => ?_, ?_⟩
                · rw [upd_ne (ne_of_none e hD)]
                  exact sm b o e
                · rw [upd_same, List.take_succ, ey]
                  rfl
              refine ⟨rfl, _, rfl, t, _, 1, .int m, rfl, rfl, ht, rfl, rfl, _, rfl, ?_⟩
              refine ite2 (fun h => ?_) (fun h => ?_)
              · show (if true = true then _ else _)
                rw [if_pos rfl]
                exact ⟨_, rfl, fin⟩
              · refine ⟨_, rfl, _, _, rfl, rfl, _, rfl, ?_⟩
                rw [decide_eq_true (show (0 : Int) < (deep : Int) by omega)]
                show (if true = true then _ else _)
                rw [if_pos rfl]
                exact ⟨_, rfl, fin⟩
            · obtain ⟨sm3, hD3⟩ := hp'
              rw [List.take_length] at hD3
              have hDp : D ≠ p := fun z => by rw [z, f2] at hD; cases hD
              have sx3 : SameX p H H3 := sx.trans (Same.x sm3)
              have f3 := sm3 _ _ f2
              have hla3 := Same.seq (SameX.del (p := p) (Same.x sm3)) hla2
              have d3 : DpAll K (L2.del H3 p) xs (prD ps) := dpAll_same (SameX.del (Same.x sm3)) _ _ p2
              have q3 : Dp K (L2.del H3 p) (.ref a2) (psD ps) := .lst (Same.seq (SameX.del (Same.x sm3)) p1) d3
              refine ⟨_, rfl, Nat.zero_le _, fun l4 hl4 => ?_⟩
              have s4 := same_upd (o := .lst []) hl4
              refine ⟨psD ps, .list [], .lst (SqL.of (s4 _ _ hD3)) (dpAll_same (Same.trans sdp s4) _ _ d3), .lst (SqL.of upd_same) .nil, psD_shaped (fun q hq => wordL_ok (hg.2.2.2.1 q hq).1), shaped_nil, _, rfl, ?_⟩
              have e1 : PyData.eqv (psD ps) (.list []) = false := by
                show PyData.eqvAll _ [] = _
                rw [eqv_nil]
                cases ps with
                | nil => exact absurd hg.1 (by simp)
                | cons _ _ => rfl
              rw [e1]
              refine iteF ?_
              have sx4 : SameX p H (L2.upd H3 l4 (.lst [])) := sx3.trans (Same.x s4)
              have f4 := s4 _ _ f3
              have hla4 := Same.seq (SameX.del (p := p) (Same.x s4)) hla3
              have hD4 := s4 _ _ hD3
              have d4 : DpAll K (L2.del (L2.upd H3 l4 (.lst [])) p) xs (prD ps) := dpAll_same (SameX.del (Same.x s4)) _ _ d3
              have q4 := dp_same (SameX.del (Same.x s4)) _ _ q3
              generalize (L2.upd H3 l4 (.lst [])) = H4 at sx4 f4 hla4 hD4 d4 q4 ⊢
              refine ⟨_, rfl, _, rfl, p, _, _, f4, .inl ⟨D, xs, rfl, SqL.of (by rw [del_ne hDp]; exact hD4), by rw [xl]; exact hg.1, by omega, fun v x5 y5 hv => ?_⟩⟩
              have d5 : DpAll K (L2.del (L2.upd H4 p (feedO x5 y5)) p) xs (prD ps) := by rw [del_upd]; exact d4
              have sx5 : SameX p H (L2.upd H4 p (feedO x5 y5)) := sx4.upd
              have f5 : (L2.upd H4 p (feedO x5 y5)) p = some (feedO x5 y5) := upd_same
              have hla5 : SqL K (L2.del (L2.upd H4 p (feedO x5 y5)) p) la (zs.map V.str) := by rw [del_upd]; exact hla4
              have q5 : Dp K (L2.del (L2.upd H4 p (feedO x5 y5)) p) (.ref a2) (psD ps) := by rw [del_upd]; exact q4
              generalize (L2.upd H4 p (feedO x5 y5)) = H5 at d5 sx5 f5 hla5 q5 ⊢
              obtain ⟨dz, hdz, hvd⟩ := dpAll_mem d5 hv
              obtain ⟨pz, hpz, rfl⟩ := List.mem_map.mp hdz
              obtain ⟨hwz, hm0, hm3⟩ := hg.2.2.2.1 pz hpz
              cases hvd with
              | tup v1 v2 =>
                rename_i tv xv
                cases v2 with
                | cons w1 v2 =>
                  cases v2 with
                  | cons w2 v2 =>
                    cases v2
                    cases w1
                    cases w2
                    refine ⟨tv, _, rfl, seqT_same sdp v1, rfl, ?_⟩
                    refine ⟨_, _, rfl, _, _, rfl, rfl, ?_⟩
                    obtain ⟨u, hu, eu⟩ : ∃ u : Nat, u + 1 ≤ deep ∧ (if (decide (V.int pz.2 = V.int 3)) = true then (if ((deep : Int) - 2) > 0 then ((deep : Int) - 2) else 0) else (deep : Int) - 1) = (u : Int) := by
                      by_cases h3 : pz.2 = 3
                      · rw [if_pos (decide_eq_true (by rw [h3]))]
                        by_cases h4 : ((deep : Int) - 2) > 0
                        · exact ⟨deep - 2, by omega, by rw [if_pos h4]; omega⟩
                        · exact ⟨0, by omega, by rw [if_neg h4]; rfl⟩
                      · rw [if_neg (by simp [h3])]
                        exact ⟨deep - 1, by omega, by omega⟩
                    have key : ∀ uu : Int, uu = (u : Int) → (tRet (tOp (rCatA K) (tTup (tCons (tVar 5) tNil)) (tCB (fun xs H Q => ∃ p ys, xs = [V.ref p] ∧ ((SqL K H p ys ∧ ∀ l, H l = none → Q (.ref l) (L2.upd H l (.tup ys))) ∨ (SqT K H p ys ∧ Q (.ref p) H))) (tCons (tLc (iRng1 (tCons (tVar 6) tNil)) (gName 9) tYes (tCall (spTerm K n) [] E0 (tCons (tVar 0) (tCons (tVar 1) (tCons (tVar 7) (tCons (tVar 3) tNil))))) [9]) tNil)))) { nx := fun x H' => Q V.non H', rt := Q }
                        [some (.ref p), some (.ref a2), some (.int (deep : Int)), some (.ref la), some (.ref D), some (.str pz.1), some (.int pz.2), some (.int uu), none, none] H5 := by
                      intro uu eq
                      subst eq
                      refine ⟨_, rfl, (by show 1 ≤ sizeLine; decide), fun t1 ht1 => ?_⟩
                      have s6 := same_upd (o := .tup [V.str pz.1]) ht1
                      have sx6 : SameX p H (L2.upd H5 t1 (.tup [V.str pz.1])) := sx5.trans (Same.x s6)
                      have f6 := s6 _ _ f5
                      have hla6 := Same.seq (SameX.del (Same.x s6) (p := p)) hla5
                      have q6 := dp_same (SameX.del (p := p) (Same.x s6)) _ _ q5
                      have e6 : (L2.upd H5 t1 (.tup [V.str pz.1])) t1 = some (.tup [V.str pz.1]) := upd_same
                      generalize (L2.upd H5 t1 (.tup [V.str pz.1])) = H6 at sx6 f6 hla6 q6 e6 ⊢
                      refine ⟨_, rfl, pz.2, rfl, by omega, by omega, fun D5 hD5 => ?_⟩
                      have hD5p : D5 ≠ p := fun z => by rw [z, f6] at hD5; cases hD5
                      refine lc_it (walk_range (lo := 0) (n := pz.2.toNat)) (fun i H' => ∃ us ds aa bb, SameX p H6 H' ∧ H' p = some (feedO aa bb) ∧ H' D5 = some (.lst us) ∧ DpAll K (L2.del H' p) us ds ∧ ds.length = i ∧ allTerm ps ds = true ∧ ∀ d ∈ ds, Fit (wB u) u d)
                        ⟨[], [], _, _, fun b o e hb => by rw [upd_ne (ne_of_none e hD5)]; exact e, by rw [upd_ne hD5p.symm]; exact f6, upd_same, .nil, rfl, by simp [allTerm], by simp⟩ (fun _ _ _ _ => trivial) (fun i y7 H7 H' hi hp' hy => ?_) (fun H7 hp' => ?_)
                      · obtain ⟨us, ds, aa, bb, sx7, f7, hL7, d7, l7, t7, w7⟩ := hp'
                        obtain ⟨rfl, rfl⟩ := hy
                        refine ⟨rfl, lcYes ?_⟩
                        refine ⟨_, rfl, _, rfl, _, rfl, _, rfl, p, .ref a2, la, ps, zs, aa, bb, u, rfl, f7, dp_same (SameX.del sx7) _ _ q6, hg, Same.seq (SameX.del sx7) hla6, zne, zln, zw, by omega, fun v8 d8 x8 y8 H8 sx8 f8 hv8 ht8 fit8 => ?_⟩
                        have hL8 := sx8 _ _ hL7 hD5p
                        have ul : us.length < 1000 := by
                          have := dpAll_len d7
                          omega
                        refine ⟨us, hL8, by omega, us ++ [v8], ds ++ [d8], x8, y8, ?_, ?_, upd_same, ?_, ?_, ?_, ?_⟩
                        · exact fun b o e hb => by
                            rw [upd_ne (ne_of_none e hD5)]
                            exact sx8 _ _ (sx7 b o e hb) hb
                        · rw [upd_ne hD5p.symm]
                          exact f8
                        · have hl9 : L2.del H8 p D5 = some (.lst us) := by rw [del_ne hD5p]; exact hL8
                          have e9 : L2.del (L2.upd H8 D5 (.lst (us ++ [v8]))) p = L2.upd (L2.del H8 p) D5 (.lst (us ++ [v8])) := by
                            funext b
                            by_cases hb : b = p
                            · subst hb; rw [del_same, upd_ne hD5p.symm, del_same]
                            · rw [del_ne hb]
                              by_cases hbl : b = D5
                              · subst hbl; rw [upd_same, upd_same]
                              · rw [upd_ne hbl, upd_ne hbl, del_ne hb]
                          rw [e9]
                          exact dpAll_app (terms_updL ps hl9 ds _ t7 (dpAll_same (SameX.del sx8) _ _ d7)) (.cons (term_updL ps hl9 d8 _ ht8 hv8) .nil)
                        · rw [List.length_append, l7]; rfl
                        · rw [allTerm_app, t7, Bool.true_and]
                          simp [allTerm, ht8]
                        · intro d hd
                          rcases List.mem_append.mp hd with hd | hd
                          · exact w7 d hd
                          · rw [List.mem_singleton.mp hd]
                            exact fit8
                      · obtain ⟨us, ds, aa, bb, sx7, f7, hL7, d7, l7, t7, w7⟩ := hp'
                        have ul : us.length = ds.length := dpAll_len d7
                        have har : arOf ps pz.1 = some pz.2 := by
                          obtain ⟨k, hk, e⟩ := List.getElem_of_mem hpz
                          exact arOf_at hg.2.2.1 (show ps[k]? = some (pz.1, pz.2) by rw [List.getElem?_eq_getElem hk, e])
                        have tt : isTerm ps (.tuple (.str pz.1 :: ds)) = true := by
                          rw [isTerm, t7, Bool.and_true]
                          unfold headOk
                          rw [show arD ps (.str pz.1) = arOf ps pz.1 from rfl, har]
                          exact decide_eq_true (by omega)
                        have ff : Fit (wB deep) deep (.tuple (.str pz.1 :: ds)) := by
                          have h := fit_tup (W := wB u) (D := u) (ds := .str pz.1 :: ds) (fun d hd => by
                            rcases List.mem_cons.mp hd with rfl | hd
                            · exact (fit_word hwz lc_lt).mono (wB_8 _) (Nat.zero_le _)
                            · exact w7 d hd)
                          obtain ⟨k, rfl⟩ : ∃ k, deep = u + 1 + k := ⟨deep - (u + 1), by omega⟩
                          refine h.mono ?_ (by omega)
                          have l4 : (PyData.str pz.1 :: ds).length ≤ 4 := by rw [List.length_cons]; omega
                          have m1 : (PyData.str pz.1 :: ds).length * (wB u + 1) ≤ wB (u + 1) := Nat.mul_le_mul l4 (Nat.le_refl _)
                          have m2 : ∀ k, wB (u + 1) ≤ wB (u + 1 + k) := fun k => by
                            induction k with
                            | zero => exact Nat.le_refl _
                            | succ k ih => exact Nat.le_trans ih (wB_mono _)
                          exact Nat.le_trans m1 (m2 k)
                        refine ⟨D5, us, rfl, .inl ⟨SqL.of hL7, fun t9 ht9 => ?_⟩⟩
                        have s9 := same_upd (o := .tup us) ht9
                        have t1p : t1 ≠ p := fun z => by rw [z, f6] at e6; cases e6
                        have e7 := sx7 _ _ e6 t1p
                        have sxx : SameX p H (L2.upd H7 t9 (.tup us)) := fun b o e hb => s9 _ _ (sx7 _ _ (sx6 b o e hb) hb)
                        have f9 := s9 _ _ f7
                        have d9 : DpAll K (L2.del (L2.upd H7 t9 (.tup us)) p) us ds := dpAll_same (SameX.del (Same.x s9)) _ _ d7
                        have t9p : t9 ≠ p := fun z => by rw [z, f7] at ht9; cases ht9
                        refine ⟨t1, t9, [V.str pz.1], us, rfl, rfl, SqT.of (s9 _ _ e7), SqT.of upd_same, ?_, fun z => (by cases z), fun _ hus => ?_, fun _ hus p9 hp9 => ?_⟩
                        · have : us.length ≤ 3 := by omega
                          have : (1 : Nat) + us.length ≤ sizeLine := by omega
                          exact this
                        · subst hus
                          have : ds = [] := by cases d9; rfl
                          subst this
                          refine q _ _ aa bb _ sxx f9 (.tup (SqT.of ?_) (.cons (.str _) .nil)) tt ff
                          rw [del_ne t1p]
                          exact s9 _ _ e7
                        · have s10 := same_upd (o := .tup ([V.str pz.1] ++ us)) hp9
                          have p9p : p9 ≠ p := fun z => by rw [z, f9] at hp9; cases hp9
                          refine q _ _ aa bb _ (sxx.trans (Same.x s10)) (s10 _ _ f9) (.tup (SqT.of ?_) (.cons (.str _) (dpAll_same (SameX.del (Same.x s10)) _ _ d9))) tt ff
                          rw [del_ne p9p, upd_same]
                          rfl
                    refine ⟨_, rfl, rfl, _, rfl, ?_⟩
                    refine ite2 (fun h3 => ?_) (fun h3 => ?_)
                    · rw [if_pos h3] at eu
                      exact ⟨_, rfl, _, _, rfl, rfl, _, _, rfl, key _ eu⟩
                    · rw [if_neg h3] at eu
                      exact ⟨_, rfl, _, _, rfl, rfl, key _ eu⟩
end
end Sg

set_option maxRecDepth 100000
set_option maxHeartbeats 8000000
namespace Sg
open PySem PySem.Spec PyProof.Rows L2 Dr Gd Er Cm LD CM XT RT LM LamX NdefX
/-! terms over good signs as data -/
def Ar3 (ps : List (Str × Int)) : Prop := ∀ p ∈ ps, wordIn Lc p.1 = true ∧ 0 ≤ p.2 ∧ p.2 ≤ 3
theorem arOf_in {ps : List (Str × Int)} {z : Str} {m : Int} (h : arOf ps z = some m) : (z, m) ∈ ps := by
  unfold arOf at h
  cases e : ps.find? fun p => decide (p.1 = z) with
  | none => rw [e] at h; cases h
  | some p =>
    rw [e] at h
    cases h
    have h1 := List.find?_some e
    have h2 := List.mem_of_find?_eq_some e
    rw [decide_eq_true_eq] at h1
    rw [← h1]
    exact h2
theorem term_case {ps : List (Str × Int)} (hg : Ar3 ps) {d : PyData} (h : isTerm ps d = true) : (∃ z, d = .str z ∧ wordIn Uc z = true) ∨ ∃ z r, d = .tuple (.str z :: r) ∧ wordIn Lc z = true ∧ r.length ≤ 3 ∧ allTerm ps r = true ∧ headOk ps (.str z) r.length = true := by
  cases d with
  | str z => rw [isTerm] at h; exact .inl ⟨z, rfl, h⟩
  | tuple ds =>
    cases ds with
    | nil => simp [isTerm] at h
    | cons e r =>
      rw [isTerm, Bool.and_eq_true] at h
      have h1 := h.1
      unfold headOk at h1
      cases e with
      | str z =>
        rw [show arD ps (.str z) = arOf ps z from rfl] at h1
        cases e2 : arOf ps z with
        | none => rw [e2] at h1; cases h1
        | some m =>
          rw [e2] at h1
          have h1 := of_decide_eq_true h1
          obtain ⟨a, b, c⟩ := hg _ (arOf_in e2)
          exact .inr ⟨z, r, rfl, a, by have c : m ≤ 3 := c; omega, h.2, h.1⟩
      | _ => cases h1
  | _ => simp [isTerm] at h
theorem allTerm_mem {ps : List (Str × Int)} : ∀ {ds : List PyData}, allTerm ps ds = true → ∀ d ∈ ds, isTerm ps d = true
  | [], _, d, hd => by cases hd
  | e :: r, h, d, hd => by
    rw [allTerm, Bool.and_eq_true] at h
    rcases List.mem_cons.mp hd with rfl | hd
    · exact h.1
    · exact allTerm_mem h.2 d hd
theorem allTerm_of {ps : List (Str × Int)} : ∀ {ds : List PyData}, (∀ d ∈ ds, isTerm ps d = true) → allTerm ps ds = true
  | [], _ => rfl
  | e :: r, h => by
    rw [allTerm, h e List.mem_cons_self, allTerm_of fun d hd => h d (List.mem_cons_of_mem _ hd)]
    rfl
theorem lc_uc {z : Str} (h : wordIn Lc z = true) : wordIn Uc z = false := by
  have key : ∀ c ∈ Lc.cps.toList, c ∉ Uc.cps.toList := by decide +kernel
  unfold wordIn at h ⊢
  rw [Bool.and_eq_true, Bool.and_eq_true] at h
  have h1 : 1 ≤ z.length := of_decide_eq_true h.1
  cases e : z.cps.toList with
  | nil =>
    have : z.length = z.cps.toList.length := by simp [Str.length]
    rw [e] at this
    simp at this
    omega
  | cons c r =>
    have h2 := h.2.2
    rw [e, List.all_cons, Bool.and_eq_true] at h2
    have h3 : decide (c ∈ Uc.cps.toList) = false := decide_eq_false (key c (of_decide_eq_true h2.1))
    rw [List.all_cons, h3]
    simp
theorem depS {d : PyData} {r : List PyData} {e : PyData} {n : Nat} (hd : d ∈ r) (h : (PyData.tuple (e :: r)).depth ≤ n + 1) : d.depth ≤ n := by
  have h1 := dep_memA (List.mem_cons_of_mem e hd)
  rw [PyData.depth] at h
  omega
theorem dep0 {e : PyData} {r : List PyData} (h : (PyData.tuple (e :: r)).depth ≤ 0) : False := by
  rw [PyData.depth] at h
  omega
theorem fszs_le {m : Nat} : ∀ {ds : List PyData}, (∀ d ∈ ds, fsz d ≤ m) → fszs ds ≤ ds.length * m
  | [], _ => by simp [fszs]
  | d :: r, h => by
    have := fszs_le fun x hx => h x (List.mem_cons_of_mem _ hx)
    have := h d List.mem_cons_self
    rw [fszs, List.length_cons, Nat.succ_mul]
    omega
def nB : Nat → Nat
  | 0 => 1
  | n + 1 => 1 + 3 * nB n
theorem nB_pos : ∀ n, 1 ≤ nB n
  | 0 => Nat.le_refl _
  | n + 1 => by rw [nB]; omega
/-- all that is asked of the data of a term -/
theorem term_fit {ps : List (Str × Int)} (hg : Ar3 ps) : ∀ (n : Nat) (d : PyData), isTerm ps d = true → d.depth ≤ n → Fit (wB n) n d ∧ fsz d ≤ nB n
  | n, d, h, hn => by
    rcases term_case hg h with ⟨z, rfl, hz⟩ | ⟨z, r, rfl, hz, hr, ht, _⟩
    · exact ⟨(fit_word hz uc_lt).mono (wB_8 _) (Nat.zero_le _), by have := nB_pos n; simp only [fsz]; omega⟩
    · cases n with
      | zero => exact (dep0 hn).elim
      | succ n =>
        have ih : ∀ d ∈ r, Fit (wB n) n d ∧ fsz d ≤ nB n := fun d hd => term_fit hg n d (allTerm_mem ht d hd) (depS hd hn)
        have f := fit_tup (W := wB n) (D := n) (ds := .str z :: r) fun d hd => by
          rcases List.mem_cons.mp hd with rfl | hd
          · exact (fit_word hz lc_lt).mono (wB_8 _) (Nat.zero_le _)
          · exact (ih d hd).1
        refine ⟨f.mono ?_ (Nat.le_refl _), ?_⟩
        · rw [wB]
          exact Nat.mul_le_mul (by rw [List.length_cons]; omega) (Nat.le_refl _)
        · have := fszs_le fun d hd => (ih d hd).2
          have h2 : r.length * nB n ≤ 3 * nB n := Nat.mul_le_mul hr (Nat.le_refl _)
          rw [fsz, nB]
          omega
theorem term_okN {ps : List (Str × Int)} (hg : Ar3 ps) : ∀ (n : Nat) (d : PyData), isTerm ps d = true → d.depth ≤ n → okN (wordIn Uc) d = true
  | n, d, h, hn => by
    rcases term_case hg h with ⟨z, rfl, hz⟩ | ⟨z, r, rfl, hz, hr, ht, _⟩
    · rw [okN]; exact hz
    · cases n with
      | zero => exact (dep0 hn).elim
      | succ n =>
        rw [okN, lc_uc hz, okNs_all fun d hd => term_okN hg n d (allTerm_mem ht d hd) (depS hd hn)]
        rfl
theorem depA_le {n : Nat} : ∀ {ds : List PyData}, (∀ d ∈ ds, d.depth ≤ n) → PyData.depthAll ds ≤ n
  | [], _ => by simp [PyData.depthAll]
  | d :: r, h => by
    rw [PyData.depthAll]
    exact Nat.max_le.mpr ⟨h d List.mem_cons_self, depA_le fun x hx => h x (List.mem_cons_of_mem _ hx)⟩
theorem putD_term {ps : List (Str × Int)} {G : List (Str × PyData)} {m : Nat} (hg : Ar3 ps) (hG : ∀ p ∈ G, isTerm ps p.2 = true ∧ p.2.depth ≤ m) : ∀ (n : Nat) (d : PyData), isTerm ps d = true → d.depth ≤ n → isTerm ps (putD G d) = true ∧ (putD G d).depth ≤ n + m
  | n, d, h, hn => by
    rcases term_case hg h with ⟨z, rfl, hz⟩ | ⟨z, r, rfl, hz, hr, ht, hh⟩
    · rw [putD]
      cases e : lookG G z with
      | none =>
        refine ⟨?_, by simp [PyData.depth]⟩
        rw [Option.getD_none, isTerm]
        exact hz
      | some t =>
        obtain ⟨a, b⟩ := hG _ (lookG_mem e)
        exact ⟨a, by have b : t.depth ≤ m := b; rw [Option.getD_some]; omega⟩
    · cases n with
      | zero => exact (dep0 hn).elim
      | succ n =>
        have ih : ∀ d ∈ r, isTerm ps (putD G d) = true ∧ (putD G d).depth ≤ n + m := fun d hd => putD_term hg hG n d (allTerm_mem ht d hd) (depS hd hn)
        rw [putD, putDs_map]
        refine ⟨?_, ?_⟩
        · rw [isTerm, List.length_map, hh, Bool.true_and]
          refine allTerm_of fun d hd => ?_
          obtain ⟨e, he, rfl⟩ := List.mem_map.mp hd
          exact (ih e he).1
        · rw [PyData.depth, PyData.depthAll]
          have := depA_le (n := n + m) (ds := r.map (putD G)) fun d hd => by
            obtain ⟨e, he, rfl⟩ := List.mem_map.mp hd
            exact (ih e he).2
          have : (PyData.str z).depth = 0 := by simp [PyData.depth]
          omega
mutual
theorem putD_nil : ∀ d : PyData, putD [] d = d
  | .str z => rfl
  | .tuple [] => rfl
  | .tuple (e :: r) => by rw [putD, putDs_nil r]
  | .none => rfl
  | .bool _ => rfl
  | .int _ => rfl
  | .list _ => rfl
  | .dict _ => rfl
theorem putDs_nil : ∀ ds : List PyData, putDs [] ds = ds
  | [] => rfl
  | d :: r => by rw [putDs, putD_nil d, putDs_nil r]
end
theorem good3 {ps : List (Str × Int)} (h : Good ps) : Ar3 ps := h.2.2.2.1
theorem term_nice {ps : List (Str × Int)} (hg : Ar3 ps) {n : Nat} {d : PyData} (h : isTerm ps d = true) (hn : d.depth ≤ n) (h50 : n ≤ 50) : Nice (wordIn Uc) d := ⟨term_okN hg n d h hn, (term_fit hg n d h hn).1.lay, by omega⟩
theorem term_part {ps : List (Str × Int)} (hg : Ar3 ps) {n : Nat} {d t : PyData} (h : isTerm ps d = true) (hn : d.depth ≤ n) (ht : t ∈ preD d) : isTerm ps t = true ∧ t.depth ≤ n :=
  pre_all (Pd := fun d => isTerm ps d = true ∧ d.depth ≤ n) (fun d h a ha => by
    rcases term_case hg h.1 with ⟨z, rfl, hz⟩ | ⟨z, r, rfl, hz, hr, hall, _⟩
    · cases ha
    · exact ⟨allTerm_mem hall a ha, Nat.le_trans (Nat.le_of_lt (dep_arg ha)) h.2⟩) (fsz d) d t (Nat.le_refl _) ⟨h, hn⟩ ht
/-- the list of the parts -/
theorem parts_fit {ps : List (Str × Int)} (hg : Ar3 ps) {d : PyData} (h : isTerm ps d = true) (hn : d.depth ≤ 3) : Fit 100000 4 (.list (addAll [] (preD d))) := by
  have f := fit_lst (W := wB 3) (D := 3) (ds := addAll [] (preD d)) fun t ht => by
    have tm : t ∈ preD d := (addAll_mem ht).elim (fun h => by cases h) id
    obtain ⟨a, b⟩ := term_part hg h hn tm
    exact (term_fit hg 3 t a b).1
  have l : (addAll [] (preD d)).length ≤ 40 := Nat.le_trans all_len (term_fit hg 3 d h hn).2
  refine f.mono ?_ (Nat.le_refl _)
  refine Nat.le_trans (Nat.mul_le_mul l (Nat.le_refl _)) ?_
  decide
theorem strs_fit {ls : List Str} (h : ∀ z ∈ ls, wordIn Uc z = true) (hl : ls.length ≤ 100) : Fit 100000 1 (.list (ls.map .str)) := by
  have f := fit_lst (W := 8) (D := 0) (ds := ls.map .str) fun t ht => by
    obtain ⟨z, hz, rfl⟩ := List.mem_map.mp ht
    exact fit_word (h z hz) uc_lt
  refine f.mono ?_ (Nat.le_refl _)
  rw [List.length_map]
  exact Nat.le_trans (Nat.mul_le_mul hl (Nat.le_refl _)) (by decide)
/-- the dict of what is put -/
theorem dict_fit {ps : List (Str × Int)} (hg : Ar3 ps) {G : List (Str × PyData)} (hl : G.length ≤ 4) (hG : ∀ p ∈ G, wordIn Uc p.1 = true ∧ isTerm ps p.2 = true ∧ p.2.depth ≤ 2) : (gD G).showable = true ∧ (gD G).shown.length ≤ sizeLine ∧ (gD G).depth ≤ 60 := by
  have key : ∀ G : List (Str × PyData), (∀ p ∈ G, wordIn Uc p.1 = true ∧ isTerm ps p.2 = true ∧ p.2.depth ≤ 2) → PyData.showableKv (G.map fun p => (.str p.1, p.2)) = true ∧ PyData.leavesShortKv 40 (G.map fun p => (.str p.1, p.2)) = true ∧ PyData.weightKv (G.map fun p => (.str p.1, p.2)) ≤ G.length * (10 + wB 2) ∧ PyData.depthKv (G.map fun p => (.str p.1, p.2)) ≤ 2 := by
    intro G
    induction G with
    | nil => intro _; simp [PyData.showableKv, PyData.leavesShortKv, PyData.weightKv, PyData.depthKv]
    | cons p r ih =>
      intro h
      obtain ⟨a, b, c, e⟩ := ih fun x hx => h x (List.mem_cons_of_mem _ hx)
      obtain ⟨hw, ht, hd⟩ := h p List.mem_cons_self
      have f := (term_fit hg 2 p.2 ht hd).1
      have g := fit_word hw uc_lt
      have l1 := PyData.leavesShort_of_canLay0 40 p.2 f.lay f.isn
      have l2 := PyData.leavesShort_of_canLay0 40 (.str p.1) g.lay g.isn
      have w1 := f.wt
      have w2 := g.wt
      refine ⟨?_, ?_, ?_, ?_⟩
      · rw [List.map_cons, PyData.showableKv, a, f.sh, g.sh]; rfl
      · rw [List.map_cons, PyData.leavesShortKv, b, l1, l2]; rfl
      · rw [List.map_cons, PyData.weightKv, List.length_cons, Nat.succ_mul]
        omega
      · rw [List.map_cons, PyData.depthKv]
        have := g.dep
        omega
  obtain ⟨a, b, c, e⟩ := key G hG
  refine ⟨by unfold gD; rw [PyData.showable]; exact a, ?_, by unfold gD; rw [PyData.depth]; omega⟩
  have := PyData.shown_le 40 (by decide) (gD G) (by unfold gD; rw [PyData.leavesShort]; exact b)
  have w : (gD G).weight ≤ 4 * (10 + wB 2) := by
    unfold gD
    rw [PyData.weight]
    exact Nat.le_trans c (Nat.mul_le_mul hl (Nat.le_refl _))
  rw [sizeLine_eq]
  have : (40 + 2) * (gD G).weight ≤ 42 * (4 * (10 + wB 2)) := Nat.mul_le_mul (Nat.le_refl _) w
  have e9 : 42 * (4 * (10 + wB 2)) ≤ 100000 := by decide
  omega
end Sg

set_option maxRecDepth 100000
set_option maxHeartbeats 8000000
namespace Sg
open PySem PySem.Spec PyProof.Rows L2 Dr Gd Er Cm LD CM XT RT LM LamX NdefX
theorem code_lst {c : Addr} {q : Str} {xs : List V} : CodeO c q ≠ .lst xs := fun z => by unfold CodeO at z; cases z
theorem code_dK {c : Addr} {q : Str} {xs : List (Key × V)} : CodeO c q ≠ .dK xs := fun z => by unfold CodeO at z; cases z
/-- the table stays if what is no table, and no code object, changes -/
theorem tab_upd {H H' : Hp} {P p : Addr} {q : Str} {o : HO} (t : TabS H P q) (hp : H p = some o) (n1 : ∀ ps, o ≠ .tbl ps) (n2 : ∀ c, o ≠ CodeO c q) (s : ∀ b u, H b = some u → b ≠ p → H' b = some u) : TabS H' P q := by
  obtain ⟨ps, h1, h2, h3⟩ := t
  refine ⟨ps, s _ _ h1 (fun z => n1 ps (by rw [z, hp] at h1; exact Option.some.inj h1)), h2, fun pos cv hc => ?_⟩
  obtain ⟨c, e1, e2⟩ := h3 pos cv hc
  exact ⟨c, e1, s _ _ e2 (fun z => n2 c (by rw [z, hp] at e2; rw [z]; exact Option.some.inj e2))⟩
theorem tab_ne {H : Hp} {P p : Addr} {q : Str} {o : HO} (t : TabS H P q) (hp : H p = some o) (n1 : ∀ ps, o ≠ .tbl ps) : p ≠ P := fun z => by
  obtain ⟨ps, h1, _⟩ := t
  rw [z, h1] at hp
  exact n1 ps (Option.some.inj hp).symm
/-- what stands in a turn: the feed, the table, and all else of the heap B -/
structure Wk (p P : Addr) (B H : Hp) : Prop where
  f : ∃ a b, H p = some (feedO a b)
  t : TabS H P qLam
  s : Same (delS [p, P] B) (delS [p, P] H)
section
variable {p P : Addr} {B H H' : Hp}
theorem Wk.np (W : Wk p P B H) : p ≠ P := by
  obtain ⟨a, b, h⟩ := W.f
  exact tab_ne W.t h fun ps z => by cases z
theorem Wk.same (W : Wk p P B H) (s : Same H H') : Wk p P B H' := by
  obtain ⟨a, b, h⟩ := W.f
  exact ⟨⟨a, b, s _ _ h⟩, W.t.ext s, Same.trans W.s (delS_same s)⟩
theorem Wk.step {a b : Int} (W : Wk p P B H) (s : SameX p H H') (h : H' p = some (feedO a b)) : Wk p P B H' := by
  obtain ⟨x, y, h0⟩ := W.f
  refine ⟨⟨a, b, h⟩, tab_upd W.t h0 (fun ps z => by cases z) (fun c z => code_lst z.symm) s, Same.trans W.s fun c o e => ?_⟩
  obtain ⟨n, e'⟩ := delS_inv e
  rw [delS_of n]
  exact s _ _ e' fun z => n (by rw [z]; simp)
theorem Wk.put (W : Wk p P B H) (s : Same (delS [P] H) (delS [P] H')) (t : TabS H' P qLam) : Wk p P B H' := by
  obtain ⟨x, y, h0⟩ := W.f
  have np := W.np
  refine ⟨⟨x, y, (delS_inv (s p _ (by rw [delS_of (by simpa using np)]; exact h0))).2⟩, t, Same.trans W.s (delS_in (fun b hb => by simp at hb; simp [hb]) s)⟩
theorem Wk.upd {l : Addr} {o u : HO} (W : Wk p P B H) (hl : H l = some o) (n1 : ∀ ps, o ≠ .tbl ps) (n2 : ∀ c, o ≠ CodeO c qLam) (lp : l ≠ p) (hB : delS [p, P] B l = none) : Wk p P B (L2.upd H l u) := by
  obtain ⟨x, y, h0⟩ := W.f
  refine ⟨⟨x, y, by rw [upd_ne lp.symm]; exact h0⟩, tab_upd W.t hl n1 n2 (fun b v e n => by rw [upd_ne n]; exact e), fun b v e => ?_⟩
  have e1 := W.s b v e
  obtain ⟨n, e'⟩ := delS_inv e1
  rw [delS_of n, upd_ne (ne_of_none e hB)]
  exact e'
theorem Wk.re (W : Wk p P B H) : Wk p P H H := ⟨W.f, W.t, Same.refl _⟩
theorem Wk.of (W : Wk p P B H) (V : Wk p P H H') : Wk p P B H' := ⟨V.f, V.t, Same.trans W.s V.s⟩
theorem Wk.dp {K : PySem.W.Frag} {v : V} {d : PyData} (W : Wk p P B H) (h : Dp K (delS [p, P] B) v d) : Dp K (delS [p, P] H) v d := dp_same W.s _ _ h
theorem delp_sub : Same (delS [p, P] H) (L2.del H p) := fun b o e => by
  obtain ⟨n, e'⟩ := delS_inv e
  rw [del_ne fun z => n (by rw [z]; simp)]
  exact e'
theorem delP_sub : Same (delS [p, P] H) (delS [P] H) := delS_less fun b hb => by simp at hb; simp [hb]
/-- data beside the feed are beside the table too -/
theorem dp_tab {K : PySem.W.Frag} {v : V} {d : PyData} (t : TabS H P qLam) (h : Dp K (L2.del H p) v d) : Dp K (delS [p, P] H) v d := by
  obtain ⟨ps, h1, _⟩ := t
  have key : ∀ b o, L2.del H p b = some o → (∀ ps, o ≠ .tbl ps) → delS [p, P] H b = some o := fun b o e n => by
    have bp : b ≠ p := fun z => by rw [z, del_same] at e; cases e
    rw [del_ne bp] at e
    have bP : b ≠ P := fun z => n ps (by rw [z, h1] at e; exact (Option.some.inj e).symm)
    rw [delS_of (by simp [bp, bP])]
    exact e
  refine dp_seq ⟨fun a xs h => ?_, fun a xs h => ?_⟩ _ _ h
  · rcases h with (h | ⟨o, h⟩) | h
    · exact .inl (.inl (key _ _ h fun ps z => by cases z))
    · exact .inl (.inr ⟨o, key _ _ h fun ps z => by cases z⟩)
    · exact .inr h
  · rcases h with (h | ⟨o, h⟩) | h
    · exact .inl (.inl (key _ _ h fun ps z => by cases z))
    · exact .inl (.inr ⟨o, key _ _ h fun ps z => by cases z⟩)
    · exact .inr h
end
theorem KvR.same {K : PySem.W.Frag} {Z Z' : Hp} (s : Same Z Z') : ∀ {kvs : List (Key × V)} {G : List (Str × PyData)}, KvR K Z kvs G → KvR K Z' kvs G
  | _, _, .nil => .nil
  | _, _, .cons a b => .cons (dp_same s _ _ a) (b.same s)
theorem KvR.snoc {K : PySem.W.Frag} {Z : Hp} {z : Str} {v : V} {d : PyData} (h : Dp K Z v d) : ∀ {kvs : List (Key × V)} {G : List (Str × PyData)}, KvR K Z kvs G → KvR K Z (kvs ++ [(.inr z, v)]) (G ++ [(z, d)])
  | _, _, .nil => .cons h .nil
  | _, _, .cons a b => .cons a (b.snoc h)
theorem KvR.lens {K : PySem.W.Frag} {Z : Hp} : ∀ {kvs : List (Key × V)} {G : List (Str × PyData)}, KvR K Z kvs G → kvs.length = G.length
  | _, _, .nil => rfl
  | _, _, .cons _ b => by rw [List.length_cons, List.length_cons, b.lens]
theorem KvR.none {K : PySem.W.Frag} {Z : Hp} {z : Str} : ∀ {kvs : List (Key × V)} {G : List (Str × PyData)}, KvR K Z kvs G → z ∉ G.map (·.1) → valV kvs (.inr z) = none
  | _, _, .nil, _ => rfl
  | _, _, .cons (z := y) a b, h => by
    rw [List.map_cons, List.mem_cons, not_or] at h
    rw [valV_neg (fun e => h.1 (by injection e with e; exact e.symm))]
    exact b.none h.2
abbrev sLaw3 : Stmt := top 23
theorem scL3 : FnScope ["script", "k", "feed", "pairs", "turn", "some", "term", "told", "letters", "given", "letter", "shown"] ["script"] (defScope sLaw3) := ⟨rfl, rfl, rfl, by decide +kernel, rfl, by decide +kernel, by decide +kernel⟩
end Sg

set_option maxRecDepth 100000
/-! two sorted lists of the same texts are the same -/
namespace Srt
open PySem PySem.Spec PyProof.Rows
def le (a b : Str) : Prop := ¬ b.cps.toList < a.cps.toList
theorem le_trans {a b c : Str} (h : le a b) (g : le b c) : le a c := by
  unfold le at *
  rw [List.not_lt] at *
  exact List.le_trans h g
theorem le_anti {a b : Str} (h : le a b) (g : le b a) : a = b := by
  unfold le at *
  rw [List.not_lt] at *
  have := List.le_antisymm h g
  obtain ⟨⟨x⟩⟩ := a
  obtain ⟨⟨y⟩⟩ := b
  simpa using this
theorem rise : ∀ (l : List Str) (p : Str), risingS p l = true → (∀ y ∈ l, le p y) ∧ sortedS l = true
  | [], p, _ => ⟨fun _ h => (by cases h), rfl⟩
  | x :: r, p, h => by
    have h : (!ltCps x.cps.toList p.cps.toList && risingS x r) = true := h
    rw [Bool.and_eq_true] at h
    have h1 : le p x := by
      have := h.1
      rw [ltCps_eq] at this
      unfold le
      simpa using this
    obtain ⟨g1, _⟩ := rise r x h.2
    refine ⟨fun y hy => ?_, h.2⟩
    rcases List.mem_cons.mp hy with rfl | hy
    · exact h1
    · exact le_trans h1 (g1 y hy)
theorem uniq : ∀ (ys zs : List Str), ys.Perm zs → sortedS ys = true → sortedS zs = true → ys = zs
  | [], zs, h, _, _ => (List.Perm.nil_eq h)
  | y :: ys, [], h, _, _ => absurd h.length_eq (by simp)
  | y :: ys, z :: zs, h, h1, h2 => by
    obtain ⟨a1, a2⟩ := rise ys y h1
    obtain ⟨b1, b2⟩ := rise zs z h2
    have e : y = z := by
      have m1 : y ∈ z :: zs := h.subset List.mem_cons_self
      have m2 : z ∈ y :: ys := h.symm.subset List.mem_cons_self
      rcases List.mem_cons.mp m1 with e | m1
      · exact e
      · rcases List.mem_cons.mp m2 with e | m2
        · exact e.symm
        · exact le_anti (a1 z m2) (b1 y m1)
    subst e
    rw [uniq ys zs (List.perm_cons y |>.mp h) a2 b2]
end Srt

set_option maxRecDepth 100000
set_option maxHeartbeats 8000000
namespace Sg
open PySem PySem.Spec PyProof.Rows L2 Dr Gd Er Cm LD CM XT RT LM LamX NdefX
theorem addAll_has : ∀ {l M : List PyData} {x : PyData}, x ∈ M ∨ x ∈ l → x ∈ addAll M l
  | [], M, x, h => h.elim id (fun z => by cases z)
  | d :: r, M, x, h => by
    show x ∈ addAll (addD M d) r
    refine addAll_has ?_
    by_cases e : d ∈ M
    · rw [addD_in e]
      rcases h with h | h
      · exact Or.inl h
      · rcases List.mem_cons.mp h with rfl | h
        · exact Or.inl e
        · exact Or.inr h
    · rw [addD_no e]
      rcases h with h | h
      · exact Or.inl (List.mem_append_left _ h)
      · rcases List.mem_cons.mp h with rfl | h
        · exact Or.inl (List.mem_append_right _ (List.mem_singleton.mpr rfl))
        · exact Or.inr h
theorem strs_nd : ∀ {ds : List PyData}, ds.Nodup → (strsOf ds).Nodup
  | [], _ => List.nodup_nil
  | d :: ds, h => by
    obtain ⟨a, b⟩ := List.nodup_cons.mp h
    have ih := strs_nd b
    cases d with
    | str z => exact List.nodup_cons.mpr ⟨fun m => a (strs_mem.mp m), ih⟩
    | _ => exact ih
theorem map_str_nd : ∀ {ls : List Str}, ls.Nodup → (ls.map PyData.str).Nodup
  | [], _ => List.nodup_nil
  | z :: ls, h => by
    obtain ⟨a, b⟩ := List.nodup_cons.mp h
    refine List.nodup_cons.mpr ⟨fun m => ?_, map_str_nd b⟩
    obtain ⟨y, hy, e⟩ := List.mem_map.mp m
    injection e with e
    exact a (by rw [← e]; exact hy)
theorem letters_eq {ls ls2 : List Str} {d : PyData} (nd : ls.Nodup) (mem : ∀ z, z ∈ ls ↔ PyData.str z ∈ preD d) (s1 : sortedS ls = true) (pm : ls2.Perm (strsOf (addAll [] (preD d)))) (s2 : sortedS ls2 = true) : ls = ls2 := by
  have nd2 : ls2.Nodup := pm.nodup_iff.mpr (strs_nd (addAll_nd List.nodup_nil))
  refine Srt.uniq ls ls2 ((List.perm_ext_iff_of_nodup nd nd2).mpr fun z => ?_) s1 s2
  rw [mem, pm.mem_iff, strs_mem]
  exact ⟨fun h => addAll_has (Or.inr h), fun h => (addAll_mem h).elim (fun h => by cases h) id⟩
theorem letters_len {ls : List Str} {d : PyData} (nd : ls.Nodup) (mem : ∀ z, z ∈ ls ↔ PyData.str z ∈ preD d) : ls.length ≤ fsz d := by
  have := nodup_leD (m := preD d) (map_str_nd nd) fun y hy => by
    obtain ⟨z, hz, rfl⟩ := List.mem_map.mp hy
    exact (mem z).mp hz
  rw [List.length_map, preD_len] at this
  exact this
theorem delS_none {S : List Addr} {H : Hp} {b : Addr} (h : H b = none) : delS S H b = none := by
  unfold delS
  split
  · rfl
  · exact h
structure LTxt3 (mg : Str → Option Value) : Prop where
  rng : mg "range" = none
  max : mg "max" = none
  min : mg "min" = none
  len : mg "len" = none
  lst : mg "list" = none
  rep : mg "repr" = none
  isi : mg "isinstance" = none
def some3 : List (List Str) := [["X", "Y"], ["Z", "X", "AB", "A"], ["X"]]
def xyq : List Str := ["X", "Y", "Q"]
def let4 : List Str := ["X", "Y", "A", "Q"]
theorem some3_ok : ∀ zs ∈ some3, zs ≠ [] ∧ zs.length < 1000 ∧ ∀ z ∈ zs, wordIn Uc z = true := by decide +kernel
theorem xyq_ok : xyq ≠ [] ∧ xyq.length < 1000 ∧ ∀ z ∈ xyq, wordIn Uc z = true := by decide +kernel
theorem let4_ok : let4.Nodup ∧ ∀ z ∈ let4, wordIn Uc z = true := by decide +kernel
def spLaw3 (K : PySem.W.Frag) (Pt : Addr) : Sp := fun vs H Q _ => ∃ (a : Addr) (ns : List Int), vs = [.ref a] ∧ SqL K H a (ns.map V.int) ∧ ns.length < 1000 ∧ TabS H Pt qLam ∧ ∀ H', Q (.bl true) H'
section
variable {P : Program} {w : World} {K : PySem.W.Frag} {mg : Str → Option Value} {base : Heap} {Pt fF fD fT fP fM f1 f2 f3 f4 f5 f6 f7 f8 : Addr} {dF dD dT dP dM d1 d2 d3 d4 d5 d6 d7 d8 : FuncData}
theorem ok_law3 {f : Addr} {fd : FuncData} (F : Fun K "law" "law" sLaw3 f fd) (T : LTxt3 mg)
    (GF : Cal P w K mg base CX0 1 "_law_feed" fF dF ["script", "k"] (spFeed K)) (GD : Cal P w K mg base CX0 3 "_law_drawn_signs" fD dD ["feed"] (spDrawn K)) (GT : Cal P w K mg base CX0 1 "_law_take" fT dT ["feed", "many"] spTake) (GP : Cal P w K mg base CX0 2 "_law_pick" fP dP ["feed", "some"] (spPick K))
    (GM : Cal P w K mg base CX0 6 "_law_term" fM dM ["feed", "pairs", "deep", "letters"] (spTerm K 4))
    (G1 : Cal P w K mg base CX0 4 "parts" f1 d1 ["term"] (spParts K (wordIn Uc))) (G2 : Cal P w K mg base CX0 4 "_law_parts" f2 d2 ["term"] (spLParts K (wordIn Uc) 4)) (G3 : Cal P w K mg base CX0 3 "size" f3 d3 ["term"] (spSize K (wordIn Uc))) (G4 : Cal P w K mg base CX0 4 "_law_size" f4 d4 ["term"] (spLSize K (wordIn Uc) 4))
    (G5 : Cal P w K mg base CX0 3 "variables" f5 d5 ["term"] (spVars K (wordIn Uc))) (G6 : Cal P w K mg base CX0 5 "_law_letters" f6 d6 ["term"] (spLLet K (wordIn Uc) 4)) (G7 : Cal P w K mg base CX0 4 "put" f7 d7 ["term", "given"] (spPut K (wordIn Uc) Pt qLam)) (G8 : Cal P w K mg base CX0 4 "_law_put" f8 d8 ["term", "given"] (spLPut K (wordIn Uc) 4)) :
    FnG P w K mg base CX0 7 f fd ["script"] (spLaw3 K Pt) := by
  refine okG F scL3 (fun vs H Q E h => ?_) (fun cdv A outer s H vs Q E hgd hr h => ?_)
  · obtain ⟨a, ns, rfl, _⟩ := h
    rfl
  · obtain ⟨a, ns, rfl, hsc, hlen, hT, q⟩ := h
    have r1 : Room 1 (A.deeper (envOfC "law" (defScope sLaw3) s.heap.objs.size f cdv)) := hr.mono (by decide)
    have r2 : Room 2 (A.deeper (envOfC "law" (defScope sLaw3) s.heap.objs.size f cdv)) := hr.mono (by decide)
    have r3 : Room 3 (A.deeper (envOfC "law" (defScope sLaw3) s.heap.objs.size f cdv)) := hr.mono (by decide)
    have r4 : Room 4 (A.deeper (envOfC "law" (defScope sLaw3) s.heap.objs.size f cdv)) := hr.mono (by decide)
    have r5 : Room 5 (A.deeper (envOfC "law" (defScope sLaw3) s.heap.objs.size f cdv)) := hr.mono (by decide)
    have hu : (A.deeper (envOfC "law" (defScope sLaw3) s.heap.objs.size f cdv)).units + 70 < cLine := by
      have := hr.un
      omega
    have hu1 := hu_of hr
    have nd := scL3.nd
    refine ⟨_, pss_cons (ps_for PassesOwn.never rfl (pi_range1 (by rfl) T.rng (pa_cons (pe_callB (call_max2 rfl) (by rfl) T.max boot_max (pa_cons pe_int (pa_cons (pe_callB (call_min2 rfl) (by rfl) T.min (by decide +kernel) (pa_cons pe_int (pa_cons (pe_callB call_len (by rfl) T.len PySem.boot_len (pa_cons (pv 0) pa_nil)) pa_nil))) pa_nil))) pa_nil)) (pg_name (i := 1) nd rfl (Or.inl rfl))
      (pss_cons (ps_set (i := 2) nd rfl (Or.inl rfl) (pe_call GF.ok r1 rfl GF.g GF.kp GF.b .nil pass0 (pa_cons (pv 0) (pa_cons (pv 1) pa_nil))))
      (pss_cons (ps_set (i := 3) nd rfl (Or.inl rfl) (pe_call GD.ok r3 rfl GD.g GD.kp GD.b .nil pass0 (pa_cons (pv 2) pa_nil)))
      (pss_one (ps_for PassesOwn.never rfl (pi_range1 (by rfl) T.rng (pa_cons pe_int pa_nil)) (pg_name (i := 4) nd rfl (Or.inl rfl))
        (pss_cons (ps_set (i := 5) nd rfl (Or.inl rfl) (pe_call GP.ok r2 rfl GP.g GP.kp GP.b .nil pass0 (pa_cons (pv 2) (pa_cons (te := tDatL K (fun _ => True) (some3.map txD)) (pd_lstL (by repeat (first | exact pd_int | exact pd_str | exact pd_nil | refine pd_cons ?_ ?_ | refine pd_lst ?_ (by decide) | refine pd_tup ?_ (by decide))) (by decide)) pa_nil))))
        (pss_cons (ps_set (i := 6) nd rfl (Or.inl rfl) (pe_call GM.ok hr rfl GM.g GM.kp GM.b .nil pass0 (pa_cons (pv 2) (pa_cons (pv 3) (pa_cons pe_int (pa_cons (pv 5) pa_nil))))))
        (pss_cons (ps_set (i := 7) nd rfl (Or.inl rfl) (pe_call G1.ok r4 rfl G1.g G1.kp G1.b .nil pass0 (pa_cons (pv 6) pa_nil)))
        (pss_cons (ps_if (PW.pt (pw_or (pt_not (pt_val (pe_callB call_isi (by rfl) T.isi (by decide +kernel) (pa_cons (pv 7) (pa_cons (pe_bltn (v := .ty "list") (by rfl) T.lst (by decide +kernel) rfl) pa_nil)))))
            (pw_or1 (pt_cmpR op_ne (pe_callB (call_reprD hgd hu) (by rfl) T.rep (by decide +kernel) (pa_cons (pv 7) pa_nil)) (pe_callB (call_reprD hgd hu) (by rfl) T.rep (by decide +kernel) (pa_cons (pe_call G2.ok r4 rfl G2.g G2.kp G2.b .nil pass0 (pa_cons (pv 6) pa_nil)) pa_nil)) (nomark _))))) (pss_one (ps_ret pe_bl)) pss_nil)
        (pss_cons (ps_if (pt_cmpR op_ne (pe_call G3.ok r3 rfl G3.g G3.kp G3.b .nil pass0 (pa_cons (pv 6) pa_nil)) (pe_call G4.ok r4 rfl G4.g G4.kp G4.b .nil pass0 (pa_cons (pv 6) pa_nil)) (nomark _)) (pss_one (ps_ret pe_bl)) pss_nil)
        (pss_cons (ps_expr (pe_bm PySem.F.plainAttrs_list PySem.F.slot_list_append PySem.F.type_list_append mt_append (pv 7) (pa_cons pe_non pa_nil)))
        (pss_cons (ps_set (i := 8) nd rfl (Or.inl rfl) (pe_call G5.ok r3 rfl G5.g G5.kp G5.b .nil pass0 (pa_cons (pv 6) pa_nil)))
        (pss_cons (ps_if (pt_cmpR op_ne (pe_callB (call_reprD hgd hu) (by rfl) T.rep (by decide +kernel) (pa_cons (pv 8) pa_nil)) (pe_callB (call_reprD hgd hu) (by rfl) T.rep (by decide +kernel) (pa_cons (pe_call G6.ok r5 rfl G6.g G6.kp G6.b .nil pass0 (pa_cons (pv 6) pa_nil)) pa_nil)) (nomark _)) (pss_one (ps_ret pe_bl)) pss_nil)
        (pss_cons (ps_set (i := 9) nd rfl (Or.inl rfl) pe_dnewK)
        (pss_cons (ps_for PassesOwn.never rfl (pi_list (pe_lst (pa_cons pe_str (pa_cons pe_str (pa_cons pe_str (pa_cons pe_str pa_nil)))))) (pg_name (i := 10) nd rfl (Or.inl rfl))
          (pss_one (ps_if (pt_cmpR op_gt (pe_call GT.ok r1 rfl GT.g GT.kp GT.b .nil pass0 (pa_cons (pv 2) (pa_cons pe_int pa_nil))) pe_int (nomark _))
            (pss_one (ps_dput hu1 (pv 9) (pv 10) (pe_call GM.ok hr rfl GM.g GM.kp GM.b .nil pass0 (pa_cons (pv 2) (pa_cons (pv 3) (pa_cons pe_int (pa_cons (pe_lst (pa_cons pe_str (pa_cons pe_str (pa_cons pe_str pa_nil)))) pa_nil))))) rfl)) pss_nil)))
        (pss_cons (ps_set (i := 11) nd rfl (Or.inl rfl) (pe_callB (call_reprK (U := wordIn Uc) hgd hu) (by rfl) T.rep (by decide +kernel) (pa_cons (pv 9) pa_nil)))
        (pss_cons (ps_if (PW.pt (pw_or (pt_cmpR op_ne (pe_callB (call_reprD hgd hu) (by rfl) T.rep (by decide +kernel) (pa_cons (pe_call G7.ok r4 rfl G7.g G7.kp G7.b .nil pass0 (pa_cons (pv 6) (pa_cons (pv 9) pa_nil))) pa_nil)) (pe_callB (call_reprD hgd hu) (by rfl) T.rep (by decide +kernel) (pa_cons (pe_call G8.ok r4 rfl G8.g G8.kp G8.b .nil pass0 (pa_cons (pv 6) (pa_cons (pv 9) pa_nil))) pa_nil)) (nomark _))
            (pw_or1 (pt_cmpR op_ne (pe_callB (call_reprK (U := wordIn Uc) hgd hu) (by rfl) T.rep (by decide +kernel) (pa_cons (pv 9) pa_nil)) (pv 11) (nomark _))))) (pss_one (ps_ret pe_bl)) pss_nil)
        (pss_one (ps_if (PW.pt (pw_or (pt_cmpR (op_neD hr.units) (pe_call G7.ok r4 rfl G7.g G7.kp G7.b .nil pass0 (pa_cons (pv 6) (pa_cons pe_dnewK pa_nil))) (pv 6) (nomark _))
            (pw_or1 (pt_cmpR op_ne (pe_callB (call_reprD hgd hu) (by rfl) T.rep (by decide +kernel) (pa_cons (pe_call G1.ok r4 rfl G1.g G1.kp G1.b .nil pass0 (pa_cons (pv 6) pa_nil)) pa_nil)) (pe_callB (call_reprD hgd hu) (by rfl) T.rep (by decide +kernel) (pa_cons (pe_call G2.ok r4 rfl G2.g G2.kp G2.b .nil pass0 (pa_cons (pv 6) pa_nil)) pa_nil)) (nomark _))))) (pss_one (ps_ret pe_bl)) pss_nil)))))))))))))))))))
      (pss_one (ps_ret pe_bl)), ?_⟩
    have big : (1000 : Nat) ≤ sizeLine := by decide
    refine ⟨_, rfl, _, _, rfl, .inl ⟨_, hsc, rfl⟩, _, _, rfl, _, _, rfl, ?_⟩
    generalize hj : (if (if ((ns.map V.int).length : Int) < 3 then ((ns.map V.int).length : Int) else 3) > 1 then (if ((ns.map V.int).length : Int) < 3 then ((ns.map V.int).length : Int) else 3) else 1) = j
    have j1 : 1 ≤ j ∧ j ≤ 3 := by
      rw [← hj]
      split <;> (split at * <;> omega)
    refine ⟨j, rfl, by omega, by omega, ?_⟩
    have sT : ∀ {b : Addr} {xs : List V} {H' : Hp}, SqL K H b xs → Same (delS [Pt] H) (delS [Pt] H') → SqL K H' b xs := fun {b xs H'} h s => by
      obtain ⟨ps, e, _⟩ := hT
      have key : ∀ {u : HO}, H b = some u → (∀ ps, u ≠ .tbl ps) → H' b = some u := fun {u} e' n => by
        have hb : b ∉ [Pt] := fun z => by
          rw [List.mem_singleton.mp z, e] at e'
          exact n ps (Option.some.inj e').symm
        exact (delS_inv (s b u (by rw [delS_of hb]; exact e'))).2
      rcases h with (h | ⟨o, h⟩) | h
      · exact .inl (.inl (key h fun ps z => by cases z))
      · exact .inl (.inr ⟨o, key h fun ps z => by cases z⟩)
      · exact .inr h
    refine for_it (walk_range (lo := 0) (n := j.toNat)) (fun i σ H' => ∃ c1 c2 c3 c4 c5 c6 c7 c8 c9 c10 c11 : Option V, σ = [some (.ref a), c1, c2, c3, c4, c5, c6, c7, c8, c9, c10, c11] ∧ Same (delS [Pt] H) (delS [Pt] H') ∧ TabS H' Pt qLam)
      ⟨none, none, none, none, none, none, none, none, none, none, none, rfl, Same.refl _, hT⟩ (fun _ _ _ _ _ => trivial) (fun i z σ Hx H0 hi hp hy => ?_) (fun σ H' hp => ?_)
    · obtain ⟨c1, c2, c3, c4, c5, c6, c7, c8, c9, c10, c11, rfl, sm0, t0⟩ := hp
      obtain ⟨rfl, hz⟩ := hy
      have hz : z = V.int (i : Int) := by
        rw [hz]
        show V.int (0 + (i : Int)) = _
        rw [Int.zero_add]
      subst hz
      have hi2 : i < 1000 := by omega
      refine ⟨_, rfl, _, rfl, a, ns, i, rfl, sT hsc sm0, hi2, fun p fx fy hp => ?_⟩
      have t1 : TabS (L2.upd H0 p (feedO fx fy)) Pt qLam := t0.ext (same_upd hp)
      refine ⟨_, rfl, p, fx, fy, rfl, upd_same, fun v ps x2 y2 H2 sx2 f2 hv hg => ?_⟩
      have t2 : TabS H2 Pt qLam := tab_upd t1 upd_same (fun ps z => by cases z) (fun c z => code_lst z.symm) sx2
      have W2 : Wk p Pt H2 H2 := ⟨⟨x2, y2, f2⟩, t2, Same.refl _⟩
      have dv := dp_tab t2 hv
      have g3 := good3 hg
      have sB : Same (delS [Pt] H) (delS [p, Pt] H2) := fun b o e => by
        obtain ⟨n, e0⟩ := delS_inv (sm0 b o e)
        have bp : b ≠ p := ne_of_none e0 hp
        rw [delS_of (by simp at n; simp [bp, n])]
        refine sx2 _ _ ?_ bp
        rw [upd_ne bp]
        exact e0
      refine ⟨5, rfl, by decide, by decide, ?_⟩
      refine for_it (walk_range (lo := 0) (n := (5 : Int).toNat)) (fun m σ H' => ∃ c4 c5 c6 c7 c8 c9 c10 c11 : Option V, σ = [some (.ref a), some (.int (i : Int)), some (.ref p), some v, c4, c5, c6, c7, c8, c9, c10, c11] ∧ Wk p Pt H2 H')
        ⟨_, _, _, _, _, _, _, _, rfl, W2⟩ (fun _ _ _ _ _ => trivial) (fun m z σ Hy H5 hm hp5 hy => ?_) (fun σ H5 hp5 => ?_)
      · obtain ⟨c4, c5, c6, c7, c8, c9, c10, c11, rfl, W5⟩ := hp5
        obtain ⟨rfl, _⟩ := hy
        obtain ⟨a5, b5, f5⟩ := W5.f
        refine ⟨_, rfl, trivial, fun pk us H6 s6 hn e1 e2 => ?_⟩
        have hpk : pk ≠ p := fun z => by rw [z, f5] at hn; cases hn
        have hus : us.length = 3 := dpAll_len e2
        have W6 := W5.same s6
        refine ⟨p, a5, b5, s6 _ _ f5, .inl ⟨pk, us, rfl, SqL.of (by rw [del_ne hpk]; exact e1), by omega, by omega, fun vz x7 y7 hvz => ?_⟩⟩
        obtain ⟨dz, hdz, hvd⟩ := dpAll_mem e2 hvz
        obtain ⟨zs, hzs, rfl⟩ := List.mem_map.mp hdz
        obtain ⟨la, rfl, hla⟩ := tx_vs hvd
        obtain ⟨z1, z2, z3⟩ := some3_ok zs hzs
        have hla7 : SqL K (L2.del (L2.upd H6 p (feedO x7 y7)) p) la (zs.map V.str) := by rw [del_upd]; exact Same.seq (nw_del f5) hla
        have f7 : (L2.upd H6 p (feedO x7 y7)) p = some (feedO x7 y7) := upd_same
        have W7 := W6.step (SameX.upd (SameX.refl p H6)) f7
        generalize (L2.upd H6 p (feedO x7 y7)) = H7 at hla7 f7 W7 ⊢
        refine ⟨_, rfl, _, rfl, _, rfl, p, v, la, ps, zs, x7, y7, 3, rfl, f7, dp_same delp_sub _ _ (W7.dp dv), hg, hla7, z1, z2, z3, by decide, fun vt d x8 y8 H8 sx8 f8 hvt ht fit => ?_⟩
        have W8 := W7.step sx8 f8
        have dt := dp_tab W8.t hvt
        have V8 := W8.re
        have hok := term_okN g3 3 d ht fit.dep
        have hsz : fsz d ≤ 40 := (term_fit g3 3 d ht fit.dep).2
        have hni := term_nice g3 ht fit.dep (by decide)
        have pf := parts_fit g3 ht fit.dep
        refine ⟨_, rfl, vt, d, rfl, dp_same delS_sub _ _ dt, hok, by omega, fun l us9 H9 s9 hl9 el9 hus9 => ?_⟩
        have V9 := V8.same s9
        have d9 := V9.dp dt
        refine ⟨_, rfl, .ref l, .ty "list", .type "list", .type "list", true, rfl, .ty _, .base (.lst el9), kit_ty (by decide +kernel), _, rfl, iteF ?_⟩
        have pdep : PyData.depth (.list (addAll [] (preD d))) ≤ 60 := Nat.le_trans pf.dep (by decide)
        refine ⟨_, rfl, .ref l, .list (addAll [] (preD d)), rfl, .lst (SqL.of el9) (dpAll_same delS_sub _ _ hus9), pf.sh, pf.nd, fit_shown pf (Nat.le_refl _), pdep, ?_⟩
        refine ⟨_, rfl, vt, d, delS [p, Pt] H9, rfl, delS_sub, d9, hni, Nat.lt_succ_of_le fit.dep, by omega, fun l2 us2 H10 s10 hl10 el10 hus10 => ?_⟩
        refine ⟨.ref l2, .list (addAll [] (preD d)), rfl, .lst (SqL.of el10) (dpAll_same (Same.trans delS_sub s10) _ _ hus10), pf.sh, pf.nd, fit_shown pf (Nat.le_refl _), pdep, ?_⟩
        refine ⟨rfl, _, rfl, ?_⟩
        refine iteNS rfl ?_
        have V10 := V9.same s10
        have d10 := V10.dp dt
        -- size
        refine ⟨_, rfl, vt, d, rfl, dp_same delS_sub _ _ d10, hok, by omega, fun H11 s11 => ?_⟩
        have V11 := V10.same s11
        refine ⟨_, rfl, vt, d, rfl, dp_same delS_sub _ _ (V11.dp dt), hok, Nat.lt_succ_of_le fit.dep, by omega, fun H12 s12 => ?_⟩
        have V12 := V11.same s12
        refine ⟨rfl, _, rfl, iteNS rfl ?_⟩
        -- told.append(None)
        have el12 : H12 l = some (.lst us9) := s12 _ _ (s11 _ _ (s10 _ _ el9))
        have lp : l ≠ p := fun z => by rw [z, f8] at hl9; cases hl9
        have lus9 : us9.length ≤ 40 := by
          rw [dpAll_len hus9]
          exact Nat.le_trans all_len hsz
        refine ⟨_, rfl, .inl ⟨rfl, _, SqL.of el12⟩, l, us9, V.non, rfl, rfl, el12, by omega, ?_⟩
        have V13 := V12.upd (u := .lst (us9 ++ [V.non])) el12 (fun ps z => by cases z) (fun c z => code_lst z.symm) lp (delS_none hl9)
        generalize (L2.upd H12 l (.lst (us9 ++ [V.non]))) = H13 at V13 ⊢
        -- variables
        refine ⟨_, rfl, vt, d, rfl, dp_same delS_sub _ _ (V13.dp dt), hok, by omega, fun l14 ls H14 s14 hl14 el14 nd14 mem14 srt14 => ?_⟩
        have V14 := V13.same s14
        have wls : ∀ z ∈ ls, wordIn Uc z = true := fun z hz => by
          have := (term_part g3 ht fit.dep ((mem14 z).mp hz)).1
          rw [isTerm] at this
          exact this
        have sf := strs_fit wls (Nat.le_trans (letters_len nd14 mem14) (by omega))
        refine ⟨_, rfl, .ref l14, .list (ls.map .str), rfl, .lst (SqL.of el14) (tx_dpAll ls), sf.sh, sf.nd, fit_shown sf (Nat.le_refl _), Nat.le_trans sf.dep (by decide), ?_⟩
        refine ⟨_, rfl, vt, d, rfl, dp_same delS_sub _ _ (V14.dp dt), hni, Nat.lt_succ_of_le fit.dep, by omega, ?_, fun l15 ls2 H15 s15 hl15 el15 pm15 srt15 => ?_⟩
        · have := strs_len (addAll [] (preD d))
          have := all_len (d := d)
          omega
        have V15 := V14.same s15
        obtain rfl := letters_eq nd14 mem14 srt14 pm15 srt15
        refine ⟨.ref l15, .list (ls.map .str), rfl, .lst (SqL.of el15) (tx_dpAll ls), sf.sh, sf.nd, fit_shown sf (Nat.le_refl _), Nat.le_trans sf.dep (by decide), ?_⟩
        refine ⟨rfl, _, rfl, iteNS rfl ?_⟩
        have d15 := V15.dp dt
        have dv15 : Dp K (delS [p, Pt] H15) v (psD ps) := V15.dp (W8.dp dv)
        have X15 := V15.re
        -- given
        refine fun gd hgd => ?_
        obtain ⟨a15, b15, f15⟩ := X15.f
        have gp : gd ≠ p := fun z => by rw [z, f15] at hgd; cases hgd
        have X16 : Wk p Pt H15 (L2.upd H15 gd (.dK [])) := X15.same (same_upd hgd)
        have e16 : (L2.upd H15 gd (.dK [])) gd = some (.dK []) := upd_same
        generalize (L2.upd H15 gd (.dK [])) = H16 at X16 e16 ⊢
        refine ⟨by show 4 ≤ sizeLine; decide, fun ll hll => ⟨_, rfl, ⟨_, SqL.of upd_same⟩, ?_⟩⟩
        have s17 := same_upd (o := .lst (let4.map V.str)) hll
        have X17 := X16.same s17
        have e17 := s17 _ _ e16
        have l17 : (L2.upd H16 ll (.lst (let4.map V.str))) ll = some (.lst (let4.map V.str)) := upd_same
        have llg : ll ≠ gd := fun z => by rw [z, e16] at hll; cases hll
        have llp : ll ≠ p := fun z => by
          obtain ⟨x, y, f⟩ := X16.f
          rw [z, f] at hll
          cases hll
        show _
        refine for_it (walk_list (xs := let4.map V.str)) (fun i' σ H' => ∃ (kvs : List (Key × V)) (G : List (Str × PyData)) (c10 : Option V), σ = [some (.ref a), some (.int (i : Int)), some (.ref p), some v, some z, some (.ref la), some vt, some (.ref l), some (.ref l14), some (.ref gd), c10, c11] ∧ Wk p Pt H15 H' ∧ H' gd = some (.dK kvs) ∧ H' ll = some (.lst (let4.map V.str)) ∧
            KvR K (delS [p, Pt] H') kvs G ∧ (∀ y ∈ G.map (·.1), y ∈ let4.take i') ∧ G.length ≤ i' ∧ ∀ q ∈ G, wordIn Uc q.1 = true ∧ isTerm ps q.2 = true ∧ q.2.depth ≤ 2)
          ⟨[], [], _, rfl, X17, e17, l17, .nil, by simp, Nat.zero_le _, by simp⟩ (fun i' σ H' hi' hp' => by obtain ⟨_, _, _, _, _, _, h, _⟩ := hp'; exact SqL.of h) (fun i' zz σ Hz H18 hi' hp' hy' => ?_) (fun σ H18 hp' => ?_)
        · obtain ⟨kvs, G, c10, rfl, W18, e18, l18, kv18, key18, len18, ok18⟩ := hp'
          obtain ⟨rfl, hyz⟩ := hy'
          obtain ⟨lz, hlz, rfl⟩ : ∃ y, let4[i']? = some y ∧ zz = V.str y := by
            rw [List.getElem?_map] at hyz
            cases e : let4[i']? with
            | none => rw [e] at hyz; cases hyz
            | some y => rw [e] at hyz; exact ⟨y, rfl, (Option.some.inj hyz).symm⟩
          have wlz : wordIn Uc lz = true := let4_ok.2 lz (List.mem_of_getElem? hlz)
          have hi4 : i' < 4 := (List.getElem?_eq_some_iff.mp hlz).1
          have ntk : lz ∉ let4.take i' := fun hm => by
            have nd4 := let4_ok.1
            have e1 : let4 = let4.take i' ++ lz :: let4.drop (i' + 1) := by
              obtain ⟨h1, h2⟩ := List.getElem?_eq_some_iff.mp hlz
              rw [← h2, List.getElem_cons_drop, List.take_append_drop]
            rw [e1] at nd4
            exact (List.nodup_append.mp nd4).2.2 lz hm lz List.mem_cons_self rfl
          have nG : lz ∉ G.map (·.1) := fun hm => ntk (key18 lz hm)
          have tk1 : ∀ y ∈ let4.take i', y ∈ let4.take (i' + 1) := fun y hy => by
            rw [List.take_succ]
            exact List.mem_append_left _ hy
          obtain ⟨a18, b18, f18⟩ := W18.f
          refine ⟨_, rfl, p, a18, b18, 3, rfl, f18, by decide, by decide, fun r x19 y19 hr0 hr1 => ?_⟩
          have f19 : (L2.upd H18 p (feedO x19 y19)) p = some (feedO x19 y19) := upd_same
          have sx19 : SameX p H18 (L2.upd H18 p (feedO x19 y19)) := SameX.upd (SameX.refl p H18)
          have W19 := W18.step sx19 f19
          have z19 : Same (delS [p, Pt] H18) (delS [p, Pt] (L2.upd H18 p (feedO x19 y19))) := (W18.re.step sx19 f19).s
          have kv19 := kv18.same z19
          have e19 := sx19 _ _ e18 gp
          have l19 := sx19 _ _ l18 llp
          generalize (L2.upd H18 p (feedO x19 y19)) = H19 at f19 W19 kv19 e19 l19 ⊢
          refine ⟨_, _, rfl, rfl, _, rfl, ?_⟩
          refine ite2 (fun _ => ?_) (fun _ => ?_)
          · refine ⟨_, rfl, _, rfl, (by show 3 ≤ sizeLine; decide), fun l3 hl3 => ?_⟩
            have s20 := same_upd (o := .lst (xyq.map V.str)) hl3
            have W20 := W19.same s20
            have z20 := (W19.re.same s20).s
            have kv20 := kv19.same z20
            have e20 := s20 _ _ e19
            have l20 := s20 _ _ l19
            have f20 := s20 _ _ f19
            have l3p : l3 ≠ p := fun z => by rw [z, f19] at hl3; cases hl3
            have g20 : (L2.upd H19 l3 (.lst (xyq.map V.str))) l3 = some (.lst (xyq.map V.str)) := upd_same
            show spTerm K 4 [.ref p, v, .int 2, .ref l3] (L2.upd H19 l3 (.lst (xyq.map V.str))) _ E0
            generalize (L2.upd H19 l3 (.lst (xyq.map V.str))) = H20 at W20 kv20 e20 l20 f20 g20 ⊢
            refine ⟨p, v, l3, ps, xyq, x19, y19, 2, rfl, f20, dp_same delp_sub _ _ (W20.dp dv15), hg, SqL.of (by rw [del_ne l3p]; exact g20), xyq_ok.1, xyq_ok.2.1, xyq_ok.2.2, by decide, fun vq dq x21 y21 H21 sx21 f21 hvq htq fitq => ?_⟩
            have W21 := W20.step sx21 f21
            have z21 := (W20.re.step sx21 f21).s
            have kv21 := kv20.same z21
            have dq21 := dp_tab W21.t hvq
            have e21 := sx21 _ _ e20 gp
            have l21 := sx21 _ _ l20 llp
            refine ⟨_, rfl, _, rfl, gd, _, rfl, DPut.k (k := Sum.inr lz) e21 (Nat.lt_of_lt_of_le (show kvs.length < 1000 by rw [kv21.lens]; omega) big), ?_⟩
            have eput : putK kvs (Sum.inr lz) vq = kvs ++ [(Sum.inr lz, vq)] := putK_new _ (kv21.none nG)
            rw [eput]
            refine ⟨kvs ++ [(Sum.inr lz, vq)], G ++ [(lz, dq)], _, rfl, W21.upd e21 (fun ps z => by cases z) (fun c z => code_dK z.symm) gp (delS_none hgd), upd_same, by rw [upd_ne llg]; exact l21, ?_, ?_, ?_, ?_⟩
            · refine kvR_tt (U := wordIn Uc) (fun b o e i => ?_) (fun q hq => ?_) (kv21.snoc dq21)
              · obtain ⟨n, e'⟩ := delS_inv e
                have bg : b ≠ gd := fun z => by
                  rw [z, e21] at e'
                  have := Option.some.inj e'
                  rcases i with ⟨xs, rfl⟩ | ⟨u, xs, rfl⟩ <;> cases this
                rw [delS_of n, upd_ne bg]
                exact e'
              · rcases List.mem_append.mp hq with hq | hq
                · obtain ⟨_, h2, h3⟩ := ok18 q hq
                  exact term_okN g3 2 _ h2 h3
                · rw [List.mem_singleton.mp hq]
                  exact term_okN g3 2 _ htq fitq.dep
            · intro y hy
              rw [List.map_append] at hy
              rcases List.mem_append.mp hy with hy | hy
              · exact tk1 y (key18 y hy)
              · rw [List.take_succ, hlz]
                exact List.mem_append_right _ hy
            · rw [List.length_append]
              exact Nat.succ_le_succ len18
            · intro q hq
              rcases List.mem_append.mp hq with hq | hq
              · exact ok18 q hq
              · rw [List.mem_singleton.mp hq]
                exact ⟨wlz, htq, fitq.dep⟩
          · exact ⟨kvs, G, _, rfl, W19, e19, l19, kv19, fun y hy => tk1 y (key18 y hy), Nat.le_succ_of_le len18, ok18⟩
        · obtain ⟨kvs, G, c10, rfl, W18, e18, l18, kv18, key18, len18, ok18⟩ := hp'
          have lG : G.length ≤ 4 := len18
          obtain ⟨ks1, ks2, ks3⟩ := dict_fit g3 lG ok18
          have okG : ∀ q ∈ G, okN (wordIn Uc) q.2 = true := fun q hq => term_okN g3 2 _ (ok18 q hq).2.1 (ok18 q hq).2.2
          have lkG : ∀ y t, lookG G y = some t → okN (wordIn Uc) t = true := fun y t e => okG _ (lookG_mem e)
          refine ⟨_, rfl, gd, kvs, G, rfl, e18, kv18.same delS_sub, okG, ks1, ks2, ks3, ?_⟩
          have X18 := W18.re
          have d18 := W18.dp d15
          have npP := W18.np
          have gP : gd ≠ Pt := tab_ne W18.t e18 fun ps z => by cases z
          have gin : gd ∉ [p, Pt] := by simp [gp, gP]
          have gin1 : gd ∉ [Pt] := by simp [gP]
          obtain ⟨htP, hdP⟩ := putD_term (m := 2) g3 (fun q hq => (ok18 q hq).2) 3 d ht fit.dep
          have pfit := (term_fit g3 5 _ htP hdP).1
          have wB5 : wB 5 ≤ 100000 := by decide
          refine ⟨_, rfl, _, rfl, vt, d, gd, kvs, G, rfl, W18.t, by rw [delS_of gin1]; exact e18, kv18.same delP_sub, okG, dp_same delP_sub _ _ d18, hok, by omega, fun r19 H19 s19 t19 hr19 => ?_⟩
          have X19 := X18.put s19 t19
          refine ⟨r19, putD G d, rfl, dp_same delS_sub _ _ hr19, pfit.sh, pfit.nd, fit_shown pfit wB5, Nat.le_trans pfit.dep (by decide), ?_⟩
          have e19' := X19.s gd _ (by rw [delS_of gin]; exact e18)
          have e19 := (delS_inv e19').2
          have kv19 := kv18.same X19.s
          have d19 := X19.dp d18
          refine ⟨_, rfl, _, rfl, vt, d, gd, kvs, G, delS [p, Pt] H19, rfl, delS_sub, e19', kv19, lkG, d19, hok, Nat.lt_succ_of_le fit.dep, by omega, fun r20 H20 s20 hr20 => ?_⟩
          have X20 := X19.same s20
          refine ⟨r20, putD G d, rfl, hr20, pfit.sh, pfit.nd, fit_shown pfit wB5, Nat.le_trans pfit.dep (by decide), ?_⟩
          refine ⟨rfl, _, rfl, iteNS rfl ?_⟩
          refine ⟨_, rfl, gd, kvs, G, rfl, s20 _ _ e19, (kv19.same (delS_sub)).same s20, okG, ks1, ks2, ks3, ?_⟩
          refine ⟨_, rfl, rfl, _, rfl, iteNS rfl ?_⟩
          have d20 := X20.dp d18
          -- put(term, {})
          refine ⟨_, rfl, fun g2 hg2 => ?_⟩
          have s21 := same_upd (o := .dK []) hg2
          have X21 := X20.same s21
          have e21 : (L2.upd H20 g2 (.dK [])) g2 = some (.dK []) := upd_same
          generalize (L2.upd H20 g2 (.dK [])) = H21 at X21 e21 ⊢
          have g2P : g2 ∉ [Pt] := by simpa using tab_ne X21.t e21 fun ps z => by cases z
          refine ⟨vt, d, g2, [], [], rfl, X21.t, by rw [delS_of g2P]; exact e21, .nil, by simp, dp_same delP_sub _ _ (X21.dp d18), hok, by omega, fun r22 H22 s22 t22 hr22 => ?_⟩
          have X22 := X21.put s22 t22
          rw [putD_nil] at hr22
          have shd : SeqAt.shaped d = true := shaped_of fit.lay (Nat.le_trans fit.dep (by decide))
          refine ⟨_, rfl, d, d, dp_same delS_sub _ _ hr22, dp_same delS_sub _ _ (X22.dp d18), shd, shd, _, rfl, ?_⟩
          rw [SeqAt.eqv_refl _ fit.lay]
          refine iteF ?_
          -- parts again
          refine ⟨_, rfl, vt, d, rfl, dp_same delS_sub _ _ (X22.dp d18), hok, by omega, fun l9 us9' H23 s23 hl23 el23 hus23 => ?_⟩
          have X23 := X22.same s23
          refine ⟨.ref l9, .list (addAll [] (preD d)), rfl, .lst (SqL.of el23) (dpAll_same delS_sub _ _ hus23), pf.sh, pf.nd, fit_shown pf (Nat.le_refl _), pdep, ?_⟩
          refine ⟨_, rfl, vt, d, delS [p, Pt] H23, rfl, delS_sub, X23.dp d18, hni, Nat.lt_succ_of_le fit.dep, by omega, fun l10 us10' H24 s24 hl24 el24 hus24 => ?_⟩
          refine ⟨.ref l10, .list (addAll [] (preD d)), rfl, .lst (SqL.of el24) (dpAll_same (Same.trans delS_sub s24) _ _ hus24), pf.sh, pf.nd, fit_shown pf (Nat.le_refl _), pdep, ?_⟩
          refine ⟨rfl, _, rfl, iteNS rfl ?_⟩
          exact ⟨_, _, _, _, _, _, _, _, rfl, (W8.of (V15.of W18)).of (X23.same s24)⟩
      · obtain ⟨c4, c5, c6, c7, c8, c9, c10, c11, rfl, W5⟩ := hp5
        exact ⟨_, _, _, _, _, _, _, _, _, _, _, rfl, Same.trans sB (Same.trans W5.s delP_sub), W5.t⟩
    · obtain ⟨c1, c2, c3, c4, c5, c6, c7, c8, c9, c10, c11, rfl, sm0, t0⟩ := hp
      exact q H'
end
end Sg

set_option maxRecDepth 100000
set_option maxHeartbeats 4000000
namespace Gd
open PySem L2 PySem.Spec PyProof.Rows
/-- the only thing tracked at the law's entry: the script, where it is no object of the top's -/
def scr (K : PySem.W.Frag) (a : Addr) (vs : List Value) (ns : List Int) : Hp := fun b => if b = a ∧ K.lookup a = none then some (.frz { cls := .type "list", data := .seq vs.toArray } (.lst (ns.map V.int))) else none
section
variable {P : Program} {w : World} {K : PySem.W.Frag} {mg mb : Str → Option Value} {CX : CXT} {k : Nat} {fa a : Addr} {fd : FuncData} {x : Str} {sp : Sp} {s₁ : Shared} {vs : List Value} {ns : List Int}
theorem lawG (KX : K.In s₁.heap) (hns : s₁.heap.Ns mainGlobals mg) (hb : s₁.heap.Ns builtinsNs mb) (hbb : ∀ x : Str, x ≠ "__name__" → mb x = bootBuiltins x) (hlim : s₁.heap.NoLimit) (hg : s₁.gens = #[])
    (ha : s₁.heap.get? a = some { cls := .type "list", data := .seq vs.toArray }) (hi : IntsAre vs ns) (hl : ns.length ≤ sizeLine) (hr : Room k callerA)
    (F : ∀ base : Heap, K.In base → base.Ns mainGlobals mg → FnG P w K mg base CX k fa fd [x] sp) (hbind : ∀ (s : Shared) (u : Value), BindsTo s fd ⟨[u], []⟩ [(x, u)])
    (hsp : ∀ H : Hp, SqL K H a (ns.map V.int) → sp [.ref a] H (fun v _ => v = .bl true) fun _ _ _ => False)
    (hCX : ∀ H e s', CX [] H s₁ (fun _ _ _ => False) e s' → False) :
    codeAny (model P w) callerA (.call (.ref fa) ⟨[.ref a], []⟩) (fun r s' => r = .ok (.ret (.bool true)) ∧ OldK s₁.heap s'.heap ∧ s'.os = s₁.os ∧ AllBare s'.gens) s₁ := by
  have rv := vals_ints hi
  have lv := hi.length
  generalize hH : scr K a vs ns = H
  have cs : ∀ b, H b = none ∨ (b = a ∧ K.lookup a = none ∧ H b = some (.frz { cls := .type "list", data := .seq vs.toArray } (.lst (ns.map V.int)))) := fun b => by
    subst hH
    unfold scr
    by_cases z : b = a ∧ K.lookup a = none
    · rw [if_pos z]
      exact Or.inr ⟨z.1, z.2, rfl⟩
    · rw [if_neg z]
      exact Or.inl rfl
  have hS : SqL K H a (ns.map V.int) := by
    cases z : K.lookup a with
    | none =>
      refine .inl (.inr ⟨{ cls := .type "list", data := .seq vs.toArray }, ?_⟩)
      subst hH
      exact if_pos ⟨rfl, z⟩
    | some o =>
      have y := (KX a o z).symm.trans ha
      cases y
      exact .inr ⟨_, vs.toArray, _, z, rfl, rfl, rfl, by rw [List.size_toArray, lv]; exact hl, by simpa using rv⟩
  have hok : HOk P w H s₁.heap := fun b u e => by
    rcases cs b with z | ⟨rfl, _, z⟩
    · rw [z] at e
      cases e
    · rw [z] at e
      cases e
      exact ⟨ha, by rw [List.length_map]; exact hl, vs, _, rv, ha⟩
  have nh : ∀ {b o}, s₁.heap.get? b = some o → (∀ es ep, o.data = .dict es ep → True) → (b = a → K.lookup a = none → False) → H b = none := fun {b o} _ _ n => by
    rcases cs b with z | ⟨z1, z2, _⟩
    · exact z
    · exact (n z1 z2).elim
  have nsB : ∀ {b : Addr} {m : Str → Option Value}, s₁.heap.Ns b m → (hidT s₁.heap H).Ns b m := by
    rintro b m ⟨o, es, ep, e, d, r⟩
    refine ⟨o, es, ep, hidT_get e (nh e (fun _ _ _ => trivial) fun z _ => ?_), d, r⟩
    subst z
    rw [ha] at e
    cases e
    cases d
  have kB : K.In (hidT s₁.heap H) := fun b o e => hidT_get (KX b o e) (nh (KX b o e) (fun _ _ _ => trivial) fun z1 z2 => by rw [z1, z2] at e; cases e)
  obtain ⟨mc, c1, c2⟩ := hlim
  have hM : Mod K mg (hidT s₁.heap H) := ⟨kB, nsB hns, ⟨mb, nsB hb, hbb⟩, mc, nsB c1, c2⟩
  have e0 : Env0 P w K mg (hidT s₁.heap H) callerA [] s₁ H := ⟨rfl, hM, fun b o e => of_hidT e, Nat.le_of_eq (hidT_size _ _), trivial, (fun b z => by cases z), hok, .of_eq hg⟩
  refine codeAny_mono ((F _ kB (nsB hns)).go callerA [] s₁ H ⟨[.ref a], []⟩ [.ref a] [.ref a] _ _ rfl hr e0 (hbind s₁ (.ref a)) (.cons rfl .nil) (hsp H hS)) ?_
  intro r s' h
  cases r with
  | error e => exact (hCX H e s' h).elim
  | ok fl =>
    cases fl with
    | ret u =>
      obtain ⟨v, H', os, bare, un, hok', r', q⟩ := h
      obtain rfl : v = .bl true := q
      obtain rfl : u = Value.bool true := r'
      refine ⟨rfl, OldK.of_keep fun b o e => ?_, os, bare⟩
      rcases cs b with z | ⟨rfl, _, z⟩
      · exact un.keep b o e z (fun y => by cases y) (fun y => by cases y)
      · have z2 := un.frzs b _ _ z
        rw [ha] at e
        cases e
        exact (hok' b _ z2).1
    | next => exact False.elim h
    | brk => exact False.elim h
    | cont => exact False.elim h
end
/-- the goal that the head leaves, from the law's promise -/
theorem walkG {l : PySem.W.OpenLaw} {n k : Nat} {q : Program} {loose : List Str} {XP : (Str → Option Value) → Heap → Prop} {YP : World → Heap → Prop} {d : DefRec} {K : Params → PySem.W.Frag} {CX : World → CXT} {sp : World → Sp} {x : Str}
    (hn : l.most = some n) (hn2 : n ≤ sizeLine) (hdf : d.params.defaults = []) (hr : Room k callerA) (hY : ∀ (w : World) (h : Heap), YP w h → (K w.params).In h)
    (F : ∀ (w : World) (mg : Str → Option Value) (fa : Addr) (h : Heap), (K w.params).In h → h.Ns mainGlobals mg → mg d.name = some (.ref fa) →
      ∃ fd : FuncData, (∀ (s : Shared) (u : Value), BindsTo s fd ⟨[u], []⟩ [(x, u)]) ∧ ∀ base : Heap, (K w.params).In base → base.Ns mainGlobals mg → FnG l.prog w (K w.params) mg base (CX w) k fa fd [x] (sp w))
    (hsp : ∀ (w : World) (H : Hp) (a : Addr) (ns : List Int), ns.length ≤ n → (∀ z ∈ ns, Builtin.Int.intBits z ≤ 1048576) → SqL (K w.params) H a (ns.map V.int) → sp w [.ref a] H (fun v _ => v = .bl true) fun _ _ _ => False)
    (hCX : ∀ (w : World) (H : Hp) (s : Shared) (e : Value) (s' : Shared), CX w [] H s (fun _ _ _ => False) e s' → False) :
    PySem.W.WalkO q loose XP YP l.row.toRowW d [] (fun f vs => PySem.call f vs) := by
  refine Att.attach_callB hn hdf ?_
  intro w s₀ s₁ mg mb fa o pm cd doc a vs ns G Y ho hd hcd hmg hobj hints hlen hbits hg
  obtain ⟨fd, hb, hF⟩ := F w mg fa _ (hY w _ Y) G.T.g hmg
  exact lawG (hY w _ Y) G.T.g G.T.b G.T.builtins G.T.nolimit hg hobj hints (Nat.le_trans hlen hn2) hr hF hb (fun H hS => hsp w H a ns hlen hbits hS) fun H e s' => hCX w H s₁ e s'
end Gd

set_option maxRecDepth 100000
set_option maxHeartbeats 4000000
/-! the end of a law where no guard stands and one def's code object has a table -/
namespace Gd
open PySem L2 PySem.Spec PyProof.Rows LamX
def scrT (K : PySem.W.Frag) (a : Addr) (vs : List Value) (ns : List Int) (T : Addr) : Hp := fun b => if b = T then some (.tbl #[]) else scr K a vs ns b
section
variable {P : Program} {w : World} {K : PySem.W.Frag} {mg mb : Str → Option Value} {CX : CXT} {k : Nat} {fa a c T : Addr} {fd : FuncData} {x : Str} {sp : Sp} {s₁ : Shared} {vs : List Value} {ns : List Int}
theorem lawGT (KX : K.In s₁.heap) (hns : s₁.heap.Ns mainGlobals mg) (hb : s₁.heap.Ns builtinsNs mb) (hbb : ∀ x : Str, x ≠ "__name__" → mb x = bootBuiltins x) (hlim : s₁.heap.NoLimit) (hg : s₁.gens = #[])
    (hT : s₁.heap.get? T = some { cls := .none, data := .fields #[] }) (nT : K.lookup T = none) (C : PySem.W.CodeHd s₁.heap c T)
    (hbm : ∃ (bm : Addr) (ob : Obj), mg "__builtins__" = some (.ref bm) ∧ bm ≠ builtinsNs ∧ s₁.heap.get? bm = some ob ∧ ob.cls = .type "module" ∧ ob.dict = some builtinsNs ∧ ob.data = .plain)
    (ha : s₁.heap.get? a = some { cls := .type "list", data := .seq vs.toArray }) (hi : IntsAre vs ns) (hl : ns.length ≤ sizeLine) (hr : Room k callerA)
    (F : ∀ base : Heap, K.In base → base.Ns mainGlobals mg → TabB base mg c T → FnG P w K mg base CX k fa fd [x] sp) (hbind : ∀ (s : Shared) (u : Value), BindsTo s fd ⟨[u], []⟩ [(x, u)])
    (hsp : ∀ H : Hp, SqL K H a (ns.map V.int) → H T = some (.tbl #[]) → sp [.ref a] H (fun v _ => v = .bl true) fun _ _ _ => False)
    (hCX : ∀ H e s', CX [] H s₁ (fun _ _ _ => False) e s' → False) :
    codeAny (model P w) callerA (.call (.ref fa) ⟨[.ref a], []⟩) (fun r s' => r = .ok (.ret (.bool true)) ∧ OldK s₁.heap s'.heap ∧ s'.os = s₁.os ∧ AllBare s'.gens) s₁ := by
  have rv := vals_ints hi
  have lv := hi.length
  have aT : a ≠ T := fun z => by
    rw [z, hT] at ha
    cases ha
  generalize hH : scrT K a vs ns T = H
  have hHT : H T = some (.tbl #[]) := by
    subst hH
    exact if_pos rfl
  have cs : ∀ b, b = T ∨ H b = none ∨ (b = a ∧ K.lookup a = none ∧ H b = some (.frz { cls := .type "list", data := .seq vs.toArray } (.lst (ns.map V.int)))) := fun b => by
    by_cases e : b = T
    · exact Or.inl e
    · refine Or.inr ?_
      subst hH
      unfold scrT scr
      rw [if_neg e]
      by_cases z : b = a ∧ K.lookup a = none
      · rw [if_pos z]
        exact Or.inr ⟨z.1, z.2, rfl⟩
      · rw [if_neg z]
        exact Or.inl rfl
  have hS : SqL K H a (ns.map V.int) := by
    cases z : K.lookup a with
    | none =>
      refine .inl (.inr ⟨{ cls := .type "list", data := .seq vs.toArray }, ?_⟩)
      subst hH
      unfold scrT
      rw [if_neg aT]
      exact if_pos ⟨rfl, z⟩
    | some o =>
      have y := (KX a o z).symm.trans ha
      cases y
      exact .inr ⟨_, vs.toArray, _, z, rfl, rfl, rfl, by rw [List.size_toArray, lv]; exact hl, by simpa using rv⟩
  have hok : HOk P w H s₁.heap := fun b u e => by
    rcases cs b with rfl | z | ⟨rfl, _, z⟩
    · rw [hHT] at e
      cases e
      exact hT
    · rw [z] at e
      cases e
    · rw [z] at e
      cases e
      exact ⟨ha, by rw [List.length_map]; exact hl, vs, _, rv, ha⟩
  have nh : ∀ {b o}, s₁.heap.get? b = some o → b ≠ T → (b = a → K.lookup a = none → False) → H b = none := fun {b o} _ n1 n => by
    rcases cs b with z | z | ⟨z1, z2, _⟩
    · exact absurd z n1
    · exact z
    · exact (n z1 z2).elim
  have nsB : ∀ {b : Addr} {m : Str → Option Value}, s₁.heap.Ns b m → (hidT s₁.heap H).Ns b m := by
    rintro b m ⟨o, es, ep, e, d, r⟩
    refine ⟨o, es, ep, hidT_get e (nh e (fun z => ?_) fun z _ => ?_), d, r⟩
    · rw [z, hT] at e
      cases e
      cases d
    · subst z
      rw [ha] at e
      cases e
      cases d
  have kB : K.In (hidT s₁.heap H) := fun b o e => hidT_get (KX b o e) (nh (KX b o e) (fun z => by rw [z, nT] at e; cases e) fun z1 z2 => by rw [z1, z2] at e; cases e)
  have other : ∀ {b : Addr} {o : Obj}, s₁.heap.get? b = some o → (∀ vs n, o.data ≠ .seq vs n) → o.data ≠ .fields #[] → (hidT s₁.heap H).get? b = some o := fun {b o} e h1 h2 => by
    refine hidT_get e (nh e (fun z => ?_) fun z _ => ?_)
    · rw [z, hT] at e
      cases e
      exact h2 rfl
    · rw [z, ha] at e
      cases e
      exact h1 _ _ rfl
  obtain ⟨mc, c1, c2⟩ := hlim
  have hM : Mod K mg (hidT s₁.heap H) := ⟨kB, nsB hns, ⟨mb, nsB hb, hbb⟩, mc, nsB c1, c2⟩
  have TB : TabB (hidT s₁.heap H) mg c T := by
    refine ⟨?_, ?_, fun z => ?_⟩
    · obtain ⟨o, us, file, tf, flags, tg, inF, text, tt, e1, q1, q2, q3, q⟩ := C
      refine ⟨o, us, file, tf, flags, tg, inF, text, tt, other e1 (fun vs n z => ?_) (fun z => ?_), q1, q2, q3, q⟩
      · rw [q2] at z; cases z
      · rw [q2] at z
        cases z
        simp at q3
    · obtain ⟨bm, ob, b1, b2, b3, b4, b5, b6⟩ := hbm
      refine ⟨bm, ob, b1, b2, fun z => ?_, fun z => ?_, other b3 (fun vs n z => ?_) (fun z => ?_), b4, b5, b6⟩
      · obtain ⟨o, es, ep, e, hd, _⟩ := hns
        rw [z, e] at b3
        cases b3
        rw [hd] at b6
        cases b6
      · rw [z, hT] at b3
        cases b3
        cases b6
      · rw [b6] at z; cases z
      · rw [b6] at z; cases z
    · obtain ⟨o, es, ep, e, hd, _⟩ := hns
      rw [z, hT] at e
      cases e
      cases hd
  have e0 : Env0 P w K mg (hidT s₁.heap H) callerA [] s₁ H := ⟨rfl, hM, fun b o e => of_hidT e, Nat.le_of_eq (hidT_size _ _), trivial, (fun b z => by cases z), hok, .of_eq hg⟩
  refine codeAny_mono ((F _ kB (nsB hns) TB).go callerA [] s₁ H ⟨[.ref a], []⟩ [.ref a] [.ref a] _ _ rfl hr e0 (hbind s₁ (.ref a)) (.cons rfl .nil) (hsp H hS hHT)) ?_
  intro r s' h
  cases r with
  | error e => exact (hCX H e s' h).elim
  | ok fl =>
    cases fl with
    | ret u =>
      obtain ⟨v, H', os, bare, un, hok', r', q⟩ := h
      obtain rfl : v = .bl true := q
      obtain rfl : u = Value.bool true := r'
      have key : ∀ b o, b ≠ T → s₁.heap.get? b = some o → s'.heap.get? b = some o := fun b o n e => by
        rcases cs b with z | z | ⟨rfl, _, z⟩
        · exact absurd z n
        · exact un.keep b o e z (fun y => by cases y) (fun y => by cases y)
        · have z2 := un.frzs b _ _ z
          rw [ha] at e
          cases e
          exact (hok' b _ z2).1
      obtain ⟨more, zt⟩ := un.tbls T #[] hHT
      have hm : s'.heap.get? T = some { cls := .none, data := .fields (#[] ++ more) } := hok' T _ zt
      refine ⟨rfl, ⟨fun b o e => ?_, fun b o e => ?_⟩, os, bare⟩
      · by_cases n : b = T
        · subst n
          rw [hT] at e
          cases e
          exact .inr (.inl ⟨(C.tab hT).isCodeTable, rfl, #[], more, rfl, hm⟩)
        · exact .inl (key b o n e)
      · by_cases n : b = T
        · subst n
          exact ⟨_, hm⟩
        · exact ⟨o, key b o n e⟩
    | next => exact False.elim h
    | brk => exact False.elim h
    | cont => exact False.elim h
end
/-- the goal that the head leaves; ts: the tables of code objects that it names -/
theorem walkGT {l : PySem.W.OpenLaw} {n k : Nat} {q : Program} {loose : List Str} {XP : (Str → Option Value) → Heap → Prop} {YP : World → Heap → Prop} {d : DefRec} {K : Params → PySem.W.Frag} {CX : World → CXT} {sp : World → Addr → Sp} {x : Str} {ts : List Addr}
    (hn : l.most = some n) (hn2 : n ≤ sizeLine) (hdf : d.params.defaults = []) (hr : Room k callerA) (hY : ∀ (w : World) (h : Heap), YP w h → (K w.params).In h)
    (hts : ∀ (w : World) (h : Heap), YP w h → ∀ T ∈ ts, h.get? T = some { cls := .none, data := .fields #[] })
    (F : ∀ (w : World) (mg : Str → Option Value) (fa : Addr) (h : Heap), (K w.params).In h → h.Ns mainGlobals mg → mg d.name = some (.ref fa) →
      ∃ (fd : FuncData) (c T : Addr), T ∈ ts ∧ PySem.W.codeHdIn (K w.params) c T = true ∧ (K w.params).lookup T = none ∧ (∀ (s : Shared) (u : Value), BindsTo s fd ⟨[u], []⟩ [(x, u)]) ∧ ∀ base : Heap, (K w.params).In base → base.Ns mainGlobals mg → TabB base mg c T → FnG l.prog w (K w.params) mg base (CX w) k fa fd [x] (sp w T))
    (hsp : ∀ (w : World) (H : Hp) (a T : Addr) (ns : List Int), ns.length ≤ n → (∀ z ∈ ns, Builtin.Int.intBits z ≤ 1048576) → SqL (K w.params) H a (ns.map V.int) → H T = some (.tbl #[]) → sp w T [.ref a] H (fun v _ => v = .bl true) fun _ _ _ => False)
    (hCX : ∀ (w : World) (H : Hp) (s : Shared) (e : Value) (s' : Shared), CX w [] H s (fun _ _ _ => False) e s' → False) :
    PySem.W.WalkO q loose XP YP l.row.toRowW d [] (fun f vs => PySem.call f vs) := by
  refine Att.attach_callB hn hdf ?_
  intro w s₀ s₁ mg mb fa o pm cd doc a vs ns G Y ho hd hcd hmg hobj hints hlen hbits hg
  obtain ⟨fd, c, T, hm, hc, hout, hb, hF⟩ := F w mg fa _ (hY w _ Y) G.T.g hmg
  exact lawGT (hY w _ Y) G.T.g G.T.b G.T.builtins G.T.nolimit hg (hts w _ Y T hm) hout (PySem.W.codeHd_of_K (hY w _ Y) hc) G.T.bmain hobj hints (Nat.le_trans hlen hn2) hr hF hb (fun H hS hHT => hsp w H a T ns hlen hbits hS hHT) fun H e s' => hCX w H s₁ e s'
end Gd

set_option maxRecDepth 100000
set_option maxHeartbeats 8000000
namespace Sg
open PySem PySem.W PySem.Spec PyProof.Rows L2 Dr Gd Er Cm LD CM XT RT LM LamX NdefX
theorem all_mk {l : OpenLaw} {w : World} {K : Frag} {h : Heap} {mg : Str → Option Value} {ts : List Addr} {fa CN cT T g0 g1 g2 g3 g4 g5 g6 g7 g8 g9 g10 g11 g12 g13 g14 g15 g16 g17 g18 g19 g20 g21 g22 : Addr} {od0 an0 od1 an1 od2 an2 od3 an3 od4 an4 od5 an5 od6 an6 od7 an7 od8 an8 od9 an9 od10 an10 od11 an11 od12 an12 od13 an13 od14 an14 od15 an15 od16 an16 od17 an17 od18 an18 od19 an19 od20 an20 od21 an21 od22 an22 : Option Addr} {sl0 sl1 sl2 sl3 sl4 sl5 sl6 sl7 sl8 sl9 sl10 sl11 sl12 sl13 sl14 sl15 sl16 sl17 sl18 sl19 sl20 sl21 sl22 : Array (Option Value)} {oc0 kV0 dc0 pm0 cd0 ct0 oc1 kV1 dc1 pm1 cd1 ct1 oc2 kV2 dc2 pm2 cd2 ct2 oc3 kV3 dc3 pm3 cd3 ct3 oc4 kV4 dc4 pm4 cd4 ct4 oc5 kV5 dc5 pm5 cd5 ct5 oc6 kV6 dc6 pm6 cd6 ct6 oc7 kV7 dc7 pm7 cd7 ct7 oc8 kV8 dc8 pm8 cd8 ct8 oc9 kV9 dc9 pm9 cd9 ct9 oc10 kV10 dc10 pm10 cd10 ct10 oc11 kV11 dc11 pm11 cd11 ct11 oc12 kV12 dc12 pm12 cd12 ct12 oc13 kV13 dc13 pm13 cd13 ct13 oc14 kV14 dc14 pm14 cd14 ct14 oc15 kV15 dc15 pm15 cd15 ct15 oc16 kV16 dc16 pm16 cd16 ct16 oc17 kV17 dc17 pm17 cd17 ct17 oc18 kV18 dc18 pm18 cd18 ct18 oc19 kV19 dc19 pm19 cd19 ct19 oc20 kV20 dc20 pm20 cd20 ct20 oc21 kV21 dc21 pm21 cd21 ct21 oc22 kV22 dc22 pm22 cd22 ct22 : Value} (X : K.In h) (G : h.Ns mainGlobals mg) (hfa : mg "law" = some (.ref fa))
    (a0 : nsIn K mainGlobals "folded" = some (some (.ref g0))) (l0 : K.lookup g0 = some ⟨oc0, od0, .func (fnOf "folded" "folded" (defArgs sFolded) (defBody sFolded) (defScope sFolded) .none kV0 dc0 pm0 an0 cd0 ct0), sl0⟩) (d0 : codeIn K cd0 "folded" = true) (k0 : keepIn K (.ref g0) = true)
    (a1 : nsIn K mainGlobals "arguments" = some (some (.ref g1))) (l1 : K.lookup g1 = some ⟨oc1, od1, .func (fnOf "arguments" "arguments" (defArgs sArgs) (defBody sArgs) (defScope sArgs) .none kV1 dc1 pm1 an1 cd1 ct1), sl1⟩) (d1 : codeIn K cd1 "arguments" = true) (k1 : keepIn K (.ref g1) = true)
    (a2 : nsIn K mainGlobals "parts" = some (some (.ref g2))) (l2 : K.lookup g2 = some ⟨oc2, od2, .func (fnOf "parts" "parts" (defArgs sParts) (defBody sParts) (defScope sParts) .none kV2 dc2 pm2 an2 cd2 ct2), sl2⟩) (d2 : codeIn K cd2 "parts" = true) (k2 : keepIn K (.ref g2) = true)
    (a3 : nsIn K mainGlobals "variables" = some (some (.ref g3))) (l3 : K.lookup g3 = some ⟨oc3, od3, .func (fnOf "variables" "variables" (defArgs sVars) (defBody sVars) (defScope sVars) .none kV3 dc3 pm3 an3 cd3 ct3), sl3⟩) (d3 : codeIn K cd3 "variables" = true) (k3 : keepIn K (.ref g3) = true)
    (a4 : nsIn K mainGlobals "size" = some (some (.ref g4))) (l4 : K.lookup g4 = some ⟨oc4, od4, .func (fnOf "size" "size" (defArgs sSize) (defBody sSize) (defScope sSize) .none kV4 dc4 pm4 an4 cd4 ct4), sl4⟩) (d4 : codeIn K cd4 "size" = true) (k4 : keepIn K (.ref g4) = true)
    (a5 : nsIn K mainGlobals "_with_doubles" = some (some (.ref g5))) (l5 : K.lookup g5 = some ⟨oc5, od5, .func (fnOf "_with_doubles" "_with_doubles" (defArgs sWD) (defBody sWD) (defScope sWD) .none kV5 dc5 pm5 an5 cd5 ct5), sl5⟩) (d5 : codeIn K cd5 "_with_doubles" = true) (k5 : keepIn K (.ref g5) = true)
    (a6 : nsIn K mainGlobals "put" = some (some (.ref g6))) (l6 : K.lookup g6 = some ⟨oc6, od6, .func (fnOf "put" "put" (defArgs sPut) (defBody sPut) (defScope sPut) .none kV6 dc6 pm6 an6 cd6 ct6), sl6⟩) (d6 : codeIn K cd6 "put" = true) (k6 : keepIn K (.ref g6) = true)
    (a7 : nsIn K mainGlobals "_put_whole" = some (some (.ref g7))) (l7 : K.lookup g7 = some ⟨oc7, od7, .func (fnOf "_put_whole" "_put_whole" (defArgs sPW) (defBody sPW) (defScope sPW) .none kV7 dc7 pm7 an7 cd7 ct7), sl7⟩) (d7 : codeIn K cd7 "_put_whole" = true) (k7 : keepIn K (.ref g7) = true)
    (a8 : nsIn K mainGlobals "_law_feed" = some (some (.ref g8))) (l8 : K.lookup g8 = some ⟨oc8, od8, .func (fnOf "_law_feed" "_law_feed" (defArgs sFeed) (defBody sFeed) (defScope sFeed) .none kV8 dc8 pm8 an8 cd8 ct8), sl8⟩) (d8 : codeIn K cd8 "_law_feed" = true) (k8 : keepIn K (.ref g8) = true)
    (a9 : nsIn K mainGlobals "_law_take" = some (some (.ref g9))) (l9 : K.lookup g9 = some ⟨oc9, od9, .func (fnOf "_law_take" "_law_take" (defArgs sTake) (defBody sTake) (defScope sTake) .none kV9 dc9 pm9 an9 cd9 ct9), sl9⟩) (d9 : codeIn K cd9 "_law_take" = true) (k9 : keepIn K (.ref g9) = true)
    (a10 : nsIn K mainGlobals "_law_pick" = some (some (.ref g10))) (l10 : K.lookup g10 = some ⟨oc10, od10, .func (fnOf "_law_pick" "_law_pick" (defArgs sPick) (defBody sPick) (defScope sPick) .none kV10 dc10 pm10 an10 cd10 ct10), sl10⟩) (d10 : codeIn K cd10 "_law_pick" = true) (k10 : keepIn K (.ref g10) = true)
    (a11 : nsIn K mainGlobals "_law_known_signs" = some (some (.ref g11))) (l11 : K.lookup g11 = some ⟨oc11, od11, .func (fnOf "_law_known_signs" "_law_known_signs" (defArgs sKnown) (defBody sKnown) (defScope sKnown) .none kV11 dc11 pm11 an11 cd11 ct11), sl11⟩) (d11 : codeIn K cd11 "_law_known_signs" = true) (k11 : keepIn K (.ref g11) = true)
    (a12 : nsIn K mainGlobals "_law_drawn_signs" = some (some (.ref g12))) (l12 : K.lookup g12 = some ⟨oc12, od12, .func (fnOf "_law_drawn_signs" "_law_drawn_signs" (defArgs sDrawn) (defBody sDrawn) (defScope sDrawn) .none kV12 dc12 pm12 an12 cd12 ct12), sl12⟩) (d12 : codeIn K cd12 "_law_drawn_signs" = true) (k12 : keepIn K (.ref g12) = true)
    (a13 : nsIn K mainGlobals "_law_term" = some (some (.ref g13))) (l13 : K.lookup g13 = some ⟨oc13, od13, .func (fnOf "_law_term" "_law_term" (defArgs sTerm) (defBody sTerm) (defScope sTerm) .none kV13 dc13 pm13 an13 cd13 ct13), sl13⟩) (d13 : codeIn K cd13 "_law_term" = true) (k13 : keepIn K (.ref g13) = true)
    (a14 : nsIn K mainGlobals "_law_parts" = some (some (.ref g14))) (l14 : K.lookup g14 = some ⟨oc14, od14, .func (fnOf "_law_parts" "_law_parts" (defArgs sLParts) (defBody sLParts) (defScope sLParts) .none kV14 dc14 pm14 an14 cd14 ct14), sl14⟩) (d14 : codeIn K cd14 "_law_parts" = true) (k14 : keepIn K (.ref g14) = true)
    (a15 : nsIn K mainGlobals "_law_letters" = some (some (.ref g15))) (l15 : K.lookup g15 = some ⟨oc15, od15, .func (fnOf "_law_letters" "_law_letters" (defArgs sLLet) (defBody sLLet) (defScope sLLet) .none kV15 dc15 pm15 an15 cd15 ct15), sl15⟩) (d15 : codeIn K cd15 "_law_letters" = true) (k15 : keepIn K (.ref g15) = true)
    (a16 : nsIn K mainGlobals "_law_put" = some (some (.ref g16))) (l16 : K.lookup g16 = some ⟨oc16, od16, .func (fnOf "_law_put" "_law_put" (defArgs sLPut) (defBody sLPut) (defScope sLPut) .none kV16 dc16 pm16 an16 cd16 ct16), sl16⟩) (d16 : codeIn K cd16 "_law_put" = true) (k16 : keepIn K (.ref g16) = true)
    (a17 : nsIn K mainGlobals "_law_size" = some (some (.ref g17))) (l17 : K.lookup g17 = some ⟨oc17, od17, .func (fnOf "_law_size" "_law_size" (defArgs sLSize) (defBody sLSize) (defScope sLSize) .none kV17 dc17 pm17 an17 cd17 ct17), sl17⟩) (d17 : codeIn K cd17 "_law_size" = true) (k17 : keepIn K (.ref g17) = true)
    (a18 : nsIn K mainGlobals "law" = some (some (.ref g18))) (l18 : K.lookup g18 = some ⟨oc18, od18, .func (fnOf "law" "law" (defArgs sLaw3) (defBody sLaw3) (defScope sLaw3) .none kV18 dc18 pm18 an18 cd18 ct18), sl18⟩) (d18 : codeIn K cd18 "law" = true) (k18 : keepIn K (.ref g18) = true)
    (aN : nsIn K mainGlobals "Numbered" = some (some (.ref CN))) (kN : keepIn K (.ref CN) = true) (mkN : makesIn K CN = true) (pgN : plainGet K CN Str.empty = true) (hdN : hasDictIn K CN = true) (poN : plainOver K CN = true) (saN : findIn K (.ref CN) "__setattr__" = some (some (.builtin "object.__setattr__"))) (n1N : findIn K (.ref CN) "terms" = some none) (n2N : findIn K (.ref CN) "heads" = some none) (n3N : findIn K (.ref CN) "places" = some none) (n4N : findIn K (.ref CN) "_known" = some none)
    (fa19 : findIn K (.ref CN) "__init__" = some (some (.ref g19))) (fn19 : isFn K (.ref g19) = true)
    (l19 : K.lookup g19 = some ⟨oc19, od19, .func (fnOf "__init__" "Numbered.__init__" (defArgs sNInit) (defBody sNInit) (defScope sNInit) .none kV19 dc19 pm19 an19 cd19 ct19), sl19⟩) (d19 : codeIn K cd19 "Numbered.__init__" = true) (k19 : keepIn K (.ref g19) = true)
    (fa20 : findIn K (.ref CN) "take" = some (some (.ref g20))) (fn20 : isFn K (.ref g20) = true)
    (l20 : K.lookup g20 = some ⟨oc20, od20, .func (fnOf "take" "Numbered.take" (defArgs sTake_) (defBody sTake_) (defScope sTake_) .none kV20 dc20 pm20 an20 cd20 ct20), sl20⟩) (d20 : codeIn K cd20 "Numbered.take" = true) (k20 : keepIn K (.ref g20) = true)
    (fa21 : findIn K (.ref CN) "_take_whole" = some (some (.ref g21))) (fn21 : isFn K (.ref g21) = true)
    (gf21 : specialIn K (.ref g21) "__get__" = some (some (.builtin "function.__get__"))) (tk21 : takesIn K (.ref g21) = some false) (fi21 : fnIn K g21 = true)
    (l21 : K.lookup g21 = some ⟨oc21, od21, .func (fnOf "_take_whole" "Numbered._take_whole" (defArgs sTW) (defBody sTW) (defScope sTW) .none kV21 dc21 pm21 an21 cd21 ct21), sl21⟩) (d21 : codeIn K cd21 "Numbered._take_whole" = true) (k21 : keepIn K (.ref g21) = true)
    (fa22 : findIn K (.ref CN) "parts_of" = some (some (.ref g22))) (fn22 : isFn K (.ref g22) = true)
    (l22 : K.lookup g22 = some ⟨oc22, od22, .func (fnOf "parts_of" "Numbered.parts_of" (defArgs sPartsOf) (defBody sPartsOf) (defScope sPartsOf) .none kV22 dc22 pm22 an22 cd22 ct22), sl22⟩) (d22 : codeIn K cd22 "Numbered.parts_of" = true) (k22 : keepIn K (.ref g22) = true)
    (z0 : nsIn K mainGlobals "isinstance" = some none) (z1 : nsIn K mainGlobals "list" = some none) (z2 : nsIn K mainGlobals "str" = some none) (z3 : nsIn K mainGlobals "len" = some none) (z4 : nsIn K mainGlobals "tuple" = some none) (z5 : nsIn K mainGlobals "sorted" = some none) (z6 : nsIn K mainGlobals "sum" = some none) (z7 : nsIn K mainGlobals "max" = some none) (z8 : nsIn K mainGlobals "abs" = some none) (z9 : nsIn K mainGlobals "int" = some none) (z10 : nsIn K mainGlobals "range" = some none) (z11 : nsIn K mainGlobals "min" = some none) (z12 : nsIn K mainGlobals "repr" = some none)
    (hcd : cd6 = .ref cT) (hts : T ∈ ts) (hhd : codeHdIn K cT T = true) (hout : K.lookup T = none)
    : ∃ (fd : FuncData) (c T : Addr), T ∈ ts ∧ codeHdIn K c T = true ∧ K.lookup T = none ∧ (∀ (s : Shared) (v : Value), BindsTo s fd ⟨[v], []⟩ [("script", v)]) ∧ ∀ base : Heap, K.In base → base.Ns mainGlobals mg → TabB base mg c T → FnG l.prog w K mg base CX0 7 fa fd ["script"] (spLaw3 K T) := by
  have e := hfa.symm.trans (mg_of X G a18)
  cases e
  have nn := fun {y : Str} (z : nsIn K mainGlobals y = some none) => mg_none_of X G z
  have F0 := fun_mk (st := sFolded) l0 d0 k0
  have B0 := F0.binds (ps := ["root", "children", "made"]) fun _ _ _ _ _ _ us hl => match us, hl with | [_, _, _], _ => rfl
  have F1 := fun_mk (st := sArgs) l1 d1 k1
  have B1 := F1.binds (ps := ["term"]) fun _ _ _ _ _ _ us hl => match us, hl with | [_], _ => rfl
  have F2 := fun_mk (st := sParts) l2 d2 k2
  have B2 := F2.binds (ps := ["term"]) fun _ _ _ _ _ _ us hl => match us, hl with | [_], _ => rfl
  have F3 := fun_mk (st := sVars) l3 d3 k3
  have B3 := F3.binds (ps := ["term"]) fun _ _ _ _ _ _ us hl => match us, hl with | [_], _ => rfl
  have F4 := fun_mk (st := sSize) l4 d4 k4
  have B4 := F4.binds (ps := ["term"]) fun _ _ _ _ _ _ us hl => match us, hl with | [_], _ => rfl
  have F5 := fun_mk (st := sWD) l5 d5 k5
  have B5 := F5.binds (ps := ["term"]) fun _ _ _ _ _ _ us hl => match us, hl with | [_], _ => rfl
  have F6 := fun_mk (st := sPut) l6 d6 k6
  have B6 := F6.binds (ps := ["term", "given"]) fun _ _ _ _ _ _ us hl => match us, hl with | [_, _], _ => rfl
  have F7 := fun_mk (st := sPW) l7 d7 k7
  have B7 := F7.binds (ps := ["part", "told", "given"]) fun _ _ _ _ _ _ us hl => match us, hl with | [_, _, _], _ => rfl
  have F8 := fun_mk (st := sFeed) l8 d8 k8
  have B8 := F8.binds (ps := ["script", "k"]) fun _ _ _ _ _ _ us hl => match us, hl with | [_, _], _ => rfl
  have F9 := fun_mk (st := sTake) l9 d9 k9
  have B9 := F9.binds (ps := ["feed", "many"]) fun _ _ _ _ _ _ us hl => match us, hl with | [_, _], _ => rfl
  have F10 := fun_mk (st := sPick) l10 d10 k10
  have B10 := F10.binds (ps := ["feed", "some"]) fun _ _ _ _ _ _ us hl => match us, hl with | [_, _], _ => rfl
  have F11 := fun_mk (st := sKnown) l11 d11 k11
  have B11 := F11.binds (ps := []) fun _ _ _ _ _ _ us hl => match us, hl with | [], _ => rfl
  have F12 := fun_mk (st := sDrawn) l12 d12 k12
  have B12 := F12.binds (ps := ["feed"]) fun _ _ _ _ _ _ us hl => match us, hl with | [_], _ => rfl
  have F13 := fun_mk (st := sTerm) l13 d13 k13
  have B13 := F13.binds (ps := ["feed", "pairs", "deep", "letters"]) fun _ _ _ _ _ _ us hl => match us, hl with | [_, _, _, _], _ => rfl
  have F14 := fun_mk (st := sLParts) l14 d14 k14
  have B14 := F14.binds (ps := ["term"]) fun _ _ _ _ _ _ us hl => match us, hl with | [_], _ => rfl
  have F15 := fun_mk (st := sLLet) l15 d15 k15
  have B15 := F15.binds (ps := ["term"]) fun _ _ _ _ _ _ us hl => match us, hl with | [_], _ => rfl
  have F16 := fun_mk (st := sLPut) l16 d16 k16
  have B16 := F16.binds (ps := ["term", "given"]) fun _ _ _ _ _ _ us hl => match us, hl with | [_, _], _ => rfl
  have F17 := fun_mk (st := sLSize) l17 d17 k17
  have B17 := F17.binds (ps := ["term"]) fun _ _ _ _ _ _ us hl => match us, hl with | [_], _ => rfl
  have F18 := fun_mk (st := sLaw3) l18 d18 k18
  have F19 := fun_mk (st := sNInit) l19 d19 k19
  have B19 := F19.binds (ps := ["self"]) fun _ _ _ _ _ _ us hl => match us, hl with | [_], _ => rfl
  have F20 := fun_mk (st := sTake_) l20 d20 k20
  have B20 := F20.binds (ps := ["self", "term"]) fun _ _ _ _ _ _ us hl => match us, hl with | [_, _], _ => rfl
  have F21 := fun_mk (st := sTW) l21 d21 k21
  have B21 := F21.binds (ps := ["self", "term", "places"]) fun _ _ _ _ _ _ us hl => match us, hl with | [_, _, _], _ => rfl
  have F22 := fun_mk (st := sPartsOf) l22 d22 k22
  have B22 := F22.binds (ps := ["self", "number"]) fun _ _ _ _ _ _ us hl => match us, hl with | [_, _], _ => rfl
  have DT : DTxt mg := ⟨(nn z3), (nn z7), (nn z8), (nn z9)⟩
  have NT : NTxt mg := ⟨(nn z0), (nn z2), (nn z3), (nn z4)⟩
  have LT : LTxt3 mg := ⟨(nn z10), (nn z7), (nn z11), (nn z3), (nn z1), (nn z12), (nn z0)⟩
  have NC : NCl K CN := ⟨⟨pgN, hdN, poN, saN⟩, n1N, n2N, n3N, n4N⟩
  have hc : (fnOf "put" "put" (defArgs sPut) (defBody sPut) (defScope sPut) .none kV6 dc6 pm6 an6 cd6 ct6 : FuncData).code = .ref cT := hcd
  refine ⟨fnOf "law" "law" (defArgs sLaw3) (defBody sLaw3) (defScope sLaw3) .none kV18 dc18 pm18 an18 cd18 ct18, cT, T, hts, hhd, hout, fun s v => .of_eq rfl, fun base _ _ TB => ?_⟩
  have FA : FnOk l.prog w K mg base CX0 1 g1 _ ["term"] (spArgs K) := ok_args F1 (nn z0) (nn z1) (nn z2)
  have FTW : FnOk l.prog w K mg base CX0 1 g21 _ ["self", "term", "places"] (spTW K CN (wordIn Uc)) := ok_TW F21 NT NC
  have FG : FnR l.prog w K mg base CX0 1 g21 (spTW K CN (wordIn Uc)) := (FTW.raw B21 .nil).imp fun vs H Q E h => by rw [List.append_nil]; exact h
  have FF : FnOk l.prog w K mg base CX0 2 g0 _ ["root", "children", "made"] (spFold K g1 g21 (spTW K CN (wordIn Uc))) := ok_folded (k := 0) F0 (nn z3) FA B1 k1 FG fi21
  have FTk : FnOk l.prog w K mg base CX0 3 g20 _ ["self", "term"] (spTakeN K CN (wordIn Uc)) := ok_takeN F20 NC ⟨⟨fa21, fn21, k21⟩, gf21, tk21, (by decide), fi21⟩ (mg_of X G a0) k0 B0 (mg_of X G a1) FF
  have FPo : FnOk l.prog w K mg base CX0 1 g22 _ ["self", "number"] (spPartsOf K CN (wordIn Uc)) := ok_partsOf F22 NC (nn z1)
  have FI : FnOk l.prog w K mg base CX0 1 g19 _ ["self"] (spNInit K CN (wordIn Uc)) := ok_ninit F19 NC
  have GF : Cal l.prog w K mg base CX0 1 "_law_feed" g8 _ ["script", "k"] (spFeed K) := ⟨ok_feed F8 DT, mg_of X G a8, k8, B8⟩
  have GT : Cal l.prog w K mg base CX0 1 "_law_take" g9 _ ["feed", "many"] spTake := ⟨ok_take F9 DT, mg_of X G a9, k9, B9⟩
  have GP : Cal l.prog w K mg base CX0 2 "_law_pick" g10 _ ["feed", "some"] (spPick K) := ⟨ok_pick F10 DT F9 B9 (mg_of X G a9), mg_of X G a10, k10, B10⟩
  have GK : Cal l.prog w K mg base CX0 1 "_law_known_signs" g11 _ [] (spKnown K) := ⟨ok_known F11, mg_of X G a11, k11, B11⟩
  have GD : Cal l.prog w K mg base CX0 3 "_law_drawn_signs" g12 _ ["feed"] (spDrawn K) := ⟨ok_drawn F12 GT GP GK (nn z9) (nn z10), mg_of X G a12, k12, B12⟩
  have GM : Cal l.prog w K mg base CX0 6 "_law_term" g13 _ ["feed", "pairs", "deep", "letters"] (spTerm K 4) := ⟨ok_term F13 (mg_of X G a13) GT GP (nn z7) (nn z4) (nn z10) 4, mg_of X G a13, k13, B13⟩
  have G1 : Cal l.prog w K mg base CX0 4 "parts" g2 _ ["term"] (spParts K (wordIn Uc)) := ⟨ok_parts F2 NC ⟨mkN, fa19, fn19, kN⟩ (mg_of X G aN) FI B19 ⟨fa20, fn20, k20⟩ FTk B20 ⟨fa22, fn22, k22⟩ FPo B22, mg_of X G a2, k2, B2⟩
  have G2 : Cal l.prog w K mg base CX0 4 "_law_parts" g14 _ ["term"] (spLParts K (wordIn Uc) 4) := ⟨ok_lparts F14 (mg_of X G a14) (nn z0) (nn z4) 4, mg_of X G a14, k14, B14⟩
  have GW : Cal l.prog w K mg base CX0 2 "_with_doubles" g5 _ ["term"] (spWD K (wordIn Uc)) := ⟨ok_wd F5 (mg_of X G a1) k1 B1 FA, mg_of X G a5, k5, B5⟩
  have G3 : Cal l.prog w K mg base CX0 3 "size" g4 _ ["term"] (spSize K (wordIn Uc)) := ⟨ok_size F4 (nn z3) GW.g GW.kp GW.b GW.ok, mg_of X G a4, k4, B4⟩
  have G4 : Cal l.prog w K mg base CX0 4 "_law_size" g17 _ ["term"] (spLSize K (wordIn Uc) 4) := ⟨ok_lsize F17 (mg_of X G a17) (nn z0) (nn z2) (nn z6) 4, mg_of X G a17, k17, B17⟩
  have G5 : Cal l.prog w K mg base CX0 3 "variables" g3 _ ["term"] (spVars K (wordIn Uc)) := ⟨ok_vars F3 (nn z0) (nn z2) (nn z5) GW.g GW.kp GW.b GW.ok, mg_of X G a3, k3, B3⟩
  have G6 : Cal l.prog w K mg base CX0 5 "_law_letters" g15 _ ["term"] (spLLet K (wordIn Uc) 4) := ⟨ok_llet F15 (nn z0) (nn z2) (nn z5) G2.g G2.kp G2.b G2.ok, mg_of X G a15, k15, B15⟩
  have GPw : Cal l.prog w K mg base CX0 1 "_put_whole" g7 _ ["part", "told", "given"] (spPW K (wordIn Uc)) := ⟨ok_pw F7 (nn z0) (nn z2), mg_of X G a7, k7, B7⟩
  have FC : ∀ cl, FnC l.prog w K mg base 3 g0 _ ["root", "children", "made"] cl ["given"] (spFoldC K g1 qLam (mkL cl) (lamB sPut) (spLam K (wordIn Uc))) := fun cl => ok_foldedC (k := 1) F0 (nn z3) FA B1 k1 (lok_put cl GPw.g GPw.kp GPw.b GPw.ok) fun _ => rfl
  have G7 : Cal l.prog w K mg base CX0 4 "put" g6 _ ["term", "given"] (spPut K (wordIn Uc) T qLam) := ⟨ok_put F6 hc TB (mg_of X G a1) (mg_of X G a0) k0 B0 FC, mg_of X G a6, k6, B6⟩
  have G8 : Cal l.prog w K mg base CX0 4 "_law_put" g16 _ ["term", "given"] (spLPut K (wordIn Uc) 4) := ⟨ok_lput F16 (mg_of X G a16) (nn z0) (nn z2) (nn z4) 4, mg_of X G a16, k16, B16⟩
  exact ok_law3 F18 LT GF GD GT GP GM G1 G2 G3 G4 G5 G6 G7 G8
theorem walk {l : OpenLaw} {q : Program} {loose : List Str} {XP : (Str → Option Value) → Heap → Prop} {YP : World → Heap → Prop} {d : DefRec} {K : Params → Frag} {ts : List Addr} (hn : l.most = some 63) (hdf : d.params.defaults = []) (hY : ∀ (w : World) (h : Heap), YP w h → (K w.params).In h) (hts : ∀ (w : World) (h : Heap), YP w h → ∀ T ∈ ts, h.get? T = some { cls := .none, data := .fields #[] })
    (F : ∀ (w : World) (mg : Str → Option Value) (fa : Addr) (h : Heap), (K w.params).In h → h.Ns mainGlobals mg → mg d.name = some (.ref fa) →
      ∃ (fd : FuncData) (c T : Addr), T ∈ ts ∧ codeHdIn (K w.params) c T = true ∧ (K w.params).lookup T = none ∧ (∀ (s : Shared) (u : Value), BindsTo s fd ⟨[u], []⟩ [("script", u)]) ∧ ∀ base : Heap, (K w.params).In base → base.Ns mainGlobals mg → TabB base mg c T → FnG l.prog w (K w.params) mg base CX0 7 fa fd ["script"] (spLaw3 (K w.params) T)) :
    WalkO q loose XP YP l.row.toRowW d [] (fun f vs => PySem.call f vs) :=
  walkGT (n := 63) (k := 7) (x := "script") (CX := fun _ => CX0) (sp := fun w T => spLaw3 (K w.params) T) hn (by decide) hdf ⟨rfl, by decide, by decide⟩ hY hts F (fun _ _ a T ns hl _ hS hT => ⟨a, ns, rfl, hS, Nat.lt_of_le_of_lt hl (by decide), TabS.nil hT, fun _ => rfl⟩) fun _ _ _ _ _ z => z
end Sg

open PySem PySem.W PyProof.Rows
set_option maxRecDepth 100000 in
set_option maxHeartbeats 0 in
theorem PySem.Challenge.cw_shutbyrings_k03_parts_variables_put_holds : PySem.Challenge.rw_shutbyrings_k03_parts_variables_put.Holds := by
  w_on; o_law; k_head; (case hw => w_witness2)
  k_fill
  refine Sg.walk (l := PySem.Challenge.rw_shutbyrings_k03_parts_variables_put) rfl rfl (fun w h Y => PySem.W.km_in_of Y) (fun w h Y => PySem.W.km_tabs_of Y) ?F
  case F =>
    intro w mg fa h KX G hmg
    refine' Sg.all_mk KX G hmg ?a0 ?l0 ?d0 ?k0 ?a1 ?l1 ?d1 ?k1 ?a2 ?l2 ?d2 ?k2 ?a3 ?l3 ?d3 ?k3 ?a4 ?l4 ?d4 ?k4 ?a5 ?l5 ?d5 ?k5 ?a6 ?l6 ?d6 ?k6 ?a7 ?l7 ?d7 ?k7 ?a8 ?l8 ?d8 ?k8 ?a9 ?l9 ?d9 ?k9 ?a10 ?l10 ?d10 ?k10 ?a11 ?l11 ?d11 ?k11 ?a12 ?l12 ?d12 ?k12 ?a13 ?l13 ?d13 ?k13 ?a14 ?l14 ?d14 ?k14 ?a15 ?l15 ?d15 ?k15 ?a16 ?l16 ?d16 ?k16 ?a17 ?l17 ?d17 ?k17 ?a18 ?l18 ?d18 ?k18 ?aN ?kN ?mkN ?pgN ?hdN ?poN ?saN ?n1N ?n2N ?n3N ?n4N ?fa19 ?fn19 ?l19 ?d19 ?k19 ?fa20 ?fn20 ?l20 ?d20 ?k20 ?fa21 ?fn21 ?gf21 ?tk21 ?fi21 ?l21 ?d21 ?k21 ?fa22 ?fn22 ?l22 ?d22 ?k22 ?z0 ?z1 ?z2 ?z3 ?z4 ?z5 ?z6 ?z7 ?z8 ?z9 ?z10 ?z11 ?z12 ?hcd ?hts ?hhd ?hout
    (case a0 => k_is)
    (case l0 => k_is)
    (case d0 => k_is)
    (case k0 => k_is)
    (case a1 => k_is)
    (case l1 => k_is)
    (case d1 => k_is)
    (case k1 => k_is)
    (case a2 => k_is)
    (case l2 => k_is)
    (case d2 => k_is)
    (case k2 => k_is)
    (case a3 => k_is)
    (case l3 => k_is)
    (case d3 => k_is)
    (case k3 => k_is)
    (case a4 => k_is)
    (case l4 => k_is)
    (case d4 => k_is)
    (case k4 => k_is)
    (case a5 => k_is)
    (case l5 => k_is)
    (case d5 => k_is)
    (case k5 => k_is)
    (case a6 => k_is)
    (case l6 => k_is)
    (case d6 => k_is)
    (case k6 => k_is)
    (case a7 => k_is)
    (case l7 => k_is)
    (case d7 => k_is)
    (case k7 => k_is)
    (case a8 => k_is)
    (case l8 => k_is)
    (case d8 => k_is)
    (case k8 => k_is)
    (case a9 => k_is)
    (case l9 => k_is)
    (case d9 => k_is)
    (case k9 => k_is)
    (case a10 => k_is)
    (case l10 => k_is)
    (case d10 => k_is)
    (case k10 => k_is)
    (case a11 => k_is)
    (case l11 => k_is)
    (case d11 => k_is)
    (case k11 => k_is)
    (case a12 => k_is)
    (case l12 => k_is)
    (case d12 => k_is)
    (case k12 => k_is)
    (case a13 => k_is)
    (case l13 => k_is)
    (case d13 => k_is)
    (case k13 => k_is)
    (case a14 => k_is)
    (case l14 => k_is)
    (case d14 => k_is)
    (case k14 => k_is)
    (case a15 => k_is)
    (case l15 => k_is)
    (case d15 => k_is)
    (case k15 => k_is)
    (case a16 => k_is)
    (case l16 => k_is)
    (case d16 => k_is)
    (case k16 => k_is)
    (case a17 => k_is)
    (case l17 => k_is)
    (case d17 => k_is)
    (case k17 => k_is)
    (case a18 => k_is)
    (case l18 => k_is)
    (case d18 => k_is)
    (case k18 => k_is)
    (case aN => k_is)
    (case kN => k_is)
    (case mkN => k_is)
    (case pgN => k_is)
    (case hdN => k_is)
    (case poN => k_is)
    (case saN => k_is)
    (case n1N => k_is)
    (case n2N => k_is)
    (case n3N => k_is)
    (case n4N => k_is)
    (case fa19 => k_is)
    (case fn19 => k_is)
    (case l19 => k_is)
    (case d19 => k_is)
    (case k19 => k_is)
    (case fa20 => k_is)
    (case fn20 => k_is)
    (case l20 => k_is)
    (case d20 => k_is)
    (case k20 => k_is)
    (case fa21 => k_is)
    (case fn21 => k_is)
    (case gf21 => k_is)
    (case tk21 => k_is)
    (case fi21 => k_is)
    (case l21 => k_is)
    (case d21 => k_is)
    (case k21 => k_is)
    (case fa22 => k_is)
    (case fn22 => k_is)
    (case l22 => k_is)
    (case d22 => k_is)
    (case k22 => k_is)
    (case z0 => k_is)
    (case z1 => k_is)
    (case z2 => k_is)
    (case z3 => k_is)
    (case z4 => k_is)
    (case z5 => k_is)
    (case z6 => k_is)
    (case z7 => k_is)
    (case z8 => k_is)
    (case z9 => k_is)
    (case z10 => k_is)
    (case z11 => k_is)
    (case z12 => k_is)
    (case hcd => rfl)
    (case hts => exact List.mem_singleton.mpr rfl)
    (case hhd => kernel_rfl)
    (case hout => kernel_rfl)
