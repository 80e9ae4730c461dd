import PyProof.Rows.All
import Wide.All
import OpenK.AllK
import Wide.FinOn
import HandS.Base
import HandS.Call
import HandS.List
import HandS.Ends
import HandS.EndBits
import HandS.Words
import HandS.WordsList
import HandS.More
import KE.KExcSuper
import HandS.Exc
import HandS.ExcInit
import HandS.ExcField
import HandS.ExcIs
import KE.KExcIs
import HandS.ExcOwn
import HandS.TryMany
import HandS.WordsExc
import HandS.OwnEq
import HandS.IsInst
import HandS.NamedTupSort
import HandS.ForMost
import HandS.Walk
import HandS.ListItems
import HandS.Property
import HandS.Style
import PyProof.ReprLen
import HandS.TupAny
import HandS.TupMul
import PyProof.Rows.StrMeet
import KE.SortData
import HandS.Deep
import HandS.Comp
import HandS.Star
import PyProof.Rows.SeqMore
import HandS.Codes
import PyProof.NeKinds
import PySem.Challenge.RW_shutbyrings_k09_what_is_an_order
set_option Elab.async false
set_option linter.all false
set_option maxRecDepth 100000
set_option maxHeartbeats 2000000
/-! A promise of a def that is called where no guard stands (so that repr may be asked in it). -/
namespace Gd
open PySem L2 PySem.Spec PyProof.Rows
structure FnG (P : Program) (w : World) (K : PySem.W.Frag) (mg : Str → Option Value) (base : Heap) (CX : CXT) (k : Nat) (f : Addr) (fd : FuncData) (ps : List Str) (sp : Sp) : Prop where
  len : ∀ vs H Q E, sp vs H Q E → vs.length = ps.length
  go : ∀ (A : Around) (outer : List Env) (s : Shared) (H : Hp) (args : Args) (us : List Value) (vs : List V) (Q : VK) (E : XK),
    A.guards = some [] → Room k A → Env0 P w K mg base A outer s H → BindsTo s fd args (ps.zip us) → Vals vs us →
    sp vs H Q E → codeAny (model P w) A (.call (.ref f) args) (CR CX outer P w H s Q E) s
section
variable {P : Program} {w : World} {K : PySem.W.Frag} {mg : Str → Option Value} {base : Heap} {CX : CXT} {k : Nat} {f : Addr} {fd : FuncData} {ps : List Str} {sp : Sp}
theorem FnG.of (F : FnOk P w K mg base CX k f fd ps sp) : FnG P w K mg base CX k f fd ps sp := ⟨F.len, fun A o s H a us vs Q E _ => F.run A o s H a us vs Q E⟩
theorem FnG.weaker {sp' : Sp} (F : FnG P w K mg base CX k f fd ps sp) (h : ∀ vs H Q E, sp' vs H Q E → sp vs H Q E) : FnG P w K mg base CX k f fd ps sp' :=
  ⟨fun vs H Q E q => F.len vs H Q E (h _ _ _ _ q), fun A o s H a us vs Q E g r e b v q => F.go A o s H a us vs Q E g r e b v (h _ _ _ _ q)⟩
theorem okG {x qual : Str} {st : Stmt} {N : List Str} (F : Fun K x qual st f fd) (S : FnScope N ps (defScope st)) (len : ∀ vs H Q E, sp vs H Q E → vs.length = ps.length)
    (body : ∀ (cdv : Value) (A : Around) (outer : List Env) (s : Shared) (H : Hp) (vs : List V) (Q : VK) (E : XK), A.guards = some [] →
      Room k (A.deeper (envOfC qual (defScope st) s.heap.objs.size f cdv)) → sp vs H Q E →
      ∃ t, PSs (cxOf CX P w K mg base N qual (defScope st) f cdv A outer s H E).nox (defBody st) t ∧ t { nx := fun _ H' => Q .non H', rt := Q } (start N vs) H) :
    FnG P w K mg base CX (k + 1) f fd ps sp := by
  obtain ⟨oc, od, kV, doc, pm, an, cdv, ct, osl, rfl, lk, hcd⟩ := F.ex
  constructor
  · exact len
  · intro A outer s H args us vs Q E hg hr e0 hb r hsp
    have nl := len _ _ _ _ hsp
    have kb : ∀ b o, base.get? b = some o → s.heap.get? b = some o := fun b o z => (e0.bs b o z).1
    have KX : K.In s.heap := e0.mod.kin.keeps kb
    have kinds : ∀ y ∈ ps.zip us, (defScope st).names.lookup y.1 = some .local ∨ ((defScope st).names.lookup y.1 = some .cell ∧ ((cellsFrom (s.heap.objs.size + 1) (defScope st).names []).lookup y.1).isSome = true) := by
      rintro ⟨n, v⟩ hy
      cases S.par n (List.of_mem_zip hy).1 with
      | inl q => exact Or.inl q
      | inr q => exact Or.inr ⟨q, PySem.W.cellsFrom_some _ _ _ (Or.inl q)⟩
    refine codeAny_call_function hr.depth (KX _ _ lk) rfl S.co S.gen rfl (PySem.W.codeRec_of KX hcd) (hb _ _ _ _ (wpAny_newFunctionEnv_cells S.kind kinds fun env he s1 x => ?_))
    subst he
    obtain ⟨t, ht, hq⟩ := body cdv A outer s H vs Q E hg (hr.deeper _) hsp
    refine ⟨(e0.mod.nolimit.keeps kb).keeps x.toInCall.keep, codeAny_func ?_⟩
    refine wpAny_mono (ht.nox.run [] s1 (start N vs) H _ (inv_start S hr.hd e0 nl r x) hq) (fun fl s' hs => ?_) fun e s' hs => hs
    cases fl with
    | ret u =>
      obtain ⟨v, σ', H', J, rv, q⟩ := hs
      exact ⟨v, H', J.os, J.bare, J.base, J.hok, rv, q⟩
    | next =>
      obtain ⟨σ', H', J, q⟩ := hs
      exact ⟨V.non, H', J.os, J.bare, J.base, J.hok, rfl, q⟩
    | brk => exact hs.choose_spec.choose_spec.2.elim
    | cont => exact hs.choose_spec.choose_spec.2.elim
end
section
variable {X : Cx} {CX : CXT} {k : Nat} {f : Addr} {fd : FuncData} {ps : List Str} {sp : Sp} {dvs : List V} {ds : List Value} {E : XK} {x : Str} {p pos : Pos} {e : Expr} {es : List Expr} {t : TA}
theorem runG {pins : List (Addr × Obj)} {σ : L2.St} {H : Hp} {s : Shared} {Q : VK} {us : List Value} {vs : List V} (F : FnG X.prog X.w X.K X.mg X.base CX k f fd ps sp) (hg : X.A.guards = some []) (hr : Room k X.A)
    (hb : L2.Binds X.K fd ps ds) (hd : Vals dvs ds) (hx : Passes CX X E) (I : Inv X pins σ H s) (r : Vals vs us) (h : sp (vs ++ dvs) H Q E) :
    wpAny (model X.prog X.w) X.A (call (.ref f) us) (EP X pins σ Q) X.xe s := by
  have r2 := r.append hd
  have nl : (us ++ ds).length = ps.length := r2.length.symm.trans (F.len _ _ _ _ h)
  refine wpAny_call (codeAny_mono (F.go X.A X.stack s H ⟨us, []⟩ _ _ Q E hg hr I.env0 (hb s us I.kIn nl) r2 h) ?_)
  intro r s' hq
  cases r with
  | error er => exact hx pins σ H s er s' I hq
  | ok fl => cases fl <;> first | exact I.after hq | exact False.elim hq
/-- f(e, ..) where f's promise asks that no guard stands -/
theorem pe_callG (F : FnG X.prog X.w X.K X.mg X.base CX k f fd ps sp) (hgd : X.A.guards = some []) (hr : Room k X.A) (hg : Gl X x) (hm : X.mg x = some (.ref f)) (hk : PySem.W.keepIn X.K (.ref f) = true)
    (hb : L2.Binds X.K fd ps ds) (hd : Vals dvs ds) (hx : Passes CX X E) (ha : PA X (e :: es) t)
    (hdb : (x == ("__debug__" : Str)) = false := by decide) (he : starEach (e :: es) X.env = (false, eval e X.env) :: starEach es X.env := by rfl) (hpl : (backTo pos (starEach es X.env)).any (·.1) = false := by rfl) :
    PE X (.Call (.Name x p) (e :: es) [] pos) (tCall sp dvs E t) := by
  constructor
  intro pins s σ H Q I h
  refine wpAny_Call_Name_kw (ld_glob I hg hm ?_ hdb)
  refine PySem.W.callWith_K (h₀ := X.base) I.ok.mod.kin hk (thn (ha.run pos pins s σ H _ I h) ?_) he hpl
  rintro us s1 ⟨vs, H1, I1, r, q⟩
  exact ⟨I1.kIn, runG F hgd hr hb hd hx I1 r q⟩
end
/-! ### repr of data -/
section
variable {X : Cx}
/-- repr(v): v is data d -/
def rRepr (K : PySem.W.Frag) : List V → Hp → VK → Prop := fun xs H Q => ∃ (v : V) (d : PyData), xs = [v] ∧ Dp K H v d ∧ d.showable = true ∧ d.hasDict = false ∧ d.shown.length ≤ sizeLine ∧ d.depth ≤ 60 ∧ Q (.str d.shown) H
theorem call_reprD (hg : X.A.guards = some []) (hu : X.A.units + 70 < cLine) : CallR X (.builtin "repr") (rRepr X.K) := by
  intro pins s σ H xs us Q I r h
  obtain ⟨v, d, rfl, hd, hs, hn, hz, hdp, q⟩ := h
  obtain ⟨u, rfl, ru⟩ := vals1 r
  cases hd with
  | non =>
    cases ru
    rw [PyData.shown_none] at q
    exact PySem.P.repr_of_none ⟨.str _, H, I.tok _, ⟨_, rfl⟩, q⟩
  | bl b =>
    cases ru
    rw [PyData.shown_bool] at q
    exact PySem.P.repr_of_bool ⟨.str _, H, I.tok _, ⟨_, rfl⟩, q⟩
  | int i =>
    obtain ⟨t, rfl⟩ := ru
    rw [PyData.shown_int] at q
    exact PySem.P.repr_of_int (by simpa [PyData.showable] using hs) ⟨.str _, H, I.tok _, ⟨_, rfl⟩, q⟩
  | str z =>
    obtain ⟨t, rfl⟩ := ru
    rw [PyData.shown_str] at q hz
    exact PySem.P.repr_of_str ⟨.str _, H, I.tok _, ⟨_, rfl⟩, q⟩
  | @lst a xs ds h1 h2 =>
    obtain rfl : u = Value.ref a := ru
    obtain ⟨as, rd⟩ := Dp.reads I _ _ _ (Dp.lst h1 h2) (rfl : RelV (.ref a) (.ref a))
    exact PySem.repr_of_reads' rd hs (fun z => by rw [hn] at z; cases z) hg (by omega) (fun _ _ e => e) (fun h' u tk k => ⟨.str _, H, I.kept (t' := tk) k, ⟨_, rfl⟩, q⟩) hz
  | @tup a xs ds h1 h2 =>
    obtain rfl : u = Value.ref a := ru
    obtain ⟨as, rd⟩ := Dp.reads I _ _ _ (Dp.tup h1 h2) (rfl : RelV (.ref a) (.ref a))
    exact PySem.repr_of_reads' rd hs (fun z => by rw [hn] at z; cases z) hg (by omega) (fun _ _ e => e) (fun h' u tk k => ⟨.str _, H, I.kept (t' := tk) k, ⟨_, rfl⟩, q⟩) hz
end
end Gd

set_option maxRecDepth 100000
set_option maxHeartbeats 2000000
/-! Own errors over an own error over ValueError, each with an __init__ that says super().__init__('..') and keeps its argument, made as values. -/
namespace Er
open PySem PySem.W PySem.Calls PyProof.Rows PySem.HandSPX
/-- the text of such an __init__ -/
def sup (z : Str) (k : Nat) (p0 p1 p2 p3 p4 p5 : Pos) : Stmt :=
  .Expr (.Call (.Attribute (.Call (.Name "super" p0) [] [] p1) "__init__" p2) [.Constant (.str z) k p3] [] p4) p5
def keepS (fl : Str) (q1 q2 q3 q4 : Pos) : Stmt := .Assign [.Attribute (.Name "self" q1) fl q2] (.Name fl q3) q4
def body : Option Str → Str → Nat → Pos → Pos → Pos → Pos → Pos → Pos → Pos → Pos → Pos → Pos → List Stmt
  | none, z, k, p0, p1, p2, p3, p4, p5, _, _, _, _ => [sup z k p0 p1 p2 p3 p4 p5]
  | some fl, z, k, p0, p1, p2, p3, p4, p5, q1, q2, q3, q4 => [sup z k p0 p1 p2 p3 p4 p5, keepS fl q1 q2 q3 q4]
def pars : Option Str → Pos → Pos → Arguments
  | none, p, _ => { posonlyargs := [], args := [{ arg := "self", annotation := none, pos := p }], vararg := none, kwonlyargs := [], kw_defaults := [], kwarg := none, defaults := [] }
  | some fl, p, q => { posonlyargs := [], args := [{ arg := "self", annotation := none, pos := p }, { arg := fl, annotation := none, pos := q }], vararg := none, kwonlyargs := [], kw_defaults := [], kwarg := none, defaults := [] }
def names : Option Str → List (Str × NameKind)
  | none => [("self", .local), ("__class__", .free), ("super", .globalImplicit)]
  | some fl => [("self", .local), (fl, .local), ("__class__", .free), ("super", .globalImplicit)]
def scp (o : Option Str) : Scope := { kind := .function, names := names o, isGenerator := false, isCoroutine := false, more := [] }
/-- how the call super().__init__('..') is read (by its places) -/
def EvP (z : Str) (kz : Nat) (p0 p1 p2 p3 p4 p5 : Pos) : Prop := ∀ env : Env, (∃ pl, eval (.Call (.Attribute (.Call (.Name "super" p0) [] [] p1) "__init__" p2) [.Constant (.str z) kz p3] [] p4) env = (do
      let ov ← attributeBase (.Call (.Name "super" p0) [] [] p1) "__init__" env (eval (.Call (.Name "super" p0) [] [] p1) env)
      standAt p2.atName
      let (f, first) ← holding [ov] (getMethod ov "__init__" pl)
      callWith p4 f first (backTo p4 (starEach [.Constant (.str z) kz p3] env)) [])) ∧
    swapsWith (.Call (.Attribute (.Call (.Name "super" p0) [] [] p1) "__init__" p2) [.Constant (.str z) kz p3] [] p4) none p5.line env = pure false
/-- how its arguments bind -/
def BdP : Option Str → FuncData → Prop
  | none, fd => ∀ e, bindArgs fd ⟨[e], []⟩ = pure [(("self" : Str), e)]
  | some f, fd => ∀ e v, bindArgs fd ⟨[e, v], []⟩ = pure [(("self" : Str), e), (f, v)] ∧ bindArgs fd ⟨[e], [(f, v)]⟩ = pure [(("self" : Str), e), (f, v)]
/-- what the written part says of the class at C, of its __init__ at fI -/
structure ErrC (P : Program) (K : Frag) (x : Str) (fl : Option Str) (C fI : Addr) : Prop where
  kC : keepIn K (.ref C) = true
  cls : ∃ nm q N bs bm sn sub ab col dd k0 k1 k2 k3 k5, K.lookup C = some (excClassObj nm q C N bs bm true sn sub ab col dd k0 k1 k2 k3 k5 "ValueError.__new__") ∧ refsVE bm = true
  sa : findIn K (.ref C) "__setattr__" = some (some (.builtin "object.__setattr__"))
  iC : findIn K (.ref C) "__init__" = some (some (.ref fI))
  tI : typeIn K (.ref fI) = some (.type "function")
  fn : ∃ (oc : Value) (od : Option Addr) (doc pm : Value) (an : Option Addr) (ct : Value) (osl : Array (Option Value)) (cc cda : Addr) (qual z : Str) (kz : Nat) (p p' p0 p1 p2 p3 p4 p5 q1 q2 q3 q4 : Pos),
    K.lookup fI = some ⟨oc, od, .func (ksFn "__init__" qual (pars fl p p') (body fl z kz p0 p1 p2 p3 p4 p5 q1 q2 q3 q4) (scp fl) .none .none doc pm an (.ref cda) ct cc), osl⟩ ∧ codeIn K (.ref cda) qual = true ∧
    EvP z kz p0 p1 p2 p3 p4 p5 ∧ BdP fl (ksFn "__init__" qual (pars fl p p') (body fl z kz p0 p1 p2 p3 p4 p5 q1 q2 q3 q4) (scp fl) .none .none doc pm an (.ref cda) ct cc) ∧ (∃ (ccl : Value) (cdd : Option Addr) (vs : Array Value) (ccs : Array (Option Value)) (file : Str) (tf : Tok), K.lookup cda = some ⟨ccl, cdd, .fields vs, ccs⟩ ∧ vs[2]? = some (.str file tf) ∧ ((P.main.file : Str) == file) = true) ∧
    ∃ (cl : Value) (cld : Option Addr) (csl : Array (Option Value)), K.lookup cc = some ⟨cl, cld, .cell (some (.ref C)), csl⟩
  any : nsIn K cStatics "thirdparty.any" = some none
  along : ks_superIn K C C "__init__" = some (some (.builtin "ValueError.__init__"))
  subVE : subIn K (.ref C) (.type "ValueError") = some true
  mro : mroIn K C (.ref C) = some true
  top : (P.main.scope.names.lookup ("super" : Str)).isSome = false
  noF : ∀ f, fl = some f → findIn K (.ref C) f = some none
  kS : (names fl).lookup ("super" : Str) = some .globalImplicit
  kF : (names fl).lookup ("__class__" : Str) = some .free
  kL : (names fl).lookup ("self" : Str) = some .local
  kP : ∀ f, fl = some f → (names fl).lookup f = some .local ∧ (f == ("self" : Str)) = false ∧ (f == ("__debug__" : Str)) = false
theorem one_size (v : Value) : [v].length ≤ sizeLine := by
  rw [sizeLine_eq]
  exact (by decide : 1 ≤ 16777216)
section
variable {P : Program} {w : World} {A : Around} {E : Value → Shared → Prop} {R : Result → Shared → Prop} {K : Frag} {mg mb : Str → Option Value} {x : Str} {fl : Option Str} {C fI : Addr}
/-- the first row of __init__ -/
theorem sup_run (T : ErrC P K x fl C fI) {hh : Heap} {g : Array GenState} {d : Drawn} {t : Nat} {os : OsState} {e t0 cc cda L : Addr} {m : Str → Option Value} {q z : Str} {kz : Nat} {bd : List Stmt} {p0 p1 p2 p3 p4 p5 : Pos} {fd : FuncData} {Q : Flow → Shared → Prop}
    (ev : EvP z kz p0 p1 p2 p3 p4 p5) (X : K.In hh) (G : hh.Ns mainGlobals mg) (hmg : mg "super" = none) (B : hh.Ns builtinsNs mb) (hmb : mb "super" = some (.type "super")) (he : hh.get? e = some (excO C t0))
    (hns : hh.Ns L m) (hv : m "self" = some (.ref e)) (hf : ∃ of, hh.get? fI = some of ∧ of.data = .func fd) (hp : ∃ ar, (fd.params.posonlyargs ++ fd.params.args).head? = some ar ∧ ar.arg = ("self" : Str))
    (hcode : ∃ oc vs file tf, hh.get? cda = some oc ∧ oc.data = .fields vs ∧ vs[2]? = some (.str file tf) ∧ ((P.main.file : Str) == file) = true) (hcell : hh.IsCell cc (some (.ref C)))
    (hq : ∀ h' t1 tk, (∀ b o, b ≠ e → hh.get? b = some o → h'.get? b = some o) → h'.get? e = some (excO C t1) → Q .next ⟨h', g, d, tk, os⟩) :
    _root_.PySem.wpAt (model P w) A (.func bd (ksEnv q (scp fl) L fI (.ref cda) cc)) (exec (sup z kz p0 p1 p2 p3 p4 p5) (ksEnv q (scp fl) L fI (.ref cda) cc)) Q E ⟨hh, g, d, t, os⟩ := by
  obtain ⟨nm, q', N, bs, bm, sn, sub, ab, col, dd, k0, k1, k2, k3, k5, hC, hbm⟩ := T.cls
  have hcl : clsIn K C = some { name := nm, bases := bs, mro := .ref C :: bm, ns := N, qualname := q', hasDict := true, slotNames := sn, subclasses := sub, abstract := ab, collection := col, hasDel := false } := by
    unfold clsIn
    rw [hC] <;> rfl
  have I : InstAt hh e (excO C t0) C none := ⟨he, rfl, rfl, trivial⟩
  have neC : e ≠ C := ks_ne X I hcl
  obtain ⟨of, hf1, hf2⟩ := hf
  obtain ⟨ar, har, har2⟩ := hp
  obtain ⟨oc, vs, file, tf, hc1, hc2, hc3, hc4⟩ := hcode
  unfold sup
  obtain ⟨⟨pl, ev1⟩, ev2⟩ := ev (ksEnv q (scp fl) L fI (.ref cda) cc)
  refine ks_wpAt_Expr_any (ks_wpAt_MethodCall ?_ ev1) rfl ev2
  refine ks_wpAt_super_base (env := ksEnv q (scp fl) L fI (.ref cda) cc) T.kS T.kF rfl rfl hf1 hf2 har rfl hc1 hc2 hc3 hc4 T.top ?_
  refine ks_loadName_global rfl T.kS (loadGlobal_builtin (env := ksEnv q (scp fl) L fI (.ref cda) cc) G hmg B hmb ⟨rfl, ?_⟩)
  refine wpAny_loadName_free rfl T.kF rfl hcell ?_
  rw [har2]
  refine wpAny_loadName_local rfl T.kL hns hv ?_
  refine ks_wpAny_isType_cls (X _ _ hC) rfl ⟨rfl, ?_⟩
  refine ks_wpAny_call_super (X _ _ hC) rfl he rfl (fun c z => by cases z) (looks_mroIn X T.mro) (fun h1 hso k1 => ?_)
  have X1 : K.In h1 := X.keeps k1
  have I1 : InstAt h1 e (excO C t0) C none := ⟨k1 _ _ he, rfl, rfl, trivial⟩
  have hal : alongIn K "__init__" (((Value.ref C :: bm).dropWhile (· != .ref C)).drop 1) = some (some (.builtin "ValueError.__init__")) := by
    have z := T.along
    unfold ks_superIn at z
    rw [hcl] at z
    exact z
  refine kxs_getMethod kxs_ValueError hso (looks_opaque X1 T.any) (l₀ := .ref C :: bm) (fun A Q E s k q => wpAny_bind ((looks_clsIn X1 hcl) A _ E s k (wpAny_pure q))) rfl X1 hal (I1.type.andThen (looks_subIn X1 T.subVE)) neC rfl ?_
  have hu : (h1.push (kxs_mw "ValueError.__init__" e)).get? h1.objs.size = some (kxs_mw "ValueError.__init__" e) := Heap.get?_push_at rfl rfl
  have k2 : ∀ b o, hh.get? b = some o → (h1.push (kxs_mw "ValueError.__init__" e)).get? b = some o := fun b o q => Heap.get?_push_of_some _ (k1 b o q)
  refine kxs_callWith (i := "ValueError.__init__") (x := e) rfl ?_
  refine evalArgs_plain (Calls.spliced_cons (Calls.Constant_str (k := kz) (pos := p3) (Calls.spliced_nil ⟨hu, ?_⟩)))
  refine wpAny_call (codeAny_of_tree ?_)
  show wpAny _ A.in1 (callAny (.ref h1.objs.size) ⟨_, []⟩) _ _ _
  simp only [callAny]
  refine wpAny_bind (wpAny_load hu ?_)
  have c1 : (Value.type "method-wrapper" == Value.type "method" || Value.type "method-wrapper" == Value.type "builtin_function_or_method" || Value.type "method-wrapper" == Value.type "method-wrapper") = true := by decide
  simp only [kxs_mw, c1, if_true]
  refine KFB.if_so (by decide) ?_
  have FB := PySem.F.excBase_ValueError
  refine wpAny_bind (check_bound_init FB.toExcCallFacts (k2 _ _ (X _ _ hC)) (k2 _ _ he) rfl ?_)
  refine wpAny_bind (wpAny_pure (wpAny_pure ⟨plainId_quiet FB.init.plain _, codeAny_builtin FB.initEntry ?_⟩))
  refine exc_init_tree (cls := .ref C) (t0 := t0) (dv := none) (c2 := .none) (c3 := .none) (b4 := .bool false) (k2 _ _ he) (one_size _) fun h2 k3 e2 _ => ?_
  exact hq h2 _ _ (fun b o hb z => k3 b o hb (k2 b o z)) e2
theorem noCell (o : Option Str) : ∀ y ∈ names o, y.2 ≠ .cell := by
  intro y hy
  cases o <;> simp only [names, List.mem_cons, List.not_mem_nil, or_false] at hy
  · rcases hy with rfl | rfl | rfl <;> exact fun z => by cases z
  · rcases hy with rfl | rfl | rfl | rfl <;> exact fun z => by cases z
/-- what an exception is behind its making: its dict (none where it keeps nothing) -/
def fsOf : Option Str → List Value → List (Str × Value)
  | some f, [_, v] => [(f, v)]
  | _, _ => []
theorem err_init0 (T : ErrC P K x none C fI) {s : Shared} {e t0 : Addr} (X : K.In s.heap) (lim : s.heap.NoLimit) (G : s.heap.Ns mainGlobals mg) (hmg : mg "super" = none) (B : s.heap.Ns builtinsNs mb) (hmb : mb "super" = some (.type "super"))
    (he : s.heap.get? e = some (excO C t0)) (hroom : A.depth < recursionLimit)
    (hq : ∀ h' t1 tk, (∀ b o, b ≠ e → s.heap.get? b = some o → h'.get? b = some o) → h'.get? e = some (excO C t1) → R (.ok (.ret .none)) { s with heap := h', toks := tk }) :
    codeAny (model P w) A (.call (.ref fI) ⟨[.ref e], []⟩) R s := by
  obtain ⟨oc, od, doc, pm, an, ct, osl, cc, cda, qual, z, kz, p, p', p0, p1, p2, p3, p4, p5, q1, q2, q3, q4, hf, hcd, ev, bd, ⟨ccl, cdd, vs, ccs, file, tf, hc1, hc2, hc3⟩, cl, cld, csl, hcell⟩ := T.fn
  refine ks_codeAny_call_defAt (binds := [("self", .ref e)]) hroom (X _ _ hf) rfl lim (codeRec_of X hcd) rfl (BindsTo.of_eq (by first | rfl | with_unfolding_all rfl)) (noCell none) (by
    intro y hy
    obtain rfl : y = (("self" : Str), Value.ref e) := by simpa using hy
    exact T.kL) (fun h1 hns k1 => ?_) rfl rfl rfl
  obtain ⟨hh, g, d, t, os⟩ := s
  have X1 : K.In h1 := X.keeps k1
  show _root_.PySem.wpAt _ _ _ (execs (sup z kz p0 p1 p2 p3 p4 p5 :: []) _) _ _ _
  refine ks_wpAt_execs_cons (sup_run (m := fun y => [(("self" : Str), Value.ref e)].reverse.lookup y) T ev X1 (G.keeps k1) hmg (B.keeps k1) hmb (k1 _ _ he) hns (by with_unfolding_all rfl) ⟨_, X1 _ _ hf, rfl⟩ ⟨_, rfl, rfl⟩ ⟨_, vs, file, tf, X1 _ _ hc1, rfl, hc2, hc3⟩ ⟨_, X1 _ _ hcell, rfl⟩ fun h2 t1 tk k2 e2 => ?_)
  exact wpAt_of_wpAny (wpAny_execs_nil (hq h2 t1 tk (fun b o hb z => k2 b o hb (k1 b o z)) e2))
def args1 (f : Str) (v : Value) (e : Value) (byName : Bool) : Args := if byName = true then ⟨[e], [(f, v)]⟩ else ⟨[e, v], []⟩
theorem err_init1 {f : Str} (T : ErrC P K x (some f) C fI) {s : Shared} {e t0 : Addr} {v : Value} {bn : Bool} (X : K.In s.heap) (lim : s.heap.NoLimit) (G : s.heap.Ns mainGlobals mg) (hmg : mg "super" = none) (B : s.heap.Ns builtinsNs mb) (hmb : mb "super" = some (.type "super"))
    (he : s.heap.get? e = some (excO C t0)) (hne : K.lookup e = none) (hroom : A.depth < recursionLimit)
    (hq : ∀ h' t1 tk dx, (∀ b o, b ≠ e → s.heap.get? b = some o → h'.get? b = some o) → h'.get? e = some { cls := .ref C, dict := some dx, data := .fields #[.ref t1, .none, .none, .none, .bool false, .none] } →
      s.heap.objs.size ≤ dx → dx ≠ e → h'.Ns1 dx (fun y => if y = f then some v else none) → R (.ok (.ret .none)) { s with heap := h', toks := tk }) :
    codeAny (model P w) A (.call (.ref fI) (args1 f v (.ref e) bn)) R s := by
  obtain ⟨oc, od, doc, pm, an, ct, osl, cc, cda, qual, z, kz, p, p', p0, p1, p2, p3, p4, p5, q1, q2, q3, q4, hf, hcd, ev, bd, ⟨ccl, cdd, vs, ccs, file, tf, hc1, hc2, hc3⟩, cl, cld, csl, hcell⟩ := T.fn
  obtain ⟨nm, q', N, bs, bm, sn, sub, ab, col, dd, k0, k1, k2, k3, k5, hC, hbm⟩ := T.cls
  have hcl : clsIn K C = some { name := nm, bases := bs, mro := .ref C :: bm, ns := N, qualname := q', hasDict := true, slotNames := sn, subclasses := sub, abstract := ab, collection := col, hasDel := false } := by
    unfold clsIn
    rw [hC] <;> rfl
  obtain ⟨kf1, kf2, kf3⟩ := T.kP f rfl
  have hbd : BindsTo s (ksFn "__init__" qual (pars (some f) p p') (body (some f) z kz p0 p1 p2 p3 p4 p5 q1 q2 q3 q4) (scp (some f)) .none .none doc pm an (.ref cda) ct cc) (args1 f v (.ref e) bn) [("self", .ref e), (f, v)] := by
    cases bn
    · exact BindsTo.of_eq (bd _ _).1
    · exact BindsTo.of_eq (bd _ _).2
  refine ks_codeAny_call_defAt (binds := [("self", .ref e), (f, v)]) hroom (X _ _ hf) rfl lim (codeRec_of X hcd) rfl hbd (noCell (some f)) (by
    intro y hy
    rcases List.mem_cons.mp hy with rfl | hy
    · exact T.kL
    · obtain rfl : y = (f, v) := by simpa using hy
      exact kf1) (fun h1 hns kk => ?_) rfl rfl rfl
  obtain ⟨hh, g, d, t, os⟩ := s
  have X1 : K.In h1 := X.keeps kk
  have nsf : f ≠ ("self" : Str) := by simpa using kf2
  have lf : [(("self" : Str), Value.ref e), (f, v)].reverse.lookup f = some v := by simp [List.lookup]
  have ls : [(("self" : Str), Value.ref e), (f, v)].reverse.lookup ("self" : Str) = some (Value.ref e) := by
    have z : (("self" : Str) == f) = false := by simpa using (Ne.symm nsf)
    simp [List.lookup, z]
  have heL : e ≠ hh.objs.size := Nat.ne_of_lt (Heap.lt_size he)
  show _root_.PySem.wpAt _ _ _ (execs (sup z kz p0 p1 p2 p3 p4 p5 :: [keepS f q1 q2 q3 q4]) _) _ _ _
  refine ks_wpAt_execs_cons (sup_run (m := fun y => [(("self" : Str), Value.ref e), (f, v)].reverse.lookup y) T ev X1 (G.keeps kk) hmg (B.keeps kk) hmb (kk _ _ he) hns ls ⟨_, X1 _ _ hf, rfl⟩ ⟨_, rfl, rfl⟩ ⟨_, vs, file, tf, X1 _ _ hc1, rfl, hc2, hc3⟩ ⟨_, X1 _ _ hcell, rfl⟩ fun h2 t1 tk k4 e2 => ?_)
  have X2 : K.In h2 := fun a o q => k4 a o (fun y => by rw [y, hne] at q; cases q) (X1 a o q)
  obtain ⟨oL, esL, epL, hL, rL⟩ := hns
  have hns2 : h2.Ns hh.objs.size (fun y => [(("self" : Str), Value.ref e), (f, v)].reverse.lookup y) := ⟨oL, esL, epL, k4 _ _ (Ne.symm heL) hL, rL⟩
  refine wpAt_of_wpAny (wpAny_execs_cons (plainObj_wpAny_Assign_Attribute ?_))
  refine wpAny_Name (wpAny_loadName_local rfl kf1 hns2 lf ?_) kf3
  refine wpAny_Name (wpAny_loadName_local rfl T.kL hns2 ls ?_) (by decide)
  refine set_plain X2 (ox := excO C t1) (od := none) ⟨e2, rfl, rfl, trivial⟩ T.sa ?_
  refine exc_osa X2 e2 hcl (show refsVE (.ref C :: bm) = true from hbm) rfl (T.noF f rfl) (fun h3 tk3 dx k5 dn dne hx3 hn3 => ?_)
  have zz : hh.objs.size ≤ dx := Nat.le_trans (Nat.le_of_lt (Heap.lt_size (k4 _ _ (Ne.symm heL) hL))) dn
  exact wpAny_execs_nil (hq h3 t1 tk3 dx (fun b o hb z => k5 b o hb (k4 b o hb (kk b o z))) hx3 zz dne hn3)
end
end Er

set_option maxRecDepth 100000
set_option maxHeartbeats 2000000
namespace Er
open PySem PySem.W PySem.Calls PyProof.Rows PySem.HandSPX
section
variable {P : Program} {w : World} {A : Around} {E : Value → Shared → Prop} {R : Result → Shared → Prop} {h : Heap} {g : Array GenState} {d : Drawn} {t : Nat} {os : OsState}
variable {nm q : Str} {C N : Addr} {bs bm : List Value} {sn : List Str} {sub : List Value} {ab : Bool} {col : Option Bool} {dd : Option Addr} {k0 k1 k2 k3 k5 : Option Value}
/-- the class's own part of the making, with arguments by name -/
theorem newKw {kw : List (Str × Value)} (hbm : refsVE bm = true)
    (hC : h.get? C = some (excClassObj nm q C N bs bm true sn sub ab col dd k0 k1 k2 k3 k5 "ValueError.__new__"))
    (hq : R (.ok (.ret (.ref (h.objs.size + 1)))) ⟨(h.push (kdv_tup [])).push (excO C h.objs.size), g, d, t, os⟩) :
    codeAny (model P w) A (.builtin "ValueError.__new__" ⟨[.ref C], kw⟩) R ⟨h, g, d, t, os⟩ := by
  have FB := PySem.F.excBase_ValueError
  have ends := FB.ends
  have hT := fun Y => refsVE_contains Y bm hbm
  have cB : (Value.ref C :: bm).contains (.type "ValueError") = true := by rw [List.contains_cons, hT, FB.hasB, Bool.or_true]
  have cA : (Value.ref C :: bm).contains (.type "AttributeError") = false := by rw [List.contains_cons, hT, FB.noAttr]; rfl
  have cN : (Value.ref C :: bm).contains (.type "NameError") = false := by rw [List.contains_cons, hT, FB.noName]; rfl
  refine codeAny_builtinAt FB.entry ?_
  unfold Builtin.«BaseException.__new__»
  refine _root_.PySem.wpAt_bind ?_
  refine _root_.PySem.wpAt_bind (_root_.PySem.wpAt_stack fun p below => _root_.PySem.wpAt_of_wpAny ?_)
  wp_walk
  refine _root_.PySem.wpAt_of_wpAny ?_
  rw [FB.owner]
  repeat (first | with_reducible refine wpAny_madeHere_exc FB.canon hC ?_ | with_reducible refine wpAny_loadPart_at hC ?_ | (with_reducible refine wpAny_isSubtype_exc hC ?_; first | rw [cB] | rw [cA] | rw [cN]) | wp_step)
  rw [Heap.size_push]
  exact hq
theorem checkKw {kw : List (Str × Value)} {M : Model} {Q : Unit → Shared → Prop} (hbm : refsVE bm = true)
    (hC : h.get? C = some (excClassObj nm q C N bs bm true sn sub ab col dd k0 k1 k2 k3 k5 "ValueError.__new__")) (hq : Q () ⟨h, g, d, t, os⟩) :
    wpAny M A (checkBuiltinCall "ValueError.__new__" ⟨[.ref C], kw⟩) Q E ⟨h, g, d, t, os⟩ := by
  have FB := PySem.F.excBase_ValueError
  have cB : (Value.ref C :: bm).contains (.type "ValueError") = true := by rw [List.contains_cons, refsVE_contains "ValueError" bm hbm, FB.hasB, Bool.or_true]
  have st := FB.noStar
  simp only [checkBuiltinCall, FB.newKind, FB.newSplit, FB.newRow]
  repeat (first
    | refine wpAny_loadPart_at hC ?_
    | (refine wpAny_isSubtype_exc hC ?_; rw [cB])
    | refine wpAny_staticBase_exc hC ?_
    | refine wpAny_madeBy_exc hC ?_
    | simp only [bne_self_eq_false, Bool.false_eq_true, if_false]
    | wp_step)
  exact hq
theorem typeKw {kw : List (Str × Value)} {fI : Addr} {Q : Fin → Shared → Prop} (hbm : refsVE bm = true)
    (hC : h.get? C = some (excClassObj nm q C N bs bm true sn sub ab col dd k0 k1 k2 k3 k5 "ValueError.__new__"))
    (hi : Looks (model P w) h (typeLookup (.ref C) "__init__") (some (.ref fI))) (hb : ∀ self, Looks (model P w) h (bindSpecial (.ref fI) self) (.ref fI, [self]))
    (hq : codeAny (model P w) A (.call (.ref fI) ⟨[.ref (h.objs.size + 1)], kw⟩)
      (fun r s' => match r with | .ok (.ret v) => v = .none ∧ Q (.done (.ret (.ref (h.objs.size + 1)))) s' | .ok _ => False | .error e => E e s')
      ⟨(h.push (kdv_tup [])).push (excO C h.objs.size), g, d, t, os⟩) :
    wpAny (model P w) A (Builtin.«type.__call__» ⟨[.ref C], kw⟩) Q E ⟨h, g, d, t, os⟩ := by
  have FB := PySem.F.excBase_ValueError
  repeat (first | with_reducible refine wpAny_loadPart_at hC ?_ | with_reducible refine wpAny_madeBy_exc hC ?_ | wp_step)
  refine codeAny_call_builtin_code (Code.quiet_builtin _ FB.quiet) (checkKw hbm hC (newKw hbm hC ?_))
  have kk : ∀ b o, h.get? b = some o → ((h.push (kdv_tup [])).push (excO C h.objs.size)).get? b = some o := fun b o z => Heap.get?_push_of_some _ (Heap.get?_push_of_some _ z)
  have e1 : ((h.push (kdv_tup [])).push (excO C h.objs.size)).get? (h.objs.size + 1) = some (excO C h.objs.size) := by heap_get
  have cC : (Value.ref C :: bm).contains (.ref C) = true := by simp
  show wpAny _ _ _ _ _ _
  unfold isInstance
  repeat (first
    | with_reducible refine wpAny_loadPart_at e1 ?_
    | (with_reducible refine wpAny_isSubtype_exc (kk _ _ hC) ?_; rw [cC])
    | wp_step)
  show wpAny _ _ (typeLookup (.ref C) _) _ _ _
  refine (hi.keeps kk).at (wpAny_holding (wpAny_bind (((hb (.ref (h.objs.size + 1))).keeps kk).at ?_)))
  refine wpAny_bind (wpAny_call (codeAny_mono hq fun r s' z => ?_))
  cases r with
  | error e => exact z
  | ok fl =>
    cases fl with
    | ret v =>
      obtain ⟨rfl, z⟩ := z
      first
        | exact wpAny_pure (wpAny_pure z)
        | (wp_walk; exact z)
    | next => exact z.elim
    | brk => exact z.elim
    | cont => exact z.elim
theorem callKw {kw : List (Str × Value)} {fI : Addr} (hbm : refsVE bm = true)
    (hC : h.get? C = some (excClassObj nm q C N bs bm true sn sub ab col dd k0 k1 k2 k3 k5 "ValueError.__new__"))
    (hi : Looks (model P w) h (typeLookup (.ref C) "__init__") (some (.ref fI))) (hb : ∀ self, Looks (model P w) h (bindSpecial (.ref fI) self) (.ref fI, [self]))
    (hq : codeAny (model P w) (A.under (.builtin "type.__call__" ⟨[.ref C], kw⟩)) (.call (.ref fI) ⟨[.ref (h.objs.size + 1)], kw⟩) (InitBack (h.objs.size + 1) R)
      ⟨(h.push (kdv_tup [])).push (excO C h.objs.size), g, d, t, os⟩) :
    codeAny (model P w) A (.call (.ref C) ⟨[], kw⟩) R ⟨h, g, d, t, os⟩ := by
  have f1 := tc_lookup
  have f2 := tc_bind (.ref C)
  have ty : (⟨h, g, d, t, os⟩ : Shared).TypeIs (.ref C) "type" := ⟨_, hC, rfl⟩
  refine codeAny_of_tree ?_
  show wpAny _ _ (callAny (.ref C) _) _ _ _
  repeat (any_goals (first | assumption | with_reducible refine wpAny_loadPart_at hC ?_ | wp_step))
  refine ⟨rfl, codeAny_call_builtin_at (Code.quiet_builtin _ (by decide +kernel)) entry_typeCall (wpAny_check_type_call_sub hC (typeKw hbm hC hi hb ?_))⟩
  refine codeAny_mono hq fun r s' z => ?_
  rcases r with e | (v | _ | _ | _) <;> exact z
end
end Er

set_option maxRecDepth 100000
set_option maxHeartbeats 2000000
namespace Er
open PySem PySem.Spec PyProof.Rows L2
section
variable {X : Cx} {pins : List (Addr × Obj)} {σ : L2.St} {H : Hp} {s : Shared}
/-- two new objects, tracked -/
theorem laid2 {h' : Heap} {a b : Addr} {oa ob : HO} {t' : Nat} (I : Inv X pins σ H s) (k : ∀ c u, s.heap.get? c = some u → h'.get? c = some u) (ha : s.heap.objs.size ≤ a) (hb : s.heap.objs.size ≤ b)
    (na : ObjOk X.prog X.w (upd (upd H b ob) a oa) h' a oa) (nb : a ≠ b → ObjOk X.prog X.w (upd (upd H b ob) a oa) h' b ob) : Inv X pins σ (upd (upd H b ob) a oa) { s with heap := h', toks := t' } := by
  have fa : H a = none := I.hok.fresh ha
  have fb : H b = none := I.hok.fresh hb
  have ne : ∀ {c u}, H c = some u → c ≠ a ∧ c ≠ b := fun {c u} q => ⟨ne_of_none q fa, ne_of_none q fb⟩
  have nh : ∀ {c u}, s.heap.get? c = some u → c ≠ a ∧ c ≠ b := fun {c u} q => ⟨Nat.ne_of_lt (Nat.lt_of_lt_of_le (Heap.lt_size q) ha), Nat.ne_of_lt (Nat.lt_of_lt_of_le (Heap.lt_size q) hb)⟩
  have up : ∀ {c}, c ≠ a → c ≠ b → upd (upd H b ob) a oa c = H c := fun {c} h1 h2 => by rw [upd_ne h1, upd_ne h2]
  refine I.un ⟨fun c u q _ _ _ => k c u q, fun c u q _ _ _ => ⟨u.slots, k c u q⟩, fun c u q n _ => by rw [up (nh q).1 (nh q).2]; exact n, fun c u q _ => ⟨u, k c u q⟩,
    fun c xs q => by rw [up (ne q).1 (ne q).2]; exact q, fun c o u q => by rw [up (ne q).1 (ne q).2]; exact q, fun c ps q => ⟨#[], by rw [up (ne q).1 (ne q).2, q]; simp⟩⟩ ?_
  intro c u q
  by_cases h1 : c = a
  · subst h1
    rw [upd_same] at q
    cases q
    exact na
  · by_cases h2 : c = b
    · subst h2
      rw [upd_ne h1, upd_same] at q
      cases q
      exact nb (Ne.symm h1)
    · rw [up h1 h2] at q
      exact (I.hok c u q).stay (fun e v _ z => k e v z) (fun e z => by rw [up (ne z).1 (ne z).2]; exact z) fun e xs z => by rw [up (ne z).1 (ne z).2]; exact z
end
section
variable {X : Cx} {x f : Str} {C fI : Addr} {k : Nat} {e : Expr} {te : TE} {p pos kp : Pos}
/-- what the world about says of the name super -/
structure SupOk (X : Cx) : Prop where
  mg : X.mg "super" = none
theorem facts {pins : List (Addr × Obj)} {σ : L2.St} {H : Hp} {s : Shared} (I : Inv X pins σ H s) : s.heap.NoLimit ∧ s.heap.Ns mainGlobals X.mg ∧ ∃ mb, s.heap.Ns builtinsNs mb ∧ mb "super" = some (.type "super") := by
  obtain ⟨mb, b1, b2⟩ := I.mod.blt
  exact ⟨I.mod.nolimit.keeps I.bk, I.mod.glob.keeps I.bk, mb, b1.keeps I.bk, (b2 _ (by decide +kernel)).trans (by decide +kernel)⟩
/-- C() as a value -/
def tErr0 (C : Addr) : TE := fun σ H Q => ∀ a, H a = none → Q (.ref a) (upd H a (exo a C none))
/-- C(e) as a value -/
def tErr1 (C : Addr) (f : Str) (te : TE) : TE := fun σ H Q => te σ H fun v H1 => ∀ a d, H1 a = none → H1 d = none → d ≠ a → Q (.ref a) (upd (upd H1 d (exd d [(f, v)])) a (exo a C (some d)))
theorem pe_err0 (T : ErrC X.prog X.K x none C fI) (S : X.mg "super" = none) (hr : Room k X.A) (hg : Gl X x) (hm : X.mg x = some (.ref C)) (hdb : (x == ("__debug__" : Str)) = false := by decide) :
    PE X (.Call (.Name x p) [] [] pos) (tErr0 C) := by
  constructor
  intro pins s σ H Q I h
  refine wpAny_Call_Name_kw (ld_glob I hg hm ?_ hdb)
  refine PySem.W.callWith_K0 I.kIn T.kC ?_
  show wpAny _ _ (call (.ref C) []) _ _ _
  obtain ⟨nm, q, N, bs, bm, sn, sub, ab, col, dd, k0, k1, k2, k3, k5, hC, hbm⟩ := T.cls
  obtain ⟨lim, G, mb, B, hmb⟩ := facts I
  obtain ⟨hp, g, dr, tk, os⟩ := s
  have X0 : X.K.In hp := I.kIn
  have kk : ∀ b o, hp.get? b = some o → ((hp.push (PySem.W.kdv_tup [])).push (PySem.HandSPX.excO C hp.objs.size)).get? b = some o := fun b o z => Heap.get?_push_of_some _ (Heap.get?_push_of_some _ z)
  have e1 : ((hp.push (PySem.W.kdv_tup [])).push (PySem.HandSPX.excO C hp.objs.size)).get? (hp.objs.size + 1) = some (PySem.HandSPX.excO C hp.objs.size) := by heap_get
  refine wpAny_call (callKw hbm (X0 _ _ hC) (PySem.W.looks_findIn X0 T.iC) (fun self => PySem.W.bind_fn X0 self T.tI) ?_)
  refine err_init0 (s := ⟨(hp.push (PySem.W.kdv_tup [])).push (PySem.HandSPX.excO C hp.objs.size), g, dr, tk, os⟩) T (X0.keeps kk) (lim.keeps kk) (G.keeps kk) S (B.keeps kk) hmb e1 ?_ ?_
  · have := hr.dp
    show X.A.depth + 1 < recursionLimit
    omega
  · intro h' t1 tk' k' e'
    have hn : H (hp.objs.size + 1) = none := I.hok.fresh (Nat.le_succ _)
    refine ⟨rfl, .ref (hp.objs.size + 1), upd H (hp.objs.size + 1) (exo (hp.objs.size + 1) C none), ?_, rfl, h _ hn⟩
    exact I.laid (t' := tk') (fun b o z => k' b o (Nat.ne_of_lt (Nat.lt_succ_of_lt (Heap.lt_size z))) (kk b o z)) (Nat.le_succ _) (exo_ok e')
theorem vals_one {v : V} {us : List Value} (r : Vals [v] us) : ∃ u, us = [u] ∧ RelV v u := by
  cases r with
  | cons a b => cases b; exact ⟨_, rfl, a⟩
/-- the making itself, behind the argument's reading -/
theorem make1 (T : ErrC X.prog X.K x (some f) C fI) (S : X.mg "super" = none) (hr : Room k X.A) (bn : Bool) {pins : List (Addr × Obj)} {σ : L2.St} {H1 : Hp} {s1 : Shared} {v : V} {u : Value} {Q : VK} (I1 : Inv X pins σ H1 s1) (ru : RelV v u)
    (q : ∀ a d, H1 a = none → H1 d = none → d ≠ a → Q (.ref a) (upd (upd H1 d (exd d [(f, v)])) a (exo a C (some d)))) :
    wpAny (model X.prog X.w) X.A (call (.ref C) (if bn = true then [] else [u]) (if bn = true then [(f, u)] else [])) (EP X pins σ Q) X.xe s1 := by
  obtain ⟨nm, qn, N, bs, bm, sn, sub, ab, col, dd, k0, k1, k2, k3, k5, hC, hbm⟩ := T.cls
  obtain ⟨lim, G, mb, B, hmb⟩ := facts I1
  obtain ⟨hp, g, dr, tk, os⟩ := s1
  have X0 : X.K.In hp := I1.kIn
  have fin : ∀ l : List Value, ∀ A' : Around, A'.depth < recursionLimit → ∀ R : Result → Shared → Prop, (∀ h' tk', (∃ w' H', Inv X pins σ H' ⟨h', g, dr, tk', os⟩ ∧ RelV w' (.ref (hp.objs.size + 1)) ∧ Q w' H') → R (.ok (.ret .none)) ⟨h', g, dr, tk', os⟩) →
      codeAny (model X.prog X.w) A' (.call (.ref fI) (args1 f u (.ref (hp.objs.size + 1)) bn)) R ⟨(hp.push (PySem.W.kdv_tup l)).push (PySem.HandSPX.excO C hp.objs.size), g, dr, tk, os⟩ := by
    intro l A' hA R hR
    have kk : ∀ b o, hp.get? b = some o → ((hp.push (PySem.W.kdv_tup l)).push (PySem.HandSPX.excO C hp.objs.size)).get? b = some o := fun b o z => Heap.get?_push_of_some _ (Heap.get?_push_of_some _ z)
    have e1 : ((hp.push (PySem.W.kdv_tup l)).push (PySem.HandSPX.excO C hp.objs.size)).get? (hp.objs.size + 1) = some (PySem.HandSPX.excO C hp.objs.size) := by heap_get
    have hne : X.K.lookup (hp.objs.size + 1) = none := by
      cases z : X.K.lookup (hp.objs.size + 1) with
      | none => rfl
      | some o => exact absurd (Nat.lt_of_succ_lt (Heap.lt_size (X0 _ _ z))) (Nat.lt_irrefl _)
    refine err_init1 (s := ⟨(hp.push (PySem.W.kdv_tup l)).push (PySem.HandSPX.excO C hp.objs.size), g, dr, tk, os⟩) T (X0.keeps kk) (lim.keeps kk) (G.keeps kk) S (B.keeps kk) hmb e1 hne hA ?_
    intro h' t1 tk' dx k' e' dn dne hns
    have dn' : hp.objs.size ≤ dx := by
      have z : hp.objs.size ≤ ((hp.push (PySem.W.kdv_tup l)).push (PySem.HandSPX.excO C hp.objs.size)).objs.size := by
        rw [Heap.size_push, Heap.size_push]
        omega
      exact Nat.le_trans z dn
    have fa : H1 (hp.objs.size + 1) = none := I1.hok.fresh (Nat.le_succ _)
    have fd : H1 dx = none := I1.hok.fresh dn'
    refine hR h' tk' ⟨.ref (hp.objs.size + 1), _, ?_, rfl, q _ dx fa fd dne⟩
    refine laid2 (t' := tk') I1 (fun b o z => k' b o (Nat.ne_of_lt (Nat.lt_succ_of_lt (Heap.lt_size z))) (kk b o z)) (Nat.le_succ _) dn' (exo_ok e') fun _ => exd_ok hns fun y => ?_
    exact relO_put (fs := []) (mA := fun _ => none) ru (fun _ => True.intro) y
  cases bn with
  | false =>
    refine wpAny_call (PySem.HandSPX.call_own (rest := [u]) F.excBase_ValueError (fun Y => PySem.HandSPX.refsVE_contains Y bm hbm) (X0 _ _ hC) (PySem.W.looks_findIn X0 T.iC) (fun self => PySem.W.bind_fn X0 self T.tI) (one_size u) ?_)
    refine fin [u] _ ?_ _ fun h' tk' hh => ⟨rfl, hh⟩
    have := hr.dp
    show X.A.depth + 1 < recursionLimit
    omega
  | true =>
    refine wpAny_call (callKw hbm (X0 _ _ hC) (PySem.W.looks_findIn X0 T.iC) (fun self => PySem.W.bind_fn X0 self T.tI) ?_)
    refine fin [] _ ?_ _ fun h' tk' hh => ⟨rfl, hh⟩
    have := hr.dp
    show X.A.depth + 1 < recursionLimit
    omega
theorem pe_err1 (T : ErrC X.prog X.K x (some f) C fI) (S : X.mg "super" = none) (hr : Room k X.A) (hg : Gl X x) (hm : X.mg x = some (.ref C)) (he : PE X e te) (hdb : (x == ("__debug__" : Str)) = false := by decide)
    (hs : starEach [e] X.env = (false, eval e X.env) :: starEach [] X.env := by rfl) : PE X (.Call (.Name x p) [e] [] pos) (tErr1 C f te) := by
  constructor
  intro pins s σ H Q I h
  refine wpAny_Call_Name_kw (ld_glob I hg hm (PySem.W.callWith_K (h₀ := X.base) I.ok.mod.kin T.kC ?_ hs (by rfl)) hdb)
  rw [hs]
  refine Calls.spliced_cons (thn (he.run pins s σ H _ I h) ?_)
  rintro u s1 ⟨v, H1, I1, r1, q1⟩
  exact Calls.spliced_nil ⟨I1.kIn, make1 T S hr false I1 r1 q1⟩
/-- C(f=e) -/
theorem pe_err1k (T : ErrC X.prog X.K x (some f) C fI) (S : X.mg "super" = none) (hr : Room k X.A) (hg : Gl X x) (hm : X.mg x = some (.ref C)) (he : PE X e te) (hdb : (x == ("__debug__" : Str)) = false := by decide)
    (hall : (backToKw pos (keywordEach [⟨some f, e, kp⟩] X.env)).all (·.1.isSome) = true := by rfl) (hks : (backToKw pos (keywordEach [⟨some f, e, kp⟩] X.env)).filterMap (·.1) = [f] := by rfl)
    (hpl : ((backTo pos (starEach [] X.env)).any (·.1) || (backToKw pos (keywordEach [⟨some f, e, kp⟩] X.env)).any (·.1.isNone)) = false := by rfl) :
    PE X (.Call (.Name x p) [] [⟨some f, e, kp⟩] pos) (tErr1 C f te) := by
  constructor
  intro pins s σ H Q I h
  refine wpAny_Call_Name_kw (ld_glob I hg hm (PySem.W.callWith_KW0 (h₀ := X.base) I.ok.mod.kin T.kC hall ?_ hpl) hdb)
  show wpAny _ _ (evalAll ((do let v ← eval e X.env; standAt pos; pure v) :: [])) _ _ s
  refine wpAny_evalAll_cons (wpAny_bind (thn (he.run pins s σ H _ I h) ?_))
  rintro u s1 ⟨v, H1, I1, r1, q1⟩
  refine wpAny_bind (wpAny_standAt (wpAny_pure (wpAny_evalAll_nil ⟨I1.kIn, ?_⟩)))
  rw [hks]
  exact make1 T S hr true I1 r1 q1
/-- e.n of a made error -/
def tErrF (K : PySem.W.Frag) (n : Str) (te : TE) : TE := fun σ H Q => te σ H fun y H1 => ∃ (a C d : Addr) (fs : List (Str × V)) (v : V), y = .ref a ∧ XfC K C ∧ PySem.W.findIn K (.ref C) n = some none ∧
  H1 a = some (exo a C (some d)) ∧ H1 d = some (exd d fs) ∧ fs.lookup n = some v ∧ Q v H1
theorem pe_errF {n : Str} (he : PE X e te) (hb : attributeBase e n X.env (eval e X.env) = eval e X.env := by rfl) : PE X (.Attribute e n pos) (tErrF X.K n te) := by
  constructor
  intro pins s σ H Q I h
  refine attr_of hb (thn (he.run pins s σ H _ I h) ?_)
  rintro u s1 ⟨y, H1, I1, rx, a, C, d, fs, v, rfl, T, hno, ea, ed, l, q⟩
  obtain rfl : u = Value.ref a := rx
  obtain ⟨t1, ho⟩ := exo_at I1.hok ea
  obtain ⟨mA, hns, hr⟩ := exd_at I1.hok ed
  obtain ⟨od, hod, hl⟩ := lookIn_ns hns
  obtain ⟨u, hu, ru⟩ := RelO.some_of (v := v) (o := mA n) (by rw [← l]; exact hr n)
  have J : PySem.W.InstAt s1.heap a _ C (some od) := ⟨ho, rfl, rfl, hod⟩
  exact HandSPX.exc_get I1.kIn J T.ga T.gg T.exC (PySem.W.findObj_own T.hdC hno rfl (by rw [hl, hu])) (handed_of ru) ⟨v, H1, I1.tok _, ru, q⟩
/-- isinstance(a made error, c) -/
def rIsErr (K : PySem.W.Frag) : List V → Hp → VK → Prop := fun xs H Q => ∃ (a C : Addr) (d : Option Addr) (c : V) (cv : Value) (b : Bool), xs = [.ref a, c] ∧ ExcC K C ∧ (PySem.W.clsIn K C).isSome = true ∧ H a = some (exo a C d) ∧
  (∀ dd, d = some dd → ∃ fs, H dd = some (exd dd fs)) ∧ (∀ u, RelV c u → u = cv) ∧ PySem.W.kitOne K (.ref C) cv = some b ∧ Q (.bl b) H
theorem call_isErr : CallR X (.builtin "isinstance") (rIsErr X.K) := by
  intro pins s σ H xs us Q I r h
  obtain ⟨a, C, d, c, cv, b, rfl, T, hcl, ea, ed, hcv, ek, q⟩ := h
  cases r with
  | cons rx rr =>
    cases rr with
    | cons rt rr =>
      cases rr
      cases rx
      obtain rfl := hcv _ rt
      obtain ⟨t1, ho⟩ := exo_at I.hok ea
      have J : ∃ od, PySem.W.InstAt s.heap a { cls := .ref C, dict := d, data := .fields #[.ref t1, .none, .none, .none, .bool false, .none] } C od := by
        cases d with
        | none => exact ⟨none, ho, rfl, rfl, trivial⟩
        | some dd =>
          obtain ⟨fs, e2⟩ := ed dd rfl
          obtain ⟨mA, hns, _⟩ := exd_at I.hok e2
          obtain ⟨od, hod, _⟩ := lookIn_ns hns
          exact ⟨some od, ho, rfl, rfl, hod⟩
      obtain ⟨od, J⟩ := J
      exact PySem.W.kia_one (PySem.W.kitx_exc hcl T.hg T.hk T.hs T.ha T.hn T.ht T.hm) I.kIn J ek (fun z => nomatch z) fun tk => ⟨.bl b, H, I.kept (t' := tk) fun _ _ z => z, rfl, q⟩
end
end Er

set_option maxRecDepth 100000
set_option maxHeartbeats 2000000
/-! Own errors (super().__init__('..')) raised. -/
namespace Er
open PySem PySem.Spec PyProof.Rows L2
section
variable {X : Cx} {x f : Str} {C fI : Addr} {k : Nat} {e : Expr} {te : TE} {p pos kp : Pos}
theorem pmk_err0 (T : ErrC X.prog X.K x none C fI) (S : X.mg "super" = none) (hr : Room k X.A) (rC : Raises X (.ref C)) (hm : X.mg x = some (.ref C)) (hg : Gl X x := by rfl) (hdb : (x == ("__debug__" : Str)) = false := by decide) :
    PMk X (.Call (.Name x p) [] [] pos) (fun σ H Q => Q (.ref C) none H) := by
  intro pins s σ H Q I h
  refine wpAny_Call_Name_kw (ld_glob I hg hm (PySem.W.callWith_K0 I.kIn T.kC ?_) hdb)
  show wpAny _ _ (call (.ref C) []) _ _ _
  obtain ⟨nm, q, N, bs, bm, sn, sub, ab, col, dd, k0, k1, k2, k3, k5, hC, hbm⟩ := T.cls
  obtain ⟨lim, G, mb, B, hmb⟩ := facts I
  obtain ⟨hp, g, dr, tk, os⟩ := s
  have X0 : X.K.In hp := I.kIn
  have kk : ∀ b o, hp.get? b = some o → ((hp.push (PySem.W.kdv_tup [])).push (PySem.HandSPX.excO C hp.objs.size)).get? b = some o := fun b o z => Heap.get?_push_of_some _ (Heap.get?_push_of_some _ z)
  have e1 : ((hp.push (PySem.W.kdv_tup [])).push (PySem.HandSPX.excO C hp.objs.size)).get? (hp.objs.size + 1) = some (PySem.HandSPX.excO C hp.objs.size) := by heap_get
  refine wpAny_call (callKw hbm (X0 _ _ hC) (PySem.W.looks_findIn X0 T.iC) (fun self => PySem.W.bind_fn X0 self T.tI) ?_)
  refine err_init0 (s := ⟨(hp.push (PySem.W.kdv_tup [])).push (PySem.HandSPX.excO C hp.objs.size), g, dr, tk, os⟩) T (X0.keeps kk) (lim.keeps kk) (G.keeps kk) S (B.keeps kk) hmb e1 ?_ ?_
  · have := hr.dp
    show X.A.depth + 1 < recursionLimit
    omega
  · intro h' t1 tk' k' e'
    have hn : H (hp.objs.size + 1) = none := I.hok.fresh (Nat.le_succ _)
    have hq : hp.get? (hp.objs.size + 1) = none := by
      cases z : hp.get? (hp.objs.size + 1) with
      | none => rfl
      | some o => exact absurd (Nat.lt_of_succ_lt (Heap.lt_size z)) (Nat.lt_irrefl _)
    exact ⟨rfl, hp.objs.size + 1, _, _, ⟨hp, g, dr, tk, os⟩, H, .ref C, none, rfl, I, fun b o z => k' b o (Nat.ne_of_lt (Nat.lt_succ_of_lt (Heap.lt_size z))) (kk b o z), hq, e', ⟨rfl, rfl⟩, rfl, rfl, hn, rfl, I.bare, rC, h⟩
theorem pmk_err1 (T : ErrC X.prog X.K x (some f) C fI) (S : X.mg "super" = none) (hr : Room k X.A) (rC : Raises X (.ref C)) (hm : X.mg x = some (.ref C)) (he : PE X e te) (hg : Gl X x := by rfl) (hdb : (x == ("__debug__" : Str)) = false := by decide)
    (hs : starEach [e] X.env = (false, eval e X.env) :: starEach [] X.env := by rfl) : PMk X (.Call (.Name x p) [e] [] pos) (fun σ H Q => te σ H fun v H1 => ∀ d, H1 d = none → Q (.ref C) (some d) (upd H1 d (.xd [(f, v)]))) := by
  intro pins s σ H Q I h
  refine wpAny_Call_Name_kw (ld_glob I hg hm (PySem.W.callWith_K (h₀ := X.base) I.ok.mod.kin T.kC ?_ hs (by rfl)) hdb)
  rw [hs]
  refine Calls.spliced_cons (thn (he.run pins s σ H _ I h) ?_)
  rintro u s1 ⟨v, H1, I1, ru, q1⟩
  refine Calls.spliced_nil ⟨I1.kIn, ?_⟩
  show wpAny _ _ (call (.ref C) [u]) _ _ _
  obtain ⟨nm, qn, N, bs, bm, sn, sub, ab, col, dd, k0, k1, k2, k3, k5, hC, hbm⟩ := T.cls
  obtain ⟨lim, G, mb, B, hmb⟩ := facts I1
  obtain ⟨hp, g, dr, tk, os⟩ := s1
  have X0 : X.K.In hp := I1.kIn
  have kk : ∀ b o, hp.get? b = some o → ((hp.push (PySem.W.kdv_tup [u])).push (PySem.HandSPX.excO C hp.objs.size)).get? b = some o := fun b o z => Heap.get?_push_of_some _ (Heap.get?_push_of_some _ z)
  have e1 : ((hp.push (PySem.W.kdv_tup [u])).push (PySem.HandSPX.excO C hp.objs.size)).get? (hp.objs.size + 1) = some (PySem.HandSPX.excO C hp.objs.size) := by heap_get
  have hne : X.K.lookup (hp.objs.size + 1) = none := by
    cases z : X.K.lookup (hp.objs.size + 1) with
    | none => rfl
    | some o => exact absurd (Nat.lt_of_succ_lt (Heap.lt_size (X0 _ _ z))) (Nat.lt_irrefl _)
  refine wpAny_call (PySem.HandSPX.call_own (rest := [u]) F.excBase_ValueError (fun Y => PySem.HandSPX.refsVE_contains Y bm hbm) (X0 _ _ hC) (PySem.W.looks_findIn X0 T.iC) (fun self => PySem.W.bind_fn X0 self T.tI) (one_size u) ?_)
  refine err_init1 (bn := false) (s := ⟨(hp.push (PySem.W.kdv_tup [u])).push (PySem.HandSPX.excO C hp.objs.size), g, dr, tk, os⟩) T (X0.keeps kk) (lim.keeps kk) (G.keeps kk) S (B.keeps kk) hmb e1 hne ?_ ?_
  · have := hr.dp
    show X.A.depth + 1 < recursionLimit
    omega
  · intro h' t1 tk' dx k' e' dn dne hns
    have dn' : hp.objs.size ≤ dx := by
      have z : hp.objs.size ≤ ((hp.push (PySem.W.kdv_tup [u])).push (PySem.HandSPX.excO C hp.objs.size)).objs.size := by
        rw [Heap.size_push, Heap.size_push]
        omega
      exact Nat.le_trans z dn
    have fa : H1 (hp.objs.size + 1) = none := I1.hok.fresh (Nat.le_succ _)
    have fd : H1 dx = none := I1.hok.fresh dn'
    have old : ∀ b o, hp.get? b = some o → h'.get? b = some o := fun b o z => k' b o (Nat.ne_of_lt (Nat.lt_succ_of_lt (Heap.lt_size z))) (kk b o z)
    have J := laid2 (t' := tk') I1 old (Nat.le_succ _) dn' (oa := exo (hp.objs.size + 1) C (some dx)) (ob := exd dx [(f, v)]) (exo_ok e') fun _ => exd_ok hns fun y => relO_put (fs := []) (mA := fun _ => none) ru (fun _ => True.intro) y
    have nh : ∀ {c u}, hp.get? c = some u → c ≠ hp.objs.size + 1 ∧ c ≠ dx := fun {c u} q => ⟨Nat.ne_of_lt (Nat.lt_succ_of_lt (Heap.lt_size q)), Nat.ne_of_lt (Nat.lt_of_lt_of_le (Heap.lt_size q) dn')⟩
    have ea : (upd (upd H1 dx (exd dx [(f, v)])) (hp.objs.size + 1) (exo (hp.objs.size + 1) C (some dx))) (hp.objs.size + 1) = some (exo (hp.objs.size + 1) C (some dx)) := upd_same
    have ed : (upd (upd H1 dx (exd dx [(f, v)])) (hp.objs.size + 1) (exo (hp.objs.size + 1) C (some dx))) dx = some (exd dx [(f, v)]) := by rw [upd_ne dne, upd_same]
    have un : Un (frs X.stack) [] (upd H1 (hp.objs.size + 1) (exo (hp.objs.size + 1) C none)) (upd (upd H1 dx (exd dx [(f, v)])) (hp.objs.size + 1) (exo (hp.objs.size + 1) C (some dx))) hp h' := by
      have go : ∀ {c : Addr} {o : HO}, (upd H1 (hp.objs.size + 1) (exo (hp.objs.size + 1) C none)) c = some o → o ≠ exo (hp.objs.size + 1) C none → (upd (upd H1 dx (exd dx [(f, v)])) (hp.objs.size + 1) (exo (hp.objs.size + 1) C (some dx))) c = some o := fun {c o} q ne => by
        have h1 : c ≠ hp.objs.size + 1 := fun z => by
          rw [z, upd_same] at q
          exact ne (Option.some.inj q).symm
        rw [upd_ne h1] at q
        rw [upd_ne h1, upd_ne (ne_of_none q fd)]
        exact q
      refine ⟨fun c o z _ _ _ => old c o z, fun c o z _ _ _ => ⟨o.slots, old c o z⟩, fun c o z n _ => ?_, fun c o z _ => ⟨o, old c o z⟩, fun c xs q => go q fun z => exo_tup z.symm, fun c o w q => go q fun z => exo_frz z.symm, fun c ps q => ⟨#[], by rw [go q fun z => exo_tbl z.symm]; simp⟩⟩
      rw [upd_ne (nh z).1] at n
      rw [upd_ne (nh z).1, upd_ne (nh z).2]
      exact n
    refine ⟨rfl, mk_end (d1 := dr) (t1 := tk) (os1 := os) (g1 := g) rC I1 (Nat.le_succ _) (fun _ _ z => z) un J.hok rfl I1.bare ea ed fd ?_⟩
    have eq1 : upd (del (upd (upd H1 dx (exd dx [(f, v)])) (hp.objs.size + 1) (exo (hp.objs.size + 1) C (some dx))) (hp.objs.size + 1)) dx (.xd [(f, v)]) = upd H1 dx (.xd [(f, v)]) := by
      funext b
      by_cases h1 : b = dx
      · subst h1
        rw [upd_same, upd_same]
      · rw [upd_ne h1, upd_ne h1]
        by_cases h2 : b = hp.objs.size + 1
        · subst h2
          rw [del_same, fa]
        · rw [del_ne h2, upd_ne h2, upd_ne h1]
    rw [eq1]
    exact q1 dx fd
end
end Er

set_option maxRecDepth 100000
set_option maxHeartbeats 4000000
namespace Cm
open PySem PySem.Spec PyProof.Rows L2
theorem same_upd {H : Hp} {p : Addr} {o : HO} (h : H p = none) : Same H (upd H p o) := fun b u e => by
  have : b ≠ p := fun z => by rw [z, h] at e; cases e
  rw [upd_ne this]; exact e
theorem seqT_same {K : PySem.W.Frag} {H H' : Hp} {a : Addr} {xs : List V} (e : Same H H') (h : SqT K H a xs) : SqT K H' a xs := by
  rcases h with (h | ⟨o, h⟩) | h
  · exact .inl (.inl (e _ _ h))
  · exact .inl (.inr ⟨o, e _ _ h⟩)
  · exact .inr h
mutual
theorem dp_same {K : PySem.W.Frag} {H H' : Hp} (s : Same H H') : ∀ (d : PyData) (v : V), Dp K H v d → Dp K H' v d
  | .none, _, h => by cases h; exact .non
  | .bool b, _, h => by cases h; exact .bl b
  | .int i, _, h => by cases h; exact .int i
  | .str x, _, h => by cases h; exact .str x
  | .list ds, _, h => by
    cases h with
    | lst h1 h2 => exact .lst (s.seq h1) (dpAll_same s ds _ h2)
  | .tuple ds, _, h => by
    cases h with
    | tup h1 h2 => exact .tup (seqT_same s h1) (dpAll_same s ds _ h2)
  | .dict kvs, _, h => by cases h
theorem dpAll_same {K : PySem.W.Frag} {H H' : Hp} (s : Same H H') : ∀ (ds : List PyData) (vs : List V), DpAll K H vs ds → DpAll K H' vs ds
  | [], _, h => by cases h; exact .nil
  | d :: ds, _, h => by
    cases h with
    | cons a b => exact .cons (dp_same s d _ a) (dpAll_same s ds _ b)
end
theorem dpAll_len {K : PySem.W.Frag} {H : Hp} : ∀ {vs : List V} {ds : List PyData}, DpAll K H vs ds → vs.length = ds.length
  | [], [], _ => rfl
  | _ :: _, _ :: _, h => by
    cases h with
    | cons _ b => exact congrArg (· + 1) (dpAll_len b)
theorem dpAll_get {K : PySem.W.Frag} {H : Hp} : ∀ {vs : List V} {ds : List PyData} {i : Nat} {d : PyData}, DpAll K H vs ds → ds[i]? = some d → ∃ v, vs[i]? = some v ∧ Dp K H v d
  | [], [], i, d, _, h => by simp at h
  | v :: vs, e :: ds, i, d, h, g => by
    cases h with
    | cons a b =>
      cases i with
      | zero => simp at g; subst g; exact ⟨v, rfl, a⟩
      | succ i =>
        simp at g
        obtain ⟨u, h1, h2⟩ := dpAll_get b g
        exact ⟨u, by simpa using h1, h2⟩
theorem dpAll_get' {K : PySem.W.Frag} {H : Hp} {vs : List V} {ds : List PyData} {i : Nat} {v : V} (h : DpAll K H vs ds) (g : vs[i]? = some v) : ∃ d, ds[i]? = some d ∧ Dp K H v d := by
  have hi : i < ds.length := by
    rw [← dpAll_len h]
    exact (List.getElem?_eq_some_iff.mp g).1
  obtain ⟨u, h1, h2⟩ := dpAll_get h (List.getElem?_eq_getElem hi)
  rw [g] at h1
  cases h1
  exact ⟨_, List.getElem?_eq_getElem hi, h2⟩
theorem dpAll_app {K : PySem.W.Frag} {H : Hp} : ∀ {vs us : List V} {ds es : List PyData}, DpAll K H vs ds → DpAll K H us es → DpAll K H (vs ++ us) (ds ++ es)
  | [], us, [], es, _, h => h
  | v :: vs, us, d :: ds, es, h, g => by
    cases h with
    | cons a b => exact .cons a (dpAll_app b g)
end Cm

set_option maxRecDepth 100000
set_option maxHeartbeats 4000000
/-! in, ==, != by an own __contains__, __eq__, with both answers; C(..) where what is raised is wished for at the caller's slots. -/
namespace Ow
open PySem PySem.Spec PyProof.Rows L2
section
variable {X : Cx} {CX : CXT} {n : Nat} {C f : Addr} {fd : FuncData} {ps : List Str} {sp : Sp} {E : XK}
theorem own_call (F : FnOk X.prog X.w X.K X.mg X.base CX n f fd ps sp) (hb : Binds X.K fd ps []) (hx : Passes CX X E) {A : Around} (sb : Sub X n A) {pins : List (Addr × Obj)} {s : Shared} {σ : L2.St} {H : Hp} {a : Addr} {y : V} {u : Value} {G : Bool → Hp → Prop}
    (I : Inv X pins σ H s) (ry : RelV y u) (h : sp [.ref a, y] H (fun v H' => ∃ b, v = .bl b ∧ G b H') E) :
    wpAny (model X.prog X.w) A (call (.ref f) [.ref a, u]) (fun r s' => ∃ b H', r = .bool b ∧ Inv X pins σ H' s' ∧ G b H') X.xe s := by
  have e0 : Env0 X.prog X.w X.K X.mg X.base A X.stack s H := by
    have e := I.env0
    exact ⟨by rw [sb.fr]; exact e.frames, e.mod, e.bs, e.bsz, e.funs, e.frf, e.hok, e.bare⟩
  have hl := F.len _ _ _ _ h
  have r2 : Vals [V.ref a, y] [Value.ref a, u] := .cons rfl (.cons ry .nil)
  refine wpAny_call (codeAny_mono (F.run A X.stack s H ⟨[.ref a, u], []⟩ [.ref a, u] [.ref a, y] _ E sb.room e0 (by
    have := hb s [.ref a, u] I.kIn (by simpa using hl)
    simpa using this) r2 h) fun r s' hq => ?_)
  cases r with
  | error e => exact hx pins σ H s e s' I hq
  | ok fl =>
    cases fl with
    | ret w =>
      obtain ⟨z, H', I', rz, b, ez, q⟩ := I.after hq
      subst ez
      cases rz
      exact ⟨b, H', rfl, I', q⟩
    | next => exact False.elim hq
    | brk => exact False.elim hq
    | cont => exact False.elim hq
/-- x in o, o of a class with an own __contains__ -/
def rInOwn (C : Addr) (sp : Sp) (E : XK) : R2 := fun x y H Q => ∃ a dx fs, y = .ref a ∧ H a = some (.ins C dx fs) ∧ sp [.ref a, x] H (fun v H' => ∃ b, v = .bl b ∧ Q (.bl b) H') E
def rNotInOwn (C : Addr) (sp : Sp) (E : XK) : R2 := fun x y H Q => ∃ a dx fs, y = .ref a ∧ H a = some (.ins C dx fs) ∧ sp [.ref a, x] H (fun v H' => ∃ b, v = .bl b ∧ Q (.bl (!b)) H') E
theorem op_inOwn (F : FnOk X.prog X.w X.K X.mg X.base CX n f fd ps sp) (hr : Room n X.A) (hs : PySem.W.findIn X.K (.ref C) "__contains__" = some (some (.ref f))) (hf : PySem.W.isFn X.K (.ref f) = true) (hb : Binds X.K fd ps []) (hx : Passes CX X E) :
    OpR X (compareOp .In) (rInOwn C sp E) := by
  intro pins s σ H x y v u Q I rx ry h
  obtain ⟨a, dx, fs, rfl, ha, h⟩ := h
  cases ry
  obtain ⟨mA, J, _⟩ := ins_get I.hok ha
  obtain ⟨od, J, _⟩ := J.look
  obtain ⟨m, hF⟩ := I.fr
  refine PySem.W.in_K hF I.ok.mod.kin J hs hf (wpAny_mono (own_call F hb hx ⟨hr, rfl⟩ I rx h) (fun r s' q => ?_) fun _ _ z => z)
  obtain ⟨b, H', rfl, I', q⟩ := q
  exact wpAny_truthy_bool ⟨.bl b, H', I', rfl, q⟩
theorem op_notInOwn (F : FnOk X.prog X.w X.K X.mg X.base CX n f fd ps sp) (hr : Room n X.A) (hs : PySem.W.findIn X.K (.ref C) "__contains__" = some (some (.ref f))) (hf : PySem.W.isFn X.K (.ref f) = true) (hb : Binds X.K fd ps []) (hx : Passes CX X E) :
    OpR X (compareOp .NotIn) (rNotInOwn C sp E) := by
  intro pins s σ H x y v u Q I rx ry h
  obtain ⟨a, dx, fs, rfl, ha, h⟩ := h
  cases ry
  obtain ⟨mA, J, _⟩ := ins_get I.hok ha
  obtain ⟨od, J, _⟩ := J.look
  obtain ⟨m, hF⟩ := I.fr
  refine PySem.W.notIn_K hF I.ok.mod.kin J hs hf (wpAny_mono (own_call F hb hx ⟨hr, rfl⟩ I rx h) (fun r s' q => ?_) fun _ _ z => z)
  obtain ⟨b, H', rfl, I', q⟩ := q
  exact wpAny_truthy_bool ⟨.bl (!b), H', I', rfl, q⟩
/-- the type of the right one, seen by the model -/
def TyR (K : PySem.W.Frag) (H : Hp) (y : V) (tb : Value) : Prop := TyX K H y tb ∨ ∃ a C dx fs, y = .ref a ∧ H a = some (.ins C dx fs) ∧ tb = .ref C
theorem TyR.looks {pins : List (Addr × Obj)} {σ : L2.St} {H : Hp} {s : Shared} {y : V} {u tb : Value} (t : TyR X.K H y tb) (I : Inv X pins σ H s) (ry : RelV y u) : PySem.W.Looks (model X.prog X.w) s.heap (typeOf u) tb := by
  rcases t with t | ⟨a, C, dx, fs, rfl, ha, rfl⟩
  · obtain ⟨Pq, Z, p, _⟩ := kit_of I ry t
    exact Z.ty _ _ I.kIn p
  · cases ry
    obtain ⟨mA, J, _⟩ := ins_get I.hok ha
    obtain ⟨od, J, _⟩ := J.look
    exact J.type
def rEqOwn (K : PySem.W.Frag) (C : Addr) (sp : Sp) (E : XK) : R2 := fun x y H Q => ∃ a dx fs tb, x = .ref a ∧ H a = some (.ins C dx fs) ∧ TyR K H y tb ∧ PySem.W.notFirst K C tb = true ∧ sp [.ref a, y] H (fun v H' => ∃ b, v = .bl b ∧ Q (.bl b) H') E
def rNeOwn (K : PySem.W.Frag) (C : Addr) (sp : Sp) (E : XK) : R2 := fun x y H Q => ∃ a dx fs tb, x = .ref a ∧ H a = some (.ins C dx fs) ∧ TyR K H y tb ∧ PySem.W.notFirst K C tb = true ∧ sp [.ref a, y] H (fun v H' => ∃ b, v = .bl b ∧ Q (.bl (!b)) H') E
theorem op_eqOwn (F : FnOk X.prog X.w X.K X.mg X.base CX n f fd ps sp) (hr : Room n X.A) (hs : PySem.W.findIn X.K (.ref C) "__eq__" = some (some (.ref f))) (hf : PySem.W.isFn X.K (.ref f) = true) (hb : Binds X.K fd ps []) (hx : Passes CX X E) :
    OpR X (compareOp .Eq) (rEqOwn X.K C sp E) := by
  intro pins s σ H x y v u Q I rx ry h
  obtain ⟨a, dx, fs, tb, rfl, ha, ty, nf, h⟩ := h
  cases rx
  obtain ⟨mA, J, _⟩ := ins_get I.hok ha
  obtain ⟨od, J, _⟩ := J.look
  obtain ⟨m, hF⟩ := I.fr
  show wpAny (model X.prog X.w) X.A (richCompare .Eq (.ref a) u) (EP X pins σ Q) X.xe s
  refine PySem.W.cmp_K (op := .Eq) hr.units0 hF I.ok.mod.kin J (ty.looks I ry) nf hs hf (wpAny_mono (own_call F hb hx ⟨hr, rfl⟩ I ry h) (fun r s' q => ?_) fun _ _ z => z)
  obtain ⟨b, H', rfl, I', q⟩ := q
  exact ⟨.bl b, H', I', rfl, q⟩
theorem op_neOwn (F : FnOk X.prog X.w X.K X.mg X.base CX n f fd ps sp) (hr : Room (n + 1) X.A) (hs : PySem.W.findIn X.K (.ref C) "__eq__" = some (some (.ref f))) (hf : PySem.W.isFn X.K (.ref f) = true) (hb : Binds X.K fd ps []) (hx : Passes CX X E)
    (hne : PySem.W.findIn X.K (.ref C) "__ne__" = some (some (.builtin "object.__ne__"))) (hm : PySem.W.mroIn X.K C (.type "object") = some true) : OpR X (compareOp .NotEq) (rNeOwn X.K C sp E) := by
  intro pins s σ H x y v u Q I rx ry h
  obtain ⟨a, dx, fs, tb, rfl, ha, ty, nf, h⟩ := h
  cases rx
  obtain ⟨mA, J, _⟩ := ins_get I.hok ha
  obtain ⟨od, J, _⟩ := J.look
  obtain ⟨m, hF⟩ := I.fr
  have hk := I.kIn
  have LT := ty.looks I ry
  have LJ := J.type (M := model X.prog X.w)
  show wpAny (model X.prog X.w) X.A (richCompare .NotEq (.ref a) u) (EP X pins σ Q) X.xe s
  have eq1 : wpAny (model X.prog X.w) X.A.in1 (callSpecialIfBound? (.ref a) "__eq__" [u]) (fun r s' => ∃ b H', r = some (.bool b) ∧ Inv X pins σ H' s' ∧ Q (.bl (!b)) H') X.xe s := by
    refine PySem.W.ifBound_K hk J hs hf (wpAny_mono (own_call F hb hx (Sub.in1 ⟨hr, rfl⟩) I ry h) (fun r s' q => ?_) fun _ _ z => z)
    obtain ⟨b, H', rfl, I', q⟩ := q
    exact ⟨b, H', rfl, I', q⟩
  have one : wpAny (model X.prog X.w) X.A (tryCompare (.ref a) (cmpInfo .NotEq).2.1 u) (fun r s' => ∃ v, r = some v ∧ EP X pins σ Q v s') X.xe s := by
    have hu1 : X.A.in1.units < cLine := (Sub.in1 (X := X) (n := n) ⟨hr, rfl⟩).room.units0
    unfold tryCompare
    refine wpAny_bind (NtL.csib (LJ.andThen (PySem.W.looks_findIn hk hne)) (PySem.F.cmp_object.ne.bind _) ?_)
    refine wpAny_call (codeAny_call_builtin PySem.F.cmp_object.ne.plain PySem.F.cmpEntry_ne (PySem.W.check_slot PySem.F.cmpKind_ne PySem.F.cmpSplit_ne (LJ.andThen (PySem.W.looks_mroIn hk hm)) (PySem.F.cmpArgs_ne _ _) ?_))
    unfold Builtin.«object.__ne__»
    repeat (first
      | with_reducible refine wpAny_cRoomFor hu1 ?_
      | (refine wpAny_bind (m := callSpecialIfBound? (.ref a) (Str.ofString "__eq__") [u]) (wpAny_mono eq1 (fun r s' hr => ?_) fun _ _ e => e))
      | wp_step)
    obtain ⟨b, H', rfl, I', q⟩ := hr
    have fin : ∃ w : Value, w = .bool (!b) ∧ EP X pins σ Q w s' := ⟨_, rfl, .bl (!b), H', I', rfl, q⟩
    obtain ⟨w, ew, fin⟩ := fin
    subst ew
    repeat (first | exact ⟨_, rfl, fin⟩ | exact wpAny_pure ⟨_, rfl, fin⟩ | exact wpAny_truthy_bool fin | (refine wpAny_bind (m := truthy (.bool _)) (wpAny_truthy_bool ?_)) | wp_step)
  unfold richCompare
  simp only [oneThing_ref]
  refine wpAny_holding (wpAny_bind (wpAny_cRoomFor hr.units0 ?_))
  refine wpAny_bind (LJ.here (wpAny_bind (LT.here ?_)))
  split
  · rename_i q
    have e : PySem.W.subIn X.K tb (.ref C) = some false := by
      rcases Bool.or_eq_true_iff.mp nf with e | e
      · rw [beq_iff_eq.mp e] at q; simp at q
      · exact beq_iff_eq.mp e
    refine wpAny_bind ((PySem.W.looks_subIn hk e).here ?_)
    simp only [Bool.false_eq_true, if_false]
    refine wpAny_bind (wpAny_mono one (fun r s' z => ?_) fun _ _ e => e)
    obtain ⟨v, rfl, hq⟩ := z
    exact wpAny_pure hq
  · refine wpAny_bind (wpAny_pure ?_)
    simp only [Bool.false_eq_true, if_false]
    refine wpAny_bind (wpAny_mono one (fun r s' z => ?_) fun _ _ e => e)
    obtain ⟨v, rfl, hq⟩ := z
    exact wpAny_pure hq
end
end Ow

set_option maxRecDepth 100000
set_option maxHeartbeats 4000000
/-! several except clauses, each with or without a name. -/
namespace Tw
open PySem PySem.Spec PyProof.Rows L2
/-- an exception that has been caught, beside the state without it -/
structure Lies (X : Cx) (pins : List (Addr × Obj)) (a : Addr) (B : Heap) (sI : Shared) (σ : L2.St) (H : Hp) (cls : Value) (d : Option Addr) (s : Shared) : Prop where
  I : Inv X pins σ H sI
  nb : ∀ b o, sI.heap.get? b = some o → b ∉ frs X.stack → B.get? b = some o
  up : sI.heap.UpToSlots s.heap
  fl : HandSPX.FlyingZ B (X.env :: X.outer) a (Zc cls d) s.heap
  na : H a = none
  os : s.os = sI.os
  ag : AllBare s.gens
/-- the clauses, one behind the other, keep what is wished -/
def Hnd (X : Cx) (hs : List ExceptHandler) (W : Ends → WX) : Prop := ∀ pins D a B sI σ H cls d s, Lies X pins a B sI σ H cls d s → W D cls d σ H → wpAny (model X.prog X.w) X.A (handleBy (.ref a) X.env hs) (SP X pins D) X.xe s
section
variable {X : Cx} {pins : List (Addr × Obj)} {a : Addr} {B : Heap} {sI s : Shared} {σ : L2.St} {H : Hp} {cls : Value} {d : Option Addr} {W : Ends → WX} {Wout : WX}
theorem Lies.inv (L : Lies X pins a B sI σ H cls d s) : Inv X pins σ H s := L.I.landed L.nb L.fl.1 L.up L.os L.ag
theorem Lies.step (L : Lies X pins a B sI σ H cls d s) {h' : Heap} (fl : HandSPX.FlyingZ B (X.env :: X.outer) a (Zc cls d) h') (up : s.heap.UpToSlots h') : Lies X pins a B sI σ H cls d { s with heap := h' } := ⟨L.I, L.nb, L.up.trans up, fl, L.na, L.os, L.ag⟩
theorem Lies.suite (L : Lies X pins a B sI σ H cls d s) (hf : X.env.frame = some X.env.locals) : ∃ oe vs, s.heap.get? a = some oe ∧ Zc cls d oe ∧ oe.data = .fields vs ∧ Inv (X.suite a ((a, oe) :: (X.pn ++ pins))) [] σ H s := by
  obtain ⟨oe, vs, he, hz, hd⟩ := L.fl.there
  have far : a ∉ frs (X.env :: X.outer) := fun hm => by
    obtain ⟨_, o', e', no⟩ := L.fl.2.2.1.mem hm
    rw [he] at e'
    cases e'
    exact no _ hd
  refine ⟨oe, vs, he, hz, hd, L.inv.suite he hd L.na (fun z => far (List.mem_filterMap.mpr ⟨X.env, List.mem_cons_self, by rw [hf, z]⟩)) fun hm => ?_⟩
  obtain ⟨e, hx, q⟩ := List.mem_filterMap.mp hm
  exact far (List.mem_filterMap.mpr ⟨e, List.mem_cons_of_mem _ hx, q⟩)
theorem hnd_nil (hs : X.stack = X.env :: X.outer) (hf : X.env.frame = some X.env.locals) (tk : Takes X Wout) : Hnd X [] (fun _ => Wout) := by
  intro pins D a B sI σ H cls d s L w
  refine wpAny_handleBy_nil ?_
  obtain ⟨_, _, _, oe, vs, T, _, _, he, _, hd, h1, _⟩ := id L.fl
  unfold PySem.passOn
  refine wpAny_bind (wpAny_field he hd h1 ?_)
  rw [if_neg (show ¬ ((Value.ref T == Value.none) = true) from by simp)]
  have last : wpAny (model X.prog X.w) X.A (setFlight (.ref a) X.env.frame) (fun _ s4 => wpAny (model X.prog X.w) X.A (throw (.ref a) : Sem Flow) (SP X pins D) X.xe s4) X.xe s := by
    rw [hf]
    exact HandSPX.setFlight_upZ L.fl fun h4 held up4 => wpAny_throw (tk _ _ ⟨a, B, sI, pins, σ, H, cls, d, rfl, L.I, L.nb, L.up.trans up4, .inr (.inr (by rw [hs]; exact held)), L.na, L.os, L.ag, w⟩)
  first
    | exact wpAny_bind last
    | exact wpAny_bind (wpAny_pure (wpAny_bind last))
theorem named {x : Str} {c : Value} {np : Pos} {oe : Obj} {Q E : Value → Shared → Prop} (hc : Names X x c) (S : Inv (X.suite a ((a, oe) :: (X.pn ++ pins))) [] σ H s) (q : Q c s) : wpAny (model X.prog X.w) (X.A.mark (some (.ref a))) (eval (.Name x np) X.env) Q E s := by
  obtain ⟨h1, h2, h3 | ⟨h3, h4, h5⟩⟩ := hc
  · exact ld_glob (X := X.suite a ((a, oe) :: (X.pn ++ pins))) S h1 h3 q h2
  · exact ld_blt (X := X.suite a ((a, oe) :: (X.pn ++ pins))) S h1 h3 h4 q h5 h2
def wOne (K : PySem.W.Frag) (c : Value) (ts : Addr → Value → Option Addr → TS) (W : Ends → WX) : Ends → WX := fun D cls d σ H => ∃ b, PySem.W.exmOne K cls c = some b ∧ (b = true → ∀ a, H a = none → ts a cls d D σ H) ∧ (b = false → W D cls d σ H)
def wNm (K : PySem.W.Frag) (c : Value) (i : Nat) (ts : Addr → Value → Option Addr → TS) (W : Ends → WX) : Ends → WX := fun D cls d σ H => ∃ b, PySem.W.exmOne K cls c = some b ∧
  (b = true → ∀ a, H a = none → ts a cls d { nx := fun σ' H' => D.nx (σ'.set i none) H', rt := D.rt, bk := fun σ' H' => D.bk (σ'.set i none) H', ct := fun σ' H' => D.ct (σ'.set i none) H' } (σ.set i (some (.ref a))) H) ∧ (b = false → W D cls d σ H)
theorem hnd_one {x : Str} {c : Value} {ts : Addr → Value → Option Addr → TS} {b₀ : Stmt} {suite : List Stmt} {np pos' : Pos} {hds : List ExceptHandler} (hf : X.env.frame = some X.env.locals) (hc : Names X x c)
    (hsu : ∀ (a : Addr) (oe : Obj) (cls : Value) (d : Option Addr) (pn : List (Addr × Obj)), Zc cls d oe → (∃ vs, oe.data = .fields vs) → PSs (X.suite a ((a, oe) :: pn)) (b₀ :: suite) (ts a cls d)) (r : Hnd X hds W) :
    Hnd X (.ExceptHandler (some (.Name x np)) none (b₀ :: suite) pos' :: hds) (wOne X.K c ts W) := by
  intro pins D a B sI σ H cls d s L ⟨b, hb, yes, no⟩
  obtain ⟨oe, vs, he, hz, hd, S⟩ := L.suite hf
  have ty : PySem.W.Looks (model X.prog X.w) s.heap (typeOf (.ref a)) cls := fun A Q E s k q => wpAny_typeOf_ref (k _ _ he) (by rw [hz.1]; exact q)
  refine wpAny_handleBy_cons (codeAny_handlers_test (named hc S ((PySem.W.exm_one (M := model X.prog X.w) L.inv.kIn ty hb).here ?_))) (by intro q; cases q)
  cases b with
  | false => exact r pins D a B sI σ H cls d s L (no rfl)
  | true =>
    refine codeAny_handlers_suite (HandSPX.lands_againZ L.fl fun h4 fl4 up4 => ?_)
    obtain ⟨oe4, vs4, he4, hz4, hd4, S4⟩ := (L.step fl4 up4).suite hf
    refine wpAny_mono ((hsu a oe4 cls d (X.pn ++ pins) hz4 ⟨_, hd4⟩).run [] _ _ H _ S4 (yes rfl a L.na)) (fun f s6 z => ?_) (fun _ _ z => False.elim z)
    have ok := L.I.ok
    cases f with
    | next => exact let ⟨σ6, H6, S6, q6⟩ := z; ⟨σ6, H6, S6.unsuite ok, q6⟩
    | brk => exact let ⟨σ6, H6, S6, q6⟩ := z; ⟨σ6, H6, S6.unsuite ok, q6⟩
    | cont => exact let ⟨σ6, H6, S6, q6⟩ := z; ⟨σ6, H6, S6.unsuite ok, q6⟩
    | ret u => exact let ⟨v6, σ6, H6, S6, r6, q6⟩ := z; ⟨v6, σ6, H6, S6.unsuite ok, r6, q6⟩
theorem hnd_nm {x n : Str} {c : Value} {i : Nat} {ts : Addr → Value → Option Addr → TS} {b₀ : Stmt} {suite : List Stmt} {np pos' : Pos} {hds : List ExceptHandler} (hf : X.env.frame = some X.env.locals) (hN : X.N.Nodup) (hi : X.N[i]? = some n) (hl : X.env.kindOf n = some .local) (hc : Names X x c)
    (hsu : ∀ (a : Addr) (oe : Obj) (cls : Value) (d : Option Addr) (pn : List (Addr × Obj)), Zc cls d oe → (∃ vs, oe.data = .fields vs) → PSs (X.suite a ((a, oe) :: pn)) (b₀ :: suite) (ts a cls d)) (r : Hnd X hds W) :
    Hnd X (.ExceptHandler (some (.Name x np)) (some n) (b₀ :: suite) pos' :: hds) (wNm X.K c i ts W) := by
  intro pins D a B sI σ H cls d s L ⟨b, hb, yes, no⟩
  obtain ⟨oe, vs, he, hz, hd, S⟩ := L.suite hf
  have ty : PySem.W.Looks (model X.prog X.w) s.heap (typeOf (.ref a)) cls := fun A Q E s k q => wpAny_typeOf_ref (k _ _ he) (by rw [hz.1]; exact q)
  refine wpAny_handleBy_cons (codeAny_handlers_test (named hc S ((PySem.W.exm_one (M := model X.prog X.w) L.inv.kIn ty hb).here ?_))) (by intro q; cases q)
  cases b with
  | false => exact r pins D a B sI σ H cls d s L (no rfl)
  | true =>
    refine codeAny_handlers_suite_as (HandSPX.lands_againZ L.fl fun h4 fl4 up4 => ?_)
    obtain ⟨oe4, vs4, he4, hz4, hd4, S4⟩ := (L.step fl4 up4).suite hf
    refine store_ok (X := X.suite a ((a, oe4) :: (X.pn ++ pins))) (v := .ref a) S4 hN hi (.inl hl) rfl (fun s5 S5 => ?_) (.inr hl)
    refine wpAny_mono ((hsu a oe4 cls d (X.pn ++ pins) hz4 ⟨_, hd4⟩).run [] s5 _ H _ S5 (yes rfl a L.na)) (fun f s6 z => ?_) (fun _ _ z => False.elim z)
    have ok := L.I.ok
    have gone := fun {σ6 : L2.St} {H6 : Hp} {Q : Shared → Prop} (S6 : Inv (X.suite a ((a, oe4) :: (X.pn ++ pins))) [] σ6 H6 s6) (hq : ∀ s7, Inv X pins (σ6.set i none) H6 s7 → Q s7) => gone_ok (M := model X.prog X.w) (A := X.A) (E := X.xe) (pos := pos') (Q := fun _ s7 => Q s7) (S6.unsuite ok) hN hi hl hq
    cases f with
    | next => exact let ⟨σ6, H6, S6, q6⟩ := z; gone S6 fun s7 J => ⟨_, H6, J, q6⟩
    | brk => exact let ⟨σ6, H6, S6, q6⟩ := z; gone S6 fun s7 J => ⟨_, H6, J, q6⟩
    | cont => exact let ⟨σ6, H6, S6, q6⟩ := z; gone S6 fun s7 J => ⟨_, H6, J, q6⟩
    | ret u => exact let ⟨v6, σ6, H6, S6, r6, q6⟩ := z; gone S6 fun s7 J => ⟨v6, _, H6, J, r6, q6⟩
theorem ps_tryW {body : List Stmt} {h₀ : ExceptHandler} {hds : List ExceptHandler} {pos : Pos} {tb : WX → TS} (hs : X.stack = X.env :: X.outer) (hf : X.env.frame = some X.env.locals) (hh : Hnd X (h₀ :: hds) W)
    (hb : ∀ (W : WX) (pn : List (Addr × Obj)) (xe : Value → Shared → Prop), Takes (X.tr pn xe) W → PassesOwn (model X.prog X.w) X.A X.env xe → PSs (X.tr pn xe) body (tb W)) : PS X (.Try body (h₀ :: hds) [] [] pos) (fun D σ H => tb (W D) D σ H) := by
  refine ⟨fun pins s σ H D I h => ?_⟩
  have ok := I.ok
  have hfr : X.A.frames = some (X.env :: X.outer) := by rw [ok.frames, hs]
  refine wpAny_Try_except (wpAny_mono ((hb (W D) (X.pn ++ pins) _ (fun u s' xx => ?_) PassesOwn.looking).run [] s σ H D (I.toTry _) h) (fun f s1 z => ?_) (fun e s1 he => he))
  · obtain ⟨a, B, sI, pins', σ', H', cls, d, rfl, J', nb, up, sky, na, os, ag, w⟩ := xx
    have J : Inv X pins σ' H' sI := J'.ofTry ok
    refine Sky.land Zc.steady hfr hf (by rw [← hs]; exact sky) fun h3 fl3 up3 => ?_
    exact hh pins D a B sI σ' H' cls d { s' with heap := h3 } ⟨J, nb, up.trans up3, fl3, na, os, ag⟩ w
  · cases f with
    | next => exact let ⟨σ', H', J', q⟩ := z; wpAny_execs_nil ⟨σ', H', J'.ofTry ok, q⟩
    | brk => exact let ⟨σ', H', J', q⟩ := z; ⟨σ', H', J'.ofTry ok, q⟩
    | cont => exact let ⟨σ', H', J', q⟩ := z; ⟨σ', H', J'.ofTry ok, q⟩
    | ret u => exact let ⟨v, σ', H', J', r, q⟩ := z; ⟨v, σ', H', J'.ofTry ok, r, q⟩
end
section
variable {X : Cx} {CX : CXT} {k : Nat} {f C : Addr} {fd : FuncData} {ps : List Str} {sp : Sp} {E : L2.St → XK} {x m : Str} {p apos pos : Pos} {e o : Expr} {es : List Expr} {ta : TE} {t : TA}
/-- C(..), what is raised wished for at the slots -/
def tMakeS (C : Addr) (sp : Sp) (E : L2.St → XK) (t : TA) : TE := fun σ H Q => t σ H fun vs H1 => ∀ x dx, H1 x = none → H1 dx = none → dx ≠ x → sp (.ref x :: vs) (upd (upd H1 dx (.own x)) x (.ins C dx [])) (fun v H2 => v = .non ∧ Q (.ref x) H2) (E σ)
theorem pe_makeS (M : Mk X.K C f) (F : FnOk X.prog X.w X.K X.mg X.base CX k f fd ps sp) (hr : Room (k + 1) X.A) (hg : Gl X x) (hm : X.mg x = some (.ref C)) (hb : Binds X.K fd ps []) (hx : ∀ σ, PassesAt CX X σ (E σ))
    (ha : PA X (e :: es) t) (hdb : (x == ("__debug__" : Str)) = false := by decide) (he : starEach (e :: es) X.env = (false, eval e X.env) :: starEach es X.env := by rfl) (hpl : (backTo pos (starEach es X.env)).any (·.1) = false := by rfl) :
    PE X (.Call (.Name x p) (e :: es) [] pos) (tMakeS C sp E t) := by
  refine ⟨fun pins s σ H Q I h => wpAny_Call_Name_kw (ld_glob I hg hm ?_ hdb)⟩
  refine PySem.W.callWith_K (h₀ := X.base) I.ok.mod.kin M.kp (thn (ha.run pos pins s σ H _ I h) fun us s1 ⟨vs, H1, I1, r, q⟩ => ⟨I1.kIn, ?_⟩) he hpl
  have q1 := q (s1.heap.objs.size + 1) s1.heap.objs.size (I1.hok.fresh (Nat.le_succ _)) (I1.hok.fresh (Nat.le_refl _)) (Nat.ne_of_lt (Nat.lt_succ_self _))
  have I2 := Inv.made (C := C) I1
  have r2 : Vals (V.ref (s1.heap.objs.size + 1) :: vs) (Value.ref (s1.heap.objs.size + 1) :: us) := .cons rfl r
  have hl : (Value.ref (s1.heap.objs.size + 1) :: us).length = ps.length := by rw [← r2.length]; exact F.len _ _ _ _ q1
  have b := hb _ _ I2.kIn (by rw [List.append_nil]; exact hl)
  rw [List.append_nil] at b
  refine wpAny_call (make_map (f := f) I1.kIn M.makes M.init (beq_iff_eq.mp M.fn) (codeAny_mono (F.run _ X.stack _ _ _ _ _ _ (E σ) (hr.make C us []) (I2.env0.make C us []) b r2 q1) fun r s' z => ?_))
  cases r with
  | error e => exact hx σ pins _ _ e s' I2 z
  | ok fl =>
    cases fl with
    | ret u => exact let ⟨v, H', I3, rv, ev, q3⟩ := I2.after z; ⟨by subst ev; exact rv, ⟨V.ref (s1.heap.objs.size + 1), H', I3, rfl, q3⟩⟩
    | next => exact z.elim
    | brk => exact z.elim
    | cont => exact z.elim
/-- o.m(..), what is raised wished for at the slots -/
def tMethW (C : Addr) (m : Str) (sp : Sp) (E : L2.St → XK) (ta : TE) (t : TA) : TE := fun σ H Q => ta σ H fun x H1 => ∃ a dx fs, x = .ref a ∧ H1 a = some (.ins C dx fs) ∧ fs.lookup m = none ∧ t σ H1 fun vs H2 => sp (x :: vs) H2 Q (E σ)
theorem pe_methW {pl : Sem Bool} (he : PE X o ta) (c : Cls X.K C) (hm : Meth X.K C m f) (F : FnOk X.prog X.w X.K X.mg X.base CX k f fd ps sp) (hr : Room k X.A) (hb : Binds X.K fd ps []) (hx : ∀ σ, PassesAt CX X σ (E σ)) (ha : PA X (e :: es) t)
    (hst : starEach (e :: es) X.env = (false, eval e X.env) :: starEach es X.env := by rfl) (hpl : (backTo pos (starEach es X.env)).any (·.1) = false := by rfl)
    (ht : eval (.Call (.Attribute o m apos) (e :: es) [] pos) X.env = (do
      let ov ← eval o X.env
      standAt apos.atName
      let (f, first) ← holding [ov] (getMethod ov m pl)
      callWith pos f first (backTo pos (starEach (e :: es) X.env)) (backToKw pos (keywordEach [] X.env))) := by rfl) : PE X (.Call (.Attribute o m apos) (e :: es) [] pos) (tMethW C m sp E ta t) := by
  refine ⟨fun pins s σ H Q I h => PySem.W.methodCall_KW (pl := pl) (thn (he.run pins s σ H _ I h) fun u s1 ⟨x, H1, I1, rx, a, dx, fs, ex, ea, l, q⟩ => ?_) ht⟩
  subst ex
  cases rx
  refine getmeth_ok I1 ea c hm l (PySem.W.callWith_K (first := [.ref a]) (h₀ := X.base) I.ok.mod.kin hm.kp (thn (ha.run pos pins s1 σ H1 _ I1 q) fun us s2 ⟨vs, H2, I2, r, q2⟩ => ⟨I2.kIn, ?_⟩) hst hpl)
  exact run_fnS (us := .ref a :: us) (vs := .ref a :: vs) F hr hb (hx σ) I2 (.cons rfl r) q2
end
end Tw

set_option maxRecDepth 100000
set_option maxHeartbeats 2000000
namespace Dr
open PySem L2 PyProof.Rows
def top (i : Nat) : Stmt := PySem.Challenge.pw_shutbyrings_k09_what_is_an_order.main.body.getD i (.Pass ⟨0, 0, 0, 0⟩)
abbrev sFeed : Stmt := top 49
abbrev sTake : Stmt := top 50
abbrev sPick : Stmt := top 51
structure DTxt (mg : Str → Option Value) : Prop where
  len : mg "len" = none
  max : mg "max" = none
  abs : mg "abs" = none
  int : mg "int" = none
def feedO (x y : Int) : HO := .lst [.int x, .int y]
def spFeed (K : PySem.W.Frag) : Sp := fun vs H Q _ => ∃ (a : Addr) (ns : List Int) (k : Nat), vs = [.ref a, .int (k : Int)] ∧ SqL K H a (ns.map V.int) ∧ k < 1000 ∧
  ∀ (p : Addr) (x y : Int), H p = none → Q (.ref p) (upd H p (feedO x y))
def spTake : Sp := fun vs H Q _ => ∃ (p : Addr) (x y m : Int), vs = [.ref p, .int m] ∧ H p = some (feedO x y) ∧ 0 < m ∧ m < 1000000 ∧
  ∀ (r x' y' : Int), 0 ≤ r → r < m → Q (.int r) (upd H p (feedO x' y'))
section
variable {P : Program} {w : World} {K : PySem.W.Frag} {mg : Str → Option Value} {base : Heap}
theorem scF : FnScope ["script", "k", "cell", "digits", "state"] ["script", "k"] (defScope sFeed) := ⟨rfl, rfl, rfl, by decide +kernel, rfl, by decide +kernel, by decide +kernel⟩
theorem ok_feed {f : Addr} {fd : FuncData} (F : Fun K "_law_feed" "_law_feed" sFeed f fd) (T : DTxt mg) : FnOk P w K mg base CX0 1 f fd ["script", "k"] (spFeed K) := by
  refine F.ok scF (fun vs H Q E h => ?_) (fun cdv A outer s H vs Q E hr h => ?_)
  · obtain ⟨a, ns, k, rfl, _⟩ := h
    rfl
  · obtain ⟨a, ns, k, rfl, hs, hk, q⟩ := h
    refine ⟨_, pss_cons (ps_set (i := 2) scF.nd rfl (Or.inl rfl) (pe_ifExp (pt_cmpR op_lt (pv 1) (pe_callB call_len (by rfl) T.len PySem.boot_len (pa_cons (pv 0) pa_nil)) (nomark _)) (pe_ix ix_list (pv 0) (pv 1) fun _ _ => rfl) (pe_op op_add (pe_op op_mul pe_int (pv 1)) pe_int)))
      (pss_cons (ps_set (i := 3) scF.nd rfl (Or.inl rfl) (pe_callB (call_max2 rfl) (by rfl) T.max boot_max (pa_cons pe_int (pa_cons (pe_op op_sub (pe_callB call_abs (by rfl) T.abs boot_abs (pa_cons (pv 2) pa_nil)) (pe_op op_pow pe_int pe_int)) pa_nil))))
      (pss_cons (ps_set (i := 4) scF.nd rfl (Or.inl rfl) (pe_op op_mod (pe_callTy call_int1 (by rfl) T.int (by decide +kernel) (pa_cons (pe_op op_add (pe_op op_add (pe_op op_mul (pv 2) pe_int) (pe_op op_mul pe_int (pv 1))) pe_int) pa_nil)) pe_int))
      (pss_one (ps_ret (pe_lst (pa_cons (pv 3) (pa_cons (pv 4) pa_nil))))))), ?_⟩
    refine ⟨_, rfl, _, rfl, _, _, rfl, .inl ⟨_, hs, rfl⟩, _, _, rfl, rfl, _, rfl, ?_⟩
    have he : (10 : Int) ^ (18 : Int).toNat = 1000000000000000000 := by decide
    have h7 : CMul 7919 (k : Int) := .inl ⟨by decide, by decide⟩
    have hC : ∀ c : Int, CMul c 6364136223846793005 := fun c => .inr ⟨by decide, by decide⟩
    have hP : CPow 10 18 := ⟨by decide, by decide, by decide⟩
    refine ite2 (fun h1 => ?_) (fun h1 => ?_)
    · have hkl : k < (ns.map V.int).length := by
        have := of_decide_eq_true h1
        omega
      obtain ⟨c, hc⟩ : ∃ c : Int, (ns.map V.int)[k]? = some (V.int c) := by
        rw [List.length_map] at hkl
        exact ⟨ns[k], by rw [List.getElem?_map, List.getElem?_eq_getElem hkl]; rfl⟩
      refine ⟨_, rfl, _, rfl, _, _, _, _, rfl, rfl, hs, atI_nat hc, ?_⟩
      refine ⟨_, rfl, _, rfl, _, _, rfl, rfl, hP, _, _, rfl, rfl, _, _, rfl, ?_⟩
      refine ⟨_, rfl, _, _, rfl, rfl, hC _, _, rfl, _, _, rfl, rfl, h7, _, _, rfl, rfl, _, _, rfl, rfl, .inl ⟨_, rfl, _, _, rfl, rfl, (by show (0 : Int) < 2305843009213693951; decide), ?_⟩⟩
      exact ⟨_, rfl, _, rfl, (by show 2 ≤ sizeLine; decide), fun p hp => q p _ _ hp⟩
    · refine ⟨_, rfl, _, _, rfl, rfl, .inl ⟨by decide, by decide⟩, _, _, rfl, rfl, ?_⟩
      refine ⟨_, rfl, _, rfl, _, _, rfl, rfl, hP, _, _, rfl, rfl, _, _, rfl, ?_⟩
      refine ⟨_, rfl, _, _, rfl, rfl, hC _, _, rfl, _, _, rfl, rfl, h7, _, _, rfl, rfl, _, _, rfl, rfl, .inl ⟨_, rfl, _, _, rfl, rfl, (by show (0 : Int) < 2305843009213693951; decide), ?_⟩⟩
      exact ⟨_, rfl, _, rfl, (by show 2 ≤ sizeLine; decide), fun p hp => q p _ _ hp⟩
theorem scT : FnScope ["feed", "many", "digit"] ["feed", "many"] (defScope sTake) := ⟨rfl, rfl, rfl, by decide +kernel, rfl, by decide +kernel, by decide +kernel⟩
theorem feed0 {H : Hp} {p : Addr} {x y : Int} (h : H p = some (feedO x y)) : SqL K H p [.int x, .int y] := SqL.of h
theorem at0 {x y : Int} : atI [V.int x, V.int y] 0 = some (.int x) := rfl
theorem at1 {x y : Int} : atI [V.int x, V.int y] 1 = some (.int y) := rfl
theorem upd2 {H : Hp} {p : Addr} {o u : HO} : upd (upd H p o) p u = upd H p u := by
  funext b
  by_cases h : b = p
  · subst h
    rw [upd_same, upd_same]
  · rw [upd_ne h, upd_ne h, upd_ne h]
theorem ok_take {f : Addr} {fd : FuncData} (F : Fun K "_law_take" "_law_take" sTake f fd) (T : DTxt mg) : FnOk P w K mg base CX0 1 f fd ["feed", "many"] spTake := by
  refine F.ok scT (fun vs H Q E h => ?_) (fun cdv A outer s H vs Q E hr h => ?_)
  · obtain ⟨p, x, y, m, rfl, _⟩ := h
    rfl
  · obtain ⟨p, x, y, m, rfl, hp, hm0, hm1, q⟩ := h
    refine ⟨_, pss_cons (ps_if (pt_cmpR op_gt (pe_ix ix_list (pv 0) pe_int fun _ _ => rfl) pe_int (nomark _))
        (pss_cons (ps_set (i := 2) scT.nd rfl (Or.inl rfl) (pe_op op_mod (pe_callTy call_int1 (by rfl) T.int (by decide +kernel) (pa_cons (pe_ix ix_list (pv 0) pe_int fun _ _ => rfl) pa_nil)) (pv 1)))
        (pss_cons (ps_asg (pe_op op_fdiv (pe_ix ix_list (pv 0) pe_int fun _ _ => rfl) (pv 1)) (pg_sub (pv 0) pe_int set_list))
        (pss_one (ps_ret (pv 2))))) pss_nil)
      (pss_cons (ps_asg (pe_op op_mod (pe_callTy call_int1 (by rfl) T.int (by decide +kernel) (pa_cons (pe_op op_add (pe_op op_mul (pe_ix ix_list (pv 0) pe_int fun _ _ => rfl) pe_int) pe_int) pa_nil)) pe_int) (pg_sub (pv 0) pe_int set_list))
      (pss_one (ps_ret (pe_op op_mod (pe_callTy call_int1 (by rfl) T.int (by decide +kernel) (pa_cons (pe_op op_fdiv (pe_ix ix_list (pv 0) pe_int fun _ _ => rfl) pe_int) pa_nil)) (pv 1))))), ?_⟩
    have hS := feed0 (K := K) hp
    refine ⟨_, rfl, _, _, _, _, rfl, rfl, hS, at0, _, _, rfl, rfl, _, rfl, ?_⟩
    refine ite2 (fun h1 => ?_) (fun h1 => ?_)
    · refine ⟨_, rfl, _, _, _, _, rfl, rfl, hS, at0, .inl ⟨_, rfl, _, rfl, _, _, rfl, rfl, hm0, ?_⟩⟩
      refine ⟨_, rfl, _, _, _, _, rfl, rfl, hS, at0, _, rfl, _, _, rfl, rfl, ⟨hm0, by omega⟩, ?_⟩
      refine ⟨_, rfl, _, _, _, 0, rfl, rfl, hp, rfl, _, rfl, ?_⟩
      exact q _ _ _ (Int.emod_nonneg _ (by omega)) (Int.emod_lt_of_pos _ hm0)
    · refine ⟨_, rfl, _, _, _, _, rfl, rfl, hS, at1, _, _, rfl, rfl, .inr ⟨by decide, by decide⟩, _, _, rfl, rfl, .inl ⟨_, rfl, _, _, rfl, rfl, (by show (0 : Int) < 2305843009213693951; decide), ?_⟩⟩
      refine ⟨_, rfl, _, _, _, 1, rfl, rfl, hp, rfl, ?_⟩
      refine ⟨_, rfl, _, _, _, _, rfl, rfl, SqL.of upd_same, at1, _, _, rfl, rfl, ⟨by decide, by decide⟩, .inl ⟨_, rfl, _, rfl, _, _, rfl, rfl, hm0, ?_⟩⟩
      exact q _ _ _ (Int.emod_nonneg _ (by omega)) (Int.emod_lt_of_pos _ hm0)
def spPick (K : PySem.W.Frag) : Sp := fun vs H Q _ => ∃ (p : Addr) (x y : Int), H p = some (feedO x y) ∧
  ((∃ (l : Addr) (xs : List V), vs = [.ref p, .ref l] ∧ SqL K H l xs ∧ l ≠ p ∧ 0 < xs.length ∧ xs.length < 1000000 ∧
      ∀ (v : V) (x' y' : Int), v ∈ xs → Q v (upd H p (feedO x' y'))) ∨
   (∃ (z : Str), vs = [.ref p, .str z] ∧ 0 < z.length ∧ z.length < 1000000 ∧
      ∀ (c : Nat) (x' y' : Int), c ∈ z.cps.toList → Q (.str ⟨#[c]⟩) (upd H p (feedO x' y'))))
theorem atI_in {α : Type} {xs : List α} {r : Int} (h0 : 0 ≤ r) (h1 : r < (xs.length : Int)) : ∃ v, atI xs r = some v ∧ v ∈ xs := by
  have h2 : r.toNat < xs.length := by omega
  refine ⟨xs[r.toNat], ?_, List.getElem_mem h2⟩
  unfold atI ixN
  rw [if_pos h0, if_pos h1]
  exact List.getElem?_eq_getElem h2
theorem scK : FnScope ["feed", "some"] ["feed", "some"] (defScope sPick) := ⟨rfl, rfl, rfl, by decide +kernel, rfl, by decide +kernel, by decide +kernel⟩
theorem seq_upd {H : Hp} {l p : Addr} {xs : List V} {o : HO} (h : SqL K H l xs) (n : l ≠ p) : SqL K (upd H p o) l xs := by
  rcases h with (h | ⟨u, h⟩) | h
  · exact .inl (.inl (by rw [upd_ne n]; exact h))
  · exact .inl (.inr ⟨u, by rw [upd_ne n]; exact h⟩)
  · exact .inr h
theorem ok_pick {f fT : Addr} {fd fdT : FuncData} (F : Fun K "_law_pick" "_law_pick" sPick f fd) (T : DTxt mg) (FT : Fun K "_law_take" "_law_take" sTake fT fdT) (bT : Binds K fdT ["feed", "many"] []) (gT : mg "_law_take" = some (.ref fT)) :
    FnOk P w K mg base CX0 2 f fd ["feed", "some"] (spPick K) := by
  have GT : FnOk P w K mg base CX0 1 fT fdT ["feed", "many"] spTake := ok_take FT T
  refine F.ok scK (fun vs H Q E h => ?_) (fun cdv A outer s H vs Q E hr h => ?_)
  · obtain ⟨p, x, y, _, ⟨l, xs, rfl, _⟩ | ⟨z, rfl, _⟩⟩ := h <;> rfl
  · refine ⟨_, pss_one (ps_ret (pe_ix ix_seq (pv 1) (pe_call GT hr (by rfl) gT FT.kp bT .nil pass0 (pa_cons (pv 0) (pa_cons (pe_callB call_len (by rfl) T.len PySem.boot_len (pa_cons (pv 1) pa_nil)) pa_nil))) fun _ _ => rfl)), ?_⟩
    obtain ⟨p, x, y, hp, ⟨l, xs, rfl, hl, hn, h0, h1, q⟩ | ⟨z, rfl, h0, h1, q⟩⟩ := h
    · refine ⟨_, rfl, _, rfl, _, rfl, _, _, rfl, .inl ⟨_, hl, rfl⟩, ?_⟩
      refine ⟨p, x, y, _, rfl, hp, by omega, by omega, fun r x' y' hr0 hr1 => ?_⟩
      have e : r = ((r.toNat : Nat) : Int) := by omega
      have hlt : r.toNat < xs.length := by omega
      refine .inl ⟨_, _, _, _, rfl, rfl, seq_upd hl hn, (by rw [e]; exact atI_nat (List.getElem?_eq_getElem hlt)), ?_⟩
      exact q _ _ _ (List.getElem_mem hlt)
    · refine ⟨_, rfl, _, rfl, _, rfl, _, z.length, rfl, ⟨Nat.le_trans (Nat.le_of_lt h1) (by decide), rfl⟩, ?_⟩
      refine ⟨p, x, y, _, rfl, hp, by omega, by omega, fun r x' y' hr0 hr1 => ?_⟩
      have el : z.length = z.cps.toList.length := by simp [Str.length]
      obtain ⟨c, hc, hm⟩ := atI_in (xs := z.cps.toList) hr0 (by omega)
      exact .inr (.inr ⟨_, _, _, rfl, rfl, Nat.le_trans (Nat.le_of_lt h1) (by decide), hc, q _ _ _ hm⟩)
end
end Dr

set_option maxRecDepth 100000
set_option maxHeartbeats 4000000
namespace Sg
open PySem PySem.Spec PyProof.Rows L2 Dr Gd Er
/-! ### the mirror: values as data -/
def tyD : PyData → String
  | .none => "NoneType" | .bool _ => "bool" | .int _ => "int" | .str _ => "str" | .list _ => "list" | .tuple _ => "tuple" | .dict _ => "dict"
theorem ty_dp {K : PySem.W.Frag} {H : Hp} {v : V} {d : PyData} (h : Dp K H v d) : TyX K H v (.type (tyD d)) := by
  cases h with
  | non => exact .base .non
  | bl b => exact .base (.bl b)
  | int i => exact .base (.int i)
  | str x => exact .base (.str x)
  | lst h _ =>
    rcases h with (h | ⟨o, h⟩) | ⟨o, its, n, e, c, _⟩
    · exact .base (.lst h)
    · exact .base (.frz h)
    · exact .kList e c
  | tup h _ =>
    rcases h with (h | ⟨o, h⟩) | ⟨o, its, n, e, c, _⟩
    · exact .base (.tup h)
    · exact .fTuple h
    · exact .kTuple e c
def isWhole : PyData → Bool
  | .int _ => true
  | _ => false
def wordIn (L z : Str) : Bool := decide (1 ≤ z.length) && (decide (z.length ≤ 8) && z.cps.toList.all fun c => decide (c ∈ L.cps.toList))
def isWord (L : Str) : PyData → Bool
  | .str z => wordIn L z
  | _ => false
def isTup (n : Int) : PyData → Bool
  | .tuple ds => decide ((ds.length : Int) = n)
  | _ => false
abbrev sWhole : Stmt := top 22
abbrev sWord : Stmt := top 23
abbrev sTupOf : Stmt := top 24
structure KTxt (mg : Str → Option Value) : Prop where
  isi : mg "isinstance" = none
  int : mg "int" = none
  bool : mg "bool" = none
  str : mg "str" = none
  tup : mg "tuple" = none
  len : mg "len" = none
  all : mg "all" = none
  ml : ∃ t, mg "MOST_LETTERS" = some (.int 8 t)
def spWhole (K : PySem.W.Frag) : Sp := fun vs H Q _ => ∃ v d, vs = [v] ∧ Dp K H v d ∧ Q (.bl (isWhole d)) H
def spTupOf (K : PySem.W.Frag) : Sp := fun vs H Q _ => ∃ v d n, vs = [v, .int n] ∧ Dp K H v d ∧ Q (.bl (isTup n d)) H
def spWord (K : PySem.W.Frag) : Sp := fun vs H Q _ => ∃ v d L, vs = [v, .str L] ∧ Dp K H v d ∧ (∀ z, d = .str z → z.length ≤ sizeLine) ∧ ∀ H', Same H H' → Q (.bl (isWord L d)) H'
def kB (a b : String) : Option Bool := kitB a b
theorem k_int (d : PyData) : kitB (tyD d) "int" = some (isWhole d || (match d with | .bool _ => true | _ => false)) := by
  cases d
  · exact (by decide +kernel : kitB "NoneType" "int" = some false)
  · exact (by decide +kernel : kitB "bool" "int" = some true)
  · exact (by decide +kernel : kitB "int" "int" = some true)
  · exact (by decide +kernel : kitB "str" "int" = some false)
  · exact (by decide +kernel : kitB "list" "int" = some false)
  · exact (by decide +kernel : kitB "tuple" "int" = some false)
  · exact (by decide +kernel : kitB "dict" "int" = some false)
theorem k_bool (d : PyData) : kitB (tyD d) "bool" = some (match d with | .bool _ => true | _ => false) := by
  cases d
  · exact (by decide +kernel : kitB "NoneType" "bool" = some false)
  · exact (by decide +kernel : kitB "bool" "bool" = some true)
  · exact (by decide +kernel : kitB "int" "bool" = some false)
  · exact (by decide +kernel : kitB "str" "bool" = some false)
  · exact (by decide +kernel : kitB "list" "bool" = some false)
  · exact (by decide +kernel : kitB "tuple" "bool" = some false)
  · exact (by decide +kernel : kitB "dict" "bool" = some false)
theorem k_str (d : PyData) : kitB (tyD d) "str" = some (match d with | .str _ => true | _ => false) := by
  cases d
  · exact (by decide +kernel : kitB "NoneType" "str" = some false)
  · exact (by decide +kernel : kitB "bool" "str" = some false)
  · exact (by decide +kernel : kitB "int" "str" = some false)
  · exact (by decide +kernel : kitB "str" "str" = some true)
  · exact (by decide +kernel : kitB "list" "str" = some false)
  · exact (by decide +kernel : kitB "tuple" "str" = some false)
  · exact (by decide +kernel : kitB "dict" "str" = some false)
theorem k_tup (d : PyData) : kitB (tyD d) "tuple" = some (match d with | .tuple _ => true | _ => false) := by
  cases d
  · exact (by decide +kernel : kitB "NoneType" "tuple" = some false)
  · exact (by decide +kernel : kitB "bool" "tuple" = some false)
  · exact (by decide +kernel : kitB "int" "tuple" = some false)
  · exact (by decide +kernel : kitB "str" "tuple" = some false)
  · exact (by decide +kernel : kitB "list" "tuple" = some false)
  · exact (by decide +kernel : kitB "tuple" "tuple" = some true)
  · exact (by decide +kernel : kitB "dict" "tuple" = some false)
theorem k_list (d : PyData) : kitB (tyD d) "list" = some (match d with | .list _ => true | _ => false) := by
  cases d
  · exact (by decide +kernel : kitB "NoneType" "list" = some false)
  · exact (by decide +kernel : kitB "bool" "list" = some false)
  · exact (by decide +kernel : kitB "int" "list" = some false)
  · exact (by decide +kernel : kitB "str" "list" = some false)
  · exact (by decide +kernel : kitB "list" "list" = some true)
  · exact (by decide +kernel : kitB "tuple" "list" = some false)
  · exact (by decide +kernel : kitB "dict" "list" = some false)
section
variable {P : Program} {w : World} {K : PySem.W.Frag} {mg : Str → Option Value} {base : Heap}
theorem scWh : FnScope ["value"] ["value"] (defScope sWhole) := ⟨rfl, rfl, rfl, by decide +kernel, rfl, by decide +kernel, by decide +kernel⟩
theorem ok_whole {f : Addr} {fd : FuncData} (F : Fun K "is_whole" "is_whole" sWhole f fd) (T : KTxt mg) : FnOk P w K mg base CX0 1 f fd ["value"] (spWhole K) := by
  refine F.ok scWh (fun vs H Q E h => ?_) (fun cdv A outer s H vs Q E hr h => ?_)
  · obtain ⟨v, d, rfl, _⟩ := h
    rfl
  · obtain ⟨v, d, rfl, hd, q⟩ := h
    refine ⟨_, pss_one (ps_ret (pe_and (pe_callB call_isi (by rfl) T.isi (by decide +kernel) (pa_cons (pv 0) (pa_cons (pe_bltn (v := .ty "int") (by rfl) T.int (by decide +kernel) rfl) pa_nil)))
      (pe_one (pe_not (pe_callB call_isi (by rfl) T.isi (by decide +kernel) (pa_cons (pv 0) (pa_cons (pe_bltn (v := .ty "bool") (by rfl) T.bool (by decide +kernel) rfl) pa_nil))))))), ?_⟩
    refine ⟨_, rfl, v, .ty "int", .type (tyD d), .type "int", _, rfl, .ty _, ty_dp hd, kit_ty (k_int d), _, rfl, ?_⟩
    refine ite2 (fun c => ?_) (fun c => ?_)
    · refine ⟨_, rfl, v, .ty "bool", .type (tyD d), .type "bool", _, rfl, .ty _, ty_dp hd, kit_ty (k_bool d), _, rfl, ?_⟩
      cases d <;> first | exact q | (simp [isWhole] at c)
    · cases d <;> first | exact q | (simp [isWhole] at c)
end
end Sg

set_option maxRecDepth 100000
set_option maxHeartbeats 4000000
namespace Sg
open PySem PySem.Spec PyProof.Rows L2 Dr Gd Er Cm
theorem lcYes {σ : L2.St} {H : Hp} {A B : Hp → Prop} (h : A H) : tYes σ H (fun b H3 => if b = true then A H3 else B H3) := by
  show (if true = true then A H else B H)
  rw [if_pos rfl]
  exact h
section
variable {P : Program} {w : World} {K : PySem.W.Frag} {mg : Str → Option Value} {base : Heap}
theorem scTo : FnScope ["value", "many"] ["value", "many"] (defScope sTupOf) := ⟨rfl, rfl, rfl, by decide +kernel, rfl, by decide +kernel, by decide +kernel⟩
theorem ok_tupOf {f : Addr} {fd : FuncData} (F : Fun K "is_tuple_of" "is_tuple_of" sTupOf f fd) (T : KTxt mg) : FnOk P w K mg base CX0 1 f fd ["value", "many"] (spTupOf K) := by
  refine F.ok scTo (fun vs H Q E h => ?_) (fun cdv A outer s H vs Q E hr h => ?_)
  · obtain ⟨v, d, n, rfl, _⟩ := h
    rfl
  · obtain ⟨v, d, n, rfl, hd, q⟩ := h
    refine ⟨_, pss_one (ps_ret (pe_and (pe_callB call_isi (by rfl) T.isi (by decide +kernel) (pa_cons (pv 0) (pa_cons (pe_bltn (v := .ty "tuple") (by rfl) T.tup (by decide +kernel) rfl) pa_nil)))
      (pe_one (pe_cmpR op_eq (pe_callB call_len_seq (by rfl) T.len PySem.boot_len (pa_cons (pv 0) pa_nil)) (pv 1) (nomark _))))), ?_⟩
    refine ⟨_, rfl, v, .ty "tuple", .type (tyD d), .type "tuple", _, rfl, .ty _, ty_dp hd, kit_ty (k_tup d), _, rfl, ?_⟩
    refine ite2 (fun c => ?_) (fun c => ?_)
    · cases d with
      | tuple ds =>
        cases hd with
        | tup h1 h2 =>
          rename_i a xs
          refine ⟨_, rfl, a, _, rfl, .inr h1, _, rfl, rfl, ?_⟩
          rw [dpAll_len h2]
          have e : decide (V.int (ds.length : Int) = V.int n) = isTup n (.tuple ds) := by
            unfold isTup
            congr 1
            exact propext ⟨fun h => by cases h; rfl, fun h => by rw [h]⟩
          rw [e]
          exact q
      | _ => exact absurd c (by simp)
    · cases d <;> first | exact q | (simp at c)
theorem scWo : FnScope ["value", "letters", "letter"] ["value", "letters"] (defScope sWord) := ⟨rfl, rfl, rfl, by decide +kernel, rfl, by decide +kernel, by decide +kernel⟩
theorem ok_word {f : Addr} {fd : FuncData} (F : Fun K "is_word" "is_word" sWord f fd) (T : KTxt mg) : FnOk P w K mg base CX0 1 f fd ["value", "letters"] (spWord K) := by
  obtain ⟨t8, ml⟩ := T.ml
  refine F.ok scWo (fun vs H Q E h => ?_) (fun cdv A outer s H vs Q E hr h => ?_)
  · obtain ⟨v, d, L, rfl, _⟩ := h
    rfl
  · obtain ⟨v, d, L, rfl, hd, hz, q⟩ := h
    refine ⟨_, pss_cons (ps_if (PW.pt (pw_or (pt_not (pt_val (pe_callB call_isi (by rfl) T.isi (by decide +kernel) (pa_cons (pv 0) (pa_cons (pe_bltn (v := .ty "str") (by rfl) T.str (by decide +kernel) rfl) pa_nil)))))
        (pw_or1 (pt_not (pt_chain op_le op_le pe_int (pe_callB call_len_str (by rfl) T.len PySem.boot_len (pa_cons (pv 0) pa_nil)) (pe_glob (v := .int 8) rfl ml ⟨_, rfl⟩)))))) (pss_one (ps_ret pe_bl)) pss_nil)
      (pss_one (ps_ret (pe_callB (cr_all rfl) (by rfl) T.all (by decide +kernel) (pa_cons
        (pe_lc (own := [("letter", 2)]) (g := gName 2) (tt := tYes) rfl scWo.nd (pi_str (pv 0)) (blkOk_by (N := ["value", "letters", "letter"]) (sc := defScope sWord) (by decide +kernel)) (fun _ _ _ _ _ => pg_name (i := 2) scWo.nd rfl (Or.inl rfl)) (fun _ _ _ _ _ => pts_nil) (fun _ _ _ _ _ => pe_cmpR op_in_sign (pv 2) (pv 1) (by rfl))) pa_nil)))), ?_⟩
    refine ⟨_, rfl, v, .ty "str", .type (tyD d), .type "str", _, rfl, .ty _, ty_dp hd, kit_ty (k_str d), _, rfl, ?_⟩
    cases d with
    | str z =>
      cases hd
      refine iteF ?_
      refine ⟨_, rfl, _, rfl, hz z rfl, _, _, rfl, rfl, _, rfl, ?_⟩
      have done : ∀ b : Bool, b = wordIn L z → ∀ H', Same H H' → Q (.bl b) H' := fun b e H' s => by
        rw [e]
        exact q H' s
      have zl : (z.length : Nat) = z.cps.size := rfl
      refine ite2 (fun c1 => ?_) (fun c1 => ?_)
      · refine ⟨_, _, rfl, rfl, _, rfl, ?_⟩
        have c1 := of_decide_eq_true c1
        refine ite2 (fun c2 => ?_) (fun c2 => ?_)
        · exact done _ (by simp [wordIn] at *; omega) H (Same.refl H)
        · have c2 : (z.length : Int) ≤ 8 := by simpa using c2
          refine ⟨_, rfl, z, rfl, fun D hD => ?_⟩
          refine lc_it walk_str (fun i H1 => ∃ bs : List Bool, bs = (z.cps.toList.take i).map (fun c => decide (c ∈ L.cps.toList)) ∧ H1 = upd H D (.lst (bs.map V.bl))) ⟨[], by simp, rfl⟩ (fun _ _ _ _ => trivial) (fun i x H1 H2 hi hp hy => ?_) (fun H1 hp => ?_)
          · obtain ⟨bs, rfl, rfl⟩ := hp
            obtain ⟨rfl, c, hc, rfl⟩ := hy
            refine ⟨rfl, lcYes ?_⟩
            refine ⟨_, rfl, _, rfl, c, L, rfl, rfl, _, upd_same, ?_, (z.cps.toList.take (i + 1)).map (fun c => decide (c ∈ L.cps.toList)), ?_, ?_⟩
            · rw [List.length_map, List.length_map, List.length_take]
              have : i < 8 := by omega
              exact Nat.lt_of_le_of_lt (Nat.min_le_left _ _) (Nat.lt_trans this (by decide))
            · exact rfl
            · rw [upd2]
              have e : z.cps.toList[i]? = some c := by rw [Array.getElem?_toList]; exact hc
              have hi' : i < z.cps.toList.length := by simpa using hi
              rw [List.take_succ, e]
              simp
          · obtain ⟨bs, e, rfl⟩ := hp
            refine ⟨D, bs, rfl, SqL.of upd_same, ?_⟩
            refine done _ ?_ _ (same_upd hD)
            rw [e, List.take_of_length_le (by simp)]
            unfold wordIn
            rw [decide_eq_true (show 1 ≤ z.length by omega), decide_eq_true (show z.length ≤ 8 by omega), Bool.true_and, Bool.true_and, List.all_map]
            rfl
      · exact ⟨_, rfl, iteT (done _ (by simp [wordIn] at *; omega) H (Same.refl H))⟩
    | _ => exact iteT (q H (Same.refl H))
end
end Sg

set_option maxRecDepth 100000
set_option maxHeartbeats 4000000
namespace Sg
open PySem PySem.Spec PyProof.Rows L2 Dr Gd Er Cm
abbrev sIsSign : Stmt := top 38
def Lc : Str := "abcdefghijklmnopqrstuvwxyz"
def isAr : PyData → Bool
  | .int n => decide (0 ≤ n) && decide (n ≤ 3)
  | _ => false
def isSign : PyData → Bool
  | .tuple ds => (match ds with
    | [x, y] => isWord Lc x && isAr y
    | _ => false)
  | _ => false
/-- texts that stand first in pairs are no longer than a line -/
def Short : PyData → Prop
  | .tuple [.str z, _] => z.length ≤ sizeLine
  | _ => True
structure Kn (K : PySem.W.Frag) (mg : Str → Option Value) (f1 f2 f3 : Addr) (d1 d2 d3 : FuncData) : Prop where
  t : KTxt mg
  F1 : Fun K "is_whole" "is_whole" sWhole f1 d1
  F2 : Fun K "is_word" "is_word" sWord f2 d2
  F3 : Fun K "is_tuple_of" "is_tuple_of" sTupOf f3 d3
  g1 : mg "is_whole" = some (.ref f1)
  g2 : mg "is_word" = some (.ref f2)
  g3 : mg "is_tuple_of" = some (.ref f3)
  sm : ∃ t, mg "SMALL" = some (.str Lc t)
  ma : ∃ t, mg "MOST_ARGUMENTS" = some (.int 3 t)
section
variable {P : Program} {w : World} {K : PySem.W.Frag} {mg : Str → Option Value} {base : Heap} {f1 f2 f3 : Addr} {d1 d2 d3 : FuncData}
theorem Kn.b1 (k : Kn K mg f1 f2 f3 d1 d2 d3) : Binds K d1 ["value"] [] := k.F1.binds fun _ _ _ _ _ _ us hl => match us, hl with | [_], _ => rfl
theorem Kn.b2 (k : Kn K mg f1 f2 f3 d1 d2 d3) : Binds K d2 ["value", "letters"] [] := k.F2.binds fun _ _ _ _ _ _ us hl => match us, hl with | [_, _], _ => rfl
theorem Kn.b3 (k : Kn K mg f1 f2 f3 d1 d2 d3) : Binds K d3 ["value", "many"] [] := k.F3.binds fun _ _ _ _ _ _ us hl => match us, hl with | [_, _], _ => rfl
theorem scIs : FnScope ["value"] ["value"] (defScope sIsSign) := ⟨rfl, rfl, rfl, by decide +kernel, rfl, by decide +kernel, by decide +kernel⟩
def spIsSign (K : PySem.W.Frag) : Sp := fun vs H Q _ => ∃ v d, vs = [v] ∧ Dp K H v d ∧ Short d ∧ ∀ H', Same H H' → Q (.bl (isSign d)) H'
theorem ok_isSign {f : Addr} {fd : FuncData} (F : Fun K "_is_sign" "_is_sign" sIsSign f fd) (T : Kn K mg f1 f2 f3 d1 d2 d3) : FnOk P w K mg base CX0 2 f fd ["value"] (spIsSign K) := by
  obtain ⟨tS, mS⟩ := T.sm
  obtain ⟨tA, mA⟩ := T.ma
  refine F.ok scIs (fun vs H Q E h => ?_) (fun cdv A outer s H vs Q E hr h => ?_)
  · obtain ⟨v, d, rfl, _⟩ := h
    rfl
  · obtain ⟨v, d, rfl, hd, hs, q⟩ := h
    refine ⟨_, pss_cons (ps_if (PW.pt (pw_or (pt_not (pt_val (pe_call (ok_tupOf T.F3 T.t) hr rfl T.g3 T.F3.kp T.b3 .nil pass0 (pa_cons (pv 0) (pa_cons pe_int pa_nil)))))
        (pw_or1 (pt_not (pt_val (pe_call (ok_word T.F2 T.t) hr rfl T.g2 T.F2.kp T.b2 .nil pass0 (pa_cons (pe_ix ix_tup (pv 0) pe_int fun _ _ => rfl) (pa_cons (pe_glob (v := .str Lc) rfl mS ⟨_, rfl⟩) pa_nil)))))))) (pss_one (ps_ret pe_bl)) pss_nil)
      (pss_one (ps_ret (pe_and (pe_call (ok_whole T.F1 T.t) hr rfl T.g1 T.F1.kp T.b1 .nil pass0 (pa_cons (pe_ix ix_tup (pv 0) pe_int fun _ _ => rfl) pa_nil))
        (pe_one (pe_chain op_le op_le pe_int (pe_ix ix_tup (pv 0) pe_int fun _ _ => rfl) (pe_glob (v := .int 3) rfl mA ⟨_, rfl⟩)))))), ?_⟩
    refine ⟨_, rfl, v, d, 2, rfl, hd, _, rfl, ?_⟩
    have no : isTup 2 d = false → isSign d = false := fun e => by
      cases d with
      | tuple ds =>
        match ds with
        | [] => rfl
        | [_] => rfl
        | [x, y] => simp [isTup] at e
        | _ :: _ :: _ :: _ => rfl
      | _ => rfl
    refine ite2 (fun c => ?_) (fun c => ?_)
    · have c : isTup 2 d = false := by simpa using c
      have z := q H (Same.refl H)
      rw [no c] at z
      exact z
    · cases d with
      | tuple ds =>
        match ds, hd, c with
        | [x, y], hd, _ =>
          cases hd with
          | tup h1 h2 =>
            rename_i a xs
            cases h2 with
            | cons hx h2 =>
              cases h2 with
              | cons hy h2 =>
                cases h2
                rename_i vx vy
                refine ⟨_, rfl, a, _, 0, vx, rfl, rfl, h1, rfl, ?_⟩
                refine ⟨vx, x, Lc, rfl, hx, (fun z e => by subst e; exact hs), fun H1 s1 => ⟨_, rfl, ?_⟩⟩
                refine ite2 (fun c2 => ?_) (fun c2 => ?_)
                · have c2 : isWord Lc x = false := by simpa using c2
                  have z := q H1 s1
                  have e : isSign (.tuple [x, y]) = false := by
                    show (isWord Lc x && isAr y) = false; rw [c2]; rfl
                  rw [e] at z
                  exact z
                · have c2 : isWord Lc x = true := by simpa using c2
                  have e : isSign (.tuple [x, y]) = isAr y := by
                    show (isWord Lc x && isAr y) = _; rw [c2]; rfl
                  have q := fun H' (s : Same H H') => q H' s
                  rw [e] at q
                  refine ⟨_, rfl, a, _, 1, vy, rfl, rfl, seqT_same s1 h1, rfl, ?_⟩
                  refine ⟨vy, y, rfl, dp_same s1 _ _ hy, _, rfl, ?_⟩
                  refine ite2 (fun c3 => ?_) (fun c3 => ?_)
                  · cases y with
                    | int n =>
                      cases hy
                      refine ⟨_, rfl, a, _, 1, _, rfl, rfl, seqT_same s1 h1, rfl, ?_⟩
                      refine ⟨_, _, rfl, rfl, _, rfl, ?_⟩
                      refine ite2 (fun c4 => ?_) (fun c4 => ?_)
                      · refine ⟨_, _, rfl, rfl, ?_⟩
                        have z := q H1 s1
                        rw [show isAr (.int n) = decide (n ≤ 3) from by show (decide (0 ≤ n) && decide (n ≤ 3)) = _; rw [show decide (0 ≤ n) = true from c4]; rfl] at z
                        exact z
                      · have z := q H1 s1
                        rw [show isAr (.int n) = false from by show (decide (0 ≤ n) && decide (n ≤ 3)) = _; rw [show decide (0 ≤ n) = false from by simpa using c4]; rfl] at z
                        exact z
                    | _ => cases c3
                  · have z := q H1 s1
                    rw [show isAr y = false from by cases y <;> first | rfl | exact absurd rfl c3] at z
                    exact z
      | _ => exact absurd rfl c
end
end Sg

set_option maxRecDepth 100000
set_option maxHeartbeats 4000000
namespace Sg
open PySem PySem.Spec PyProof.Rows L2 Dr Gd Er Cm
abbrev sSigns : Stmt := top 37
/-- all but x as it was -/
def SameX (x : Addr) (H H' : Hp) : Prop := ∀ b o, H b = some o → b ≠ x → H' b = some o
theorem SameX.refl (x : Addr) (H : Hp) : SameX x H H := fun _ _ h _ => h
theorem SameX.trans {x : Addr} {H H1 H2 : Hp} (a : SameX x H H1) (b : SameX x H1 H2) : SameX x H H2 := fun c o h n => b c o (a c o h n) n
theorem Same.x {x : Addr} {H H' : Hp} (s : Same H H') : SameX x H H' := fun b o h _ => s b o h
theorem SameX.upd {x : Addr} {H H1 : Hp} {o : HO} (s : SameX x H H1) : SameX x H (L2.upd H1 x o) := fun b u h n => by
  rw [upd_ne n]; exact s b u h n
theorem SameX.new {x p : Addr} {H H1 : Hp} {o : HO} (s : SameX x H H1) (hp : H p = none) : SameX x H (L2.upd H1 p o) := fun b u h n => by
  rw [upd_ne (ne_of_none h hp)]; exact s b u h n
structure SeqK (K : PySem.W.Frag) (H H' : Hp) : Prop where
  l : ∀ a xs, SqL K H a xs → SqL K H' a xs
  t : ∀ a xs, SqT K H a xs → SqT K H' a xs
mutual
theorem dp_seq {K : PySem.W.Frag} {H H' : Hp} (s : SeqK K H H') : ∀ (d : PyData) (v : V), Dp K H v d → Dp K H' v d
  | .none, _, h => by cases h; exact .non
  | .bool b, _, h => by cases h; exact .bl b
  | .int i, _, h => by cases h; exact .int i
  | .str x, _, h => by cases h; exact .str x
  | .list ds, _, h => by
    cases h with
    | lst h1 h2 => exact .lst (s.l _ _ h1) (dpAll_seq s ds _ h2)
  | .tuple ds, _, h => by
    cases h with
    | tup h1 h2 => exact .tup (s.t _ _ h1) (dpAll_seq s ds _ h2)
  | .dict kvs, _, h => by cases h
theorem dpAll_seq {K : PySem.W.Frag} {H H' : Hp} (s : SeqK K H H') : ∀ (ds : List PyData) (vs : List V), DpAll K H vs ds → DpAll K H' vs ds
  | [], _, h => by cases h; exact .nil
  | d :: ds, _, h => by
    cases h with
    | cons a b => exact .cons (dp_seq s d _ a) (dpAll_seq s ds _ b)
end
theorem SameX.seqK {K : PySem.W.Frag} {x C dx : Addr} {fs : List (Str × V)} {H H' : Hp} (s : SameX x H H') (hx : H x = some (.ins C dx fs)) : SeqK K H H' := by
  refine ⟨fun a xs h => ?_, fun a xs h => ?_⟩
  · rcases h with (h | ⟨o, h⟩) | h
    · exact .inl (.inl (s _ _ h (ne_of h hx (by intro z; cases z))))
    · exact .inl (.inr ⟨o, s _ _ h (ne_of h hx (by intro z; cases z))⟩)
    · exact .inr h
  · rcases h with (h | ⟨o, h⟩) | h
    · exact .inl (.inl (s _ _ h (ne_of h hx (by intro z; cases z))))
    · exact .inl (.inr ⟨o, s _ _ h (ne_of h hx (by intro z; cases z))⟩)
    · exact .inr h
/-! ### what a list of pairs makes -/
inductive Res where
  | ok (ps : List (Str × Int))
  | bad (i : Nat)
def prOf : PyData → Str × Int
  | .tuple ds => (match ds with
    | [.str z, .int n] => (z, n)
    | _ => ("", 0))
  | _ => ("", 0)
def hasN (ps : List (Str × Int)) (z : Str) : Bool := ps.any fun p => decide (p.1 = z)
def build : List PyData → List (Str × Int) → Nat → Res
  | [], acc, _ => .ok acc
  | d :: r, acc, i => if isSign d && !hasN acc (prOf d).1 then build r (acc ++ [prOf d]) (i + 1) else .bad i
def kvsOf (ps : List (Str × Int)) : List (Key × V) := ps.map fun p => (Sum.inr p.1, V.int p.2)
def SgAt (C : Addr) (H : Hp) (x : Addr) (ps : List (Str × Int)) : Prop := ∃ dx d, H x = some (.ins C dx [("_arities", .ref d)]) ∧ H d = some (.dK (kvsOf ps))
theorem isSign_pr {d : PyData} (h : isSign d = true) : ∃ z n, d = .tuple [.str z, .int n] ∧ prOf d = (z, n) ∧ wordIn Lc z = true ∧ 0 ≤ n ∧ n ≤ 3 := by
  cases d with
  | tuple ds =>
    match ds, h with
    | [x, y], h =>
      have h : (isWord Lc x && isAr y) = true := h
      rw [Bool.and_eq_true] at h
      obtain ⟨h1, h2⟩ := h
      cases x with
      | str z =>
        cases y with
        | int n =>
          have h2 : (decide (0 ≤ n) && decide (n ≤ 3)) = true := h2
          rw [Bool.and_eq_true] at h2
          exact ⟨z, n, rfl, rfl, h1, of_decide_eq_true h2.1, of_decide_eq_true h2.2⟩
        | _ => cases h2
      | _ => cases h1
  | _ => cases h
theorem kvs_val (ps : List (Str × Int)) (z : Str) : (valV (kvsOf ps) (Sum.inr z)).isSome = hasN ps z := by
  rw [← valV_any]
  unfold kvsOf hasN
  rw [List.any_map]
  congr 1
  funext p
  simp only [Function.comp]
  exact decide_eq_decide.mpr ⟨fun h => by injection h, fun h => by rw [h]⟩
theorem kvs_put {ps : List (Str × Int)} {z : Str} {n : Int} (h : hasN ps z = false) : putK (kvsOf ps) (Sum.inr z) (.int n) = kvsOf (ps ++ [(z, n)]) := by
  have e : valV (kvsOf ps) (Sum.inr z) = none := by
    have := kvs_val ps z
    rw [h] at this
    cases q : valV (kvsOf ps) (Sum.inr z) with
    | none => rfl
    | some v => rw [q] at this; cases this
  rw [putK_new _ e]
  unfold kvsOf
  rw [List.map_append]
  rfl
end Sg

set_option maxRecDepth 100000
set_option maxHeartbeats 4000000
namespace Sg
open PySem PySem.Spec PyProof.Rows L2 Dr Gd Er Cm
abbrev sInit : Stmt := inClass sSigns 0
inductive Made where
  | noList
  | count
  | sign (i : Nat)
  | ok (ps : List (Str × Int))
def madeL (ds : List PyData) : Made := if 1 ≤ ds.length ∧ ds.length ≤ 5 then (match build ds [] 0 with
    | .ok ps => .ok ps
    | .bad i => .sign i) else .count
def madeOf : PyData → Made
  | .list ds => madeL ds
  | _ => .noList
def Shorts : PyData → Prop
  | .list ds => ∀ e ∈ ds, Short e
  | _ => True
structure Ke (P : Program) (K : PySem.W.Frag) (mg : Str → Option Value) (cN cC cB cS eN eC eB eS : Addr) : Prop where
  hN : ErrC P K "NoList" none cN eN
  hC : ErrC P K "BadCount" none cC eC
  hB : ErrC P K "BadSign" (some "number") cB eB
  hS : ErrC P K "NoSign" (some "name") cS eS
  gN : mg "NoList" = some (.ref cN)
  gC : mg "BadCount" = some (.ref cC)
  gB : mg "BadSign" = some (.ref cB)
  gS : mg "NoSign" = some (.ref cS)
  rN : PySem.W.subIn K (.ref cN) (.type "BaseException") = some true ∧ PySem.W.typeIn K (.ref cN) = some (.type "type")
  rC : PySem.W.subIn K (.ref cC) (.type "BaseException") = some true ∧ PySem.W.typeIn K (.ref cC) = some (.type "type")
  rB : PySem.W.subIn K (.ref cB) (.type "BaseException") = some true ∧ PySem.W.typeIn K (.ref cB) = some (.type "type")
  rS : PySem.W.subIn K (.ref cS) (.type "BaseException") = some true ∧ PySem.W.typeIn K (.ref cS) = some (.type "type")
  sup : mg "super" = none
  enu : mg "enumerate" = none
  lst : mg "list" = none
  ms : ∃ t, mg "MOST_SIGNS" = some (.int 5 t)
structure SCl (K : PySem.W.Frag) (C : Addr) : Prop where
  cl : Cls K C
  na : NoAttr K C "_arities"
def InitEnd (cN cC cB C : Addr) (H : Hp) (x : Addr) (Q : VK) (E : XK) : Made → Prop
  | .noList => ∀ H', SameX x H H' → E (.ref cN) none H'
  | .count => ∀ H', SameX x H H' → E (.ref cC) none H'
  | .sign i => ∀ H' dd, SameX x H H' → H dd = none → H' dd = some (.xd [("number", .int i)]) → E (.ref cB) (some dd) H'
  | .ok ps => ∀ H', SameX x H H' → SgAt C H' x ps → Q .non H'
def spInit (K : PySem.W.Frag) (cN cC cB C : Addr) : Sp := fun vs H Q E => ∃ x v d dx, vs = [.ref x, v] ∧ H x = some (.ins C dx []) ∧ Dp K H v d ∧ Shorts d ∧ InitEnd cN cC cB C H x Q E (madeOf d)
theorem tyl (d : PyData) : kitB (tyD d) "list" = some (match d with | .list _ => true | _ => false) := k_list d
section
variable {P : Program} {w : World} {K : PySem.W.Frag} {mg : Str → Option Value} {base : Heap} {f1 f2 f3 f4 : Addr} {d1 d2 d3 d4 : FuncData} {cN cC cB cS eN eC eB eS C : Addr}
theorem scInit : FnScope ["self", "pairs", "number", "pair"] ["self", "pairs"] (defScope sInit) := ⟨rfl, rfl, rfl, by decide +kernel, rfl, by decide +kernel, by decide +kernel⟩
theorem ok_init {f : Addr} {fd : FuncData} (F : Fun K "__init__" "Signs.__init__" sInit f fd) (T : Kn K mg f1 f2 f3 d1 d2 d3) (G4 : Fun K "_is_sign" "_is_sign" sIsSign f4 d4) (g4 : mg "_is_sign" = some (.ref f4)) (Z : Ke P K mg cN cC cB cS eN eC eB eS) (S : SCl K C) :
    FnOk P w K mg base (L2.CX P w) 3 f fd ["self", "pairs"] (spInit K cN cC cB C) := by
  obtain ⟨tM, mM⟩ := Z.ms
  have b4 : Binds K d4 ["value"] [] := G4.binds fun _ _ _ _ _ _ us hl => match us, hl with | [_], _ => rfl
  refine F.okX scInit (fun vs H Q E h => ?_) (fun cdv A outer s H vs Q E hr h => ?_)
  · obtain ⟨x, v, d, dx, rfl, _⟩ := h
    rfl
  · obtain ⟨x, v, d, dx, rfl, hx, hd, hs, q⟩ := h
    have hu := hu_of hr
    refine ⟨_, pss_cons (ps_if (pt_not (pt_val (pe_callB call_isi (by rfl) T.t.isi (by decide +kernel) (pa_cons (pv 1) (pa_cons (pe_bltn (v := .ty "list") (by rfl) Z.lst (by decide +kernel) rfl) pa_nil)))))
        (pss_one (ps_raise rfl (takes_of rfl rfl rfl rfl) (pmk_err0 Z.hN Z.sup hr (raises_own Z.rN.1 Z.rN.2) Z.gN))) pss_nil)
      (pss_cons (ps_if (pt_not (pt_chain op_le op_le pe_int (pe_callB call_len_seq (by rfl) T.t.len PySem.boot_len (pa_cons (pv 1) pa_nil)) (pe_glob (v := .int 5) rfl mM ⟨_, rfl⟩)))
        (pss_one (ps_raise rfl (takes_of rfl rfl rfl rfl) (pmk_err0 Z.hC Z.sup hr (raises_own Z.rC.1 Z.rC.2) Z.gC))) pss_nil)
      (pss_cons (ps_fld (pv 0) pe_dnewK rfl)
      (pss_one (ps_for (passes_of rfl) rfl (pi_enum (by rfl) Z.enu (pa_cons (pv 1) pa_nil)) (pg_tup rfl (pgs_cons (pg_name (i := 2) scInit.nd rfl (Or.inl rfl)) (pgs_cons (pg_name (i := 3) scInit.nd rfl (Or.inl rfl)) pgs_nil)))
        (pss_cons (ps_if (PW.pt (pw_or (pt_not (pt_val (pe_call (ok_isSign G4 T) hr rfl g4 G4.kp b4 .nil pass0 (pa_cons (pv 3) pa_nil))))
            (pw_or1 (pt_cmp (pc_din hu (pe_ix ix_tup (pv 3) pe_int fun _ _ => rfl) (pe_fld (pv 0) rfl))))))
          (pss_one (ps_raise rfl (takes_of rfl rfl rfl rfl) (pmk_err1 Z.hB Z.sup hr (raises_own Z.rB.1 Z.rB.2) Z.gB (pv 2)))) pss_nil)
        (pss_one (ps_dput hu (pe_fld (pv 0) rfl) (pe_ix ix_tup (pv 3) pe_int fun _ _ => rfl) (pe_ix ix_tup (pv 3) pe_int fun _ _ => rfl) rfl))))))), ?_⟩
    refine ⟨_, rfl, v, .ty "list", .type (tyD d), .type "list", _, rfl, .ty _, ty_dp hd, kit_ty (k_list d), _, rfl, ?_⟩
    cases d with
    | list ds =>
      cases hd with
      | lst h1 h2 =>
        rename_i a xs
        have hl := dpAll_len h2
        refine iteF ?_
        have q : InitEnd cN cC cB C H x Q E (madeL ds) := q
        refine ⟨_, rfl, a, _, rfl, .inl h1, _, _, rfl, rfl, _, rfl, ?_⟩
        refine ite2 (fun c1 => ?_) (fun c1 => ?_)
        · have c1 := of_decide_eq_true c1
          refine ⟨_, _, rfl, rfl, _, rfl, ?_⟩
          refine ite2 (fun c2 => ?_) (fun c2 => ?_)
          · rw [show madeL ds = .count from if_neg (by simp at c2; omega)] at q
            exact q H (SameX.refl x H)
          · have c2 : (xs.length : Int) ≤ 5 := by simpa using c2
            unfold madeL at q
            rw [if_pos (show 1 ≤ ds.length ∧ ds.length ≤ 5 by omega)] at q
            refine fun dn hdn => ?_
            have hxd : x ≠ dn := ne_of_none hx hdn
            refine ⟨_, rfl, x, C, dx, [], rfl, (by rw [upd_ne hxd]; exact hx), S.cl, S.na, by decide, ?_⟩
            have s0 : SameX x H (L2.upd (L2.upd H dn (.dK [])) x (.ins C dx (putF "_arities" (.ref dn) []))) := ((SameX.refl x H).new hdn).upd
            refine ⟨_, rfl, a, xs, rfl, (s0.seqK hx).l _ _ h1, ?_⟩
            refine for_it (walk_enum (xs := xs)) (fun i σ H' => ∃ acc p r, σ = [some (.ref x), some (.ref a), p, r] ∧ SameX x H H' ∧ build ds [] 0 = build (ds.drop i) acc i ∧ acc.length ≤ i ∧ H' x = some (.ins C dx [("_arities", .ref dn)]) ∧ H' dn = some (.dK (kvsOf acc)))
              ⟨[], none, none, rfl, s0, rfl, Nat.le_refl _, upd_same, by rw [upd_ne hxd.symm, upd_same]; rfl⟩ (fun i σ H' hi hp => ?_) (fun i y σ H' H2 hi hp hy => ?_) (fun σ H' hp => ?_)
            · obtain ⟨acc, p, r, rfl, s1, _⟩ := hp
              exact (s1.seqK hx).l _ _ h1
            · obtain ⟨acc, p, r, rfl, s1, hb, hal, h3, h4⟩ := hp
              obtain ⟨T, n, z, rfl, hT, rfl, e1, e2⟩ := hy
              cases e1
              have hTn : x ≠ T := ne_of_none h3 hT
              have hTd : dn ≠ T := ne_of_none h4 hT
              have s2 : SameX x H (L2.upd H' T (.tup [.int (i : Nat), z])) := fun b o e n => by
                have := s1 b o e n
                rw [upd_ne (ne_of_none this hT)]
                exact this
              obtain ⟨dz, e3, hz⟩ := dpAll_get' h2 e2
              have e4 : ds.drop i = dz :: ds.drop (i + 1) := by
                obtain ⟨h, e⟩ := List.getElem?_eq_some_iff.mp e3
                rw [List.drop_eq_getElem_cons h, e]
              rw [e4] at hb
              refine ⟨T, _, rfl, SqT.of upd_same, rfl, ?_⟩
              refine ⟨_, _, rfl, _, _, rfl, rfl, ?_⟩
              have q' := q
              rw [hb] at q
              refine ⟨_, rfl, z, dz, rfl, dp_seq (s2.seqK hx) _ _ hz, hs dz (List.mem_of_getElem? e3), fun H3 s3 => ⟨_, rfl, ?_⟩⟩
              have s4 : SameX x H H3 := s2.trans (Same.x s3)
              have h5 : H3 x = some (.ins C dx [("_arities", .ref dn)]) := s3 _ _ (by rw [upd_ne hTn]; exact h3)
              have h6 : H3 dn = some (.dK (kvsOf acc)) := s3 _ _ (by rw [upd_ne hTd]; exact h4)
              have fail : (isSign dz && !hasN acc (prOf dz).1) = false → ∀ d, H3 d = none → E (.ref cB) (some d) (L2.upd H3 d (.xd [("number", .int (i : Nat))])) := fun e d hd => by
                have e5 : build (dz :: ds.drop (i + 1)) acc i = .bad i := by
                  unfold build
                  rw [if_neg (by rw [e]; simp)]
                rw [e5] at q
                exact q _ d (fun b o e n => by rw [upd_ne (ne_of_none (s4 b o e n) hd)]; exact s4 b o e n) (by
                  cases z : H d with
                  | none => rfl
                  | some o =>
                    by_cases hxx : d = x
                    · subst hxx; rw [h5] at hd; cases hd
                    · rw [s4 d o z hxx] at hd; cases hd) upd_same
              refine ite2 (fun c3 => ?_) (fun c3 => ?_)
              · have c3 : isSign dz = false := by simpa using c3
                exact ⟨_, rfl, fail (by rw [c3]; rfl)⟩
              · have c3 : isSign dz = true := by simpa using c3
                obtain ⟨zz, nn, rfl, epr, hw, hn0, hn3⟩ := isSign_pr c3
                cases hz with
                | tup g1 g2 =>
                  rename_i tz xz
                  cases g2 with
                  | cons gx g2 =>
                    cases g2 with
                    | cons gy g2 =>
                      cases g2
                      cases gx
                      cases gy
                      have g1 := (s4.seqK hx).t _ _ g1
                      refine ⟨_, rfl, tz, _, 0, .str zz, rfl, rfl, g1, rfl, ?_⟩
                      refine ⟨_, rfl, x, C, dx, _, .ref dn, rfl, h5, S.cl, S.na, rfl, ?_⟩
                      refine ⟨dn, _, rfl, DGet.k (k := Sum.inr zz) h6, _, rfl, ?_⟩
                      rw [kvs_val]
                      refine ite2 (fun c4 => ?_) (fun c4 => ?_)
                      · exact ⟨_, rfl, fail (by rw [c3, epr, c4]; rfl)⟩
                      · have c4 : hasN acc zz = false := by simpa using c4
                        refine ⟨_, rfl, tz, _, 1, .int nn, rfl, rfl, g1, rfl, ?_⟩
                        refine ⟨_, rfl, x, C, dx, _, .ref dn, rfl, h5, S.cl, S.na, rfl, ?_⟩
                        refine ⟨_, rfl, tz, _, 0, .str zz, rfl, rfl, g1, rfl, ?_⟩
                        have hi5 : acc.length < sizeLine := by
                          have : acc.length < 1000 := by omega
                          exact Nat.lt_trans this (by decide)
                        refine ⟨dn, _, rfl, DPut.k (k := Sum.inr zz) h6 (by unfold kvsOf; rw [List.length_map]; exact hi5), ?_⟩
                        refine ⟨acc ++ [(zz, nn)], _, _, rfl, ?_, ?_, ?_, ?_, ?_⟩
                        · exact s4.new hdn
                        · rw [hb]
                          conv => lhs; unfold build
                          rw [if_pos (by rw [c3, epr, c4]; rfl), epr]
                        · rw [List.length_append]
                          exact Nat.succ_le_succ hal
                        · rw [upd_ne hxd]; exact h5
                        · rw [upd_same, kvs_put c4]
            · obtain ⟨acc, p, r, rfl, s1, hb, hal, h3, h4⟩ := hp
              have e : build ds [] 0 = .ok acc := by
                rw [hb, hl, List.drop_length]
                unfold build
                rfl
              rw [e] at q
              exact q H' s1 ⟨dx, dn, h3, h4⟩
        · rw [show madeL ds = .count from if_neg (by simp at c1; omega)] at q
          exact ⟨_, rfl, iteT (q H (SameX.refl x H))⟩
    | _ => exact iteT (q H (SameX.refl x H))
end
end Sg

set_option maxRecDepth 100000
set_option maxHeartbeats 4000000
namespace Sg
open PySem PySem.Spec PyProof.Rows L2 Dr Gd Er Cm
abbrev sNames : Stmt := inClass sSigns 1
abbrev sWays : Stmt := inClass sSigns 2
abbrev sArity : Stmt := inClass sSigns 3
abbrev sHas : Stmt := inClass sSigns 4
abbrev sLen : Stmt := inClass sSigns 5
abbrev sEq : Stmt := inClass sSigns 6
def hasD (ps : List (Str × Int)) : PyData → Bool
  | .str z => hasN ps z
  | _ => false
def arOf (ps : List (Str × Int)) (z : Str) : Option Int := (ps.find? fun p => decide (p.1 = z)).map (·.2)
def arD (ps : List (Str × Int)) : PyData → Option Int
  | .str z => arOf ps z
  | _ => none
theorem kvs_valI (ps : List (Str × Int)) (z : Str) : valV (kvsOf ps) (Sum.inr z) = (arOf ps z).map V.int := by
  induction ps with
  | nil => rfl
  | cons p r ih =>
    by_cases h : p.1 = z
    · have e : arOf (p :: r) z = some p.2 := by unfold arOf; rw [List.find?_cons_of_pos (by simp [h])]; rfl
      rw [e]
      unfold kvsOf valV
      simp [h]
    · have e : arOf (p :: r) z = arOf r z := by unfold arOf; rw [List.find?_cons_of_neg (by simp [h])]
      rw [e, ← ih]
      unfold kvsOf valV
      simp [h]
theorem arOf_has (ps : List (Str × Int)) (z : Str) : (arOf ps z).isSome = hasN ps z := by
  rw [← kvs_val, kvs_valI]
  cases arOf ps z <;> rfl
def psD (ps : List (Str × Int)) : PyData := .list (ps.map fun p => .tuple [.str p.1, .int p.2])
theorem psD_eqvAll : ∀ ps qs : List (Str × Int), PyData.eqvAll (ps.map fun p => .tuple [.str p.1, .int p.2]) (qs.map fun p => .tuple [.str p.1, .int p.2]) = decide (ps = qs)
  | [], [] => rfl
  | [], _ :: _ => rfl
  | _ :: _, [] => rfl
  | p :: ps, q :: qs => by
    show (PyData.eqv (.tuple [.str p.1, .int p.2]) (.tuple [.str q.1, .int q.2]) && _) = _
    rw [psD_eqvAll ps qs]
    obtain ⟨a, b⟩ := p
    obtain ⟨c, d⟩ := q
    show (((a == c) && ((b == d) && true)) && decide (ps = qs)) = decide ((a, b) :: ps = (c, d) :: qs)
    rw [Bool.and_true]
    by_cases h1 : a = c <;> by_cases h2 : b = d <;> by_cases h3 : ps = qs <;> simp [h1, h2, h3]
theorem psD_eqv (ps qs : List (Str × Int)) : PyData.eqv (psD ps) (psD qs) = decide (ps = qs) := psD_eqvAll ps qs
def OkNames (ps : List (Str × Int)) : Prop := ∀ p ∈ ps, PyData.strOk p.1 = true
theorem psD_lay : ∀ ps : List (Str × Int), OkNames ps → PyData.canLayAll0 (ps.map fun p => .tuple [.str p.1, .int p.2]) = true
  | [], _ => rfl
  | p :: ps, h => by
    show (PyData.canLay0 (.tuple [.str p.1, .int p.2]) && _) = true
    rw [psD_lay ps fun q hq => h q (List.mem_cons_of_mem _ hq)]
    show ((PyData.strOk p.1 && (true && true)) && true) = true
    rw [h p List.mem_cons_self]
    rfl
theorem psD_dep : ∀ ps : List (Str × Int), PyData.depthAll (ps.map fun p => .tuple [.str p.1, .int p.2]) ≤ 2
  | [] => by simp [PyData.depthAll]
  | p :: ps => by
    have := psD_dep ps
    simp only [List.map_cons, PyData.depthAll]
    refine Nat.max_le.mpr ⟨?_, this⟩
    simp [PyData.depth, PyData.depthAll]
theorem psD_shaped {ps : List (Str × Int)} (h : OkNames ps) : SeqAt.shaped (psD ps) = true := by
  unfold SeqAt.shaped
  rw [Bool.and_eq_true]
  refine ⟨psD_lay ps h, decide_eq_true ?_⟩
  have := psD_dep ps
  show PyData.depth (.list _) ≤ 64
  simp only [PyData.depth]
  omega
/-- further facts of the class -/
structure SClx (K : PySem.W.Frag) (C : Addr) : Prop extends SCl K C where
  ca : PySem.W.findIn K (.ref C) "__class__" = some (some (.builtin "object.__class__"))
  cg : PySem.W.specialIn K (.builtin "object.__class__") "__get__" = some (some (.builtin "getset_descriptor.__get__"))
  ct : PySem.W.takesIn K (.builtin "object.__class__") = some true
  cm : PySem.W.mroIn K C (.type "object") = some true
  kC : PySem.W.kitOne K (.ref C) (.ref C) = some true
  kL : PySem.W.kitOne K (.type "list") (.ref C) = some false
theorem SClx.ty {K : PySem.W.Frag} {C : Addr} (S : SClx K C) {H : Hp} {x : Addr} {ps : List (Str × Int)} (h : SgAt C H x ps) : TyX K H (.ref x) (.ref C) := by
  obtain ⟨dx, d, h1, _⟩ := h
  exact .base (.ins h1 S.cl S.ca S.cg S.ct S.cm)
theorem SgAt.same {C x : Addr} {H H' : Hp} {ps : List (Str × Int)} (h : SgAt C H x ps) (s : Same H H') : SgAt C H' x ps := by
  obtain ⟨dx, d, h1, h2⟩ := h
  exact ⟨dx, d, s _ _ h1, s _ _ h2⟩
def spHas (K : PySem.W.Frag) (C : Addr) : Sp := fun vs H Q _ => ∃ x v d ps, vs = [.ref x, v] ∧ SgAt C H x ps ∧ Dp K H v d ∧ Q (.bl (hasD ps d)) H
def spLen (C : Addr) : Sp := fun vs H Q _ => ∃ x ps, vs = [.ref x] ∧ SgAt C H x ps ∧ Q (.int (ps.length : Nat)) H
def spAr (K : PySem.W.Frag) (cS C : Addr) : Sp := fun vs H Q E => ∃ x v d ps, vs = [.ref x, v] ∧ SgAt C H x ps ∧ Dp K H v d ∧
  (∀ n, arD ps d = some n → Q (.int n) H) ∧ (arD ps d = none → ∀ dd, H dd = none → E (.ref cS) (some dd) (L2.upd H dd (.xd [("name", v)])))
def spNames (C : Addr) : Sp := fun vs H Q _ => ∃ x ps, vs = [.ref x] ∧ SgAt C H x ps ∧ ∀ p, H p = none → Q (.ref p) (L2.upd H p (.lst (ps.map fun q => .str q.1)))
def waysOf (ps : List (Str × Int)) : List Str := (ps.filter fun p => decide (p.2 > 1)).map (·.1)
def spWays (C : Addr) : Sp := fun vs H Q _ => ∃ x ps, vs = [.ref x] ∧ SgAt C H x ps ∧ ps.length ≤ 5 ∧ (ps.map (·.1)).Nodup ∧ ∀ H' ys p, Same H H' → H p = none → ys.Perm (waysOf ps) → sortedS ys = true → H' p = some (.lst (ys.map V.str)) → Q (.ref p) H'
def spEq (K : PySem.W.Frag) (C : Addr) : Sp := fun vs H Q _ => ∃ x v ps, vs = [.ref x, v] ∧ SgAt C H x ps ∧ OkNames ps ∧
  ((∃ ds, Dp K H v (.list ds) ∧ Q (.bl false) H) ∨ ∃ y qs, v = .ref y ∧ SgAt C H y qs ∧ OkNames qs ∧ ∀ H', Same H H' → Q (.bl (decide (ps = qs))) H')
section
variable {P : Program} {w : World} {K : PySem.W.Frag} {mg : Str → Option Value} {base : Heap} {f1 f2 f3 f4 : Addr} {d1 d2 d3 d4 : FuncData} {cN cC cB cS eN eC eB eS C : Addr}
theorem scHas : FnScope ["self", "name"] ["self", "name"] (defScope sHas) := ⟨rfl, rfl, rfl, by decide +kernel, rfl, by decide +kernel, by decide +kernel⟩
theorem ok_has {f : Addr} {fd : FuncData} (F : Fun K "__contains__" "Signs.__contains__" sHas f fd) (T : KTxt mg) (S : SCl K C) : FnOk P w K mg base CX0 1 f fd ["self", "name"] (spHas K C) := by
  refine F.ok scHas (fun vs H Q E h => ?_) (fun cdv A outer s H vs Q E hr h => ?_)
  · obtain ⟨x, v, d, ps, rfl, _⟩ := h
    rfl
  · obtain ⟨x, v, d, ps, rfl, ⟨dx, dn, h1, h2⟩, hd, q⟩ := h
    have hu := hu_of hr
    refine ⟨_, pss_one (ps_ret (pe_and (pe_callB call_isi (by rfl) T.isi (by decide +kernel) (pa_cons (pv 1) (pa_cons (pe_bltn (v := .ty "str") (by rfl) T.str (by decide +kernel) rfl) pa_nil)))
      (pe_one (pe_cmp (pc_din hu (pv 1) (pe_fld (pv 0) rfl)) rfl)))), ?_⟩
    refine ⟨_, rfl, v, .ty "str", .type (tyD d), .type "str", _, rfl, .ty _, ty_dp hd, kit_ty (k_str d), _, rfl, ?_⟩
    cases d with
    | str z =>
      cases hd
      refine iteT ?_
      refine ⟨_, rfl, _, rfl, x, C, dx, _, .ref dn, rfl, h1, S.cl, S.na, rfl, ?_⟩
      refine ⟨dn, _, rfl, DGet.k (k := Sum.inr z) h2, ?_⟩
      rw [kvs_val]
      exact q
    | _ => exact iteF q
theorem scLen : FnScope ["self"] ["self"] (defScope sLen) := ⟨rfl, rfl, rfl, by decide +kernel, rfl, by decide +kernel, by decide +kernel⟩
theorem ok_len {f : Addr} {fd : FuncData} (F : Fun K "__len__" "Signs.__len__" sLen f fd) (T : KTxt mg) (S : SCl K C) : FnOk P w K mg base CX0 1 f fd ["self"] (spLen C) := by
  refine F.ok scLen (fun vs H Q E h => ?_) (fun cdv A outer s H vs Q E hr h => ?_)
  · obtain ⟨x, ps, rfl, _⟩ := h
    rfl
  · obtain ⟨x, ps, rfl, ⟨dx, dn, h1, h2⟩, q⟩ := h
    refine ⟨_, pss_one (ps_ret (pe_callB call_lenD (by rfl) T.len PySem.boot_len (pa_cons (pe_fld (pv 0) rfl) pa_nil))), ?_⟩
    refine ⟨_, rfl, x, C, dx, _, .ref dn, rfl, h1, S.cl, S.na, rfl, dn, _, rfl, h2, ?_⟩
    rw [show (kvsOf ps).length = ps.length from List.length_map ..]
    exact q
theorem scNm : FnScope ["self"] ["self"] (defScope sNames) := ⟨rfl, rfl, rfl, by decide +kernel, rfl, by decide +kernel, by decide +kernel⟩
theorem ok_names {f : Addr} {fd : FuncData} (F : Fun K "names" "Signs.names" sNames f fd) (hl : mg "list" = none) (S : SCl K C) : FnOk P w K mg base CX0 1 f fd ["self"] (spNames C) := by
  refine F.ok scNm (fun vs H Q E h => ?_) (fun cdv A outer s H vs Q E hr h => ?_)
  · obtain ⟨x, ps, rfl, _⟩ := h
    rfl
  · obtain ⟨x, ps, rfl, ⟨dx, dn, h1, h2⟩, q⟩ := h
    refine ⟨_, pss_one (ps_ret (pe_callTy (call_listD rfl) (by rfl) hl (by decide +kernel) (pa_cons (pe_fld (pv 0) rfl) pa_nil))), ?_⟩
    refine ⟨_, rfl, x, C, dx, _, .ref dn, rfl, h1, S.cl, S.na, rfl, dn, _, rfl, .inl h2, fun p hp => ?_⟩
    have e : (kvsOf ps).map (fun kv => kV kv.1) = ps.map fun q => V.str q.1 := by
      unfold kvsOf
      rw [List.map_map]
      rfl
    rw [e]
    exact q p hp
end
end Sg

set_option maxRecDepth 100000
set_option maxHeartbeats 4000000
namespace Sg
open PySem PySem.Spec PyProof.Rows L2 Dr Gd Er Cm Ow
theorem arOf_at : ∀ {ps : List (Str × Int)} {i : Nat} {z : Str} {n : Int}, (ps.map (·.1)).Nodup → ps[i]? = some (z, n) → arOf ps z = some n
  | [], i, z, n, _, h => by simp at h
  | p :: ps, 0, z, n, _, h => by
    simp at h
    subst h
    unfold arOf
    rw [List.find?_cons_of_pos (by simp)]
    rfl
  | p :: ps, i + 1, z, n, hn, h => by
    have h : ps[i]? = some (z, n) := by simpa using h
    obtain ⟨h1, h2⟩ := List.nodup_cons.mp (show (p.1 :: ps.map (·.1)).Nodup from hn)
    have hz : ¬ p.1 = z := fun e => h1 (by
      rw [e]
      exact List.mem_map.mpr ⟨(z, n), List.mem_of_getElem? h, rfl⟩)
    unfold arOf
    rw [List.find?_cons_of_neg (by simpa using hz)]
    exact arOf_at h2 h
section
variable {P : Program} {w : World} {K : PySem.W.Frag} {mg : Str → Option Value} {base : Heap} {f1 f2 f3 f4 fh : Addr} {d1 d2 d3 d4 dh : FuncData} {cN cC cB cS eN eC eB eS C : Addr}
structure HasAt (K : PySem.W.Frag) (C fh : Addr) (dh : FuncData) : Prop where
  F : Fun K "__contains__" "Signs.__contains__" sHas fh dh
  at_ : PySem.W.findIn K (.ref C) "__contains__" = some (some (.ref fh))
  fn : PySem.W.isFn K (.ref fh) = true
theorem HasAt.b (h : HasAt K C fh dh) : Binds K dh ["self", "name"] [] := h.F.binds fun _ _ _ _ _ _ us hl => match us, hl with | [_, _], _ => rfl
theorem scAr : FnScope ["self", "name"] ["self", "name"] (defScope sArity) := ⟨rfl, rfl, rfl, by decide +kernel, rfl, by decide +kernel, by decide +kernel⟩
theorem ok_arity {f : Addr} {fd : FuncData} (F : Fun K "arity" "Signs.arity" sArity f fd) (T : KTxt mg) (Z : Ke P K mg cN cC cB cS eN eC eB eS) (S : SCl K C) (h4 : HasAt K C fh dh) : FnOk P w K mg base (L2.CX P w) 2 f fd ["self", "name"] (spAr K cS C) := by
  refine F.okX scAr (fun vs H Q E h => ?_) (fun cdv A outer s H vs Q E hr h => ?_)
  · obtain ⟨x, v, d, ps, rfl, _⟩ := h
    rfl
  · obtain ⟨x, v, d, ps, rfl, hS, hd, q1, q2⟩ := h
    have hu := hu_of hr
    refine ⟨_, pss_cons (ps_if (pt_cmpR (op_notInOwn (ok_has h4.F T S) hr h4.at_ h4.fn h4.b pass0) (pv 1) (pv 0) (by rfl)) (pss_one (ps_raise rfl (takes_of rfl rfl rfl rfl) (pmk_err1 Z.hS Z.sup hr (raises_own Z.rS.1 Z.rS.2) Z.gS (pv 1)))) pss_nil)
      (pss_one (ps_ret (pe_dget hu (pe_fld (pv 0) rfl) (pv 1) fun _ _ => rfl))), ?_⟩
    obtain ⟨dx, dn, h1, h2⟩ := id hS
    refine ⟨_, rfl, _, rfl, x, dx, _, rfl, h1, x, v, d, ps, rfl, hS, hd, _, rfl, _, rfl, ?_⟩
    refine ite2 (fun c => ?_) (fun c => ?_)
    · have c : hasD ps d = false := by simpa using c
      have e : arD ps d = none := by
        cases d with
        | str z =>
          have c : hasN ps z = false := c
          rw [← arOf_has] at c
          show arOf ps z = none
          cases q : arOf ps z with
          | none => rfl
          | some n => rw [q] at c; cases c
        | _ => rfl
      exact ⟨_, rfl, q2 e⟩
    · have c : hasD ps d = true := by simpa using c
      cases d with
      | str z =>
        cases hd
        have c : hasN ps z = true := c
        rw [← arOf_has] at c
        obtain ⟨n, en⟩ := Option.isSome_iff_exists.mp c
        refine ⟨_, rfl, x, C, dx, _, .ref dn, rfl, h1, S.cl, S.na, rfl, ?_⟩
        refine ⟨_, rfl, dn, .int n, rfl, ?_, q1 n en⟩
        have e : (some (V.int n)) = valV (kvsOf ps) (Sum.inr z) := by rw [kvs_valI, en]; rfl
        rw [e]
        exact DGet.k (k := Sum.inr z) h2
      | _ => cases c
theorem scEq : FnScope ["self", "other"] ["self", "other"] (defScope sEq) := ⟨rfl, rfl, rfl, by decide +kernel, rfl, by decide +kernel, by decide +kernel⟩
theorem dp_items {K : PySem.W.Frag} {H : Hp} : ∀ {ts : List Addr} {ps : List (Str × Int)}, Paired (fun (t : Addr) (q : Key × V) => H t = some (.tup [kV q.1, q.2])) ts (kvsOf ps) → DpAll K H (ts.map V.ref) (ps.map fun p => .tuple [.str p.1, .int p.2])
  | [], [], _ => .nil
  | t :: ts, p :: ps, h => by
    cases h with
    | cons a b => exact .cons (.tup (SqT.of a) (.cons (.str _) (.cons (.int _) .nil))) (dp_items b)
theorem ok_eq {f : Addr} {fd : FuncData} (F : Fun K "__eq__" "Signs.__eq__" sEq f fd) (T : KTxt mg) (hl : mg "list" = none) (gC : mg "Signs" = some (.ref C)) (S : SClx K C) : FnOk P w K mg base CX0 1 f fd ["self", "other"] (spEq K C) := by
  refine F.ok scEq (fun vs H Q E h => ?_) (fun cdv A outer s H vs Q E hr h => ?_)
  · obtain ⟨x, v, ps, rfl, _⟩ := h
    rfl
  · obtain ⟨x, v, ps, rfl, hS, hok, h⟩ := h
    have hu := hu_of hr
    refine ⟨_, pss_one (ps_ret (pe_and (pe_callB call_isi (by rfl) T.isi (by decide +kernel) (pa_cons (pv 1) (pa_cons (pe_glob (v := .ref C) rfl gC rfl) pa_nil)))
      (pe_one (pe_cmpR (op_eqD hr.units) (LiI.pe_listItems rfl (pe_fld (pv 0) rfl) (by rfl) hl (by decide +kernel)) (LiI.pe_listItems rfl (pe_fld (pv 1) rfl) (by rfl) hl (by decide +kernel)) (nomark _))))), ?_⟩
    rcases h with ⟨ds, hd, q⟩ | ⟨y, qs, rfl, hY, hoy, q⟩
    · exact ⟨_, rfl, v, .ref C, .type "list", .ref C, _, rfl, .own _, ty_dp hd, S.kL, _, rfl, iteF q⟩
    · refine ⟨_, rfl, .ref y, .ref C, .ref C, .ref C, _, rfl, .own _, S.ty hY, S.kC, _, rfl, iteT ?_⟩
      obtain ⟨dx, dn, h1, h2⟩ := hS
      obtain ⟨dy, dm, g1, g2⟩ := hY
      refine ⟨_, rfl, x, C, dx, _, .ref dn, rfl, h1, S.cl, S.na, rfl, dn, _, rfl, h2, fun H1 p ts s1 hp hts hpt e1 e2 => ?_⟩
      refine ⟨_, rfl, y, C, dy, _, .ref dm, rfl, s1 _ _ g1, S.cl, S.na, rfl, dm, _, rfl, s1 _ _ g2, fun H2 p' ts' s2 hp' hts' hpt' e1' e2' => ?_⟩
      refine ⟨psD ps, psD qs, dp_same s2 _ _ (.lst (SqL.of e1) (dp_items e2)), .lst (SqL.of e1') (dp_items e2'), psD_shaped hok, psD_shaped hoy, ?_⟩
      rw [psD_eqv]
      exact q H2 (Same.trans s1 s2)
end
end Sg

set_option maxRecDepth 100000
set_option maxHeartbeats 4000000
namespace Sg
open PySem PySem.Spec PyProof.Rows L2 Dr Gd Er Cm Ow
section
variable {P : Program} {w : World} {K : PySem.W.Frag} {mg : Str → Option Value} {base : Heap} {f1 f2 f3 f4 fh : Addr} {d1 d2 d3 d4 dh : FuncData} {cN cC cB cS eN eC eB eS C : Addr}
theorem scWy : FnScope ["self", "name"] ["self"] (defScope sWays) := ⟨rfl, rfl, rfl, by decide +kernel, rfl, by decide +kernel, by decide +kernel⟩
theorem ways_take {ps : List (Str × Int)} {i : Nat} {z : Str} {n : Int} (h : ps[i]? = some (z, n)) : waysOf (ps.take (i + 1)) = if n > 1 then waysOf (ps.take i) ++ [z] else waysOf (ps.take i) := by
  unfold waysOf
  rw [List.take_succ, h]
  show ((ps.take i ++ [(z, n)]).filter _).map _ = _
  rw [List.filter_append]
  by_cases c : n > 1
  · rw [if_pos c, List.filter_cons_of_pos (by simpa using c), List.map_append]
    rfl
  · rw [if_neg c, List.filter_cons_of_neg (by simpa using c)]
    simp
theorem ways_len (ps : List (Str × Int)) : (waysOf ps).length ≤ ps.length := by
  unfold waysOf
  rw [List.length_map]
  exact List.length_filter_le _ _
theorem ok_ways {f : Addr} {fd : FuncData} (F : Fun K "ways" "Signs.ways" sWays f fd) (hs : mg "sorted" = none) (S : SCl K C) : FnOk P w K mg base CX0 1 f fd ["self"] (spWays C) := by
  refine F.ok scWy (fun vs H Q E h => ?_) (fun cdv A outer s H vs Q E hr h => ?_)
  · obtain ⟨x, ps, rfl, _⟩ := h
    rfl
  · obtain ⟨x, ps, rfl, ⟨dx, dn, h1, h2⟩, h5, nd, q⟩ := h
    have hu := hu_of hr
    refine ⟨_, pss_one (ps_ret (pe_callB cr_sortedS (by rfl) hs (by decide +kernel) (pa_cons (pe_lock
      (pe_lc (own := [("name", 1)]) (g := gName 1) (tt := tTest (tOp (rI0 fun i j => .bl (decide (j < i))) (tDGet (tFld K (tVar 0) "_arities") (tVar 1)) (tC (.int 1)))) rfl scWy.nd (pi_keys (pe_fld (pv 0) rfl)) (blkOk_by (N := ["self", "name"]) (sc := defScope sWays) (by decide +kernel)) (fun _ _ _ _ _ => pg_name (i := 1) scWy.nd rfl (Or.inl rfl))
        (fun _ _ _ _ _ => by
          refine pts_one ?_
          refine pt_cmpR op_gt ?_ pe_int (nomark _)
          refine pe_dget ?_ ?_ ?_ (fun _ _ => rfl)
          · exact hu
          · refine pe_fld ?_ ?_
            · exact pv 0
            · rfl
          · exact pv 1) (fun _ _ _ _ _ => pv 1))) pa_nil))), ?_⟩
    refine ⟨dn, .dK (kvsOf ps), h2, trivial, fun od => ?_⟩
    have hxd : x ≠ dn := ne_of h1 h2 (by intro z; cases z)
    have e1 : (L2.upd H dn (.frz od (.dK (kvsOf ps)))) x = some (.ins C dx [("_arities", .ref dn)]) := by rw [upd_ne hxd]; exact h1
    refine ⟨_, rfl, x, C, dx, _, .ref dn, rfl, e1, S.cl, S.na, rfl, dn, od, rfl, .inl ⟨_, upd_same, fun D hD => ?_⟩⟩
    have hDd : D ≠ dn := fun z => by rw [z, upd_same] at hD; cases hD
    have hDx : D ≠ x := fun z => by rw [z, e1] at hD; cases hD
    have hD0 : H D = none := by rw [upd_ne hDd] at hD; exact hD
    have lk : (kvsOf ps).length = ps.length := List.length_map ..
    refine lc_it (walk_keys (kvs := kvsOf ps)) (fun i H' => H' = L2.upd (L2.upd H dn (.frz od (.dK (kvsOf ps)))) D (.lst ((waysOf (ps.take i)).map V.str))) rfl (fun i H' hi hp => by rw [hp, upd_ne hDd.symm, upd_same]) (fun i y H1 H2 hi hp hy => ?_) (fun H' hp => ?_)
    · subst hp
      obtain ⟨rfl, k, v, ek, rfl⟩ := hy
      rw [lk] at hi
      obtain ⟨z, n, ep⟩ : ∃ z n, ps[i]? = some (z, n) := ⟨_, _, List.getElem?_eq_getElem hi⟩
      have ek' : (k, v) = (Sum.inr z, V.int n) := by
        unfold kvsOf at ek
        rw [List.getElem?_map, ep] at ek
        exact (Option.some.inj ek).symm
      cases ek'
      have g1 : (L2.upd (L2.upd H dn (.frz od (.dK (kvsOf ps)))) D (.lst ((waysOf (ps.take i)).map V.str))) x = some (.ins C dx [("_arities", .ref dn)]) := by rw [upd_ne hDx.symm]; exact e1
      have g2 : (L2.upd (L2.upd H dn (.frz od (.dK (kvsOf ps)))) D (.lst ((waysOf (ps.take i)).map V.str))) dn = some (.frz od (.dK (kvsOf ps))) := by rw [upd_ne hDd.symm, upd_same]
      refine ⟨rfl, ?_⟩
      refine ⟨_, rfl, x, C, dx, _, .ref dn, rfl, g1, S.cl, S.na, rfl, ?_⟩
      refine ⟨_, rfl, dn, .int n, rfl, .inl ⟨_, Sum.inr z, .inr ⟨_, g2⟩, rfl, by rw [kvs_valI, arOf_at nd ep]; rfl⟩, ?_⟩
      refine ⟨_, _, rfl, rfl, _, rfl, ?_⟩
      refine ite2 (fun c => ?_) (fun c => ?_)
      · have c : n > 1 := of_decide_eq_true c
        refine ⟨_, rfl, _, upd_same, ?_, ?_⟩
        · rw [List.length_map]
          have := ways_len (ps.take i)
          rw [List.length_take] at this
          exact Nat.lt_of_le_of_lt (Nat.le_trans this (Nat.le_trans (Nat.min_le_left _ _) (Nat.le_of_lt (Nat.lt_of_lt_of_le hi h5)))) (by decide)
        · rw [upd2, ways_take ep, if_pos c, List.map_append]
          rfl
      · have c : ¬ n > 1 := fun z => c (decide_eq_true z)
        rw [ways_take ep, if_neg c]
    · subst hp
      rw [lk, List.take_length]
      refine ⟨by rw [upd_ne hDd.symm, upd_same], ?_⟩
      have sm : Same H (L2.upd (L2.upd (L2.upd H dn (.frz od (.dK (kvsOf ps)))) D (.lst ((waysOf ps).map V.str))) dn (.dK (kvsOf ps))) := fun b o e => by
        by_cases hb : b = dn
        · subst hb
          rw [h2] at e
          cases e
          exact upd_same
        · rw [upd_ne hb, upd_ne (ne_of_none e hD0), upd_ne hb]
          exact e
      refine ⟨D, waysOf ps, rfl, SqL.of (by rw [upd_ne hDd, upd_same]), ?_, fun ys p hp1 hp2 hp3 => ?_⟩
      · have := ways_len ps
        omega
      · exact q _ ys p (Same.trans sm (same_upd hp3)) (Same.free sm hp3) hp1 hp2 upd_same
end
end Sg

set_option maxRecDepth 100000
set_option maxHeartbeats 4000000
/-! written data -/
namespace Sg
open PySem PySem.Spec PyProof.Rows L2 Dr Gd Er Cm Ow
/-- what is new in H' -/
def nw (H H' : Hp) : Hp := fun b => if H b = none then H' b else none
theorem nw_at {H H' : Hp} {b : Addr} {o : HO} (h : H b = none) (h' : H' b = some o) : nw H H' b = some o := by unfold nw; rw [if_pos h]; exact h'
theorem nw_inv {H H' : Hp} {b : Addr} {o : HO} (h : nw H H' b = some o) : H b = none ∧ H' b = some o := by
  unfold nw at h
  by_cases e : H b = none
  · rw [if_pos e] at h
    exact ⟨e, h⟩
  · rw [if_neg e] at h
    cases h
theorem nw_same {H H' : Hp} : Same (nw H H') H' := fun b o h => (nw_inv h).2
theorem nw_l {H H1 H2 : Hp} (s : Same H1 H2) : Same (nw H H1) (nw H H2) := fun b o h => nw_at (nw_inv h).1 (s _ _ (nw_inv h).2)
theorem nw_r {H H1 H2 : Hp} (s : Same H H1) : Same (nw H1 H2) (nw H H2) := fun b o h => nw_at (Same.free s (nw_inv h).1) (nw_inv h).2
theorem nw_del {H H' : Hp} {p : Addr} {o : HO} (h : H p = some o) : Same (nw H H') (del H' p) := fun b u e => by
  have hb : b ≠ p := fun z => by
    have := (nw_inv e).1
    rw [z, h] at this
    cases this
  rw [del_ne hb]
  exact (nw_inv e).2
def tDat (K : PySem.W.Frag) (c : L2.St → Prop) (d : PyData) : TE := fun σ H Q => c σ ∧ ∀ v H', Same H H' → Dp K (nw H H') v d → Q v H'
def taDat (K : PySem.W.Frag) (c : L2.St → Prop) (ds : List PyData) : TA := fun σ H Q => c σ ∧ ∀ vs H', Same H H' → DpAll K (nw H H') vs ds → Q vs H'
def tDatL (K : PySem.W.Frag) (c : L2.St → Prop) (ds : List PyData) : TE := fun σ H Q => c σ ∧ ∀ p vs H', Same H H' → H p = none → H' p = some (.lst vs) → DpAll K (nw H H') vs ds → Q (.ref p) H'
section
variable {X : Cx} {e : Expr} {es : List Expr}
theorem pe_imp {t t' : TE} (h : ∀ σ H Q, t' σ H Q → t σ H Q) (q : PE X e t) : PE X e t' := ⟨fun pins s σ H Q I z => q.run pins s σ H Q I (h σ H Q z)⟩
theorem pa_imp {t t' : TA} (h : ∀ σ H Q, t' σ H Q → t σ H Q) (q : PA X es t) : PA X es t' := ⟨fun pos pins s σ H Q I z => q.run pos pins s σ H Q I (h σ H Q z)⟩
end
section
variable {X : Cx} {c : L2.St → Prop} {e : Expr} {es : List Expr} {d : PyData} {ds : List PyData} {pos : Pos}
theorem pd_int {n : Int} {j : Nat} : PE X (.Constant (.int n) j pos) (tDat X.K c (.int n)) := pe_imp (fun σ H Q h => h.2 _ H (Same.refl H) (.int n)) pe_int
theorem pd_str {z : Str} {j : Nat} : PE X (.Constant (.str z) j pos) (tDat X.K c (.str z)) := pe_imp (fun σ H Q h => h.2 _ H (Same.refl H) (.str z)) pe_str
theorem pd_bl {b : Bool} {j : Nat} : PE X (.Constant (.bool b) j pos) (tDat X.K c (.bool b)) := pe_imp (fun σ H Q h => h.2 _ H (Same.refl H) (.bl b)) pe_bl
theorem pd_non {j : Nat} : PE X (.Constant .none j pos) (tDat X.K c .none) := pe_imp (fun σ H Q h => h.2 _ H (Same.refl H) .non) pe_non
theorem pd_neg {n : Int} {j : Nat} {p : Pos} : PE X (.UnaryOp .USub (.Constant (.int n) j p) pos) (tDat X.K c (.int (-n))) := pe_imp (fun σ H Q h => ⟨n, rfl, h.2 _ H (Same.refl H) (.int _)⟩) (pe_un un_neg pe_int)
theorem pd_nil : PA X [] (taDat X.K c []) := pa_imp (fun σ H Q h => h.2 _ H (Same.refl H) .nil) pa_nil
theorem pd_cons (he : PE X e (tDat X.K c d)) (hr : PA X es (taDat X.K c ds)) (hs : starEach (e :: es) X.env = (false, eval e X.env) :: starEach es X.env := by rfl) : PA X (e :: es) (taDat X.K c (d :: ds)) :=
  pa_imp (fun σ H Q h => ⟨h.1, fun v H1 s1 h1 => ⟨h.1, fun vs H2 s2 h2 => h.2 _ H2 (Same.trans s1 s2) (.cons (dp_same (nw_l s2) _ _ h1) (dpAll_same (nw_r s1) _ _ h2))⟩⟩) (pa_cons he hr hs)
theorem pd_lstL (h : PA X es (taDat X.K c ds)) (hl : ds.length ≤ 1000) : PE X (.List es pos) (tDatL X.K c ds) :=
  pe_imp (fun σ H Q h => ⟨h.1, fun vs H1 s1 h1 => ⟨by rw [dpAll_len h1]; exact Nat.le_trans hl (by decide), fun p hp => h.2 p vs _ (Same.trans s1 (same_upd hp)) (Same.free s1 hp) upd_same (dpAll_same (nw_l (same_upd hp)) _ _ h1)⟩⟩) (pe_lst h)
theorem pd_lst (h : PA X es (taDat X.K c ds)) (hl : ds.length ≤ 1000) : PE X (.List es pos) (tDat X.K c (.list ds)) :=
  pe_imp (fun σ H Q h => ⟨h.1, fun p vs H1 s1 hn h1 h2 => h.2 _ H1 s1 (.lst (SqL.of (nw_at hn h1)) h2)⟩) (pd_lstL h hl)
theorem pd_tup {x1 : Nat} (h : PA X es (taDat X.K c ds)) (hl : ds.length ≤ 1000) : PE X (.Tuple es x1 pos) (tDat X.K c (.tuple ds)) :=
  pe_imp (fun σ H Q h => ⟨h.1, fun vs H1 s1 h1 => ⟨by rw [dpAll_len h1]; exact Nat.le_trans hl (by decide), fun p hp => h.2 _ _ (Same.trans s1 (same_upd hp)) (.tup (SqT.of (nw_at (Same.free s1 hp) upd_same)) (dpAll_same (nw_l (same_upd hp)) _ _ h1))⟩⟩) (pe_tup h)
end
end Sg

set_option maxRecDepth 100000
set_option maxHeartbeats 4000000
namespace Sg
open PySem PySem.Spec PyProof.Rows L2 Dr Gd Er Cm Ow
abbrev sKnown : Stmt := top 52
def known1 : List (List (Str × Int)) := [[("plus", 2), ("s", 1), ("zero", 0)], [("f", 2), ("g", 1), ("a", 0)], [("f", 2), ("a", 0), ("b", 0)]]
def known2 : List (List (Str × Int)) := [[("g", 1), ("f", 2), ("h", 2)], [("a", 0), ("b", 0), ("c", 0)], [("f", 3), ("a", 0), ("b", 0)]]
def known3 : List (List (Str × Int)) := [[("f", 1), ("g", 1), ("h", 1)], [("times", 2), ("plus", 2), ("s", 1), ("zero", 0)]]
def known4 : List (List (Str × Int)) := [[("left", 2), ("above", 2), ("lots", 0)], [("order", 1), ("rule", 0), ("sign", 2)]]
def known5 : List (List (Str × Int)) := [[("b", 0), ("f", 2)], [("f", 2), ("g", 1), ("a", 0), ("b", 0)], [("f", 3)]]
def known : List (List (Str × Int)) := known1 ++ known2 ++ known3 ++ known4 ++ known5
def spKnown (K : PySem.W.Frag) : Sp := fun vs H Q _ => vs = [] ∧ ∀ p us H', Same H H' → H p = none → H' p = some (.lst us) → DpAll K (nw H H') us (known.map psD) → Q (.ref p) H'
theorem cat_dat {K : PySem.W.Frag} {c : L2.St → Prop} {σ : L2.St} {H0 H : Hp} {Q : VK} {l : Addr} {vs : List V} {ds es : List PyData} {i : Nat} (hv : σ[i]? = some (some (.ref l))) (s0 : Same H0 H) (hl : H l = some (.lst vs)) (hd : DpAll K (nw H0 H) vs ds) (hz : ds.length + es.length ≤ 1000) (hc : c σ)
    (h : ∀ p us H', Same H0 H' → H0 p = none → H' p = some (.lst us) → DpAll K (nw H0 H') us (ds ++ es) → Q (.ref p) H') : tOp rCat (tVar i) (tDatL K c es) σ H Q := by
  refine ⟨_, hv, hc, fun p us H1 s1 hp h1 h2 => ?_⟩
  refine ⟨l, p, _, _, rfl, rfl, s1 _ _ hl, h1, ?_, fun p2 hp2 => ?_⟩
  · rw [dpAll_len hd, dpAll_len h2]
    exact Nat.le_trans hz (by decide)
  · have s := Same.trans s0 s1
    exact h p2 _ _ (Same.trans s (same_upd hp2)) (Same.free s hp2) upd_same (dpAll_same (nw_l (same_upd hp2)) _ _ (dpAll_app (dpAll_same (nw_l s1) _ _ hd) (dpAll_same (nw_r s0) _ _ h2)))
section
variable {P : Program} {w : World} {K : PySem.W.Frag} {mg : Str → Option Value} {base : Heap}
theorem scKn : FnScope ["found"] [] (defScope sKnown) := ⟨rfl, rfl, rfl, by decide +kernel, rfl, by decide +kernel, by decide +kernel⟩
theorem ok_known {f : Addr} {fd : FuncData} (F : Fun K "_law_known_signs" "_law_known_signs" sKnown f fd) : FnOk P w K mg base CX0 1 f fd [] (spKnown K) := by
  refine F.ok scKn (fun vs H Q E h => ?_) (fun cdv A outer s H vs Q E hr h => ?_)
  · obtain ⟨rfl, _⟩ := h
    rfl
  · obtain ⟨rfl, q⟩ := h
    refine ⟨_, pss_cons (ps_set (i := 0) (te := tDatL K (fun _ => True) (known1.map psD)) scKn.nd rfl (Or.inl rfl) (pd_lstL (by repeat (first | exact pd_int | exact pd_str | exact pd_nil | refine pd_cons ?_ ?_ | refine pd_lst ?_ (by decide) | refine pd_tup ?_ (by decide))) (by decide)))
      (pss_cons (ps_set (i := 0) (te := tOp rCat (tVar 0) (tDatL K (fun _ => True) (known2.map psD))) scKn.nd rfl (Or.inl rfl) (pe_op op_cat (pv 0) (pd_lstL (by repeat (first | exact pd_int | exact pd_str | exact pd_nil | refine pd_cons ?_ ?_ | refine pd_lst ?_ (by decide) | refine pd_tup ?_ (by decide))) (by decide))))
      (pss_cons (ps_set (i := 0) (te := tOp rCat (tVar 0) (tDatL K (fun _ => True) (known3.map psD))) scKn.nd rfl (Or.inl rfl) (pe_op op_cat (pv 0) (pd_lstL (by repeat (first | exact pd_int | exact pd_str | exact pd_nil | refine pd_cons ?_ ?_ | refine pd_lst ?_ (by decide) | refine pd_tup ?_ (by decide))) (by decide))))
      (pss_cons (ps_set (i := 0) (te := tOp rCat (tVar 0) (tDatL K (fun _ => True) (known4.map psD))) scKn.nd rfl (Or.inl rfl) (pe_op op_cat (pv 0) (pd_lstL (by repeat (first | exact pd_int | exact pd_str | exact pd_nil | refine pd_cons ?_ ?_ | refine pd_lst ?_ (by decide) | refine pd_tup ?_ (by decide))) (by decide))))
      (pss_one (ps_ret (te := tOp rCat (tVar 0) (tDatL K (fun _ => True) (known5.map psD))) (pe_op op_cat (pv 0) (pd_lstL (by repeat (first | exact pd_int | exact pd_str | exact pd_nil | refine pd_cons ?_ ?_ | refine pd_lst ?_ (by decide) | refine pd_tup ?_ (by decide))) (by decide)))))))), ?_⟩
    refine ⟨trivial, fun p1 u1 H1 s1 n1 g1 e1 => ?_⟩
    refine cat_dat (i := 0) rfl s1 g1 e1 (by decide) trivial (fun p2 u2 H2 s2 n2 g2 e2 => ?_)
    refine cat_dat (i := 0) rfl s2 g2 e2 (by decide) trivial (fun p3 u3 H3 s3 n3 g3 e3 => ?_)
    refine cat_dat (i := 0) rfl s3 g3 e3 (by decide) trivial (fun p4 u4 H4 s4 n4 g4 e4 => ?_)
    exact cat_dat (i := 0) rfl s4 g4 e4 (by decide) trivial (fun p5 u5 H5 s5 n5 g5 e5 => q p5 u5 H5 s5 n5 g5 e5)
end
end Sg

set_option maxRecDepth 100000
set_option maxHeartbeats 4000000
namespace Sg
open PySem PySem.Spec PyProof.Rows L2 Dr Gd Er Cm Ow
abbrev sDrawn : Stmt := top 53
structure Cal (P : Program) (w : World) (K : PySem.W.Frag) (mg : Str → Option Value) (base : Heap) (CX : CXT) (k : Nat) (x : Str) (f : Addr) (fd : FuncData) (ps : List Str) (sp : Sp) : Prop where
  ok : FnOk P w K mg base CX k f fd ps sp
  g : mg x = some (.ref f)
  kp : PySem.W.keepIn K (.ref f) = true
  b : Binds K fd ps []
def names3 : List (List Str) := [["f", "g", "h", "k"], ["k", "f", "a", "g"], ["z", "ab", "b", "abcdefgh"]]
def allN : List Str := (known.flatten.map (·.1)) ++ names3.flatten
def Good (ps : List (Str × Int)) : Prop := 1 ≤ ps.length ∧ ps.length ≤ 4 ∧ (ps.map (·.1)).Nodup ∧ (∀ p ∈ ps, wordIn Lc p.1 = true ∧ 0 ≤ p.2 ∧ p.2 ≤ 3) ∧ (("q" : Str) ∉ ps.map (·.1)) ∧ ∀ p ∈ ps, p.1 ∈ allN
instance (ps : List (Str × Int)) : Decidable (Good ps) := by unfold Good; infer_instance
theorem known_good : ∀ ps ∈ known, Good ps := by decide +kernel
theorem names3_ok : ∀ N ∈ names3, N.length = 4 ∧ N.Nodup ∧ (∀ z ∈ N, wordIn Lc z = true) ∧ ("q" : Str) ∉ N ∧ ∀ z ∈ N, z ∈ allN := by decide +kernel
def nmD (N : List Str) : PyData := .list (N.map .str)
def spDrawn (K : PySem.W.Frag) : Sp := fun vs H Q _ => ∃ p x y, vs = [.ref p] ∧ H p = some (feedO x y) ∧
  ∀ v ps x' y' H', SameX p H H' → H' p = some (feedO x' y') → Dp K (del H' p) v (psD ps) → Good ps → Q v H'
theorem SameX.del {p : Addr} {H H' : Hp} (s : SameX p H H') : Same (L2.del H p) (L2.del H' p) := fun b o h => by
  by_cases hb : b = p
  · subst hb; rw [del_same] at h; cases h
  · rw [del_ne hb] at h ⊢
    exact s b o h hb
theorem del_upd {p : Addr} {H : Hp} {o : HO} : L2.del (L2.upd H p o) p = L2.del H p := by
  funext b
  by_cases hb : b = p
  · subst hb; rw [del_same, del_same]
  · rw [del_ne hb, del_ne hb, upd_ne hb]
theorem dpAll_mem {K : PySem.W.Frag} {H : Hp} {vs : List V} {ds : List PyData} {v : V} (h : DpAll K H vs ds) (m : v ∈ vs) : ∃ d ∈ ds, Dp K H v d := by
  obtain ⟨i, hi, e⟩ := List.getElem_of_mem m
  obtain ⟨d, h1, h2⟩ := dpAll_get' h (show vs[i]? = some v by rw [List.getElem?_eq_getElem hi, e])
  exact ⟨d, List.mem_of_getElem? h1, h2⟩
def prD (ps : List (Str × Int)) : List PyData := ps.map fun p => .tuple [.str p.1, .int p.2]
theorem seqT_updL {K : PySem.W.Frag} {H : Hp} {l t : Addr} {us xs : List V} {o : HO} (hl : H l = some (.lst us)) (h : SqT K H t xs) : SqT K (L2.upd H l o) t xs := by
  rcases h with (h | ⟨u, h⟩) | h
  · exact .inl (.inl (by rw [upd_ne (ne_of h hl (by intro z; cases z))]; exact h))
  · exact .inl (.inr ⟨u, by rw [upd_ne (ne_of h hl (by intro z; cases z))]; exact h⟩)
  · exact .inr h
theorem pr_updL {K : PySem.W.Frag} {H : Hp} {l : Addr} {us : List V} {o : HO} (hl : H l = some (.lst us)) : ∀ {ts : List V} {ps : List (Str × Int)}, DpAll K H ts (prD ps) → DpAll K (L2.upd H l o) ts (prD ps)
  | [], [], _ => .nil
  | _ :: _, [], h => by cases h
  | [], _ :: _, h => by cases h
  | t :: ts, p :: ps, h => by
    cases h with
    | cons a b =>
      cases a with
      | tup h1 h2 =>
        cases h2 with
        | cons a1 h2 =>
          cases h2 with
          | cons a2 h2 =>
            cases h2
            cases a1
            cases a2
            exact .cons (.tup (seqT_updL hl h1) (.cons (.str _) (.cons (.int _) .nil))) (pr_updL hl b)
theorem nm_vs {K : PySem.W.Frag} {H : Hp} : ∀ {vs : List V} {N : List Str}, DpAll K H vs (N.map .str) → vs = N.map V.str
  | [], [], _ => rfl
  | _ :: _, _ :: _, h => by
    cases h with
    | cons a b =>
      cases a
      rw [nm_vs b]
      rfl
section
variable {P : Program} {w : World} {K : PySem.W.Frag} {mg : Str → Option Value} {base : Heap} {fT fP fK : Addr} {dT dP dK : FuncData}
theorem scDr : FnScope ["feed", "names", "many", "found", "ways", "at", "arity"] ["feed"] (defScope sDrawn) := ⟨rfl, rfl, rfl, by decide +kernel, rfl, by decide +kernel, by decide +kernel⟩
theorem ok_drawn {f : Addr} {fd : FuncData} (F : Fun K "_law_drawn_signs" "_law_drawn_signs" sDrawn f fd) (GT : Cal P w K mg base CX0 1 "_law_take" fT dT ["feed", "many"] spTake) (GP : Cal P w K mg base CX0 2 "_law_pick" fP dP ["feed", "some"] (spPick K))
    (GK : Cal P w K mg base CX0 1 "_law_known_signs" fK dK [] (spKnown K)) (hi : mg "int" = none) (hrg : mg "range" = none) : FnOk P w K mg base CX0 3 f fd ["feed"] (spDrawn K) := by
  refine F.ok scDr (fun vs H Q E h => ?_) (fun cdv A outer s H vs Q E hr h => ?_)
  · obtain ⟨p, x, y, rfl, _⟩ := h
    rfl
  · obtain ⟨p, x, y, rfl, hp, q⟩ := h
    refine ⟨_, pss_cons (ps_if (pt_cmpR op_gt (pe_call GT.ok (hr.mono (by decide)) rfl GT.g GT.kp GT.b .nil pass0 (pa_cons (pv 0) (pa_cons pe_int pa_nil))) pe_int (nomark _))
        (pss_one (ps_ret (pe_call GP.ok hr rfl GP.g GP.kp GP.b .nil pass0 (pa_cons (pv 0) (pa_cons (pe_call0 GK.ok (hr.mono (by decide)) (by rfl) GK.g GK.kp GK.b .nil pass0) pa_nil))))) pss_nil)
      (pss_cons (ps_set (i := 1) scDr.nd rfl (Or.inl rfl) (pe_call GP.ok hr rfl GP.g GP.kp GP.b .nil pass0 (pa_cons (pv 0) (pa_cons (te := tDatL K (fun _ => True) (names3.map nmD)) (pd_lstL (by repeat (first | exact pd_int | exact pd_str | exact pd_nil | refine pd_cons ?_ ?_ | refine pd_lst ?_ (by decide) | refine pd_tup ?_ (by decide))) (by decide)) pa_nil))))
      (pss_cons (ps_par3 (i := 2) (j := 3) (l := 4) rfl scDr.nd rfl rfl rfl (by decide) (by decide) (by decide) rfl rfl rfl (pa_cons (pe_op op_add pe_int (pe_call GT.ok (hr.mono (by decide)) rfl GT.g GT.kp GT.b .nil pass0 (pa_cons (pv 0) (pa_cons pe_int pa_nil)))) (pa_cons (pe_lst pa_nil) (pa_cons pe_int pa_nil))) (by rfl))
      (pss_cons (ps_for PassesOwn.never rfl (pi_range1 (by rfl) hrg (pa_cons (pv 2) pa_nil)) (pg_name (i := 5) scDr.nd rfl (Or.inl rfl))
        (pss_cons (ps_set (i := 6) scDr.nd rfl (Or.inl rfl) (pe_call GT.ok (hr.mono (by decide)) rfl GT.g GT.kp GT.b .nil pass0 (pa_cons (pv 0) (pa_cons (pe_ifExp (pt_cmpR op_lt (pv 4) pe_int (nomark _)) pe_int pe_int) pa_nil))))
        (pss_cons (ps_set (i := 4) scDr.nd rfl (Or.inl rfl) (pe_op op_add (pv 4) (pe_callTy call_int1 (by rfl) hi (by decide +kernel) (pa_cons (pe_cmp (pc_ge (pv 6) pe_int) rfl) pa_nil))))
        (pss_one (ps_expr (pe_bm PySem.F.plainAttrs_list PySem.F.slot_list_append PySem.F.type_list_append mt_append (pv 3) (pa_cons (pe_tup (pa_cons (pe_ix ix_list (pv 1) (pv 5) fun _ _ => rfl) (pa_cons (pv 6) pa_nil))) pa_nil)))))))
      (pss_one (ps_ret (pv 3)))))), ?_⟩
    have big : (1000000 : Nat) ≤ sizeLine := by decide
    refine ⟨_, rfl, p, x, y, 3, rfl, hp, by decide, by decide, fun r1 x1 y1 hr0 hr1 => ?_⟩
    refine ⟨_, _, rfl, rfl, _, rfl, ?_⟩
    have s01 : SameX p H (L2.upd H p (feedO x1 y1)) := (SameX.refl p H).upd
    refine ite2 (fun _ => ?_) (fun _ => ?_)
    · refine ⟨_, rfl, rfl, fun pk us H1 s1 hn e1 e2 => ?_⟩
      have hpk : pk ≠ p := fun z => by rw [z, upd_same] at hn; cases hn
      have hus : us.length = 13 := dpAll_len e2
      refine ⟨p, x1, y1, s1 _ _ upd_same, .inl ⟨pk, us, rfl, SqL.of e1, hpk, by omega, by omega, fun v x2 y2 hv => ?_⟩⟩
      obtain ⟨d, hd, hvd⟩ := dpAll_mem e2 hv
      obtain ⟨ps, hps, rfl⟩ := List.mem_map.mp hd
      refine q v ps x2 y2 _ (s01.trans (Same.x s1)).upd upd_same ?_ (known_good ps hps)
      rw [del_upd]
      exact dp_same (nw_del upd_same) _ _ hvd
    · refine ⟨_, rfl, trivial, fun pk us H1 s1 hn e1 e2 => ?_⟩
      have hpk : pk ≠ p := fun z => by rw [z, upd_same] at hn; cases hn
      have hus : us.length = 3 := dpAll_len e2
      refine ⟨p, x1, y1, s1 _ _ upd_same, .inl ⟨pk, us, rfl, SqL.of e1, hpk, by omega, by omega, fun v x2 y2 hv => ?_⟩⟩
      obtain ⟨d, hd, hvd⟩ := dpAll_mem e2 hv
      obtain ⟨N, hN, rfl⟩ := List.mem_map.mp hd
      obtain ⟨n4, nnd, nw1, nq, nal⟩ := names3_ok N hN
      have hvd := dp_same (nw_del (H' := H1) upd_same) _ _ hvd
      have s02 : SameX p H (L2.upd H1 p (feedO x2 y2)) := (s01.trans (Same.x s1)).upd
      cases hvd with
      | lst g1 g2 =>
        rename_i ln vs
        obtain rfl := nm_vs g2
        refine ⟨_, rfl, p, x2, y2, 4, rfl, upd_same, by decide, by decide, fun r x3 y3 h0 h1 => ?_⟩
        rw [upd2]
        refine ⟨_, _, rfl, rfl, Nat.zero_le _, fun l hl => ⟨_, _, _, rfl, ?_⟩⟩
        have hlp : l ≠ p := fun z => by rw [z, upd_same] at hl; cases hl
        have hl1 : H1 l = none := by rw [upd_ne hlp] at hl; exact hl
        have hlB : L2.del H1 p l = none := by rw [del_ne hlp]; exact hl1
        refine ⟨_, rfl, 1 + r, rfl, by omega, by omega, ?_⟩
        have sB : Same (L2.del H1 p) (L2.upd (L2.upd H1 p (feedO x3 y3)) l (.lst [])) := fun b o e => by
          have hb : b ≠ p := fun z => by rw [z, del_same] at e; cases e
          rw [upd_ne (ne_of_none e hlB), upd_ne hb]
          rw [del_ne hb] at e
          exact e
        refine for_it (walk_range (lo := 0) (n := (1 + r).toNat)) (fun i σ H' => ∃ ps ts xx yy w5 c5 c6, σ = [some (.ref p), some (.ref ln), some (.int (1 + r)), some (.ref l), some (.int w5), c5, c6] ∧ Same (L2.del H1 p) H' ∧ H' p = some (feedO xx yy) ∧ H' l = some (.lst ts) ∧
            DpAll K (L2.del H' p) ts (prD ps) ∧ ps.map (·.1) = N.take i ∧ ∀ q ∈ ps, 0 ≤ q.2 ∧ q.2 ≤ 3)
          ⟨[], [], x3, y3, 0, none, none, rfl, sB, by rw [upd_ne hlp.symm, upd_same], upd_same, .nil, by simp, by simp⟩ (fun _ _ _ _ _ => trivial) (fun i z σ H2 H' hi hp' hy => ?_) (fun σ H' hp' => ?_)
        · obtain ⟨ps, ts, xx, yy, w5, c5, c6, rfl, sH, k1, k2, k3, k4, k5⟩ := hp'
          obtain ⟨rfl, rfl⟩ := hy
          have hi4 : i < N.length := by omega
          refine ⟨_, rfl, _, rfl, _, _, rfl, rfl, _, rfl, ?_⟩
          refine ite2 (fun _ => ?_) (fun _ => ?_)
          all_goals
            refine ⟨p, xx, yy, _, rfl, k1, by decide, by decide, fun a x4 y4 ha0 ha1 => ?_⟩
            have ha3 : a ≤ 3 := by omega
            refine ⟨_, rfl, _, rfl, _, _, rfl, rfl, .inr ⟨_, rfl, _, _, rfl, rfl, ?_⟩⟩
            have m2 : (L2.upd H' p (feedO x4 y4)) l = some (.lst ts) := by rw [upd_ne hlp]; exact k2
            have sH2 : Same (L2.del H1 p) (L2.upd H' p (feedO x4 y4)) := fun b o e => by
              have hb : b ≠ p := fun z => by rw [z, del_same] at e; cases e
              rw [upd_ne hb]
              exact sH b o e
            refine ⟨_, rfl, .inl ⟨rfl, _, SqL.of m2⟩, ?_⟩
            refine ⟨_, rfl, _, rfl, ln, _, _, .str (N[i]), rfl, rfl, Same.seq sH2 g1, ?_, _, rfl, (by show 2 ≤ sizeLine; decide), fun t ht => ?_⟩
            · rw [Int.zero_add]
              exact atI_nat (by rw [List.getElem?_map, List.getElem?_eq_getElem hi4]; rfl)
            · have htl : l ≠ t := ne_of_none m2 ht
              have htp : p ≠ t := ne_of_none (upd_same : (L2.upd H' p (feedO x4 y4)) p = _) ht
              have ets : ts.length ≤ 4 := by
                have e1 := dpAll_len k3
                have e2 := congrArg List.length k4
                rw [List.length_map, List.length_take] at e2
                have e3 : (prD ps).length = ps.length := List.length_map ..
                omega
              refine ⟨l, ts, _, rfl, rfl, by rw [upd_ne htl]; exact m2, by omega, ?_⟩
              refine ⟨ps ++ [(N[i], a)], ts ++ [.ref t], x4, y4, _, _, _, rfl, ?_, ?_, upd_same, ?_, ?_, ?_⟩
              · intro b o e
                rw [upd_ne (ne_of_none e hlB), upd_ne (ne_of_none (sH2 b o e) ht)]
                exact sH2 b o e
              · rw [upd_ne hlp.symm, upd_ne htp, upd_same]
              · have sD : Same (L2.del H' p) (L2.del (L2.upd (L2.upd H' p (feedO x4 y4)) t (.tup [.str (N[i]), .int a])) p) := by
                  refine SameX.del fun b o e hb => ?_
                  have e' : (L2.upd H' p (feedO x4 y4)) b = some o := by rw [upd_ne hb]; exact e
                  rw [upd_ne (ne_of_none e' ht)]
                  exact e'
                have k3' := dpAll_same sD _ _ k3
                have et : (L2.del (L2.upd (L2.upd H' p (feedO x4 y4)) t (.tup [.str (N[i]), .int a])) p) t = some (.tup [.str (N[i]), .int a]) := by rw [del_ne htp.symm, upd_same]
                have el : (L2.del (L2.upd (L2.upd H' p (feedO x4 y4)) t (.tup [.str (N[i]), .int a])) p) l = some (.lst ts) := by rw [del_ne hlp, upd_ne htl]; exact m2
                have k6 : DpAll K (L2.del (L2.upd (L2.upd H' p (feedO x4 y4)) t (.tup [.str (N[i]), .int a])) p) (ts ++ [.ref t]) (prD (ps ++ [(N[i], a)])) := by
                  unfold prD
                  rw [List.map_append]
                  exact dpAll_app k3' (.cons (.tup (SqT.of et) (.cons (.str _) (.cons (.int _) .nil))) .nil)
                have k7 := pr_updL (o := .lst (ts ++ [.ref t])) el k6
                have e9 : L2.del (L2.upd (L2.upd (L2.upd H' p (feedO x4 y4)) t (.tup [.str (N[i]), .int a])) l (.lst (ts ++ [.ref t]))) p = L2.upd (L2.del (L2.upd (L2.upd H' p (feedO x4 y4)) t (.tup [.str (N[i]), .int a])) p) l (.lst (ts ++ [.ref t])) := by
                  funext b
                  by_cases hb : b = p
                  · subst hb; rw [del_same, upd_ne hlp.symm, del_same]
                  · rw [del_ne hb]
                    by_cases hbl : b = l
                    · subst hbl; rw [upd_same, upd_same]
                    · rw [upd_ne hbl, upd_ne hbl, del_ne hb]
                rw [e9]
                exact k7
              · rw [List.map_append, k4, List.take_succ, List.getElem?_eq_getElem hi4]
                rfl
              · intro q hq
                rcases List.mem_append.mp hq with hq | hq
                · exact k5 q hq
                · rw [List.mem_singleton.mp hq]
                  exact ⟨ha0, ha3⟩
        · obtain ⟨ps, ts, xx, yy, w5, c5, c6, rfl, sH, k1, k2, k3, k4, k5⟩ := hp'
          have hps : ps.length = (1 + r).toNat := by
            have e2 := congrArg List.length k4
            rw [List.length_map, List.length_take] at e2
            omega
          refine ⟨_, rfl, ?_⟩
          refine q (.ref l) ps xx yy H' (fun b o e hb => ?_) k1 (.lst (SqL.of (by rw [del_ne hlp]; exact k2)) k3) ⟨by omega, by omega, ?_, ?_, ?_, ?_⟩
          · refine sH b o ?_
            rw [del_ne hb]
            exact s1 _ _ (by rw [upd_ne hb]; exact e)
          · rw [k4]
            exact List.Nodup.sublist (List.take_sublist _ _) nnd
          · intro q hq
            refine ⟨nw1 _ ?_, k5 q hq⟩
            have : q.1 ∈ ps.map (·.1) := List.mem_map.mpr ⟨q, hq, rfl⟩
            rw [k4] at this
            exact List.mem_of_mem_take this
          · rw [k4]
            exact fun m => nq (List.mem_of_mem_take m)
          · intro q hq
            have : q.1 ∈ ps.map (·.1) := List.mem_map.mpr ⟨q, hq, rfl⟩
            rw [k4] at this
            exact nal _ (List.mem_of_mem_take this)
end
end Sg

set_option maxRecDepth 100000
set_option maxHeartbeats 4000000
/-! xs.extend(t), t a tuple -/
namespace XT
open PySem PySem.Spec PyProof.Rows L2
theorem extendW (l : Addr) (items : Array Value) (n : Nat) (b : Addr) (items2 : Array Value) (n2 : Nat) (dd : Option Addr) (sl : Array (Option Value)) (h0 : ¬(!items.isEmpty && Builtin.List.listTooLong (items.size + items2.size)) = true) (h1 : items.size ≤ sizeLine) (h2 : items.size + items2.size ≤ sizeLine + 1) :
    Meets (Builtin.«list.extend» ⟨[.ref l, .ref b], []⟩) (fun _ R s => s.heap.get? l = some { cls := .type "list", dict := none, data := .seq items n, slots := #[] } ∧ s.heap.get? b = some { cls := .type "tuple", dict := dd, data := .seq items2 n2, slots := sl } ∧
      R (.ok (.ret Value.none)) { s with heap := s.heap.update l (Obj.mapSeq fun x => x ++ items2), toks := s.toks }) :=
  .of_wp fun prog w A R s h => by
    obtain ⟨hp, g, d, tk, os⟩ := s
    obtain ⟨hl, hb, h⟩ := h
    have f2 := AutoSeq1.sub_tuple_tuple
    have f3 := AutoSeq1.sub_list_list
    have f4 := AutoSeq1.sub_tuple_list
    have f5 := AutoSeq1.sub_list_tuple
    have hz' : (items ++ items2).size ≤ sizeLine + 1 := by rw [Array.size_append]; exact h2
    wp_walk using (wpAny_updateSeq hl rfl (hz := h1) (_hz' := hz')), wpAny_loadPart' hl, wpAny_loadPart' hb
    exact ⟨_, rfl, h⟩
def rExtT (K : PySem.W.Frag) : V → List V → Hp → VK → Prop := fun x vs H Q => ∃ l b xs zs, x = .ref l ∧ vs = [.ref b] ∧ H l = some (.lst xs) ∧ SqT K H b zs ∧ xs.length + zs.length ≤ sizeLine ∧ Q .non (upd H l (.lst (xs ++ zs)))
theorem mt_extendT {X : Cx} : MtM X "list.extend" (rExtT X.K) := by
  intro pins s σ H x vs v us Q I rx rv h
  obtain ⟨l, b, xs, zs, rfl, rfl, hH, hB, hz, q⟩ := h
  cases rx
  obtain ⟨u, rfl, ru⟩ := rv.one
  cases ru
  obtain ⟨z, its, n, r, hl, e⟩ := I.lstM hH
  obtain ⟨its2, r2, ⟨⟨cls, dd, data, sl⟩, ho, hc, n2, hd⟩, hs⟩ := I.tuple hB
  simp only at hc hd
  subst hc hd
  have l2 : its2.length = zs.length := r2.length.symm
  have hsz : its.toArray.size + its2.toArray.size ≤ sizeLine := by rw [List.size_toArray, List.size_toArray]; omega
  have hlong : ¬ (!its.toArray.isEmpty && Builtin.List.listTooLong (its.toArray.size + its2.toArray.size)) = true := by
    rw [notLongL hsz, Bool.and_false]
    exact Bool.false_ne_true
  refine call_meets PySem.F.slot_list_extend ⟨_, e, rfl⟩ PySem.F.entry_list_extend (PySem.F.args_list_extend_2 _ _) (extendW l its.toArray n b its2.toArray n2 dd sl hlong (by rw [List.size_toArray]; omega) (by omega)) ⟨e, ho, ?_⟩
  refine ⟨.non, _, I.lset (its' := its ++ its2) hH e (by simp) (r.append r2) ?_, rfl, q⟩
  rw [List.length_append]
  omega
end XT

set_option maxRecDepth 100000
set_option maxHeartbeats 4000000
namespace Sg
open PySem PySem.Spec PyProof.Rows L2 Dr Gd Er Cm Ow XT
abbrev sIsTerm : Stmt := top 39
abbrev sHead : Stmt := top 40
def Uc : Str := "ABCDEFGHIJKLMNOPQRSTUVWXYZ"
def headOk (ps : List (Str × Int)) (e : PyData) (n : Nat) : Bool := match arD ps e with
  | some m => decide (((n + 1 : Nat) : Int) = m + 1)
  | none => false
mutual
def isTerm (ps : List (Str × Int)) : PyData → Bool
  | .str z => wordIn Uc z
  | .tuple [] => false
  | .tuple (e :: r) => headOk ps e r.length && allTerm ps r
  | .none => false
  | .bool _ => false
  | .int _ => false
  | .list _ => false
  | .dict _ => false
def allTerm (ps : List (Str × Int)) : List PyData → Bool
  | [] => true
  | d :: r => isTerm ps d && allTerm ps r
end
mutual
def tsz : PyData → Nat
  | .tuple ds => 1 + tszs ds
  | .list ds => 1 + tszs ds
  | .str _ => 1
  | .none => 1
  | .bool _ => 1
  | .int _ => 1
  | .dict _ => 1
def tszs : List PyData → Nat
  | [] => 0
  | d :: r => tsz d + tszs r
end
mutual
def okT : PyData → Bool
  | .tuple ds => okTs ds
  | .list ds => okTs ds
  | .str z => decide (z.length ≤ 1000)
  | .none => true
  | .bool _ => true
  | .int _ => true
  | .dict _ => true
def okTs : List PyData → Bool
  | [] => true
  | d :: r => okT d && okTs r
end
theorem allTerm_app (ps : List (Str × Int)) : ∀ a b : List PyData, allTerm ps (a ++ b) = (allTerm ps a && allTerm ps b)
  | [], b => by simp [allTerm]
  | d :: a, b => by
    rw [List.cons_append, allTerm, allTerm, allTerm_app ps a b, Bool.and_assoc]
theorem tszs_app : ∀ a b : List PyData, tszs (a ++ b) = tszs a + tszs b
  | [], b => by simp [tszs]
  | d :: a, b => by
    rw [List.cons_append, tszs, tszs, tszs_app a b, Nat.add_assoc]
theorem okTs_app : ∀ a b : List PyData, okTs (a ++ b) = (okTs a && okTs b)
  | [], b => by simp [okTs]
  | d :: a, b => by
    rw [List.cons_append, okTs, okTs, okTs_app a b, Bool.and_assoc]
theorem tsz_pos : ∀ d : PyData, 1 ≤ tsz d := by
  intro d
  cases d <;> simp [tsz]
theorem tszs_len : ∀ ds : List PyData, ds.length ≤ tszs ds
  | [] => by simp [tszs]
  | d :: r => by
    have := tszs_len r
    have := tsz_pos d
    rw [List.length_cons, tszs]
    omega
def spHead (K : PySem.W.Frag) (C : Addr) : Sp := fun vs H Q _ => ∃ x v ds ps, vs = [.ref x, v] ∧ SgAt C H x ps ∧ Dp K H v (.tuple ds) ∧ Q (.bl (match ds with | [] => false | e :: r => headOk ps e r.length)) H
def spIsT (K : PySem.W.Frag) (C : Addr) : Sp := fun vs H Q _ => ∃ x v d ps, vs = [.ref x, v] ∧ SgAt C H x ps ∧ Dp K H v d ∧ okT d = true ∧ tsz d ≤ 5000 ∧ ∀ H', Same H H' → Q (.bl (isTerm ps d)) H'
structure ArAt (P : Program) (w : World) (K : PySem.W.Frag) (mg : Str → Option Value) (base : Heap) (cS C fa : Addr) (da : FuncData) : Prop where
  m : Meth K C "arity" fa
  ok : FnOk P w K mg base (L2.CX P w) 2 fa da ["self", "name"] (spAr K cS C)
  b : Binds K da ["self", "name"] []
section
variable {P : Program} {w : World} {K : PySem.W.Frag} {mg : Str → Option Value} {base : Heap} {cS C fa fh fW fH : Addr} {da dh dW dH : FuncData}
theorem scHd : FnScope ["signs", "value"] ["signs", "value"] (defScope sHead) := ⟨rfl, rfl, rfl, by decide +kernel, rfl, by decide +kernel, by decide +kernel⟩
theorem atI_head {y : V} {ys : List V} : atI (y :: ys) 0 = some y := atI_nat (show (y :: ys)[0]? = some y from rfl)
theorem ok_head {f : Addr} {fd : FuncData} (F : Fun K "_has_head" "_has_head" sHead f fd) (T : KTxt mg) (S : SCl K C) (h4 : HasAt K C fh dh) (M : ArAt P w K mg base cS C fa da) : FnOk P w K mg base CX0 3 f fd ["signs", "value"] (spHead K C) := by
  refine F.ok scHd (fun vs H Q E h => ?_) (fun cdv A outer s H vs Q E hr h => ?_)
  · obtain ⟨x, v, ds, ps, rfl, _⟩ := h
    rfl
  · obtain ⟨x, v, ds, ps, rfl, hS, hd, q⟩ := h
    have r1 : Room 1 (A.deeper (envOfC "_has_head" (defScope sHead) s.heap.objs.size f cdv)) := hr.mono (by decide)
    refine ⟨_, pss_one (ps_ret (pe_and (pe_cmpR op_gt (pe_callB call_len_seq (by rfl) T.len PySem.boot_len (pa_cons (pv 1) pa_nil)) pe_int (nomark _))
      (pe_and (pe_cmpR (op_inOwn (ok_has h4.F T S) r1 h4.at_ h4.fn h4.b pass0) (pe_ix ix_tup (pv 1) pe_int fun _ _ => rfl) (pv 0) (by rfl))
      (pe_one (pe_cmpR op_eq (pe_callB call_len_seq (by rfl) T.len PySem.boot_len (pa_cons (pv 1) pa_nil)) (pe_op op_add (pe_meth (pv 0) S.cl M.m M.ok hr M.b .nil passL (pa_cons (pe_ix ix_tup (pv 1) pe_int fun _ _ => rfl) pa_nil)) pe_int) (nomark _)))))), ?_⟩
    obtain ⟨dx, dn, h1, h2⟩ := id hS
    cases hd with
    | tup g1 g2 =>
      rename_i a xs
      have hl := dpAll_len g2
      refine ⟨_, rfl, a, _, rfl, .inr g1, _, _, rfl, rfl, _, rfl, ?_⟩
      refine ite2 (fun c => ?_) (fun c => ?_)
      · have c := of_decide_eq_true c
        cases g2 with
        | nil => exact absurd c (by simp)
        | @cons y ys e r he hr' =>
            refine ⟨_, rfl, a, _, 0, y, rfl, rfl, g1, atI_head, _, rfl, x, dx, _, rfl, h1, x, y, e, ps, rfl, hS, he, _, rfl, _, rfl, ?_⟩
            cases har : arD ps e with
            | none =>
              have hno : hasD ps e = false := by
                cases e with
                | str z =>
                  show hasN ps z = false
                  rw [← arOf_has]
                  rw [show arOf ps z = none from har]
                  rfl
                | _ => rfl
              rw [hno]
              refine iteF ?_
              have q : Q (.bl (headOk ps e r.length)) H := q
              unfold headOk at q
              rw [har] at q
              exact q
            | some n =>
              have hyes : hasD ps e = true := by
                cases e with
                | str z =>
                  show hasN ps z = true
                  rw [← arOf_has]
                  rw [show arOf ps z = some n from har]
                  rfl
                | _ => cases har
              rw [hyes]
              refine iteT ?_
              refine ⟨_, rfl, a, _, rfl, .inr g1, _, rfl, x, dx, _, rfl, h1, rfl, _, rfl, a, _, 0, y, rfl, rfl, g1, atI_head, x, y, e, ps, rfl, hS, he, (fun n' e' => ?_), (fun e' => by rw [har] at e'; cases e')⟩
              have en : n' = n := by
                rw [har] at e'
                exact (Option.some.inj e').symm
              subst en
              refine ⟨_, _, rfl, rfl, rfl, ?_⟩
              have q : Q (.bl (headOk ps e r.length)) H := q
              unfold headOk at q
              rw [har] at q
              have e2 : decide (V.int ((y :: ys).length : Int) = V.int (n' + 1)) = decide (((r.length + 1 : Nat) : Int) = n' + 1) := by
                have : (y :: ys).length = r.length + 1 := hl
                rw [this]
                exact decide_eq_decide.mpr ⟨fun z => by injection z, fun z => by rw [z]⟩
              rw [e2]
              exact q
      · have c : ¬ (0 : Int) < (xs.length : Int) := fun z => c (decide_eq_true z)
        have : ds = [] := by
          cases ds with
          | nil => rfl
          | cons _ _ => rw [List.length_cons] at hl; omega
        subst this
        exact q
theorem scIt : FnScope ["signs", "value", "todo", "part"] ["signs", "value"] (defScope sIsTerm) := ⟨rfl, rfl, rfl, by decide +kernel, rfl, by decide +kernel, by decide +kernel⟩
theorem last_split {K : PySem.W.Frag} {H : Hp} {vs : List V} {ds : List PyData} (h : DpAll K H vs ds) (hn : vs ≠ []) : ∃ d v r, ds = r ++ [d] ∧ vs[vs.length - 1]? = some v ∧ Dp K H v d ∧ DpAll K H vs.dropLast r := by
  have hl := dpAll_len h
  have hp : 0 < vs.length := List.length_pos_iff.mpr hn
  have hd : ds ≠ [] := fun z => by rw [z] at hl; simp at hl; exact hn hl
  obtain ⟨v, hv⟩ : ∃ v, vs[vs.length - 1]? = some v := ⟨_, List.getElem?_eq_getElem (by omega)⟩
  obtain ⟨d, e1, e2⟩ := dpAll_get' h hv
  refine ⟨d, v, ds.dropLast, ?_, hv, e2, ?_⟩
  · rw [hl] at e1
    have : ds.getLast hd = d := by
      rw [List.getLast_eq_getElem]
      exact (List.getElem?_eq_some_iff.mp e1).2
    rw [← this]
    exact (List.dropLast_concat_getLast hd).symm
  · rw [List.dropLast_eq_take, List.dropLast_eq_take, ← hl]
    have tk : ∀ (k : Nat) {vs : List V} {ds : List PyData}, DpAll K H vs ds → DpAll K H (vs.take k) (ds.take k) := by
      intro k
      induction k with
      | zero => intro vs ds _; exact .nil
      | succ k ih =>
        intro vs ds h
        cases h with
        | nil => exact .nil
        | cons a b => exact .cons a (ih b)
    exact tk _ h
theorem cut_from1 (xs : List V) : cutV xs (some 1) none = xs.drop 1 := by
  unfold cutV
  rw [HT.sIx_none, show HT.sIx xs.length 0 (some 1) = min 1 xs.length from HT.sIx_nat _ _ 1]
  rcases Nat.le_total 1 xs.length with h | h
  · rw [Nat.min_eq_left h, List.take_of_length_le (by rw [List.length_drop]; omega)]
  · rw [Nat.min_eq_right h, List.drop_eq_nil_of_le h, List.drop_eq_nil_of_le (Nat.le_refl _), List.take_nil]
theorem ok_isTerm {f : Addr} {fd : FuncData} (F : Fun K "is_term" "is_term" sIsTerm f fd) (T : KTxt mg) (GH : Cal P w K mg base CX0 3 "_has_head" fH dH ["signs", "value"] (spHead K C)) (GW : Cal P w K mg base CX0 1 "is_word" fW dW ["value", "letters"] (spWord K)) (cap : ∃ t, mg "CAPITAL" = some (.str Uc t)) :
    FnOk P w K mg base CX0 4 f fd ["signs", "value"] (spIsT K C) := by
  obtain ⟨tU, mU⟩ := cap
  refine F.ok scIt (fun vs H Q E h => ?_) (fun cdv A outer s H vs Q E hr h => ?_)
  · obtain ⟨x, v, d, ps, rfl, _⟩ := h
    rfl
  · obtain ⟨x, v, d, ps, rfl, hS, hd, hok, hsz, q⟩ := h
    have r1 : Room 1 (A.deeper (envOfC "is_term" (defScope sIsTerm) s.heap.objs.size f cdv)) := hr.mono (by decide)
    refine ⟨_, pss_cons (ps_set (i := 2) scIt.nd rfl (Or.inl rfl) (pe_lst (pa_cons (pv 1) pa_nil)))
      (pss_cons (ps_while PassesOwn.never (pt_truth (pv 2) (by intro _; rfl))
        (pss_cons (ps_set (i := 3) scIt.nd rfl (Or.inl rfl) (pe_bm0 PySem.F.plainAttrs_list PySem.F.slot_list_pop PySem.F.type_list_pop mt_pop (pv 2)))
        (pss_one (ps_if (pt_val (pe_callB call_isi (by rfl) T.isi (by decide +kernel) (pa_cons (pv 3) (pa_cons (pe_bltn (v := .ty "tuple") (by rfl) T.tup (by decide +kernel) rfl) pa_nil))))
          (pss_cons (ps_if (pt_not (pt_val (pe_call GH.ok hr rfl GH.g GH.kp GH.b .nil pass0 (pa_cons (pv 0) (pa_cons (pv 3) pa_nil))))) (pss_one (ps_ret pe_bl)) pss_nil)
          (pss_one (ps_expr (pe_bm PySem.F.plainAttrs_list PySem.F.slot_list_extend PySem.F.type_list_extend mt_extendT (pv 2) (pa_cons (pe_slice sl_tup (pv 3) (po_some pe_int) po_none) pa_nil)))))
          (pss_one (ps_if (pt_not (pt_val (pe_call GW.ok r1 rfl GW.g GW.kp GW.b .nil pass0 (pa_cons (pv 3) (pa_cons (pe_glob (v := .str Uc) rfl mU ⟨_, rfl⟩) pa_nil))))) (pss_one (ps_ret pe_bl)) pss_nil))))))
      (pss_one (ps_ret pe_bl))), ?_⟩
    refine ⟨_, rfl, (by show 1 ≤ sizeLine; decide), fun l hl => ?_⟩
    have s1 := same_upd (o := .lst [v]) hl
    refine ⟨fun m σ H' => ∃ vs ds c3, m = tszs ds ∧ σ = [some (.ref x), some v, some (.ref l), c3] ∧ Same H H' ∧ H' l = some (.lst vs) ∧ DpAll K (L2.del H' l) vs ds ∧ okTs ds = true ∧ tszs ds ≤ 5000 ∧ isTerm ps d = allTerm ps ds, ⟨tszs [d], [v], [d], none, rfl, rfl, s1, upd_same, ?_, ?_, ?_, ?_⟩, ?_⟩
    · refine .cons (dp_same (fun b o e => ?_) _ _ hd) .nil
      rw [del_ne (ne_of_none e hl), upd_ne (ne_of_none e hl)]
      exact e
    · simp [okTs, hok]
    · simpa [tszs] using hsz
    · simp [allTerm]
    · rintro m σ H0 ⟨vs, ds, c3, rfl, rfl, sm, hL, hds, hko, hzz, heq⟩
      refine ⟨_, rfl, !vs.isEmpty, .inl ⟨vs, SqL.of hL, rfl⟩, ?_⟩
      refine ite2 (fun hc => ?_) (fun hc => ?_)
      · have hne : vs ≠ [] := fun z => by rw [z] at hc; cases hc
        obtain ⟨dl, vl, rd, rfl, hvl, hdl, hrd⟩ := last_split hds hne
        rw [okTs_app, Bool.and_eq_true] at hko
        have hkl : okT dl = true := by have := hko.2; simpa [okTs] using this
        rw [tszs_app] at hzz
        have hz1 : tszs [dl] = tsz dl := by simp [tszs]
        rw [hz1] at hzz
        rw [allTerm_app, show allTerm ps [dl] = isTerm ps dl from by simp [allTerm]] at heq
        have lenv : vs.dropLast.length = rd.length := dpAll_len hrd
        have lrd := tszs_len rd
        refine ⟨fun σ' H' => ∃ m', m' < tszs (rd ++ [dl]) ∧ ∃ vs ds c3, m' = tszs ds ∧ σ' = [some (.ref x), some v, some (.ref l), c3] ∧ Same H H' ∧ H' l = some (.lst vs) ∧ DpAll K (L2.del H' l) vs ds ∧ okTs ds = true ∧ tszs ds ≤ 5000 ∧ isTerm ps d = allTerm ps ds, fun _ _ z => z, ?_⟩
        refine ⟨_, rfl, .inl ⟨rfl, _, SqL.of hL⟩, l, vs, vl, rfl, rfl, hL, hvl, ?_⟩
        have hl0 : ∀ b o, H b = some o → b ≠ l := fun b o e => ne_of_none e hl
        have e1 : (L2.upd H0 l (.lst vs.dropLast)) l = some (.lst vs.dropLast) := upd_same
        have sm1 : Same H (L2.upd H0 l (.lst vs.dropLast)) := fun b o e => by rw [upd_ne (hl0 b o e)]; exact sm b o e
        have dd1 : L2.del (L2.upd H0 l (.lst vs.dropLast)) l = L2.del H0 l := del_upd
        generalize (L2.upd H0 l (.lst vs.dropLast)) = H1 at e1 sm1 dd1 ⊢
        rw [← dd1] at hdl hrd
        have sdel : Same (L2.del H1 l) H1 := fun b o e => by
          by_cases hb : b = l
          · subst hb; rw [del_same] at e; cases e
          · rw [del_ne hb] at e; exact e
        have hdl1 : Dp K H1 vl dl := dp_same sdel _ _ hdl
        refine ⟨_, rfl, vl, .ty "tuple", .type (tyD dl), .type "tuple", _, rfl, .ty _, ty_dp hdl1, kit_ty (k_tup dl), _, rfl, ?_⟩
        have leaf : (∀ z, dl = .tuple z → False) → isTerm ps dl = isWord Uc dl := fun h => by
          cases dl with
          | tuple z => exact (h z rfl).elim
          | str z => simp [isTerm]; rfl
          | _ => simp [isTerm]; rfl
        cases hdl with
        | tup k1 k2 =>
          rename_i ta ya es
          have g1 := seqT_same sdel k1
          have g2 := dpAll_same sdel _ _ k2
          refine iteT ?_
          refine ⟨_, rfl, _, rfl, x, .ref ta, es, ps, rfl, hS.same sm1, .tup g1 g2, _, rfl, ?_⟩
          cases es with
          | nil =>
            refine iteT ?_
            have e9 : isTerm ps d = false := by rw [heq]; simp [isTerm]
            have z := q H1 sm1
            rw [e9] at z
            exact z
          | cons e r =>
            have hT : isTerm ps (.tuple (e :: r)) = (headOk ps e r.length && allTerm ps r) := by rw [isTerm]
            rw [hT] at heq
            refine ite2 (fun hc2 => ?_) (fun hc2 => ?_)
            · have hc2 : headOk ps e r.length = false := by simpa using hc2
              have e9 : isTerm ps d = false := by rw [heq, hc2]; simp
              have z := q H1 sm1
              rw [e9] at z
              exact z
            · have hc2 : headOk ps e r.length = true := by simpa using hc2
              rw [hc2, Bool.true_and] at heq
              have ylen : ya.length = r.length + 1 := dpAll_len g2
              refine ⟨_, rfl, .inl ⟨rfl, _, SqL.of e1⟩, _, rfl, 1, rfl, ta, ya, rfl, g1, ?_, fun p hp => ?_⟩
              · rw [show HT.sIx ya.length 0 (some 1) = min 1 ya.length from HT.sIx_nat _ _ 1]
                omega
              · rw [cut_from1]
                have sp := same_upd (o := .tup (ya.drop 1)) hp
                have hlp : l ≠ p := ne_of_none e1 hp
                have rlen : (ya.drop 1).length = r.length := by rw [List.length_drop, ylen]; omega
                have lr := tszs_len r
                have hzt : tsz (.tuple (e :: r)) = 1 + (tsz e + tszs r) := by rw [tsz, tszs]
                rw [hzt] at hzz
                have pe := tsz_pos e
                refine ⟨l, p, _, _, rfl, rfl, sp _ _ e1, SqT.of upd_same, ?_, ?_⟩
                · have big : (20000 : Nat) ≤ sizeLine := by decide
                  rw [lenv, rlen]
                  omega
                · refine ⟨tszs (rd ++ r), ?_, vs.dropLast ++ ya.drop 1, rd ++ r, _, rfl, rfl, ?_, upd_same, ?_, ?_, ?_, ?_⟩
                  · rw [tszs_app, tszs_app]
                    rw [show tszs [PyData.tuple (e :: r)] = 1 + (tsz e + tszs r) from by simp [tszs, tsz]]
                    omega
                  · exact fun b o e => by
                      rw [upd_ne (hl0 b o e)]
                      exact sp _ _ (sm1 b o e)
                  · rw [del_upd]
                    have sD : Same (L2.del H1 l) (L2.del (L2.upd H1 p (.tup (ya.drop 1))) l) := fun b o e => by
                      have hb : b ≠ l := fun z => by rw [z, del_same] at e; cases e
                      rw [del_ne hb] at e ⊢
                      exact sp b o e
                    refine dpAll_app (dpAll_same sD _ _ hrd) (dpAll_same sD _ _ ?_)
                    cases k2 with
                    | cons _ k3 => exact k3
                  · rw [okTs_app, hko.1, Bool.true_and]
                    have := hkl
                    rw [okT, okTs, Bool.and_eq_true] at this
                    exact this.2
                  · rw [tszs_app]
                    omega
                  · rw [allTerm_app]
                    exact heq
        | _ =>
          refine iteF ?_
          have lf := leaf (fun z e => by cases e)
          refine ⟨_, rfl, _, _, Uc, rfl, hdl1, (fun z e => ?_), fun H2 s2 => ⟨_, rfl, ?_⟩⟩
          · rw [e] at hkl
            have : z.length ≤ 1000 := by simpa [okT] using hkl
            exact Nat.le_trans this (by decide)
          · rw [← lf]
            refine ite2 (fun hc2 => ?_) (fun hc2 => ?_)
            · have e9 : isTerm ps d = false := by rw [heq]; simp at hc2; rw [hc2]; simp
              have z := q H2 (Same.trans sm1 s2)
              rw [e9] at z
              exact z
            · refine ⟨tszs rd, ?_, vs.dropLast, rd, _, rfl, rfl, Same.trans sm1 s2, s2 _ _ e1, dpAll_same (SameX.del (Same.x s2)) _ _ hrd, hko.1, by omega, ?_⟩
              · rw [tszs_app, hz1]
                exact Nat.lt_add_of_pos_right (tsz_pos _)
              · rw [heq]
                simp at hc2
                rw [hc2]
                simp
      · have hv : vs = [] := by
          cases vs with
          | nil => rfl
          | cons _ _ => exact absurd rfl hc
        subst hv
        have hdn : ds = [] := by cases hds; rfl
        subst hdn
        have z := q H0 sm
        rw [heq] at z
        have z : Q (V.bl true) H0 := by simpa [allTerm] using z
        exact z
end
end Sg

set_option maxRecDepth 100000
set_option maxHeartbeats 4000000
namespace Sg
open PySem PySem.Spec PyProof.Rows L2 Dr Gd Er Cm Ow XT
def tdp : PyData → Nat := PyData.depth
theorem eqv_nil (ds : List PyData) : PyData.eqvAll ds [] = ds.isEmpty := by cases ds <;> rfl
theorem shaped_nil : SeqAt.shaped (.list []) = true := by decide
theorem shaped_tnil : SeqAt.shaped (.tuple []) = true := by decide
theorem layAll_mem : ∀ {ds : List PyData}, PyData.canLayAll0 ds = true → ∀ d ∈ ds, d.canLay0 = true
  | [], _, d, h => by cases h
  | e :: ds, h, d, hd => by
    rw [PyData.canLayAll0, Bool.and_eq_true] at h
    rcases List.mem_cons.mp hd with rfl | hd
    · exact h.1
    · exact layAll_mem h.2 d hd
theorem dep_mem : ∀ {ds : List PyData} {d : PyData}, d ∈ ds → d.depth ≤ PyData.depthAll ds
  | e :: ds, d, hd => by
    rw [PyData.depthAll]
    rcases List.mem_cons.mp hd with rfl | hd
    · exact Nat.le_max_left _ _
    · exact Nat.le_trans (dep_mem hd) (Nat.le_max_right _ _)
theorem layAll_of : ∀ {ds : List PyData}, (∀ d ∈ ds, d.canLay0 = true) → PyData.canLayAll0 ds = true
  | [], _ => rfl
  | d :: ds, h => by
    rw [PyData.canLayAll0, h d List.mem_cons_self, layAll_of fun x hx => h x (List.mem_cons_of_mem _ hx)]
    rfl
theorem dep_of : ∀ {ds : List PyData} {n : Nat}, (∀ d ∈ ds, d.depth ≤ n) → PyData.depthAll ds ≤ n
  | [], n, _ => by simp [PyData.depthAll]
  | d :: ds, n, h => by
    rw [PyData.depthAll]
    exact Nat.max_le.mpr ⟨h d List.mem_cons_self, dep_of fun x hx => h x (List.mem_cons_of_mem _ hx)⟩
/-- lists of data that may be compared -/
theorem shaped_list {ds : List PyData} (h : ∀ d ∈ ds, d.canLay0 = true ∧ d.depth ≤ 62) : SeqAt.shaped (.list ds) = true := by
  unfold SeqAt.shaped
  rw [Bool.and_eq_true]
  refine ⟨layAll_of fun d hd => (h d hd).1, decide_eq_true ?_⟩
  have := dep_of (n := 62) fun d hd => (h d hd).2
  show PyData.depth (.list _) ≤ 64
  simp only [PyData.depth]
  omega
theorem shaped_of {d : PyData} (h1 : d.canLay0 = true) (h2 : d.depth ≤ 62) : SeqAt.shaped d = true := by
  unfold SeqAt.shaped
  rw [h1, Bool.true_and]
  exact decide_eq_true (by omega)
theorem okTs_mem : ∀ {ds : List PyData}, okTs ds = true → ∀ d ∈ ds, okT d = true
  | e :: ds, h, d, hd => by
    rw [okTs, Bool.and_eq_true] at h
    rcases List.mem_cons.mp hd with rfl | hd
    · exact h.1
    · exact okTs_mem h.2 d hd
theorem tszs_mem : ∀ {ds : List PyData} {d : PyData}, d ∈ ds → tsz d ≤ tszs ds
  | e :: ds, d, hd => by
    rw [tszs]
    rcases List.mem_cons.mp hd with rfl | hd
    · omega
    · have := tszs_mem hd
      omega
theorem allTerm_filter (ps : List (Str × Int)) : ∀ r : List PyData, (r.filter fun d => !isTerm ps d).isEmpty = allTerm ps r
  | [] => by simp [allTerm]
  | d :: r => by
    rw [allTerm]
    cases h : isTerm ps d with
    | true => rw [List.filter_cons_of_neg (by simp [h]), allTerm_filter ps r]; rfl
    | false => rw [List.filter_cons_of_pos (by simp [h])]; rfl
theorem pr_at {K : PySem.W.Frag} {H : Hp} {xs : List V} {ps : List (Str × Int)} {i : Nat} {y : V} (h : DpAll K H xs (prD ps)) (g : xs[i]? = some y) : ∃ z n t, ps[i]? = some (z, n) ∧ y = .ref t ∧ SqT K H t [.str z, .int n] := by
  obtain ⟨d, h1, h2⟩ := dpAll_get' h g
  unfold prD at h1
  rw [List.getElem?_map] at h1
  cases e : ps[i]? with
  | none => rw [e] at h1; cases h1
  | some p =>
    rw [e] at h1
    obtain rfl := Option.some.inj h1
    cases h2 with
    | tup g1 g2 =>
      cases g2 with
      | cons a g2 =>
        cases g2 with
        | cons b g2 =>
          cases g2
          cases a
          cases b
          exact ⟨p.1, p.2, _, rfl, rfl, g1⟩
theorem word_filter (z : Str) : (z.cps.toList.filter fun c => !decide (c ∈ Uc.cps.toList)).isEmpty = z.cps.toList.all fun c => decide (c ∈ Uc.cps.toList) := by
  generalize z.cps.toList = cs
  induction cs with
  | nil => rfl
  | cons c cs ih =>
    rw [List.all_cons]
    cases h : decide (c ∈ Uc.cps.toList) with
    | true => rw [List.filter_cons_of_neg (by rw [h]; simp), ih]; rfl
    | false => rw [List.filter_cons_of_pos (by rw [h]; rfl)]; rfl
theorem sg_dp {K : PySem.W.Frag} {H : Hp} : ∀ cs : List Nat, DpAll K H (cs.map fun c => V.str ⟨#[c]⟩) (cs.map fun c => PyData.str ⟨#[c]⟩)
  | [] => .nil
  | c :: cs => .cons (.str _) (sg_dp cs)
theorem filter_take {α : Type} {xs : List α} {i : Nat} {x : α} (p : α → Bool) (h : xs[i]? = some x) : (xs.take (i + 1)).filter p = if p x = true then (xs.take i).filter p ++ [x] else (xs.take i).filter p := by
  rw [List.take_succ, h]
  show (xs.take i ++ [x]).filter p = _
  rw [List.filter_append]
  by_cases c : p x = true
  · rw [if_pos c, List.filter_cons_of_pos c]; rfl
  · rw [if_neg c, List.filter_cons_of_neg c]; simp
end Sg

set_option maxRecDepth 100000
set_option maxHeartbeats 4000000
namespace Sg
open PySem PySem.Spec PyProof.Rows L2 Dr Gd Er Cm Ow XT
abbrev sTerm : Stmt := top 55
/-- data that may be compared and shown -/
structure Fit (W D : Nat) (d : PyData) : Prop where
  lay : d.canLay0 = true
  dep : d.depth ≤ D
  isn : d.intsShort 40 = true
  wt : d.weight ≤ W
  sh : d.showable = true
  nd : d.hasDict = false
  ok : okT d = true
instance (W D : Nat) (d : PyData) : Decidable (Fit W D d) := decidable_of_iff (d.canLay0 = true ∧ d.depth ≤ D ∧ d.intsShort 40 = true ∧ d.weight ≤ W ∧ d.showable = true ∧ d.hasDict = false ∧ okT d = true) ⟨fun h => ⟨h.1, h.2.1, h.2.2.1, h.2.2.2.1, h.2.2.2.2.1, h.2.2.2.2.2.1, h.2.2.2.2.2.2⟩, fun h => ⟨h.lay, h.dep, h.isn, h.wt, h.sh, h.nd, h.ok⟩⟩
theorem Fit.mono {W D W' D' : Nat} {d : PyData} (h : Fit W D d) (hw : W ≤ W') (hd : D ≤ D') : Fit W' D' d := ⟨h.lay, Nat.le_trans h.dep hd, h.isn, Nat.le_trans h.wt hw, h.sh, h.nd, h.ok⟩
mutual
theorem tsz_wt : ∀ d : PyData, tsz d ≤ d.weight + 1
  | .none => by simp [tsz]
  | .bool _ => by simp [tsz]
  | .int _ => by simp [tsz]
  | .str _ => by simp [tsz]
  | .dict _ => by simp [tsz]
  | .list ds => by
    have := tszs_wt ds
    rw [tsz]
    simp only [PyData.weight]
    omega
  | .tuple ds => by
    have := tszs_wt ds
    rw [tsz]
    simp only [PyData.weight]
    omega
theorem tszs_wt : ∀ ds : List PyData, tszs ds ≤ PyData.weightAll ds
  | [] => by simp [tszs]
  | d :: ds => by
    have := tsz_wt d
    have := tszs_wt ds
    rw [tszs]
    simp only [PyData.weightAll]
    omega
end
theorem fit_all {W D : Nat} : ∀ {ds : List PyData}, (∀ d ∈ ds, Fit W D d) → PyData.canLayAll0 ds = true ∧ PyData.depthAll ds ≤ D ∧ PyData.intsShortAll 40 ds = true ∧ PyData.weightAll ds ≤ ds.length * (W + 1) ∧ PyData.showableAll ds = true ∧ PyData.hasDictAll ds = false ∧ okTs ds = true
  | [], _ => ⟨rfl, by simp [PyData.depthAll], by simp [PyData.intsShortAll], by simp [PyData.weightAll], by simp [PyData.showableAll], by simp [PyData.hasDictAll], by simp [okTs]⟩
  | d :: ds, h => by
    have hd := h d List.mem_cons_self
    obtain ⟨a, b, c, e, f, g, k⟩ := fit_all fun x hx => h x (List.mem_cons_of_mem _ hx)
    refine ⟨by rw [PyData.canLayAll0, hd.lay, a]; rfl, ?_, by simp [PyData.intsShortAll, hd.isn, c], ?_, by simp [PyData.showableAll, hd.sh, f], by simp [PyData.hasDictAll, hd.nd, g], by simp [okTs, hd.ok, k]⟩
    · rw [PyData.depthAll]
      exact Nat.max_le.mpr ⟨hd.dep, b⟩
    · rw [PyData.weightAll, List.length_cons, Nat.succ_mul]
      have := hd.wt
      omega
theorem fit_tup {W D : Nat} {ds : List PyData} (h : ∀ d ∈ ds, Fit W D d) : Fit (ds.length * (W + 1)) (D + 1) (.tuple ds) := by
  obtain ⟨a, b, c, e, f, g, k⟩ := fit_all h
  refine ⟨a, ?_, by simpa only [PyData.intsShort] using c, by simpa only [PyData.weight] using e, by simpa only [PyData.showable] using f, by simpa only [PyData.hasDict] using g, by rw [okT]; exact k⟩
  simp only [PyData.depth]
  omega
theorem fit_lst {W D : Nat} {ds : List PyData} (h : ∀ d ∈ ds, Fit W D d) : Fit (ds.length * (W + 1)) (D + 1) (.list ds) := by
  obtain ⟨a, b, c, e, f, g, k⟩ := fit_all h
  refine ⟨a, ?_, by simpa only [PyData.intsShort] using c, by simpa only [PyData.weight] using e, by simpa only [PyData.showable] using f, by simpa only [PyData.hasDict] using g, by rw [okT]; exact k⟩
  simp only [PyData.depth]
  omega
theorem fit_shown {W D : Nat} {d : PyData} (h : Fit W D d) (hw : W ≤ 100000) : d.shown.length ≤ sizeLine := by
  have := PyData.shown_le 40 (by decide) d (PyData.leavesShort_of_canLay0 40 d h.lay h.isn)
  have h1 := h.wt
  rw [sizeLine_eq]
  have : (40 + 2) * d.weight ≤ 42 * 100000 := Nat.mul_le_mul (Nat.le_refl _) (by omega)
  omega
theorem fit_word {z : Str} {L : Str} (h : wordIn L z = true) (hL : ∀ c ∈ L.cps.toList, c < 0x110000) : Fit 8 0 (.str z) := by
  unfold wordIn at h
  rw [Bool.and_eq_true, Bool.and_eq_true] at h
  have l8 : z.length ≤ 8 := of_decide_eq_true h.2.1
  refine ⟨?_, by simp [PyData.depth], by simp [PyData.intsShort], ?_, by simp [PyData.showable], by simp [PyData.hasDict], ?_⟩
  · show PyData.strOk z = true
    unfold PyData.strOk
    rw [Array.all_eq_true']
    intro c hc
    have h2 := h.2.2
    rw [List.all_eq_true] at h2
    exact decide_eq_true (hL c (of_decide_eq_true (h2 c (by simpa using hc))))
  · simp only [PyData.weight]
    exact l8
  · simp [okT]
    omega
theorem uc_lt : ∀ c ∈ Uc.cps.toList, c < 0x110000 := by decide +kernel
theorem lc_lt : ∀ c ∈ Lc.cps.toList, c < 0x110000 := by decide +kernel
/-- how heavy a drawn term of a depth may be -/
def wB : Nat → Nat
  | 0 => 8
  | n + 1 => 4 * (wB n + 1)
theorem wB_mono (n : Nat) : wB n ≤ wB (n + 1) := by
  rw [wB]
  omega
theorem wB_8 : ∀ n, 8 ≤ wB n
  | 0 => Nat.le_refl _
  | n + 1 => Nat.le_trans (wB_8 n) (wB_mono n)
def txD (zs : List Str) : PyData := .list (zs.map .str)
def spTerm (K : PySem.W.Frag) (n : Nat) : Sp := fun vs H Q _ => ∃ p vp la ps zs x y, ∃ deep : Nat, vs = [.ref p, vp, .int (deep : Int), .ref la] ∧ H p = some (feedO x y) ∧ Dp K (L2.del H p) vp (psD ps) ∧ Good ps ∧ L2.del H p la = some (.lst (zs.map V.str)) ∧ zs ≠ [] ∧ zs.length < 1000 ∧ (∀ z ∈ zs, wordIn Uc z = true) ∧ deep < n ∧
  ∀ v d x' y' H', SameX p H H' → H' p = some (feedO x' y') → Dp K (L2.del H' p) v d → isTerm ps d = true → Fit (wB deep) deep d → Q v H'
end Sg

set_option maxRecDepth 100000
set_option maxHeartbeats 4000000
namespace Sg
open PySem PySem.Spec PyProof.Rows L2 Dr Gd Er Cm Ow XT
theorem tx_dpAll {K : PySem.W.Frag} {H : Hp} : ∀ zs : List Str, DpAll K H (zs.map V.str) (zs.map .str)
  | [] => .nil
  | z :: zs => .cons (.str z) (tx_dpAll zs)
theorem tx_vs {K : PySem.W.Frag} {H : Hp} {v : V} {zs : List Str} (h : Dp K H v (txD zs)) : ∃ a, v = .ref a ∧ SqL K H a (zs.map V.str) := by
  cases h with
  | lst g1 g2 =>
    rename_i a xs
    exact ⟨a, rfl, by rw [← nm_vs g2]; exact g1⟩
theorem wordU_ok {z : Str} (h : wordIn Uc z = true) : PyData.strOk z = true := (fit_word h uc_lt).lay
theorem wordL_ok {z : Str} (h : wordIn Lc z = true) : PyData.strOk z = true := (fit_word h lc_lt).lay
theorem lcT {H : Hp} {A B : Hp → Prop} (h : A H) : (fun b H3 => if b = true then A H3 else B H3) true H := by
  show (if true = true then A H else B H)
  rw [if_pos rfl]
  exact h
mutual
theorem term_updL {K : PySem.W.Frag} {H : Hp} {l : Addr} {us : List V} {o : HO} (ps : List (Str × Int)) (hl : H l = some (.lst us)) : ∀ (d : PyData) (v : V), isTerm ps d = true → Dp K H v d → Dp K (L2.upd H l o) v d
  | .str z, v, _, h => by cases h; exact .str z
  | .tuple [], v, ht, _ => by rw [isTerm] at ht; cases ht
  | .tuple (e :: r), v, ht, h => by
    rw [isTerm, Bool.and_eq_true] at ht
    cases h with
    | tup g1 g2 =>
      cases g2 with
      | cons he hr =>
        refine .tup (seqT_updL hl g1) (.cons ?_ (terms_updL ps hl r _ ht.2 hr))
        have h1 := ht.1
        cases he with
        | str z => exact .str z
        | non => cases h1
        | bl _ => cases h1
        | int _ => cases h1
        | lst _ _ => cases h1
        | tup _ _ => cases h1
  | .none, v, ht, _ => by rw [isTerm] at ht; cases ht
  | .bool _, v, ht, _ => by rw [isTerm] at ht; cases ht
  | .int _, v, ht, _ => by rw [isTerm] at ht; cases ht
  | .list _, v, ht, _ => by rw [isTerm] at ht; cases ht
  | .dict _, v, ht, _ => by rw [isTerm] at ht; cases ht
theorem terms_updL {K : PySem.W.Frag} {H : Hp} {l : Addr} {us : List V} {o : HO} (ps : List (Str × Int)) (hl : H l = some (.lst us)) : ∀ (ds : List PyData) (vs : List V), allTerm ps ds = true → DpAll K H vs ds → DpAll K (L2.upd H l o) vs ds
  | [], _, _, h => by cases h; exact .nil
  | d :: ds, _, ht, h => by
    rw [allTerm, Bool.and_eq_true] at ht
    cases h with
    | cons a b => exact .cons (term_updL ps hl d _ ht.1 a) (terms_updL ps hl ds _ ht.2 b)
end
section
variable {P : Program} {w : World} {K : PySem.W.Frag} {mg : Str → Option Value} {base : Heap} {fT fP : Addr} {dT dP : FuncData}
theorem scTm : FnScope ["feed", "pairs", "deep", "letters", "some", "name", "arity", "under", "pair", "at"] ["feed", "pairs", "deep", "letters"] (defScope sTerm) := ⟨rfl, rfl, rfl, by decide +kernel, rfl, by decide +kernel, by decide +kernel⟩
theorem ok_term {f : Addr} {fd : FuncData} (F : Fun K "_law_term" "_law_term" sTerm f fd) (g : mg "_law_term" = some (.ref f)) (GT : Cal P w K mg base CX0 1 "_law_take" fT dT ["feed", "many"] spTake) (GP : Cal P w K mg base CX0 2 "_law_pick" fP dP ["feed", "some"] (spPick K))
    (hmx : mg "max" = none) (htu : mg "tuple" = none) (hrg : mg "range" = none) : ∀ n : Nat, FnOk P w K mg base CX0 (n + 2) f fd ["feed", "pairs", "deep", "letters"] (spTerm K n)
  | 0 => ⟨fun vs H Q E h => (by obtain ⟨_, _, _, _, _, _, _, _, _, _, _, _, _, _, _, _, h, _⟩ := h; omega), fun _ _ _ _ _ _ _ _ _ _ _ _ _ h => (by obtain ⟨_, _, _, _, _, _, _, _, _, _, _, _, _, _, _, _, h, _⟩ := h; omega)⟩
  | n + 1 => by
    have IH := ok_term F g GT GP hmx htu hrg n
    have b : Binds K fd ["feed", "pairs", "deep", "letters"] [] := F.binds fun _ _ _ _ _ _ us hl => match us, hl with | [_, _, _, _], _ => rfl
    refine F.ok scTm (fun vs H Q E h => ?_) (fun cdv A outer s H vs Q E hr h => ?_)
    · obtain ⟨p, vp, la, ps, zs, x, y, deep, rfl, _⟩ := h
      rfl
    · obtain ⟨p, vp, la, ps, zs, x, y, deep, rfl, hp, hps, hg, hzs, zne, zln, zw, hdn, q⟩ := h
      have r1 : Room 1 (A.deeper (envOfC "_law_term" (defScope sTerm) s.heap.objs.size f cdv)) := hr.mono (by omega)
      have r2 : Room 2 (A.deeper (envOfC "_law_term" (defScope sTerm) s.heap.objs.size f cdv)) := hr.mono (by omega)
      refine ⟨_, pss_cons (ps_if (PW.pt (pw_and (pt_cmpR (op_neD hr.units) (pv 3) (pe_lst pa_nil) (nomark _)) (pw_and1 (PW.pt (pw_or (pt_cmpR op_eq (pv 2) pe_int (nomark _)) (pw_or1 (pt_cmpR op_eq (pe_call GT.ok r1 rfl GT.g GT.kp GT.b .nil pass0 (pa_cons (pv 0) (pa_cons pe_int pa_nil))) pe_int (nomark _))))))))
          (pss_one (ps_ret (pe_call GP.ok r2 rfl GP.g GP.kp GP.b .nil pass0 (pa_cons (pv 0) (pa_cons (pv 3) pa_nil))))) pss_nil)
        (pss_cons (ps_setLc (i := 4) (own := [("pair", 8)]) (g := gName 8) (tt := tOr (tTest (tOp rEq (tOp (rIxT K) (tVar 8) (tC (.int 1))) (tC (.int 0)))) (tTest (tOp (rI0 fun i j => .bl (decide (j < i))) (tVar 2) (tC (.int 0))))) (te := tVar 8) (by rfl) scTm.nd rfl rfl (sw_true rfl rfl rfl (by decide +kernel)) (pi_list (pv 1))
            (blkOk_by (N := ["feed", "pairs", "deep", "letters", "some", "name", "arity", "under", "pair", "at"]) (sc := defScope sTerm) (by decide +kernel)) (fun _ _ _ _ _ => pg_name (i := 8) scTm.nd rfl (Or.inl rfl))
            (fun _ _ _ _ _ => pts_one (PW.pt (pw_or (pt_cmpR op_eq (pe_ix ix_tup (pv 8) pe_int fun _ _ => rfl) pe_int (nomark _)) (pw_or1 (pt_cmpR op_gt (pv 2) pe_int (nomark _)))))) (fun _ _ _ _ _ => pv 8))
        (pss_cons (ps_if (pt_cmpR (op_eqD hr.units) (pv 4) (pe_lst pa_nil) (nomark _)) (pss_one (ps_ret pe_str)) pss_nil)
        (pss_cons (ps_asg (pe_call GP.ok r2 rfl GP.g GP.kp GP.b .nil pass0 (pa_cons (pv 0) (pa_cons (pv 4) pa_nil))) (pg_tup rfl (pgs_cons (pg_name (i := 5) scTm.nd rfl (Or.inl rfl)) (pgs_cons (pg_name (i := 6) scTm.nd rfl (Or.inl rfl)) pgs_nil))))
        (pss_cons (ps_set (i := 7) scTm.nd rfl (Or.inr rfl) (pe_ifExp (pt_cmpR op_eq (pv 6) pe_int (nomark _)) (pe_callB (call_max2 rfl) (by rfl) hmx boot_max (pa_cons pe_int (pa_cons (pe_op op_sub (pv 2) pe_int) pa_nil))) (pe_op op_sub (pv 2) pe_int)))
        (pss_one (ps_ret (pe_op op_catA (pe_tup (pa_cons (pv 5) pa_nil)) (pe_callTy call_tuple_of (by rfl) htu (by decide +kernel) (pa_cons (pe_lc (own := [("at", 9)]) (g := gName 9) (tt := tYes) (te := tCall (spTerm K n) [] E0 (tCons (tVar 0) (tCons (tVar 1) (tCons (tVar 7) (tCons (tVar 3) tNil))))) rfl scTm.nd (pi_range1 (by rfl) hrg (pa_cons (pv 6) pa_nil))
            (blkOk_by (N := ["feed", "pairs", "deep", "letters", "some", "name", "arity", "under", "pair", "at"]) (sc := defScope sTerm) (by decide +kernel)) (fun _ _ _ _ _ => pg_name (i := 9) scTm.nd rfl (Or.inl rfl)) (fun _ _ _ _ _ => pts_nil)
            (fun _ _ _ _ _ => pe_call IH hr rfl g F.kp b .nil pass0 (pa_cons (pv 0) (pa_cons (pv 1) (pa_cons (pv 7) (pa_cons (pv 3) pa_nil)))))) pa_nil))))))))), ?_⟩
      have hlap : la ≠ p := fun z => by rw [z, del_same] at hzs; cases hzs
      have hla : H la = some (.lst (zs.map V.str)) := by rw [del_ne hlap] at hzs; exact hzs
      have zok : ∀ e ∈ zs.map PyData.str, e.canLay0 = true ∧ e.depth ≤ 62 := fun e he => by
        obtain ⟨z, hz, rfl⟩ := List.mem_map.mp he
        exact ⟨wordU_ok (zw z hz), by simp [PyData.depth]⟩
      have sdp : ∀ {H : Hp}, Same (L2.del H p) H := fun b o e => by
        by_cases hb : b = p
        · subst hb; rw [del_same] at e; cases e
        · rw [del_ne hb] at e; exact e
      refine ⟨_, rfl, Nat.zero_le _, fun l0 hl0 => ?_⟩
      have s0 := same_upd (o := .lst []) hl0
      refine ⟨txD zs, .list [], .lst (SqL.of (s0 _ _ hla)) (tx_dpAll zs), .lst (SqL.of upd_same) .nil, shaped_list zok, shaped_nil, _, rfl, ?_⟩
      have e0 : PyData.eqv (txD zs) (.list []) = false := by
        show PyData.eqvAll _ [] = _
        rw [eqv_nil]
        cases zs with
        | nil => exact absurd rfl zne
        | cons _ _ => rfl
      rw [e0]
      refine iteT ?_
      generalize (L2.upd H l0 (.lst [])) = H1 at s0 ⊢
      refine ⟨_, rfl, rfl, _, rfl, ?_⟩
      refine ite2 (fun c0 => ?_) (fun c0 => ?_)
      · refine iteT ?_
        refine ⟨_, rfl, _, rfl, p, _, _, (s0 _ _ hp), .inl ⟨la, zs.map V.str, rfl, SqL.of (s0 _ _ hla), hlap, by rw [List.length_map]; exact List.length_pos_iff.mpr zne, by rw [List.length_map]; omega, fun v x' y' hv => ?_⟩⟩
        obtain ⟨z, hz, rfl⟩ := List.mem_map.mp hv
        refine q _ (.str z) x' y' _ (SameX.upd (Same.x s0)) upd_same (.str z) (by rw [isTerm]; exact zw z hz) ((fit_word (zw z hz) uc_lt).mono (wB_8 _) (Nat.zero_le _))
      · have c0 : deep ≠ 0 := fun z => c0 (decide_eq_true (by rw [z]; rfl))
        refine ⟨_, rfl, p, x, y, 3, rfl, s0 _ _ hp, by decide, by decide, fun r x1 y1 hr0 hr1 => ?_⟩
        have sx : SameX p H (L2.upd H1 p (feedO x1 y1)) := (Same.x s0).upd
        have f2 : (L2.upd H1 p (feedO x1 y1)) p = some (feedO x1 y1) := upd_same
        have hla2 : (L2.upd H1 p (feedO x1 y1)) la = some (.lst (zs.map V.str)) := by rw [upd_ne hlap]; exact s0 _ _ hla
        generalize (L2.upd H1 p (feedO x1 y1)) = H2 at sx f2 hla2 ⊢
        refine ⟨rfl, _, rfl, ?_⟩
        refine ite2 (fun c1 => ?_) (fun c1 => ?_)
        · refine ⟨_, rfl, _, rfl, p, _, _, f2, .inl ⟨la, zs.map V.str, rfl, SqL.of hla2, hlap, by rw [List.length_map]; exact List.length_pos_iff.mpr zne, by rw [List.length_map]; omega, fun v x' y' hv => ?_⟩⟩
          obtain ⟨z, hz, rfl⟩ := List.mem_map.mp hv
          refine q _ (.str z) x' y' _ (SameX.upd sx) upd_same (.str z) (by rw [isTerm]; exact zw z hz) ((fit_word (zw z hz) uc_lt).mono (wB_8 _) (Nat.zero_le _))
        · have hps2 := dp_same (SameX.del sx) _ _ hps
          cases hps2 with
          | lst p1 p2 =>
            rename_i a2 xs
            have p2 : DpAll K (L2.del H2 p) xs (prD ps) := p2
            have xl : xs.length = ps.length := (dpAll_len p2).trans (List.length_map ..)
            have pl4 : ps.length ≤ 4 := hg.2.1
            have big : (1000 : Nat) ≤ sizeLine := by decide
            refine ⟨_, rfl, a2, rfl, ⟨_, Same.seq sdp p1⟩, fun D hD => ?_⟩
            refine lc_it (walk_list (xs := xs)) (fun i H' => Same H2 H' ∧ H' D = some (.lst (xs.take i))) ⟨same_upd hD, upd_same⟩ (fun i H' hi hp' => Same.seq hp'.1 (Same.seq sdp p1)) (fun i yv H3 H' hi hp' hy => ?_) (fun H3 hp' => ?_)
            · obtain ⟨sm, hDl⟩ := hp'
              obtain ⟨rfl, ey⟩ := hy
              obtain ⟨z, m, t, ep, rfl, ht⟩ := pr_at p2 ey
              have ht := seqT_same (Same.trans sdp sm) ht
              have fin : ∃ acc, H' D = some (.lst acc) ∧ acc.length < sizeLine ∧ (Same H2 (L2.upd H' D (.lst (acc ++ [.ref t]))) ∧ (L2.upd H' D (.lst (acc ++ [.ref t]))) D = some (.lst (xs.take (i + 1)))) := by
                refine ⟨_, hDl, by rw [List.length_take]; omega, fun b o e => ?_, ?_⟩
                · rw [upd_ne (ne_of_none e hD)]
                  exact sm b o e
                · rw [upd_same, List.take_succ, ey]
                  rfl
              refine ⟨rfl, _, rfl, t, _, 1, .int m, rfl, rfl, ht, rfl, rfl, _, rfl, ?_⟩
              refine ite2 (fun h => ?_) (fun h => ?_)
              · show (if true = true then _ else _)
                rw [if_pos rfl]
                exact ⟨_, rfl, fin⟩
              · refine ⟨_, rfl, _, _, rfl, rfl, _, rfl, ?_⟩
                rw [decide_eq_true (show (0 : Int) < (deep : Int) by omega)]
                show (if true = true then _ else _)
                rw [if_pos rfl]
                exact ⟨_, rfl, fin⟩
            · obtain ⟨sm3, hD3⟩ := hp'
              rw [List.take_length] at hD3
              have hDp : D ≠ p := fun z => by rw [z, f2] at hD; cases hD
              have sx3 : SameX p H H3 := sx.trans (Same.x sm3)
              have f3 := sm3 _ _ f2
              have hla3 := sm3 _ _ hla2
              have d3 : DpAll K (L2.del H3 p) xs (prD ps) := dpAll_same (SameX.del (Same.x sm3)) _ _ p2
              have q3 : Dp K (L2.del H3 p) (.ref a2) (psD ps) := .lst (Same.seq (SameX.del (Same.x sm3)) p1) d3
              refine ⟨_, rfl, Nat.zero_le _, fun l4 hl4 => ?_⟩
              have s4 := same_upd (o := .lst []) hl4
              refine ⟨psD ps, .list [], .lst (SqL.of (s4 _ _ hD3)) (dpAll_same (Same.trans sdp s4) _ _ d3), .lst (SqL.of upd_same) .nil, psD_shaped (fun q hq => wordL_ok (hg.2.2.2.1 q hq).1), shaped_nil, _, rfl, ?_⟩
              have e1 : PyData.eqv (psD ps) (.list []) = false := by
                show PyData.eqvAll _ [] = _
                rw [eqv_nil]
                cases ps with
                | nil => exact absurd hg.1 (by simp)
                | cons _ _ => rfl
              rw [e1]
              refine iteF ?_
              have sx4 : SameX p H (L2.upd H3 l4 (.lst [])) := sx3.trans (Same.x s4)
              have f4 := s4 _ _ f3
              have hla4 := s4 _ _ hla3
              have hD4 := s4 _ _ hD3
              have d4 : DpAll K (L2.del (L2.upd H3 l4 (.lst [])) p) xs (prD ps) := dpAll_same (SameX.del (Same.x s4)) _ _ d3
              have q4 := dp_same (SameX.del (Same.x s4)) _ _ q3
              generalize (L2.upd H3 l4 (.lst [])) = H4 at sx4 f4 hla4 hD4 d4 q4 ⊢
              refine ⟨_, rfl, _, rfl, p, _, _, f4, .inl ⟨D, xs, rfl, SqL.of hD4, hDp, by rw [xl]; exact hg.1, by omega, fun v x5 y5 hv => ?_⟩⟩
              have d5 : DpAll K (L2.del (L2.upd H4 p (feedO x5 y5)) p) xs (prD ps) := by rw [del_upd]; exact d4
              have sx5 : SameX p H (L2.upd H4 p (feedO x5 y5)) := sx4.upd
              have f5 : (L2.upd H4 p (feedO x5 y5)) p = some (feedO x5 y5) := upd_same
              have hla5 : L2.del (L2.upd H4 p (feedO x5 y5)) p la = some (.lst (zs.map V.str)) := by rw [del_upd, del_ne hlap]; exact hla4
              have q5 : Dp K (L2.del (L2.upd H4 p (feedO x5 y5)) p) (.ref a2) (psD ps) := by rw [del_upd]; exact q4
              generalize (L2.upd H4 p (feedO x5 y5)) = H5 at d5 sx5 f5 hla5 q5 ⊢
              obtain ⟨dz, hdz, hvd⟩ := dpAll_mem d5 hv
              obtain ⟨pz, hpz, rfl⟩ := List.mem_map.mp hdz
              obtain ⟨hwz, hm0, hm3⟩ := hg.2.2.2.1 pz hpz
              cases hvd with
              | tup v1 v2 =>
                rename_i tv xv
                cases v2 with
                | cons w1 v2 =>
                  cases v2 with
                  | cons w2 v2 =>
                    cases v2
                    cases w1
                    cases w2
                    refine ⟨tv, _, rfl, seqT_same sdp v1, rfl, ?_⟩
                    refine ⟨_, _, rfl, _, _, rfl, rfl, ?_⟩
                    obtain ⟨u, hu, eu⟩ : ∃ u : Nat, u + 1 ≤ deep ∧ (if (decide (V.int pz.2 = V.int 3)) = true then (if ((deep : Int) - 2) > 0 then ((deep : Int) - 2) else 0) else (deep : Int) - 1) = (u : Int) := by
                      by_cases h3 : pz.2 = 3
                      · rw [if_pos (decide_eq_true (by rw [h3]))]
                        by_cases h4 : ((deep : Int) - 2) > 0
                        · exact ⟨deep - 2, by omega, by rw [if_pos h4]; omega⟩
                        · exact ⟨0, by omega, by rw [if_neg h4]; rfl⟩
                      · rw [if_neg (by simp [h3])]
                        exact ⟨deep - 1, by omega, by omega⟩
                    have key : ∀ uu : Int, uu = (u : Int) → (tRet (tOp (rCatA K) (tTup (tCons (tVar 5) tNil)) (tCB (fun xs H Q => ∃ p ys, xs = [V.ref p] ∧ ((SqL K H p ys ∧ ∀ l, H l = none → Q (.ref l) (L2.upd H l (.tup ys))) ∨ (SqT K H p ys ∧ Q (.ref p) H))) (tCons (tLc (iRng1 (tCons (tVar 6) tNil)) (gName 9) tYes (tCall (spTerm K n) [] E0 (tCons (tVar 0) (tCons (tVar 1) (tCons (tVar 7) (tCons (tVar 3) tNil))))) [9]) tNil)))) { nx := fun x H' => Q V.non H', rt := Q }
                        [some (.ref p), some (.ref a2), some (.int (deep : Int)), some (.ref la), some (.ref D), some (.str pz.1), some (.int pz.2), some (.int uu), none, none] H5 := by
                      intro uu eq
                      subst eq
                      refine ⟨_, rfl, (by show 1 ≤ sizeLine; decide), fun t1 ht1 => ?_⟩
                      have s6 := same_upd (o := .tup [V.str pz.1]) ht1
                      have sx6 : SameX p H (L2.upd H5 t1 (.tup [V.str pz.1])) := sx5.trans (Same.x s6)
                      have f6 := s6 _ _ f5
                      have hla6 := SameX.del (Same.x s6) (p := p) _ _ hla5
                      have q6 := dp_same (SameX.del (p := p) (Same.x s6)) _ _ q5
                      have e6 : (L2.upd H5 t1 (.tup [V.str pz.1])) t1 = some (.tup [V.str pz.1]) := upd_same
                      generalize (L2.upd H5 t1 (.tup [V.str pz.1])) = H6 at sx6 f6 hla6 q6 e6 ⊢
                      refine ⟨_, rfl, pz.2, rfl, by omega, by omega, fun D5 hD5 => ?_⟩
                      have hD5p : D5 ≠ p := fun z => by rw [z, f6] at hD5; cases hD5
                      refine lc_it (walk_range (lo := 0) (n := pz.2.toNat)) (fun i H' => ∃ us ds aa bb, SameX p H6 H' ∧ H' p = some (feedO aa bb) ∧ H' D5 = some (.lst us) ∧ DpAll K (L2.del H' p) us ds ∧ ds.length = i ∧ allTerm ps ds = true ∧ ∀ d ∈ ds, Fit (wB u) u d)
                        ⟨[], [], _, _, fun b o e hb => by rw [upd_ne (ne_of_none e hD5)]; exact e, by rw [upd_ne hD5p.symm]; exact f6, upd_same, .nil, rfl, by simp [allTerm], by simp⟩ (fun _ _ _ _ => trivial) (fun i y7 H7 H' hi hp' hy => ?_) (fun H7 hp' => ?_)
                      · obtain ⟨us, ds, aa, bb, sx7, f7, hL7, d7, l7, t7, w7⟩ := hp'
                        obtain ⟨rfl, rfl⟩ := hy
                        refine ⟨rfl, lcYes ?_⟩
                        refine ⟨_, rfl, _, rfl, _, rfl, _, rfl, p, .ref a2, la, ps, zs, aa, bb, u, rfl, f7, dp_same (SameX.del sx7) _ _ q6, hg, SameX.del sx7 _ _ hla6, zne, zln, zw, by omega, fun v8 d8 x8 y8 H8 sx8 f8 hv8 ht8 fit8 => ?_⟩
                        have hL8 := sx8 _ _ hL7 hD5p
                        have ul : us.length < 1000 := by
                          have := dpAll_len d7
                          omega
                        refine ⟨us, hL8, by omega, us ++ [v8], ds ++ [d8], x8, y8, ?_, ?_, upd_same, ?_, ?_, ?_, ?_⟩
                        · exact fun b o e hb => by
                            rw [upd_ne (ne_of_none e hD5)]
                            exact sx8 _ _ (sx7 b o e hb) hb
                        · rw [upd_ne hD5p.symm]
                          exact f8
                        · have hl9 : L2.del H8 p D5 = some (.lst us) := by rw [del_ne hD5p]; exact hL8
                          have e9 : L2.del (L2.upd H8 D5 (.lst (us ++ [v8]))) p = L2.upd (L2.del H8 p) D5 (.lst (us ++ [v8])) := by
                            funext b
                            by_cases hb : b = p
                            · subst hb; rw [del_same, upd_ne hD5p.symm, del_same]
                            · rw [del_ne hb]
                              by_cases hbl : b = D5
                              · subst hbl; rw [upd_same, upd_same]
                              · rw [upd_ne hbl, upd_ne hbl, del_ne hb]
                          rw [e9]
                          exact dpAll_app (terms_updL ps hl9 ds _ t7 (dpAll_same (SameX.del sx8) _ _ d7)) (.cons (term_updL ps hl9 d8 _ ht8 hv8) .nil)
                        · rw [List.length_append, l7]; rfl
                        · rw [allTerm_app, t7, Bool.true_and]
                          simp [allTerm, ht8]
                        · intro d hd
                          rcases List.mem_append.mp hd with hd | hd
                          · exact w7 d hd
                          · rw [List.mem_singleton.mp hd]
                            exact fit8
                      · obtain ⟨us, ds, aa, bb, sx7, f7, hL7, d7, l7, t7, w7⟩ := hp'
                        have ul : us.length = ds.length := dpAll_len d7
                        have har : arOf ps pz.1 = some pz.2 := by
                          obtain ⟨k, hk, e⟩ := List.getElem_of_mem hpz
                          exact arOf_at hg.2.2.1 (show ps[k]? = some (pz.1, pz.2) by rw [List.getElem?_eq_getElem hk, e])
                        have tt : isTerm ps (.tuple (.str pz.1 :: ds)) = true := by
                          rw [isTerm, t7, Bool.and_true]
                          unfold headOk
                          rw [show arD ps (.str pz.1) = arOf ps pz.1 from rfl, har]
                          exact decide_eq_true (by omega)
                        have ff : Fit (wB deep) deep (.tuple (.str pz.1 :: ds)) := by
                          have h := fit_tup (W := wB u) (D := u) (ds := .str pz.1 :: ds) (fun d hd => by
                            rcases List.mem_cons.mp hd with rfl | hd
                            · exact (fit_word hwz lc_lt).mono (wB_8 _) (Nat.zero_le _)
                            · exact w7 d hd)
                          obtain ⟨k, rfl⟩ : ∃ k, deep = u + 1 + k := ⟨deep - (u + 1), by omega⟩
                          refine h.mono ?_ (by omega)
                          have l4 : (PyData.str pz.1 :: ds).length ≤ 4 := by rw [List.length_cons]; omega
                          have m1 : (PyData.str pz.1 :: ds).length * (wB u + 1) ≤ wB (u + 1) := Nat.mul_le_mul l4 (Nat.le_refl _)
                          have m2 : ∀ k, wB (u + 1) ≤ wB (u + 1 + k) := fun k => by
                            induction k with
                            | zero => exact Nat.le_refl _
                            | succ k ih => exact Nat.le_trans ih (wB_mono _)
                          exact Nat.le_trans m1 (m2 k)
                        refine ⟨D5, us, rfl, .inl ⟨SqL.of hL7, fun t9 ht9 => ?_⟩⟩
                        have s9 := same_upd (o := .tup us) ht9
                        have t1p : t1 ≠ p := fun z => by rw [z, f6] at e6; cases e6
                        have e7 := sx7 _ _ e6 t1p
                        have sxx : SameX p H (L2.upd H7 t9 (.tup us)) := fun b o e hb => s9 _ _ (sx7 _ _ (sx6 b o e hb) hb)
                        have f9 := s9 _ _ f7
                        have d9 : DpAll K (L2.del (L2.upd H7 t9 (.tup us)) p) us ds := dpAll_same (SameX.del (Same.x s9)) _ _ d7
                        have t9p : t9 ≠ p := fun z => by rw [z, f7] at ht9; cases ht9
                        refine ⟨t1, t9, [V.str pz.1], us, rfl, rfl, SqT.of (s9 _ _ e7), SqT.of upd_same, ?_, fun z => (by cases z), fun _ hus => ?_, fun _ hus p9 hp9 => ?_⟩
                        · have : us.length ≤ 3 := by omega
                          have : (1 : Nat) + us.length ≤ sizeLine := by omega
                          exact this
                        · subst hus
                          have : ds = [] := by cases d9; rfl
                          subst this
                          refine q _ _ aa bb _ sxx f9 (.tup (SqT.of ?_) (.cons (.str _) .nil)) tt ff
                          rw [del_ne t1p]
                          exact s9 _ _ e7
                        · have s10 := same_upd (o := .tup ([V.str pz.1] ++ us)) hp9
                          have p9p : p9 ≠ p := fun z => by rw [z, f9] at hp9; cases hp9
                          refine q _ _ aa bb _ (sxx.trans (Same.x s10)) (s10 _ _ f9) (.tup (SqT.of ?_) (.cons (.str _) (dpAll_same (SameX.del (Same.x s10)) _ _ d9))) tt ff
                          rw [del_ne p9p, upd_same]
                          rfl
                    refine ⟨_, rfl, rfl, _, rfl, ?_⟩
                    refine ite2 (fun h3 => ?_) (fun h3 => ?_)
                    · rw [if_pos h3] at eu
                      exact ⟨_, rfl, _, _, rfl, rfl, _, _, rfl, key _ eu⟩
                    · rw [if_neg h3] at eu
                      exact ⟨_, rfl, _, _, rfl, rfl, key _ eu⟩
end
end Sg

set_option maxRecDepth 100000
set_option maxHeartbeats 4000000
/-! tuple * n, n at most one -/
namespace TM
open PySem PySem.Spec PyProof.Rows L2
theorem mul1 (l : Addr) (items : Array Value) (n : Nat) (dd : Option Addr) (sl : Array (Option Value)) (u : Tok) :
    Meets (Builtin.«tuple.__mul__» ⟨[.ref l, .int 1 u], []⟩) (fun _ R s => s.heap.get? l = some { cls := .type "tuple", dict := dd, data := .seq items n, slots := sl } ∧ R (.ok (.ret (Value.ref l))) s) :=
  .of_wp fun prog w A R s h => by
    obtain ⟨hp, g, d, tk, os⟩ := s
    obtain ⟨hl, h⟩ := h
    have f1 := AutoSeq1.idx_int
    wp_walk using wpAny_loadPart' hl
    repeat (first
      | (refine wpAny_ite_false (by decide) ?_; wp_walk using wpAny_loadPart' hl)
      | (refine wpAny_ite_true (by simp) ?_; wp_walk using wpAny_loadPart' hl))
    exact ⟨_, rfl, h⟩
theorem mul0 (l : Addr) (items : Array Value) (n : Nat) (dd : Option Addr) (sl : Array (Option Value)) (u : Tok) (hne : items.isEmpty = false) :
    Meets (Builtin.«tuple.__mul__» ⟨[.ref l, .int 0 u], []⟩) (fun _ R s => s.heap.get? l = some { cls := .type "tuple", dict := dd, data := .seq items n, slots := sl } ∧
      R (.ok (.ret (Value.ref s.heap.objs.size))) { s with heap := s.heap.push { cls := Value.type "tuple", data := Data.seq #[] }, toks := s.toks }) :=
  .of_wp fun prog w A R s h => by
    obtain ⟨hp, g, d, tk, os⟩ := s
    obtain ⟨hl, h⟩ := h
    have f1 := AutoSeq1.idx_int
    wp_walk using wpAny_loadPart' hl
    repeat (first
      | (refine wpAny_ite_false (by simp [hne]) ?_; wp_walk using wpAny_loadPart' hl)
      | (refine wpAny_ite_true (by simp [hne]) ?_; wp_walk using wpAny_loadPart' hl))
    exact ⟨_, rfl, h⟩
/-- tuple * n: the tuple itself for 1, a new empty one for 0, else put together -/
def rRepA (K : PySem.W.Frag) : R2 := fun x y H Q => ∃ l k xs, x = .ref l ∧ y = .int k ∧ SqT K H l xs ∧ xs ≠ [] ∧ xs.length ≤ 1000 ∧ 0 ≤ k ∧ k ≤ 1000 ∧ (k = 1 → Q (.ref l) H) ∧ (k ≠ 1 → ∀ p, H p = none → Q (.ref p) (upd H p (.tup (List.replicate k.toNat xs).flatten)))
theorem op_repA {X : Cx} : OpR X (binaryOp .Mult) (rRepA X.K) := by
  intro pins s σ H x y v u Q I rx ry h
  obtain ⟨l, k, xs, rfl, rfl, hT, hne, hz, h0, h1, q1, q2⟩ := h
  rcases (show k = 1 ∨ k = 0 ∨ 2 ≤ k by omega) with rfl | rfl | h2
  · cases rx
    obtain ⟨t, rfl⟩ := ry
    obtain ⟨its, r, ⟨⟨cls, dd, data, sl⟩, ho, hc, n, hd⟩, hs⟩ := I.tuple hT
    simp only at hc hd
    subst hc hd
    refine wpAny_binaryOp_repeat_ref (T := "tuple") (U := "int") (by decide) ⟨_, ho, rfl⟩ (fun s' => typeIs_int s' 1 t) noFill_tuple_mul PySem.F.fills_int_mul PySem.F.slot_int_rmul repeat_tuple PySem.F.slot_int_index.lookup
      (call_meets PySem.F.slot_int_rmul (typeIs_int s 1 t) PySem.F.entry_int_rmul (PySem.F.args_int_rmul_2 _ _) (int_rmul_tuple 1 t l its.toArray n dd sl)
        ⟨ho, rfl, ⟨_, ho, rfl⟩, call_meets PySem.F.slot_tuple_mul ⟨_, ho, rfl⟩ PySem.F.entry_tuple_mul (PySem.F.args_tuple_mul_2 _ _) (mul1 l its.toArray n dd sl t) ⟨ho, ?_⟩⟩)
    exact ⟨.ref l, H, I, rfl, q1 rfl⟩
  · cases rx
    obtain ⟨t, rfl⟩ := ry
    obtain ⟨its, r, ⟨⟨cls, dd, data, sl⟩, ho, hc, n, hd⟩, hs⟩ := I.tuple hT
    simp only at hc hd
    subst hc hd
    have hi : its.toArray.isEmpty = false := by
      cases its with
      | nil => cases r; exact absurd rfl hne
      | cons a b => rfl
    refine wpAny_binaryOp_repeat_ref (T := "tuple") (U := "int") (by decide) ⟨_, ho, rfl⟩ (fun s' => typeIs_int s' 0 t) noFill_tuple_mul PySem.F.fills_int_mul PySem.F.slot_int_rmul repeat_tuple PySem.F.slot_int_index.lookup
      (call_meets PySem.F.slot_int_rmul (typeIs_int s 0 t) PySem.F.entry_int_rmul (PySem.F.args_int_rmul_2 _ _) (int_rmul_tuple 0 t l its.toArray n dd sl)
        ⟨ho, rfl, ⟨_, ho, rfl⟩, call_meets PySem.F.slot_tuple_mul ⟨_, ho, rfl⟩ PySem.F.entry_tuple_mul (PySem.F.args_tuple_mul_2 _ _) (mul0 l its.toArray n dd sl t hi) ⟨ho, ?_⟩⟩)
    refine ⟨.ref s.heap.objs.size, _, I.laid (t' := s.toks) (o := .tup []) (fun b ob q => Heap.get?_push_of_some _ q) (Nat.le_refl _) ?_, rfl, q2 (by decide) _ (I.hok.fresh (Nat.le_refl _))⟩
    exact ⟨Nat.zero_le _, [], .nil, IsTup.new _ _⟩
  · exact op_repT pins s σ H _ _ v u Q I rx ry ⟨l, k, xs, rfl, rfl, hT, hne, h2, h1, hz, q2 (by omega)⟩
end TM

set_option maxRecDepth 100000
set_option maxHeartbeats 4000000
/-! expressions that put data together: what they give, over the data that slots hold -/
namespace Sg
open PySem PySem.Spec PyProof.Rows L2 Dr Gd Er Cm Ow XT TM
/-- what the slots S hold, as data; C: what is known of it -/
def EnvD (K : PySem.W.Frag) (H0 : Hp) (S : List Nat) (ρ : Nat → PyData) (σ : L2.St) (H : Hp) : Prop := Same H0 H ∧ ∀ n ∈ S, ∃ v, σ[n]? = some (some v) ∧ Dp K (nw H0 H) v (ρ n)
theorem EnvD.mono {K : PySem.W.Frag} {H0 H H' : Hp} {S : List Nat} {ρ : Nat → PyData} {σ : L2.St} (h : EnvD K H0 S ρ σ H) (s : Same H H') : EnvD K H0 S ρ σ H' :=
  ⟨Same.trans h.1 s, fun q hq => let ⟨v, a, b⟩ := h.2 q hq; ⟨v, a, dp_same (nw_l s) _ _ b⟩⟩
def tE (K : PySem.W.Frag) (H0 : Hp) (S : List Nat) (C : (Nat → PyData) → Prop) (d : (Nat → PyData) → PyData) : TE := fun σ H Q => ∃ ρ, C ρ ∧ EnvD K H0 S ρ σ H ∧ ∀ v H', Same H H' → Dp K (nw H0 H') v (d ρ) → Q v H'
def tEs (K : PySem.W.Frag) (H0 : Hp) (S : List Nat) (C : (Nat → PyData) → Prop) (ds : (Nat → PyData) → List PyData) : TA := fun σ H Q => ∃ ρ, C ρ ∧ EnvD K H0 S ρ σ H ∧ ∀ vs H', Same H H' → DpAll K (nw H0 H') vs (ds ρ) → Q vs H'
/-- a new list, as it stands -/
def tER (K : PySem.W.Frag) (H0 : Hp) (S : List Nat) (C : (Nat → PyData) → Prop) (ds : (Nat → PyData) → List PyData) : TE := fun σ H Q => ∃ ρ, C ρ ∧ EnvD K H0 S ρ σ H ∧ ∀ l vs H', Same H H' → H l = none → H' l = some (.lst vs) → DpAll K (nw H0 H') vs (ds ρ) → Q (.ref l) H'
theorem rep_flat {K : PySem.W.Frag} {H : Hp} {vs : List V} {ds : List PyData} (h : DpAll K H vs ds) : ∀ n, DpAll K H (List.replicate n vs).flatten (List.replicate n ds).flatten
  | 0 => .nil
  | n + 1 => by
    rw [List.replicate_succ, List.replicate_succ, List.flatten_cons, List.flatten_cons]
    exact dpAll_app h (rep_flat h n)
theorem le1k {n : Nat} (h : n ≤ 1000) : n ≤ sizeLine := Nat.le_trans h (by decide)
theorem rep_len {α : Type} (xs : List α) : ∀ n, (List.replicate n xs).flatten.length = n * xs.length
  | 0 => by simp
  | n + 1 => by
    rw [List.replicate_succ, List.flatten_cons, List.length_append, rep_len xs n, Nat.succ_mul, Nat.add_comm]
section
variable {X : Cx} {H0 : Hp} {S : List Nat} {C : (Nat → PyData) → Prop} {e a b : Expr} {es : List Expr} {d : (Nat → PyData) → PyData} {ds fs : (Nat → PyData) → List PyData} {i j k : (Nat → PyData) → Int} {pos : Pos}
theorem pE_int {n : Int} {m : Nat} : PE X (.Constant (.int n) m pos) (tE X.K H0 S C fun _ => .int n) := pe_imp (fun σ H Q ⟨_, _, _, h⟩ => h _ H (Same.refl H) (.int n)) pe_int
theorem pE_str {z : Str} {m : Nat} : PE X (.Constant (.str z) m pos) (tE X.K H0 S C fun _ => .str z) := pe_imp (fun σ H Q ⟨_, _, _, h⟩ => h _ H (Same.refl H) (.str z)) pe_str
theorem pE_bl {z : Bool} {m : Nat} : PE X (.Constant (.bool z) m pos) (tE X.K H0 S C fun _ => .bool z) := pe_imp (fun σ H Q ⟨_, _, _, h⟩ => h _ H (Same.refl H) (.bl z)) pe_bl
theorem pE_non {m : Nat} : PE X (.Constant .none m pos) (tE X.K H0 S C fun _ => .none) := pe_imp (fun σ H Q ⟨_, _, _, h⟩ => h _ H (Same.refl H) .non) pe_non
theorem pE_var (n : Nat) {x : Str} (hd : n ∈ S) (hN : X.N[n]? = some x := by rfl) (hv : Vis X.env.scope x := by first | exact Or.inl rfl | exact Or.inr (Or.inl rfl) | exact Or.inr (Or.inr rfl)) (hb : (x == ("__debug__" : Str)) = false := by decide)
    (hc : (x == ("__classdict__" : Str)) = false := by decide) : PE X (.Name x pos) (tE X.K H0 S C fun ρ => ρ n) :=
  pe_imp (fun σ H Q ⟨ρ, _, g, h⟩ => let ⟨v, a, b⟩ := g.2 _ hd; ⟨v, a, h v H (Same.refl H) b⟩) (pe_var hN hv hb hc)
/-- the same data, known by another name -/
theorem pE_as {d' : (Nat → PyData) → PyData} (h : PE X e (tE X.K H0 S C d)) (hd : ∀ ρ, C ρ → d ρ = d' ρ) : PE X e (tE X.K H0 S C d') :=
  pe_imp (fun σ H Q ⟨ρ, c, g, q⟩ => ⟨ρ, c, g, fun v H' s h => q v H' s (by rw [← hd ρ c]; exact h)⟩) h
theorem pE_nil : PA X [] (tEs X.K H0 S C fun _ => []) := pa_imp (fun σ H Q ⟨_, _, _, h⟩ => h _ H (Same.refl H) .nil) pa_nil
theorem pE_cons (he : PE X e (tE X.K H0 S C d)) (hr : PA X es (tEs X.K H0 S C ds)) (hs : starEach (e :: es) X.env = (false, eval e X.env) :: starEach es X.env := by rfl) : PA X (e :: es) (tEs X.K H0 S C fun ρ => d ρ :: ds ρ) :=
  pa_imp (fun σ H Q ⟨ρ, c, g, h⟩ => ⟨ρ, c, g, fun v H1 s1 h1 => ⟨ρ, c, g.mono s1, fun vs H2 s2 h2 => h _ H2 (Same.trans s1 s2) (.cons (dp_same (nw_l s2) _ _ h1) h2)⟩⟩) (pa_cons he hr hs)
theorem new0 {H H' : Hp} {σ : L2.St} {K : PySem.W.Frag} {ρ : Nat → PyData} {p : Addr} (h : EnvD K H0 S ρ σ H) (s : Same H H') (hp : H' p = none) : H0 p = none := Same.free (Same.trans h.1 s) hp
theorem pE_tup {x1 : Nat} (h : PA X es (tEs X.K H0 S C ds)) (hl : ∀ ρ, C ρ → (ds ρ).length ≤ 1000) : PE X (.Tuple es x1 pos) (tE X.K H0 S C fun ρ => .tuple (ds ρ)) :=
  pe_imp (fun σ H Q ⟨ρ, c, g, h⟩ => ⟨ρ, c, g, fun vs H1 s1 h1 => ⟨by rw [dpAll_len h1]; exact Nat.le_trans (hl ρ c) (by decide), fun p hp => h _ _ (Same.trans s1 (same_upd hp)) (.tup (SqT.of (nw_at (new0 g s1 hp) upd_same)) (dpAll_same (nw_l (same_upd hp)) _ _ h1))⟩⟩) (pe_tup h)
theorem pE_lstR (h : PA X es (tEs X.K H0 S C ds)) (hl : ∀ ρ, C ρ → (ds ρ).length ≤ 1000) : PE X (.List es pos) (tER X.K H0 S C ds) :=
  pe_imp (fun σ H Q ⟨ρ, c, g, h⟩ => ⟨ρ, c, g, fun vs H1 s1 h1 => ⟨by rw [dpAll_len h1]; exact Nat.le_trans (hl ρ c) (by decide), fun p hp => h p vs _ (Same.trans s1 (same_upd hp)) (Same.free s1 hp) upd_same (dpAll_same (nw_l (same_upd hp)) _ _ h1)⟩⟩) (pe_lst h)
theorem pE_raw (h : PE X e (tER X.K H0 S C ds)) : PE X e (tE X.K H0 S C fun ρ => .list (ds ρ)) :=
  pe_imp (fun σ H Q ⟨ρ, c, g, h⟩ => ⟨ρ, c, g, fun l vs H1 s1 hn h1 h2 => h _ H1 s1 (.lst (SqL.of (nw_at (Same.free g.1 hn) h1)) h2)⟩) h
theorem pE_add (ha : PE X a (tE X.K H0 S C fun ρ => .int (i ρ))) (hb : PE X b (tE X.K H0 S C fun ρ => .int (j ρ))) : PE X (.BinOp a .Add b pos) (tE X.K H0 S C fun ρ => .int (i ρ + j ρ)) :=
  pe_imp (fun σ H Q ⟨ρ, c, g, h⟩ => ⟨ρ, c, g, fun v H1 s1 h1 => ⟨ρ, c, g.mono s1, fun u H2 s2 h2 => by
    cases h1
    cases h2
    exact ⟨_, _, rfl, rfl, h _ H2 (Same.trans s1 s2) (.int _)⟩⟩⟩) (pe_op op_add ha hb)
theorem pE_sub (ha : PE X a (tE X.K H0 S C fun ρ => .int (i ρ))) (hb : PE X b (tE X.K H0 S C fun ρ => .int (j ρ))) : PE X (.BinOp a .Sub b pos) (tE X.K H0 S C fun ρ => .int (i ρ - j ρ)) :=
  pe_imp (fun σ H Q ⟨ρ, c, g, h⟩ => ⟨ρ, c, g, fun v H1 s1 h1 => ⟨ρ, c, g.mono s1, fun u H2 s2 h2 => by
    cases h1
    cases h2
    exact ⟨_, _, rfl, rfl, h _ H2 (Same.trans s1 s2) (.int _)⟩⟩⟩) (pe_op op_sub ha hb)
theorem pE_catT (ha : PE X a (tE X.K H0 S C fun ρ => .tuple (ds ρ))) (hb : PE X b (tE X.K H0 S C fun ρ => .tuple (fs ρ))) (hl : ∀ ρ, C ρ → (ds ρ).length + (fs ρ).length ≤ 1000) : PE X (.BinOp a .Add b pos) (tE X.K H0 S C fun ρ => .tuple (ds ρ ++ fs ρ)) :=
  pe_imp (fun σ H Q ⟨ρ, c, g, h⟩ => ⟨ρ, c, g, fun v H1 s1 h1 => ⟨ρ, c, g.mono s1, fun u H2 s2 h2 => by
    have s12 := Same.trans s1 s2
    have h : ∀ (v : V) (H' : Hp), Same H H' → Dp X.K (nw H0 H') v (.tuple (ds ρ ++ fs ρ)) → Q v H' := h
    cases h1 with
    | tup a1 a2 =>
      rename_i p xs
      cases h2 with
      | tup b1 b2 =>
        rename_i r ys
        have a1' := seqT_same (nw_l s2) a1
        have a2' := dpAll_same (nw_l s2) _ _ a2
        have lx := dpAll_len a2
        have ly := dpAll_len b2
        refine ⟨p, r, xs, ys, rfl, rfl, seqT_same nw_same a1', seqT_same nw_same b1, le1k (by have := hl ρ c; omega), fun z => ?_, fun z z' => ?_, fun z z' q hq => ?_⟩
        · subst z
          have e0 : ds ρ = [] := by cases hh : ds ρ with | nil => rfl | cons _ _ => rw [hh] at a2; cases a2
          rw [e0] at h
          exact h _ H2 s12 (.tup b1 b2)
        · subst z'
          have e0 : fs ρ = [] := by cases hh : fs ρ with | nil => rfl | cons _ _ => rw [hh] at b2; cases b2
          rw [e0] at h
          rw [List.append_nil] at h
          exact h _ H2 s12 (.tup a1' a2')
        · have s3 := same_upd (o := .tup (xs ++ ys)) hq
          exact h _ _ (Same.trans s12 s3) (.tup (SqT.of (nw_at (new0 g s12 hq) upd_same)) (dpAll_same (nw_l s3) _ _ (dpAll_app a2' b2)))⟩⟩) (pe_op op_catA ha hb)
theorem pE_mulT (ha : PE X a (tE X.K H0 S C fun ρ => .tuple (ds ρ))) (hb : PE X b (tE X.K H0 S C fun ρ => .int (k ρ))) (hne : ∀ ρ, C ρ → ds ρ ≠ []) (hl : ∀ ρ, C ρ → (ds ρ).length ≤ 100) (hk : ∀ ρ, C ρ → 0 ≤ k ρ ∧ k ρ ≤ 100) : PE X (.BinOp a .Mult b pos) (tE X.K H0 S C fun ρ => .tuple (List.replicate (k ρ).toNat (ds ρ)).flatten) :=
  pe_imp (fun σ H Q ⟨ρ, c, g, h⟩ => ⟨ρ, c, g, fun v H1 s1 h1 => ⟨ρ, c, g.mono s1, fun u H2 s2 h2 => by
    obtain rfl : u = .int (k ρ) := by cases h2; rfl
    have s12 := Same.trans s1 s2
    have h : ∀ (v : V) (H' : Hp), Same H H' → Dp X.K (nw H0 H') v (.tuple (List.replicate (k ρ).toNat (ds ρ)).flatten) → Q v H' := h
    cases h1 with
    | tup a1 a2 =>
      rename_i p xs
      have a1' := seqT_same (nw_l s2) a1
      have a2' := dpAll_same (nw_l s2) _ _ a2
      have lx := dpAll_len a2
      obtain ⟨k0, k1⟩ := hk ρ c
      have hl := hl ρ c
      have hne := hne ρ c
      generalize k ρ = kk at h k0 k1
      generalize ds ρ = dd at h a2 a2' lx hl hne
      refine ⟨p, kk, xs, rfl, rfl, seqT_same nw_same a1', fun z => ?_, by omega, k0, by omega, fun z => ?_, fun z q hq => ?_⟩
      · subst z
        exact hne (by cases a2; rfl)
      · subst z
        have e : (List.replicate (1 : Int).toNat dd).flatten = dd := by simp
        rw [e] at h
        exact h _ H2 s12 (.tup a1' a2')
      · have s3 := same_upd (o := .tup (List.replicate kk.toNat xs).flatten) hq
        exact h _ _ (Same.trans s12 s3) (.tup (SqT.of (nw_at (new0 g s12 hq) upd_same)) (dpAll_same (nw_l s3) _ _ (rep_flat a2' _)))⟩⟩) (pe_op op_repA ha hb)
theorem pE_catR (ha : PE X a (tER X.K H0 S C ds)) (hb : PE X b (tER X.K H0 S C fs)) (hl : ∀ ρ, C ρ → (ds ρ).length + (fs ρ).length ≤ 1000) : PE X (.BinOp a .Add b pos) (tER X.K H0 S C fun ρ => ds ρ ++ fs ρ) :=
  pe_imp (fun σ H Q ⟨ρ, c, g, h⟩ => ⟨ρ, c, g, fun l vs H1 s1 hn1 e1 h1 => ⟨ρ, c, g.mono s1, fun r us H2 s2 hn2 e2 h2 => by
    have s12 := Same.trans s1 s2
    have lx := dpAll_len h1
    have ly := dpAll_len h2
    refine ⟨l, r, vs, us, rfl, rfl, s2 _ _ e1, e2, le1k (by have := hl ρ c; omega), fun q hq => ?_⟩
    have s3 := same_upd (o := .lst (vs ++ us)) hq
    exact h q _ _ (Same.trans s12 s3) (Same.free s12 hq) upd_same (dpAll_same (nw_l s3) _ _ (dpAll_app (dpAll_same (nw_l s2) _ _ h1) h2))⟩⟩) (pe_op op_cat ha hb)
theorem pE_mulR (ha : PE X a (tER X.K H0 S C ds)) (hb : PE X b (tE X.K H0 S C fun ρ => .int (k ρ))) (hl : ∀ ρ, C ρ → (ds ρ).length ≤ 100) (hk : ∀ ρ, C ρ → 0 ≤ k ρ ∧ k ρ ≤ 100) : PE X (.BinOp a .Mult b pos) (tER X.K H0 S C fun ρ => (List.replicate (k ρ).toNat (ds ρ)).flatten) :=
  pe_imp (fun σ H Q ⟨ρ, c, g, h⟩ => ⟨ρ, c, g, fun l vs H1 s1 hn1 e1 h1 => ⟨ρ, c, g.mono s1, fun u H2 s2 h2 => by
    have s12 := Same.trans s1 s2
    have lx := dpAll_len h1
    obtain rfl : u = .int (k ρ) := by cases h2; rfl
    obtain ⟨k0, k1⟩ := hk ρ c
    have hl := hl ρ c
    have h : ∀ (l : Addr) (vs : List V) (H' : Hp), Same H H' → H l = none → H' l = some (.lst vs) → DpAll X.K (nw H0 H') vs (List.replicate (k ρ).toNat (ds ρ)).flatten → Q (.ref l) H' := h
    generalize k ρ = kk at h k0 k1 ⊢
    have hz : vs.length * kk.toNat ≤ sizeLine := by
      have : vs.length * kk.toNat ≤ 100 * 100 := Nat.mul_le_mul (by omega) (by omega)
      exact Nat.le_trans this (by decide)
    refine ⟨l, kk, vs, rfl, rfl, s2 _ _ e1, by omega, by omega, hz, fun q hq => ?_⟩
    have s3 := same_upd (o := .lst (List.replicate kk.toNat vs).flatten) hq
    exact h q _ _ (Same.trans s12 s3) (Same.free s12 hq) upd_same (dpAll_same (nw_l s3) _ _ (rep_flat (dpAll_same (nw_l s2) _ _ h1) _))⟩⟩) (pe_op op_rep ha hb)
end
end Sg

set_option maxRecDepth 100000
set_option maxHeartbeats 8000000
namespace Sg
open PySem PySem.Spec PyProof.Rows L2 Dr Gd Er Cm Ow XT TM
abbrev sBad : Stmt := top 60
def xs_ (k : Int) : List PyData := (List.replicate k.toNat [PyData.str "X"]).flatten
def bt0 : List PyData := [.none, .tuple [], .str "x", .tuple [.str "q"], .int 0, .list [.str "X"], .tuple [.str "X"], .bool true, .tuple [.list [.str "f"]], .tuple [.tuple [.str "q"], .str "X"]]
def btA (z : Str) (m : Int) : List PyData := [.str z, .tuple ([.str z] ++ xs_ (m + 1)), .list ([.str z] ++ xs_ m)]
def btB (z : Str) (m : Int) : List PyData := [.tuple ([.str z] ++ xs_ (m - 1)), .tuple ([.str z, .int 0] ++ xs_ (m - 1)), .tuple ([.str z] ++ xs_ (m - 1) ++ [.tuple [.str "q"]]), .tuple ([.str z] ++ xs_ (m - 1) ++ [.str "x"])]
def btC (z : Str) (m : Int) : List PyData := [.tuple ([.str z] ++ xs_ (m - 1) ++ [.none]), .tuple ([.str z, .list []] ++ xs_ (m - 1)), .tuple ([.str z, .tuple [.str z]] ++ xs_ (m - 1))]
theorem fit_in {W D : Nat} {ds : List PyData} (h : ∀ d ∈ ds, Fit 40 3 d) (hl : ds.length ≤ 6) : Fit 300 5 (.tuple ds) := (fit_tup h).mono (Nat.le_trans (Nat.mul_le_mul hl (Nat.le_refl _)) (by decide)) (by decide)
theorem fit_inL {ds : List PyData} (h : ∀ d ∈ ds, Fit 40 3 d) (hl : ds.length ≤ 6) : Fit 300 5 (.list ds) := (fit_lst h).mono (Nat.le_trans (Nat.mul_le_mul hl (Nat.le_refl _)) (by decide)) (by decide)
theorem xs_len (k : Int) : (xs_ k).length = k.toNat := by unfold xs_; rw [rep_len]; simp
theorem xs_fit (k : Int) : ∀ d ∈ xs_ k, Fit 40 3 d := by
  intro d hd
  unfold xs_ at hd
  rw [List.mem_flatten] at hd
  obtain ⟨l, hl, hm⟩ := hd
  rw [(List.mem_replicate.mp hl).2] at hm
  rw [List.mem_singleton.mp hm]
  decide +kernel
theorem bt0_fit : ∀ d ∈ bt0, Fit 300 5 d := by decide +kernel
theorem app_fit {W D : Nat} {a b : List PyData} (h : ∀ d ∈ a, Fit W D d) (g : ∀ d ∈ b, Fit W D d) : ∀ d ∈ a ++ b, Fit W D d := fun d hd => (List.mem_append.mp hd).elim (h d) (g d)
theorem one_fit {W D : Nat} {e : PyData} (h : Fit W D e) : ∀ d ∈ [e], Fit W D d := fun d hd => by rw [List.mem_singleton.mp hd]; exact h
theorem two_fit {W D : Nat} {e f : PyData} (h : Fit W D e) (g : Fit W D f) : ∀ d ∈ [e, f], Fit W D d := fun d hd => by
  simp only [List.mem_cons, List.not_mem_nil, or_false] at hd
  rcases hd with rfl | rfl
  · exact h
  · exact g
theorem btA_fit {z : Str} {m : Int} (hz : Fit 8 0 (.str z)) (h0 : 0 ≤ m) (h3 : m ≤ 3) : ∀ d ∈ btA z m, Fit 300 5 d := by
  have z4 : Fit 40 3 (.str z) := hz.mono (by decide) (by decide)
  intro d hd
  simp only [btA, List.mem_cons, List.not_mem_nil, or_false] at hd
  rcases hd with rfl | rfl | rfl
  · exact hz.mono (by decide) (by decide)
  · exact fit_in (W := 0) (D := 0) (app_fit (one_fit z4) (xs_fit _)) (by rw [List.length_append, xs_len]; show 1 + _ ≤ 6; omega)
  · exact fit_inL (app_fit (one_fit z4) (xs_fit _)) (by rw [List.length_append, xs_len]; show 1 + _ ≤ 6; omega)
theorem btB_fit {z : Str} {m : Int} (hz : Fit 8 0 (.str z)) (h0 : 0 ≤ m) (h3 : m ≤ 3) : ∀ d ∈ btB z m, Fit 300 5 d := by
  have z4 : Fit 40 3 (.str z) := hz.mono (by decide) (by decide)
  intro d hd
  simp only [btB, List.mem_cons, List.not_mem_nil, or_false] at hd
  rcases hd with rfl | rfl | rfl | rfl
  · exact fit_in (W := 0) (D := 0) (app_fit (one_fit z4) (xs_fit _)) (by rw [List.length_append, xs_len]; show 1 + _ ≤ 6; omega)
  · exact fit_in (W := 0) (D := 0) (app_fit (two_fit z4 (by decide +kernel)) (xs_fit _)) (by rw [List.length_append, xs_len]; show 2 + _ ≤ 6; omega)
  · exact fit_in (W := 0) (D := 0) (app_fit (app_fit (one_fit z4) (xs_fit _)) (one_fit (by decide +kernel))) (by rw [List.length_append, List.length_append, xs_len]; show 1 + _ + 1 ≤ 6; omega)
  · exact fit_in (W := 0) (D := 0) (app_fit (app_fit (one_fit z4) (xs_fit _)) (one_fit (by decide +kernel))) (by rw [List.length_append, List.length_append, xs_len]; show 1 + _ + 1 ≤ 6; omega)
theorem btC_fit {z : Str} {m : Int} (hz : Fit 8 0 (.str z)) (h0 : 0 ≤ m) (h3 : m ≤ 3) : ∀ d ∈ btC z m, Fit 300 5 d := by
  have z4 : Fit 40 3 (.str z) := hz.mono (by decide) (by decide)
  have zz : Fit 40 3 (.tuple [.str z]) := (fit_tup (one_fit hz)).mono (by show 1 * 9 ≤ 40; decide) (by decide)
  intro d hd
  simp only [btC, List.mem_cons, List.not_mem_nil, or_false] at hd
  rcases hd with rfl | rfl | rfl
  · exact fit_in (W := 0) (D := 0) (app_fit (app_fit (one_fit z4) (xs_fit _)) (one_fit (by decide +kernel))) (by rw [List.length_append, List.length_append, xs_len]; show 1 + _ + 1 ≤ 6; omega)
  · exact fit_in (W := 0) (D := 0) (app_fit (two_fit z4 (by decide +kernel)) (xs_fit _)) (by rw [List.length_append, xs_len]; show 2 + _ ≤ 6; omega)
  · exact fit_in (W := 0) (D := 0) (app_fit (two_fit z4 zz) (xs_fit _)) (by rw [List.length_append, xs_len]; show 2 + _ ≤ 6; omega)
theorem lc_no {z : Str} (h : wordIn Lc z = true) : wordIn Uc z = false := by
  cases hc : wordIn Uc z with
  | false => rfl
  | true =>
  exfalso
  unfold wordIn at h hc
  rw [Bool.and_eq_true, Bool.and_eq_true] at h hc
  obtain ⟨h1, _, h3⟩ := h
  obtain ⟨_, _, k3⟩ := hc
  rw [List.all_eq_true] at h3 k3
  have h1 : 1 ≤ z.length := of_decide_eq_true h1
  cases e : z.cps.toList with
  | nil =>
    have : z.length = 0 := by
      show z.cps.size = 0
      rw [← Array.length_toList, e]
      rfl
    omega
  | cons c r =>
    rw [e] at h3 k3
    have a := of_decide_eq_true (h3 c List.mem_cons_self)
    have b := of_decide_eq_true (k3 c List.mem_cons_self)
    have all : ∀ c ∈ Lc.cps.toList, c ∉ Uc.cps.toList := by decide +kernel
    exact all c a b
theorem isT_nil (ps : List (Str × Int)) : isTerm ps (.tuple []) = false := by rw [isTerm]
theorem isT_cons (ps : List (Str × Int)) (e : PyData) (r : List PyData) : isTerm ps (.tuple (e :: r)) = (headOk ps e r.length && allTerm ps r) := by rw [isTerm]
theorem isT_odd {ps : List (Str × Int)} {e : PyData} {r : List PyData} (h : arD ps e = none) : isTerm ps (.tuple (e :: r)) = false := by
  rw [isT_cons]
  unfold headOk
  rw [h]
  rfl
theorem isT_in {ps : List (Str × Int)} {e d : PyData} {r : List PyData} (hd : d ∈ r) (h : isTerm ps d = false) : isTerm ps (.tuple (e :: r)) = false := by
  rw [isT_cons]
  have : allTerm ps r = false := by
    induction r with
    | nil => cases hd
    | cons x r ih =>
      rw [allTerm]
      rcases List.mem_cons.mp hd with rfl | hd
      · rw [h]; rfl
      · rw [ih hd, Bool.and_false]
  rw [this, Bool.and_false]
theorem isT_len {ps : List (Str × Int)} {z : Str} {m : Int} {r : List PyData} (h : arOf ps z = some m) (hl : (r.length : Int) ≠ m) : isTerm ps (.tuple (.str z :: r)) = false := by
  rw [isT_cons]
  have : headOk ps (.str z) r.length = false := by
    unfold headOk
    rw [show arD ps (.str z) = arOf ps z from rfl, h]
    show decide (((r.length + 1 : Nat) : Int) = m + 1) = false
    exact decide_eq_false fun e => hl (by omega)
  rw [this, Bool.false_and]
theorem arOf_no {ps : List (Str × Int)} {z : Str} (h : z ∉ ps.map (·.1)) : arOf ps z = none := by
  unfold arOf
  rw [List.find?_eq_none.mpr fun p hp e => h (List.mem_map.mpr ⟨p, hp, of_decide_eq_true e⟩)]
  rfl
theorem up_no {ps : List (Str × Int)} (h : ∀ p ∈ ps, wordIn Lc p.1 = true) {z : Str} (hz : wordIn Uc z = true) : z ∉ ps.map (·.1) := fun hm => by
  obtain ⟨p, hp, e⟩ := List.mem_map.mp hm
  have a := lc_no (h p hp)
  rw [e, hz] at a
  cases a
theorem bt0_no {ps : List (Str × Int)} (h : ∀ p ∈ ps, wordIn Lc p.1 = true) (hq : ("q" : Str) ∉ ps.map (·.1)) : ∀ d ∈ bt0, isTerm ps d = false := by
  intro d hd
  simp only [bt0, List.mem_cons, List.not_mem_nil, or_false] at hd
  rcases hd with rfl | rfl | rfl | rfl | rfl | rfl | rfl | rfl | rfl | rfl
  · rw [isTerm]
  · exact isT_nil ps
  · rw [isTerm]; decide +kernel
  · exact isT_odd (arOf_no hq)
  · rw [isTerm]
  · rw [isTerm]
  · exact isT_odd (arOf_no (up_no h (by decide +kernel)))
  · rw [isTerm]
  · exact isT_odd rfl
  · exact isT_odd rfl
theorem xs_lenI {k : Int} (h : 0 ≤ k) : ((xs_ k).length : Int) = k := by
  rw [xs_len]
  omega
theorem btA_no {ps : List (Str × Int)} {z : Str} {m : Int} (hz : wordIn Lc z = true) (ha : arOf ps z = some m) (h0 : 0 ≤ m) : ∀ d ∈ btA z m, isTerm ps d = false := by
  intro d hd
  simp only [btA, List.mem_cons, List.not_mem_nil, or_false] at hd
  rcases hd with rfl | rfl | rfl
  · rw [isTerm]; exact lc_no hz
  · refine isT_len (r := xs_ (m + 1)) ha ?_
    rw [xs_lenI (by omega)]
    omega
  · rw [isTerm]
theorem btB_no {ps : List (Str × Int)} {z : Str} {m : Int} (hq : ("q" : Str) ∉ ps.map (·.1)) (ha : arOf ps z = some m) (h0 : 0 < m) : ∀ d ∈ btB z m, isTerm ps d = false := by
  intro d hd
  simp only [btB, List.mem_cons, List.not_mem_nil, or_false] at hd
  rcases hd with rfl | rfl | rfl | rfl
  · refine isT_len (r := xs_ (m - 1)) ha ?_
    rw [xs_lenI (by omega)]
    omega
  · exact isT_in (ps := ps) (r := .int 0 :: xs_ (m - 1)) (d := .int 0) List.mem_cons_self (by rw [isTerm])
  · exact isT_in (ps := ps) (r := xs_ (m - 1) ++ [.tuple [.str "q"]]) (d := .tuple [.str "q"]) (List.mem_append_right _ List.mem_cons_self) (isT_odd (arOf_no hq))
  · exact isT_in (ps := ps) (r := xs_ (m - 1) ++ [.str "x"]) (d := .str "x") (List.mem_append_right _ List.mem_cons_self) (by rw [isTerm]; decide +kernel)
theorem btC_no {ps : List (Str × Int)} {z : Str} {m : Int} (ha : arOf ps z = some m) (h0 : 0 < m) : ∀ d ∈ btC z m, isTerm ps d = false := by
  intro d hd
  simp only [btC, List.mem_cons, List.not_mem_nil, or_false] at hd
  rcases hd with rfl | rfl | rfl
  · exact isT_in (ps := ps) (r := xs_ (m - 1) ++ [.none]) (d := .none) (List.mem_append_right _ List.mem_cons_self) (by rw [isTerm])
  · exact isT_in (ps := ps) (r := .list [] :: xs_ (m - 1)) (d := .list []) List.mem_cons_self (by rw [isTerm])
  · exact isT_in (ps := ps) (r := .tuple [.str z] :: xs_ (m - 1)) (d := .tuple [.str z]) List.mem_cons_self (isT_len (r := []) ha (by simp; omega))
theorem app_no {ps : List (Str × Int)} {a b : List PyData} (h : ∀ d ∈ a, isTerm ps d = false) (g : ∀ d ∈ b, isTerm ps d = false) : ∀ d ∈ a ++ b, isTerm ps d = false := fun d hd => (List.mem_append.mp hd).elim (h d) (g d)
theorem cat_E {K : PySem.W.Frag} {H0 H : Hp} {S : List Nat} {C : (Nat → PyData) → Prop} {ρ : Nat → PyData} {σ : L2.St} {Q : VK} {l : Addr} {vs : List V} {ds : List PyData} {es : (Nat → PyData) → List PyData} {i : Nat} (hv : σ[i]? = some (some (.ref l))) (hl : H l = some (.lst vs)) (hd : DpAll K (nw H0 H) vs ds) (c : C ρ) (env : EnvD K H0 S ρ σ H) (hz : ds.length + (es ρ).length ≤ 1000)
    (h : ∀ q us H', Same H H' → H0 q = none → H' q = some (.lst us) → DpAll K (nw H0 H') us (ds ++ es ρ) → Q (.ref q) H') : tOp rCat (tVar i) (tER K H0 S C es) σ H Q := by
  refine ⟨_, hv, ρ, c, env, fun q us H1 s1 hn e1 h1 => ?_⟩
  have lx := dpAll_len hd
  have ly := dpAll_len h1
  refine ⟨l, q, vs, us, rfl, rfl, s1 _ _ hl, e1, le1k (by omega), fun r hr => ?_⟩
  have s3 := same_upd (o := .lst (vs ++ us)) hr
  exact h r _ _ (Same.trans s1 s3) (new0 env s1 hr) upd_same (dpAll_same (nw_l s3) _ _ (dpAll_app (dpAll_same (nw_l s1) _ _ hd) h1))
def iO : PyData → Int
  | .int m => m
  | _ => 0
def tO : PyData → List PyData
  | .tuple ds => ds
  | _ => []
def C1 : (Nat → PyData) → Prop := fun ρ => ∃ m, ρ 3 = .int m ∧ 0 ≤ m ∧ m ≤ 3
def C2 : (Nat → PyData) → Prop := fun ρ => ∃ m, ρ 3 = .int m ∧ 0 ≤ m ∧ m ≤ 3 ∧ ρ 4 = .tuple (xs_ (m - 1))
def C3 : (Nat → PyData) → Prop := fun ρ => ∃ m, ρ 3 = .int m ∧ 1 ≤ m ∧ m ≤ 3
theorem C3i {ρ : Nat → PyData} (c : C3 ρ) : ρ 3 = .int (iO (ρ 3)) ∧ 1 ≤ iO (ρ 3) ∧ iO (ρ 3) ≤ 3 := by
  obtain ⟨m, e, h0, h3⟩ := c
  rw [e]
  exact ⟨rfl, h0, h3⟩
theorem C1i {ρ : Nat → PyData} (c : C1 ρ) : ρ 3 = .int (iO (ρ 3)) ∧ 0 ≤ iO (ρ 3) ∧ iO (ρ 3) ≤ 3 := by
  obtain ⟨m, e, h0, h3⟩ := c
  rw [e]
  exact ⟨rfl, h0, h3⟩
theorem C2t {ρ : Nat → PyData} (c : C2 ρ) : ρ 4 = .tuple (tO (ρ 4)) ∧ (tO (ρ 4)).length ≤ 3 := by
  obtain ⟨m, _, h0, h3, e⟩ := c
  rw [e]
  refine ⟨rfl, ?_⟩
  show (xs_ (m - 1)).length ≤ 3
  rw [xs_len]
  omega
def rX (k : Int) : List PyData := (List.replicate k.toNat [PyData.str "X"]).flatten
theorem rX_len (k : Int) : (List.replicate k.toNat [PyData.str "X"]).flatten.length = k.toNat := by rw [rep_len]; simp
def eA : (Nat → PyData) → List PyData := fun ρ => [ρ 2, .tuple ([ρ 2] ++ (List.replicate (iO (ρ 3) + 1).toNat [PyData.str "X"]).flatten), .list ([ρ 2] ++ (List.replicate (iO (ρ 3)).toNat [PyData.str "X"]).flatten)]
def eB : (Nat → PyData) → List PyData := fun ρ => [.tuple ([ρ 2] ++ tO (ρ 4)), .tuple ([ρ 2, .int 0] ++ tO (ρ 4)), .tuple ([ρ 2] ++ tO (ρ 4) ++ [.tuple [.str "q"]]), .tuple ([ρ 2] ++ tO (ρ 4) ++ [.str "x"])]
def eC : (Nat → PyData) → List PyData := fun ρ => [.tuple ([ρ 2] ++ tO (ρ 4) ++ [.none]), .tuple ([ρ 2, .list []] ++ tO (ρ 4)), .tuple ([ρ 2, .tuple [ρ 2]] ++ tO (ρ 4))]
section
variable {X : Cx} {H0 : Hp} {pos : Pos} {x : Str}
theorem pEi (C : (Nat → PyData) → Prop) (hC : ∀ ρ, C ρ → ρ 3 = .int (iO (ρ 3))) (hN : X.N[3]? = some x := by rfl) (hv : Vis X.env.scope x := by first | exact Or.inl rfl | exact Or.inr (Or.inl rfl) | exact Or.inr (Or.inr rfl)) (hb : (x == ("__debug__" : Str)) = false := by decide)
    (hc : (x == ("__classdict__" : Str)) = false := by decide) : PE X (.Name x pos) (tE X.K H0 [2, 3] C fun ρ => .int (iO (ρ 3))) := pE_as (pE_var 3 (by decide) hN hv hb hc) hC
theorem pEt (hN : X.N[4]? = some x := by rfl) (hv : Vis X.env.scope x := by first | exact Or.inl rfl | exact Or.inr (Or.inl rfl) | exact Or.inr (Or.inr rfl)) (hb : (x == ("__debug__" : Str)) = false := by decide)
    (hc : (x == ("__classdict__" : Str)) = false := by decide) : PE X (.Name x pos) (tE X.K H0 [2, 4] C2 fun ρ => .tuple (tO (ρ 4))) := pE_as (pE_var 4 (by decide) hN hv hb hc) fun ρ c => (C2t c).1
end
def spBad (K : PySem.W.Frag) : Sp := fun vs H Q _ => ∃ v ps, vs = [v] ∧ Dp K H v (psD ps) ∧ Good ps ∧ ∀ p us H' ds, Same H H' → H p = none → H' p = some (.lst us) → DpAll K (nw H H') us ds → (∀ d ∈ ds, Fit 300 5 d) → (∀ d ∈ ds, isTerm ps d = false) → 0 < ds.length → ds.length ≤ 50 → Q (.ref p) H'
section
variable {P : Program} {w : World} {K : PySem.W.Frag} {mg : Str → Option Value} {base : Heap}
theorem scBd : FnScope ["pairs", "odd", "name", "arity", "more"] ["pairs"] (defScope sBad) := ⟨rfl, rfl, rfl, by decide +kernel, rfl, by decide +kernel, by decide +kernel⟩
theorem cut_to3 (xs : List V) : cutV xs none (some 3) = xs.take 3 := by
  unfold cutV
  rw [HT.sIx_none, List.drop_zero, Nat.sub_zero, show HT.sIx xs.length xs.length (some 3) = min 3 xs.length from HT.sIx_nat _ _ 3]
  rcases Nat.le_total 3 xs.length with h | h
  · rw [Nat.min_eq_left h]
  · rw [Nat.min_eq_right h, List.take_length, List.take_of_length_le h]
theorem ok_bad {f : Addr} {fd : FuncData} (F : Fun K "_law_bad_terms" "_law_bad_terms" sBad f fd) : FnOk P w K mg base CX0 1 f fd ["pairs"] (spBad K) := by
  refine F.ok scBd (fun vs H Q E h => ?_) (fun cdv A outer s H vs Q E hr h => ?_)
  · obtain ⟨v, ps, rfl, _⟩ := h
    rfl
  · obtain ⟨v, ps, rfl, hd, hg, q⟩ := h
    have hi1 : ∀ ρ, C1 ρ → ρ 3 = .int (iO (ρ 3)) := fun ρ c => (C1i c).1
    have l3 : ∀ ρ, C2 ρ → (tO (ρ 4)).length ≤ 3 := fun ρ c => (C2t c).2
    refine ⟨_, pss_cons (ps_set (i := 1) (te := tDatL K (fun _ => True) bt0) scBd.nd rfl (Or.inl rfl) (pd_lstL (by repeat (first | exact pd_int | exact pd_str | exact pd_bl | exact pd_non | exact pd_nil | refine pd_cons ?_ ?_ | refine pd_lst ?_ (by decide) | refine pd_tup ?_ (by decide))) (by decide)))
      (pss_cons (ps_for PassesOwn.never rfl (pi_list (pe_slice sl_list (pv 0) po_none (po_some pe_int))) (pg_tup rfl (pgs_cons (pg_name (i := 2) scBd.nd rfl (Or.inl rfl)) (pgs_cons (pg_name (i := 3) scBd.nd rfl (Or.inl rfl)) pgs_nil)))
        (pss_cons (ps_set (i := 1) (te := tOp rCat (tVar 1) (tER K H [2, 3] C1 eA)) scBd.nd rfl (Or.inl rfl) (pe_op op_cat (pv 1) (pE_lstR (pE_cons (pE_var 2 (by decide)) (pE_cons (pE_catT (pE_tup (pE_cons (pE_var 2 (by decide)) pE_nil) (fun _ _ => by simp)) (pE_mulT (pE_tup (pE_cons pE_str pE_nil) (fun _ _ => by simp)) (pE_add (pEi C1 hi1) pE_int) (fun _ _ => by simp) (fun _ _ => by simp) (fun ρ c => by have := C1i c; omega)) (fun ρ c => by have := C1i c; rw [rX_len]; simp; omega))
            (pE_cons (pE_raw (pE_catR (pE_lstR (pE_cons (pE_var 2 (by decide)) pE_nil) (fun _ _ => by simp)) (pE_mulR (pE_lstR (pE_cons pE_str pE_nil) (fun _ _ => by simp)) (pEi C1 hi1) (fun _ _ => by simp) (fun ρ c => by have := C1i c; omega)) (fun ρ c => by have := C1i c; rw [rX_len]; simp; omega))) pE_nil))) (fun _ _ => by simp [eA]))))
        (pss_one (ps_if (pt_cmpR op_gt (pv 3) pe_int (nomark _))
          (pss_cons (ps_set (i := 4) (te := tE K H [2, 3] C3 (fun ρ => .tuple (List.replicate (iO (ρ 3) - 1).toNat [PyData.str "X"]).flatten)) scBd.nd rfl (Or.inl rfl) (pE_mulT (pE_tup (pE_cons pE_str pE_nil) (fun _ _ => by simp)) (pE_sub (pEi C3 fun ρ c => (C3i c).1) pE_int) (fun _ _ => by simp) (fun _ _ => by simp) (fun ρ c => by have := C3i c; omega)))
          (pss_cons (ps_set (i := 1) (te := tOp rCat (tVar 1) (tER K H [2, 4] C2 eB)) scBd.nd rfl (Or.inl rfl) (pe_op op_cat (pv 1) (pE_lstR (pE_cons (pE_catT (pE_tup (pE_cons (pE_var 2 (by decide)) pE_nil) (fun _ _ => by simp)) pEt (fun ρ c => by have := l3 ρ c; simp; omega))
              (pE_cons (pE_catT (pE_tup (pE_cons (pE_var 2 (by decide)) (pE_cons pE_int pE_nil)) (fun _ _ => by simp)) pEt (fun ρ c => by have := l3 ρ c; simp; omega))
              (pE_cons (pE_catT (pE_catT (pE_tup (pE_cons (pE_var 2 (by decide)) pE_nil) (fun _ _ => by simp)) pEt (fun ρ c => by have := l3 ρ c; simp; omega)) (pE_tup (pE_cons (pE_tup (pE_cons pE_str pE_nil) (fun _ _ => by simp)) pE_nil) (fun _ _ => by simp)) (fun ρ c => by have := l3 ρ c; simp; omega))
              (pE_cons (pE_catT (pE_catT (pE_tup (pE_cons (pE_var 2 (by decide)) pE_nil) (fun _ _ => by simp)) pEt (fun ρ c => by have := l3 ρ c; simp; omega)) (pE_tup (pE_cons pE_str pE_nil) (fun _ _ => by simp)) (fun ρ c => by have := l3 ρ c; simp; omega)) pE_nil)))) (fun _ _ => by simp [eB]))))
          (pss_one (ps_set (i := 1) (te := tOp rCat (tVar 1) (tER K H [2, 4] C2 eC)) scBd.nd rfl (Or.inl rfl) (pe_op op_cat (pv 1) (pE_lstR (pE_cons (pE_catT (pE_catT (pE_tup (pE_cons (pE_var 2 (by decide)) pE_nil) (fun _ _ => by simp)) pEt (fun ρ c => by have := l3 ρ c; simp; omega)) (pE_tup (pE_cons pE_non pE_nil) (fun _ _ => by simp)) (fun ρ c => by have := l3 ρ c; simp; omega))
              (pE_cons (pE_catT (pE_tup (pE_cons (pE_var 2 (by decide)) (pE_cons (pE_raw (pE_lstR pE_nil (fun _ _ => by simp))) pE_nil)) (fun _ _ => by simp)) pEt (fun ρ c => by have := l3 ρ c; simp; omega))
              (pE_cons (pE_catT (pE_tup (pE_cons (pE_var 2 (by decide)) (pE_cons (pE_tup (pE_cons (pE_var 2 (by decide)) pE_nil) (fun _ _ => by simp)) pE_nil)) (fun _ _ => by simp)) pEt (fun ρ c => by have := l3 ρ c; simp; omega)) pE_nil))) (fun _ _ => by simp [eC])))))))
          pss_nil))))
      (pss_one (ps_ret (pv 1)))), ?_⟩
    refine ⟨trivial, fun l us H1 s1 hn1 e1 d1 => ?_⟩
    cases hd with
    | lst g1 g2 =>
      rename_i a xs
      have g2 : DpAll K H xs (prD ps) := g2
      refine ⟨_, rfl, 3, rfl, a, xs, rfl, Same.seq s1 g1, fun p3 hp3 => ?_⟩
      rw [cut_to3]
      have s3 := same_upd (o := .lst (xs.take 3)) hp3
      have e3 : (L2.upd H1 p3 (.lst (xs.take 3))) p3 = some (.lst (xs.take 3)) := upd_same
      refine ⟨p3, rfl, ⟨_, SqL.of e3⟩, ?_⟩
      have sH := Same.trans s1 s3
      have d3 := dpAll_same (nw_l s3) _ _ d1
      have e1' := s3 _ _ e1
      generalize (L2.upd H1 p3 (.lst (xs.take 3))) = H2 at e3 sH d3 e1' ⊢
      have g3 : DpAll K H2 (xs.take 3) (prD (ps.take 3)) := by
        have tk : ∀ (k : Nat) {vs : List V} {ds : List PyData}, DpAll K H2 vs ds → DpAll K H2 (vs.take k) (ds.take k) := by
          intro k
          induction k with
          | zero => intro vs ds _; exact .nil
          | succ k ih =>
            intro vs ds h
            cases h with
            | nil => exact .nil
            | cons a b => exact .cons a (ih b)
        unfold prD
        rw [List.map_take]
        exact tk 3 (dpAll_same sH _ _ g2)
      refine for_it (walk_list (xs := xs.take 3)) (fun i σ H' => ∃ l us ds c2 c3 c4, σ = [some (.ref a), some (.ref l), c2, c3, c4] ∧ Same H2 H' ∧ H' l = some (.lst us) ∧ H l = none ∧ DpAll K (nw H H') us ds ∧ (∀ d ∈ ds, Fit 300 5 d) ∧ (∀ d ∈ ds, isTerm ps d = false) ∧ 10 ≤ ds.length ∧ ds.length ≤ 10 + 10 * i)
        ⟨l, us, bt0, none, none, none, rfl, Same.refl H2, e1', hn1, d3, bt0_fit, bt0_no (fun p hp => (hg.2.2.2.1 p hp).1) hg.2.2.2.2.1, by decide, by decide⟩ (fun i σ H' hi hp => by obtain ⟨_, _, _, _, _, _, _, sm, _⟩ := hp; exact SqL.of (sm _ _ e3)) (fun i y σ Hy H' hi hp hy => ?_) (fun σ H' hp => ?_)
      · obtain ⟨l, us, ds, c2, c3, c4, rfl, sm, hl, hnl, hds, hfit, hno, h10, hlen⟩ := hp
        obtain ⟨rfl, ey⟩ := hy
        obtain ⟨z, m, t, ep, rfl, ht⟩ := pr_at g3 ey
        have hi3 : i < 3 := by
          have := hi
          rw [List.length_take] at this
          omega
        have hzm := hg.2.2.2.1 _ (List.mem_of_mem_take (List.mem_of_getElem? ep))
        have fz : Fit 8 0 (.str z) := fit_word hzm.1 lc_lt
        have hm0 : 0 ≤ m := hzm.2.1
        have hm3 : m ≤ 3 := hzm.2.2
        have sHH := Same.trans sH sm
        refine ⟨t, _, rfl, seqT_same sm ht, rfl, ?_⟩
        refine ⟨_, _, rfl, _, _, rfl, rfl, ?_⟩
        obtain ⟨ρA, hρ2, hρ3⟩ : ∃ ρ : Nat → PyData, ρ 2 = .str z ∧ ρ 3 = .int m := ⟨fun n => if n = 2 then .str z else .int m, rfl, rfl⟩
        obtain ⟨ρB, kρ2, kρ3, kρ4⟩ : ∃ ρ : Nat → PyData, ρ 2 = .str z ∧ ρ 3 = .int m ∧ ρ 4 = .tuple (xs_ (m - 1)) := ⟨fun n => if n = 2 then .str z else if n = 3 then .int m else .tuple (xs_ (m - 1)), rfl, rfl, rfl⟩
        have eAA : eA ρA = btA z m := by
          unfold eA
          rw [hρ2, hρ3]
          rfl
        have eBB : eB ρB = btB z m := by
          unfold eB
          rw [kρ2, kρ4]
          rfl
        have eCC : eC ρB = btC z m := by
          unfold eC
          rw [kρ2, kρ4]
          rfl
        have envA : ∀ {σ : L2.St} {Hc : Hp}, σ[2]? = some (some (.str z)) → σ[3]? = some (some (.int m)) → Same H Hc → EnvD K H [2, 3] ρA σ Hc := fun a2 a3 sc => ⟨sc, fun n hn => by
          simp only [List.mem_cons, List.not_mem_nil, or_false] at hn
          rcases hn with rfl | rfl
          · exact ⟨_, a2, by rw [hρ2]; exact .str z⟩
          · exact ⟨_, a3, by rw [hρ3]; exact .int m⟩⟩
        refine cat_E (ρ := ρA) (i := 1) rfl hl hds ⟨m, hρ3, hm0, hm3⟩ (envA rfl rfl sHH) (by rw [eAA]; show ds.length + 3 ≤ 1000; omega) (fun q5 us5 H5 s5 hn5 e5 d5 => ?_)
        rw [eAA] at d5
        have fit5 := app_fit hfit (btA_fit fz hm0 hm3)
        have har : arOf ps z = some m := arOf_at hg.2.2.1 (by
          have e := ep
          rw [List.getElem?_take_of_lt hi3] at e
          exact e)
        have no5 := app_no hno (btA_no hzm.1 har hm0)
        have len5 : (ds ++ btA z m).length = ds.length + 3 := by rw [List.length_append]; rfl
        refine ⟨_, rfl, _, _, rfl, rfl, _, rfl, ?_⟩
        refine ite2 (fun hc => ?_) (fun hc => ?_)
        · have hc : 0 < m := of_decide_eq_true hc
          refine ⟨ρA, ⟨m, hρ3, by omega, hm3⟩, envA rfl rfl (Same.trans sHH s5), fun vm H6 s6 h6 => ?_⟩
          have h6 : Dp K (nw H H6) vm (.tuple (List.replicate (iO (ρA 3) - 1).toNat [PyData.str "X"]).flatten) := h6
          rw [hρ3] at h6
          have h6 : Dp K (nw H H6) vm (.tuple (xs_ (m - 1))) := h6
          have envB : ∀ {σ : L2.St} {Hc : Hp}, σ[2]? = some (some (.str z)) → σ[4]? = some (some vm) → Same H6 Hc → EnvD K H [2, 4] ρB σ Hc := fun a2 a4 sc => ⟨Same.trans (Same.trans sHH (Same.trans s5 s6)) sc, fun n hn => by
            simp only [List.mem_cons, List.not_mem_nil, or_false] at hn
            rcases hn with rfl | rfl
            · exact ⟨_, a2, by rw [kρ2]; exact .str z⟩
            · exact ⟨_, a4, by rw [kρ4]; exact dp_same (nw_l sc) _ _ h6⟩⟩
          refine cat_E (ρ := ρB) (i := 1) rfl (s6 _ _ e5) (dpAll_same (nw_l s6) _ _ d5) ⟨m, kρ3, hm0, hm3, kρ4⟩ (envB rfl rfl (Same.refl H6)) (by rw [eBB, len5]; show ds.length + 3 + 4 ≤ 1000; omega) (fun q7 us7 H7 s7 hn7 e7 d7 => ?_)
          rw [eBB] at d7
          refine cat_E (ρ := ρB) (i := 1) rfl e7 d7 ⟨m, kρ3, hm0, hm3, kρ4⟩ (envB rfl rfl s7) (by rw [eCC, List.length_append, len5]; show ds.length + 3 + 4 + 3 ≤ 1000; omega) (fun q8 us8 H8 s8 hn8 e8 d8 => ?_)
          rw [eCC] at d8
          have l8 : (ds ++ btA z m ++ btB z m ++ btC z m).length = ds.length + 10 := by
            rw [List.length_append, List.length_append, len5]
            rfl
          exact ⟨q8, us8, _, _, _, _, rfl, Same.trans sm (Same.trans s5 (Same.trans s6 (Same.trans s7 s8))), e8, hn8, d8, app_fit (app_fit fit5 (btB_fit fz hm0 hm3)) (btC_fit fz hm0 hm3), app_no (app_no no5 (btB_no hg.2.2.2.2.1 har hc)) (btC_no har hc), by omega, by omega⟩
        · exact ⟨q5, us5, _, _, _, _, rfl, Same.trans sm s5, e5, hn5, d5, fit5, no5, by omega, by omega⟩
      · obtain ⟨l, us, ds, c2, c3, c4, rfl, sm, hl, hnl, hds, hfit, hno, h10, hlen⟩ := hp
        have : (xs.take 3).length ≤ 3 := by rw [List.length_take]; omega
        exact ⟨_, rfl, q l us H' ds (Same.trans sH sm) hnl hl hds hfit hno (by omega) (by omega)⟩
end
end Sg

set_option maxRecDepth 100000
/-! two sorted lists of the same texts are the same -/
namespace Srt
open PySem PySem.Spec PyProof.Rows
def le (a b : Str) : Prop := ¬ b.cps.toList < a.cps.toList
theorem le_trans {a b c : Str} (h : le a b) (g : le b c) : le a c := by
  unfold le at *
  rw [List.not_lt] at *
  exact List.le_trans h g
theorem le_anti {a b : Str} (h : le a b) (g : le b a) : a = b := by
  unfold le at *
  rw [List.not_lt] at *
  have := List.le_antisymm h g
  obtain ⟨⟨x⟩⟩ := a
  obtain ⟨⟨y⟩⟩ := b
  simpa using this
theorem rise : ∀ (l : List Str) (p : Str), risingS p l = true → (∀ y ∈ l, le p y) ∧ sortedS l = true
  | [], p, _ => ⟨fun _ h => (by cases h), rfl⟩
  | x :: r, p, h => by
    have h : (!ltCps x.cps.toList p.cps.toList && risingS x r) = true := h
    rw [Bool.and_eq_true] at h
    have h1 : le p x := by
      have := h.1
      rw [ltCps_eq] at this
      unfold le
      simpa using this
    obtain ⟨g1, _⟩ := rise r x h.2
    refine ⟨fun y hy => ?_, h.2⟩
    rcases List.mem_cons.mp hy with rfl | hy
    · exact h1
    · exact le_trans h1 (g1 y hy)
theorem uniq : ∀ (ys zs : List Str), ys.Perm zs → sortedS ys = true → sortedS zs = true → ys = zs
  | [], zs, h, _, _ => (List.Perm.nil_eq h)
  | y :: ys, [], h, _, _ => absurd h.length_eq (by simp)
  | y :: ys, z :: zs, h, h1, h2 => by
    obtain ⟨a1, a2⟩ := rise ys y h1
    obtain ⟨b1, b2⟩ := rise zs z h2
    have e : y = z := by
      have m1 : y ∈ z :: zs := h.subset List.mem_cons_self
      have m2 : z ∈ y :: ys := h.symm.subset List.mem_cons_self
      rcases List.mem_cons.mp m1 with e | m1
      · exact e
      · rcases List.mem_cons.mp m2 with e | m2
        · exact e.symm
        · exact le_anti (a1 z m2) (b1 y m1)
    subst e
    rw [uniq ys zs (List.perm_cons y |>.mp h) a2 b2]
end Srt

set_option maxRecDepth 100000
set_option maxHeartbeats 4000000
namespace Sg
open PySem PySem.Spec PyProof.Rows L2 Dr Gd Er Cm Ow XT TM Tw
abbrev sLways : Stmt := top 54
def spLw (K : PySem.W.Frag) : Sp := fun vs H Q _ => ∃ v ps, vs = [v] ∧ Dp K H v (psD ps) ∧ ps.length ≤ 5 ∧ ∀ H' ys p, Same H H' → H p = none → ys.Perm (waysOf ps) → sortedS ys = true → H' p = some (.lst (ys.map V.str)) → Q (.ref p) H'
section
variable {P : Program} {w : World} {K : PySem.W.Frag} {mg : Str → Option Value} {base : Heap}
theorem scLw : FnScope ["pairs", "name", "arity"] ["pairs"] (defScope sLways) := ⟨rfl, rfl, rfl, by decide +kernel, rfl, by decide +kernel, by decide +kernel⟩
theorem ok_lways {f : Addr} {fd : FuncData} (F : Fun K "_law_ways" "_law_ways" sLways f fd) (hs : mg "sorted" = none) : FnOk P w K mg base CX0 1 f fd ["pairs"] (spLw K) := by
  refine F.ok scLw (fun vs H Q E h => ?_) (fun cdv A outer s H vs Q E hr h => ?_)
  · obtain ⟨v, ps, rfl, _⟩ := h
    rfl
  · obtain ⟨v, ps, rfl, hd, h5, q⟩ := h
    refine ⟨_, pss_one (ps_ret (pe_callB cr_sortedS (by rfl) hs (by decide +kernel) (pa_cons
      (pe_lc (own := [("name", 1), ("arity", 2)]) (g := gTup K 2 (gCons (gName 1) (gCons (gName 2) gNil))) (tt := tTest (tOp (rI0 fun i j => .bl (decide (j ≤ i))) (tVar 2) (tC (.int 2)))) rfl scLw.nd (pi_list (pv 0))
        (blkOk_by (N := ["pairs", "name", "arity"]) (sc := defScope sLways) (by decide +kernel)) (fun _ _ _ _ _ => pg_tup rfl (pgs_cons (pg_name (i := 1) scLw.nd rfl (Or.inl rfl)) (pgs_cons (pg_name (i := 2) scLw.nd rfl (Or.inl rfl)) pgs_nil)))
        (fun _ _ _ _ _ => pts_one (pt_cmpR op_ge (pv 2) pe_int (nomark _))) (fun _ _ _ _ _ => pv 1)) pa_nil))), ?_⟩
    cases hd with
    | lst g1 g2 =>
      rename_i a xs
      have g2 : DpAll K H xs (prD ps) := g2
      have hl : xs.length = ps.length := (dpAll_len g2).trans (List.length_map ..)
      refine ⟨_, rfl, a, rfl, ⟨_, g1⟩, fun D hD => ?_⟩
      refine lc_it (walk_list (xs := xs)) (fun i H' => Same H H' ∧ H' D = some (.lst ((waysOf (ps.take i)).map V.str))) ⟨same_upd hD, upd_same⟩ (fun i H' hi hp => Same.seq hp.1 g1) (fun i y H1 H2 hi hp hy => ?_) (fun H' hp => ?_)
      · obtain ⟨rfl, ey⟩ := hy
        obtain ⟨sm, hDl⟩ := hp
        obtain ⟨z, n, t, ep, rfl, ht⟩ := pr_at g2 ey
        refine ⟨t, _, rfl, seqT_same sm ht, rfl, ?_⟩
        refine ⟨_, _, rfl, _, _, rfl, rfl, ?_⟩
        refine ⟨rfl, ?_⟩
        refine ⟨_, rfl, _, _, rfl, rfl, _, rfl, ?_⟩
        refine ite2 (fun c => ?_) (fun c => ?_)
        · have c : n > 1 := by
            have := of_decide_eq_true c
            omega
          refine ⟨_, rfl, _, hDl, ?_, ?_, ?_⟩
          · rw [List.length_map]
            have := ways_len (ps.take i)
            rw [List.length_take] at this
            have h6 : (waysOf (ps.take i)).length < 1000 := by omega
            exact Nat.lt_trans h6 (by decide)
          · exact fun b o e => by
              have : b ≠ D := fun z => by rw [z, hD] at e; cases e
              rw [upd_ne this]
              exact sm b o e
          · rw [upd_same, ways_take ep, if_pos c, List.map_append]
            rfl
        · have c : ¬ n > 1 := fun z => c (decide_eq_true (by omega))
          rw [ways_take ep, if_neg c]
          exact ⟨sm, hDl⟩
      · obtain ⟨sm, hDl⟩ := hp
        rw [hl, List.take_length] at hDl
        refine ⟨D, waysOf ps, rfl, SqL.of hDl, ?_, fun ys p hp1 hp2 hp3 => ?_⟩
        · have := ways_len ps
          omega
        · exact q _ ys p (Same.trans sm (same_upd hp3)) (Same.free sm hp3) hp1 hp2 upd_same
end
abbrev sNear : Stmt := top 61
theorem cut_take (xs : List V) (k : Nat) : cutV xs none (some (k : Int)) = xs.take k := by
  unfold cutV
  rw [HT.sIx_none, HT.sIx_nat, List.drop_zero, Nat.sub_zero]
  rcases Nat.le_total k xs.length with h | h
  · rw [Nat.min_eq_left h]
  · rw [Nat.min_eq_right h, List.take_length, List.take_of_length_le h]
theorem cut_drop (xs : List V) (k : Nat) : cutV xs (some (k : Int)) none = xs.drop k := by
  unfold cutV
  rw [HT.sIx_none, HT.sIx_nat]
  rcases Nat.le_total k xs.length with h | h
  · rw [Nat.min_eq_left h, List.take_of_length_le (by rw [List.length_drop]; omega)]
  · rw [Nat.min_eq_right h, List.drop_eq_nil_of_le h, List.drop_eq_nil_of_le (Nat.le_refl _), List.take_nil]
def nearA (n : Int) : Int := if n = 0 then 1 else if n = 1 then 0 else if n = 2 then 3 else 2
def nearPs (ps : List (Str × Int)) : List (Str × Int) := ps.map fun p => (p.1, nearA p.2)
def nearsOf (ps : List (Str × Int)) : List (List (Str × Int)) := [nearPs ps, (nearPs ps).take 1 ++ ps.drop 1, ps.reverse].filter fun q => !decide (q = ps)
theorem word_ok {z : Str} (h : wordIn Lc z = true) : PyData.strOk z = true := by
  unfold wordIn at h
  rw [Bool.and_eq_true, Bool.and_eq_true] at h
  have h2 := h.2.2
  rw [List.all_eq_true] at h2
  unfold PyData.strOk
  rw [Array.all_eq_true']
  intro c hc
  have := h2 c (by simpa using hc)
  have hm : c ∈ Lc.cps.toList := of_decide_eq_true this
  have all : ∀ c ∈ Lc.cps.toList, c < 0x110000 := by decide +kernel
  exact decide_eq_true (all c hm)
theorem good_ok {ps : List (Str × Int)} (h : Good ps) : OkNames ps := fun p hp => word_ok (h.2.2.2.1 p hp).1
theorem nearA_at {n : Int} (h0 : 0 ≤ n) (h3 : n ≤ 3) : atI [V.int 1, .int 0, .int 3, .int 2] n = some (.int (nearA n)) := by
  rcases (show n = 0 ∨ n = 1 ∨ n = 2 ∨ n = 3 by omega) with rfl | rfl | rfl | rfl <;> rfl
def spNear (K : PySem.W.Frag) : Sp := fun vs H Q _ => ∃ l xs ps, vs = [.ref l] ∧ SqL K H l xs ∧ DpAll K H xs (prD ps) ∧ Good ps ∧ ∀ p us H', Same H H' → H p = none → H' p = some (.lst us) → DpAll K H' us ((nearsOf ps).map psD) → Q (.ref p) H'
theorem psD_eq (ps : List (Str × Int)) : psD ps = .list (prD ps) := rfl
theorem dpAll_drop {K : PySem.W.Frag} {H : Hp} : ∀ (k : Nat) {vs : List V} {ds : List PyData}, DpAll K H vs ds → DpAll K H (vs.drop k) (ds.drop k)
  | 0, _, _, h => h
  | k + 1, [], [], h => h
  | k + 1, v :: vs, d :: ds, h => by
    cases h with
    | cons a b => exact dpAll_drop k b
theorem dpAll_take {K : PySem.W.Frag} {H : Hp} : ∀ (k : Nat) {vs : List V} {ds : List PyData}, DpAll K H vs ds → DpAll K H (vs.take k) (ds.take k)
  | 0, _, _, _ => .nil
  | k + 1, [], [], _ => .nil
  | k + 1, v :: vs, d :: ds, h => by
    cases h with
    | cons a b => exact .cons a (dpAll_take k b)
theorem dpAll_rev {K : PySem.W.Frag} {H : Hp} : ∀ {vs : List V} {ds : List PyData}, DpAll K H vs ds → DpAll K H vs.reverse ds.reverse
  | [], [], _ => .nil
  | v :: vs, d :: ds, h => by
    cases h with
    | cons a b =>
      rw [List.reverse_cons, List.reverse_cons]
      exact dpAll_app (dpAll_rev b) (.cons a .nil)
theorem oks_near {ps : List (Str × Int)} (h : OkNames ps) : OkNames (nearPs ps) := fun q hq => by
  obtain ⟨p, hp, rfl⟩ := List.mem_map.mp hq
  exact h p hp
theorem oks_app {ps qs : List (Str × Int)} (h : OkNames ps) (g : OkNames qs) : OkNames (ps ++ qs) := fun q hq => (List.mem_append.mp hq).elim (h q) (g q)
section
variable {P : Program} {w : World} {K : PySem.W.Frag} {mg : Str → Option Value} {base : Heap}
theorem scNr : FnScope ["pairs", "near", "name", "arity", "some"] ["pairs"] (defScope sNear) := ⟨rfl, rfl, rfl, by decide +kernel, rfl, by decide +kernel, by decide +kernel⟩
theorem ok_near {f : Addr} {fd : FuncData} (F : Fun K "_law_near_signs" "_law_near_signs" sNear f fd) : FnOk P w K mg base CX0 1 f fd ["pairs"] (spNear K) := by
  refine F.ok scNr (fun vs H Q E h => ?_) (fun cdv A outer s H vs Q E hr h => ?_)
  · obtain ⟨l, xs, ps, rfl, _⟩ := h
    rfl
  · obtain ⟨l, xs, ps, rfl, hl, hd, hg, q⟩ := h
    refine ⟨_, pss_cons (ps_setLc (i := 1) (own := [("name", 2), ("arity", 3)]) (g := gTup K 2 (gCons (gName 2) (gCons (gName 3) gNil))) (tt := tYes) (te := tTup (tCons (tVar 2) (tCons (tOp (rIxL K) (tLst (tCons (tC (.int 1)) (tCons (tC (.int 0)) (tCons (tC (.int 3)) (tCons (tC (.int 2)) tNil))))) (tVar 3)) tNil))) (by rfl) scNr.nd rfl rfl (sw_true rfl rfl rfl (by decide +kernel)) (pi_list (pv 0))
        (blkOk_by (N := ["pairs", "near", "name", "arity", "some"]) (sc := defScope sNear) (by decide +kernel)) (fun _ _ _ _ _ => pg_tup rfl (pgs_cons (pg_name (i := 2) scNr.nd rfl (Or.inl rfl)) (pgs_cons (pg_name (i := 3) scNr.nd rfl (Or.inl rfl)) pgs_nil)))
        (fun _ _ _ _ _ => pts_nil) (fun _ _ _ _ _ => pe_tup (pa_cons (pv 2) (pa_cons (pe_ix ix_list (pe_lst (pa_cons pe_int (pa_cons pe_int (pa_cons pe_int (pa_cons pe_int pa_nil))))) (pv 3) fun _ _ => rfl) pa_nil))))
      (pss_one (ps_ret (pe_lc (own := [("some", 4)]) (g := gName 4) (tt := tTest (tOp (rNeD K) (tVar 4) (tVar 0))) rfl scNr.nd
        (pi_tup (pe_tup (pa_cons (pv 1) (pa_cons (pe_op op_cat (pe_slice sl_list (pv 1) po_none (po_some pe_int)) (pe_slice sl_list (pv 0) (po_some pe_int) po_none)) (pa_cons (pe_revL (pv 0)) pa_nil)))))
        (blkOk_by (N := ["pairs", "near", "name", "arity", "some"]) (sc := defScope sNear) (by decide +kernel)) (fun _ _ _ _ _ => pg_name (i := 4) scNr.nd rfl (Or.inl rfl))
        (fun _ _ _ _ _ => pts_one (pt_cmpR (op_neD hr.units) (pv 4) (pv 0) (nomark _))) (fun _ _ _ _ _ => pv 4)))), ?_⟩
    have hxl : xs.length = ps.length := (dpAll_len hd).trans (List.length_map ..)
    have ok := good_ok hg
    have pl4 : ps.length ≤ 4 := hg.2.1
    have big : (1000 : Nat) ≤ sizeLine := by decide
    refine ⟨_, rfl, l, rfl, ⟨_, hl⟩, fun D hD => ?_⟩
    refine lc_it (walk_list (xs := xs)) (fun i H' => ∃ ns, Same H H' ∧ H' D = some (.lst ns) ∧ DpAll K H' ns (prD (nearPs (ps.take i)))) ⟨[], same_upd hD, upd_same, .nil⟩ (fun i H' hi hp => Same.seq hp.choose_spec.1 hl) (fun i y H1 H2 hi hp hy => ?_) (fun H' hp => ?_)
    · obtain ⟨rfl, ey⟩ := hy
      obtain ⟨ns, sm, hDl, hns⟩ := hp
      obtain ⟨z, n, t, ep, rfl, ht⟩ := pr_at hd ey
      have hz := hg.2.2.2.1 _ (List.mem_of_getElem? ep)
      refine ⟨t, _, rfl, seqT_same sm ht, rfl, ?_⟩
      refine ⟨_, _, rfl, _, _, rfl, rfl, ?_⟩
      refine ⟨rfl, lcYes ?_⟩
      refine ⟨_, rfl, (by show 4 ≤ sizeLine; decide), fun l4 hl4 => ?_⟩
      refine ⟨_, rfl, l4, _, _, _, rfl, rfl, SqL.of upd_same, nearA_at hz.2.1 hz.2.2, (by show 2 ≤ sizeLine; decide), fun T hT => ?_⟩
      have s4 := Same.trans (same_upd (o := .lst [V.int 1, .int 0, .int 3, .int 2]) hl4) (same_upd (o := .tup [V.str z, .int (nearA n)]) hT)
      have nl : ns.length < 1000 := by
        have := dpAll_len hns
        unfold prD nearPs at this
        rw [List.length_map, List.length_map, List.length_take] at this
        omega
      have hTD : T ≠ D := fun e => by
        rw [e] at hT
        have := (same_upd (o := .lst [V.int 1, .int 0, .int 3, .int 2]) hl4) _ _ hDl
        rw [this] at hT
        cases hT
      have hDl' := s4 _ _ hDl
      refine ⟨ns, hDl', by omega, ns ++ [.ref T], ?_, upd_same, ?_⟩
      · exact fun b o e => by
          have : b ≠ D := fun z => by rw [z, hD] at e; cases e
          rw [upd_ne this]
          exact s4 _ _ (sm b o e)
      · refine pr_updL hDl' ?_
        have e1 : nearPs (ps.take (i + 1)) = nearPs (ps.take i) ++ [(z, nearA n)] := by
          rw [List.take_succ, ep]
          unfold nearPs
          rw [List.map_append]
          rfl
        rw [e1]
        unfold prD
        rw [List.map_append]
        exact dpAll_app (dpAll_same s4 _ _ hns) (.cons (.tup (SqT.of upd_same) (.cons (.str _) (.cons (.int _) .nil))) .nil)
    · obtain ⟨ns, sm, hDl, hns⟩ := hp
      rw [hxl, List.take_length] at hns
      have hns : DpAll K H' ns (prD (nearPs ps)) := hns
      have hl' := Same.seq sm hl
      have hd' := dpAll_same sm _ _ hd
      have nl : ns.length = ps.length := (dpAll_len hns).trans (by unfold prD nearPs; rw [List.length_map, List.length_map])
      refine ⟨_, rfl, _, rfl, 1, rfl, D, ns, rfl, SqL.of hDl, fun p1 hp1 => ?_⟩
      have s1 := same_upd (o := .lst (cutV ns none (some 1))) hp1
      refine ⟨_, rfl, 1, rfl, l, xs, rfl, Same.seq s1 hl', fun p2 hp2 => ?_⟩
      have s2 := Same.trans s1 (same_upd (o := .lst (cutV xs (some 1) none)) hp2)
      have c1 : cutV ns none (some 1) = ns.take 1 := cut_take ns 1
      have c2 : cutV xs (some 1) none = xs.drop 1 := cut_drop xs 1
      refine ⟨p1, p2, _, _, rfl, rfl, same_upd hp2 _ _ upd_same, upd_same, ?_, fun p3 hp3 => ?_⟩
      · have h1 := cutV_length ns none (some 1)
        have h2 := cutV_length xs (some 1) none
        omega
      · have s3 := Same.trans s2 (same_upd (o := .lst (cutV ns none (some 1) ++ cutV xs (some 1) none)) hp3)
        refine ⟨_, rfl, l, xs, rfl, Same.seq s3 hl', fun p4 hp4 => ⟨(by show 3 ≤ sizeLine; decide), fun T hT => ?_⟩⟩
        have s34 := Same.trans (same_upd (o := .lst xs.reverse) hp4) (same_upd (o := .tup [.ref D, .ref p3, .ref p4]) hT)
        have s4 := Same.trans s3 s34
        have v1 := Dp.lst (SqL.of (s4 _ _ hDl)) (dpAll_same s4 _ _ hns)
        have v2 : Dp K _ (.ref p3) (psD ((nearPs ps).take 1 ++ ps.drop 1)) := Dp.lst (SqL.of (s34 _ _ upd_same)) (by
          have e12 : cutV ns none (some 1) ++ cutV xs (some 1) none = ns.take 1 ++ xs.drop 1 := by rw [c1, c2]
          have e13 : prD ((nearPs ps).take 1 ++ ps.drop 1) = (prD (nearPs ps)).take 1 ++ (prD ps).drop 1 := by unfold prD; rw [List.map_append, List.map_take, List.map_drop]
          have z := dpAll_app (dpAll_take 1 (dpAll_same s4 _ _ hns)) (dpAll_drop 1 (dpAll_same s4 _ _ hd'))
          exact Eq.subst (motive := fun l => DpAll K _ l (prD ((nearPs ps).take 1 ++ ps.drop 1))) e12.symm (Eq.subst (motive := fun l => DpAll K _ _ l) e13.symm z))
        have v3 : Dp K _ (.ref p4) (psD ps.reverse) := Dp.lst (SqL.of (same_upd hT _ _ upd_same)) (by
          show DpAll K _ _ (prD _)
          unfold prD
          rw [List.map_reverse]
          exact dpAll_rev (dpAll_same s4 _ _ hd'))
        have sH := Same.trans sm s4
        have o1 : OkNames (nearPs ps) := oks_near ok
        have o2 : OkNames ((nearPs ps).take 1 ++ ps.drop 1) := oks_app (fun p hp => o1 p (List.mem_of_mem_take hp)) (fun p hp => ok p (List.mem_of_mem_drop hp))
        have o3 : OkNames ps.reverse := fun p hp => ok p (List.mem_reverse.mp hp)
        obtain ⟨cs, ecs⟩ : ∃ cs, cs = [nearPs ps, (nearPs ps).take 1 ++ ps.drop 1, ps.reverse] := ⟨_, rfl⟩
        have vall : DpAll K (L2.upd (L2.upd (L2.upd (L2.upd (L2.upd H' p1 (.lst (cutV ns none (some 1)))) p2 (.lst (cutV xs (some 1) none))) p3 (.lst (cutV ns none (some 1) ++ cutV xs (some 1) none))) p4 (.lst xs.reverse)) T (.tup [.ref D, .ref p3, .ref p4])) [.ref D, .ref p3, .ref p4] (cs.map psD) := by rw [ecs]; exact .cons v1 (.cons v2 (.cons v3 .nil))
        have oall : ∀ c ∈ cs, OkNames c := by
          rw [ecs]
          intro c hc
          simp only [List.mem_cons, List.not_mem_nil, or_false] at hc
          rcases hc with rfl | rfl | rfl
          · exact o1
          · exact o2
          · exact o3
        have q' : ∀ p us H', Same H H' → H p = none → H' p = some (.lst us) → DpAll K H' us ((cs.filter fun q => !decide (q = ps)).map psD) → Q (.ref p) H' := by rw [ecs]; exact q
        have c3 : cs.length = 3 := by rw [ecs]; rfl
        clear ecs
        refine ⟨T, rfl, ⟨_, SqT.of upd_same⟩, fun D2 hD2 => ?_⟩
        refine lc_it (walk_tup (xs := [.ref D, .ref p3, .ref p4])) (fun i H5 => ∃ us, Same (L2.upd (L2.upd (L2.upd (L2.upd (L2.upd H' p1 (.lst (cutV ns none (some 1)))) p2 (.lst (cutV xs (some 1) none))) p3 (.lst (cutV ns none (some 1) ++ cutV xs (some 1) none))) p4 (.lst xs.reverse)) T (.tup [.ref D, .ref p3, .ref p4])) H5 ∧ H5 D2 = some (.lst us) ∧ us.length ≤ i ∧ DpAll K (L2.upd (L2.upd (L2.upd (L2.upd (L2.upd H' p1 (.lst (cutV ns none (some 1)))) p2 (.lst (cutV xs (some 1) none))) p3 (.lst (cutV ns none (some 1) ++ cutV xs (some 1) none))) p4 (.lst xs.reverse)) T (.tup [.ref D, .ref p3, .ref p4])) us (((cs.take i).filter fun q => !decide (q = ps)).map psD))
          ⟨[], same_upd hD2, upd_same, Nat.le_refl _, .nil⟩ (fun i H5 hi hp => seqT_same hp.choose_spec.1 (SqT.of upd_same)) (fun i y H5 H6 hi hp hy => ?_) (fun H5 hp => ?_)
        · obtain ⟨rfl, ey⟩ := hy
          obtain ⟨us, s5, hD5, hu5, hus⟩ := hp
          obtain ⟨d, hd1, hd2⟩ := dpAll_get' vall ey
          rw [List.getElem?_map] at hd1
          cases ec : cs[i]? with
          | none => rw [ec] at hd1; cases hd1
          | some c =>
            rw [ec] at hd1
            obtain rfl := Option.some.inj hd1
            refine ⟨rfl, _, rfl, _, rfl, psD c, psD ps, dp_same s5 _ _ hd2, dp_same (Same.trans sH s5) _ _ (.lst hl hd), psD_shaped (oall c (List.mem_of_getElem? ec)), psD_shaped ok, _, rfl, ?_⟩
            rw [psD_eqv]
            have e1 : cs.take (i + 1) = cs.take i ++ [c] := by rw [List.take_succ, ec]; rfl
            have hi3 : i < 3 := hi
            refine ite2 (fun hc => ?_) (fun hc => ?_)
            · refine ⟨_, rfl, us, hD5, Nat.lt_of_le_of_lt hu5 (Nat.lt_trans hi3 (by decide)), us ++ [y], ?_, upd_same, ?_, ?_⟩
              · exact fun b o e => by
                  have : b ≠ D2 := fun z => by rw [z, hD2] at e; cases e
                  rw [upd_ne this]
                  exact s5 b o e
              · rw [List.length_append]; exact Nat.succ_le_succ hu5
              · rw [e1, List.filter_append, show List.filter (fun q => !decide (q = ps)) [c] = [c] from List.filter_cons_of_pos (p := fun q => !decide (q = ps)) hc, List.map_append]
                exact dpAll_app hus (.cons hd2 .nil)
            · refine ⟨us, s5, hD5, Nat.le_succ_of_le hu5, ?_⟩
              rw [e1, List.filter_append, show List.filter (fun q => !decide (q = ps)) [c] = [] from List.filter_cons_of_neg (p := fun q => !decide (q = ps)) hc]
              simpa using hus
        · obtain ⟨us, s5, hD5, hu5, hus⟩ := hp
          rw [show cs.take [V.ref D, .ref p3, .ref p4].length = cs from by rw [show [V.ref D, V.ref p3, V.ref p4].length = cs.length from c3.symm]; exact List.take_length] at hus
          exact q' D2 us H5 (Same.trans sH s5) (Same.free sH hD2) hD5 (dpAll_same s5 _ _ hus)
end
end Sg

set_option maxRecDepth 100000
set_option maxHeartbeats 4000000
/-! sorted of a list of data that may be compared: what comes out, as data -/
namespace SD
open PySem PySem.Spec PySem.W PyProof.Rows L2 Cm PySem.SeqAt
theorem each_of {K : PySem.W.Frag} {H : Hp} : ∀ {ys : List V} {us : List Value} {ds : List PyData}, Vals ys us → DpAll K H ys ds → EachIs (fun (v : Value) (d : PyData) => ∃ x : V, RelV x v ∧ Dp K H x d) us ds
  | _, _, _, .nil, .nil => .nil
  | _, _, _, .cons r rs, .cons a b => .cons ⟨_, r, a⟩ (each_of rs b)
theorem of_each {K : PySem.W.Frag} {H : Hp} : ∀ {us : List Value} {ds : List PyData}, EachIs (fun (v : Value) (d : PyData) => ∃ x : V, RelV x v ∧ Dp K H x d) us ds → ∃ ys : List V, Vals ys us ∧ DpAll K H ys ds
  | _, _, .nil => ⟨[], .nil, .nil⟩
  | _, _, .cons ⟨x, r, a⟩ h => by
    obtain ⟨ys, rs, b⟩ := of_each h
    exact ⟨x :: ys, .cons r rs, .cons a b⟩
theorem each_imp {α β : Type} {R S : α → β → Prop} (h : ∀ a b, R a b → S a b) : ∀ {as : List α} {bs : List β}, EachIs R as bs → EachIs S as bs
  | _, _, .nil => .nil
  | _, _, .cons a b => .cons (h _ _ a) (each_imp h b)
/-- sorted(xs): data, alike, not too deep -/
def rSortD (K : PySem.W.Frag) : List V → Hp → VK → Prop := fun xs H Q => ∃ a ys ds, xs = [V.ref a] ∧ SqL K H a ys ∧ DpAll K H ys ds ∧ AllAlike ds ∧ Sortable ds ∧ (∀ d ∈ ds, d.depth ≤ 50) ∧
  ∀ zs p, DpAll K H zs (ds.mergeSort (dataLe false id)) → H p = none → Q (.ref p) (upd H p (.lst zs))
theorem cr_sortD {X : Cx} (hu : X.A.units + 60 < cLine) : CallR X (.builtin "sorted") (rSortD X.K) := by
  intro pins s σ H vs us Q I r h
  obtain ⟨a, ys, ds, rfl, hs, hd, hal, hk, hdp, q⟩ := h
  obtain ⟨its, rv, hl, hz⟩ := I.list hs
  rw [Vals.ref1 r]
  have e := each_of rv hd
  have hlen0 : ys.length = its.length := rv.length
  have hlen : ds.length ≤ sizeLine := by rw [← e.length, ← hlen0]; exact hz
  have er : EachIs (fun (v : Value) (d : PyData) => ∃ as, Reads s.heap v (id d) as) its ds := each_imp (fun v d ⟨x, rx, dx⟩ => Dp.reads I _ _ _ dx rx) e
  have hb2 : ∀ b, b ∈ ds → X.A.units + 2 + (id b).depth < cLine := fun b hb => by
    have := hdp b hb
    show X.A.units + 2 + b.depth < cLine
    omega
  refine PySem.W.sorted_data (enc := id) hl.isList e er (by simpa using hal) (by simpa using hk) hlen hb2 (fun out ho eo => ?_)
  obtain ⟨zs, rz, dz⟩ := of_each eo
  obtain ⟨ep, he'⟩ := PyProof.Rows.sortedAll_at s.heap its out.toArray
  have zl : zs.length ≤ sizeLine := by rw [rz.length, ho]; exact hlen
  exact ⟨.ref _, upd H (s.heap.objs.size + 1) (.lst zs), I.laid (t' := s.toks) (fun _ _ => PyProof.Rows.sortedAll_old) (Nat.le_succ _) ⟨zl, out, ep, rz, he'⟩, rfl, q zs _ dz (I.hok.fresh (Nat.le_succ _))⟩
end SD

set_option maxRecDepth 100000
set_option maxHeartbeats 8000000
namespace Sg
open PySem PySem.Spec PyProof.Rows L2 Dr Gd Er Cm Ow XT TM Tw
abbrev sChoice : Stmt := top 26
/-- names of N, each at most once, told as a list -/
def chL (N : List Str) : List Str → List PyData → Option (List Str)
  | acc, [] => some acc
  | acc, .str z :: ds => if decide (z ∈ N) && !decide (z ∈ acc) then chL N (acc ++ [z]) ds else none
  | _, _ :: _ => none
def chO (N : List Str) : PyData → Option (List Str)
  | .list ds => chL N [] ds
  | _ => none
def kvT (acc : List Str) : List (Key × V) := acc.map fun z => (Sum.inr z, V.bl true)
theorem kvT_val (acc : List Str) (z : Str) : (valV (kvT acc) (Sum.inr z)).isSome = decide (z ∈ acc) := by
  rw [← valV_any]
  unfold kvT
  rw [List.any_map]
  induction acc with
  | nil => rfl
  | cons a acc ih =>
    rw [List.any_cons, ih]
    simp only [Function.comp, List.mem_cons]
    by_cases h : z = a
    · subst h; simp
    · have h1 : ¬ (Sum.inr a : Key) = Sum.inr z := fun e => h (by injection e with e; exact e.symm)
      simp [h, h1]
theorem kvT_put {acc : List Str} {z : Str} (h : decide (z ∈ acc) = false) : putK (kvT acc) (Sum.inr z) (.bl true) = kvT (acc ++ [z]) := by
  have e : valV (kvT acc) (Sum.inr z) = none := by
    have := kvT_val acc z
    rw [h] at this
    cases q : valV (kvT acc) (Sum.inr z) with
    | none => rfl
    | some v => rw [q] at this; cases this
  rw [putK_new _ e]
  unfold kvT
  rw [List.map_append]
  rfl
theorem any_names (N : List Str) (d : PyData) : ((N.map PyData.str).any fun z => PyData.eqv z d) = (match d with | .str z => decide (z ∈ N) | _ => false) := by
  rw [List.any_map]
  induction N with
  | nil => cases d <;> rfl
  | cons a N ih =>
    rw [List.any_cons, ih]
    cases d with
    | str z =>
      simp only [Function.comp, List.mem_cons]
      show ((a == z) || _) = _
      by_cases h : z = a
      · subst h; simp
      · have h1 : (a == z) = false := by simpa using fun e => h e.symm
        simp [h, h1]
    | _ => rfl
theorem sh_list {ds : List PyData} (h : SeqAt.shaped (.list ds) = true) : ∀ d ∈ ds, SeqAt.shaped d = true := by
  unfold SeqAt.shaped at h
  rw [Bool.and_eq_true] at h
  have h1 : PyData.canLayAll0 ds = true := h.1
  have h2 := of_decide_eq_true h.2
  simp only [PyData.depth] at h2
  have h3 : PyData.depthAll ds ≤ 63 := by omega
  clear h h2
  revert h1 h3
  induction ds with
  | nil => intro _ _ d hd; cases hd
  | cons x ds ih =>
    intro h1 h2 d hd
    simp only [PyData.canLayAll0, Bool.and_eq_true] at h1
    simp only [PyData.depthAll] at h2
    rcases List.mem_cons.mp hd with rfl | hd
    · unfold SeqAt.shaped
      rw [h1.1, Bool.true_and]
      exact decide_eq_true (by omega)
    · exact ih h1.2 (by omega) d hd
def spChoice (K : PySem.W.Frag) : Sp := fun vs H Q _ => ∃ v d w N, vs = [v, w] ∧ Dp K H v d ∧ Dp K H w (.list (N.map .str)) ∧ SeqAt.shaped d = true ∧ (∀ z ∈ N, PyData.strOk z = true) ∧ (∀ ds, d = .list ds → ds.length ≤ 1000) ∧ ∀ H', Same H H' → Q (.bl (chO N d).isSome) H'
theorem chL_len {N : List Str} : ∀ {ds : List PyData} {acc r : List Str}, chL N acc ds = some r → r.length = acc.length + ds.length
  | [], acc, r, h => by rw [chL] at h; obtain rfl := Option.some.inj h; rfl
  | .str z :: ds, acc, r, h => by
    rw [chL] at h
    split at h
    · have := chL_len h
      rw [this, List.length_append]
      simp only [List.length_cons, List.length_nil]
      omega
    · cases h
  | .none :: ds, acc, r, h => by simp [chL] at h
  | .bool _ :: ds, acc, r, h => by simp [chL] at h
  | .int _ :: ds, acc, r, h => by simp [chL] at h
  | .list _ :: ds, acc, r, h => by simp [chL] at h
  | .tuple _ :: ds, acc, r, h => by simp [chL] at h
  | .dict _ :: ds, acc, r, h => by simp [chL] at h
theorem chL_mem {N : List Str} : ∀ {ds : List PyData} {acc r : List Str}, chL N acc ds = some r → acc.Nodup → (∀ z ∈ acc, z ∈ N) → r.Nodup ∧ (∀ z ∈ r, z ∈ N) ∧ ∃ zs, ds = zs.map PyData.str ∧ r = acc ++ zs
  | [], acc, r, h, nd, hm => by rw [chL] at h; obtain rfl := Option.some.inj h; exact ⟨nd, hm, [], rfl, by simp⟩
  | .str z :: ds, acc, r, h, nd, hm => by
    rw [chL] at h
    split at h
    · rename_i c
      rw [Bool.and_eq_true] at c
      have c1 := of_decide_eq_true c.1
      have c2 : z ∉ acc := by simpa using c.2
      obtain ⟨a, b, zs, e1, e2⟩ := chL_mem h (by
        rw [List.nodup_append]
        exact ⟨nd, by simp, fun x hx y hy => by rw [List.mem_singleton.mp hy]; exact fun e => c2 (e ▸ hx)⟩) (fun x hx => by
          rcases List.mem_append.mp hx with hx | hx
          · exact hm x hx
          · rw [List.mem_singleton.mp hx]; exact c1)
      exact ⟨a, b, z :: zs, by rw [e1]; rfl, by rw [e2, List.append_assoc]; rfl⟩
    · cases h
  | .none :: ds, acc, r, h, _, _ => by simp [chL] at h
  | .bool _ :: ds, acc, r, h, _, _ => by simp [chL] at h
  | .int _ :: ds, acc, r, h, _, _ => by simp [chL] at h
  | .list _ :: ds, acc, r, h, _, _ => by simp [chL] at h
  | .tuple _ :: ds, acc, r, h, _, _ => by simp [chL] at h
  | .dict _ :: ds, acc, r, h, _, _ => by simp [chL] at h
theorem chL_all {N : List Str} : ∀ {zs acc : List Str}, (∀ z ∈ zs, z ∈ N) → zs.Nodup → (∀ z ∈ zs, z ∉ acc) → chL N acc (zs.map PyData.str) = some (acc ++ zs)
  | [], acc, _, _, _ => by simp [chL]
  | z :: zs, acc, h, nd, hd => by
    rw [List.map_cons, chL, if_pos (by simp [h z List.mem_cons_self, hd z List.mem_cons_self])]
    rw [List.nodup_cons] at nd
    rw [chL_all (fun x hx => h x (List.mem_cons_of_mem _ hx)) nd.2 (fun x hx hm => by
      rcases List.mem_append.mp hm with hm | hm
      · exact hd x (List.mem_cons_of_mem _ hx) hm
      · rw [List.mem_singleton.mp hm] at hx
        exact nd.1 hx), List.append_assoc]
    rfl
section
variable {P : Program} {w : World} {K : PySem.W.Frag} {mg : Str → Option Value} {base : Heap}
theorem scCh : FnScope ["value", "names", "met", "name"] ["value", "names"] (defScope sChoice) := ⟨rfl, rfl, rfl, by decide +kernel, rfl, by decide +kernel, by decide +kernel⟩
theorem ok_choice {f : Addr} {fd : FuncData} (F : Fun K "is_choice" "is_choice" sChoice f fd) (T : KTxt mg) (hls : mg "list" = none) : FnOk P w K mg base CX0 1 f fd ["value", "names"] (spChoice K) := by
  refine F.ok scCh (fun vs H Q E h => ?_) (fun cdv A outer s H vs Q E hr h => ?_)
  · obtain ⟨v, d, w, N, rfl, _⟩ := h
    rfl
  · obtain ⟨v, d, w, N, rfl, hd, hw, hsh, hN, hNl, q⟩ := h
    have hu := hu_of hr
    have hu2 : (A.deeper (envOfC "is_choice" (defScope sChoice) s.heap.objs.size f cdv)).units + 65 < cLine := by
      have := hr.un
      omega
    refine ⟨_, pss_cons (ps_if (pt_not (pt_val (pe_callB call_isi (by rfl) T.isi (by decide +kernel) (pa_cons (pv 0) (pa_cons (pe_bltn (v := .ty "list") (by rfl) hls (by decide +kernel) rfl) pa_nil)))))
        (pss_one (ps_ret pe_bl)) pss_nil)
      (pss_cons (ps_set (i := 2) scCh.nd rfl (Or.inl rfl) pe_dnewK)
      (pss_cons (ps_for PassesOwn.never rfl (pi_list (pv 0)) (pg_name (i := 3) scCh.nd rfl (Or.inl rfl))
        (pss_cons (ps_if (PW.pt (pw_or (pt_cmpR (op_notInD hu2) (pv 3) (pv 1) (by rfl)) (pw_or1 (pt_cmp (pc_din hu (pv 3) (pv 2))))))
          (pss_one (ps_ret pe_bl)) pss_nil)
        (pss_one (ps_dput hu (pv 2) (pv 3) pe_bl rfl))))
      (pss_one (ps_ret pe_bl)))), ?_⟩
    refine ⟨_, rfl, v, .ty "list", .type (tyD d), .type "list", _, rfl, .ty _, ty_dp hd, kit_ty (k_list d), _, rfl, ?_⟩
    cases d with
    | list ds =>
      cases hd with
      | lst h1 h2 =>
        rename_i a xs
        refine iteF ?_
        have hl := dpAll_len h2
        have hds := sh_list hsh
        intro dn hdn
        have s0 := same_upd (o := .dK []) hdn
        refine ⟨_, rfl, a, rfl, ⟨xs, Same.seq s0 h1⟩, ?_⟩
        refine for_it (walk_list (xs := xs)) (fun i σ H' => ∃ acc c3, σ = [some (.ref a), some w, some (.ref dn), c3] ∧ Same H H' ∧ chL N [] ds = chL N acc (ds.drop i) ∧ acc.length ≤ i ∧ H' dn = some (.dK (kvT acc)))
          ⟨[], none, rfl, s0, rfl, Nat.le_refl _, upd_same⟩ (fun i σ H' hi hp => by obtain ⟨_, _, _, sm, _⟩ := hp; exact Same.seq sm h1) (fun i y σ Hq H' hi hp hy => ?_) (fun σ H' hp => ?_)
        · obtain ⟨acc, c3, rfl, sm, hb, hal, hdk⟩ := hp
          obtain ⟨rfl, ey⟩ := hy
          obtain ⟨dz, e3, hz⟩ := dpAll_get' h2 ey
          have e4 : ds.drop i = dz :: ds.drop (i + 1) := by
            obtain ⟨h, e⟩ := List.getElem?_eq_some_iff.mp e3
            rw [List.drop_eq_getElem_cons h, e]
          rw [e4] at hb
          have hz2 := dp_same sm _ _ hz
          have sz := hds dz (List.mem_of_getElem? e3)
          have sN : SeqAt.shaped (.list (N.map PyData.str)) = true := shaped_list fun e he => by
            obtain ⟨z, hz, rfl⟩ := List.mem_map.mp he
            exact ⟨hN z hz, by simp [PyData.depth]⟩
          refine ⟨_, rfl, _, rfl, dz, N.map PyData.str, hz2, dp_same sm _ _ hw, sz, sN, _, rfl, ?_⟩
          rw [any_names]
          have no : (∀ z, dz = .str z → decide (z ∈ N) = false) → Q (.bl false) H' := fun h => by
            have e5 : chL N acc (dz :: ds.drop (i + 1)) = none := by
              cases dz with
              | str z => rw [chL, if_neg (by rw [h z rfl]; simp)]
              | _ => simp [chL]
            have := q H' sm
            rw [show chO N (.list ds) = chL N [] ds from rfl, hb, e5] at this
            exact this
          cases dz with
          | str z =>
            cases hz2
            refine ite2 (fun c => ?_) (fun c => ?_)
            · exact no fun z' e => by
                injection e with e
                subst e
                simpa using c
            · have c : decide (z ∈ N) = true := by simpa using c
              refine ⟨_, rfl, _, rfl, dn, _, rfl, DGet.k (k := Sum.inr z) hdk, _, rfl, ?_⟩
              rw [kvT_val]
              refine ite2 (fun c2 => ?_) (fun c2 => ?_)
              · have e5 : chL N acc (.str z :: ds.drop (i + 1)) = none := by rw [chL, if_neg (by rw [c2]; simp)]
                have := q H' sm
                rw [show chO N (.list ds) = chL N [] ds from rfl, hb, e5] at this
                exact this
              · have c2 : decide (z ∈ acc) = false := by simpa using c2
                have hal2 : acc.length < sizeLine := by
                  have h3 := hNl _ rfl
                  have h4 : acc.length < 1000000 := by omega
                  exact Nat.lt_of_lt_of_le h4 (by decide)
                refine ⟨_, rfl, _, rfl, dn, _, rfl, DPut.k (k := Sum.inr z) hdk (by unfold kvT; rw [List.length_map]; exact hal2), ?_⟩
                refine ⟨acc ++ [z], _, rfl, ?_, ?_, ?_, ?_⟩
                · exact fun b o e => by
                    rw [upd_ne (ne_of_none e hdn)]
                    exact sm b o e
                · rw [hb, chL, if_pos (by rw [c, c2]; rfl)]
                · rw [List.length_append]
                  exact Nat.succ_le_succ hal
                · rw [upd_same, kvT_put c2]
          | _ => exact iteT (no fun z e => by cases e)
        · obtain ⟨acc, c3, rfl, sm, hb, hal, hdk⟩ := hp
          have := q H' sm
          rw [show chO N (.list ds) = chL N [] ds from rfl, hb, hl, List.drop_length, chL] at this
          exact this
    | _ => exact iteT (q H (Same.refl H))
end
end Sg

set_option maxRecDepth 100000
/-! [e for a in xs for b in ys]: both walks by what holds at each turn -/
namespace LC2
open PySem PySem.Spec PyProof.Rows L2
section
variable {J : It} {n : Nat} {G : Hp → Prop} {Y : Nat → Hp → V → Hp → Prop}
theorem in_it (w : Walk J n G Y) {σ2 : L2.St} {H4 : Hp} {Nx : Hp → Prop} {g1 : TG} {tt1 : TT} {te : TE} {vs1 : List Nat} {D : Addr} (Pv : Nat → Hp → Prop) (h0 : Pv 0 H4) (hG : ∀ i H, i ≤ n → Pv i H → G H)
    (hs : ∀ i x H H', i < n → Pv i H → Y i H x H' → g1 x (wipe σ2 vs1) H' fun σ3 H5 => wipe σ3 vs1 = wipe σ2 vs1 ∧ tt1 σ3 H5 fun b H6 =>
      if b = true then te σ3 H6 fun y H7 => ∃ acc, H7 D = some (.lst acc) ∧ acc.length < sizeLine ∧ Pv (i + 1) (upd H7 D (.lst (acc ++ [y]))) else Pv (i + 1) H6) (hd : ∀ H, Pv n H → Nx H) :
    ∃ W1 : Nat → Nat → Hp → Prop, (∃ m, W1 0 m H4) ∧ ∀ j k H, W1 j k H →
      (J.stop j H ∧ Nx H) ∨ (J.go j H ∧ ∃ Nx1 : Hp → Prop, (∀ H', Nx1 H' → ∃ k', k' < k ∧ W1 (j + 1) k' H') ∧ ∀ x H', J.yld j H x H' → g1 x (wipe σ2 vs1) H' fun σ3 H5 => wipe σ3 vs1 = wipe σ2 vs1 ∧ tt1 σ3 H5 fun b H6 =>
        if b = true then te σ3 H6 fun y H7 => ∃ acc, H7 D = some (.lst acc) ∧ acc.length < sizeLine ∧ Nx1 (upd H7 D (.lst (acc ++ [y]))) else Nx1 H6) := by
  refine ⟨fun i m H => m = n - i ∧ i ≤ n ∧ Pv i H, ⟨n, by simp, Nat.zero_le _, h0⟩, ?_⟩
  rintro i m H ⟨rfl, hi, p⟩
  have q := hG i H hi p
  by_cases hlt : i < n
  · refine .inr ⟨w.goes i H hlt q, Pv (i + 1), fun H' p' => ⟨n - (i + 1), by omega, rfl, hlt, p'⟩, fun x H' y => hs i x H H' hlt p (w.yields i H x H' hlt q y)⟩
  · have e : i = n := by omega
    subst e
    exact .inl ⟨w.stops H q, hd H p⟩
theorem lc2_it (w : Walk J n G Y) {g : TG} {tt : TT} {wi1 : TI} {g1 : TG} {tt1 : TT} {te : TE} {vs vs1 : List Nat} {σ : L2.St} {H1 : Hp} {D : Addr} {Qd : Hp → Prop} (Pv : Nat → Hp → Prop) (h0 : Pv 0 (upd H1 D (.lst []))) (hG : ∀ i H, i ≤ n → Pv i H → G H)
    (hs : ∀ i x H H', i < n → Pv i H → Y i H x H' → g x (wipe σ vs) H' fun σ2 H2 => wipe σ2 vs = wipe σ vs ∧ tt σ2 H2 fun b H3 =>
      if b = true then wi1 σ2 H3 fun J1 H4 => ∃ W1 : Nat → Nat → Hp → Prop, (∃ m, W1 0 m H4) ∧ ∀ j k H, W1 j k H →
        (J1.stop j H ∧ Pv (i + 1) H) ∨ (J1.go j H ∧ ∃ Nx1 : Hp → Prop, (∀ H', Nx1 H' → ∃ k', k' < k ∧ W1 (j + 1) k' H') ∧ ∀ x H', J1.yld j H x H' → g1 x (wipe σ2 vs1) H' fun σ3 H5 => wipe σ3 vs1 = wipe σ2 vs1 ∧ tt1 σ3 H5 fun b H6 =>
          if b = true then te σ3 H6 fun y H7 => ∃ acc, H7 D = some (.lst acc) ∧ acc.length < sizeLine ∧ Nx1 (upd H7 D (.lst (acc ++ [y]))) else Nx1 H6)
      else Pv (i + 1) H3) (hd : ∀ H, Pv n H → Qd H) :
    ∃ W : Nat → Nat → Hp → Prop, (∃ m, W 0 m (upd H1 D (.lst []))) ∧ ∀ i m H, W i m H →
      (J.stop i H ∧ Qd H) ∨ (J.go i H ∧ ∃ Nx : Hp → Prop, (∀ H', Nx H' → ∃ m', m' < m ∧ W (i + 1) m' H') ∧ ∀ x H', J.yld i H x H' → g x (wipe σ vs) H' fun σ2 H2 => wipe σ2 vs = wipe σ vs ∧ tt σ2 H2 fun b H3 =>
        if b = true then wi1 σ2 H3 fun J1 H4 => ∃ W1 : Nat → Nat → Hp → Prop, (∃ m, W1 0 m H4) ∧ ∀ j k H, W1 j k H →
          (J1.stop j H ∧ Nx H) ∨ (J1.go j H ∧ ∃ Nx1 : Hp → Prop, (∀ H', Nx1 H' → ∃ k', k' < k ∧ W1 (j + 1) k' H') ∧ ∀ x H', J1.yld j H x H' → g1 x (wipe σ2 vs1) H' fun σ3 H5 => wipe σ3 vs1 = wipe σ2 vs1 ∧ tt1 σ3 H5 fun b H6 =>
            if b = true then te σ3 H6 fun y H7 => ∃ acc, H7 D = some (.lst acc) ∧ acc.length < sizeLine ∧ Nx1 (upd H7 D (.lst (acc ++ [y]))) else Nx1 H6)
        else Nx H3) := by
  refine ⟨fun i m H => m = n - i ∧ i ≤ n ∧ Pv i H, ⟨n, by simp, Nat.zero_le _, h0⟩, ?_⟩
  rintro i m H ⟨rfl, hi, p⟩
  have q := hG i H hi p
  by_cases hlt : i < n
  · refine .inr ⟨w.goes i H hlt q, Pv (i + 1), fun H' p' => ⟨n - (i + 1), by omega, rfl, hlt, p'⟩, fun x H' y => hs i x H H' hlt p (w.yields i H x H' hlt q y)⟩
  · have e : i = n := by omega
    subst e
    exact .inl ⟨w.stops H q, hd H p⟩
end
end LC2

set_option maxRecDepth 100000
set_option maxHeartbeats 8000000
namespace Sg
open PySem PySem.Spec PyProof.Rows L2 Dr Gd Er Cm Ow XT TM Tw SD
abbrev sFactsOf : Stmt := top 44
def abD (f g : Str) : PyData := .tuple [.str "above", .str f, .str g]
def aboveL : List Str → List PyData
  | [] => []
  | f :: r => r.map (abD f) ++ aboveL r
def wayD (lots : List Str) (f : Str) : PyData := .tuple [.str (if decide (f ∈ lots) then "lots" else "left"), .str f]
def wayL (lots ways : List Str) : List PyData := ways.map (wayD lots)
def factsD (row lots ways : List Str) : List PyData := (aboveL row ++ wayL lots ways).mergeSort (PySem.W.dataLe false id)
theorem abl_len : ∀ row : List Str, (aboveL row).length ≤ row.length * row.length
  | [] => Nat.le_refl _
  | f :: r => by
    have := abl_len r
    rw [aboveL, List.length_append, List.length_map, List.length_cons]
    have e : (r.length + 1) * (r.length + 1) = r.length * r.length + r.length + r.length + 1 := by
      rw [Nat.add_mul, Nat.mul_add]
      omega
    omega
theorem inV_str (z : Str) (zs : List Str) : inV (.str z) (zs.map V.str) = decide (z ∈ zs) := by
  unfold inV
  rw [List.any_map]
  induction zs with
  | nil => rfl
  | cons a zs ih =>
    rw [List.any_cons, ih]
    show ((a == z) || _) = _
    by_cases h : z = a
    · subst h; simp
    · have h1 : (a == z) = false := by simpa using fun e => h e.symm
      simp [h, h1]
theorem flat_strs (zs : List Str) : (zs.map V.str).all flatV = true := by
  rw [List.all_map]
  exact List.all_eq_true.mpr fun _ _ => rfl
theorem strs_at {row : List Str} {i : Nat} {v : V} (h : (row.map V.str)[i]? = some v) : ∃ z, row[i]? = some z ∧ v = .str z := by
  rw [List.getElem?_map] at h
  cases e : row[i]? with
  | none => rw [e] at h; cases h
  | some z => rw [e] at h; exact ⟨z, rfl, (Option.some.inj h).symm⟩
theorem cut_from (xs : List V) (k : Nat) : cutV xs (some (k : Int)) none = xs.drop k := by
  unfold cutV
  rw [HT.sIx_none, HT.sIx_nat]
  rcases Nat.le_total k xs.length with h | h
  · rw [Nat.min_eq_left h, List.take_of_length_le (by rw [List.length_drop]; omega)]
  · rw [Nat.min_eq_right h, List.drop_eq_nil_of_le h, List.drop_eq_nil_of_le (Nat.le_refl _), List.take_nil]
theorem del_sub {H : Hp} {p : Addr} : Same (L2.del H p) H := fun b o e => by
  by_cases hb : b = p
  · subst hb; rw [del_same] at e; cases e
  · rw [del_ne hb] at e; exact e
inductive FactD : PyData → Prop where
  | ab (f g : Str) : FactD (abD f g)
  | way (w f : Str) : FactD (.tuple [.str w, .str f])
theorem abl_fact : ∀ {row : List Str}, ∀ d ∈ aboveL row, FactD d
  | [], d, h => by cases h
  | f :: r, d, h => by
    rw [aboveL] at h
    rcases List.mem_append.mp h with h | h
    · obtain ⟨g, _, rfl⟩ := List.mem_map.mp h
      exact .ab f g
    · exact abl_fact d h
theorem fact_alike : ∀ {a b : PyData}, FactD a → FactD b → PySem.W.alike a b = true := by
  intro a b h1 h2
  cases h1 <;> cases h2 <;> simp [abD, PySem.W.alike, PySem.W.alikeAll]
theorem fact_tup {a : PyData} (h : FactD a) : ∃ x r, a = .tuple (x :: r) := by
  cases h
  · exact ⟨_, _, rfl⟩
  · exact ⟨_, _, rfl⟩
theorem fact_dep {a : PyData} (h : FactD a) : a.depth ≤ 50 := by
  cases h <;> simp [abD, PyData.depth, PyData.depthAll]
def spFactsOf (K : PySem.W.Frag) : Sp := fun vs H Q _ => ∃ a b c row lots ways, vs = [.ref a, .ref b, .ref c] ∧ SqL K H a (row.map V.str) ∧ SqL K H b (lots.map V.str) ∧ SqL K H c (ways.map V.str) ∧ row.length ≤ 5 ∧ ways.length ≤ 5 ∧
  ∀ t xs H', Same H H' → H t = none → H' t = some (.tup xs) → DpAll K H' xs (factsD row lots ways) → Q (.ref t) H'
section
variable {P : Program} {w : World} {K : PySem.W.Frag} {mg : Str → Option Value} {base : Heap}
theorem scFo : FnScope ["names", "lots", "ways", "above", "told", "k", "f", "g"] ["names", "lots", "ways"] (defScope sFactsOf) := ⟨rfl, rfl, rfl, by decide +kernel, rfl, by decide +kernel, by decide +kernel⟩
theorem ok_factsOf {f : Addr} {fd : FuncData} (F : Fun K "_facts_of" "_facts_of" sFactsOf f fd) (enu : mg "enumerate" = none) (srt : mg "sorted" = none) (tpl : mg "tuple" = none) : FnOk P w K mg base CX0 1 f fd ["names", "lots", "ways"] (spFactsOf K) := by
  refine F.ok scFo (fun vs H Q E h => ?_) (fun cdv A outer s H vs Q E hr h => ?_)
  · obtain ⟨a, b, c, row, lots, ways, rfl, _⟩ := h
    rfl
  · obtain ⟨a, b, c, row, lots, ways, rfl, ha, hb, hc, r5, w5, q⟩ := h
    have nd := scFo.nd
    have hu : (A.deeper (envOfC "_facts_of" (defScope sFactsOf) s.heap.objs.size f cdv)).units + 60 < cLine := by
      have := hr.un
      omega
    refine ⟨_, pss_cons (ps_setLc2 (i := 3) (own := [("k", 5), ("f", 6), ("g", 7)]) (vs1 := [7]) (g := gTup K 2 (gCons (gName 5) (gCons (gName 6) gNil))) (tt := tYes) (wi1 := iList K (tSl (rSlL K) (tVar 0) (tPart (tOp (rI0 fun i j => .int (i + j)) (tVar 5) (tC (.int 1)))) tNoPart)) (g1 := gName 7) (tt1 := tYes) (te := tTup (tCons (tC (.str "above")) (tCons (tVar 6) (tCons (tVar 7) tNil)))) (by rfl) nd rfl rfl (sw_true rfl rfl rfl (by decide +kernel))
          (pi_enum (by rfl) enu (pa_cons (pv 0) pa_nil)) (blkOk_by (N := ["names", "lots", "ways", "above", "told", "k", "f", "g"]) (sc := defScope sFactsOf) (by decide +kernel)) (by decide)
          (fun _ _ _ _ _ => pg_tup rfl (pgs_cons (pg_name (i := 5) nd rfl (Or.inl rfl)) (pgs_cons (pg_name (i := 6) nd rfl (Or.inl rfl)) pgs_nil))) (fun _ _ _ _ _ => pts_nil)
          (fun _ _ _ _ _ => pi_list (pe_slice sl_list (pv 0) (po_some (pe_op op_add (pv 5) pe_int)) po_none)) (fun _ _ _ _ _ => pg_name (i := 7) nd rfl (Or.inl rfl)) (fun _ _ _ _ _ => pts_nil)
          (fun _ _ _ _ _ => pe_tup (pa_cons pe_str (pa_cons (pv 6) (pa_cons (pv 7) pa_nil)))))
      (pss_cons (ps_setLc (i := 4) (own := [("f", 6)]) (g := gName 6) (tt := tYes) (te := tTup (tCons (tIf (tTest (tOp (rIn K false) (tVar 6) (tVar 1))) (tC (.str "lots")) (tC (.str "left"))) (tCons (tVar 6) tNil))) (by rfl) nd rfl rfl (sw_true rfl rfl rfl (by decide +kernel))
          (pi_list (pv 2)) (blkOk_by (N := ["names", "lots", "ways", "above", "told", "k", "f", "g"]) (sc := defScope sFactsOf) (by decide +kernel)) (fun _ _ _ _ _ => pg_name (i := 6) nd rfl (Or.inl rfl)) (fun _ _ _ _ _ => pts_nil)
          (fun _ _ _ _ _ => pe_tup (pa_cons (pe_ifExp (pt_cmpR op_in_seq (pv 6) (pv 1) (by rfl)) pe_str pe_str) (pa_cons (pv 6) pa_nil))))
      (pss_one (ps_ret (pe_callTy call_tuple_of (by rfl) tpl (by decide +kernel) (pa_cons (pe_callB (show CallR _ (.builtin "sorted") (rSortD K) from cr_sortD hu) (by rfl) srt (by decide +kernel) (pa_cons (pe_op op_cat (pv 3) (pv 4)) pa_nil)) pa_nil))))), ?_⟩
    have hn := nd
    have bigL : ∀ {n : Nat}, n ≤ 100 → n < sizeLine := fun h => Nat.lt_of_le_of_lt h (by decide)
    have al : (aboveL row).length ≤ 25 := Nat.le_trans (abl_len row) (Nat.mul_le_mul r5 r5)
    refine ⟨_, rfl, a, _, rfl, ha, fun D hD => ?_⟩
    have nD : ∀ {b : Addr} {o : HO}, H b = some o → b ≠ D := fun e => ne_of_none e hD
    refine LC2.lc2_it (walk_enum (xs := row.map V.str)) (fun i H' => ∃ us acc, Same H H' ∧ H' D = some (.lst us) ∧ DpAll K (L2.del H' D) us acc ∧ aboveL row = acc ++ aboveL (row.drop i)) ⟨[], [], same_upd hD, upd_same, .nil, rfl⟩ (fun i H' hi hp => by obtain ⟨_, _, sm, _⟩ := hp; exact Same.seq sm ha) (fun i y H1 H2 hi hp hy => ?_) (fun H' hp => ?_)
    · obtain ⟨us, acc, sm, hDl, hus, hab⟩ := hp
      obtain ⟨t, n1, z1, rfl, hT, rfl, e1, e2⟩ := hy
      cases e1
      obtain ⟨z, ez, rfl⟩ := strs_at e2
      have sT := same_upd (o := .tup [V.int (i : Nat), V.str z]) hT
      refine ⟨t, _, rfl, SqT.of upd_same, rfl, ?_⟩
      refine ⟨_, _, rfl, _, _, rfl, rfl, ?_⟩
      refine ⟨rfl, lcYes ?_⟩
      have s1 := Same.trans sm sT
      have D1 := sT _ _ hDl
      have hus1 : DpAll K (L2.del (L2.upd H1 t (.tup [V.int (i : Nat), V.str z])) D) us acc := dpAll_same (SameX.del (Same.x sT)) _ _ hus
      have edr : row.drop i = z :: row.drop (i + 1) := by
        obtain ⟨h, e⟩ := List.getElem?_eq_some_iff.mp ez
        rw [List.drop_eq_getElem_cons h, e]
      have hab1 : aboveL row = acc ++ ((row.drop (i + 1)).map (abD z) ++ aboveL (row.drop (i + 1))) := by rw [hab, edr, aboveL]
      generalize (L2.upd H1 t (.tup [V.int (i : Nat), V.str z])) = H2 at s1 D1 hus1 ⊢
      refine ⟨_, rfl, _, rfl, _, _, rfl, rfl, _, rfl, a, _, rfl, Same.seq s1 ha, fun p hp => ?_⟩
      rw [show ((i : Nat) : Int) + 1 = ((i + 1 : Nat) : Int) by omega, cut_from, ← List.map_drop]
      have sp := same_upd (o := .lst ((row.drop (i + 1)).map V.str)) hp
      have ep : (L2.upd H2 p (.lst ((row.drop (i + 1)).map V.str))) p = some (.lst ((row.drop (i + 1)).map V.str)) := upd_same
      have s2 := Same.trans s1 sp
      have D2 := sp _ _ D1
      have hus2 := dpAll_same (SameX.del (p := D) (Same.x sp)) _ _ hus1
      have pD : p ≠ D := fun z => by rw [z, D1] at hp; cases hp
      generalize (L2.upd H2 p (.lst ((row.drop (i + 1)).map V.str))) = H3 at ep s2 D2 hus2 ⊢
      refine ⟨p, rfl, ⟨_, SqL.of ep⟩, ?_⟩
      refine LC2.in_it (walk_list (xs := (row.drop (i + 1)).map V.str)) (fun j H' => ∃ us acc, Same H H' ∧ H' p = some (.lst ((row.drop (i + 1)).map V.str)) ∧ H' D = some (.lst us) ∧ DpAll K (L2.del H' D) us acc ∧ aboveL row = acc ++ (((row.drop (i + 1)).drop j).map (abD z) ++ aboveL (row.drop (i + 1))))
        ⟨us, acc, s2, ep, D2, hus2, by rw [List.drop_zero]; exact hab1⟩ (fun j H' hj hp => by obtain ⟨_, _, _, e, _⟩ := hp; exact SqL.of e) (fun j y Hq H' hj hp hy => ?_) (fun H' hp => ?_)
      · obtain ⟨us, acc, sm, ep, hDl, hus, hab⟩ := hp
        obtain ⟨rfl, ey⟩ := hy
        obtain ⟨z2, ez2, rfl⟩ := strs_at ey
        have edr2 : (row.drop (i + 1)).drop j = z2 :: (row.drop (i + 1)).drop (j + 1) := by
          obtain ⟨h, e⟩ := List.getElem?_eq_some_iff.mp ez2
          rw [List.drop_eq_getElem_cons h, e]
        rw [edr2, List.map_cons] at hab
        refine ⟨rfl, lcYes ?_⟩
        refine ⟨_, rfl, _, rfl, (by show 3 ≤ sizeLine; decide), fun t3 ht3 => ?_⟩
        have st := same_upd (o := .tup [V.str "above", .str z, .str z2]) ht3
        have D3 := st _ _ hDl
        have tD : t3 ≠ D := fun z => by rw [z, hDl] at ht3; cases ht3
        have lus := dpAll_len hus
        have lac : acc.length + 1 ≤ 25 := by
          have := congrArg List.length hab
          rw [List.length_append, List.length_append, List.length_cons] at this
          omega
        refine ⟨us, D3, bigL (by omega), us ++ [.ref t3], acc ++ [abD z z2], ?_, ?_, upd_same, ?_, ?_⟩
        · exact fun b o e => by
            rw [upd_ne (nD e)]
            exact st _ _ (sm b o e)
        · rw [upd_ne pD]
          exact st _ _ ep
        · rw [del_upd]
          refine dpAll_app (dpAll_same (SameX.del (Same.x st)) _ _ hus) (.cons (.tup (SqT.of (by rw [del_ne tD, upd_same])) (.cons (.str _) (.cons (.str _) (.cons (.str _) .nil)))) .nil)
        · rw [hab, List.append_assoc]
          rfl
      · obtain ⟨us, acc, sm, ep, hDl, hus, hab⟩ := hp
        rw [List.length_map, List.drop_length] at hab
        exact ⟨us, acc, sm, hDl, hus, hab⟩
    · obtain ⟨us, acc, sm, hDl, hus, hab⟩ := hp
      rw [List.length_map, List.drop_length, aboveL, List.append_nil] at hab
      subst hab
      have hus' := dpAll_same (del_sub (H := H') (p := D)) _ _ hus
      refine ⟨_, rfl, c, rfl, ⟨_, Same.seq sm hc⟩, fun D2 hD2 => ?_⟩
      have nD2 : ∀ {b : Addr} {o : HO}, H' b = some o → b ≠ D2 := fun e => ne_of_none e hD2
      refine lc_it (walk_list (xs := ways.map V.str)) (fun i H5 => ∃ ws, Same H' H5 ∧ H5 D2 = some (.lst ws) ∧ DpAll K (L2.del H5 D2) ws (wayL lots (ways.take i))) ⟨[], same_upd hD2, upd_same, .nil⟩ (fun i H5 hi hp => by obtain ⟨_, s5, _⟩ := hp; exact Same.seq s5 (Same.seq sm hc)) (fun i y Hq H5 hi hp hy => ?_) (fun H5 hp => ?_)
      · obtain ⟨ws, s5, e5, d5⟩ := hp
        obtain ⟨rfl, ey⟩ := hy
        obtain ⟨z, ez, rfl⟩ := strs_at ey
        refine ⟨rfl, lcYes ?_⟩
        refine ⟨_, rfl, _, rfl, b, _, rfl, .inl (Same.seq s5 (Same.seq sm hb)), rfl, flat_strs lots, _, rfl, ?_⟩
        rw [if_neg (by decide), inV_str]
        have go : ∀ u : Str, u = (if decide (z ∈ lots) = true then ("lots" : Str) else ("left" : Str)) → ∀ t3, H5 t3 = none → ∃ acc, (L2.upd H5 t3 (.tup [V.str u, .str z])) D2 = some (.lst acc) ∧ acc.length < sizeLine ∧ ∃ ws, Same H' (L2.upd (L2.upd H5 t3 (.tup [V.str u, .str z])) D2 (.lst (acc ++ [.ref t3]))) ∧ (L2.upd (L2.upd H5 t3 (.tup [V.str u, .str z])) D2 (.lst (acc ++ [.ref t3]))) D2 = some (.lst ws) ∧ DpAll K (L2.del (L2.upd (L2.upd H5 t3 (.tup [V.str u, .str z])) D2 (.lst (acc ++ [.ref t3]))) D2) ws (wayL lots (ways.take (i + 1))) := by
          intro u hu t3 ht3
          have st := same_upd (o := .tup [V.str u, .str z]) ht3
          have tD : t3 ≠ D2 := fun z => by rw [z, e5] at ht3; cases ht3
          have lw := dpAll_len d5
          unfold wayL at lw
          rw [List.length_map, List.length_take] at lw
          refine ⟨ws, st _ _ e5, bigL (by omega), ws ++ [.ref t3], ?_, upd_same, ?_⟩
          · exact fun b o e => by
              rw [upd_ne (nD2 e)]
              exact st _ _ (s5 b o e)
          · rw [del_upd]
            unfold wayL
            rw [List.take_succ, ez, List.map_append]
            refine dpAll_app (dpAll_same (SameX.del (Same.x st)) _ _ d5) (.cons ?_ .nil)
            unfold wayD
            rw [← hu]
            exact .tup (SqT.of (by rw [del_ne tD, upd_same])) (.cons (.str _) (.cons (.str _) .nil))
        refine ite2 (fun h => ?_) (fun h => ?_)
        · refine ⟨_, rfl, (by show 2 ≤ sizeLine; decide), fun t3 ht3 => ?_⟩
          exact go "lots" (by rw [if_pos h]) t3 ht3
        · refine ⟨_, rfl, (by show 2 ≤ sizeLine; decide), fun t3 ht3 => ?_⟩
          exact go "left" (by rw [if_neg h]) t3 ht3
      · obtain ⟨ws, s5, e5, d5⟩ := hp
        rw [List.length_map, List.take_length] at d5
        have lus := dpAll_len hus
        have lws := dpAll_len d5
        have lw2 : (wayL lots ways).length = ways.length := List.length_map ..
        refine ⟨_, rfl, _, rfl, D, D2, us, ws, rfl, rfl, s5 _ _ hDl, e5, Nat.le_of_lt (bigL (by omega)), fun p3 hp3 => ?_⟩
        have s6 := same_upd (o := .lst (us ++ ws)) hp3
        have dall : DpAll K (L2.upd H5 p3 (.lst (us ++ ws))) (us ++ ws) (aboveL row ++ wayL lots ways) := dpAll_app (dpAll_same (Same.trans s5 s6) _ _ hus') (dpAll_same s6 _ _ (dpAll_same del_sub _ _ d5))
        have e6 : (L2.upd H5 p3 (.lst (us ++ ws))) p3 = some (.lst (us ++ ws)) := upd_same
        have s06 := Same.trans sm (Same.trans s5 s6)
        have allF : ∀ d ∈ aboveL row ++ wayL lots ways, FactD d := fun d hd => by
          rcases List.mem_append.mp hd with hd | hd
          · exact abl_fact d hd
          · obtain ⟨f, _, rfl⟩ := List.mem_map.mp hd
            exact .way _ f
        generalize (L2.upd H5 p3 (.lst (us ++ ws))) = H6 at dall e6 s06 ⊢
        refine ⟨p3, us ++ ws, _, rfl, SqL.of e6, dall, fun d hd d' hd' => fact_alike (allF d hd) (allF d' hd'), .inl fun d hd => fact_tup (allF d hd), fun d hd => fact_dep (allF d hd), fun zs p7 dz hp7 => ?_⟩
        have s7 := same_upd (o := .lst zs) hp7
        refine ⟨p7, zs, rfl, .inl ⟨SqL.of upd_same, fun t ht => ?_⟩⟩
        have s8 := same_upd (o := .tup zs) ht
        exact q t zs _ (Same.trans s06 (Same.trans s7 s8)) (Same.free (Same.trans s06 s7) ht) upd_same (dpAll_same (Same.trans s7 s8) _ _ dz)
end
end Sg

set_option maxRecDepth 100000
set_option maxHeartbeats 8000000
namespace Sg
open PySem PySem.Spec PyProof.Rows L2 Dr Gd Er Cm Ow XT TM Tw
section
variable {X : Cx} {CX : CXT} {n : Nat} {C f : Addr} {fd : FuncData} {ps : List Str} {sp : Sp} {E : XK}
/-- len(o), o of a class with an own __len__ -/
theorem call_lenOwn (F : FnOk X.prog X.w X.K X.mg X.base CX n f fd ["self"] sp) (hr : Room (n + 1) X.A) (hs : PySem.W.findIn X.K (.ref C) "__len__" = some (some (.ref f))) (hf : PySem.W.isFn X.K (.ref f) = true) (hb : Binds X.K fd ["self"] []) (hx : Passes CX X E) :
    CallR X (.builtin "len") (fun vs H Q => ∃ a dx fs, vs = [.ref a] ∧ H a = some (.ins C dx fs) ∧ sp [.ref a] H (fun v H' => ∃ k : Nat, v = .int (k : Nat) ∧ k < 1000 ∧ Q (.int (k : Nat)) H') E) := by
  intro pins s σ H xs us Q I r h
  obtain ⟨a, dx, fs, rfl, ha, h⟩ := h
  rw [Vals.ref1 r]
  obtain ⟨mA, J, _⟩ := ins_get I.hok ha
  obtain ⟨od, J, _⟩ := J.look
  obtain ⟨m, hF⟩ := I.fr
  have sb : Sub X n X.A.in1 := Sub.in1 ⟨hr, rfl⟩
  refine PySem.W.len_K hF I.ok.mod.kin J hs hf ?_
  have e0 : Env0 X.prog X.w X.K X.mg X.base X.A.in1 X.stack s H := by
    have e := I.env0
    exact ⟨by rw [sb.fr]; exact e.frames, e.mod, e.bs, e.bsz, e.funs, e.frf, e.hok, e.bare⟩
  have b := hb s [.ref a] I.kIn (by rfl)
  rw [List.append_nil] at b
  refine wpAny_call (codeAny_mono (F.run X.A.in1 X.stack s H ⟨[.ref a], []⟩ [.ref a] [.ref a] _ E sb.room e0 b (.cons rfl .nil) h) fun r s' hq => ?_)
  cases r with
  | error e => exact hx pins σ H s e s' I hq
  | ok fl =>
    cases fl with
    | ret w =>
      obtain ⟨z, H', I', rz, k, ez, hk, q⟩ := I.after hq
      subst ez
      obtain ⟨t, rfl⟩ := rz
      exact ⟨⟨by omega, by omega⟩, ⟨.int (k : Nat), H', I'.tok _, ⟨_, rfl⟩, q⟩⟩
    | next => exact False.elim hq
    | brk => exact False.elim hq
    | cont => exact False.elim hq
end
def Fine (ps : List (Str × Int)) : Prop := 1 ≤ ps.length ∧ ps.length ≤ 5 ∧ (ps.map (·.1)).Nodup ∧ ∀ p ∈ ps, wordIn Lc p.1 = true ∧ 0 ≤ p.2 ∧ p.2 ≤ 3
theorem Good.fine {ps : List (Str × Int)} (h : Good ps) : Fine ps := ⟨h.1, by have := h.2.1; omega, h.2.2.1, h.2.2.2.1⟩
theorem fine_ok {ps : List (Str × Int)} (h : Fine ps) : OkNames ps := fun p hp => word_ok (h.2.2.2 p hp).1
theorem sign_pr {z : Str} {n : Int} (h : wordIn Lc z = true) (h0 : 0 ≤ n) (h3 : n ≤ 3) : isSign (.tuple [.str z, .int n]) = true := by
  show (isWord Lc (.str z) && isAr (.int n)) = true
  rw [show isWord Lc (.str z) = true from h]
  show (decide (0 ≤ n) && decide (n ≤ 3)) = true
  simp [h0, h3]
theorem build_ok : ∀ (ps acc : List (Str × Int)) (i : Nat), (∀ p ∈ ps, wordIn Lc p.1 = true ∧ 0 ≤ p.2 ∧ p.2 ≤ 3) → ((acc ++ ps).map (·.1)).Nodup → build (prD ps) acc i = .ok (acc ++ ps)
  | [], acc, i, _, _ => by rw [List.append_nil]; rfl
  | p :: ps, acc, i, h, nd => by
    have hp := h p List.mem_cons_self
    have hn : hasN acc p.1 = false := by
      unfold hasN
      rw [List.any_eq_false]
      intro q hq e
      have e := of_decide_eq_true e
      rw [List.map_append] at nd
      exact (List.nodup_append.mp nd).2.2 q.1 (List.mem_map.mpr ⟨q, hq, rfl⟩) p.1 (by simp) e
    show (if isSign (.tuple [.str p.1, .int p.2]) && !hasN acc (prOf (.tuple [.str p.1, .int p.2])).1 then build (prD ps) (acc ++ [prOf (.tuple [.str p.1, .int p.2])]) (i + 1) else .bad i) = _
    rw [if_pos (by rw [sign_pr hp.1 hp.2.1 hp.2.2]; show (true && !hasN acc p.1) = true; rw [hn]; rfl)]
    have e := build_ok ps (acc ++ [p]) (i + 1) (fun q hq => h q (List.mem_cons_of_mem _ hq)) (by rw [List.append_assoc]; exact nd)
    rw [List.append_assoc] at e
    exact e
theorem made_fine {ps : List (Str × Int)} (h : Fine ps) : madeOf (psD ps) = .ok ps := by
  show madeL (prD ps) = _
  unfold madeL
  have e : (prD ps).length = ps.length := List.length_map ..
  rw [if_pos (by rw [e]; exact ⟨h.1, h.2.1⟩), build_ok ps [] 0 h.2.2.2 (by simpa using h.2.2.1)]
  rfl
theorem word_len {z : Str} (h : wordIn Lc z = true) : z.length ≤ sizeLine := by
  unfold wordIn at h
  rw [Bool.and_eq_true, Bool.and_eq_true] at h
  exact Nat.le_trans (of_decide_eq_true h.2.1) (by decide)
theorem shorts_fine {ps : List (Str × Int)} (h : ∀ p ∈ ps, wordIn Lc p.1 = true) : Shorts (psD ps) := by
  intro e he
  obtain ⟨p, hp, rfl⟩ := List.mem_map.mp he
  exact word_len (h p hp)
structure MkS (P : Program) (w : World) (K : PySem.W.Frag) (mg : Str → Option Value) (base : Heap) (cN cC cB C fi : Addr) (di : FuncData) : Prop where
  mm : Mk K C fi
  ok : FnOk P w K mg base (L2.CX P w) 3 fi di ["self", "pairs"] (spInit K cN cC cB C)
  b : Binds K di ["self", "pairs"] []
  g : mg "Signs" = some (.ref C)
theorem same_ins {H H' : Hp} {x dx C : Addr} (hx : H x = none) (hdx : H dx = none) (s : SameX x (L2.upd (L2.upd H dx (.own x)) x (.ins C dx [])) H') : Same H H' := fun b o e => by
  have n := ne_of_none e hx
  exact s b o (by rw [upd_ne n, upd_ne (ne_of_none e hdx)]; exact e) n
/-- the class as the law asks it -/
structure SgM (P : Program) (w : World) (K : PySem.W.Frag) (mg : Str → Option Value) (base : Heap) (C fl pn gn pw gw fe fh : Addr) (dl dn dw de dh : FuncData) : Prop where
  x : SClx K C
  la : PySem.W.findIn K (.ref C) "__len__" = some (some (.ref fl))
  lf : PySem.W.isFn K (.ref fl) = true
  lo : FnOk P w K mg base CX0 1 fl dl ["self"] (spLen C)
  lb : Binds K dl ["self"] []
  np : PropOf K C "names" pn gn
  no : FnOk P w K mg base CX0 1 gn dn ["self"] (spNames C)
  nb : Binds K dn ["self"] []
  wp : PropOf K C "ways" pw gw
  wo : FnOk P w K mg base CX0 1 gw dw ["self"] (spWays C)
  wb : Binds K dw ["self"] []
  ea : PySem.W.findIn K (.ref C) "__eq__" = some (some (.ref fe))
  ef : PySem.W.isFn K (.ref fe) = true
  eo : FnOk P w K mg base CX0 1 fe de ["self", "other"] (spEq K C)
  eb : Binds K de ["self", "other"] []
  ne : PySem.W.findIn K (.ref C) "__ne__" = some (some (.builtin "object.__ne__"))
  ha : PySem.W.findIn K (.ref C) "__contains__" = some (some (.ref fh))
  hf : PySem.W.isFn K (.ref fh) = true
  ho : FnOk P w K mg base CX0 1 fh dh ["self", "name"] (spHas K C)
  hb : Binds K dh ["self", "name"] []
  nC : PySem.W.notFirst K C (.ref C) = true
  nL : PySem.W.notFirst K C (.type "list") = true
/-- a def of the law that asks for repr -/
structure CalG (P : Program) (w : World) (K : PySem.W.Frag) (mg : Str → Option Value) (base : Heap) (CX : CXT) (k : Nat) (x : Str) (f : Addr) (fd : FuncData) (ps : List Str) (sp : Sp) : Prop where
  ok : FnG P w K mg base CX k f fd ps sp
  g : mg x = some (.ref f)
  kp : PySem.W.keepIn K (.ref f) = true
  b : Binds K fd ps []
theorem same_viaX {p : Addr} {H H1 H2 : Hp} (s : Same H H1) (hp : H p = none) (sx : SameX p H1 H2) : Same H H2 := fun b o e => sx b o (s b o e) (ne_of_none e hp)
end Sg

set_option maxRecDepth 100000
set_option maxHeartbeats 8000000
namespace Sg
open PySem PySem.Spec PyProof.Rows L2 Dr Gd Er Cm Ow XT TM Tw SD
abbrev cOrder : Stmt := top 43
abbrev sOInit : Stmt := inClass cOrder 0
theorem nodup_le : ∀ {l m : List Str}, l.Nodup → (∀ x ∈ l, x ∈ m) → l.length ≤ m.length
  | [], m, _, _ => Nat.zero_le _
  | x :: l, m, nd, h => by
    rw [List.nodup_cons] at nd
    have hx := h x List.mem_cons_self
    have ih := nodup_le (l := l) (m := m.erase x) nd.2 fun y hy => (List.mem_erase_of_ne (fun e => nd.1 (by rw [← e]; exact hy))).mpr (h y (List.mem_cons_of_mem _ hy))
    rw [List.length_erase_of_mem hx] at ih
    have : 0 < m.length := List.length_pos_of_mem hx
    rw [List.length_cons]
    omega
theorem chL_congr {N M : List Str} (h : ∀ z, z ∈ N ↔ z ∈ M) : ∀ (ds : List PyData) (acc : List Str), chL N acc ds = chL M acc ds
  | [], acc => by simp [chL]
  | .str z :: ds, acc => by
    rw [chL, chL, decide_eq_decide.mpr (h z), chL_congr h ds]
  | .none :: ds, acc => by simp [chL]
  | .bool _ :: ds, acc => by simp [chL]
  | .int _ :: ds, acc => by simp [chL]
  | .list _ :: ds, acc => by simp [chL]
  | .tuple _ :: ds, acc => by simp [chL]
  | .dict _ :: ds, acc => by simp [chL]
theorem chO_congr {N M : List Str} (h : ∀ z, z ∈ N ↔ z ∈ M) (d : PyData) : chO N d = chO M d := by
  cases d with
  | list ds => exact chL_congr h ds []
  | _ => rfl
def nmsOf (ps : List (Str × Int)) : List Str := ps.map (·.1)
def lenD : PyData → Nat
  | .list ds => ds.length
  | _ => 0
def rowOf (ps : List (Str × Int)) (d : PyData) : Option (List Str) := match chO (nmsOf ps) d with
  | some row => if row.length = ps.length then some row else none
  | none => none
def lotsOf (ps : List (Str × Int)) (d : PyData) : Option (List Str) := chO (waysOf ps) d
/-- an order of signs, made -/
def OrAt (K : PySem.W.Frag) (C CO : Addr) (H : Hp) (o x : Addr) (ps : List (Str × Int)) (row lots : List Str) : Prop := ∃ dx ln ll tf fs ways, H o = some (.ins CO dx [("signs", .ref x), ("_names", .ref ln), ("_lots", .ref ll), ("_facts", .ref tf)]) ∧ SgAt C H x ps ∧
  H ln = some (.lst (row.map V.str)) ∧ H ll = some (.lst (lots.map V.str)) ∧ H tf = some (.tup fs) ∧ DpAll K H fs (factsD row lots ways) ∧ ways.Perm (waysOf ps) ∧ sortedS ways = true
/-- H' without what are lists in H -/
def nl (H H' : Hp) : Hp := fun b => match H b with
  | some (.lst _) => none
  | _ => H' b
theorem nl_of {H H' : Hp} {b : Addr} {o : HO} (h : H' b = some o) (hn : ∀ xs, H b ≠ some (.lst xs)) : nl H H' b = some o := by
  unfold nl
  split
  · rename_i xs e
    exact absurd e (hn xs)
  · exact h
theorem nl_inv {H H' : Hp} {b : Addr} {o : HO} (h : nl H H' b = some o) : H' b = some o ∧ ∀ xs, H b ≠ some (.lst xs) := by
  unfold nl at h
  split at h
  · cases h
  · rename_i hn
    exact ⟨h, fun xs e => hn xs e⟩
theorem nl_sub {H H' : Hp} : Same (nl H H') H' := fun b o h => (nl_inv h).1
theorem nl_upd {H H' : Hp} {p : Addr} {xs : List V} {o : HO} (h : H p = some (.lst xs)) : Same (nl H H') (L2.upd H' p o) := fun b u e => by
  have hb : b ≠ p := fun z => (nl_inv e).2 xs (z ▸ h)
  rw [upd_ne hb]
  exact (nl_inv e).1
theorem nl_mono {H H1 H2 : Hp} (s : Same H1 H2) : Same (nl H H1) (nl H H2) := fun b o e => nl_of (s _ _ (nl_inv e).1) (nl_inv e).2
theorem nl_pre {H1 H2 H' : Hp} (h : ∀ b xs, H2 b = some (.lst xs) → H1 b = some (.lst xs)) : Same (nl H1 H') (nl H2 H') := fun b o e => nl_of (nl_inv e).1 fun xs z => (nl_inv e).2 xs (h b xs z)
theorem nl_new {o : Addr} {H H1 H' : Hp} {b : Addr} {u : HO} (s : SameX o H H1) (hb : b ≠ o) (hn : H1 b = none) (h : H' b = some u) : nl H H' b = some u := nl_of h fun xs z => by
  have := s _ _ z hb
  rw [hn] at this
  cases this
theorem nl_str {K : PySem.W.Frag} {H H' : Hp} : ∀ {vs : List V} {zs : List Str}, DpAll K H' vs (zs.map .str) → DpAll K (nl H H') vs (zs.map .str)
  | vs, [], h => by cases h; exact .nil
  | vs, z :: zs, h => by
    cases h with
    | cons a b =>
      cases a
      exact .cons (.str z) (nl_str b)
theorem nl_tup {K : PySem.W.Frag} {o : Addr} {H H' : Hp} {v : V} {zs : List Str} (s : SameX o H H') {dx : Addr} {cl : Addr} {fs : List (Str × V)} (ho : H' o = some (.ins cl dx fs)) (h : Dp K H' v (.tuple (zs.map .str))) : Dp K (nl H H') v (.tuple (zs.map .str)) := by
  cases h with
  | tup g1 g2 =>
    rename_i a xs
    refine .tup ?_ (nl_str g2)
    rcases g1 with (e | ⟨u, e⟩) | k
    · refine .inl (.inl (nl_of e fun ys z => ?_))
      by_cases hb : a = o
      · rw [hb, ho] at e; cases e
      · rw [s _ _ z hb] at e; cases e
    · refine .inl (.inr ⟨u, nl_of e fun ys z => ?_⟩)
      by_cases hb : a = o
      · rw [hb, ho] at e; cases e
      · rw [s _ _ z hb] at e; cases e
    · exact .inr k
theorem nl_facts {K : PySem.W.Frag} {o : Addr} {H H' : Hp} (s : SameX o H H') {dx : Addr} {cl : Addr} {fs : List (Str × V)} (ho : H' o = some (.ins cl dx fs)) : ∀ {vs : List V} {ds : List PyData}, DpAll K H' vs ds → (∀ d ∈ ds, FactD d) → DpAll K (nl H H') vs ds
  | _, _, .nil, _ => .nil
  | _, _, .cons a b, h => by
    refine .cons ?_ (nl_facts s ho b fun d hd => h d (List.mem_cons_of_mem _ hd))
    cases h _ List.mem_cons_self with
    | ab f g => exact nl_tup (zs := ["above", f, g]) s ho a
    | way w f => exact nl_tup (zs := [w, f]) s ho a
theorem factsD_fact {row lots ways : List Str} : ∀ d ∈ factsD row lots ways, FactD d := fun d hd => by
  unfold factsD at hd
  rw [List.mem_mergeSort] at hd
  rcases List.mem_append.mp hd with h | h
  · exact abl_fact d h
  · obtain ⟨f, _, rfl⟩ := List.mem_map.mp h
    exact .way _ f
def OEnd (K : PySem.W.Frag) (cA cL C CO : Addr) (H : Hp) (o x : Addr) (ps : List (Str × Int)) (dn dl : PyData) (Q : VK) (E : XK) : Prop := match rowOf ps dn with
  | none => ∀ H', SameX o H H' → E (.ref cA) none H'
  | some row => match lotsOf ps dl with
    | none => ∀ H', SameX o H H' → E (.ref cL) none H'
    | some lots => ∀ H' ls, SameX o H H' → ls.Perm lots → sortedS ls = true → OrAt K C CO (nl H H') o x ps row ls → Q .non H'
/-- what may be handed in as names, as lots -/
structure Hand (d : PyData) : Prop where
  sh : SeqAt.shaped d = true
  ln : ∀ ds, d = .list ds → ds.length ≤ 1000
structure SgOk (ps : List (Str × Int)) : Prop where
  l5 : ps.length ≤ 5
  nd : (ps.map (·.1)).Nodup
  ok : OkNames ps
def spOInit (K : PySem.W.Frag) (cA cL C CO : Addr) : Sp := fun vs H Q E => ∃ o x vn dn vl dl dx ps, vs = [.ref o, .ref x, vn, vl] ∧ H o = some (.ins CO dx []) ∧ SgAt C H x ps ∧ SgOk ps ∧ Dp K H vn dn ∧ Dp K H vl dl ∧ Hand dn ∧ Hand dl ∧ OEnd K cA cL C CO H o x ps dn dl Q E
structure OCl (K : PySem.W.Frag) (CO : Addr) : Prop where
  cl : Cls K CO
  n1 : NoAttr K CO "signs"
  n2 : NoAttr K CO "_names"
  n3 : NoAttr K CO "_lots"
  n4 : NoAttr K CO "_facts"
structure KeO (P : Program) (K : PySem.W.Frag) (mg : Str → Option Value) (cA cL eA eL : Addr) : Prop where
  hA : ErrC P K "BadNames" none cA eA
  hL : ErrC P K "BadLots" none cL eL
  gA : mg "BadNames" = some (.ref cA)
  gL : mg "BadLots" = some (.ref cL)
  rA : PySem.W.subIn K (.ref cA) (.type "BaseException") = some true ∧ PySem.W.typeIn K (.ref cA) = some (.type "type")
  rL : PySem.W.subIn K (.ref cL) (.type "BaseException") = some true ∧ PySem.W.typeIn K (.ref cL) = some (.type "type")
  sup : mg "super" = none
section
variable {P : Program} {w : World} {K : PySem.W.Frag} {mg : Str → Option Value} {base : Heap} {cA cL eA eL C CO fC fF : Addr} {dC dF : FuncData} {fl pn gn pw gw fe fh : Addr} {dl dn dw de dh : FuncData}
theorem scOI : FnScope ["self", "signs", "names", "lots"] ["self", "signs", "names", "lots"] (defScope sOInit) := ⟨rfl, rfl, rfl, by decide +kernel, rfl, by decide +kernel, by decide +kernel⟩
theorem ok_oinit {f : Addr} {fd : FuncData} (F : Fun K "__init__" "Order.__init__" sOInit f fd) (T : KTxt mg) (Z : KeO P K mg cA cL eA eL) (S : OCl K CO) (M : SgM P w K mg base C fl pn gn pw gw fe fh dl dn dw de dh) (GC : Cal P w K mg base CX0 1 "is_choice" fC dC ["value", "names"] (spChoice K))
    (GF : Cal P w K mg base CX0 1 "_facts_of" fF dF ["names", "lots", "ways"] (spFactsOf K)) (hls : mg "list" = none) (srt : mg "sorted" = none) : FnOk P w K mg base (L2.CX P w) 3 f fd ["self", "signs", "names", "lots"] (spOInit K cA cL C CO) := by
  refine F.okX scOI (fun vs H Q E h => ?_) (fun cdv A outer s H vs Q E hr h => ?_)
  · obtain ⟨o, x, vn, dn, vl, dl, dx, ps, rfl, _⟩ := h
    rfl
  · obtain ⟨o, x, vn, dn, vl, dl, dx, ps, rfl, ho, hS, hok, hvn, hvl, hn, hl, q⟩ := h
    have r1 : Room 1 (A.deeper (envOfC "Order.__init__" (defScope sOInit) s.heap.objs.size f cdv)) := hr.mono (by decide)
    refine ⟨_, pss_cons (ps_if (PW.pt (pw_or (pt_not (pt_val (pe_call GC.ok r1 rfl GC.g GC.kp GC.b .nil pass0 (pa_cons (pv 2) (pa_cons (pe_prop (pv 1) M.x.cl M.np M.no hr M.nb .nil pass0 rfl) pa_nil)))))
          (pw_or1 (pt_cmpR op_ne (pe_callB call_len_seq (by rfl) T.len PySem.boot_len (pa_cons (pv 2) pa_nil)) (pe_callB (call_lenOwn M.lo hr M.la M.lf M.lb pass0) (by rfl) T.len PySem.boot_len (pa_cons (pv 1) pa_nil)) (nomark _)))))
        (pss_one (ps_raise rfl (takes_of rfl rfl rfl rfl) (pmk_err0 Z.hA Z.sup hr (raises_own Z.rA.1 Z.rA.2) Z.gA))) pss_nil)
      (pss_cons (ps_if (pt_not (pt_val (pe_call GC.ok r1 rfl GC.g GC.kp GC.b .nil pass0 (pa_cons (pv 3) (pa_cons (pe_prop (pv 1) M.x.cl M.wp M.wo hr M.wb .nil pass0 rfl) pa_nil)))))
        (pss_one (ps_raise rfl (takes_of rfl rfl rfl rfl) (pmk_err0 Z.hL Z.sup hr (raises_own Z.rL.1 Z.rL.2) Z.gL))) pss_nil)
      (pss_cons (ps_fld (pv 0) (pv 1) rfl)
      (pss_cons (ps_fld (pv 0) (pe_callTy call_list_of (by rfl) hls (by decide +kernel) (pa_cons (pv 2) pa_nil)) rfl)
      (pss_cons (ps_fld (pv 0) (pe_callB cr_sortedS (by rfl) srt (by decide +kernel) (pa_cons (pv 3) pa_nil)) rfl)
      (pss_one (ps_fld (pv 0) (pe_call GF.ok r1 rfl GF.g GF.kp GF.b .nil pass0 (pa_cons (pe_fld (pv 0) rfl) (pa_cons (pe_fld (pv 0) rfl) (pa_cons (pe_prop (pv 1) M.x.cl M.wp M.wo hr M.wb .nil pass0 rfl) pa_nil)))) rfl)))))), ?_⟩
    obtain ⟨dx0, dS, hS1, hS2⟩ := id hS
    have xo : x ≠ o := fun z => by
      rw [z, ho] at hS1
      have e := Option.some.inj hS1
      injection e with _ _ e
      cases e
    have dSo : dS ≠ o := ne_of hS2 ho (by intro z; cases z)
    have keepS : ∀ {H' : Hp}, SameX o H H' → SgAt C H' x ps := fun sx => ⟨dx0, dS, sx _ _ hS1 xo, sx _ _ hS2 dSo⟩
    have strN : ∀ z ∈ nmsOf ps, PyData.strOk z = true := fun z hz => by
      obtain ⟨p, hp, rfl⟩ := List.mem_map.mp hz
      exact hok.ok p hp
    refine ⟨_, rfl, _, rfl, x, dx0, _, rfl, hS1, x, ps, rfl, hS, fun p1 hp1 => ?_⟩
    have s1 := same_upd (o := .lst (ps.map fun q => V.str q.1)) hp1
    have e1 : (L2.upd H p1 (.lst (ps.map fun q => V.str q.1))) p1 = some (.lst (ps.map fun q => V.str q.1)) := upd_same
    generalize (L2.upd H p1 (.lst (ps.map fun q => V.str q.1))) = H1 at s1 e1 ⊢
    have dN : Dp K H1 (.ref p1) (.list ((nmsOf ps).map PyData.str)) := .lst (SqL.of e1) (by
      have go : ∀ qs : List (Str × Int), DpAll K H1 (qs.map fun q => V.str q.1) ((nmsOf qs).map PyData.str) := fun qs => by
        induction qs with
        | nil => exact .nil
        | cons a b ih => exact .cons (.str _) ih
      exact go ps)
    refine ⟨vn, dn, .ref p1, nmsOf ps, rfl, dp_same s1 _ _ hvn, dN, hn.sh, strN, hn.ln, fun H2 s2 => ⟨_, rfl, ?_⟩⟩
    have s02 := Same.trans s1 s2
    have raiseA : rowOf ps dn = none → ∀ {H' : Hp}, Same H H' → E (.ref cA) none H' := fun e H' sm => by
      unfold OEnd at q
      rw [e] at q
      exact q H' (Same.x sm)
    cases hch : chO (nmsOf ps) dn with
    | none =>
      refine iteT (raiseA ?_ s02)
      unfold rowOf
      rw [hch]
    | some row =>
      refine iteF ?_
      obtain ⟨ds, rfl, hcl⟩ : ∃ ds, dn = .list ds ∧ chL (nmsOf ps) [] ds = some row := by
        cases dn with
        | list ds => exact ⟨ds, rfl, hch⟩
        | _ => cases hch
      obtain ⟨rnd, rmem, zs, rfl, hrow⟩ := chL_mem hcl List.nodup_nil (by intro z hz; cases hz)
      rw [List.nil_append] at hrow
      subst hrow
      cases hvn with
      | lst g1 g2 =>
        rename_i an us
        obtain rfl := nm_vs g2
        refine ⟨_, rfl, an, _, rfl, .inl (Same.seq s02 g1), _, rfl, x, dx0, _, rfl, s02 _ _ hS1, x, ps, rfl, hS.same s02, ps.length, rfl, by have := hok.l5; omega, ?_⟩
        refine ⟨rfl, _, rfl, ?_⟩
        refine ite2 (fun c => ?_) (fun c => ?_)
        · refine raiseA ?_ s02
          unfold rowOf
          rw [hch]
          show (if row.length = ps.length then _ else _) = _
          rw [if_neg]
          intro e
          rw [List.length_map, e] at c
          simp at c
        · have hlen : row.length = ps.length := by
            rw [List.length_map] at c
            by_cases e : row.length = ps.length
            · exact e
            · refine absurd ?_ c
              rw [decide_eq_false (fun z => by injection z with z; exact e (by omega))]
              rfl
          have hrowOf : rowOf ps (.list (row.map PyData.str)) = some row := by
            unfold rowOf
            rw [hch]
            show (if row.length = ps.length then _ else _) = _
            rw [if_pos hlen]
          have q1 : (match lotsOf ps dl with
              | none => ∀ H', SameX o H H' → E (.ref cL) none H'
              | some lots => ∀ H' ls, SameX o H H' → ls.Perm lots → sortedS ls = true → OrAt K C CO (nl H H') o x ps row ls → Q .non H') := by
            have q := q
            unfold OEnd at q
            rw [hrowOf] at q
            exact q
          refine ⟨_, rfl, _, rfl, x, dx0, _, rfl, s02 _ _ hS1, x, ps, rfl, hS.same s02, hok.l5, hok.nd, fun H3 ys p3 s3 hp3 hperm hsort e3 => ?_⟩
          have s03 := Same.trans s02 s3
          have ysOk : ∀ z ∈ ys, PyData.strOk z = true := fun z hz => by
            have := hperm.mem_iff.mp hz
            obtain ⟨p, hp, rfl⟩ := List.mem_map.mp this
            exact hok.ok p (List.mem_filter.mp hp).1
          have dpS : ∀ (H' : Hp) (qs : List Str), DpAll K H' (qs.map V.str) (qs.map PyData.str) := fun H' qs => by
            induction qs with
            | nil => exact .nil
            | cons a b ih => exact .cons (.str _) ih
          refine ⟨vl, dl, .ref p3, ys, rfl, dp_same s03 _ _ hvl, .lst (SqL.of e3) (dpS _ _), hl.sh, ysOk, hl.ln, fun H4 s4 => ⟨_, rfl, ?_⟩⟩
          have s04 := Same.trans s03 s4
          rw [chO_congr (N := ys) (M := waysOf ps) (fun z => hperm.mem_iff) dl]
          cases hlo : lotsOf ps dl with
          | none =>
            rw [hlo] at q1
            rw [show chO (waysOf ps) dl = none from hlo]
            exact iteT (q1 H4 (Same.x s04))
          | some lots =>
            rw [hlo] at q1
            rw [show chO (waysOf ps) dl = some lots from hlo]
            refine iteF ?_
            obtain ⟨ds, rfl, hcl2⟩ : ∃ ds, dl = .list ds ∧ chL (waysOf ps) [] ds = some lots := by
              cases dl with
              | list ds => exact ⟨ds, rfl, hlo⟩
              | _ => cases hlo
            obtain ⟨lnd, lmem, zs, rfl, hlots⟩ := chL_mem hcl2 List.nodup_nil (by intro z hz; cases hz)
            rw [List.nil_append] at hlots
            subst hlots
            have llen : lots.length ≤ 5 := by
              have h1 := nodup_le lnd lmem
              have h2 := ways_len ps
              have := hok.l5
              omega
            cases hvl with
            | lst k1 k2 =>
              rename_i al ul
              obtain rfl := nm_vs k2
              have ho4 := s04 _ _ ho
              refine ⟨_, rfl, _, rfl, o, CO, dx, [], rfl, ho4, S.cl, S.n1, by decide, ?_⟩
              have sx5 : SameX o H (L2.upd H4 o (.ins CO dx (putF "signs" (.ref x) []))) := (Same.x s04).upd
              have e5 : (L2.upd H4 o (.ins CO dx (putF "signs" (.ref x) []))) o = some (.ins CO dx [("signs", .ref x)]) := upd_same
              generalize (L2.upd H4 o (.ins CO dx (putF "signs" (.ref x) []))) = H5 at sx5 e5 ⊢
              refine ⟨_, rfl, an, _, rfl, .inl ((sx5.seqK ho).l _ _ g1), fun ln hln => ?_⟩
              have lno : ln ≠ o := fun z => by rw [z, e5] at hln; cases hln
              have s6 := same_upd (o := .lst (row.map V.str)) hln
              have sx6 := sx5.trans (Same.x s6)
              have e6 := s6 _ _ e5
              have eln : (L2.upd H5 ln (.lst (row.map V.str))) ln = some (.lst (row.map V.str)) := upd_same
              generalize (L2.upd H5 ln (.lst (row.map V.str))) = H6 at sx6 e6 eln ⊢
              refine ⟨_, rfl, o, CO, dx, _, rfl, e6, S.cl, S.n2, (by show 1 < 1000; decide), ?_⟩
              have sx7 := sx6.upd (o := .ins CO dx (putF "_names" (.ref ln) [("signs", .ref x)]))
              have e7 : (L2.upd H6 o (.ins CO dx (putF "_names" (.ref ln) [("signs", .ref x)]))) o = some (.ins CO dx [("signs", .ref x), ("_names", .ref ln)]) := upd_same
              have eln7 : (L2.upd H6 o (.ins CO dx (putF "_names" (.ref ln) [("signs", .ref x)]))) ln = some (.lst (row.map V.str)) := by rw [upd_ne lno]; exact eln
              generalize (L2.upd H6 o (.ins CO dx (putF "_names" (.ref ln) [("signs", .ref x)]))) = H7 at sx7 e7 eln7 ⊢
              refine ⟨_, rfl, al, lots, rfl, (sx7.seqK ho).l _ _ k1, by omega, fun ls ll hls hss hll => ?_⟩
              have llo : ll ≠ o := fun z => by rw [z, e7] at hll; cases hll
              have s8 := same_upd (o := .lst (ls.map V.str)) hll
              have sx8 := sx7.trans (Same.x s8)
              have e8 := s8 _ _ e7
              have eln8 := s8 _ _ eln7
              have ell : (L2.upd H7 ll (.lst (ls.map V.str))) ll = some (.lst (ls.map V.str)) := upd_same
              generalize (L2.upd H7 ll (.lst (ls.map V.str))) = H8 at sx8 e8 eln8 ell ⊢
              refine ⟨_, rfl, o, CO, dx, _, rfl, e8, S.cl, S.n3, (by show 2 < 1000; decide), ?_⟩
              have sx9 := sx8.upd (o := .ins CO dx (putF "_lots" (.ref ll) [("signs", .ref x), ("_names", .ref ln)]))
              have e9 : (L2.upd H8 o (.ins CO dx (putF "_lots" (.ref ll) [("signs", .ref x), ("_names", .ref ln)]))) o = some (.ins CO dx [("signs", .ref x), ("_names", .ref ln), ("_lots", .ref ll)]) := upd_same
              have eln9 : (L2.upd H8 o (.ins CO dx (putF "_lots" (.ref ll) [("signs", .ref x), ("_names", .ref ln)]))) ln = some (.lst (row.map V.str)) := by rw [upd_ne lno]; exact eln8
              have ell9 : (L2.upd H8 o (.ins CO dx (putF "_lots" (.ref ll) [("signs", .ref x), ("_names", .ref ln)]))) ll = some (.lst (ls.map V.str)) := by rw [upd_ne llo]; exact ell
              generalize (L2.upd H8 o (.ins CO dx (putF "_lots" (.ref ll) [("signs", .ref x), ("_names", .ref ln)]))) = H9 at sx9 e9 eln9 ell9 ⊢
              refine ⟨_, rfl, o, CO, dx, _, .ref ln, rfl, e9, S.cl, S.n2, rfl, _, rfl, o, CO, dx, _, .ref ll, rfl, e9, S.cl, S.n3, rfl, _, rfl, x, dx0, _, rfl, sx9 _ _ hS1 xo, x, ps, rfl, keepS sx9, hok.l5, hok.nd, fun H10 ws p10 s10 hp10 hperm2 hsort2 e10 => ?_⟩
              have wlen : ws.length ≤ 5 := by
                have h1 := hperm2.length_eq
                have h2 := ways_len ps
                have := hok.l5
                omega
              refine ⟨ln, ll, p10, row, ls, ws, rfl, SqL.of (s10 _ _ eln9), SqL.of (s10 _ _ ell9), SqL.of e10, by have := hok.l5; omega, wlen, fun t xs H11 s11 ht et dt => ?_⟩
              have e11 := s11 _ _ (s10 _ _ e9)
              have sx11 := (sx9.trans (Same.x s10)).trans (Same.x s11)
              have to : t ≠ o := fun z => by rw [z, e11] at et; cases et
              refine ⟨_, rfl, o, CO, dx, _, rfl, e11, S.cl, S.n4, (by show 3 < 1000; decide), ?_⟩
              have sx12 := sx11.upd (o := .ins CO dx (putF "_facts" (.ref t) [("signs", .ref x), ("_names", .ref ln), ("_lots", .ref ll)]))
              have eo12 : (L2.upd H11 o (.ins CO dx (putF "_facts" (.ref t) [("signs", .ref x), ("_names", .ref ln), ("_lots", .ref ll)]))) o = some (.ins CO dx (putF "_facts" (.ref t) [("signs", .ref x), ("_names", .ref ln), ("_lots", .ref ll)])) := upd_same
              refine q1 _ ls sx12 hls hss ⟨dx, ln, ll, t, xs, ws, nl_of upd_same (fun ys z => by rw [ho] at z; cases z), ⟨dx0, dS, nl_of (sx12 _ _ hS1 xo) (fun ys z => by rw [hS1] at z; cases z), nl_of (sx12 _ _ hS2 dSo) (fun ys z => by rw [hS2] at z; cases z)⟩, ?_, ?_, ?_, ?_, hperm2, hsort2⟩
              · exact nl_new sx5 lno hln (by rw [upd_ne lno]; exact s11 _ _ (s10 _ _ eln9))
              · exact nl_new sx7 llo hll (by rw [upd_ne llo]; exact s11 _ _ (s10 _ _ ell9))
              · exact nl_new (sx9.trans (Same.x s10)) to ht (by rw [upd_ne to]; exact et)
              · exact nl_facts sx12 eo12 (dpAll_seq (((SameX.refl o H11).upd (o := .ins CO dx (putF "_facts" (.ref t) [("signs", .ref x), ("_names", .ref ln), ("_lots", .ref ll)]))).seqK e11) _ _ dt) factsD_fact
end
end Sg

set_option maxRecDepth 100000
set_option maxHeartbeats 4000000
/-! o(..), o of a class with an own __call__ that may raise; what is never reached. -/
namespace CO
open PySem PySem.Spec PyProof.Rows L2
section
variable {X : Cx} {CX : CXT} {k : Nat} {g C : Addr} {fd : FuncData} {ps : List Str} {sp : Sp} {E : L2.St → XK} {pos : Pos} {e fe : Expr} {es : List Expr} {tf : TE} {t : TA}
def tCallOW (C : Addr) (sp : Sp) (E : L2.St → XK) (tf : TE) (t : TA) : TE := fun σ H Q => tf σ H fun y H1 => ∃ a, y = V.ref a ∧ t σ H1 fun vs H2 => (∃ dx fs, H2 a = some (.ins C dx fs)) ∧ sp (V.ref a :: vs) H2 Q (E σ)
theorem pe_callOW (hf : PE X fe tf) (c : StX.CallO X.K C g) (F : FnOk X.prog X.w X.K X.mg X.base CX k g fd ps sp) (hr : Room k X.A) (hb : Binds X.K fd ps []) (hx : ∀ σ, PassesAt CX X σ (E σ)) (ha : PA X (e :: es) t)
    (ht : eval (.Call fe (e :: es) [] pos) X.env = (do callWith pos (← eval fe X.env) [] (backTo pos (starEach (e :: es) X.env)) (backToKw pos (keywordEach [] X.env))) := by rfl)
    (he : starEach (e :: es) X.env = (false, eval e X.env) :: starEach es X.env := by rfl) (hpl : (backTo pos (starEach es X.env)).any (·.1) = false := by rfl) : PE X (.Call fe (e :: es) [] pos) (tCallOW C sp E tf t) := by
  refine ⟨fun pins s σ H Q I h => ?_⟩
  refine Call_ (thn (hf.run pins s σ H _ I h) fun u s1 ⟨y, H1, I1, ry, a, ey, q⟩ => ?_) ht
  subst ey
  obtain rfl : u = Value.ref a := ry
  refine StX.callO_with (thn (ha.run pos pins s1 σ H1 _ I1 q) fun us s2 ⟨vs, H2, I2, r, ⟨dx, fs, hi⟩, q2⟩ => ?_) he hpl
  obtain ⟨mA, O, _⟩ := ins_get I2.hok hi
  obtain ⟨od, J, _⟩ := O.look
  refine ⟨⟨C, _, od, J, rfl⟩, wpAny_call (PySem.W.kco_code I2.kIn J rfl c.at_ c.fn c.fi ?_)⟩
  have r2 : Vals (V.ref a :: vs) (Value.ref a :: us) := .cons rfl r
  have hl : (Value.ref a :: us).length = ps.length := by rw [← r2.length]; exact F.len _ _ _ _ q2
  have b := hb s2 (.ref a :: us) I2.kIn (by rw [List.append_nil]; exact hl)
  rw [List.append_nil] at b
  refine codeAny_mono (F.run X.A X.stack s2 H2 ⟨.ref a :: us, []⟩ (.ref a :: us) (V.ref a :: vs) Q (E σ) hr I2.env0 b r2 q2) fun r s' hq => ?_
  cases r with
  | error e => exact hx σ pins H2 s2 e s' I2 hq
  | ok fl => cases fl <;> first | exact I2.after hq | exact False.elim hq
/-- what is never reached -/
theorem pe_no : PE X e (fun _ _ _ => False) := ⟨fun _ _ _ _ _ _ h => h.elim⟩
theorem pss_no {sts : List Stmt} : PSs X sts (fun _ _ _ => False) := ⟨fun _ _ _ _ _ _ h => h.elim⟩
end
end CO

set_option maxRecDepth 100000
set_option maxHeartbeats 8000000
namespace Sg
open PySem PySem.Spec PyProof.Rows L2 Dr Gd Er Cm Ow XT TM Tw SD CO
abbrev sONames : Stmt := inClass cOrder 1
abbrev sOLots : Stmt := inClass cOrder 2
abbrev sOFacts : Stmt := inClass cOrder 3
abbrev sOCall : Stmt := inClass cOrder 4
abbrev sOEq : Stmt := inClass cOrder 5
abbrev sLookT : Stmt := top 41
abbrev sSteps : Stmt := top 46
abbrev sShows : Stmt := top 47
theorem OrAt.same {K : PySem.W.Frag} {C CO : Addr} {H H' : Hp} {o x : Addr} {ps : List (Str × Int)} {row lots : List Str} (h : OrAt K C CO H o x ps row lots) (s : Same H H') : OrAt K C CO H' o x ps row lots := by
  obtain ⟨dx, ln, ll, tf, fs, ws, a, b, c, d, e, f, g, i⟩ := h
  exact ⟨dx, ln, ll, tf, fs, ws, s _ _ a, b.same s, s _ _ c, s _ _ d, s _ _ e, dpAll_same s _ _ f, g, i⟩
def spONames (K : PySem.W.Frag) (C CO : Addr) : Sp := fun vs H Q _ => ∃ o x ps row lots, vs = [.ref o] ∧ OrAt K C CO H o x ps row lots ∧ ∀ p, H p = none → Q (.ref p) (L2.upd H p (.lst (row.map V.str)))
def spOLots (K : PySem.W.Frag) (C CO : Addr) : Sp := fun vs H Q _ => ∃ o x ps row lots, vs = [.ref o] ∧ OrAt K C CO H o x ps row lots ∧ ∀ p, H p = none → Q (.ref p) (L2.upd H p (.lst (lots.map V.str)))
def spOFacts (K : PySem.W.Frag) (C CO : Addr) : Sp := fun vs H Q _ => ∃ o x ps row lots, vs = [.ref o] ∧ OrAt K C CO H o x ps row lots ∧ ∀ tf fs, H tf = some (.tup fs) → Q (.ref tf) H
structure OClx (K : PySem.W.Frag) (CO : Addr) : Prop extends OCl K CO where
  ca : PySem.W.findIn K (.ref CO) "__class__" = some (some (.builtin "object.__class__"))
  cg : PySem.W.specialIn K (.builtin "object.__class__") "__get__" = some (some (.builtin "getset_descriptor.__get__"))
  ct : PySem.W.takesIn K (.builtin "object.__class__") = some true
  cm : PySem.W.mroIn K CO (.type "object") = some true
  kO : PySem.W.kitOne K (.ref CO) (.ref CO) = some true
  kL : PySem.W.kitOne K (.type "list") (.ref CO) = some false
  kN : PySem.W.kitOne K (.type "NoneType") (.ref CO) = some false
def nmL (row : List Str) : PyData := .list (row.map .str)
theorem nm_eqv : ∀ a b : List Str, PyData.eqvAll (a.map .str) (b.map .str) = decide (a = b)
  | [], [] => rfl
  | [], _ :: _ => rfl
  | _ :: _, [] => rfl
  | x :: a, y :: b => by
    show ((x == y) && PyData.eqvAll _ _) = _
    rw [nm_eqv a b]
    by_cases h : x = y
    · subst h
      simp
    · have : (x == y) = false := by simpa using h
      simp [this, h]
theorem nmL_shaped {row : List Str} (h : ∀ z ∈ row, PyData.strOk z = true) : SeqAt.shaped (nmL row) = true := shaped_list fun e he => by
  obtain ⟨z, hz, rfl⟩ := List.mem_map.mp he
  exact ⟨h z hz, by simp [PyData.depth]⟩
theorem dp_strs {K : PySem.W.Frag} {H : Hp} : ∀ qs : List Str, DpAll K H (qs.map V.str) (qs.map PyData.str)
  | [] => .nil
  | a :: b => .cons (.str _) (dp_strs b)
theorem nmL_dp {K : PySem.W.Frag} {H : Hp} {a : Addr} {row : List Str} (h : H a = some (.lst (row.map V.str))) : Dp K H (.ref a) (nmL row) := .lst (SqL.of h) (dp_strs row)
section
variable {P : Program} {w : World} {K : PySem.W.Frag} {mg : Str → Option Value} {base : Heap} {C CO : Addr}
theorem scON : FnScope ["self"] ["self"] (defScope sONames) := ⟨rfl, rfl, rfl, by decide +kernel, rfl, by decide +kernel, by decide +kernel⟩
theorem ok_onames {f : Addr} {fd : FuncData} (F : Fun K "names" "Order.names" sONames f fd) (hls : mg "list" = none) (S : OCl K CO) : FnOk P w K mg base CX0 1 f fd ["self"] (spONames K C CO) := by
  refine F.ok scON (fun vs H Q E h => ?_) (fun cdv A outer s H vs Q E hr h => ?_)
  · obtain ⟨o, x, ps, row, lots, rfl, _⟩ := h
    rfl
  · obtain ⟨o, x, ps, row, lots, rfl, hO, q⟩ := h
    obtain ⟨dx, ln, ll, tf, fs, ws, a, b, c, d, _⟩ := hO
    refine ⟨_, pss_one (ps_ret (pe_callTy call_list_of (by rfl) hls (by decide +kernel) (pa_cons (pe_fld (pv 0) rfl) pa_nil))), ?_⟩
    exact ⟨_, rfl, o, CO, dx, _, .ref ln, rfl, a, S.cl, S.n2, rfl, ln, _, rfl, .inl (SqL.of c), fun p hp => q p hp⟩
theorem scOL : FnScope ["self"] ["self"] (defScope sOLots) := ⟨rfl, rfl, rfl, by decide +kernel, rfl, by decide +kernel, by decide +kernel⟩
theorem ok_olots {f : Addr} {fd : FuncData} (F : Fun K "lots" "Order.lots" sOLots f fd) (hls : mg "list" = none) (S : OCl K CO) : FnOk P w K mg base CX0 1 f fd ["self"] (spOLots K C CO) := by
  refine F.ok scOL (fun vs H Q E h => ?_) (fun cdv A outer s H vs Q E hr h => ?_)
  · obtain ⟨o, x, ps, row, lots, rfl, _⟩ := h
    rfl
  · obtain ⟨o, x, ps, row, lots, rfl, hO, q⟩ := h
    obtain ⟨dx, ln, ll, tf, fs, ws, a, b, c, d, _⟩ := hO
    refine ⟨_, pss_one (ps_ret (pe_callTy call_list_of (by rfl) hls (by decide +kernel) (pa_cons (pe_fld (pv 0) rfl) pa_nil))), ?_⟩
    exact ⟨_, rfl, o, CO, dx, _, .ref ll, rfl, a, S.cl, S.n3, rfl, ll, _, rfl, .inl (SqL.of d), fun p hp => q p hp⟩
theorem scOF : FnScope ["self"] ["self"] (defScope sOFacts) := ⟨rfl, rfl, rfl, by decide +kernel, rfl, by decide +kernel, by decide +kernel⟩
theorem ok_ofacts {f : Addr} {fd : FuncData} (F : Fun K "facts" "Order.facts" sOFacts f fd) (S : OCl K CO) : FnOk P w K mg base CX0 1 f fd ["self"] (spOFacts K C CO) := by
  refine F.ok scOF (fun vs H Q E h => ?_) (fun cdv A outer s H vs Q E hr h => ?_)
  · obtain ⟨o, x, ps, row, lots, rfl, _⟩ := h
    rfl
  · obtain ⟨o, x, ps, row, lots, rfl, hO, q⟩ := h
    obtain ⟨dx, ln, ll, tf, fs, ws, a, b, c, d, e, _⟩ := hO
    refine ⟨_, pss_one (ps_ret (pe_fld (pv 0) rfl)), ?_⟩
    exact ⟨_, rfl, o, CO, dx, _, .ref tf, rfl, a, S.cl, S.n4, rfl, q tf fs e⟩
/-- signs, a row and lots whose names may be compared -/
structure OrOk (ps : List (Str × Int)) (row lots : List Str) : Prop where
  s : SgOk ps
  r : ∀ z ∈ row, PyData.strOk z = true
  l : ∀ z ∈ lots, PyData.strOk z = true
def spOEq (K : PySem.W.Frag) (C CO : Addr) : Sp := fun vs H Q _ => ∃ o v x ps row lots, vs = [.ref o, v] ∧ OrAt K C CO H o x ps row lots ∧ OrOk ps row lots ∧
  ((v = .non ∧ Q (.bl false) H) ∨ (∃ ds, Dp K H v (.list ds) ∧ Q (.bl false) H) ∨ ∃ o' x' qs row' lots', v = .ref o' ∧ OrAt K C CO H o' x' qs row' lots' ∧ OrOk qs row' lots' ∧ ∀ H', Same H H' → Q (.bl (decide (ps = qs) && (decide (row = row') && decide (lots = lots')))) H')
theorem OrAt.ty {H : Hp} {o x : Addr} {ps : List (Str × Int)} {row lots : List Str} (h : OrAt K C CO H o x ps row lots) (S : OClx K CO) : TyX K H (.ref o) (.ref CO) := by
  obtain ⟨dx, ln, ll, tf, fs, ws, a, _⟩ := h
  exact .base (.ins a S.cl S.ca S.cg S.ct S.cm)
theorem scOE : FnScope ["self", "other"] ["self", "other"] (defScope sOEq) := ⟨rfl, rfl, rfl, by decide +kernel, rfl, by decide +kernel, by decide +kernel⟩
theorem ok_oeq {fl pn gn pw gw fe fh : Addr} {dl dn dw de dh : FuncData} {f : Addr} {fd : FuncData} (F : Fun K "__eq__" "Order.__eq__" sOEq f fd) (T : KTxt mg) (gO : mg "Order" = some (.ref CO)) (S : OClx K CO) (M : SgM P w K mg base C fl pn gn pw gw fe fh dl dn dw de dh) : FnOk P w K mg base CX0 2 f fd ["self", "other"] (spOEq K C CO) := by
  refine F.ok scOE (fun vs H Q E h => ?_) (fun cdv A outer s H vs Q E hr h => ?_)
  · obtain ⟨o, v, x, ps, row, lots, rfl, _⟩ := h
    rfl
  · obtain ⟨o, v, x, ps, row, lots, rfl, hO, ok, h⟩ := h
    refine ⟨_, pss_cons (ps_if (pt_not (pt_val (pe_callB call_isi (by rfl) T.isi (by decide +kernel) (pa_cons (pv 1) (pa_cons (pe_glob (v := .ref CO) rfl gO rfl) pa_nil))))) (pss_one (ps_ret pe_bl)) pss_nil)
      (pss_one (ps_ret (pe_and (pe_cmpR (op_eqOwn M.eo hr M.ea M.ef M.eb pass0) (pe_fld (pv 0) rfl) (pe_fld (pv 1) rfl) (nomark _))
        (pe_and (pe_cmpR (op_eqD hr.units) (pe_fld (pv 0) rfl) (pe_fld (pv 1) rfl) (nomark _)) (pe_one (pe_cmpR (op_eqD hr.units) (pe_fld (pv 0) rfl) (pe_fld (pv 1) rfl) (nomark _))))))), ?_⟩
    rcases h with ⟨rfl, q⟩ | ⟨ds, hd, q⟩ | ⟨o', x', qs, row', lots', rfl, hO', ok', q⟩
    · exact ⟨_, rfl, .non, .ref CO, .type "NoneType", .ref CO, _, rfl, .own _, .base .non, S.kN, _, rfl, iteT q⟩
    · exact ⟨_, rfl, v, .ref CO, .type "list", .ref CO, _, rfl, .own _, ty_dp hd, S.kL, _, rfl, iteT q⟩
    · refine ⟨_, rfl, .ref o', .ref CO, .ref CO, .ref CO, _, rfl, .own _, hO'.ty S, S.kO, _, rfl, iteF ?_⟩
      obtain ⟨dx, ln, ll, tf, fs, ws, a, b, c, d, _⟩ := hO
      obtain ⟨dx', ln', ll', tf', fs', ws', a', b', c', d', _⟩ := hO'
      obtain ⟨ex, en, b1, b2⟩ := id b
      obtain ⟨ex', en', b1', b2'⟩ := id b'
      refine ⟨_, rfl, o, CO, dx, _, .ref x, rfl, a, S.cl, S.n1, rfl, _, rfl, o', CO, dx', _, .ref x', rfl, a', S.cl, S.n1, rfl, ?_⟩
      refine ⟨x, ex, _, .ref C, rfl, b1, .inr ⟨x', C, ex', _, rfl, b1', rfl⟩, M.nC, x, .ref x', ps, rfl, b, ok.s.ok, .inr ⟨x', qs, rfl, b', ok'.s.ok, fun H1 s1 => ⟨_, rfl, _, rfl, ?_⟩⟩⟩
      refine ite2 (fun h1 => ?_) (fun h1 => ?_)
      · have q := fun H' s' => q H' s'
        rw [h1, Bool.true_and] at q
        refine ⟨_, rfl, o, CO, dx, _, .ref ln, rfl, s1 _ _ a, S.cl, S.n2, rfl, _, rfl, o', CO, dx', _, .ref ln', rfl, s1 _ _ a', S.cl, S.n2, rfl, nmL row, nmL row', nmL_dp (s1 _ _ c), nmL_dp (s1 _ _ c'), nmL_shaped ok.r, nmL_shaped ok'.r, ?_⟩
        rw [show PyData.eqv (nmL row) (nmL row') = decide (row = row') from nm_eqv row row']
        refine ⟨_, rfl, ?_⟩
        refine ite2 (fun h2 => ?_) (fun h2 => ?_)
        · rw [h2, Bool.true_and] at q
          refine ⟨_, rfl, o, CO, dx, _, .ref ll, rfl, s1 _ _ a, S.cl, S.n3, rfl, _, rfl, o', CO, dx', _, .ref ll', rfl, s1 _ _ a', S.cl, S.n3, rfl, nmL lots, nmL lots', nmL_dp (s1 _ _ d), nmL_dp (s1 _ _ d'), nmL_shaped ok.l, nmL_shaped ok'.l, ?_⟩
          rw [show PyData.eqv (nmL lots) (nmL lots') = decide (lots = lots') from nm_eqv lots lots']
          exact q H1 s1
        · have h2 : decide (row = row') = false := by simpa using h2
          rw [h2, Bool.false_and] at q
          exact q H1 s1
      · have h1 : decide (ps = qs) = false := by simpa using h1
        have q := q H1 s1
        rw [h1, Bool.false_and] at q
        exact q
structure KeT (P : Program) (K : PySem.W.Frag) (mg : Str → Option Value) (cT eT : Addr) : Prop where
  hT : ErrC P K "BadTerm" (some "value") cT eT
  gT : mg "BadTerm" = some (.ref cT)
  rT : PySem.W.subIn K (.ref cT) (.type "BaseException") = some true ∧ PySem.W.typeIn K (.ref cT) = some (.type "type")
  sup : mg "super" = none
/-- what may be asked of is_term -/
structure TOk (d : PyData) : Prop where
  ok : okT d = true
  sz : tsz d ≤ 5000
/-- the first of two that is no term -/
def TEnd (cT : Addr) (H : Hp) (v : V) (Q : VK) (E : XK) : Bool → Prop
  | true => ∀ H', Same H H' → Q .non H'
  | false => ∀ H' dd, Same H H' → H dd = none → H' dd = some (.xd [("value", v)]) → E (.ref cT) (some dd) H'
def spLookT (K : PySem.W.Frag) (cT C : Addr) : Sp := fun vs H Q E => ∃ x ps vs' ds vt dt, vs = [.ref x, vs', vt] ∧ SgAt C H x ps ∧ Dp K H vs' ds ∧ TOk ds ∧
  ((isTerm ps ds = false ∧ TEnd cT H vs' Q E false) ∨ (isTerm ps ds = true ∧ Dp K H vt dt ∧ TOk dt ∧ isTerm ps dt = false ∧ TEnd cT H vt Q E false) ∨ (isTerm ps ds = true ∧ Dp K H vt dt ∧ TOk dt ∧ isTerm ps dt = true ∧ TEnd cT H vt Q E true))
theorem scLT : FnScope ["signs", "s", "t", "value"] ["signs", "s", "t"] (defScope sLookT) := ⟨rfl, rfl, rfl, by decide +kernel, rfl, by decide +kernel, by decide +kernel⟩
theorem ok_lookT {cT eT fI : Addr} {dI : FuncData} {f : Addr} {fd : FuncData} (F : Fun K "look_at_terms" "look_at_terms" sLookT f fd) (Z : KeT P K mg cT eT) (GI : Cal P w K mg base CX0 4 "is_term" fI dI ["signs", "value"] (spIsT K C)) : FnOk P w K mg base (L2.CX P w) 5 f fd ["signs", "s", "t"] (spLookT K cT C) := by
  refine F.okX scLT (fun vs H Q E h => ?_) (fun cdv A outer s H vs Q E hr h => ?_)
  · obtain ⟨x, ps, v, ds, vt, dt, rfl, _⟩ := h
    rfl
  · obtain ⟨x, ps, v, ds, vt, dt, rfl, hS, hd, od, h⟩ := h
    refine ⟨_, pss_one (ps_for (passes_of rfl) rfl (pi_tup (pe_tup (pa_cons (pv 1) (pa_cons (pv 2) pa_nil)))) (pg_name (i := 3) scLT.nd rfl (Or.inl rfl))
      (pss_one (ps_if (pt_not (pt_val (pe_call GI.ok hr rfl GI.g GI.kp GI.b .nil pass0 (pa_cons (pv 0) (pa_cons (pv 3) pa_nil)))))
        (pss_one (ps_raise rfl (takes_of rfl rfl rfl rfl) (pmk_err1 Z.hT Z.sup hr (raises_own Z.rT.1 Z.rT.2) Z.gT (pv 3)))) pss_nil))), ?_⟩
    refine ⟨_, rfl, _, rfl, (by show 2 ≤ sizeLine; decide), fun p hp => ?_⟩
    have s1 := same_upd (o := .tup [v, vt]) hp
    have e1 : (L2.upd H p (.tup [v, vt])) p = some (.tup [v, vt]) := upd_same
    generalize (L2.upd H p (.tup [v, vt])) = H1 at s1 e1 ⊢
    refine ⟨p, rfl, ⟨_, SqT.of e1⟩, ?_⟩
    refine for_it (walk_tup (xs := [v, vt])) (fun i σ H' => ∃ c3, σ = [some (.ref x), some v, some vt, c3] ∧ Same H1 H' ∧ (0 < i → isTerm ps ds = true) ∧ (1 < i → TEnd cT H vt Q E true)) ⟨none, rfl, Same.refl H1, fun h => by omega, fun h => by omega⟩ (fun i σ H' hi hp => by obtain ⟨_, _, sm, _⟩ := hp; exact SqT.of (sm _ _ e1)) (fun i y σ Hq H' hi hp hy => ?_) (fun σ H' hp => ?_)
    · obtain ⟨c3, rfl, sm, h0, h1⟩ := hp
      obtain ⟨rfl, ey⟩ := hy
      have sm0 := Same.trans s1 sm
      match i, hi with
      | 0, _ =>
        obtain rfl : v = y := by simpa using ey
        refine ⟨_, rfl, _, rfl, x, v, ds, ps, rfl, hS.same sm0, dp_same sm0 _ _ hd, od.ok, od.sz, fun H2 s2 => ⟨_, rfl, ?_⟩⟩
        rcases h with ⟨ht, q⟩ | ⟨ht, _⟩ | ⟨ht, _⟩
        · rw [ht]
          refine iteT ⟨_, rfl, fun dd hdd => ?_⟩
          exact q _ dd (Same.trans (Same.trans sm0 s2) (same_upd hdd)) (Same.free (Same.trans sm0 s2) hdd) upd_same
        · rw [ht]
          exact iteF ⟨_, rfl, Same.trans sm s2, fun _ => rfl, fun h => by omega⟩
        · rw [ht]
          exact iteF ⟨_, rfl, Same.trans sm s2, fun _ => rfl, fun h => by omega⟩
      | 1, _ =>
        obtain rfl : vt = y := by simpa using ey
        have ht0 := h0 (by decide)
        rcases h with ⟨ht, q⟩ | ⟨ht, hdt, odt, htt, q⟩ | ⟨ht, hdt, odt, htt, q⟩
        · rw [ht] at ht0; cases ht0
        · refine ⟨_, rfl, _, rfl, x, vt, dt, ps, rfl, hS.same sm0, dp_same sm0 _ _ hdt, odt.ok, odt.sz, fun H2 s2 => ⟨_, rfl, ?_⟩⟩
          rw [htt]
          refine iteT ⟨_, rfl, fun dd hdd => ?_⟩
          exact q _ dd (Same.trans (Same.trans sm0 s2) (same_upd hdd)) (Same.free (Same.trans sm0 s2) hdd) upd_same
        · refine ⟨_, rfl, _, rfl, x, vt, dt, ps, rfl, hS.same sm0, dp_same sm0 _ _ hdt, odt.ok, odt.sz, fun H2 s2 => ⟨_, rfl, ?_⟩⟩
          rw [htt]
          exact iteF ⟨_, rfl, Same.trans sm s2, fun _ => ht, fun _ => q⟩
    · obtain ⟨c3, rfl, sm, h0, h1⟩ := hp
      exact h1 (by show 1 < 2; decide) H' (Same.trans s1 sm)
/-- a comparison that is refused -/
def spRef (K : PySem.W.Frag) (cT C CO : Addr) : Sp := fun vs H Q E => ∃ o s t x ps row lots, vs = [.ref o, s, t] ∧ OrAt K C CO H o x ps row lots ∧ spLookT K cT C [.ref x, s, t] H (fun _ _ => False) E
def spRef3 (K : PySem.W.Frag) (cT C CO : Addr) : Sp := fun vs H Q E => ∃ o s t u x ps row lots, vs = [.ref o, s, t, u] ∧ OrAt K C CO H o x ps row lots ∧ spLookT K cT C [.ref x, s, t] H (fun _ _ => False) E
theorem scOC : FnScope ["self", "s", "t"] ["self", "s", "t"] (defScope sOCall) := ⟨rfl, rfl, rfl, by decide +kernel, rfl, by decide +kernel, by decide +kernel⟩
theorem ok_ocall {cT fL : Addr} {dL : FuncData} {f : Addr} {fd : FuncData} (F : Fun K "__call__" "Order.__call__" sOCall f fd) (S : OCl K CO) (GL : Cal P w K mg base (L2.CX P w) 5 "look_at_terms" fL dL ["signs", "s", "t"] (spLookT K cT C)) : FnOk P w K mg base (L2.CX P w) 6 f fd ["self", "s", "t"] (spRef K cT C CO) := by
  refine F.okX scOC (fun vs H Q E h => ?_) (fun cdv A outer s H vs Q E hr h => ?_)
  · obtain ⟨o, s, t, x, ps, row, lots, rfl, _⟩ := h
    rfl
  · obtain ⟨o, s, t, x, ps, row, lots, rfl, hO, q⟩ := h
    refine ⟨_, pss_cons (ps_expr (pe_callS GL.ok hr rfl GL.g GL.kp GL.b (fun σ => passAt (takes_of rfl rfl rfl rfl) σ) (pa_cons (pe_fld (pv 0) rfl) (pa_cons (pv 1) (pa_cons (pv 2) pa_nil))))) pss_no, ?_⟩
    obtain ⟨dx, ln, ll, tf, fs, ws, a, _⟩ := hO
    exact ⟨_, rfl, o, CO, dx, _, .ref x, rfl, a, S.cl, S.n1, rfl, _, rfl, _, rfl, q⟩
theorem scSt : FnScope ["order", "s", "t", "table"] ["order", "s", "t"] (defScope sSteps) := ⟨rfl, rfl, rfl, by decide +kernel, rfl, by decide +kernel, by decide +kernel⟩
theorem ok_stepsR {cT fL : Addr} {dL : FuncData} {f : Addr} {fd : FuncData} (F : Fun K "steps" "steps" sSteps f fd) (S : OCl K CO) (GL : Cal P w K mg base (L2.CX P w) 5 "look_at_terms" fL dL ["signs", "s", "t"] (spLookT K cT C)) : FnOk P w K mg base (L2.CX P w) 6 f fd ["order", "s", "t"] (spRef K cT C CO) := by
  refine F.okX scSt (fun vs H Q E h => ?_) (fun cdv A outer s H vs Q E hr h => ?_)
  · obtain ⟨o, s, t, x, ps, row, lots, rfl, _⟩ := h
    rfl
  · obtain ⟨o, s, t, x, ps, row, lots, rfl, hO, q⟩ := h
    refine ⟨_, pss_cons (ps_expr (pe_callS GL.ok hr rfl GL.g GL.kp GL.b (fun σ => passAt (takes_of rfl rfl rfl rfl) σ) (pa_cons (pe_fld (pv 0) rfl) (pa_cons (pv 1) (pa_cons (pv 2) pa_nil))))) pss_no, ?_⟩
    obtain ⟨dx, ln, ll, tf, fs, ws, a, _⟩ := hO
    exact ⟨_, rfl, o, CO, dx, _, .ref x, rfl, a, S.cl, S.n1, rfl, _, rfl, _, rfl, q⟩
theorem scSh : FnScope ["order", "s", "t", "value"] ["order", "s", "t", "value"] (defScope sShows) := ⟨rfl, rfl, rfl, by decide +kernel, rfl, by decide +kernel, by decide +kernel⟩
theorem ok_showsR {cT fL : Addr} {dL : FuncData} {f : Addr} {fd : FuncData} (F : Fun K "shows_steps" "shows_steps" sShows f fd) (S : OCl K CO) (GL : Cal P w K mg base (L2.CX P w) 5 "look_at_terms" fL dL ["signs", "s", "t"] (spLookT K cT C)) : FnOk P w K mg base (L2.CX P w) 6 f fd ["order", "s", "t", "value"] (spRef3 K cT C CO) := by
  refine F.okX scSh (fun vs H Q E h => ?_) (fun cdv A outer s H vs Q E hr h => ?_)
  · obtain ⟨o, s, t, u, x, ps, row, lots, rfl, _⟩ := h
    rfl
  · obtain ⟨o, s, t, u, x, ps, row, lots, rfl, hO, q⟩ := h
    refine ⟨_, pss_cons (ps_expr (pe_callS GL.ok hr rfl GL.g GL.kp GL.b (fun σ => passAt (takes_of rfl rfl rfl rfl) σ) (pa_cons (pe_fld (pv 0) rfl) (pa_cons (pv 1) (pa_cons (pv 2) pa_nil))))) pss_no, ?_⟩
    obtain ⟨dx, ln, ll, tf, fs, ws, a, _⟩ := hO
    exact ⟨_, rfl, o, CO, dx, _, .ref x, rfl, a, S.cl, S.n1, rfl, _, rfl, _, rfl, q⟩
end
end Sg

set_option maxRecDepth 100000
set_option maxHeartbeats 8000000
namespace Sg
open PySem PySem.Spec PyProof.Rows L2 Dr Gd Er Cm Ow XT TM Tw SD CO
/-- a comprehension that puts data together -/
theorem lc_data {K : PySem.W.Frag} {J : It} {n : Nat} {G : Hp → Prop} {Y : Nat → Hp → V → Hp → Prop} (w : Walk J n G Y) {g : TG} {tt : TT} {te : TE} {vs : List Nat} {σ : L2.St} {H1 : Hp} {D : Addr} {Qd : Hp → Prop} (hD : H1 D = none) (f : Nat → Option PyData) (hn : n ≤ 100000)
    (hG : ∀ H, Same H1 H → G H)
    (hs : ∀ i x H H', i < n → Same H1 H → (∃ us, H D = some (.lst us)) → Y i H x H' → ∀ (R : V → Hp → Prop) (N : Hp → Prop), (∀ y H4 d, Same H H4 → f i = some d → Dp K (L2.del H4 D) y d → R y H4) → (∀ H3, Same H H3 → f i = none → N H3) →
      g x (wipe σ vs) H' fun σ2 H2 => wipe σ2 vs = wipe σ vs ∧ tt σ2 H2 fun b H3 => if b = true then te σ2 H3 R else N H3)
    (hd : ∀ H us, Same H1 H → H D = some (.lst us) → DpAll K (L2.del H D) us ((List.range n).filterMap f) → Qd H) :
    ∃ W : Nat → Nat → Hp → Prop, (∃ m, W 0 m (L2.upd H1 D (.lst []))) ∧ ∀ i m H, W i m H →
      (J.stop i H ∧ Qd H) ∨ (J.go i H ∧ ∃ Nx : Hp → Prop, (∀ H', Nx H' → ∃ m', m' < m ∧ W (i + 1) m' H') ∧ ∀ x H', J.yld i H x H' → g x (wipe σ vs) H' fun σ2 H2 => wipe σ2 vs = wipe σ vs ∧ tt σ2 H2 fun b H3 =>
        if b = true then te σ2 H3 fun y H4 => ∃ acc, H4 D = some (.lst acc) ∧ acc.length < sizeLine ∧ Nx (L2.upd H4 D (.lst (acc ++ [y]))) else Nx H3) := by
  refine lc_it w (fun i H => Same H1 H ∧ ∃ us, H D = some (.lst us) ∧ us.length ≤ i ∧ DpAll K (L2.del H D) us ((List.range i).filterMap f)) ⟨same_upd hD, [], upd_same, Nat.le_refl _, .nil⟩ (fun i H hi hp => hG H hp.1) (fun i x H H' hi hp hy => ?_) (fun H hp => ?_)
  · obtain ⟨sm, us, eD, hl, hus⟩ := hp
    refine hs i x H H' hi sm ⟨us, eD⟩ hy _ _ (fun y H4 d s4 hf dy => ?_) (fun H3 s3 hf => ?_)
    · refine ⟨us, s4 _ _ eD, ?_, fun b o e => ?_, us ++ [y], upd_same, ?_, ?_⟩
      · have : us.length < 1000000 := by omega
        exact Nat.lt_of_lt_of_le this (by decide)
      · rw [upd_ne (ne_of_none e hD)]
        exact s4 _ _ (sm b o e)
      · rw [List.length_append]
        exact Nat.succ_le_succ hl
      · rw [del_upd, List.range_succ, List.filterMap_append]
        simp only [List.filterMap_cons, hf, List.filterMap_nil]
        exact dpAll_app (dpAll_same (SameX.del (Same.x s4)) _ _ hus) (.cons dy .nil)
    · refine ⟨Same.trans sm s3, us, s3 _ _ eD, Nat.le_succ_of_le hl, ?_⟩
      rw [List.range_succ, List.filterMap_append]
      simp only [List.filterMap_cons, hf, List.filterMap_nil, List.append_nil]
      exact dpAll_same (SameX.del (Same.x s3)) _ _ hus
  · obtain ⟨sm, us, eD, hl, hus⟩ := hp
    exact hd H us sm eD hus
/-- data that stood before the list was begun -/
theorem dp_old {K : PySem.W.Frag} {H1 H : Hp} {D : Addr} {v : V} {d : PyData} (h : Dp K H1 v d) (hD : H1 D = none) (s : Same H1 H) : Dp K (L2.del H D) v d := dp_same (fun b o e => by rw [del_ne (ne_of_none e hD)]; exact s b o e) _ _ h
theorem fm_at {α : Type} (f : α → Option PyData) : ∀ xs : List α, (List.range xs.length).filterMap (fun i => (xs[i]?).bind f) = xs.filterMap f
  | [] => rfl
  | x :: xs => by
    have ih := fm_at f xs
    rw [List.length_cons, List.range_succ_eq_map]
    simp only [List.filterMap_cons, List.filterMap_map]
    have e : ((fun i => ((x :: xs)[i]?).bind f) ∘ Nat.succ) = fun i => (xs[i]?).bind f := by
      funext i
      simp
    rw [e, ih]
    simp
end Sg

set_option maxRecDepth 100000
set_option maxHeartbeats 4000000
/-! list + list, read alone -/
namespace CQ
open PySem PySem.Spec PyProof.Rows L2
def rCatQ (K : PySem.W.Frag) : R2 := fun x y H Q => ∃ l b xs zs, x = .ref l ∧ y = .ref b ∧ SqL K H l xs ∧ SqL K H b zs ∧ xs.length + zs.length ≤ sizeLine ∧ ∀ p, H p = none → Q (.ref p) (upd H p (.lst (xs ++ zs)))
theorem op_catQ {X : Cx} : OpR X (binaryOp .Add) (rCatQ X.K) := by
  intro pins s σ H x y v u Q I rx ry h
  obtain ⟨l, b, xs, zs, rfl, rfl, hH, hB, hz, q⟩ := h
  cases rx
  cases ry
  obtain ⟨its, r, ⟨⟨c1, d1, da1, s1⟩, n, e, h1, h2, h3⟩, hl⟩ := I.list hH
  obtain ⟨its2, r2, ⟨⟨c2, d2, da2, s2⟩, n2, e2, g1, g2, g3⟩, hl2⟩ := I.list hB
  simp only at h1 h2 h3 g1 g2 g3
  subst h1 h3 g1 g3
  have hz' : its.toArray.size + its2.toArray.size ≤ sizeLine := by rw [List.size_toArray, List.size_toArray, ← r.length, ← r2.length]; exact hz
  have ea : its.toArray ++ its2.toArray = (its ++ its2).toArray := by simp
  refine concat_meets ⟨_, e, rfl⟩ ⟨_, e2, rfl⟩ noFill_list_add seq_list_add PySem.F.slot_list_add PySem.F.entry_list_add (PySem.F.args_list_add_2 _ _)
    (list_addW l b its.toArray its2.toArray n n2 d1 d2 s1 s2 hz') ⟨e, e2, ?_⟩
  rw [ea]
  exact ⟨.ref _, _, I.lnew (t' := s.toks) (r.append r2) (by rw [List.length_append]; omega), rfl, q _ I.fresh⟩
end CQ

set_option maxRecDepth 100000
set_option maxHeartbeats 8000000
namespace Sg
open PySem PySem.Spec PyProof.Rows L2 Dr Gd Er Cm Ow XT TM Tw SD CO CQ
abbrev sRows : Stmt := top 56
/-- all rows of some names -/
def rowsF : Nat → List Str → List (List Str)
  | _, [] => [[]]
  | 0, _ :: _ => []
  | n + 1, z :: zs => (z :: zs).flatMap fun y => (rowsF n ((z :: zs).filter fun x => !decide (x = y))).map (y :: ·)
theorem rowsF_len : ∀ (n : Nat) (zs : List Str), zs.length ≤ 5 → (rowsF n zs).length ≤ 5 ^ n
  | 0, [], _ => by simp [rowsF]
  | 0, _ :: _, _ => by simp [rowsF]
  | n + 1, [], _ => by simp only [rowsF, List.length_cons, List.length_nil]; exact Nat.succ_le_of_lt (Nat.pow_pos (by decide))
  | n + 1, z :: zs, h => by
    rw [rowsF]
    have go : ∀ ys : List Str, ((ys.flatMap fun y => (rowsF n ((z :: zs).filter fun x => !decide (x = y))).map (y :: ·))).length ≤ ys.length * 5 ^ n := fun ys => by
      induction ys with
      | nil => simp
      | cons y ys ih =>
        rw [List.flatMap_cons, List.length_append, List.length_map, List.length_cons, Nat.succ_mul]
        have := rowsF_len n ((z :: zs).filter fun x => !decide (x = y)) (Nat.le_trans (List.length_filter_le _ _) h)
        omega
    have h1 := go (z :: zs)
    have h2 : (z :: zs).length * 5 ^ n ≤ 5 * 5 ^ n := Nat.mul_le_mul_right _ h
    rw [Nat.pow_succ, Nat.mul_comm (5 ^ n) 5]
    omega
/-- a row of all the names, each once -/
def RowOf (N row : List Str) : Prop := row.Nodup ∧ (∀ z ∈ row, z ∈ N) ∧ row.length = N.length
theorem filter_len : ∀ {N : List Str} {y : Str}, N.Nodup → y ∈ N → (N.filter fun x => !decide (x = y)).length + 1 = N.length
  | [], y, _, h => by cases h
  | x :: N, y, nd, h => by
    rw [List.nodup_cons] at nd
    by_cases e : x = y
    · subst e
      rw [List.filter_cons_of_neg (by simp)]
      have : N.filter (fun z => !decide (z = x)) = N := List.filter_eq_self.mpr fun z hz => by
        have : z ≠ x := fun e => nd.1 (by rw [← e]; exact hz)
        simp [this]
      rw [this, List.length_cons]
    · rw [List.filter_cons_of_pos (by simp [e]), List.length_cons, List.length_cons]
      have hy : y ∈ N := by
        rcases List.mem_cons.mp h with h | h
        · exact absurd h.symm e
        · exact h
      rw [filter_len nd.2 hy]
theorem rowsF_row : ∀ (n : Nat) (N : List Str), N.Nodup → ∀ row ∈ rowsF n N, RowOf N row
  | 0, [], _, row, h => by
    simp only [rowsF, List.mem_singleton] at h
    subst h
    exact ⟨List.nodup_nil, (fun z hz => by cases hz), rfl⟩
  | 0, _ :: _, _, row, h => by simp [rowsF] at h
  | n + 1, [], _, row, h => by
    simp only [rowsF, List.mem_singleton] at h
    subst h
    exact ⟨List.nodup_nil, (fun z hz => by cases hz), rfl⟩
  | n + 1, z :: zs, nd, row, h => by
    rw [rowsF] at h
    obtain ⟨y, hy, hr⟩ := List.mem_flatMap.mp h
    obtain ⟨r, hr2, rfl⟩ := List.mem_map.mp hr
    obtain ⟨a, b, c⟩ := rowsF_row n ((z :: zs).filter fun x => !decide (x = y)) (nd.sublist (List.filter_sublist ..)) r hr2
    refine ⟨List.nodup_cons.mpr ⟨fun hm => ?_, a⟩, fun x hx => ?_, ?_⟩
    · have := (List.mem_filter.mp (b y hm)).2
      simp at this
    · rcases List.mem_cons.mp hx with rfl | hx
      · exact hy
      · exact (List.mem_filter.mp (b x hx)).1
    · rw [List.length_cons, c, filter_len nd hy]
def rowsN (N : List Str) : List (List Str) := rowsF N.length N
def spRows (K : PySem.W.Frag) (n : Nat) : Sp := fun vs H Q _ => ∃ v N, vs = [v] ∧ Dp K H v (nmL N) ∧ N.length < n ∧ N.length ≤ 5 ∧ (∀ z ∈ N, PyData.strOk z = true) ∧
  ∀ p us H', Same H H' → H p = none → H' p = some (.lst us) → DpAll K H' us ((rowsN N).map nmL) → Q (.ref p) H'
theorem filter_lt : ∀ {N : List Str} {y : Str}, y ∈ N → (N.filter fun x => !decide (x = y)).length < N.length
  | [], y, h => by cases h
  | x :: N, y, h => by
    by_cases e : x = y
    · subst e
      rw [List.filter_cons_of_neg (by simp), List.length_cons]
      exact Nat.lt_succ_of_le (List.length_filter_le _ _)
    · rw [List.filter_cons_of_pos (by simp [e]), List.length_cons, List.length_cons]
      have hy : y ∈ N := by
        rcases List.mem_cons.mp h with h | h
        · exact absurd h.symm e
        · exact h
      exact Nat.succ_lt_succ (filter_lt hy)
theorem flat_congr {α β : Type} {f g : α → List β} : ∀ (l : List α), (∀ x ∈ l, f x = g x) → l.flatMap f = l.flatMap g
  | [], _ => rfl
  | x :: l, h => by
    rw [List.flatMap_cons, List.flatMap_cons, h x List.mem_cons_self, flat_congr l fun y hy => h y (List.mem_cons_of_mem _ hy)]
theorem rowsF_mono : ∀ (n m : Nat) (N : List Str), N.length ≤ n → N.length ≤ m → rowsF n N = rowsF m N
  | 0, 0, N, _, _ => rfl
  | 0, m + 1, [], _, _ => rfl
  | n + 1, 0, [], _, _ => rfl
  | n + 1, m + 1, [], _, _ => rfl
  | 0, _ + 1, _ :: _, h, _ => by simp at h
  | _ + 1, 0, _ :: _, _, h => by simp at h
  | n + 1, m + 1, z :: zs, hn, hm => by
    rw [rowsF, rowsF]
    refine flat_congr _ fun y hy => ?_
    have := filter_lt hy
    rw [rowsF_mono n m _ (by omega) (by omega)]
/-- the rows of names that are not none, by the first one -/
theorem rowsN_cons {N : List Str} (h : N ≠ []) : rowsN N = N.flatMap fun y => (rowsN (N.filter fun x => !decide (x = y))).map (y :: ·) := by
  unfold rowsN
  match N, h with
  | z :: zs, _ =>
    rw [List.length_cons, rowsF]
    refine flat_congr _ fun y hy => ?_
    have := filter_lt hy
    rw [rowsF_mono zs.length _ _ (by rw [List.length_cons] at this; omega) (Nat.le_refl _)]
theorem rowsF_rlen : ∀ (n : Nat) (N : List Str), ∀ row ∈ rowsF n N, row.length ≤ N.length
  | 0, [], row, h => by simp only [rowsF, List.mem_singleton] at h; subst h; exact Nat.le_refl _
  | 0, _ :: _, row, h => by simp [rowsF] at h
  | n + 1, [], row, h => by simp only [rowsF, List.mem_singleton] at h; subst h; exact Nat.le_refl _
  | n + 1, z :: zs, row, h => by
    rw [rowsF] at h
    obtain ⟨y, hy, hr⟩ := List.mem_flatMap.mp h
    obtain ⟨r, hr2, rfl⟩ := List.mem_map.mp hr
    have := rowsF_rlen n _ r hr2
    have := filter_lt hy
    rw [List.length_cons]
    omega
theorem flat_len {α β : Type} {m : Nat} (g : α → List β) : ∀ l : List α, (∀ x ∈ l, (g x).length ≤ m) → (l.flatMap g).length ≤ l.length * m
  | [], _ => by simp
  | x :: l, h => by
    rw [List.flatMap_cons, List.length_append, List.length_cons, Nat.succ_mul]
    have := flat_len g l fun y hy => h y (List.mem_cons_of_mem _ hy)
    have := h x List.mem_cons_self
    omega
theorem fm_filter (z : Str) : ∀ N : List Str, N.filterMap (fun x => if decide (x = z) = true then none else some (PyData.str x)) = (N.filter fun x => !decide (x = z)).map PyData.str
  | [] => rfl
  | x :: N => by
    by_cases h : x = z
    · rw [List.filter_cons_of_neg (by simp [h]), ← fm_filter z N]
      simp [h]
    · rw [List.filter_cons_of_pos (by simp [h]), List.map_cons, ← fm_filter z N]
      simp [h]
theorem nml_at {K : PySem.W.Frag} {H : Hp} {us : List V} {rows : List (List Str)} {i : Nat} {v : V} (h : DpAll K H us (rows.map nmL)) (e : us[i]? = some v) : ∃ r ar, rows[i]? = some r ∧ v = .ref ar ∧ SqL K H ar (r.map V.str) := by
  obtain ⟨d, h1, h2⟩ := dpAll_get' h e
  rw [List.getElem?_map] at h1
  cases er : rows[i]? with
  | none => rw [er] at h1; cases h1
  | some r =>
    rw [er] at h1
    obtain rfl := Option.some.inj h1
    cases h2 with
    | lst g1 g2 => exact ⟨r, _, rfl, rfl, by rw [← nm_vs g2]; exact g1⟩
theorem fm_some {α : Type} (f : α → PyData) : ∀ l : List α, l.filterMap (fun x => some (f x)) = l.map f
  | [] => rfl
  | x :: l => by rw [List.map_cons, ← fm_some f l]; rfl
section
variable {P : Program} {w : World} {K : PySem.W.Frag} {mg : Str → Option Value} {base : Heap}
theorem scRw : FnScope ["names", "found", "name", "row", "one"] ["names"] (defScope sRows) := ⟨rfl, rfl, rfl, by decide +kernel, rfl, by decide +kernel, by decide +kernel⟩
theorem ok_rows {f : Addr} {fd : FuncData} (F : Fun K "_law_rows" "_law_rows" sRows f fd) (g : mg "_law_rows" = some (.ref f)) : ∀ n : Nat, FnOk P w K mg base CX0 n f fd ["names"] (spRows K n)
  | 0 => ⟨fun vs H Q E h => (by obtain ⟨_, _, _, _, h, _⟩ := h; omega), fun _ _ _ _ _ _ _ _ _ _ _ _ _ h => (by obtain ⟨_, _, _, _, h, _⟩ := h; omega)⟩
  | n + 1 => by
    have IH := ok_rows F g n
    have b : Binds K fd ["names"] [] := F.binds fun _ _ _ _ _ _ us hl => match us, hl with | [_], _ => rfl
    refine F.ok scRw (fun vs H Q E h => ?_) (fun cdv A outer s H vs Q E hr h => ?_)
    · obtain ⟨v, N, rfl, _⟩ := h
      rfl
    · obtain ⟨v, N, rfl, hv, hn, h5, hok, q⟩ := h
      have nd := scRw.nd
      refine ⟨_, pss_cons (ps_if (pt_cmpR (op_eqD hr.units) (pv 0) (pe_lst pa_nil) (nomark _)) (pss_one (ps_ret (pe_lst (pa_cons (pe_lst pa_nil) pa_nil)))) pss_nil)
        (pss_cons (ps_set (i := 1) nd rfl (Or.inl rfl) (pe_lst pa_nil))
        (pss_cons (ps_for PassesOwn.never rfl (pi_list (pv 0)) (pg_name (i := 2) nd rfl (Or.inr rfl))
          (pss_one (ps_set (i := 1) nd rfl (Or.inl rfl) (pe_op op_cat (pv 1) (pe_lc (own := [("row", 3)]) (g := gName 3) (tt := tYes) (te := tOp (rCatQ K) (tLst (tCons (tVar 2) tNil)) (tVar 3)) rfl nd
            (pi_list (pe_call IH hr rfl g F.kp b .nil pass0 (pa_cons (pe_lc (own := [("one", 4)]) (g := gName 4) (tt := tTest (tOp rNe (tVar 4) (tVar 2))) (te := tVar 4) rfl nd (pi_list (pv 0))
                (blkOk_by (N := ["names", "found", "name", "row", "one"]) (sc := defScope sRows) (by decide +kernel)) (fun _ _ _ _ _ => pg_name (i := 4) nd rfl (Or.inl rfl)) (fun _ _ _ _ _ => pts_one (pt_cmpR op_ne (pv 4) (pv 2) (nomark _))) (fun _ _ _ _ _ => pv 4)) pa_nil)))
            (blkOk_by (N := ["names", "found", "name", "row", "one"]) (sc := defScope sRows) (by decide +kernel)) (fun _ _ _ _ _ => pg_name (i := 3) nd rfl (Or.inl rfl)) (fun _ _ _ _ _ => pts_nil) (fun _ _ _ _ _ => pe_op op_catQ (pe_lst (pa_cons (pv 2) pa_nil)) (pv 3)))))))
        (pss_one (ps_ret (pv 1))))), ?_⟩
      cases hv with
      | lst g1 g2 =>
        rename_i a xs
        obtain rfl := nm_vs g2
        refine ⟨_, rfl, Nat.zero_le _, fun l0 hl0 => ?_⟩
        have s0 := same_upd (o := .lst []) hl0
        refine ⟨nmL N, .list [], .lst (Same.seq s0 g1) (dp_strs N), .lst (SqL.of upd_same) .nil, nmL_shaped hok, by decide, _, rfl, ?_⟩
        have en : PyData.eqv (nmL N) (.list []) = N.isEmpty := by cases N <;> rfl
        rw [en]
        generalize (L2.upd H l0 (.lst [])) = H0 at s0 ⊢
        by_cases hN : N = []
        · subst hN
          refine iteT ?_
          refine ⟨Nat.zero_le _, fun p1 hp1 => ?_⟩
          refine ⟨(by show 1 ≤ sizeLine; decide), fun p2 hp2 => ?_⟩
          have s1 := same_upd (o := .lst []) hp1
          have s2 := same_upd (o := .lst [V.ref p1]) hp2
          exact q p2 _ _ (Same.trans s0 (Same.trans s1 s2)) (Same.free (Same.trans s0 s1) hp2) upd_same (.cons (.lst (SqL.of (s2 _ _ upd_same)) .nil) .nil)
        · have he : N.isEmpty = false := by cases N with
            | nil => exact absurd rfl hN
            | cons _ _ => rfl
          rw [he]
          refine iteF ?_
          refine ⟨Nat.zero_le _, fun lf hlf => ?_⟩
          have s1 := same_upd (o := .lst []) hlf
          have e1 : (L2.upd H0 lf (.lst [])) lf = some (.lst []) := upd_same
          have s01 := Same.trans s0 s1
          have n0 : H lf = none := Same.free s0 hlf
          generalize (L2.upd H0 lf (.lst [])) = H1 at e1 s01 ⊢
          refine ⟨_, rfl, a, rfl, ⟨_, Same.seq s01 g1⟩, ?_⟩
          refine for_it (walk_list (xs := N.map V.str)) (fun i σ H' => ∃ l us c2, σ = [some (.ref a), some (.ref l), c2, none, none] ∧ Same H H' ∧ H l = none ∧ H' l = some (.lst us) ∧ DpAll K H' us (((N.take i).flatMap fun y => (rowsN (N.filter fun x => !decide (x = y))).map (y :: ·)).map nmL))
            ⟨lf, [], none, rfl, s01, n0, e1, .nil⟩ (fun i σ H' hi hp => by obtain ⟨_, _, _, _, sm, _⟩ := hp; exact Same.seq sm g1) (fun i y σ Hq H' hi hp hy => ?_) (fun σ H' hp => ?_)
          · obtain ⟨l, us, c2, rfl, sm, hl0, el, hus⟩ := hp
            obtain ⟨rfl, ey⟩ := hy
            obtain ⟨z, ez, rfl⟩ := strs_at ey
            have zN : z ∈ N := List.mem_of_getElem? ez
            refine ⟨_, rfl, _, rfl, a, rfl, ⟨_, Same.seq sm g1⟩, fun D1 hD1 => ?_⟩
            refine lc_data (K := K) (walk_list (xs := N.map V.str)) hD1 (fun i => (N[i]?).bind fun x => if decide (x = z) = true then none else some (.str x)) (by rw [List.length_map]; omega) (fun H5 s5 => Same.seq s5 (Same.seq sm g1)) (fun i y H5 H6 hi s5 _ hy R Nx hR hNx => ?_) (fun H2 us2 s2 e2 d2 => ?_)
            · obtain ⟨rfl, ey⟩ := hy
              obtain ⟨x, ex, rfl⟩ := strs_at ey
              refine ⟨rfl, ?_⟩
              refine ⟨_, rfl, _, rfl, ⟨rfl, ?_⟩⟩
              refine ⟨_, rfl, ?_⟩
              by_cases hx : x = z
              · subst hx
                rw [show (!decide (V.str x = V.str x)) = false by simp]
                exact iteF (hNx _ (Same.refl _) (by rw [ex]; simp))
              · have h1 : decide (V.str x = V.str z) = false := decide_eq_false fun e => hx (by injection e)
                rw [h1]
                refine iteT ⟨_, rfl, hR _ _ (.str x) (Same.refl _) ?_ (.str x)⟩
                rw [ex]
                simp [hx]
            · rw [List.length_map, fm_at, fm_filter] at d2
              have hlt := filter_lt zN
              have d2' := dpAll_same (del_sub (H := H2) (p := D1)) _ _ d2
              obtain rfl := nm_vs d2'
              refine ⟨.ref D1, N.filter fun x => !decide (x = z), rfl, .lst (SqL.of e2) d2', by omega, by omega, fun y hy => hok y (List.mem_filter.mp hy).1, fun p us3 H3 s3 hp3 e3 d3 => ?_⟩
              refine ⟨p, rfl, ⟨us3, SqL.of e3⟩, fun D hD => ?_⟩
              have s02 := Same.trans s2 s3
              have lr : (rowsN (N.filter fun x => !decide (x = z))).length ≤ 5 ^ 5 := Nat.le_trans (rowsF_len _ _ (by omega)) (Nat.pow_le_pow_right (by decide) (by omega))
              have l3 : us3.length = (rowsN (N.filter fun x => !decide (x = z))).length := (dpAll_len d3).trans (List.length_map ..)
              refine lc_data (K := K) (walk_list (xs := us3)) hD (fun i => ((rowsN (N.filter fun x => !decide (x = z)))[i]?).bind fun r => some (nmL (z :: r))) (by rw [l3]; exact Nat.le_trans lr (by decide)) (fun H5 s5 => Same.seq s5 (SqL.of e3)) (fun i y H5 H6 hi s5 eD hy R Nx hR hNx => ?_) (fun H4 us4 s4 e4 d4 => ?_)
              · obtain ⟨rfl, ey⟩ := hy
                obtain ⟨r, ar, er, rfl, hr⟩ := nml_at d3 ey
                obtain ⟨uD, eD⟩ := eD
                refine ⟨rfl, lcYes ?_⟩
                refine ⟨_, rfl, (by show 1 ≤ sizeLine; decide), fun p1 hp1 => ?_⟩
                have t1 := same_upd (o := .lst [V.str z]) hp1
                refine ⟨_, rfl, p1, ar, [V.str z], r.map V.str, rfl, rfl, SqL.of upd_same, Same.seq t1 (Same.seq s5 hr), ?_, fun p2 hp2 => ?_⟩
                · have rl := rowsF_rlen _ _ _ (List.mem_of_getElem? er)
                  have : ([V.str z] : List V).length + (r.map V.str).length ≤ 1000 := by
                    rw [List.length_map, List.length_singleton]
                    omega
                  exact Nat.le_trans this (by decide)
                · have t2 := same_upd (o := .lst ([V.str z] ++ r.map V.str)) hp2
                  have pD : p2 ≠ D := fun z => by rw [z, t1 _ _ eD] at hp2; cases hp2
                  refine hR _ _ (nmL (z :: r)) (Same.trans t1 t2) (by rw [er]; rfl) (.lst (SqL.of (by rw [del_ne pD, upd_same]; rfl)) (dp_strs (z :: r)))
              · rw [l3, fm_at, fm_some] at d4
                have s04 := Same.trans s02 s4
                have lD := dpAll_len d4
                refine ⟨l, D, us, us4, rfl, rfl, s04 _ _ el, e4, ?_, fun p5 hp5 => ?_⟩
                · have lu := dpAll_len hus
                  rw [List.length_map] at lu lD
                  have lf := flat_len (m := 5 ^ 5) (fun y => (rowsN (N.filter fun x => !decide (x = y))).map (y :: ·)) (N.take i) (fun y hy => by
                    rw [List.length_map]
                    refine Nat.le_trans (rowsF_len _ _ ?_) (Nat.pow_le_pow_right (by decide) ?_)
                    · exact Nat.le_trans (List.length_filter_le _ _) h5
                    · exact Nat.le_trans (List.length_filter_le _ _) h5)
                  have li : (N.take i).length ≤ 5 := by rw [List.length_take]; omega
                  have : us.length + us4.length ≤ 100000 := by
                    have := Nat.mul_le_mul_right (5 ^ 5) li
                    have e5 : (5 : Nat) ^ 5 = 3125 := by decide
                    omega
                  exact Nat.le_trans this (by decide)
                · have s5 := same_upd (o := .lst (us ++ us4)) hp5
                  have s05 := Same.trans s04 s5
                  refine ⟨p5, _, _, rfl, Same.trans sm s05, Same.free (Same.trans sm s04) hp5, upd_same, ?_⟩
                  rw [List.take_succ, ez, List.flatMap_append, List.map_append]
                  refine dpAll_app (dpAll_same s05 _ _ hus) ?_
                  have e6 : (([z].flatMap fun y => (rowsN (N.filter fun x => !decide (x = y))).map (y :: ·)).map nmL) = (rowsN (N.filter fun x => !decide (x = z))).map (fun r => nmL (z :: r)) := by
                    rw [List.flatMap_cons, List.flatMap_nil, List.append_nil, List.map_map]
                    rfl
                  show DpAll K _ us4 (([z].flatMap fun y => (rowsN (N.filter fun x => !decide (x = y))).map (y :: ·)).map nmL)
                  rw [e6]
                  exact dpAll_same s5 _ _ (dpAll_same del_sub _ _ d4)
          · obtain ⟨l, us, c2, rfl, sm, hl0, el, hus⟩ := hp
            rw [List.length_map, List.take_length, ← rowsN_cons hN] at hus
            exact ⟨_, rfl, q l us H' sm hl0 el hus⟩
end
end Sg

set_option maxRecDepth 100000
set_option maxHeartbeats 8000000
namespace Sg
open PySem PySem.Spec PyProof.Rows L2 Dr Gd Er Cm Ow XT TM Tw SD CO CQ
abbrev sLots : Stmt := top 57
def lotsStep (acc : List (List Str)) (z : Str) : List (List Str) := acc ++ acc.map (· ++ [z])
/-- all lists of some of the names, as they stand -/
def lotsL (N : List Str) : List (List Str) := N.foldl lotsStep [[]]
theorem lots_step_len (acc : List (List Str)) (z : Str) : (lotsStep acc z).length = 2 * acc.length := by
  unfold lotsStep
  rw [List.length_append, List.length_map]
  omega
theorem foldl_snoc (N : List Str) (z : Str) (acc : List (List Str)) : (N ++ [z]).foldl lotsStep acc = lotsStep (N.foldl lotsStep acc) z := by rw [List.foldl_append]; rfl
theorem lots_len' : ∀ (N : List Str) (acc : List (List Str)), (N.foldl lotsStep acc).length = 2 ^ N.length * acc.length
  | [], acc => by simp
  | z :: N, acc => by
    rw [List.foldl_cons, lots_len' N, lots_step_len, List.length_cons, Nat.pow_succ, Nat.mul_assoc]
theorem lots_len (N : List Str) : (lotsL N).length = 2 ^ N.length := by
  unfold lotsL
  rw [lots_len']
  simp
theorem lots_sub' : ∀ (N : List Str) (acc : List (List Str)) (M : List Str), (∀ l ∈ acc, l.Sublist M) → ∀ l ∈ N.foldl lotsStep acc, l.Sublist (M ++ N)
  | [], acc, M, h, l, hl => by simpa using h l hl
  | z :: N, acc, M, h, l, hl => by
    rw [List.foldl_cons] at hl
    have := lots_sub' N (lotsStep acc z) (M ++ [z]) (fun l hl => by
      unfold lotsStep at hl
      rcases List.mem_append.mp hl with hl | hl
      · exact (h l hl).trans (List.sublist_append_left ..)
      · obtain ⟨k, hk, rfl⟩ := List.mem_map.mp hl
        exact (h k hk).append (List.Sublist.refl _)) l hl
    rwa [List.append_assoc] at this
theorem lots_sub {N l : List Str} (h : l ∈ lotsL N) : l.Sublist N := by
  have := lots_sub' N [[]] [] (fun l hl => by rw [List.mem_singleton.mp hl]; exact List.Sublist.refl _) l h
  simpa using this
def unL : PyData → List Str
  | .list ds => ds.map fun d => match d with | .str z => z | _ => Str.empty
  | _ => []
theorem un_nm (l : List Str) : unL (nmL l) = l := by
  show (l.map PyData.str).map _ = l
  rw [List.map_map]
  induction l with
  | nil => rfl
  | cons a l ih => rw [List.map_cons, ih]; rfl
theorem sort_un (L : List (List Str)) : ∃ ls : List (List Str), ls.Perm L ∧ (L.map nmL).mergeSort (PySem.W.dataLe false id) = ls.map nmL := by
  have p : ((L.map nmL).mergeSort (PySem.W.dataLe false id)).Perm (L.map nmL) := List.mergeSort_perm _ _
  refine ⟨((L.map nmL).mergeSort (PySem.W.dataLe false id)).map unL, ?_, ?_⟩
  · have := p.map unL
    rw [List.map_map] at this
    have e : L.map (unL ∘ nmL) = L := by
      conv => rhs; rw [← List.map_id L]
      exact List.map_congr_left fun l _ => un_nm l
    rwa [e] at this
  · rw [List.map_map]
    conv => lhs; rw [← List.map_id ((L.map nmL).mergeSort (PySem.W.dataLe false id))]
    refine List.map_congr_left fun d hd => ?_
    obtain ⟨l, _, rfl⟩ := List.mem_map.mp (p.mem_iff.mp hd)
    show nmL l = nmL (unL (nmL l))
    rw [un_nm]
theorem alike_strs : ∀ a b : List Str, PySem.W.alikeAll (a.map .str) (b.map .str) = true
  | [], _ => by simp [PySem.W.alikeAll]
  | _ :: _, [] => by simp [PySem.W.alikeAll]
  | _ :: a, _ :: b => by
    simp only [List.map_cons, PySem.W.alikeAll, PySem.W.alike, Bool.true_and]
    exact alike_strs a b
theorem nm_depth : ∀ l : List Str, (nmL l).depth ≤ 50 := fun l => by
  unfold nmL
  simp only [PyData.depth]
  have : PyData.depthAll (l.map .str) ≤ 0 := by
    induction l with
    | nil => simp [PyData.depthAll]
    | cons a l ih => simp only [List.map_cons, PyData.depthAll, PyData.depth]; omega
  omega
def spLots (K : PySem.W.Frag) : Sp := fun vs H Q _ => ∃ v N, vs = [v] ∧ Dp K H v (nmL N) ∧ N.length ≤ 5 ∧
  ∀ (p : Addr) (us : List V) (ls : List (List Str)) (H' : Hp), Same H H' → H p = none → H' p = some (.lst us) → ls.Perm (lotsL N) → DpAll K H' us (ls.map nmL) → Q (.ref p) H'
section
variable {P : Program} {w : World} {K : PySem.W.Frag} {mg : Str → Option Value} {base : Heap}
theorem scLo : FnScope ["names", "found", "name", "one"] ["names"] (defScope sLots) := ⟨rfl, rfl, rfl, by decide +kernel, rfl, by decide +kernel, by decide +kernel⟩
theorem ok_lots {f : Addr} {fd : FuncData} (F : Fun K "_law_lots" "_law_lots" sLots f fd) (srt : mg "sorted" = none) : FnOk P w K mg base CX0 1 f fd ["names"] (spLots K) := by
  refine F.ok scLo (fun vs H Q E h => ?_) (fun cdv A outer s H vs Q E hr h => ?_)
  · obtain ⟨v, N, rfl, _⟩ := h
    rfl
  · obtain ⟨v, N, rfl, hv, h5, q⟩ := h
    have nd := scLo.nd
    have hu : (A.deeper (envOfC "_law_lots" (defScope sLots) s.heap.objs.size f cdv)).units + 60 < cLine := by
      have := hr.un
      omega
    refine ⟨_, pss_cons (ps_set (i := 1) nd rfl (Or.inl rfl) (pe_lst (pa_cons (pe_lst pa_nil) pa_nil)))
      (pss_cons (ps_for PassesOwn.never rfl (pi_list (pv 0)) (pg_name (i := 2) nd rfl (Or.inr rfl))
        (pss_one (ps_set (i := 1) nd rfl (Or.inl rfl) (pe_op op_cat (pv 1) (pe_lc (own := [("one", 3)]) (g := gName 3) (tt := tYes) (te := tOp (rCatQ K) (tVar 3) (tLst (tCons (tVar 2) tNil))) rfl nd (pi_list (pv 1))
          (blkOk_by (N := ["names", "found", "name", "one"]) (sc := defScope sLots) (by decide +kernel)) (fun _ _ _ _ _ => pg_name (i := 3) nd rfl (Or.inl rfl)) (fun _ _ _ _ _ => pts_nil) (fun _ _ _ _ _ => pe_op op_catQ (pv 3) (pe_lst (pa_cons (pv 2) pa_nil))))))))
      (pss_one (ps_ret (pe_callB (show CallR _ (.builtin "sorted") (rSortD K) from cr_sortD hu) (by rfl) srt (by decide +kernel) (pa_cons (pv 1) pa_nil))))), ?_⟩
    cases hv with
    | lst g1 g2 =>
      rename_i a xs
      obtain rfl := nm_vs g2
      refine ⟨Nat.zero_le _, fun p1 hp1 => ⟨(by show 1 ≤ sizeLine; decide), fun p2 hp2 => ?_⟩⟩
      have s1 := same_upd (o := .lst []) hp1
      have s2 := same_upd (o := .lst [V.ref p1]) hp2
      have s02 := Same.trans s1 s2
      have n2 : H p2 = none := Same.free s1 hp2
      have e2 : (L2.upd (L2.upd H p1 (.lst [])) p2 (.lst [V.ref p1])) p2 = some (.lst [V.ref p1]) := upd_same
      have d2 : DpAll K (L2.upd (L2.upd H p1 (.lst [])) p2 (.lst [V.ref p1])) [V.ref p1] (([[]] : List (List Str)).map nmL) := .cons (.lst (SqL.of (s2 _ _ upd_same)) .nil) .nil
      generalize (L2.upd (L2.upd H p1 (.lst [])) p2 (.lst [V.ref p1])) = H2 at s02 e2 d2 ⊢
      refine ⟨_, rfl, a, rfl, ⟨_, Same.seq s02 g1⟩, ?_⟩
      refine for_it (walk_list (xs := N.map V.str)) (fun i σ H' => ∃ l us c2, σ = [some (.ref a), some (.ref l), c2, none] ∧ Same H H' ∧ H l = none ∧ H' l = some (.lst us) ∧ DpAll K H' us ((lotsL (N.take i)).map nmL))
        ⟨p2, _, none, rfl, s02, n2, e2, d2⟩ (fun i σ H' hi hp => by obtain ⟨_, _, _, _, sm, _⟩ := hp; exact Same.seq sm g1) (fun i y σ Hq H' hi hp hy => ?_) (fun σ H' hp => ?_)
      · obtain ⟨l, us, c2, rfl, sm, hl0, el, hus⟩ := hp
        obtain ⟨rfl, ey⟩ := hy
        obtain ⟨z, ez, rfl⟩ := strs_at ey
        have lu : us.length = (lotsL (N.take i)).length := (dpAll_len hus).trans (List.length_map ..)
        have ll : (lotsL (N.take i)).length ≤ 32 := by
          rw [lots_len]
          have : (N.take i).length ≤ 5 := by rw [List.length_take]; omega
          exact Nat.pow_le_pow_right (by decide) this
        refine ⟨_, rfl, _, rfl, l, rfl, ⟨_, SqL.of el⟩, fun D hD => ?_⟩
        refine lc_data (K := K) (walk_list (xs := us)) hD (fun i' => ((lotsL (N.take i))[i']?).bind fun r => some (nmL (r ++ [z]))) (by omega) (fun H5 s5 => SqL.of (s5 _ _ el)) (fun j y H5 H6 hj s5 eD hy R Nx hR hNx => ?_) (fun H4 us4 s4 e4 d4 => ?_)
        · obtain ⟨rfl, ey⟩ := hy
          obtain ⟨r, ar, er, rfl, hr⟩ := nml_at hus ey
          obtain ⟨uD, eD⟩ := eD
          have rl : r.length ≤ 5 := by
            have := (lots_sub (List.mem_of_getElem? er)).length_le
            rw [List.length_take] at this
            omega
          refine ⟨rfl, lcYes ?_⟩
          refine ⟨_, rfl, _, rfl, (by show 1 ≤ sizeLine; decide), fun p1 hp1 => ?_⟩
          have t1 := same_upd (o := .lst [V.str z]) hp1
          refine ⟨ar, p1, r.map V.str, [V.str z], rfl, rfl, Same.seq t1 (Same.seq s5 hr), SqL.of upd_same, ?_, fun p2 hp2 => ?_⟩
          · have : (r.map V.str).length + ([V.str z] : List V).length ≤ 1000 := by
              rw [List.length_map, List.length_singleton]
              omega
            exact Nat.le_trans this (by decide)
          · have t2 := same_upd (o := .lst (r.map V.str ++ [V.str z])) hp2
            have pD : p2 ≠ D := fun z => by rw [z, t1 _ _ eD] at hp2; cases hp2
            refine hR _ _ (nmL (r ++ [z])) (Same.trans t1 t2) (by rw [er]; rfl) (.lst (SqL.of (xs := (r ++ [z]).map V.str) (by rw [del_ne pD, upd_same, List.map_append]; rfl)) (dp_strs (r ++ [z])))
        · rw [lu, fm_at, fm_some] at d4
          have lD := dpAll_len d4
          rw [List.length_map] at lD
          refine ⟨l, D, us, us4, rfl, rfl, s4 _ _ el, e4, Nat.le_trans (show us.length + us4.length ≤ 1000 by omega) (by decide), fun p5 hp5 => ?_⟩
          have s5 := same_upd (o := .lst (us ++ us4)) hp5
          have s05 := Same.trans s4 s5
          refine ⟨p5, _, _, rfl, Same.trans sm s05, Same.free (Same.trans sm s4) hp5, upd_same, ?_⟩
          have e6 : lotsL (N.take (i + 1)) = lotsL (N.take i) ++ (lotsL (N.take i)).map (· ++ [z]) := by
            rw [List.take_succ, ez]
            exact foldl_snoc _ _ _
          rw [e6, List.map_append, List.map_map]
          exact dpAll_app (dpAll_same s05 _ _ hus) (dpAll_same s5 _ _ (dpAll_same del_sub _ _ d4))
      · obtain ⟨l, us, c2, rfl, sm, hl0, el, hus⟩ := hp
        rw [List.length_map, List.take_length] at hus
        refine ⟨_, rfl, l, us, _, rfl, SqL.of el, hus, fun d hd d' hd' => ?_, .inr fun d hd => ?_, fun d hd => ?_, fun zs p dz hp => ?_⟩
        · obtain ⟨r, _, rfl⟩ := List.mem_map.mp hd
          obtain ⟨r', _, rfl⟩ := List.mem_map.mp hd'
          show PySem.W.alike (.list _) (.list _) = true
          simp only [PySem.W.alike]
          exact alike_strs r r'
        · obtain ⟨r, _, rfl⟩ := List.mem_map.mp hd
          exact ⟨(by intro z; cases z), (by intro xs z; cases z)⟩
        · obtain ⟨r, _, rfl⟩ := List.mem_map.mp hd
          exact nm_depth r
        · obtain ⟨ls, pl, els⟩ := sort_un (lotsL N)
          rw [els] at dz
          have sp := same_upd (o := .lst zs) hp
          exact q p zs ls _ (Same.trans sm sp) (Same.free sm hp) upd_same pl (dpAll_same sp _ _ dz)
end
end Sg

set_option maxRecDepth 100000
set_option maxHeartbeats 8000000
namespace Sg
open PySem PySem.Spec PyProof.Rows L2 Dr Gd Er Cm Ow XT TM Tw SD CO CQ
abbrev sOrders : Stmt := top 58
abbrev Ord := List Str × List Str
def ordD (o : Ord) : PyData := .list [nmL o.1, nmL o.2]
def OrdOf (ps : List (Str × Int)) (o : Ord) : Prop := o.1 ∈ rowsN (nmsOf ps) ∧ ∃ ways : List Str, ways.Perm (waysOf ps) ∧ sortedS ways = true ∧ o.2.Sublist ways
theorem rowsN_ne : ∀ (n : Nat) (N : List Str), N.length ≤ n → rowsF n N ≠ []
  | 0, [], _ => by simp [rowsF]
  | 0, _ :: _, h => by simp at h
  | n + 1, [], _ => by simp [rowsF]
  | n + 1, z :: zs, h => by
    rw [rowsF, List.flatMap_cons]
    intro e
    have e := (List.append_eq_nil_iff.mp e).1
    rw [List.map_eq_nil_iff] at e
    exact rowsN_ne n _ (by have := filter_lt (N := z :: zs) (y := z) List.mem_cons_self; omega) e
def spOrders (K : PySem.W.Frag) : Sp := fun vs H Q _ => ∃ v ps, vs = [v] ∧ Dp K H v (psD ps) ∧ SgOk ps ∧
  ∀ (p : Addr) (us : List V) (os : List Ord) (H' : Hp), Same H H' → H p = none → H' p = some (.lst us) → (∀ o ∈ os, OrdOf ps o) → 0 < os.length → os.length ≤ 100000 → DpAll K H' us (os.map ordD) → Q (.ref p) H'
theorem nms_len (ps : List (Str × Int)) : (nmsOf ps).length = ps.length := List.length_map ..
section
variable {P : Program} {w : World} {K : PySem.W.Frag} {mg : Str → Option Value} {base : Heap} {fR fL fW : Addr} {dR dL dW : FuncData}
theorem scOd : FnScope ["pairs", "found", "row", "name", "arity", "lots"] ["pairs"] (defScope sOrders) := ⟨rfl, rfl, rfl, by decide +kernel, rfl, by decide +kernel, by decide +kernel⟩
theorem ok_orders {f : Addr} {fd : FuncData} (F : Fun K "_law_orders" "_law_orders" sOrders f fd) (GR : Cal P w K mg base CX0 6 "_law_rows" fR dR ["names"] (spRows K 6)) (GL : Cal P w K mg base CX0 1 "_law_lots" fL dL ["names"] (spLots K)) (GW : Cal P w K mg base CX0 1 "_law_ways" fW dW ["pairs"] (spLw K)) : FnOk P w K mg base CX0 7 f fd ["pairs"] (spOrders K) := by
  refine F.ok scOd (fun vs H Q E h => ?_) (fun cdv A outer s H vs Q E hr h => ?_)
  · obtain ⟨v, ps, rfl, _⟩ := h
    rfl
  · obtain ⟨v, ps, rfl, hv, hok, q⟩ := h
    have nd := scOd.nd
    have r1 : Room 1 (A.deeper (envOfC "_law_orders" (defScope sOrders) s.heap.objs.size f cdv)) := hr.mono (by decide)
    refine ⟨_, pss_cons (ps_set (i := 1) nd rfl (Or.inl rfl) (pe_lst pa_nil))
      (pss_cons (ps_for PassesOwn.never rfl (pi_list (pe_call GR.ok hr rfl GR.g GR.kp GR.b .nil pass0 (pa_cons (pe_lc (own := [("name", 3), ("arity", 4)]) (g := gTup K 2 (gCons (gName 3) (gCons (gName 4) gNil))) (tt := tYes) (te := tVar 3) rfl nd (pi_list (pv 0))
            (blkOk_by (N := ["pairs", "found", "row", "name", "arity", "lots"]) (sc := defScope sOrders) (by decide +kernel)) (fun _ _ _ _ _ => pg_tup rfl (pgs_cons (pg_name (i := 3) nd rfl (Or.inl rfl)) (pgs_cons (pg_name (i := 4) nd rfl (Or.inl rfl)) pgs_nil))) (fun _ _ _ _ _ => pts_nil) (fun _ _ _ _ _ => pv 3)) pa_nil))) (pg_name (i := 2) nd rfl (Or.inr rfl))
        (pss_one (ps_set (i := 1) nd rfl (Or.inl rfl) (pe_op op_cat (pv 1) (pe_lc (own := [("lots", 5)]) (g := gName 5) (tt := tYes) (te := tLst (tCons (tVar 2) (tCons (tVar 5) tNil))) rfl nd (pi_list (pe_call GL.ok r1 rfl GL.g GL.kp GL.b .nil pass0 (pa_cons (pe_call GW.ok r1 rfl GW.g GW.kp GW.b .nil pass0 (pa_cons (pv 0) pa_nil)) pa_nil)))
          (blkOk_by (N := ["pairs", "found", "row", "name", "arity", "lots"]) (sc := defScope sOrders) (by decide +kernel)) (fun _ _ _ _ _ => pg_name (i := 5) nd rfl (Or.inl rfl)) (fun _ _ _ _ _ => pts_nil) (fun _ _ _ _ _ => pe_lst (pa_cons (pv 2) (pa_cons (pv 5) pa_nil))))))))
      (pss_one (ps_ret (pv 1)))), ?_⟩
    have l5 := hok.l5
    have hv0 := hv
    cases hv with
    | lst g1 g2 =>
      rename_i a xs
      have g2 : DpAll K H xs (prD ps) := g2
      have xl : xs.length = ps.length := (dpAll_len g2).trans (List.length_map ..)
      refine ⟨Nat.zero_le _, fun p1 hp1 => ?_⟩
      have s1 := same_upd (o := .lst []) hp1
      have e1 : (L2.upd H p1 (.lst [])) p1 = some (.lst []) := upd_same
      generalize (L2.upd H p1 (.lst [])) = H1 at s1 e1 ⊢
      refine ⟨_, rfl, a, rfl, ⟨_, Same.seq s1 g1⟩, fun D1 hD1 => ?_⟩
      refine lc_data (K := K) (walk_list (xs := xs)) hD1 (fun i => (ps[i]?).bind fun p => some (.str p.1)) (by omega) (fun H5 s5 => Same.seq s5 (Same.seq s1 g1)) (fun j y H5 H6 hj s5 eD hy R Nx hR hNx => ?_) (fun H2 us2 s2 e2 d2 => ?_)
      · obtain ⟨rfl, ey⟩ := hy
        obtain ⟨z, n, t, ep, rfl, ht⟩ := pr_at g2 ey
        refine ⟨t, _, rfl, seqT_same (Same.trans s1 s5) ht, rfl, ?_⟩
        refine ⟨_, _, rfl, _, _, rfl, rfl, ?_⟩
        refine ⟨rfl, lcYes ?_⟩
        exact ⟨_, rfl, hR _ _ (.str z) (Same.refl _) (by rw [ep]; rfl) (.str z)⟩
      · rw [xl, fm_at, fm_some] at d2
        have d2' := dpAll_same (del_sub (H := H2) (p := D1)) _ _ d2
        have d2'' : DpAll K H2 us2 ((nmsOf ps).map PyData.str) := by
          unfold nmsOf
          rw [List.map_map]
          exact d2'
        obtain rfl := nm_vs d2''
        refine ⟨.ref D1, nmsOf ps, rfl, .lst (SqL.of e2) d2'', by rw [nms_len]; omega, by rw [nms_len]; omega, fun z hz => ?_, fun pr ur H3 s3 hpr er dr => ?_⟩
        · obtain ⟨p, hp, rfl⟩ := List.mem_map.mp hz
          exact hok.ok p hp
        · have s03 := Same.trans s1 (Same.trans s2 s3)
          have lr : (rowsN (nmsOf ps)).length ≤ 3125 := Nat.le_trans (rowsF_len _ _ (by rw [nms_len]; omega)) (Nat.le_trans (Nat.pow_le_pow_right (by decide) (show (nmsOf ps).length ≤ 5 by rw [nms_len]; omega)) (by decide))
          have lur : ur.length = (rowsN (nmsOf ps)).length := (dpAll_len dr).trans (List.length_map ..)
          have rne : rowsN (nmsOf ps) ≠ [] := rowsN_ne _ _ (Nat.le_refl _)
          refine ⟨pr, rfl, ⟨_, SqL.of er⟩, ?_⟩
          refine for_it (walk_list (xs := ur)) (fun i σ H' => ∃ (l : Addr) (us : List V) (c2 : Option V) (os : List Ord), σ = [some (.ref a), some (.ref l), c2, none, none, none] ∧ Same H3 H' ∧ H l = none ∧ H' l = some (.lst us) ∧ DpAll K H' us (os.map ordD) ∧ (∀ o ∈ os, OrdOf ps o) ∧ os.length ≤ i * 32 ∧ i ≤ os.length)
            ⟨p1, [], none, [], rfl, Same.refl H3, hp1, s3 _ _ (s2 _ _ e1), .nil, by simp, Nat.zero_le _, Nat.zero_le _⟩ (fun i σ H' hi hp => by obtain ⟨_, _, _, _, _, sm, _⟩ := hp; exact SqL.of (sm _ _ er)) (fun i y σ Hq H' hi hp hy => ?_) (fun σ H' hp => ?_)
          · obtain ⟨l, us, c2, os, rfl, sm, hl0, el, hus, hos, ho1, ho2⟩ := hp
            obtain ⟨rfl, ey⟩ := hy
            obtain ⟨r, ar, er', rfl, hr⟩ := nml_at dr ey
            have s0 := Same.trans s03 sm
            refine ⟨_, rfl, _, rfl, .ref a, ps, rfl, dp_same s0 _ _ hv0, l5, fun H4 ys p4 s4 hp4 hperm hsort e4 => ?_⟩
            have yl : ys.length ≤ 5 := by
              have := hperm.length_eq
              have := ways_len ps
              omega
            refine ⟨.ref p4, ys, rfl, .lst (SqL.of e4) (dp_strs ys), yl, fun p5 u5 ls H5 s5 hp5 e5 pl d5 => ?_⟩
            refine ⟨p5, rfl, ⟨_, SqL.of e5⟩, fun D hD => ?_⟩
            have l5' : u5.length = ls.length := (dpAll_len d5).trans (List.length_map ..)
            have lls : ls.length = 2 ^ ys.length := by rw [pl.length_eq, lots_len]
            have l32 : ls.length ≤ 32 := by rw [lls]; exact Nat.pow_le_pow_right (by decide) yl
            have l1 : 1 ≤ ls.length := by rw [lls]; exact Nat.pos_of_ne_zero (by simp)
            have s45 := Same.trans s4 s5
            have hrI := Same.seq sm hr
            have dRow : Dp K H' (.ref ar) (nmL r) := .lst hrI (dp_strs r)
            refine lc_data (K := K) (walk_list (xs := u5)) hD (fun i => (ls[i]?).bind fun lo => some (ordD (r, lo))) (by omega) (fun H6 s6 => SqL.of (s6 _ _ e5)) (fun j y H6 H7 hj s6 eD hy R Nx hR hNx => ?_) (fun H6 u6 s6 e6 d6 => ?_)
            · obtain ⟨rfl, ey⟩ := hy
              obtain ⟨lo, al, el', rfl, hlo⟩ := nml_at d5 ey
              obtain ⟨uD, eD⟩ := eD
              refine ⟨rfl, lcYes ?_⟩
              refine ⟨_, rfl, _, rfl, (by show 2 ≤ sizeLine; decide), fun p7 hp7 => ?_⟩
              have t7 := same_upd (o := .lst [V.ref ar, .ref al]) hp7
              have pD : p7 ≠ D := fun z => by rw [z, eD] at hp7; cases hp7
              refine hR _ _ (ordD (r, lo)) t7 (by rw [el']; rfl) (.lst (SqL.of (by rw [del_ne pD, upd_same])) (.cons ?_ (.cons ?_ .nil)))
              · exact dp_old dRow (Same.free s45 hD) (Same.trans s45 (Same.trans s6 t7))
              · exact dp_old (H1 := H5) (.lst hlo (dp_strs lo)) hD (Same.trans s6 t7)
            · rw [l5', fm_at, fm_some] at d6
              have lD := dpAll_len d6
              rw [List.length_map] at lD
              have lus : us.length = os.length := (dpAll_len hus).trans (List.length_map ..)
              have s46 := Same.trans s45 s6
              have hi3 : i < 3125 := by omega
              refine ⟨l, D, us, u6, rfl, rfl, s46 _ _ el, e6, Nat.le_trans (show us.length + u6.length ≤ 1000000 by omega) (by decide), fun p8 hp8 => ?_⟩
              have s8 := same_upd (o := .lst (us ++ u6)) hp8
              have s48 := Same.trans s46 s8
              refine ⟨p8, _, _, os ++ ls.map (fun lo => (r, lo)), rfl, Same.trans sm s48, Same.free (Same.trans s0 s46) hp8, upd_same, ?_, ?_, ?_, ?_⟩
              · rw [List.map_append, List.map_map]
                exact dpAll_app (dpAll_same s48 _ _ hus) (dpAll_same s8 _ _ (dpAll_same del_sub _ _ d6))
              · intro o ho
                rcases List.mem_append.mp ho with ho | ho
                · exact hos o ho
                · obtain ⟨lo, hlo, rfl⟩ := List.mem_map.mp ho
                  exact ⟨List.mem_of_getElem? er', ys, hperm, hsort, lots_sub (pl.mem_iff.mp hlo)⟩
              · rw [List.length_append, List.length_map]
                omega
              · rw [List.length_append, List.length_map]
                omega
          · obtain ⟨l, us, c2, os, rfl, sm, hl0, el, hus, hos, ho1, ho2⟩ := hp
            have : 0 < (rowsN (nmsOf ps)).length := List.length_pos_iff.mpr rne
            exact ⟨_, rfl, q l us os H' (Same.trans s03 sm) hl0 el hos (by omega) (by omega) hus⟩
end
end Sg

set_option maxRecDepth 100000
set_option maxHeartbeats 8000000
namespace Sg
open PySem PySem.Spec PyProof.Rows L2 Dr Gd Er Cm Ow XT TM Tw SD CO CQ
abbrev sPO : Stmt := top 59
abbrev sMadeO : Stmt := top 62
theorem rise_of : ∀ (l : List Str) (p : Str), (∀ y ∈ l, Srt.le p y) → sortedS l = true → risingS p l = true
  | [], _, _, _ => rfl
  | x :: r, p, h, hs => by
    show (!ltCps x.cps.toList p.cps.toList && risingS x r) = true
    have h1 := h x List.mem_cons_self
    unfold Srt.le at h1
    rw [show risingS x r = true from hs, Bool.and_true, ltCps_eq]
    simpa using h1
theorem sorted_sub : ∀ {l m : List Str}, l.Sublist m → sortedS m = true → sortedS l = true
  | _, _, .slnil, _ => rfl
  | _, _, .cons x h, hm => sorted_sub h (Srt.rise _ x hm).2
  | _, _, .cons_cons x h, hm => by
    obtain ⟨a, b⟩ := Srt.rise _ x hm
    exact rise_of _ x (fun y hy => a y (h.subset hy)) (sorted_sub h b)
theorem ways_nd {ps : List (Str × Int)} (h : (ps.map (·.1)).Nodup) : (waysOf ps).Nodup := by
  unfold waysOf
  exact h.sublist ((List.filter_sublist ..).map _)
theorem ways_nms {ps : List (Str × Int)} {z : Str} (h : z ∈ waysOf ps) : z ∈ nmsOf ps := by
  obtain ⟨p, hp, rfl⟩ := List.mem_map.mp h
  exact List.mem_map.mpr ⟨p, (List.mem_filter.mp hp).1, rfl⟩
/-- what an order as the law draws it is -/
structure OrF (ps : List (Str × Int)) (o : Ord) : Prop where
  rn : o.1.Nodup
  rm : ∀ z ∈ o.1, z ∈ nmsOf ps
  rl : o.1.length = ps.length
  ln : o.2.Nodup
  lm : ∀ z ∈ o.2, z ∈ waysOf ps
  ls : sortedS o.2 = true
theorem OrdOf.f {ps : List (Str × Int)} {o : Ord} (h : OrdOf ps o) (nd : (ps.map (·.1)).Nodup) : OrF ps o := by
  obtain ⟨hr, ws, hp, hs, hsub⟩ := h
  obtain ⟨a, b, c⟩ := rowsF_row _ _ nd _ hr
  exact ⟨a, b, by rw [c, List.length_map], (hp.nodup_iff.mpr (ways_nd nd)).sublist hsub, fun z hz => hp.mem_iff.mp (hsub.subset hz), sorted_sub hsub hs⟩
theorem OrF.row {ps : List (Str × Int)} {o : Ord} (h : OrF ps o) : rowOf ps (nmL o.1) = some o.1 := by
  unfold rowOf
  have e : chO (nmsOf ps) (nmL o.1) = some o.1 := by
    show chL (nmsOf ps) [] (o.1.map .str) = _
    rw [chL_all h.rm h.rn (by intro z _ hz; cases hz), List.nil_append]
  rw [e]
  show (if o.1.length = ps.length then _ else _) = _
  rw [if_pos h.rl]
theorem OrF.lots {ps : List (Str × Int)} {o : Ord} (h : OrF ps o) : lotsOf ps (nmL o.2) = some o.2 := by
  show chL (waysOf ps) [] (o.2.map .str) = _
  rw [chL_all h.lm h.ln (by intro z _ hz; cases hz), List.nil_append]
theorem OrF.ok {ps : List (Str × Int)} {o : Ord} (h : OrF ps o) (s : SgOk ps) : OrOk ps o.1 o.2 := by
  have go : ∀ z ∈ nmsOf ps, PyData.strOk z = true := fun z hz => by
    obtain ⟨p, hp, rfl⟩ := List.mem_map.mp hz
    exact s.ok p hp
  exact ⟨s, fun z hz => go z (h.rm z hz), fun z hz => go z (ways_nms (h.lm z hz))⟩
theorem OrF.l5 {ps : List (Str × Int)} {o : Ord} (h : OrF ps o) (s : SgOk ps) : o.1.length ≤ 5 ∧ o.2.length ≤ 5 := by
  have h1 := nodup_le h.ln h.lm
  have h2 := ways_len ps
  have := s.l5
  have := h.rl
  omega
theorem hand_nm {l : List Str} (h : ∀ z ∈ l, PyData.strOk z = true) (hl : l.length ≤ 1000) : Hand (nmL l) := ⟨nmL_shaped h, fun ds e => by injection e with e; rw [← e, List.length_map]; exact hl⟩
theorem Fine.sg {ps : List (Str × Int)} (h : Fine ps) : SgOk ps := ⟨h.2.1, h.2.2.1, fine_ok h⟩
structure MkO (P : Program) (w : World) (K : PySem.W.Frag) (mg : Str → Option Value) (base : Heap) (cA cL C CO fi : Addr) (di : FuncData) : Prop where
  mm : Mk K CO fi
  ok : FnOk P w K mg base (L2.CX P w) 3 fi di ["self", "signs", "names", "lots"] (spOInit K cA cL C CO)
  b : Binds K di ["self", "signs", "names", "lots"] []
  g : mg "Order" = some (.ref CO)
def MEnd (K : PySem.W.Frag) (C CO : Addr) (H : Hp) (x : Addr) (ps : List (Str × Int)) (dn dl : PyData) (Q : VK) : Prop := match rowOf ps dn with
  | none => ∀ H', Same H H' → Q (.str "names") H'
  | some row => match lotsOf ps dl with
    | none => ∀ H', Same H H' → Q (.str "lots") H'
    | some lots => ∀ o H' ls, Same H H' → H o = none → ls.Perm lots → sortedS ls = true → OrAt K C CO (nl H H') o x ps row ls → Q (.ref o) H'
def spMadeO (K : PySem.W.Frag) (C CO : Addr) : Sp := fun vs H Q _ => ∃ x vn dn vl dl ps, vs = [.ref x, vn, vl] ∧ SgAt C H x ps ∧ SgOk ps ∧ Dp K H vn dn ∧ Dp K H vl dl ∧ Hand dn ∧ Hand dl ∧ MEnd K C CO H x ps dn dl Q
structure KxO (K : PySem.W.Frag) (cA cL : Addr) : Prop where
  aa : PySem.W.exmOne K (.ref cA) (.ref cA) = some true
  la : PySem.W.exmOne K (.ref cL) (.ref cA) = some false
  ll : PySem.W.exmOne K (.ref cL) (.ref cL) = some true
def spPO (K : PySem.W.Frag) (C CO : Addr) : Sp := fun vs H Q _ => ∃ vp ps vo o, vs = [vp, vo] ∧ Dp K H vp (psD ps) ∧ Fine ps ∧ Dp K H vo (ordD o) ∧ OrF ps o ∧ ∀ a x H', Same H H' → H a = none → OrAt K C CO H' a x ps o.1 o.2 → Q (.ref a) H'
section
variable {P : Program} {w : World} {K : PySem.W.Frag} {mg : Str → Option Value} {base : Heap} {cN cC cB cA cL eA eL C CO fi fo : Addr} {di do' : FuncData}
theorem scPO : FnScope ["pairs", "order"] ["pairs", "order"] (defScope sPO) := ⟨rfl, rfl, rfl, by decide +kernel, rfl, by decide +kernel, by decide +kernel⟩
theorem ok_po {f : Addr} {fd : FuncData} (F : Fun K "_law_program_order" "_law_program_order" sPO f fd) (MK : MkS P w K mg base cN cC cB C fi di) (MO : MkO P w K mg base cA cL C CO fo do') (hls : mg "list" = none) : FnOk P w K mg base CX0 5 f fd ["pairs", "order"] (spPO K C CO) := by
  refine F.ok scPO (fun vs H Q E h => ?_) (fun cdv A outer s H vs Q E hr h => ?_)
  · obtain ⟨vp, ps, vo, o, rfl, _⟩ := h
    rfl
  · obtain ⟨vp, ps, vo, o, rfl, hp, hf, ho, hof, q⟩ := h
    refine ⟨_, pss_one (ps_ret (pe_make MO.mm MO.ok hr rfl MO.g MO.b .nil passL (pa_cons (pe_make MK.mm MK.ok hr rfl MK.g MK.b .nil passL (pa_cons (pe_callTy call_list_of (by rfl) hls (by decide +kernel) (pa_cons (pv 0) pa_nil)) pa_nil))
      (pa_cons (pe_callTy call_list_of (by rfl) hls (by decide +kernel) (pa_cons (pe_ix ix_list (pv 1) pe_int fun _ _ => rfl) pa_nil)) (pa_cons (pe_callTy call_list_of (by rfl) hls (by decide +kernel) (pa_cons (pe_ix ix_list (pv 1) pe_int fun _ _ => rfl) pa_nil)) pa_nil))))), ?_⟩
    have sg := hf.sg
    cases hp with
    | lst g1 g2 =>
      rename_i lp xs
      have g2 : DpAll K H xs (prD ps) := g2
      cases ho with
      | lst k1 k2 =>
        rename_i lo ys
        cases k2 with
        | cons v1 k2 =>
          cases k2 with
          | cons v2 k2 =>
            cases k2
            cases v1 with
            | lst m1 m2 =>
              rename_i a1 z1
              obtain rfl := nm_vs m2
              cases v2 with
              | lst n1 n2 =>
                rename_i a2 z2
                obtain rfl := nm_vs n2
                refine ⟨_, rfl, lp, xs, rfl, .inl g1, fun p1 hp1 => ?_⟩
                have s1 := same_upd (o := .lst xs) hp1
                have e1 : (L2.upd H p1 (.lst xs)) p1 = some (.lst xs) := upd_same
                generalize (L2.upd H p1 (.lst xs)) = H1 at s1 e1 ⊢
                intro x dx hx hdx hne
                refine ⟨x, .ref p1, psD ps, dx, rfl, upd_same, .lst (SqL.of (xs := xs) ?_) (dpAll_same (fun b o e => ?_) _ _ g2), shorts_fine (fun q hq => (hf.2.2.2 q hq).1), ?_⟩
                · rw [upd_ne (ne_of_none e1 hx), upd_ne (ne_of_none e1 hdx)]
                  exact e1
                · have e := s1 _ _ e
                  rw [upd_ne (ne_of_none e hx), upd_ne (ne_of_none e hdx)]
                  exact e
                · rw [made_fine hf]
                  intro H2 s2 hS2
                  refine ⟨rfl, ?_⟩
                  have s12 := same_ins hx hdx s2
                  have s02 := Same.trans s1 s12
                  refine ⟨_, rfl, lo, _, 0, _, rfl, rfl, Same.seq s02 k1, rfl, a1, _, rfl, .inl (Same.seq s02 m1), fun p3 hp3 => ?_⟩
                  have s3 := same_upd (o := .lst (o.1.map V.str)) hp3
                  have e3 : (L2.upd H2 p3 (.lst (o.1.map V.str))) p3 = some (.lst (o.1.map V.str)) := upd_same
                  generalize (L2.upd H2 p3 (.lst (o.1.map V.str))) = H3 at s3 e3 ⊢
                  have s03 := Same.trans s02 s3
                  refine ⟨_, rfl, lo, _, 1, _, rfl, rfl, Same.seq s03 k1, rfl, a2, _, rfl, .inl (Same.seq s03 n1), fun p4 hp4 => ?_⟩
                  have s4 := same_upd (o := .lst (o.2.map V.str)) hp4
                  have e4 : (L2.upd H3 p4 (.lst (o.2.map V.str))) p4 = some (.lst (o.2.map V.str)) := upd_same
                  generalize (L2.upd H3 p4 (.lst (o.2.map V.str))) = H4 at s4 e4 ⊢
                  have s04 := Same.trans s03 s4
                  have hS4 := hS2.same (Same.trans s3 s4)
                  intro ob dx2 hob hdx2 hne2
                  have keep : Same H4 (L2.upd (L2.upd H4 dx2 (.own ob)) ob (.ins CO dx2 [])) := fun b o e => by
                    rw [upd_ne (ne_of_none e hob), upd_ne (ne_of_none e hdx2)]
                    exact e
                  have ok := hof.ok sg
                  have l5 := hof.l5 sg
                  refine ⟨ob, x, .ref p3, nmL o.1, .ref p4, nmL o.2, dx2, ps, rfl, upd_same, hS4.same keep, sg, nmL_dp (keep _ _ (s4 _ _ e3)), nmL_dp (keep _ _ e4), hand_nm ok.r (by omega), hand_nm ok.l (by omega), ?_⟩
                  unfold OEnd
                  rw [hof.row, hof.lots]
                  intro H5 ls s5 hpl hsl hO
                  have e5 := Srt.uniq ls o.2 hpl hsl hof.ls
                  subst e5
                  have s45 := same_ins hob hdx2 s5
                  exact ⟨rfl, q ob x H5 (Same.trans s04 s45) (Same.free s04 hob) (hO.same nl_sub)⟩
theorem scMO : FnScope ["signs", "names", "lots"] ["signs", "names", "lots"] (defScope sMadeO) := ⟨rfl, rfl, rfl, by decide +kernel, rfl, by decide +kernel, by decide +kernel⟩
theorem ok_madeO {f : Addr} {fd : FuncData} (F : Fun K "_law_made" "_law_made" sMadeO f fd) (Z : KeO P K mg cA cL eA eL) (XX : KxO K cA cL) (M : MkO P w K mg base cA cL C CO fo do') : FnOk P w K mg base CX0 5 f fd ["signs", "names", "lots"] (spMadeO K C CO) := by
  refine F.ok scMO (fun vs H Q E h => ?_) (fun cdv A outer s H vs Q E hr h => ?_)
  · obtain ⟨x, vn, dn, vl, dl, ps, rfl, _⟩ := h
    rfl
  · obtain ⟨x, vn, dn, vl, dl, ps, rfl, hS, hok, hn, hl, en, el, q⟩ := h
    refine ⟨_, pss_one (ps_tryW rfl rfl
      (hnd_one rfl ⟨rfl, by decide, .inl Z.gA⟩ (fun a oe cls d pn hz hf => pss_one (ps_ret pe_str))
      (hnd_one rfl ⟨rfl, by decide, .inl Z.gL⟩ (fun a oe cls d pn hz hf => pss_one (ps_ret pe_str))
      (hnd_nil rfl rfl takes0)))
      (fun W pn xe tk _ => pss_one (ps_ret (pe_makeS M.mm M.ok hr rfl M.g M.b (fun σ => passAt tk σ) (pa_cons (pv 0) (pa_cons (pv 1) (pa_cons (pv 2) pa_nil))))))), ?_⟩
    refine ⟨_, rfl, _, rfl, _, rfl, fun ob dx hob hdx hne => ?_⟩
    have keep : Same H (L2.upd (L2.upd H dx (.own ob)) ob (.ins CO dx [])) := fun b o e => by
      rw [upd_ne (ne_of_none e hob), upd_ne (ne_of_none e hdx)]
      exact e
    refine ⟨ob, x, vn, dn, vl, dl, dx, ps, rfl, upd_same, hS.same keep, hok, dp_same keep _ _ hn, dp_same keep _ _ hl, en, el, ?_⟩
    unfold OEnd
    unfold MEnd at q
    cases hr1 : rowOf ps dn with
    | none =>
      rw [hr1] at q
      intro H' s'
      exact ⟨true, XX.aa, fun _ a ha => q H' (same_ins hob hdx s'), fun z => Bool.noConfusion z⟩
    | some row =>
      rw [hr1] at q
      cases hl1 : lotsOf ps dl with
      | none =>
        rw [hl1] at q
        intro H' s'
        exact ⟨false, XX.la, fun z => Bool.noConfusion z, fun _ => ⟨true, XX.ll, fun _ a ha => q H' (same_ins hob hdx s'), fun z => Bool.noConfusion z⟩⟩
      | some lots =>
        rw [hl1] at q
        intro H' ls s' hp hs hO
        refine ⟨rfl, q ob H' ls (same_ins hob hdx s') hob hp hs (hO.same (nl_pre fun b ys e => ?_))⟩
        exact keep _ _ e
end
end Sg

set_option maxRecDepth 100000
set_option maxHeartbeats 8000000
namespace Sg
open PySem PySem.Spec PyProof.Rows L2 Dr Gd Er Cm Ow XT TM Tw SD CO CQ
abbrev sBadT : Stmt := top 63
structure KxT (K : PySem.W.Frag) (cT : Addr) : Prop where
  tt : PySem.W.exmOne K (.ref cT) (.ref cT) = some true
  xT : XfC K cT
  nT : PySem.W.findIn K (.ref cT) "value" = some none
/-- data that may be shown -/
structure Shw (d : PyData) : Prop where
  sh : d.showable = true
  nd : d.hasDict = false
  sz : d.shown.length ≤ sizeLine
  dp : d.depth ≤ 60
/-- s or t is no term, and it is the bad one -/
def BadOf (K : PySem.W.Frag) (H : Hp) (ps : List (Str × Int)) (s t : V) (b : PyData) : Prop := (Dp K H s b ∧ TOk b ∧ isTerm ps b = false) ∨ (∃ ds, Dp K H s ds ∧ TOk ds ∧ isTerm ps ds = true ∧ Dp K H t b ∧ TOk b ∧ isTerm ps b = false)
def spBadT (K : PySem.W.Frag) (C CO : Addr) : Sp := fun vs H Q _ => ∃ n o s t x ps row lots b, vs = [.int n, .ref o, s, t] ∧ OrAt K C CO H o x ps row lots ∧ BadOf K H ps s t b ∧ Shw b ∧ ∀ H', Same H H' → Q (.str b.shown) H'
structure OCall (P : Program) (w : World) (K : PySem.W.Frag) (mg : Str → Option Value) (base : Heap) (cT C CO fc : Addr) (dc : FuncData) : Prop where
  c : StX.CallO K CO fc
  ok : FnOk P w K mg base (L2.CX P w) 6 fc dc ["self", "s", "t"] (spRef K cT C CO)
  b : Binds K dc ["self", "s", "t"] []
section
variable {P : Program} {w : World} {K : PySem.W.Frag} {mg : Str → Option Value} {base : Heap} {cT eT C CO fc fS fH : Addr} {dc dS dH : FuncData}
theorem scBT : FnScope ["nth", "made", "s", "t", "e"] ["nth", "made", "s", "t"] (defScope sBadT) := ⟨rfl, rfl, rfl, by decide +kernel, rfl, by decide +kernel, by decide +kernel⟩
theorem ok_badT {f : Addr} {fd : FuncData} (F : Fun K "_law_bad" "_law_bad" sBadT f fd) (Z : KeT P K mg cT eT) (XX : KxT K cT) (OC : OCall P w K mg base cT C CO fc dc) (GS : Cal P w K mg base (L2.CX P w) 6 "steps" fS dS ["order", "s", "t"] (spRef K cT C CO)) (GH : Cal P w K mg base (L2.CX P w) 6 "shows_steps" fH dH ["order", "s", "t", "value"] (spRef3 K cT C CO)) (hrp : mg "repr" = none) :
    FnG P w K mg base CX0 7 f fd ["nth", "made", "s", "t"] (spBadT K C CO) := by
  refine okG F scBT (fun vs H Q E h => ?_) (fun cdv A outer s H vs Q E hgd hr h => ?_)
  · obtain ⟨n, o, s, t, x, ps, row, lots, b, rfl, _⟩ := h
    rfl
  · obtain ⟨n, o, sv, tv, x, ps, row, lots, b, rfl, hO, hb, hsw, q⟩ := h
    have hu : (A.deeper (envOfC "_law_bad" (defScope sBadT) s.heap.objs.size f cdv)).units + 70 < cLine := by
      have := hr.un
      omega
    refine ⟨_, pss_cons (ps_tryW rfl rfl
      (hnd_nm (i := 4) rfl scBT.nd rfl rfl ⟨rfl, by decide, .inl Z.gT⟩ (fun a oe cls d pn hz hf => pss_one (ps_ret (pe_callB (show CallR _ (.builtin "repr") (rRepr K) from call_reprD hgd hu) (by rfl) hrp (by decide +kernel) (pa_cons (pe_xf XX.xT XX.nT hz hf (pv 4)) pa_nil))))
      (hnd_nil rfl rfl takes0))
      (fun W pn xe tk _ => pss_one (ps_if (pt_cmpR op_eq (pv 0) pe_int (nomark _)) (pss_one (ps_expr (pe_callOW (pv 1) OC.c OC.ok hr OC.b (fun σ => passAt tk σ) (pa_cons (pv 2) (pa_cons (pv 3) pa_nil)))))
        (pss_one (ps_if (pt_cmpR op_eq (pv 0) pe_int (nomark _)) (pss_one (ps_expr (pe_callS GS.ok hr rfl GS.g GS.kp GS.b (fun σ => passAt tk σ) (pa_cons (pv 1) (pa_cons (pv 2) (pa_cons (pv 3) pa_nil))))))
          (pss_one (ps_expr (pe_callS GH.ok hr rfl GH.g GH.kp GH.b (fun σ => passAt tk σ) (pa_cons (pv 1) (pa_cons (pv 2) (pa_cons (pv 3) (pa_cons pe_non pa_nil)))))))))))) (pss_one (ps_ret pe_non)), ?_⟩
    have hS : SgAt C H x ps := by obtain ⟨_, _, _, _, _, _, _, h, _⟩ := hO; exact h
    obtain ⟨vb, hvb, look⟩ : ∃ vb, Dp K H vb b ∧ ∀ E' : XK, (∀ H' dd, Same H H' → H dd = none → H' dd = some (.xd [("value", vb)]) → E' (.ref cT) (some dd) H') → spLookT K cT C [.ref x, sv, tv] H (fun _ _ => False) E' := by
      rcases hb with ⟨h1, h2, h3⟩ | ⟨ds, h1, h2, h3, h4, h5, h6⟩
      · exact ⟨sv, h1, fun E' h => ⟨x, ps, sv, b, tv, b, rfl, hS, h1, h2, .inl ⟨h3, fun H' dd s d e => h H' dd s d e⟩⟩⟩
      · exact ⟨tv, h4, fun E' h => ⟨x, ps, sv, ds, tv, b, rfl, hS, h1, h2, .inr (.inl ⟨h3, h4, h5, h6, fun H' dd s d e => h H' dd s d e⟩)⟩⟩
    refine ⟨_, rfl, rfl, _, rfl, ?_⟩
    refine ite2 (fun c0 => ?_) (fun c0 => ?_)
    · refine ⟨_, rfl, o, rfl, _, rfl, _, rfl, ?_, o, sv, tv, x, ps, row, lots, rfl, hO, look _ fun H' dd sm hdd e => ?_⟩
      · obtain ⟨dx, _, _, _, _, _, h, _⟩ := hO
        exact ⟨dx, _, h⟩
      · refine ⟨true, XX.tt, fun _ a ha => ?_, fun z => Bool.noConfusion z⟩
        exact ⟨_, rfl, rfl, rfl, dd, _, vb, rfl, e, rfl, vb, b, rfl, dp_same sm _ _ hvb, hsw.sh, hsw.nd, hsw.sz, hsw.dp, q H' sm⟩
    · refine ⟨_, rfl, rfl, _, rfl, ?_⟩
      refine ite2 (fun c1 => ?_) (fun c1 => ?_)
      · refine ⟨_, rfl, _, rfl, _, rfl, o, sv, tv, x, ps, row, lots, rfl, hO, look _ fun H' dd sm hdd e => ?_⟩
        refine ⟨true, XX.tt, fun _ a ha => ?_, fun z => Bool.noConfusion z⟩
        exact ⟨_, rfl, rfl, rfl, dd, _, vb, rfl, e, rfl, vb, b, rfl, dp_same sm _ _ hvb, hsw.sh, hsw.nd, hsw.sz, hsw.dp, q H' sm⟩
      · refine ⟨_, rfl, _, rfl, _, rfl, o, sv, tv, _, x, ps, row, lots, rfl, hO, look _ fun H' dd sm hdd e => ?_⟩
        refine ⟨true, XX.tt, fun _ a ha => ?_, fun z => Bool.noConfusion z⟩
        exact ⟨_, rfl, rfl, rfl, dd, _, vb, rfl, e, rfl, vb, b, rfl, dp_same sm _ _ hvb, hsw.sh, hsw.nd, hsw.sz, hsw.dp, q H' sm⟩
end
end Sg

set_option maxRecDepth 100000
set_option maxHeartbeats 8000000
namespace Sg
open PySem PySem.Spec PyProof.Rows L2 Dr Gd Er Cm Ow XT TM Tw SD CO CQ
abbrev sOddL : Stmt := top 64
theorem cut_toN (xs : List V) (k : Nat) : cutV xs none (some (k : Int)) = xs.take k := by
  unfold cutV
  rw [HT.sIx_none, HT.sIx_nat, List.drop_zero, Nat.sub_zero]
  rcases Nat.le_total k xs.length with h | h
  · rw [Nat.min_eq_left h]
  · rw [Nat.min_eq_right h, List.take_length, List.take_of_length_le h]
section
variable {X : Cx} {H0 : Hp} {S : List Nat} {C : (Nat → PyData) → Prop} {e a b : Expr} {es : List Expr} {d : (Nat → PyData) → PyData} {ds fs : (Nat → PyData) → List PyData} {i : (Nat → PyData) → Int} {pos p p2 : Pos}
theorem pE_catQ (ha : PE X a (tE X.K H0 S C fun ρ => .list (ds ρ))) (hb : PE X b (tE X.K H0 S C fun ρ => .list (fs ρ))) (hl : ∀ ρ, C ρ → (ds ρ).length + (fs ρ).length ≤ 1000) : PE X (.BinOp a .Add b pos) (tER X.K H0 S C fun ρ => ds ρ ++ fs ρ) :=
  pe_imp (fun σ H Q ⟨ρ, c, g, h⟩ => ⟨ρ, c, g, fun v H1 s1 h1 => ⟨ρ, c, g.mono s1, fun u H2 s2 h2 => by
    have s12 := Same.trans s1 s2
    have h : ∀ (l : Addr) (vs : List V) (H' : Hp), Same H H' → H l = none → H' l = some (.lst vs) → DpAll X.K (nw H0 H') vs (ds ρ ++ fs ρ) → Q (.ref l) H' := h
    cases h1 with
    | lst a1 a2 =>
      cases h2 with
      | lst b1 b2 =>
        have lx := dpAll_len a2
        have ly := dpAll_len b2
        refine ⟨_, _, _, _, rfl, rfl, Same.seq s2 (Same.seq nw_same a1), Same.seq nw_same b1, le1k (by have := hl ρ c; omega), fun q hq => ?_⟩
        exact h q _ _ (Same.trans s12 (same_upd hq)) (Same.free s12 hq) upd_same (dpAll_same (nw_l (same_upd hq)) _ _ (dpAll_app (dpAll_same (nw_l s2) _ _ a2) b2))⟩⟩) (pe_op op_catQ ha hb)
theorem pE_slTo {h : Expr} (ha : PE X a (tE X.K H0 S C fun ρ => .list (ds ρ))) (hi : PE X h (tE X.K H0 S C fun ρ => .int (i ρ))) (h0 : ∀ ρ, C ρ → 0 ≤ i ρ) : PE X (.Subscript a (.Slice none (some h) none p2) pos) (tER X.K H0 S C fun ρ => (ds ρ).take (i ρ).toNat) :=
  pe_imp (fun σ H Q ⟨ρ, c, g, h⟩ => ⟨ρ, c, g, fun v H1 s1 h1 => ⟨ρ, c, g.mono s1, fun u H2 s2 h2 => by
    have s12 := Same.trans s1 s2
    have h : ∀ (l : Addr) (vs : List V) (H' : Hp), Same H H' → H l = none → H' l = some (.lst vs) → DpAll X.K (nw H0 H') vs ((ds ρ).take (i ρ).toNat) → Q (.ref l) H' := h
    have h2 : Dp X.K (nw H0 H2) u (.int (i ρ)) := h2
    have i0 := h0 ρ c
    generalize i ρ = ii at h h2 i0
    cases h2
    obtain ⟨k, rfl⟩ := Int.eq_ofNat_of_zero_le i0
    cases h1 with
    | lst a1 a2 =>
      refine ⟨_, rfl, _, _, rfl, Same.seq s2 (Same.seq nw_same a1), fun q hq => ?_⟩
      rw [cut_toN]
      exact h q _ _ (Same.trans s12 (same_upd hq)) (Same.free s12 hq) upd_same (dpAll_same (nw_l (same_upd hq)) _ _ (dpAll_take _ (dpAll_same (nw_l s2) _ _ a2)))⟩⟩) (pe_slice sl_list ha po_none (po_some hi))
theorem pE_slFrom {h : Expr} (ha : PE X a (tE X.K H0 S C fun ρ => .list (ds ρ))) (hi : PE X h (tE X.K H0 S C fun ρ => .int (i ρ))) (h0 : ∀ ρ, C ρ → 0 ≤ i ρ) : PE X (.Subscript a (.Slice (some h) none none p2) pos) (tER X.K H0 S C fun ρ => (ds ρ).drop (i ρ).toNat) :=
  pe_imp (fun σ H Q ⟨ρ, c, g, h⟩ => ⟨ρ, c, g, fun v H1 s1 h1 => ⟨ρ, c, g.mono s1, fun u H2 s2 h2 => by
    have s12 := Same.trans s1 s2
    have h : ∀ (l : Addr) (vs : List V) (H' : Hp), Same H H' → H l = none → H' l = some (.lst vs) → DpAll X.K (nw H0 H') vs ((ds ρ).drop (i ρ).toNat) → Q (.ref l) H' := h
    have h2 : Dp X.K (nw H0 H2) u (.int (i ρ)) := h2
    have i0 := h0 ρ c
    generalize i ρ = ii at h h2 i0
    cases h2
    obtain ⟨k, rfl⟩ := Int.eq_ofNat_of_zero_le i0
    cases h1 with
    | lst a1 a2 =>
      refine ⟨_, rfl, _, _, rfl, Same.seq s2 (Same.seq nw_same a1), fun q hq => ?_⟩
      rw [cut_from]
      exact h q _ _ (Same.trans s12 (same_upd hq)) (Same.free s12 hq) upd_same (dpAll_same (nw_l (same_upd hq)) _ _ (dpAll_drop _ (dpAll_same (nw_l s2) _ _ a2)))⟩⟩) (pe_slice sl_list ha (po_some hi) po_none)
theorem pE_tupOf (ha : PE X a (tE X.K H0 S C fun ρ => .list (ds ρ))) (hg : Gl X "tuple") (hm : X.mg "tuple" = none) (na : starEach [a] X.env = (false, eval a X.env) :: starEach [] X.env := by rfl) : PE X (.Call (.Name "tuple" p) [a] [] pos) (tE X.K H0 S C fun ρ => .tuple (ds ρ)) :=
  pe_imp (fun σ H Q ⟨ρ, c, g, h⟩ => ⟨ρ, c, g, fun v H1 s1 h1 => by
    have h : ∀ (v : V) (H' : Hp), Same H H' → Dp X.K (nw H0 H') v (.tuple (ds ρ)) → Q v H' := h
    cases h1 with
    | lst a1 a2 =>
      refine ⟨_, _, rfl, .inl ⟨Same.seq nw_same a1, fun q hq => ?_⟩⟩
      exact h _ _ (Same.trans s1 (same_upd hq)) (.tup (SqT.of (nw_at (new0 g s1 hq) upd_same)) (dpAll_same (nw_l (same_upd hq)) _ _ a2))⟩) (pe_callTy call_tuple_of hg hm (by decide +kernel) (pa_cons ha pa_nil na) (he := na))
end
end Sg

set_option maxRecDepth 100000
set_option maxHeartbeats 8000000
namespace Sg
open PySem PySem.Spec PyProof.Rows L2 Dr Gd Er Cm Ow XT TM Tw SD CO CQ
def tEx (t : Hp → TE) : TE := fun σ H Q => ∃ H0, t H0 σ H Q
theorem nw_sub {H0 H H' : Hp} (h : ∀ b o, H0 b = some o → ∃ o', H b = some o') : Same (nw H H') (nw H0 H') := fun b o e => by
  have h1 := nw_inv e
  refine nw_at ?_ h1.2
  cases e0 : H0 b with
  | none => rfl
  | some o0 =>
    obtain ⟨o', e1⟩ := h b o0 e0
    rw [h1.1] at e1
    cases e1
section
variable {X : Cx} {e : Expr} {t : Hp → TE}
theorem pE_ex (h : ∀ H0, PE X e (t H0)) : PE X e (tEx t) := ⟨fun pins s σ H Q I ⟨H0, q⟩ => (h H0).run pins s σ H Q I q⟩
end
/-- only what stands at p -/
def only (p : Addr) (H : Hp) : Hp := fun b => if b = p then H b else none
theorem only_same {p : Addr} {H : Hp} : Same (only p H) H := fun b o e => by
  unfold only at e
  by_cases h : b = p
  · rw [if_pos h] at e; exact e
  · rw [if_neg h] at e; cases e
theorem nw_only {p : Addr} {H H' : Hp} {o : HO} (h : H p = some o) : nw (only p H) H' = L2.del H' p := by
  funext b
  unfold nw only
  by_cases hb : b = p
  · subst hb
    rw [if_pos rfl, h, del_same]
    rfl
  · rw [if_neg hb, if_pos rfl, del_ne hb]
theorem del2_upd {H : Hp} {p D : Addr} {o : HO} : L2.del (L2.del (L2.upd H D o) p) D = L2.del (L2.del H p) D := by
  funext b
  by_cases hb : b = D
  · subst hb; rw [del_same, del_same]
  · rw [del_ne hb, del_ne hb]
    by_cases hp : b = p
    · subst hp; rw [del_same, del_same]
    · rw [del_ne hp, del_ne hp, upd_ne hb]
/-- the same, beside the feed -/
theorem lc_dataP {p : Addr} {K : PySem.W.Frag} {J : It} {n : Nat} {G : Hp → Prop} {Y : Nat → Hp → V → Hp → Prop} (w : Walk J n G Y) {g : TG} {tt : TT} {te : TE} {vs : List Nat} {σ : L2.St} {H1 : Hp} {D : Addr} {Qd : Hp → Prop} (hD : H1 D = none) (f : Nat → Option PyData) (hn : n ≤ 100000)
    (hG : ∀ H, Same H1 H → G H)
    (hs : ∀ i x H H', i < n → Same H1 H → (∃ us, H D = some (.lst us)) → Y i H x H' → ∀ (R : V → Hp → Prop) (N : Hp → Prop), (∀ y H4 d, Same H H4 → f i = some d → Dp K (L2.del (L2.del H4 p) D) y d → R y H4) → (∀ H3, Same H H3 → f i = none → N H3) →
      g x (wipe σ vs) H' fun σ2 H2 => wipe σ2 vs = wipe σ vs ∧ tt σ2 H2 fun b H3 => if b = true then te σ2 H3 R else N H3)
    (hd : ∀ H us, Same H1 H → H D = some (.lst us) → DpAll K (L2.del (L2.del H p) D) us ((List.range n).filterMap f) → Qd H) :
    ∃ W : Nat → Nat → Hp → Prop, (∃ m, W 0 m (L2.upd H1 D (.lst []))) ∧ ∀ i m H, W i m H →
      (J.stop i H ∧ Qd H) ∨ (J.go i H ∧ ∃ Nx : Hp → Prop, (∀ H', Nx H' → ∃ m', m' < m ∧ W (i + 1) m' H') ∧ ∀ x H', J.yld i H x H' → g x (wipe σ vs) H' fun σ2 H2 => wipe σ2 vs = wipe σ vs ∧ tt σ2 H2 fun b H3 =>
        if b = true then te σ2 H3 fun y H4 => ∃ acc, H4 D = some (.lst acc) ∧ acc.length < sizeLine ∧ Nx (L2.upd H4 D (.lst (acc ++ [y]))) else Nx H3) := by
  refine lc_it w (fun i H => Same H1 H ∧ ∃ us, H D = some (.lst us) ∧ us.length ≤ i ∧ DpAll K (L2.del (L2.del H p) D) us ((List.range i).filterMap f)) ⟨same_upd hD, [], upd_same, Nat.le_refl _, .nil⟩ (fun i H hi hp => hG H hp.1) (fun i x H H' hi hp hy => ?_) (fun H hp => ?_)
  · obtain ⟨sm, us, eD, hl, hus⟩ := hp
    refine hs i x H H' hi sm ⟨us, eD⟩ hy _ _ (fun y H4 d s4 hf dy => ?_) (fun H3 s3 hf => ?_)
    · refine ⟨us, s4 _ _ eD, ?_, fun b o e => ?_, us ++ [y], upd_same, ?_, ?_⟩
      · have : us.length < 1000000 := by omega
        exact Nat.lt_of_lt_of_le this (by decide)
      · rw [upd_ne (ne_of_none e hD)]
        exact s4 _ _ (sm b o e)
      · rw [List.length_append]
        exact Nat.succ_le_succ hl
      · rw [del2_upd, List.range_succ, List.filterMap_append]
        simp only [List.filterMap_cons, hf, List.filterMap_nil]
        exact dpAll_app (dpAll_same (SameX.del (Same.x (SameX.del (Same.x s4)))) _ _ hus) (.cons dy .nil)
    · refine ⟨Same.trans sm s3, us, s3 _ _ eD, Nat.le_succ_of_le hl, ?_⟩
      rw [List.range_succ, List.filterMap_append]
      simp only [List.filterMap_cons, hf, List.filterMap_nil, List.append_nil]
      exact dpAll_same (SameX.del (Same.x (SameX.del (Same.x s3)))) _ _ hus
  · obtain ⟨sm, us, eD, hl, hus⟩ := hp
    exact hd H us sm eD hus
end Sg

set_option maxRecDepth 100000
set_option maxHeartbeats 8000000
namespace Sg
open PySem PySem.Spec PyProof.Rows L2 Dr Gd Er Cm Ow XT TM Tw SD CO CQ
def lO : PyData → List PyData
  | .list ds => ds
  | _ => []
def oA : (Nat → PyData) → List PyData := fun ρ => [.none, .tuple (lO (ρ 1)), .str "names", .int 0, .list (lO (ρ 1) ++ [.none]), .list (((lO (ρ 1)).take (iO (ρ 2)).toNat ++ [.str "q"]) ++ (lO (ρ 1)).drop (iO (ρ 2)).toNat), .list (((lO (ρ 1)).take (iO (ρ 2)).toNat ++ [.int 0]) ++ (lO (ρ 1)).drop (iO (ρ 2)).toNat)]
def oB : (Nat → PyData) → List PyData := fun ρ => [.list (lO (ρ 1) ++ (lO (ρ 1)).take (1 : Int).toNat), .list (((lO (ρ 1)).take (iO (ρ 2)).toNat ++ [.list []]) ++ (lO (ρ 1)).drop (iO (ρ 2)).toNat), .list (lO (ρ 1) ++ [.tuple [.str "f"]]), .list [ρ 1], .list (lO (ρ 1) ++ [.bool true]), .list (lO (ρ 1) ++ [.str ""])]
def CL : (Nat → PyData) → Prop := fun ρ => ∃ (l : List Str) (k : Nat), ρ 1 = nmL l ∧ ρ 2 = .int (k : Int) ∧ l.length ≤ 5
theorem cl_l {ρ : Nat → PyData} (c : CL ρ) : ρ 1 = .list (lO (ρ 1)) ∧ (lO (ρ 1)).length ≤ 5 := by
  obtain ⟨l, k, e, _, h⟩ := c
  rw [e]
  exact ⟨rfl, by show (l.map PyData.str).length ≤ 5; rw [List.length_map]; exact h⟩
theorem cl_i {ρ : Nat → PyData} (c : CL ρ) : ρ 2 = .int (iO (ρ 2)) ∧ 0 ≤ iO (ρ 2) := by
  obtain ⟨l, k, _, e, _⟩ := c
  rw [e]
  exact ⟨rfl, Int.natCast_nonneg k⟩
section
variable {X : Cx} {H0 : Hp} {pos : Pos} {x : Str}
theorem pEl (hN : X.N[1]? = some x := by rfl) (hv : Vis X.env.scope x := by first | exact Or.inl rfl | exact Or.inr (Or.inl rfl) | exact Or.inr (Or.inr rfl)) (hb : (x == ("__debug__" : Str)) = false := by decide)
    (hc : (x == ("__classdict__" : Str)) = false := by decide) : PE X (.Name x pos) (tE X.K H0 [1, 2] CL fun ρ => .list (lO (ρ 1))) := pE_as (pE_var 1 (by decide) hN hv hb hc) fun ρ c => (cl_l c).1
theorem pEk (hN : X.N[2]? = some x := by rfl) (hv : Vis X.env.scope x := by first | exact Or.inl rfl | exact Or.inr (Or.inl rfl) | exact Or.inr (Or.inr rfl)) (hb : (x == ("__debug__" : Str)) = false := by decide)
    (hc : (x == ("__classdict__" : Str)) = false := by decide) : PE X (.Name x pos) (tE X.K H0 [1, 2] CL fun ρ => .int (iO (ρ 2))) := pE_as (pE_var 2 (by decide) hN hv hb hc) fun ρ c => (cl_i c).1
end
/-- no list of proper names, each once -/
def OddP (e : PyData) : Prop := Hand e ∧ e.depth ≤ 10 ∧ ∀ r : List Str, e = nmL r → ¬ (r.Nodup ∧ ("q" : Str) ∉ r ∧ ("" : Str) ∉ r)
theorem odd_cho {N : List Str} {e : PyData} (h : OddP e) (hq : ("q" : Str) ∉ N) (he : ("" : Str) ∉ N) : chO N e = none := by
  cases hc : chO N e with
  | none => rfl
  | some r =>
    exfalso
    cases e with
    | list ds =>
      obtain ⟨a, b, zs, rfl, e2⟩ := chL_mem (show chL N [] ds = some r from hc) List.nodup_nil (by intro z hz; cases hz)
      rw [List.nil_append] at e2
      subst e2
      exact h.2.2 r rfl ⟨a, fun m => hq (b _ m), fun m => he (b _ m)⟩
    | _ => cases hc
theorem nm_inj {a b : List Str} (h : nmL a = nmL b) : a = b := by
  have := congrArg unL h
  rwa [un_nm, un_nm] at this
theorem strs_all {ds : List PyData} {r : List Str} (h : PyData.list ds = nmL r) : ∀ d ∈ ds, ∃ z, d = .str z ∧ z ∈ r := by
  have h : ds = r.map PyData.str := by injection h
  subst h
  intro d hd
  obtain ⟨z, hz, rfl⟩ := List.mem_map.mp hd
  exact ⟨z, rfl, hz⟩
theorem dep_all {D : Nat} : ∀ {ds : List PyData}, (∀ d ∈ ds, d.canLay0 = true ∧ d.depth ≤ D) → PyData.canLayAll0 ds = true ∧ PyData.depthAll ds ≤ D
  | [], _ => ⟨rfl, by simp [PyData.depthAll]⟩
  | x :: ds, h => by
    obtain ⟨a, b⟩ := h x List.mem_cons_self
    obtain ⟨c, e⟩ := dep_all fun d hd => h d (List.mem_cons_of_mem _ hd)
    refine ⟨by rw [PyData.canLayAll0, a, c]; rfl, ?_⟩
    rw [PyData.depthAll]
    exact Nat.max_le.mpr ⟨b, e⟩
theorem ok_list {ds : List PyData} (h : ∀ d ∈ ds, d.canLay0 = true ∧ d.depth ≤ 5) (hl : ds.length ≤ 1000) : Hand (.list ds) ∧ (PyData.list ds).depth ≤ 10 := by
  obtain ⟨a, b⟩ := dep_all h
  have hd : (PyData.list ds).depth ≤ 10 := by simp only [PyData.depth]; omega
  refine ⟨⟨?_, fun ds' e => by injection e with e; rw [← e]; exact hl⟩, hd⟩
  unfold SeqAt.shaped
  rw [Bool.and_eq_true]
  exact ⟨a, decide_eq_true (by omega)⟩
theorem ok_tuple {ds : List PyData} (h : ∀ d ∈ ds, d.canLay0 = true ∧ d.depth ≤ 5) : Hand (.tuple ds) ∧ (PyData.tuple ds).depth ≤ 10 := by
  obtain ⟨a, b⟩ := dep_all h
  have hd : (PyData.tuple ds).depth ≤ 10 := by simp only [PyData.depth]; omega
  refine ⟨⟨?_, fun ds' e => by cases e⟩, hd⟩
  unfold SeqAt.shaped
  rw [Bool.and_eq_true]
  exact ⟨a, decide_eq_true (by omega)⟩
/-- an item of another kind, or no proper name -/
def Off (d : PyData) : Prop := (∀ z, d ≠ .str z) ∨ d = .str "q" ∨ d = .str ""
theorem off_no {ds : List PyData} {d : PyData} (hd : d ∈ ds) (h : Off d) : ∀ r : List Str, PyData.list ds = nmL r → ¬ (r.Nodup ∧ ("q" : Str) ∉ r ∧ ("" : Str) ∉ r) := by
  rintro r e ⟨_, h1, h2⟩
  obtain ⟨z, rfl, hz⟩ := strs_all e d hd
  rcases h with h | h | h
  · exact h z rfl
  · injection h with h
    exact h1 (h ▸ hz)
  · injection h with h
    exact h2 (h ▸ hz)
theorem odds_ok {ρ : Nat → PyData} {l : List Str} {k : Nat} (h1 : ρ 1 = nmL l) (h2 : ρ 2 = .int (k : Int)) (hl : l.length ≤ 5) (hok : ∀ z ∈ l, PyData.strOk z = true) : ∀ e ∈ oA ρ ++ oB ρ, (Hand e ∧ e.depth ≤ 10) ∧ (e = nmL l ∨ OddP e) := by
  have eL : lO (ρ 1) = l.map PyData.str := by rw [h1]; rfl
  have eI : (iO (ρ 2)).toNat = k := by rw [h2]; exact Int.toNat_natCast k
  have el : ∀ d ∈ l.map PyData.str, d.canLay0 = true ∧ d.depth ≤ 5 := fun d hd => by
    obtain ⟨z, hz, rfl⟩ := List.mem_map.mp hd
    exact ⟨hok z hz, by simp [PyData.depth]⟩
  have len : (l.map PyData.str).length ≤ 5 := by rw [List.length_map]; exact hl
  have one : ∀ x : PyData, x.canLay0 = true ∧ x.depth ≤ 5 → ∀ d ∈ [x], d.canLay0 = true ∧ d.depth ≤ 5 := fun x hx d hd => by rw [List.mem_singleton.mp hd]; exact hx
  have app : ∀ {a b : List PyData}, (∀ d ∈ a, d.canLay0 = true ∧ d.depth ≤ 5) → (∀ d ∈ b, d.canLay0 = true ∧ d.depth ≤ 5) → ∀ d ∈ a ++ b, d.canLay0 = true ∧ d.depth ≤ 5 := fun ha hb d hd => (List.mem_append.mp hd).elim (ha d) (hb d)
  have behind : ∀ x : PyData, x.canLay0 = true ∧ x.depth ≤ 5 → Off x → (Hand (.list (l.map PyData.str ++ [x])) ∧ (PyData.list (l.map PyData.str ++ [x])).depth ≤ 10) ∧ (PyData.list (l.map PyData.str ++ [x]) = nmL l ∨ OddP (.list (l.map PyData.str ++ [x]))) := fun x hx ho => by
    have := ok_list (app el (one x hx)) (by rw [List.length_append, List.length_singleton]; omega)
    exact ⟨this, .inr ⟨this.1, this.2, off_no (List.mem_append_right _ List.mem_cons_self) ho⟩⟩
  have amid : ∀ x : PyData, x.canLay0 = true ∧ x.depth ≤ 5 → Off x → (Hand (.list (((l.map PyData.str).take k ++ [x]) ++ (l.map PyData.str).drop k)) ∧ (PyData.list (((l.map PyData.str).take k ++ [x]) ++ (l.map PyData.str).drop k)).depth ≤ 10) ∧ (PyData.list (((l.map PyData.str).take k ++ [x]) ++ (l.map PyData.str).drop k) = nmL l ∨ OddP (.list (((l.map PyData.str).take k ++ [x]) ++ (l.map PyData.str).drop k))) := fun x hx ho => by
    have := ok_list (app (a := (l.map PyData.str).take k ++ [x]) (b := (l.map PyData.str).drop k) (app (a := (l.map PyData.str).take k) (b := [x]) (fun d hd => el d (List.mem_of_mem_take hd)) (one x hx)) (fun d hd => el d (List.mem_of_mem_drop hd))) (by rw [List.length_append, List.length_append, List.length_singleton, List.length_take, List.length_drop]; omega)
    exact ⟨this, .inr ⟨this.1, this.2, off_no (List.mem_append_left _ (List.mem_append_right _ List.mem_cons_self)) ho⟩⟩
  have flat : ∀ x : PyData, Hand x ∧ x.depth ≤ 10 → (∀ ds, x ≠ .list ds) → (Hand x ∧ x.depth ≤ 10) ∧ (x = nmL l ∨ OddP x) := fun x hx hn => ⟨hx, .inr ⟨hx.1, hx.2, fun r e => absurd e (hn _)⟩⟩
  intro e he
  unfold oA oB at he
  rw [eL, eI] at he
  simp only [List.mem_append, List.mem_cons, List.not_mem_nil, or_false] at he
  rcases he with (rfl | rfl | rfl | rfl | rfl | rfl | rfl) | (rfl | rfl | rfl | rfl | rfl | rfl)
  · exact flat _ ⟨⟨by decide, by intro ds e; cases e⟩, by decide⟩ (by intro ds e; cases e)
  · exact flat _ (ok_tuple el) (by intro ds e; cases e)
  · exact flat _ ⟨⟨by decide +kernel, by intro ds e; cases e⟩, by decide⟩ (by intro ds e; cases e)
  · exact flat _ ⟨⟨by decide, by intro ds e; cases e⟩, by decide⟩ (by intro ds e; cases e)
  · exact behind _ (by decide) (.inl (by intro z e; cases e))
  · exact amid _ (by decide +kernel) (.inr (.inl rfl))
  · exact amid _ (by decide) (.inl (by intro z e; cases e))
  · have h1 : (1 : Int).toNat = 1 := rfl
    rw [h1]
    have := ok_list (app (a := l.map PyData.str) (b := (l.map PyData.str).take 1) el (fun d hd => el d (List.mem_of_mem_take hd))) (by rw [List.length_append, List.length_take]; omega)
    refine ⟨this, ?_⟩
    cases l with
    | nil => exact .inl rfl
    | cons z r =>
      refine .inr ⟨this.1, this.2, fun s es hs => ?_⟩
      have es : nmL ((z :: r) ++ [z]) = nmL s := by
        rw [← es]
        show PyData.list _ = PyData.list _
        rw [List.map_append]
        rfl
      have := nm_inj es
      subst this
      have := hs.1
      rw [List.cons_append, List.nodup_cons] at this
      exact this.1 (List.mem_append_right _ List.mem_cons_self)
  · exact amid _ (by decide) (.inl (by intro z e; cases e))
  · exact behind _ (by decide +kernel) (.inl (by intro z e; cases e))
  · have hx : (nmL l).canLay0 = true ∧ (nmL l).depth ≤ 5 := by
      obtain ⟨a, b⟩ := dep_all (D := 0) (ds := l.map PyData.str) fun d hd => by
        obtain ⟨z, hz, rfl⟩ := List.mem_map.mp hd
        exact ⟨hok z hz, by simp [PyData.depth]⟩
      exact ⟨a, by unfold nmL; simp only [PyData.depth]; omega⟩
    have := ok_list (one _ hx) (by simp)
    refine ⟨?_, .inr ⟨?_, ?_, off_no List.mem_cons_self (.inl (by intro z e; rw [h1] at e; cases e))⟩⟩
    · rw [h1]; exact this
    · rw [h1]; exact this.1
    · rw [h1]; exact this.2
  · exact behind _ (by decide) (.inl (by intro z e; cases e))
  · exact behind _ (by decide +kernel) (.inr (.inr rfl))
end Sg

set_option maxRecDepth 100000
set_option maxHeartbeats 8000000
namespace Sg
open PySem PySem.Spec PyProof.Rows L2 Dr Gd Er Cm Ow XT TM Tw SD CO CQ
def spOddL (K : PySem.W.Frag) : Sp := fun vs H Q _ => ∃ p v l x y, vs = [.ref p, v] ∧ H p = some (feedO x y) ∧ Dp K (L2.del H p) v (nmL l) ∧ l.length ≤ 5 ∧ (∀ z ∈ l, PyData.strOk z = true) ∧
  ∀ (D : Addr) (us : List V) (es : List PyData) (x' y' : Int) (H' : Hp), SameX p H H' → H' p = some (feedO x' y') → H D = none → D ≠ p → H' D = some (.lst us) → DpAll K (L2.del (L2.del H' p) D) us es → (∀ e ∈ es, OddP e) → es.length ≤ 13 → Q (.ref D) H'
section
variable {P : Program} {w : World} {K : PySem.W.Frag} {mg : Str → Option Value} {base : Heap} {fT : Addr} {dT : FuncData}
theorem scOL2 : FnScope ["feed", "some", "at", "odd", "one"] ["feed", "some"] (defScope sOddL) := ⟨rfl, rfl, rfl, by decide +kernel, rfl, by decide +kernel, by decide +kernel⟩
theorem ok_oddL {f : Addr} {fd : FuncData} (F : Fun K "_law_odd_lists" "_law_odd_lists" sOddL f fd) (T : KTxt mg) (GT : Cal P w K mg base CX0 1 "_law_take" fT dT ["feed", "many"] spTake) : FnOk P w K mg base CX0 2 f fd ["feed", "some"] (spOddL K) := by
  refine F.ok scOL2 (fun vs H Q E h => ?_) (fun cdv A outer s H vs Q E hr h => ?_)
  · obtain ⟨p, v, l, x, y, rfl, _⟩ := h
    rfl
  · obtain ⟨p, v, l, x, y, rfl, hp, hv, hl, hok, q⟩ := h
    have nd := scOL2.nd
    have l5 : ∀ ρ, CL ρ → (lO (ρ 1)).length ≤ 5 := fun ρ c => (cl_l c).2
    have i0 : ∀ ρ, CL ρ → 0 ≤ iO (ρ 2) := fun ρ c => (cl_i c).2
    refine ⟨_, pss_cons (ps_set (i := 2) nd rfl (Or.inl rfl) (pe_call GT.ok hr rfl GT.g GT.kp GT.b .nil pass0 (pa_cons (pv 0) (pa_cons (pe_op op_add (pe_callB call_len_seq (by rfl) T.len PySem.boot_len (pa_cons (pv 1) pa_nil)) pe_int) pa_nil))))
      (pss_cons (ps_set (i := 3) (te := tEx fun H0 => tER K H0 [1, 2] CL oA) nd rfl (Or.inl rfl) (pE_ex fun H0 => pE_lstR (pE_cons pE_non (pE_cons (pE_tupOf pEl (by rfl) T.tup) (pE_cons pE_str (pE_cons pE_int
          (pE_cons (pE_raw (pE_catQ pEl (pE_raw (pE_lstR (pE_cons pE_non pE_nil) (fun _ _ => by simp))) (fun ρ c => by have := l5 ρ c; simp; omega)))
          (pE_cons (pE_raw (pE_catQ (pE_raw (pE_catQ (pE_raw (pE_slTo pEl pEk i0)) (pE_raw (pE_lstR (pE_cons pE_str pE_nil) (fun _ _ => by simp))) (fun ρ c => by have := l5 ρ c; simp; omega))) (pE_raw (pE_slFrom pEl pEk i0)) (fun ρ c => by have := l5 ρ c; simp; omega)))
          (pE_cons (pE_raw (pE_catQ (pE_raw (pE_catQ (pE_raw (pE_slTo pEl pEk i0)) (pE_raw (pE_lstR (pE_cons pE_int pE_nil) (fun _ _ => by simp))) (fun ρ c => by have := l5 ρ c; simp; omega))) (pE_raw (pE_slFrom pEl pEk i0)) (fun ρ c => by have := l5 ρ c; simp; omega))) pE_nil))))))) (fun _ _ => by simp [oA])))
      (pss_cons (ps_set (i := 3) (te := tOp rCat (tVar 3) (tEx fun H0 => tER K H0 [1, 2] CL oB)) nd rfl (Or.inl rfl) (pe_op op_cat (pv 3) (pE_ex fun H0 => pE_lstR (pE_cons (pE_raw (pE_catQ pEl (pE_raw (pE_slTo (i := fun _ => 1) pEl pE_int (fun _ _ => by decide))) (fun ρ c => by have := l5 ρ c; simp; omega)))
          (pE_cons (pE_raw (pE_catQ (pE_raw (pE_catQ (pE_raw (pE_slTo pEl pEk i0)) (pE_raw (pE_lstR (pE_cons (pE_raw (pE_lstR pE_nil (fun _ _ => by simp))) pE_nil) (fun _ _ => by simp))) (fun ρ c => by have := l5 ρ c; simp; omega))) (pE_raw (pE_slFrom pEl pEk i0)) (fun ρ c => by have := l5 ρ c; simp; omega)))
          (pE_cons (pE_raw (pE_catQ pEl (pE_raw (pE_lstR (pE_cons (pE_tup (pE_cons pE_str pE_nil) (fun _ _ => by simp)) pE_nil) (fun _ _ => by simp))) (fun ρ c => by have := l5 ρ c; simp; omega)))
          (pE_cons (pE_raw (pE_lstR (pE_cons (pE_var 1 (by decide)) pE_nil) (fun _ _ => by simp)))
          (pE_cons (pE_raw (pE_catQ pEl (pE_raw (pE_lstR (pE_cons pE_bl pE_nil) (fun _ _ => by simp))) (fun ρ c => by have := l5 ρ c; simp; omega)))
          (pE_cons (pE_raw (pE_catQ pEl (pE_raw (pE_lstR (pE_cons pE_str pE_nil) (fun _ _ => by simp))) (fun ρ c => by have := l5 ρ c; simp; omega))) pE_nil)))))) (fun _ _ => by simp [oB]))))
      (pss_one (ps_ret (pe_lc (own := [("one", 4)]) (g := gName 4) (tt := tTest (tOp (rNeD K) (tVar 4) (tVar 1))) (te := tVar 4) rfl nd (pi_list (pv 3))
          (blkOk_by (N := ["feed", "some", "at", "odd", "one"]) (sc := defScope sOddL) (by decide +kernel)) (fun _ _ _ _ _ => pg_name (i := 4) nd rfl (Or.inl rfl)) (fun _ _ _ _ _ => pts_one (pt_cmpR (op_neD hr.units) (pv 4) (pv 1) (nomark _))) (fun _ _ _ _ _ => pv 4)))))), ?_⟩
    have hv0 := hv
    cases hv with
    | lst g1 g2 =>
      rename_i a xs
      obtain rfl := nm_vs g2
      refine ⟨_, rfl, _, rfl, a, _, rfl, .inl (Same.seq del_sub g1), _, _, rfl, rfl, p, x, y, _, rfl, hp, by omega, by rw [List.length_map]; omega, fun r x1 y1 h0 h1 => ?_⟩
      obtain ⟨k, rfl⟩ := Int.eq_ofNat_of_zero_le h0
      have sx1 : SameX p H (L2.upd H p (feedO x1 y1)) := (SameX.refl p H).upd
      have f1 : (L2.upd H p (feedO x1 y1)) p = some (feedO x1 y1) := upd_same
      have g1' : SqL K (L2.del (L2.upd H p (feedO x1 y1)) p) a (l.map V.str) := by rw [del_upd]; exact g1
      generalize (L2.upd H p (feedO x1 y1)) = H1 at sx1 f1 g1' ⊢
      have nwE : ∀ H' : Hp, nw (only p H1) H' = L2.del H' p := fun H' => nw_only f1
      obtain ⟨ρ, r1, r2⟩ : ∃ ρ : Nat → PyData, ρ 1 = nmL l ∧ ρ 2 = .int (k : Int) := ⟨fun n => if n = 1 then nmL l else .int (k : Int), rfl, rfl⟩
      have cl : CL ρ := ⟨l, k, r1, r2, hl⟩
      have env : ∀ {σ : L2.St} {Hc : Hp}, σ[1]? = some (some (.ref a)) → σ[2]? = some (some (.int (k : Int))) → Same H1 Hc → EnvD K (only p H1) [1, 2] ρ σ Hc := fun a1 a2 sc => ⟨Same.trans only_same sc, fun n hn => by
        simp only [List.mem_cons, List.not_mem_nil, or_false] at hn
        rcases hn with rfl | rfl
        · refine ⟨_, a1, ?_⟩
          rw [r1, nwE]
          exact .lst (Same.seq (SameX.del (Same.x sc)) g1') (dp_strs l)
        · exact ⟨_, a2, by rw [r2]; exact .int _⟩⟩
      have ods := odds_ok r1 r2 hl hok
      refine ⟨only p H1, ρ, cl, env rfl rfl (Same.refl H1), fun l2 us2 H2 s2 hn2 e2 d2 => ?_⟩
      refine ⟨_, rfl, only p H1, ρ, cl, env rfl rfl s2, fun l3 us3 H3 s3 hn3 e3 d3 => ?_⟩
      rw [nwE] at d2 d3
      have n2 := dpAll_len d2
      have n3 := dpAll_len d3
      have n2' : us2.length = 7 := n2
      have n3' : us3.length = 6 := n3
      refine ⟨l2, l3, us2, us3, rfl, rfl, s3 _ _ e2, e3, Nat.le_trans (show us2.length + us3.length ≤ 1000 by omega) (by decide), fun l4 hl4 => ?_⟩
      have s4 := same_upd (o := .lst (us2 ++ us3)) hl4
      have e4 : (L2.upd H3 l4 (.lst (us2 ++ us3))) l4 = some (.lst (us2 ++ us3)) := upd_same
      have d4 : DpAll K (L2.del (L2.upd H3 l4 (.lst (us2 ++ us3))) p) (us2 ++ us3) (oA ρ ++ oB ρ) := dpAll_app (dpAll_same (SameX.del (Same.x (Same.trans s3 s4))) _ _ d2) (dpAll_same (SameX.del (Same.x s4)) _ _ d3)
      have s14 := Same.trans s2 (Same.trans s3 s4)
      generalize (L2.upd H3 l4 (.lst (us2 ++ us3))) = H4 at e4 d4 s14 ⊢
      refine ⟨_, rfl, l4, rfl, ⟨_, SqL.of e4⟩, fun D hD => ?_⟩
      have f4 := s14 _ _ f1
      have Dp : D ≠ p := fun z => by rw [z, f4] at hD; cases hD
      refine lc_dataP (p := p) (K := K) (walk_list (xs := us2 ++ us3)) hD (fun i => ((oA ρ ++ oB ρ)[i]?).bind fun d => if PyData.eqv d (nmL l) = true then none else some d) (by rw [List.length_append]; omega) (fun H5 s5 => SqL.of (s5 _ _ e4)) (fun i y H5 H6 hi s5 _ hy R Nx hR hNx => ?_) (fun H5 us5 s5 e5 d5 => ?_)
      · obtain ⟨rfl, ey⟩ := hy
        obtain ⟨d, ed, hd⟩ := dpAll_get' d4 ey
        have od := ods d (List.mem_of_getElem? ed)
        have hd5 := dp_same (SameX.del (p := p) (Same.x s5)) _ _ hd
        have hl5 : L2.Dp K H6 (.ref a) (nmL l) := .lst (Same.seq s5 (Same.seq s14 (Same.seq del_sub g1'))) (dp_strs l)
        refine ⟨rfl, ?_⟩
        refine ⟨_, rfl, _, rfl, d, nmL l, dp_same del_sub _ _ hd5, hl5, od.1.1.sh, nmL_shaped hok, _, rfl, ?_⟩
        cases he : PyData.eqv d (nmL l) with
        | true => exact iteF (hNx _ (Same.refl _) (by rw [ed]; simp [he]))
        | false =>
          refine iteT ⟨_, rfl, hR _ _ d (Same.refl _) (by rw [ed]; simp [he]) ?_⟩
          exact dp_same (fun b o e => by
            have hb : b ≠ D := fun z => by
              have hbp : b ≠ p := fun z => by rw [z, del_same] at e; cases e
              rw [del_ne hbp, z, hD] at e
              cases e
            rw [del_ne hb]
            exact SameX.del (p := p) (Same.x s5) _ _ e) _ _ hd
      · have n4 := dpAll_len d4
        rw [n4, fm_at] at d5
        have f5 := s5 _ _ f4
        have sx5 : SameX p H H5 := sx1.trans (Same.x (Same.trans s14 s5))
        have DH : H D = none := by
          cases h : H D with
          | none => rfl
          | some o => rw [s14 _ _ (sx1 _ _ h Dp)] at hD; cases hD
        refine q D us5 _ x1 y1 H5 sx5 f5 DH Dp e5 d5 (fun e he => ?_) ?_
        · obtain ⟨d, hd, hde⟩ := List.mem_filterMap.mp he
          by_cases h : PyData.eqv d (nmL l) = true
          · rw [if_pos h] at hde; cases hde
          · rw [if_neg h] at hde
            obtain rfl := Option.some.inj hde
            rcases (ods d hd).2 with e | e
            · subst e
              exact absurd ((nm_eqv l l).trans (by simp)) h
            · exact e
        · exact List.length_filterMap_le _ _
end
end Sg

set_option maxRecDepth 100000
set_option maxHeartbeats 8000000
namespace Sg
open PySem PySem.Spec PyProof.Rows L2 Dr Gd Er Cm Ow XT TM Tw SD CO CQ
abbrev sRest : Stmt := top 65
/-- what stands while an order is looked at -/
structure Wo (K : PySem.W.Frag) (C CO p lp x lo a1 a2 m : Addr) (xs : List V) (ps : List (Str × Int)) (o : Ord) (H : Hp) : Prop where
  f : ∃ a b, H p = some (feedO a b)
  dl : SqL K (L2.del H p) lp xs
  d : DpAll K (L2.del H p) xs (prD ps)
  s : SgAt C (L2.del H p) x ps
  ol : SqL K (L2.del H p) lo [.ref a1, .ref a2]
  r : SqL K (L2.del H p) a1 (o.1.map V.str)
  l : SqL K (L2.del H p) a2 (o.2.map V.str)
  m : OrAt K C CO (L2.del H p) m x ps o.1 o.2
section
variable {K : PySem.W.Frag} {C CO p lp x lo a1 a2 m : Addr} {xs : List V} {ps : List (Str × Int)} {o : Ord} {H H' : Hp}
theorem Wo.step (W : Wo K C CO p lp x lo a1 a2 m xs ps o H) (s : SameX p H H') {a b : Int} (f : H' p = some (feedO a b)) : Wo K C CO p lp x lo a1 a2 m xs ps o H' :=
  ⟨⟨a, b, f⟩, Same.seq (SameX.del s) W.dl, dpAll_same (SameX.del s) _ _ W.d, W.s.same (SameX.del s), Same.seq (SameX.del s) W.ol, Same.seq (SameX.del s) W.r, Same.seq (SameX.del s) W.l, W.m.same (SameX.del s)⟩
theorem Wo.same (W : Wo K C CO p lp x lo a1 a2 m xs ps o H) (s : Same H H') : Wo K C CO p lp x lo a1 a2 m xs ps o H' := by
  obtain ⟨a, b, f⟩ := W.f
  exact W.step (Same.x s) (s _ _ f)
theorem Wo.dp (W : Wo K C CO p lp x lo a1 a2 m xs ps o H) : Dp K H (.ref lp) (psD ps) := .lst (Same.seq del_sub W.dl) (dpAll_same del_sub _ _ W.d)
theorem Wo.sg (W : Wo K C CO p lp x lo a1 a2 m xs ps o H) : SgAt C H x ps := W.s.same del_sub
theorem Wo.or (W : Wo K C CO p lp x lo a1 a2 m xs ps o H) : OrAt K C CO H m x ps o.1 o.2 := W.m.same del_sub
theorem Wo.row (W : Wo K C CO p lp x lo a1 a2 m xs ps o H) : SqL K H a1 (o.1.map V.str) := Same.seq del_sub W.r
theorem Wo.lot (W : Wo K C CO p lp x lo a1 a2 m xs ps o H) : SqL K H a2 (o.2.map V.str) := Same.seq del_sub W.l
theorem Wo.lo' (W : Wo K C CO p lp x lo a1 a2 m xs ps o H) : SqL K H lo [.ref a1, .ref a2] := Same.seq del_sub W.ol
theorem Wo.od (W : Wo K C CO p lp x lo a1 a2 m xs ps o H) : Dp K H (.ref lo) (ordD o) := .lst W.lo' (.cons (.lst W.row (dp_strs _)) (.cons (.lst W.lot (dp_strs _)) .nil))
end
theorem row_nd {ps : List (Str × Int)} {l : List Str} (h : ¬ l.Nodup) : rowOf ps (nmL l) = none := by
  unfold rowOf
  cases hc : chO (nmsOf ps) (nmL l) with
  | none => rfl
  | some r =>
    exfalso
    obtain ⟨a, b, zs, e, e2⟩ := chL_mem (show chL (nmsOf ps) [] (l.map .str) = some r from hc) List.nodup_nil (by intro z hz; cases hz)
    rw [List.nil_append] at e2
    subst e2
    have : l = r := nm_inj (show nmL l = nmL r by unfold nmL; rw [e])
    exact h (this ▸ a)
theorem row_off {ps : List (Str × Int)} {d : PyData} (h : chO (nmsOf ps) d = none) : rowOf ps d = none := by
  unfold rowOf
  rw [h]
/-- one name in the place of its neighbour -/
theorem dup_row {l : List Str} {k : Nat} {z : Str} (hk : k < l.length) (h1 : 1 < l.length) (hz : l[if k = 0 then l.length - 1 else k - 1]? = some z) : ¬ (l.take k ++ [z] ++ l.drop (k + 1)).Nodup := by
  intro nd
  rw [List.append_assoc, List.nodup_append] at nd
  obtain ⟨_, nd2, nd3⟩ := nd
  by_cases h0 : k = 0
  · subst h0
    rw [if_pos rfl] at hz
    rw [List.cons_append, List.nodup_cons] at nd2
    refine nd2.1 (List.mem_append_right _ ?_)
    refine List.mem_of_getElem? (i := l.length - 2) ?_
    rw [List.getElem?_drop]
    rw [show 0 + 1 + (l.length - 2) = l.length - 1 by omega]
    exact hz
  · rw [if_neg h0] at hz
    refine nd3 z ?_ z (List.mem_append_left _ List.mem_cons_self) rfl
    refine List.mem_of_getElem? (i := k - 1) ?_
    rw [List.getElem?_take_of_lt (by omega)]
    exact hz
theorem atI_prev {xs : List V} {k : Nat} (hk : k < xs.length) : atI xs ((k : Int) - 1) = xs[if k = 0 then xs.length - 1 else k - 1]? := by
  unfold atI ixN
  by_cases h0 : k = 0
  · subst h0
    rw [if_neg (by omega), if_pos (by omega), if_pos rfl]
    show xs[((((0 : Nat) : Int) - 1) + (xs.length : Int)).toNat]? = _
    congr 1
    omega
  · rw [if_pos (by omega), if_pos (by omega), if_neg h0]
    show xs[((k : Int) - 1).toNat]? = _
    congr 1
    omega
theorem lot_bad {ps : List (Str × Int)} {l : List Str} {z : Str} (h : z ∉ waysOf ps) (hz : z ∈ l) : lotsOf ps (nmL l) = none := by
  unfold lotsOf
  cases hc : chO (waysOf ps) (nmL l) with
  | none => rfl
  | some r =>
    exfalso
    obtain ⟨a, b, zs, e, e2⟩ := chL_mem (show chL (waysOf ps) [] (l.map .str) = some r from hc) List.nodup_nil (by intro z hz; cases hz)
    rw [List.nil_append] at e2
    subst e2
    have : l = r := nm_inj (show nmL l = nmL r by unfold nmL; rw [e])
    exact h (b _ (this ▸ hz))
theorem ord_eqv (o o' : Ord) : PyData.eqv (ordD o) (ordD o') = (decide (o.1 = o'.1) && decide (o.2 = o'.2)) := by
  show (PyData.eqvAll _ _ && (PyData.eqvAll _ _ && true)) = _
  rw [nm_eqv, nm_eqv, Bool.and_true]
theorem cho_off {N : List Str} {ds : List PyData} {d : PyData} (hd : d ∈ ds) (h : ∀ z, d ≠ .str z) : chO N (.list ds) = none := by
  cases hc : chO N (.list ds) with
  | none => rfl
  | some r =>
    exfalso
    obtain ⟨a, b, zs, rfl, e2⟩ := chL_mem (show chL N [] ds = some r from hc) List.nodup_nil (by intro z hz; cases hz)
    obtain ⟨z, _, rfl⟩ := List.mem_map.mp hd
    exact h z rfl
/-- a list of names with None behind -/
def wD (l : List Str) : PyData := .list (l.map .str ++ [.none])
theorem wD_eqv : ∀ l : List Str, PyData.eqvAll (l.map .str ++ [.none]) (l.map .str ++ [.none]) = true
  | [] => rfl
  | z :: l => by
    have h : ((z == z) && PyData.eqvAll (l.map PyData.str ++ [.none]) (l.map PyData.str ++ [.none])) = true := by
      rw [wD_eqv l]
      simp
    exact h
theorem wD_hand {l : List Str} (h : ∀ z ∈ l, PyData.strOk z = true) (hl : l.length ≤ 500) : Hand (wD l) := (ok_list (fun d hd => by
  rcases List.mem_append.mp hd with hd | hd
  · obtain ⟨z, hz, rfl⟩ := List.mem_map.mp hd
    exact ⟨h z hz, by simp [PyData.depth]⟩
  · rw [List.mem_singleton.mp hd]
    decide) (by rw [List.length_append, List.length_map, List.length_singleton]; omega)).1
theorem wD_dep {l : List Str} : (wD l).depth ≤ 5 := by
  unfold wD
  simp only [PyData.depth]
  have : ∀ l : List Str, PyData.depthAll (l.map PyData.str ++ [.none]) ≤ 0 := fun l => by
    induction l with
    | nil => simp [PyData.depthAll, PyData.depth]
    | cons a l ih => simp only [List.map_cons, List.cons_append, PyData.depthAll, PyData.depth]; omega
  have := this l
  omega
theorem wD_row (ps : List (Str × Int)) (l : List Str) : rowOf ps (wD l) = none := row_off (cho_off (List.mem_append_right _ List.mem_cons_self) (by intro z e; cases e))
theorem wD_lots (ps : List (Str × Int)) (l : List Str) : lotsOf ps (wD l) = none := cho_off (List.mem_append_right _ List.mem_cons_self) (by intro z e; cases e)
theorem sh_two {a b : PyData} (ha : SeqAt.shaped a = true ∧ a.depth ≤ 60) (hb : SeqAt.shaped b = true ∧ b.depth ≤ 60) : SeqAt.shaped (.list [a, b]) = true := shaped_list fun d hd => by
  simp only [List.mem_cons, List.not_mem_nil, or_false] at hd
  rcases hd with rfl | rfl
  · exact ⟨SeqAt.canLay_of_shaped ha.1, by omega⟩
  · exact ⟨SeqAt.canLay_of_shaped hb.1, by omega⟩
theorem wD_dp {K : PySem.W.Frag} {H : Hp} {a : Addr} {l : List Str} (h : H a = some (.lst (l.map V.str ++ [.non]))) : Dp K H (.ref a) (wD l) := .lst (SqL.of h) (dpAll_app (dp_strs l) (.cons .non .nil))
theorem nodup_key : ∀ {ps : List (Str × Int)}, (ps.map (·.1)).Nodup → ∀ {a b : Str × Int}, a ∈ ps → b ∈ ps → a.1 = b.1 → a = b
  | [], _, a, b, h, _, _ => by cases h
  | q :: ps, nd, a, b, ha, hb, e => by
    rw [List.map_cons, List.nodup_cons] at nd
    rcases List.mem_cons.mp ha with h1 | h1 <;> rcases List.mem_cons.mp hb with h2 | h2
    · rw [h1, h2]
    · exact absurd (List.mem_map.mpr ⟨b, h2, by rw [← e, h1]⟩) nd.1
    · exact absurd (List.mem_map.mpr ⟨a, h1, by rw [e, h2]⟩) nd.1
    · exact nodup_key nd.2 h1 h2 e
/-- the names of arity below 2 -/
def freeL (ps : List (Str × Int)) : List Str := (ps.filter fun p => decide (p.2 < 2)).map (·.1)
theorem free_fm : ∀ ps : List (Str × Int), ps.filterMap (fun q => if decide (q.2 < 2) = true then some (PyData.str q.1) else none) = (freeL ps).map PyData.str
  | [] => rfl
  | q :: ps => by
    have ih := free_fm ps
    unfold freeL at ih ⊢
    by_cases h : q.2 < 2
    · rw [List.filter_cons_of_pos (by simpa using h), List.map_cons, List.map_cons, ← ih]
      simp [h]
    · rw [List.filter_cons_of_neg (by simpa using h), ← ih]
      simp [h]
theorem free_len (ps : List (Str × Int)) : (freeL ps).length ≤ ps.length := by
  unfold freeL
  rw [List.length_map]
  exact List.length_filter_le _ _
theorem free_no {ps : List (Str × Int)} (nd : (ps.map (·.1)).Nodup) {z : Str} (h : z ∈ freeL ps) : z ∉ waysOf ps := by
  intro hw
  obtain ⟨a, ha, rfl⟩ := List.mem_map.mp h
  obtain ⟨b, hb, e⟩ := List.mem_map.mp hw
  have a1 := List.mem_filter.mp ha
  have b1 := List.mem_filter.mp hb
  have := nodup_key nd a1.1 b1.1 e.symm
  have a2 := of_decide_eq_true a1.2
  have b2 := of_decide_eq_true b1.2
  rw [this] at a2
  omega
theorem free_nm {ps : List (Str × Int)} {z : Str} (h : z ∈ freeL ps) : z ∈ nmsOf ps := by
  obtain ⟨a, ha, rfl⟩ := List.mem_map.mp h
  exact List.mem_map.mpr ⟨a, (List.mem_filter.mp ha).1, rfl⟩
theorem fm_none {α : Type} : ∀ l : List α, l.filterMap (fun _ => (none : Option PyData)) = []
  | [] => rfl
  | _ :: l => fm_none l
theorem near_word {ps qs : List (Str × Int)} (hn : qs.map (·.1) = ps.map (·.1)) (hf : Fine ps) (ha : ∀ q ∈ qs, 0 ≤ q.2 ∧ q.2 ≤ 3) : Fine qs := by
  have hl : qs.length = ps.length := by
    have := congrArg List.length hn
    rwa [List.length_map, List.length_map] at this
  refine ⟨by rw [hl]; exact hf.1, by rw [hl]; exact hf.2.1, by rw [hn]; exact hf.2.2.1, fun q hq => ⟨?_, ha q hq⟩⟩
  have : q.1 ∈ ps.map (·.1) := by rw [← hn]; exact List.mem_map.mpr ⟨q, hq, rfl⟩
  obtain ⟨p, hp, e⟩ := List.mem_map.mp this
  rw [← e]
  exact (hf.2.2.2 p hp).1
theorem nearA_rng {n : Int} (h0 : 0 ≤ n) (h3 : n ≤ 3) : 0 ≤ nearA n ∧ nearA n ≤ 3 := by
  rcases (show n = 0 ∨ n = 1 ∨ n = 2 ∨ n = 3 by omega) with rfl | rfl | rfl | rfl <;> decide
theorem nears_fine {ps : List (Str × Int)} (hf : Fine ps) : ∀ qs ∈ nearsOf ps, Fine qs ∧ ps ≠ qs := by
  intro qs hq
  obtain ⟨hm, hne⟩ := List.mem_filter.mp hq
  have hne : ps ≠ qs := fun e => by rw [e] at hne; simp at hne
  have e1 : (nearPs ps).map (·.1) = ps.map (·.1) := by unfold nearPs; rw [List.map_map]; rfl
  have r1 : ∀ q ∈ nearPs ps, 0 ≤ q.2 ∧ q.2 ≤ 3 := fun q hq => by
    obtain ⟨p, hp, rfl⟩ := List.mem_map.mp hq
    exact nearA_rng (hf.2.2.2 p hp).2.1 (hf.2.2.2 p hp).2.2
  simp only [List.mem_cons, List.not_mem_nil, or_false] at hm
  rcases hm with rfl | rfl | rfl
  · exact ⟨near_word e1 hf r1, hne⟩
  · refine ⟨near_word ?_ hf fun q hq => ?_, hne⟩
    · rw [List.map_append, List.map_take, e1, List.map_drop, List.take_append_drop]
    · rcases List.mem_append.mp hq with hq | hq
      · exact r1 q (List.mem_of_mem_take hq)
      · have := hf.2.2.2 q (List.mem_of_mem_drop hq)
        exact ⟨this.2.1, this.2.2⟩
  · refine ⟨⟨by rw [List.length_reverse]; exact hf.1, by rw [List.length_reverse]; exact hf.2.1, ?_, fun q hq => hf.2.2.2 q (List.mem_reverse.mp hq)⟩, hne⟩
    rw [List.map_reverse]
    unfold List.Nodup
    rw [List.pairwise_reverse]
    exact List.Pairwise.imp (fun h => Ne.symm h) hf.2.2.1
theorem near_nms {ps : List (Str × Int)} : ∀ qs ∈ nearsOf ps, (nmsOf qs).Perm (nmsOf ps) := by
  intro qs hq
  obtain ⟨hm, _⟩ := List.mem_filter.mp hq
  have e1 : nmsOf (nearPs ps) = nmsOf ps := by unfold nmsOf nearPs; rw [List.map_map]; rfl
  simp only [List.mem_cons, List.not_mem_nil, or_false] at hm
  rcases hm with rfl | rfl | rfl
  · rw [e1]
  · have : nmsOf ((nearPs ps).take 1 ++ ps.drop 1) = nmsOf ps := by
      show List.map _ _ = _
      rw [List.map_append, List.map_take, List.map_drop]
      show List.take 1 (nmsOf (nearPs ps)) ++ List.drop 1 (nmsOf ps) = _
      rw [e1, List.take_append_drop]
    rw [this]
  · show (List.map _ _).Perm _
    rw [List.map_reverse]
    exact List.reverse_perm _
theorem OrF.near {ps qs : List (Str × Int)} {o : Ord} (h : OrF ps o) (hn : (nmsOf qs).Perm (nmsOf ps)) (hw : ∀ z, z ∈ waysOf ps → z ∈ waysOf qs) : OrF qs o :=
  ⟨h.rn, fun z hz => hn.mem_iff.mpr (h.rm z hz), by have := hn.length_eq; rw [nms_len, nms_len] at this; rw [h.rl, this], h.ln, fun z hz => hw z (h.lm z hz), h.ls⟩
theorem sq_del {K : PySem.W.Frag} {H : Hp} {p a : Addr} {x y : Int} {xs : List V} (h : SqL K H a xs) (f : H p = some (feedO x y)) (hx : xs ≠ [.int x, .int y]) : SqL K (L2.del H p) a xs := by
  rcases h with (e | ⟨u, e⟩) | k
  · refine .inl (.inl ?_)
    rw [del_ne (fun z => ?_)]
    · exact e
    · rw [z, f] at e
      exact hx (HO.lst.inj (Option.some.inj e)).symm
  · refine .inl (.inr ⟨u, ?_⟩)
    rw [del_ne (fun z => ?_)]
    · exact e
    · rw [z, f] at e
      cases e
  · exact .inr k
theorem strs_ne {l : List Str} {x y : Int} : l.map V.str ≠ [.int x, .int y] := by
  intro h
  cases l with
  | nil => cases h
  | cons a l => cases h
theorem ord_del {K : PySem.W.Frag} {H : Hp} {p : Addr} {x y : Int} {v : V} {o : Ord} (h : Dp K H v (ordD o)) (f : H p = some (feedO x y)) : Dp K (L2.del H p) v (ordD o) := by
  cases h with
  | lst k1 k2 =>
    cases k2 with
    | cons v1 k2 =>
      cases k2 with
      | cons v2 k2 =>
        cases k2
        cases v1 with
        | lst m1 m2 =>
          obtain rfl := nm_vs m2
          cases v2 with
          | lst n1 n2 =>
            obtain rfl := nm_vs n2
            exact .lst (sq_del k1 f (by intro h; cases h)) (.cons (.lst (sq_del m1 f strs_ne) (dp_strs _)) (.cons (.lst (sq_del n1 f strs_ne) (dp_strs _)) .nil))
theorem ord_sh {ps : List (Str × Int)} {o : Ord} (ok : OrOk ps o.1 o.2) : SeqAt.shaped (ordD o) = true :=
  sh_two ⟨nmL_shaped ok.r, Nat.le_trans (nm_depth _) (by decide)⟩ ⟨nmL_shaped ok.l, Nat.le_trans (nm_depth _) (by decide)⟩
end Sg

set_option maxRecDepth 100000
set_option maxHeartbeats 8000000
namespace Sg
open PySem PySem.Spec PyProof.Rows L2 Dr Gd Er Cm Ow XT TM Tw SD CO CQ
/-- the class Order as the law asks it -/
structure OrM (P : Program) (w : World) (K : PySem.W.Frag) (mg : Str → Option Value) (base : Heap) (C CO np ng lp lg tp tg fe : Addr) (dn dl dt de : FuncData) : Prop where
  x : OClx K CO
  np : PropOf K CO "names" np ng
  no : FnOk P w K mg base CX0 1 ng dn ["self"] (spONames K C CO)
  nb : Binds K dn ["self"] []
  lp : PropOf K CO "lots" lp lg
  lo : FnOk P w K mg base CX0 1 lg dl ["self"] (spOLots K C CO)
  lb : Binds K dl ["self"] []
  tp : PropOf K CO "facts" tp tg
  to : FnOk P w K mg base CX0 1 tg dt ["self"] (spOFacts K C CO)
  tb : Binds K dt ["self"] []
  ea : PySem.W.findIn K (.ref CO) "__eq__" = some (some (.ref fe))
  ef : PySem.W.isFn K (.ref fe) = true
  eo : FnOk P w K mg base CX0 2 fe de ["self", "other"] (spOEq K C CO)
  eb : Binds K de ["self", "other"] []
  ne : PySem.W.findIn K (.ref CO) "__ne__" = some (some (.builtin "object.__ne__"))
  nO : PySem.W.notFirst K CO (.ref CO) = true
  nL : PySem.W.notFirst K CO (.type "list") = true
  nN : PySem.W.notFirst K CO (.type "NoneType") = true
structure RTxt (mg : Str → Option Value) : Prop where
  t : KTxt mg
  rng : mg "range" = none
  lst : mg "list" = none
def spRest (K : PySem.W.Frag) (C CO : Addr) : Sp := fun vs H Q _ => ∃ p lp x lo a1 a2 m xs ps o, vs = [.ref p, .ref lp, .ref x, .ref lo, .ref m] ∧ Wo K C CO p lp x lo a1 a2 m xs ps o H ∧ Good ps ∧ OrF ps o ∧
  ∀ a b H', SameX p H H' → H' p = some (feedO a b) → Q (.bl true) H'
section
variable {P : Program} {w : World} {K : PySem.W.Frag} {mg : Str → Option Value} {base : Heap} {cN cC cB cA cL C CO fi fo fM fO fN fW fD fP fR : Addr} {di do' dM dO dN dW dD dP dR : FuncData} {np ng lp lg tp tg fe : Addr} {dn dl dt de : FuncData}
theorem scRr : FnScope ["feed", "pairs", "signs", "order", "made", "row", "at", "wrong", "free", "odd", "some", "other", "name", "arity", "bad"] ["feed", "pairs", "signs", "order", "made"] (defScope sRest) := ⟨rfl, rfl, rfl, by decide +kernel, rfl, by decide +kernel, by decide +kernel⟩
theorem ok_rest {f : Addr} {fd : FuncData} (F : Fun K "_law_rest_right" "_law_rest_right" sRest f fd) (T : RTxt mg) (MK : MkS P w K mg base cN cC cB C fi di) (MO : MkO P w K mg base cA cL C CO fo do') (OM : OrM P w K mg base C CO np ng lp lg tp tg fe dn dl dt de)
    (GM : Cal P w K mg base CX0 5 "_law_made" fM dM ["signs", "names", "lots"] (spMadeO K C CO)) (GO : Cal P w K mg base CX0 2 "_law_odd_lists" fO dO ["feed", "some"] (spOddL K)) (GN : Cal P w K mg base CX0 1 "_law_near_signs" fN dN ["pairs"] (spNear K))
    (GW : Cal P w K mg base CX0 1 "_law_ways" fW dW ["pairs"] (spLw K)) (GD : Cal P w K mg base CX0 7 "_law_orders" fD dD ["pairs"] (spOrders K)) (GP : Cal P w K mg base CX0 2 "_law_pick" fP dP ["feed", "some"] (spPick K)) (GR : Cal P w K mg base CX0 5 "_law_program_order" fR dR ["pairs", "order"] (spPO K C CO)) :
    FnOk P w K mg base CX0 8 f fd ["feed", "pairs", "signs", "order", "made"] (spRest K C CO) := by
  refine F.ok scRr (fun vs H Q E h => ?_) (fun cdv A outer s H vs Q E hr h => ?_)
  · obtain ⟨p, lp, x, lo, a1, a2, m, xs, ps, o, rfl, _⟩ := h
    rfl
  · obtain ⟨p, lp, x, lo, a1, a2, m, xs, ps, o, rfl, W, hg, hof, q⟩ := h
    have nd := scRr.nd
    have r1 : Room 1 (A.deeper (envOfC "_law_rest_right" (defScope sRest) s.heap.objs.size f cdv)) := hr.mono (by decide)
    have r2 : Room 2 (A.deeper (envOfC "_law_rest_right" (defScope sRest) s.heap.objs.size f cdv)) := hr.mono (by decide)
    have r3 : Room 3 (A.deeper (envOfC "_law_rest_right" (defScope sRest) s.heap.objs.size f cdv)) := hr.mono (by decide)
    have r4 : Room 4 (A.deeper (envOfC "_law_rest_right" (defScope sRest) s.heap.objs.size f cdv)) := hr.mono (by decide)
    have r5 : Room 5 (A.deeper (envOfC "_law_rest_right" (defScope sRest) s.heap.objs.size f cdv)) := hr.mono (by decide)
    refine ⟨_, pss_cons (ps_set (i := 5) nd rfl (Or.inr rfl) (pe_ix ix_list (pv 3) pe_int fun _ _ => rfl))
      (C8.pss_cut (ps_for PassesOwn.never rfl (pi_range1 (by rfl) T.rng (pa_cons (pe_callB call_len_seq (by rfl) T.t.len PySem.boot_len (pa_cons (pv 5) pa_nil)) pa_nil)) (pg_name (i := 6) nd rfl (Or.inl rfl))
        (pss_cons (ps_set (i := 7) nd rfl (Or.inl rfl) (pe_op op_catQ (pe_op op_catQ (pe_slice sl_list (pv 5) po_none (po_some (pv 6))) (pe_lst (pa_cons (pe_ix ix_list (pv 5) (pe_op op_sub (pv 6) pe_int) fun _ _ => rfl) pa_nil))) (pe_slice sl_list (pv 5) (po_some (pe_op op_add (pv 6) pe_int)) po_none)))
        (pss_one (ps_if (PW.pt (pw_and (pt_cmpR op_gt (pe_callB call_len_seq (by rfl) T.t.len PySem.boot_len (pa_cons (pv 5) pa_nil)) pe_int (nomark _)) (pw_and1 (pt_cmpR op_ne (pe_call GM.ok r5 rfl GM.g GM.kp GM.b .nil pass0 (pa_cons (pv 2) (pa_cons (pv 7) (pa_cons (pe_lst pa_nil) pa_nil)))) pe_str (nomark _))))) (pss_one (ps_ret pe_bl)) pss_nil))))
      (pss_cons (ps_set (i := 7) nd rfl (Or.inl rfl) (pe_lst (pa_cons (pe_op op_catQ (pv 5) (pe_lst (pa_cons pe_non pa_nil))) (pa_cons (pe_op op_catQ (pe_ix ix_list (pv 3) pe_int fun _ _ => rfl) (pe_lst (pa_cons pe_non pa_nil))) pa_nil))))
      (C8.pss_cut (ps_if (pt_cmpR (op_neD hr.units) (pe_lst (pa_cons (pe_call GM.ok r5 rfl GM.g GM.kp GM.b .nil pass0 (pa_cons (pv 2) (pa_cons (pe_ix ix_list (pv 7) pe_int fun _ _ => rfl) (pa_cons (pe_lst pa_nil) pa_nil))))
            (pa_cons (pe_call GM.ok r5 rfl GM.g GM.kp GM.b .nil pass0 (pa_cons (pv 2) (pa_cons (pe_callTy call_list_of (by rfl) T.lst (by decide +kernel) (pa_cons (pv 5) pa_nil)) (pa_cons (pe_ix ix_list (pv 7) pe_int fun _ _ => rfl) pa_nil)))) pa_nil))) (pe_lst (pa_cons pe_str (pa_cons pe_str pa_nil))) (nomark _)) (pss_one (ps_ret pe_bl)) pss_nil)
      (C8.pss_cut (ps_if (pt_cmpR (op_neD hr.units) (pv 7) (pe_lst (pa_cons (pe_op op_catQ (pv 5) (pe_lst (pa_cons pe_non pa_nil))) (pa_cons (pe_op op_catQ (pe_ix ix_list (pv 3) pe_int fun _ _ => rfl) (pe_lst (pa_cons pe_non pa_nil))) pa_nil))) (nomark _)) (pss_one (ps_ret pe_bl)) pss_nil)
      (pss_cons (ps_setLc (i := 8) (own := [("name", 12), ("arity", 13)]) (g := gTup K 2 (gCons (gName 12) (gCons (gName 13) gNil))) (tt := tTest (tOp (rI0 fun i j => .bl (decide (i < j))) (tVar 13) (tC (.int 2)))) (te := tVar 12) (by rfl) nd rfl rfl (sw_true rfl rfl rfl (by decide +kernel)) (pi_list (pv 1))
          (blkOk_by (N := ["feed", "pairs", "signs", "order", "made", "row", "at", "wrong", "free", "odd", "some", "other", "name", "arity", "bad"]) (sc := defScope sRest) (by decide +kernel)) (fun _ _ _ _ _ => pg_tup rfl (pgs_cons (pg_name (i := 12) nd rfl (Or.inl rfl)) (pgs_cons (pg_name (i := 13) nd rfl (Or.inl rfl)) pgs_nil)))
          (fun _ _ _ _ _ => pts_one (pt_cmpR op_lt (pv 13) pe_int (nomark _))) (fun _ _ _ _ _ => pv 12))
      (pss_cons (ps_set (i := 9) nd rfl (Or.inl rfl) (pe_op op_catQ (pe_op op_catQ (pe_call GO.ok r2 rfl GO.g GO.kp GO.b .nil pass0 (pa_cons (pv 0) (pa_cons (pe_ix ix_list (pv 3) pe_int fun _ _ => rfl) pa_nil)))
            (pe_lc (own := [("name", 12)]) (g := gName 12) (tt := tYes) (te := tOp (rCatQ K) (tOp (rIxL K) (tVar 3) (tC (.int 1))) (tLst (tCons (tVar 12) tNil))) rfl nd (pi_list (pv 8)) (blkOk_by (N := ["feed", "pairs", "signs", "order", "made", "row", "at", "wrong", "free", "odd", "some", "other", "name", "arity", "bad"]) (sc := defScope sRest) (by decide +kernel))
              (fun _ _ _ _ _ => pg_name (i := 12) nd rfl (Or.inl rfl)) (fun _ _ _ _ _ => pts_nil) (fun _ _ _ _ _ => pe_op op_catQ (pe_ix ix_list (pv 3) pe_int fun _ _ => rfl) (pe_lst (pa_cons (pv 12) pa_nil)))))
            (pe_lc (own := [("name", 12)]) (g := gName 12) (tt := tYes) (te := tOp (rCatQ K) (tLst (tCons (tVar 12) tNil)) (tOp (rIxL K) (tVar 3) (tC (.int 1)))) rfl nd (pi_list (pv 8)) (blkOk_by (N := ["feed", "pairs", "signs", "order", "made", "row", "at", "wrong", "free", "odd", "some", "other", "name", "arity", "bad"]) (sc := defScope sRest) (by decide +kernel))
              (fun _ _ _ _ _ => pg_name (i := 12) nd rfl (Or.inl rfl)) (fun _ _ _ _ _ => pts_nil) (fun _ _ _ _ _ => pe_op op_catQ (pe_lst (pa_cons (pv 12) pa_nil)) (pe_ix ix_list (pv 3) pe_int fun _ _ => rfl)))))
      (C8.pss_cut (ps_if (pt_cmpR (op_neD hr.units) (pe_lc (own := [("bad", 14)]) (g := gName 14) (tt := tTest (tOp rNe (tCall (spMadeO K C CO) [] E0 (tCons (tVar 2) (tCons (tCB (fun xs H Q => ∃ p ys, xs = [.ref p] ∧ (SqL K H p ys ∨ SqT K H p ys) ∧ ∀ l, H l = none → Q (.ref l) (L2.upd H l (.lst ys))) (tCons (tVar 5) tNil)) (tCons (tVar 14) tNil)))) (tC (.str "lots")))) (te := tVar 14) rfl nd (pi_list (pv 9))
            (blkOk_by (N := ["feed", "pairs", "signs", "order", "made", "row", "at", "wrong", "free", "odd", "some", "other", "name", "arity", "bad"]) (sc := defScope sRest) (by decide +kernel)) (fun _ _ _ _ _ => pg_name (i := 14) nd rfl (Or.inl rfl))
            (fun _ _ _ _ _ => pts_one (pt_cmpR op_ne (pe_call GM.ok r5 rfl GM.g GM.kp GM.b .nil pass0 (pa_cons (pv 2) (pa_cons (pe_callTy call_list_of (by rfl) T.lst (by decide +kernel) (pa_cons (pv 5) pa_nil)) (pa_cons (pv 14) pa_nil)))) pe_str (nomark _))) (fun _ _ _ _ _ => pv 14)) (pe_lst pa_nil) (nomark _)) (pss_one (ps_ret pe_bl)) pss_nil)
      (C8.pss_cut (ps_for PassesOwn.never rfl (pi_list (pe_call GN.ok r1 rfl GN.g GN.kp GN.b .nil pass0 (pa_cons (pv 1) pa_nil))) (pg_name (i := 10) nd rfl (Or.inl rfl))
        (pss_one (ps_if (PW.pt (pw_and (pt_cmpR (op_eqD hr.units) (pe_call GW.ok r1 rfl GW.g GW.kp GW.b .nil pass0 (pa_cons (pv 10) pa_nil)) (pe_call GW.ok r1 rfl GW.g GW.kp GW.b .nil pass0 (pa_cons (pv 1) pa_nil)) (nomark _))
            (pw_and1 (pt_cmpR (op_eqOwn OM.eo r2 OM.ea OM.ef OM.eb pass0) (pv 4) (pe_make MO.mm MO.ok r4 rfl MO.g MO.b .nil passL (pa_cons (pe_make MK.mm MK.ok r4 rfl MK.g MK.b .nil passL (pa_cons (pe_callTy call_list_of (by rfl) T.lst (by decide +kernel) (pa_cons (pv 10) pa_nil)) pa_nil))
              (pa_cons (pe_callTy call_list_of (by rfl) T.lst (by decide +kernel) (pa_cons (pv 5) pa_nil)) (pa_cons (pe_callTy call_list_of (by rfl) T.lst (by decide +kernel) (pa_cons (pe_ix ix_list (pv 3) pe_int fun _ _ => rfl) pa_nil)) pa_nil)))) (nomark _))))) (pss_one (ps_ret pe_bl)) pss_nil)))
      (pss_cons (ps_set (i := 11) nd rfl (Or.inl rfl) (pe_call GP.ok r2 rfl GP.g GP.kp GP.b .nil pass0 (pa_cons (pv 0) (pa_cons (pe_call GD.ok hr rfl GD.g GD.kp GD.b .nil pass0 (pa_cons (pv 1) pa_nil)) pa_nil))))
      (pss_one (ps_ret (pe_and (pe_cmpR op_eq (pe_cmpR (op_eqOwn OM.eo r2 OM.ea OM.ef OM.eb pass0) (pv 4) (pe_call GR.ok r5 rfl GR.g GR.kp GR.b .nil pass0 (pa_cons (pv 1) (pa_cons (pv 11) pa_nil))) (nomark _)) (pe_cmpR (op_eqD hr.units) (pv 3) (pv 11) (nomark _)) (nomark _))
        (pe_and (pe_cmpR (op_neOwn OM.eo r3 OM.ea OM.ef OM.eb pass0 OM.ne OM.x.cm) (pv 4) (pv 3) (nomark _)) (pe_one (pe_cmpR (op_neOwn OM.eo r3 OM.ea OM.ef OM.eb pass0 OM.ne OM.x.cm) (pv 4) pe_non (nomark _)))))))))))))))), ?_⟩
    have okS := hg.fine.sg
    have ok := hof.ok okS
    have l5 := hof.l5 okS
    have pl4 : ps.length ≤ 4 := hg.2.1
    have hq : ("q" : Str) ∉ nmsOf ps := hg.2.2.2.2.1
    have hem : ("" : Str) ∉ nmsOf ps := fun h => by
      obtain ⟨p, hp, e⟩ := List.mem_map.mp h
      have := (hg.2.2.2.1 p hp).1
      rw [e] at this
      exact absurd this (by decide)
    have wayq : ∀ {z : Str}, z ∉ nmsOf ps → z ∉ waysOf ps := fun h m => h (ways_nms m)
    have big : (1000 : Nat) ≤ sizeLine := by decide
    have em : Hand (.list []) := ⟨by decide, fun ds e => by injection e with e; rw [← e]; simp⟩
    refine ⟨_, rfl, lo, _, 0, .ref a1, rfl, rfl, W.lo', rfl, ?_⟩
    refine ⟨fun σ' H' => ∃ c6 c7, σ' = [some (.ref p), some (.ref lp), some (.ref x), some (.ref lo), some (.ref m), some (.ref a1), c6, c7, none, none, none, none, none, none, none] ∧ Same H H', ?_, ?_⟩
    · refine ⟨_, rfl, a1, _, rfl, .inl W.row, _, rfl, by omega, by rw [List.length_map]; omega, ?_⟩
      rw [List.length_map]
      refine for_it (walk_range (lo := 0) (n := ((o.1.length : Nat) : Int).toNat)) (fun i σ H' => ∃ c6 c7, σ = [some (.ref p), some (.ref lp), some (.ref x), some (.ref lo), some (.ref m), some (.ref a1), c6, c7, none, none, none, none, none, none, none] ∧ Same H H')
        ⟨none, none, rfl, Same.refl H⟩ (fun _ _ _ _ _ => trivial) (fun k z σ Hx H0 hk hp hy => ?_) (fun σ H' hp => hp)
      obtain ⟨c6, c7, rfl, sm⟩ := hp
      obtain ⟨rfl, hz⟩ := hy
      have hz : z = V.int (k : Int) := by
        rw [hz]
        show V.int (0 + (k : Int)) = _
        rw [Int.zero_add]
      subst hz
      have hk' : k < o.1.length := by omega
      have W0 := W.same sm
      refine ⟨_, rfl, _, rfl, (k : Int), rfl, a1, _, rfl, W0.row, fun p1 hp1 => ?_⟩
      rw [cut_toN, ← List.map_take]
      have s1 := same_upd (o := .lst ((o.1.take k).map V.str)) hp1
      have e1 : (L2.upd H0 p1 (.lst ((o.1.take k).map V.str))) p1 = some (.lst ((o.1.take k).map V.str)) := upd_same
      generalize (L2.upd H0 p1 (.lst ((o.1.take k).map V.str))) = H1 at s1 e1 ⊢
      have W1 := W0.same s1
      obtain ⟨z, ez⟩ : ∃ z, o.1[if k = 0 then o.1.length - 1 else k - 1]? = some z := ⟨_, List.getElem?_eq_getElem (by split <;> omega)⟩
      have eat : atI (o.1.map V.str) ((k : Int) - 1) = some (.str z) := by
        rw [atI_prev (by rw [List.length_map]; exact hk'), List.length_map, List.getElem?_map, ez]
        rfl
      refine ⟨_, rfl, _, rfl, _, _, rfl, rfl, a1, _, _, _, rfl, rfl, W1.row, eat, (by show 1 ≤ sizeLine; decide), fun p2 hp2 => ?_⟩
      have s2 := same_upd (o := .lst [V.str z]) hp2
      have e2 : (L2.upd H1 p2 (.lst [V.str z])) p2 = some (.lst [V.str z]) := upd_same
      generalize (L2.upd H1 p2 (.lst [V.str z])) = H2 at s2 e2 ⊢
      refine ⟨p1, p2, _, _, rfl, rfl, SqL.of (s2 _ _ e1), SqL.of e2, Nat.le_trans (show ((o.1.take k).map V.str).length + ([V.str z] : List V).length ≤ 1000 by rw [List.length_map, List.length_take, List.length_singleton]; omega) big, fun p3 hp3 => ?_⟩
      have s3 := same_upd (o := .lst ((o.1.take k).map V.str ++ [V.str z])) hp3
      have e3 : (L2.upd H2 p3 (.lst ((o.1.take k).map V.str ++ [V.str z]))) p3 = some (.lst ((o.1.take k).map V.str ++ [V.str z])) := upd_same
      generalize (L2.upd H2 p3 (.lst ((o.1.take k).map V.str ++ [V.str z]))) = H3 at s3 e3 ⊢
      have W3 := W1.same (Same.trans s2 s3)
      refine ⟨_, rfl, _, rfl, _, _, rfl, rfl, _, rfl, a1, _, rfl, W3.row, fun p4 hp4 => ?_⟩
      rw [show (k : Int) + 1 = ((k + 1 : Nat) : Int) by omega, cut_from, ← List.map_drop]
      have s4 := same_upd (o := .lst ((o.1.drop (k + 1)).map V.str)) hp4
      have e4 : (L2.upd H3 p4 (.lst ((o.1.drop (k + 1)).map V.str))) p4 = some (.lst ((o.1.drop (k + 1)).map V.str)) := upd_same
      generalize (L2.upd H3 p4 (.lst ((o.1.drop (k + 1)).map V.str))) = H4 at s4 e4 ⊢
      refine ⟨p3, p4, _, _, rfl, rfl, SqL.of (s4 _ _ e3), SqL.of e4, Nat.le_trans (show ((o.1.take k).map V.str ++ [V.str z]).length + ((o.1.drop (k + 1)).map V.str).length ≤ 1000 by rw [List.length_append, List.length_map, List.length_map, List.length_take, List.length_drop, List.length_singleton]; omega) big, fun p5 hp5 => ?_⟩
      have ew : (o.1.take k).map V.str ++ [V.str z] ++ (o.1.drop (k + 1)).map V.str = (o.1.take k ++ [z] ++ o.1.drop (k + 1)).map V.str := by simp
      rw [ew]
      have s5 := same_upd (o := .lst ((o.1.take k ++ [z] ++ o.1.drop (k + 1)).map V.str)) hp5
      have e5 : (L2.upd H4 p5 (.lst ((o.1.take k ++ [z] ++ o.1.drop (k + 1)).map V.str))) p5 = some (.lst ((o.1.take k ++ [z] ++ o.1.drop (k + 1)).map V.str)) := upd_same
      generalize (L2.upd H4 p5 (.lst ((o.1.take k ++ [z] ++ o.1.drop (k + 1)).map V.str))) = H5 at s5 e5 ⊢
      have W5 := W3.same (Same.trans s4 s5)
      have s05 := Same.trans s1 (Same.trans s2 (Same.trans s3 (Same.trans s4 s5)))
      refine ⟨_, rfl, a1, _, rfl, .inl W5.row, _, _, rfl, rfl, _, rfl, ?_⟩
      refine ite2 (fun c1 => ?_) (fun c1 => ⟨_, _, rfl, Same.trans sm s05⟩)
      have c1 := of_decide_eq_true c1
      rw [List.length_map] at c1
      refine ⟨_, rfl, _, rfl, Nat.zero_le _, fun p6 hp6 => ?_⟩
      have s6 := same_upd (o := .lst []) hp6
      have zr : z ∈ o.1 := List.mem_of_getElem? ez
      have wok : ∀ y ∈ o.1.take k ++ [z] ++ o.1.drop (k + 1), PyData.strOk y = true := fun y hy => by
        rcases List.mem_append.mp hy with hy | hy
        · rcases List.mem_append.mp hy with hy | hy
          · exact ok.r y (List.mem_of_mem_take hy)
          · rw [List.mem_singleton.mp hy]; exact ok.r z zr
        · exact ok.r y (List.mem_of_mem_drop hy)
      have wnd := dup_row hk' (by omega) ez
      refine ⟨x, .ref p5, nmL (o.1.take k ++ [z] ++ o.1.drop (k + 1)), .ref p6, .list [], ps, rfl, (W5.same s6).sg, okS, nmL_dp (s6 _ _ e5), .lst (SqL.of upd_same) .nil, hand_nm wok (by rw [List.length_append, List.length_append, List.length_take, List.length_drop, List.length_singleton]; omega), em, ?_⟩
      unfold MEnd
      rw [row_nd wnd]
      intro H7 s7
      exact ⟨rfl, _, rfl, iteNS rfl ⟨_, _, rfl, Same.trans sm (Same.trans s05 (Same.trans s6 s7))⟩⟩
    · rintro σ' H1 ⟨c6, c7, rfl, s1⟩
      have W1 := W.same s1
      refine ⟨_, rfl, (by show 1 ≤ sizeLine; decide), fun q1 hq1 => ?_⟩
      have t1 := same_upd (o := .lst [V.non]) hq1
      have e1 : (L2.upd H1 q1 (.lst [V.non])) q1 = some (.lst [V.non]) := upd_same
      generalize (L2.upd H1 q1 (.lst [V.non])) = H2 at t1 e1 ⊢
      have W2 := W1.same t1
      refine ⟨a1, q1, _, _, rfl, rfl, W2.row, SqL.of e1, Nat.le_trans (show (o.1.map V.str).length + ([V.non] : List V).length ≤ 1000 by rw [List.length_map, List.length_singleton]; omega) big, fun q2 hq2 => ?_⟩
      have t2 := same_upd (o := .lst (o.1.map V.str ++ [V.non])) hq2
      have e2 : (L2.upd H2 q2 (.lst (o.1.map V.str ++ [V.non]))) q2 = some (.lst (o.1.map V.str ++ [V.non])) := upd_same
      generalize (L2.upd H2 q2 (.lst (o.1.map V.str ++ [V.non]))) = H3 at t2 e2 ⊢
      have W3 := W2.same t2
      refine ⟨_, rfl, lo, _, 1, .ref a2, rfl, rfl, W3.lo', rfl, (by show 1 ≤ sizeLine; decide), fun q3 hq3 => ?_⟩
      have t3 := same_upd (o := .lst [V.non]) hq3
      have e3 : (L2.upd H3 q3 (.lst [V.non])) q3 = some (.lst [V.non]) := upd_same
      generalize (L2.upd H3 q3 (.lst [V.non])) = H4 at t3 e3 ⊢
      have W4 := W3.same t3
      refine ⟨a2, q3, _, _, rfl, rfl, W4.lot, SqL.of e3, Nat.le_trans (show (o.2.map V.str).length + ([V.non] : List V).length ≤ 1000 by rw [List.length_map, List.length_singleton]; omega) big, fun q4 hq4 => ?_⟩
      have t4 := same_upd (o := .lst (o.2.map V.str ++ [V.non])) hq4
      have e4 : (L2.upd H4 q4 (.lst (o.2.map V.str ++ [V.non]))) q4 = some (.lst (o.2.map V.str ++ [V.non])) := upd_same
      have e24 := t4 _ _ (t3 _ _ e2)
      generalize (L2.upd H4 q4 (.lst (o.2.map V.str ++ [V.non]))) = H5 at t4 e4 e24 ⊢
      refine ⟨(by show 2 ≤ sizeLine; decide), fun q5 hq5 => ?_⟩
      have t5 := same_upd (o := .lst [V.ref q2, .ref q4]) hq5
      have e5 : (L2.upd H5 q5 (.lst [V.ref q2, .ref q4])) q5 = some (.lst [V.ref q2, .ref q4]) := upd_same
      have e45 := t5 _ _ e4
      have e25 := t5 _ _ e24
      generalize (L2.upd H5 q5 (.lst [V.ref q2, .ref q4])) = H6 at t5 e5 e45 e25 ⊢
      have s6 := Same.trans s1 (Same.trans t1 (Same.trans t2 (Same.trans t3 (Same.trans t4 t5))))
      clear W2 W3 W4 e1 e2 e3 e4 e24 t1 t2 t3 t4 t5
      refine ⟨fun σ' H' => ∃ c6, σ' = [some (.ref p), some (.ref lp), some (.ref x), some (.ref lo), some (.ref m), some (.ref a1), c6, some (.ref q5), none, none, none, none, none, none, none] ∧ Same H H' ∧ H' q5 = some (.lst [V.ref q2, .ref q4]) ∧ H' q2 = some (.lst (o.1.map V.str ++ [V.non])) ∧ H' q4 = some (.lst (o.2.map V.str ++ [V.non])), ?_, ?_⟩
      · have W6 := W.same s6
        refine ⟨_, rfl, _, rfl, q5, _, 0, _, rfl, rfl, SqL.of e5, rfl, Nat.zero_le _, fun q6 hq6 => ?_⟩
        have t6 := same_upd (o := .lst []) hq6
        refine ⟨x, .ref q2, wD o.1, .ref q6, .list [], ps, rfl, (W6.same t6).sg, okS, wD_dp (t6 _ _ e25), .lst (SqL.of upd_same) .nil, wD_hand ok.r (by omega), em, ?_⟩
        generalize (L2.upd H6 q6 (.lst [])) = H7 at t6 ⊢
        unfold MEnd
        rw [wD_row]
        intro H8 t8
        have t68 := Same.trans t6 t8
        have W8 := W6.same t68
        refine ⟨_, rfl, _, rfl, a1, _, rfl, .inl W8.row, fun q7 hq7 => ?_⟩
        have t7 := same_upd (o := .lst (o.1.map V.str)) hq7
        have e7 : (L2.upd H8 q7 (.lst (o.1.map V.str))) q7 = some (.lst (o.1.map V.str)) := upd_same
        generalize (L2.upd H8 q7 (.lst (o.1.map V.str))) = H9 at t7 e7 ⊢
        have t69 := Same.trans t68 t7
        refine ⟨_, rfl, q5, _, 1, _, rfl, rfl, SqL.of (t69 _ _ e5), rfl, ?_⟩
        refine ⟨x, .ref q7, nmL o.1, .ref q4, wD o.2, ps, rfl, (W6.same t69).sg, okS, nmL_dp e7, wD_dp (t69 _ _ e45), hand_nm ok.r (by omega), wD_hand ok.l (by omega), ?_⟩
        unfold MEnd
        rw [hof.row, wD_lots]
        intro HA tA
        refine ⟨(by show 2 ≤ sizeLine; decide), fun qA hqA => ⟨(by show 2 ≤ sizeLine; decide), fun qB hqB => ?_⟩⟩
        have tB := same_upd (o := .lst [V.str "names", .str "lots"]) hqA
        have tC := same_upd (o := .lst [V.str "names", .str "lots"]) hqB
        refine ⟨nmL ["names", "lots"], nmL ["names", "lots"], nmL_dp (tC _ _ upd_same), nmL_dp upd_same, by decide +kernel, by decide +kernel, _, rfl, ?_⟩
        rw [show PyData.eqv (nmL ["names", "lots"]) (nmL ["names", "lots"]) = true by decide +kernel]
        have tZ := Same.trans t69 (Same.trans tA (Same.trans tB tC))
        refine iteF ?_
        exact ⟨_, rfl, Same.trans s6 tZ, tZ _ _ e5, tZ _ _ e25, tZ _ _ e45⟩
      · rintro σ' H7 ⟨c6, rfl, s7, e5, e2, e4⟩
        have W7 := W.same s7
        refine ⟨fun σ' H' => ∃ c6 c7, σ' = [some (.ref p), some (.ref lp), some (.ref x), some (.ref lo), some (.ref m), some (.ref a1), c6, c7, none, none, none, none, none, none, none] ∧ Same H H', ?_, ?_⟩
        · refine ⟨_, rfl, _, rfl, (by show 1 ≤ sizeLine; decide), fun u1 hu1 => ?_⟩
          have t1 := same_upd (o := .lst [V.non]) hu1
          have f1 : (L2.upd H7 u1 (.lst [V.non])) u1 = some (.lst [V.non]) := upd_same
          generalize (L2.upd H7 u1 (.lst [V.non])) = H8 at t1 f1 ⊢
          have W8 := W7.same t1
          refine ⟨a1, u1, _, _, rfl, rfl, W8.row, SqL.of f1, Nat.le_trans (show (o.1.map V.str).length + ([V.non] : List V).length ≤ 1000 by rw [List.length_map, List.length_singleton]; omega) big, fun u2 hu2 => ?_⟩
          have t2 := same_upd (o := .lst (o.1.map V.str ++ [V.non])) hu2
          have f2 : (L2.upd H8 u2 (.lst (o.1.map V.str ++ [V.non]))) u2 = some (.lst (o.1.map V.str ++ [V.non])) := upd_same
          generalize (L2.upd H8 u2 (.lst (o.1.map V.str ++ [V.non]))) = H9 at t2 f2 ⊢
          have W9 := W8.same t2
          refine ⟨_, rfl, lo, _, 1, .ref a2, rfl, rfl, W9.lo', rfl, (by show 1 ≤ sizeLine; decide), fun u3 hu3 => ?_⟩
          have t3 := same_upd (o := .lst [V.non]) hu3
          have f3 : (L2.upd H9 u3 (.lst [V.non])) u3 = some (.lst [V.non]) := upd_same
          generalize (L2.upd H9 u3 (.lst [V.non])) = HA at t3 f3 ⊢
          have WA := W9.same t3
          refine ⟨a2, u3, _, _, rfl, rfl, WA.lot, SqL.of f3, Nat.le_trans (show (o.2.map V.str).length + ([V.non] : List V).length ≤ 1000 by rw [List.length_map, List.length_singleton]; omega) big, fun u4 hu4 => ?_⟩
          have t4 := same_upd (o := .lst (o.2.map V.str ++ [V.non])) hu4
          have f4 : (L2.upd HA u4 (.lst (o.2.map V.str ++ [V.non]))) u4 = some (.lst (o.2.map V.str ++ [V.non])) := upd_same
          have f24 := t4 _ _ (t3 _ _ f2)
          generalize (L2.upd HA u4 (.lst (o.2.map V.str ++ [V.non]))) = HB at t4 f4 f24 ⊢
          refine ⟨(by show 2 ≤ sizeLine; decide), fun u5 hu5 => ?_⟩
          have t5 := same_upd (o := .lst [V.ref u2, .ref u4]) hu5
          have tB := Same.trans t1 (Same.trans t2 (Same.trans t3 (Same.trans t4 t5)))
          refine ⟨.list [wD o.1, wD o.2], .list [wD o.1, wD o.2], .lst (SqL.of (tB _ _ e5)) (.cons (wD_dp (tB _ _ e2)) (.cons (wD_dp (tB _ _ e4)) .nil)), .lst (SqL.of upd_same) (.cons (wD_dp (t5 _ _ f24)) (.cons (wD_dp (t5 _ _ f4)) .nil)), ?_, ?_, _, rfl, ?_⟩
          · exact sh_two ⟨(wD_hand ok.r (by omega)).sh, Nat.le_trans wD_dep (by decide)⟩ ⟨(wD_hand ok.l (by omega)).sh, Nat.le_trans wD_dep (by decide)⟩
          · exact sh_two ⟨(wD_hand ok.r (by omega)).sh, Nat.le_trans wD_dep (by decide)⟩ ⟨(wD_hand ok.l (by omega)).sh, Nat.le_trans wD_dep (by decide)⟩
          · have ee : PyData.eqv (.list [wD o.1, wD o.2]) (.list [wD o.1, wD o.2]) = true := by
              show (PyData.eqvAll _ _ && (PyData.eqvAll _ _ && true)) = true
              rw [wD_eqv, wD_eqv]
              rfl
            rw [ee]
            refine iteF ?_
            exact ⟨_, _, rfl, Same.trans s7 tB⟩
        · rintro σ' H8 ⟨c6, c7, rfl, s8⟩
          have W8 := W.same s8
          refine ⟨_, rfl, lp, rfl, ⟨_, Same.seq del_sub W8.dl⟩, fun D hD => ?_⟩
          have d8 := dpAll_same del_sub _ _ W8.d
          have xl : xs.length = ps.length := (dpAll_len d8).trans (List.length_map ..)
          refine lc_data (K := K) (walk_list (xs := xs)) hD (fun i => (ps[i]?).bind fun q => if decide (q.2 < 2) = true then some (.str q.1) else none) (by omega) (fun H5 s5 => Same.seq s5 (Same.seq del_sub W8.dl)) (fun j y H5 H6 hj s5 eD hy R Nx hR hNx => ?_) (fun H9 uf s9 ef df => ?_)
          · obtain ⟨rfl, ey⟩ := hy
            obtain ⟨z, n, t, ep, rfl, ht⟩ := pr_at d8 ey
            refine ⟨t, _, rfl, seqT_same s5 ht, rfl, ?_⟩
            refine ⟨_, _, rfl, _, _, rfl, rfl, ?_⟩
            refine ⟨rfl, ?_⟩
            refine ⟨_, rfl, _, _, rfl, rfl, _, rfl, ?_⟩
            refine ite2 (fun c => ?_) (fun c => ?_)
            · exact ⟨_, rfl, hR _ _ (.str z) (Same.refl _) (by rw [ep]; exact if_pos c) (.str z)⟩
            · exact hNx _ (Same.refl _) (by rw [ep]; exact if_neg c)
          · rw [xl, fm_at, free_fm] at df
            have df' := dpAll_same (del_sub (H := H9) (p := D)) _ _ df
            obtain rfl := nm_vs df'
            have W9 := W8.same s9
            obtain ⟨fa, fb, ff⟩ := W9.f
            have fl := free_len ps
            refine ⟨_, rfl, _, rfl, lo, _, 1, .ref a2, rfl, rfl, W9.lo', rfl, ?_⟩
            refine ⟨p, .ref a2, o.2, fa, fb, rfl, ff, .lst W9.l (dp_strs _), by omega, ok.l, fun D1 us es ga gb HA sxA fA hD1 D1p eD1 dD1 hodd hlen => ?_⟩
            have WA := W9.step sxA fA
            have DpD : D ≠ p := fun z => by
              have := W8.f.choose_spec.choose_spec
              rw [z, this] at hD
              cases hD
            have efA := sxA _ _ ef DpD
            have dA : DpAll K HA us es := dpAll_same (Same.trans del_sub del_sub) _ _ dD1
            have lus := dpAll_len dA
            refine ⟨_, rfl, D, rfl, ⟨_, SqL.of efA⟩, fun D2 hD2 => ?_⟩
            refine lc_data (K := K) (walk_list (xs := (freeL ps).map V.str)) hD2 (fun i => ((freeL ps)[i]?).bind fun z => some (nmL (o.2 ++ [z]))) (by rw [List.length_map]; omega) (fun H5 s5 => SqL.of (s5 _ _ efA)) (fun j y H5 H6 hj s5 eD hy R Nx hR hNx => ?_) (fun HB u2 sB eB dB => ?_)
            · obtain ⟨rfl, ey⟩ := hy
              obtain ⟨z, ez, rfl⟩ := strs_at ey
              obtain ⟨uD, eD⟩ := eD
              have W5 := WA.same s5
              refine ⟨rfl, lcYes ?_⟩
              refine ⟨_, rfl, lo, _, 1, .ref a2, rfl, rfl, W5.lo', rfl, _, rfl, (by show 1 ≤ sizeLine; decide), fun v1 hv1 => ?_⟩
              have t1 := same_upd (o := .lst [V.str z]) hv1
              refine ⟨a2, v1, _, _, rfl, rfl, Same.seq t1 W5.lot, SqL.of upd_same, Nat.le_trans (show (o.2.map V.str).length + ([V.str z] : List V).length ≤ 1000 by rw [List.length_map, List.length_singleton]; omega) big, fun v2 hv2 => ?_⟩
              have t2 := same_upd (o := .lst (o.2.map V.str ++ [V.str z])) hv2
              have pD : v2 ≠ D2 := fun z => by rw [z, t1 _ _ eD] at hv2; cases hv2
              exact hR _ _ (nmL (o.2 ++ [z])) (Same.trans t1 t2) (by rw [ez]; rfl) (.lst (SqL.of (xs := (o.2 ++ [z]).map V.str) (by rw [del_ne pD, upd_same, List.map_append]; rfl)) (dp_strs (o.2 ++ [z])))
            · rw [List.length_map, fm_at, fm_some] at dB
              have lB := dpAll_len dB
              rw [List.length_map] at lB
              refine ⟨D1, D2, us, u2, rfl, rfl, SqL.of (sB _ _ eD1), SqL.of eB, Nat.le_trans (show us.length + u2.length ≤ 1000 by omega) big, fun D3 hD3 => ?_⟩
              have tC := same_upd (o := .lst (us ++ u2)) hD3
              have eC : (L2.upd HB D3 (.lst (us ++ u2))) D3 = some (.lst (us ++ u2)) := upd_same
              have dC : DpAll K (L2.upd HB D3 (.lst (us ++ u2))) (us ++ u2) (es ++ (freeL ps).map fun z => nmL (o.2 ++ [z])) := dpAll_app (dpAll_same (Same.trans sB tC) _ _ dA) (dpAll_same (Same.trans del_sub tC) _ _ dB)
              have sAC := Same.trans sB tC
              generalize (L2.upd HB D3 (.lst (us ++ u2))) = HC at eC dC sAC ⊢
              have WC := WA.same sAC
              refine ⟨_, rfl, D, rfl, ⟨_, SqL.of (sAC _ _ efA)⟩, fun D4 hD4 => ?_⟩
              refine lc_data (K := K) (walk_list (xs := (freeL ps).map V.str)) hD4 (fun i => ((freeL ps)[i]?).bind fun z => some (nmL (z :: o.2))) (by rw [List.length_map]; omega) (fun H5 s5 => SqL.of (s5 _ _ (sAC _ _ efA))) (fun j y H5 H6 hj s5 eD hy R Nx hR hNx => ?_) (fun HD u4 sD eD dD => ?_)
              · obtain ⟨rfl, ey⟩ := hy
                obtain ⟨z, ez, rfl⟩ := strs_at ey
                obtain ⟨uD, eD⟩ := eD
                have W5 := WC.same s5
                refine ⟨rfl, lcYes ?_⟩
                refine ⟨_, rfl, (by show 1 ≤ sizeLine; decide), fun v1 hv1 => ?_⟩
                have t1 := same_upd (o := .lst [V.str z]) hv1
                have W51 := W5.same t1
                refine ⟨_, rfl, lo, _, 1, .ref a2, rfl, rfl, W51.lo', rfl, ?_⟩
                refine ⟨v1, a2, _, _, rfl, rfl, SqL.of upd_same, W51.lot, Nat.le_trans (show ([V.str z] : List V).length + (o.2.map V.str).length ≤ 1000 by rw [List.length_map, List.length_singleton]; omega) big, fun v2 hv2 => ?_⟩
                have t2 := same_upd (o := .lst ([V.str z] ++ o.2.map V.str)) hv2
                have pD : v2 ≠ D4 := fun z => by rw [z, t1 _ _ eD] at hv2; cases hv2
                exact hR _ _ (nmL (z :: o.2)) (Same.trans t1 t2) (by rw [ez]; rfl) (.lst (SqL.of (xs := (z :: o.2).map V.str) (by rw [del_ne pD, upd_same]; rfl)) (dp_strs (z :: o.2)))
              · rw [List.length_map, fm_at, fm_some] at dD
                have lD := dpAll_len dD
                rw [List.length_map] at lD
                have luu : (us ++ u2).length = us.length + u2.length := List.length_append
                refine ⟨D3, D4, us ++ u2, u4, rfl, rfl, SqL.of (sD _ _ eC), SqL.of eD, Nat.le_trans (show (us ++ u2).length + u4.length ≤ 1000 by omega) big, fun D5 hD5 => ?_⟩
                have tE := same_upd (o := .lst (us ++ u2 ++ u4)) hD5
                have eE : (L2.upd HD D5 (.lst (us ++ u2 ++ u4))) D5 = some (.lst (us ++ u2 ++ u4)) := upd_same
                have dE : DpAll K (L2.upd HD D5 (.lst (us ++ u2 ++ u4))) (us ++ u2 ++ u4) (es ++ ((freeL ps).map fun z => nmL (o.2 ++ [z])) ++ (freeL ps).map fun z => nmL (z :: o.2)) := dpAll_app (dpAll_same (Same.trans sD tE) _ _ dC) (dpAll_same (Same.trans del_sub tE) _ _ dD)
                have sCE := Same.trans sD tE
                generalize (L2.upd HD D5 (.lst (us ++ u2 ++ u4))) = HE at eE dE sCE ⊢
                have WE := WC.same sCE
                have sxE : SameX p H HE := (Same.x (Same.trans s8 s9)).trans (sxA.trans (Same.x (Same.trans sAC sCE)))
                have badAll : ∀ e ∈ es ++ ((freeL ps).map fun z => nmL (o.2 ++ [z])) ++ (freeL ps).map fun z => nmL (z :: o.2), Hand e ∧ lotsOf ps e = none := fun e he => by
                  have fin : ∀ l : List Str, ∀ z ∈ freeL ps, z ∈ l → (∀ y ∈ l, y ∈ nmsOf ps) → l.length ≤ 1000 → Hand (nmL l) ∧ lotsOf ps (nmL l) = none := fun l z hz hzl hl hln => ⟨hand_nm (fun y hy => by
                      obtain ⟨q, hq', rfl⟩ := List.mem_map.mp (hl y hy)
                      exact okS.ok q hq') hln, lot_bad (free_no okS.nd hz) hzl⟩
                  rcases List.mem_append.mp he with he | he
                  · rcases List.mem_append.mp he with he | he
                    · exact ⟨(hodd e he).1, odd_cho (hodd e he) (wayq hq) (wayq hem)⟩
                    · obtain ⟨z, hz, rfl⟩ := List.mem_map.mp he
                      refine fin _ z hz (List.mem_append_right _ List.mem_cons_self) (fun y hy => ?_) (by rw [List.length_append, List.length_singleton]; omega)
                      rcases List.mem_append.mp hy with hy | hy
                      · exact ways_nms (hof.lm y hy)
                      · rw [List.mem_singleton.mp hy]; exact free_nm hz
                  · obtain ⟨z, hz, rfl⟩ := List.mem_map.mp he
                    refine fin _ z hz List.mem_cons_self (fun y hy => ?_) (by rw [List.length_cons]; omega)
                    rcases List.mem_cons.mp hy with rfl | hy
                    · exact free_nm hz
                    · exact ways_nms (hof.lm y hy)
                refine ⟨fun σ' H' => ∃ c6 c7 c8 c9, σ' = [some (.ref p), some (.ref lp), some (.ref x), some (.ref lo), some (.ref m), some (.ref a1), c6, c7, c8, c9, none, none, none, none, none] ∧ SameX p H H' ∧ Wo K C CO p lp x lo a1 a2 m xs ps o H', ?_, ?_⟩
                · refine ⟨_, rfl, D5, rfl, ⟨_, SqL.of eE⟩, fun D6 hD6 => ?_⟩
                  have lE := dpAll_len dE
                  have lEn : (us ++ u2 ++ u4).length ≤ 1000 := by rw [List.length_append]; omega
                  refine lc_data (K := K) (walk_list (xs := us ++ u2 ++ u4)) hD6 (fun _ => none) (by omega) (fun H5 s5 => SqL.of (s5 _ _ eE)) (fun j y H5 H6 hj s5 eD hy R Nx hR hNx => ?_) (fun HG u6 sG eG dG => ?_)
                  · obtain ⟨rfl, ey⟩ := hy
                    obtain ⟨e, he, hye⟩ := dpAll_get' dE ey
                    obtain ⟨hh, hlo⟩ := badAll e (List.mem_of_getElem? he)
                    have W5 := WE.same s5
                    refine ⟨rfl, ?_⟩
                    refine ⟨_, rfl, _, rfl, a1, _, rfl, .inl W5.row, fun v1 hv1 => ?_⟩
                    have t1 := same_upd (o := .lst (o.1.map V.str)) hv1
                    refine ⟨_, rfl, x, .ref v1, nmL o.1, y, e, ps, rfl, (W5.same t1).sg, okS, nmL_dp upd_same, dp_same (Same.trans s5 t1) _ _ hye, hand_nm ok.r (by omega), hh, ?_⟩
                    unfold MEnd
                    rw [hof.row, hlo]
                    intro H8 s8'
                    exact ⟨rfl, _, rfl, iteNS rfl (hNx _ (Same.trans t1 s8') rfl)⟩
                  · rw [fm_none] at dG
                    have : u6 = [] := by cases dG; rfl
                    subst this
                    refine ⟨Nat.zero_le _, fun v2 hv2 => ?_⟩
                    have t2 := same_upd (o := .lst []) hv2
                    refine ⟨.list [], .list [], .lst (SqL.of (t2 _ _ eG)) .nil, .lst (SqL.of upd_same) .nil, by decide, by decide, _, rfl, iteF ?_⟩
                    have tt := Same.trans sG t2
                    exact ⟨_, _, _, _, rfl, sxE.trans (Same.x tt), WE.same tt⟩
                · rintro σ' HF ⟨c6, c7, c8, c9, rfl, sxF, WF⟩
                  refine ⟨fun σ' H' => ∃ c6 c7 c8 c9 c10, σ' = [some (.ref p), some (.ref lp), some (.ref x), some (.ref lo), some (.ref m), some (.ref a1), c6, c7, c8, c9, c10, none, none, none, none] ∧ SameX p H H' ∧ Wo K C CO p lp x lo a1 a2 m xs ps o H', ?_, ?_⟩
                  · refine ⟨_, rfl, lp, xs, ps, rfl, Same.seq del_sub WF.dl, dpAll_same del_sub _ _ WF.d, hg, fun pn un HG sG hpn en dn => ?_⟩
                    refine ⟨pn, rfl, ⟨_, SqL.of en⟩, ?_⟩
                    refine for_it (walk_list (xs := un)) (fun i σ H' => ∃ c10, σ = [some (.ref p), some (.ref lp), some (.ref x), some (.ref lo), some (.ref m), some (.ref a1), c6, c7, c8, c9, c10, none, none, none, none] ∧ Same HG H')
                      ⟨_, rfl, Same.refl HG⟩ (fun i σ H' hi hp => by obtain ⟨_, _, sm⟩ := hp; exact SqL.of (sm _ _ en)) (fun i y σ Hq H' hi hp hy => ?_) (fun σ H' hp => ?_)
                    · obtain ⟨c10, rfl, sm⟩ := hp
                      obtain ⟨rfl, ey⟩ := hy
                      obtain ⟨d, hd1, hd2⟩ := dpAll_get' dn ey
                      obtain ⟨qs, hqs, rfl⟩ := List.mem_map.mp (List.mem_of_getElem? hd1)
                      obtain ⟨fq, nq⟩ := nears_fine hg.fine qs hqs
                      have sGm := Same.trans sG sm
                      have WG := WF.same sGm
                      have hdq := dp_same sm _ _ hd2
                      refine ⟨_, rfl, y, qs, rfl, hdq, fq.2.1, fun HI w1 p1 s1 hp1 pw1 sw1 e1 => ?_⟩
                      have WI := WG.same s1
                      refine ⟨_, rfl, .ref lp, ps, rfl, WI.dp, by omega, fun HJ w2 p2 s2 hp2 pw2 sw2 e2 => ?_⟩
                      have WJ := WI.same s2
                      have s12 := Same.trans s1 s2
                      have okq := fine_ok fq
                      have wk1 : ∀ z ∈ w1, PyData.strOk z = true := fun z hz => by
                        obtain ⟨q', hq', rfl⟩ := List.mem_map.mp (ways_nms (pw1.mem_iff.mp hz))
                        exact okq q' hq'
                      have wk2 : ∀ z ∈ w2, PyData.strOk z = true := fun z hz => by
                        obtain ⟨q', hq', rfl⟩ := List.mem_map.mp (ways_nms (pw2.mem_iff.mp hz))
                        exact okS.ok q' hq'
                      refine ⟨nmL w1, nmL w2, nmL_dp (s2 _ _ e1), nmL_dp e2, nmL_shaped wk1, nmL_shaped wk2, _, rfl, ?_⟩
                      rw [show PyData.eqv (nmL w1) (nmL w2) = decide (w1 = w2) from nm_eqv w1 w2]
                      refine ite2 (fun cw => ?_) (fun _ => ⟨_, rfl, Same.trans sm s12⟩)
                      have cw := of_decide_eq_true cw
                      have hofq : OrF qs o := hof.near (near_nms qs hqs) fun z hz => pw1.mem_iff.mp (by rw [cw]; exact pw2.mem_iff.mpr hz)
                      have okq2 := hofq.ok fq.sg
                      have hdJ := dp_same s12 _ _ hdq
                      cases hdJ with
                      | lst g1 g2 =>
                        rename_i ay yq
                        have g2 : DpAll K HJ yq (prD qs) := g2
                        refine ⟨_, rfl, _, rfl, ay, yq, rfl, .inl g1, fun p3 hp3 => ?_⟩
                        have s3 := same_upd (o := .lst yq) hp3
                        have e3 : (L2.upd HJ p3 (.lst yq)) p3 = some (.lst yq) := upd_same
                        generalize (L2.upd HJ p3 (.lst yq)) = HK at s3 e3 ⊢
                        intro x2 dx2 hx2 hdx2 hne2
                        refine ⟨x2, .ref p3, psD qs, dx2, rfl, upd_same, .lst (SqL.of (xs := yq) ?_) (dpAll_same (fun b o e => ?_) _ _ g2), shorts_fine (fun q hq => (fq.2.2.2 q hq).1), ?_⟩
                        · rw [upd_ne (ne_of_none e3 hx2), upd_ne (ne_of_none e3 hdx2)]
                          exact e3
                        · have e := s3 _ _ e
                          rw [upd_ne (ne_of_none e hx2), upd_ne (ne_of_none e hdx2)]
                          exact e
                        · rw [made_fine fq]
                          intro HL sL hS2
                          refine ⟨rfl, ?_⟩
                          have sKL := same_ins hx2 hdx2 sL
                          have s3L := Same.trans s3 sKL
                          have WL := WJ.same s3L
                          refine ⟨_, rfl, a1, _, rfl, .inl WL.row, fun p4 hp4 => ?_⟩
                          have s4 := same_upd (o := .lst (o.1.map V.str)) hp4
                          have e4 : (L2.upd HL p4 (.lst (o.1.map V.str))) p4 = some (.lst (o.1.map V.str)) := upd_same
                          generalize (L2.upd HL p4 (.lst (o.1.map V.str))) = HM at s4 e4 ⊢
                          have WM := WL.same s4
                          refine ⟨_, rfl, lo, _, 1, .ref a2, rfl, rfl, WM.lo', rfl, a2, _, rfl, .inl WM.lot, fun p5 hp5 => ?_⟩
                          have s5 := same_upd (o := .lst (o.2.map V.str)) hp5
                          have e5 : (L2.upd HM p5 (.lst (o.2.map V.str))) p5 = some (.lst (o.2.map V.str)) := upd_same
                          generalize (L2.upd HM p5 (.lst (o.2.map V.str))) = HN at s5 e5 ⊢
                          have s45 := Same.trans s4 s5
                          intro ob dx3 hob hdx3 hne3
                          have keep : Same HN (L2.upd (L2.upd HN dx3 (.own ob)) ob (.ins CO dx3 [])) := fun b o e => by
                            rw [upd_ne (ne_of_none e hob), upd_ne (ne_of_none e hdx3)]
                            exact e
                          refine ⟨ob, x2, .ref p4, nmL o.1, .ref p5, nmL o.2, dx3, qs, rfl, upd_same, (hS2.same s45).same keep, fq.sg, nmL_dp (keep _ _ (s5 _ _ e4)), nmL_dp (keep _ _ e5), hand_nm ok.r (by omega), hand_nm ok.l (by omega), ?_⟩
                          unfold OEnd
                          rw [hofq.row, hofq.lots]
                          intro HO ls sO hpl hsl hO
                          have hO := hO.same nl_sub
                          have el := Srt.uniq ls o.2 hpl hsl hof.ls
                          subst el
                          have sNO := same_ins hob hdx3 sO
                          have WO := WM.same (Same.trans s5 sNO)
                          refine ⟨rfl, ?_⟩
                          obtain ⟨m1, m2, m3, m4, m5, m6, m7, m8⟩ := id WO.or
                          obtain ⟨n1, n2, n3, n4, n5, n6, n7, n8⟩ := id hO
                          refine ⟨m, m1, _, .ref CO, rfl, m7, .inr ⟨ob, CO, n1, _, rfl, n7, rfl⟩, OM.nO, m, .ref ob, x, ps, o.1, o.2, rfl, WO.or, ok, .inr (.inr ⟨ob, x2, qs, o.1, o.2, rfl, hO, okq2, fun HP sP => ⟨_, rfl, _, rfl, ?_⟩⟩)⟩
                          rw [decide_eq_false nq, Bool.false_and]
                          refine iteF ?_
                          exact ⟨_, rfl, Same.trans sm (Same.trans s12 (Same.trans s3L (Same.trans s45 (Same.trans sNO sP))))⟩
                    · obtain ⟨c10, rfl, sm⟩ := hp
                      exact ⟨_, _, _, _, _, rfl, sxF.trans (Same.x (Same.trans sG sm)), WF.same (Same.trans sG sm)⟩
                  · rintro σ' HG ⟨c6, c7, c8, c9, c10, rfl, sxG, WG⟩
                    refine ⟨_, rfl, _, rfl, .ref lp, ps, rfl, WG.dp, okS, fun pd ud os HH sH hpd ed hos h0 h1 dd => ?_⟩
                    obtain ⟨va, vb, vf⟩ := WG.f
                    have fH := sH _ _ vf
                    have ludd : ud.length = os.length := (dpAll_len dd).trans (List.length_map ..)
                    have pdp : pd ≠ p := fun z => by rw [z, vf] at hpd; cases hpd
                    refine ⟨p, va, vb, fH, .inl ⟨pd, ud, rfl, SqL.of ed, pdp, by omega, by omega, fun v wa wb hv => ?_⟩⟩
                    obtain ⟨d, hd, hvd⟩ := dpAll_mem dd hv
                    obtain ⟨o2, ho2, rfl⟩ := List.mem_map.mp hd
                    have hof2 := (hos o2 ho2).f okS.nd
                    have ok2 := hof2.ok okS
                    have sxI : SameX p HG (L2.upd HH p (feedO wa wb)) := (Same.x sH).upd
                    have hvI : Dp K (L2.del (L2.upd HH p (feedO wa wb)) p) v (ordD o2) := by rw [del_upd]; exact ord_del hvd fH
                    have fI : (L2.upd HH p (feedO wa wb)) p = some (feedO wa wb) := upd_same
                    generalize (L2.upd HH p (feedO wa wb)) = HI at sxI hvI fI ⊢
                    have WI := WG.step sxI fI
                    have hvI' := dp_same del_sub _ _ hvI
                    refine ⟨_, rfl, _, rfl, _, rfl, .ref lp, ps, v, o2, rfl, WI.dp, hg.fine, hvI', hof2, fun ob x2 HJ sJ hob hO => ?_⟩
                    have WJ := WI.same sJ
                    obtain ⟨m1, m2, m3, m4, m5, m6, m7, m8⟩ := id WJ.or
                    obtain ⟨n1, n2, n3, n4, n5, n6, n7, n8⟩ := id hO
                    refine ⟨m, m1, _, .ref CO, rfl, m7, .inr ⟨ob, CO, n1, _, rfl, n7, rfl⟩, OM.nO, m, .ref ob, x, ps, o.1, o.2, rfl, WJ.or, ok, .inr (.inr ⟨ob, x2, ps, o2.1, o2.2, rfl, hO, ok2, fun HP sP => ⟨_, rfl, ?_⟩⟩)⟩
                    have WP := WJ.same sP
                    have hvP := dp_same (Same.trans sJ sP) _ _ hvI'
                    refine ⟨_, rfl, _, rfl, ordD o, ordD o2, WP.od, hvP, ord_sh ok, ord_sh ok2, ?_⟩
                    rw [ord_eqv, decide_eq_true (show ps = ps from rfl), Bool.true_and]
                    refine ⟨rfl, _, rfl, ?_⟩
                    rw [decide_eq_true rfl]
                    refine iteT ?_
                    obtain ⟨k1, k2, k3, k4, k5, k6, k7, k8⟩ := id WP.or
                    refine ⟨_, rfl, _, rfl, m, k1, _, .type "list", rfl, k7, .inl (ty_dp WP.od), OM.nL, m, .ref lo, x, ps, o.1, o.2, rfl, WP.or, ok, .inr (.inl ⟨_, WP.od, _, rfl, ?_⟩)⟩
                    refine ⟨_, rfl, ?_⟩
                    refine iteT ?_
                    refine ⟨_, rfl, m, k1, _, .type "NoneType", rfl, k7, .inl (.base .non), OM.nN, m, .non, x, ps, o.1, o.2, rfl, WP.or, ok, .inl ⟨rfl, _, rfl, ?_⟩⟩
                    exact q _ _ HP (sxG.trans (sxI.trans (Same.x (Same.trans sJ sP)))) (sP _ _ (sJ _ _ fI))
end
end Sg

set_option maxRecDepth 100000
set_option maxHeartbeats 4000000
/-! list != list, of the same texts -/
namespace NS
open PySem PySem.Spec PyProof.Rows L2
theorem vals_at : ∀ {zs : List Str} {us : List Value}, Vals (zs.map V.str) us → ∀ (j : Nat) (h : j < us.length), ∃ z, zs[j]? = some z ∧ RelV (.str z) us[j]
  | [], us, r, j, h => by cases r; cases h
  | z :: zs, us, r, j, h => by
    cases r with
    | cons a b =>
      cases j with
      | zero => exact ⟨z, rfl, a⟩
      | succ j => exact vals_at b j (by simpa using h)
def rNeSame (K : PySem.W.Frag) : R2 := fun x y H Q => ∃ (l b : Addr) (zs : List Str), x = .ref l ∧ y = .ref b ∧ SqL K H l (zs.map V.str) ∧ SqL K H b (zs.map V.str) ∧ Q (.bl false) H
theorem op_neSame {X : Cx} (hu : X.A.units + 64 < cLine) : OpR X (compareOp .NotEq) (rNeSame X.K) := by
  intro pins s σ H x y v u Q I rx ry h
  obtain ⟨l, b, zs, rfl, rfl, hH, hB, q⟩ := h
  cases rx
  cases ry
  obtain ⟨its, r, ⟨o1, n, e, h1, h2, h3⟩, hl⟩ := I.list hH
  obtain ⟨its2, r2, ⟨o2, n2, e2, g1, g2, g3⟩, hl2⟩ := I.list hB
  have hs : its.toArray.size = its2.toArray.size := by rw [List.size_toArray, List.size_toArray, ← r.length, ← r2.length]
  have k := SeqAt.RcNeAt.lists (A := X.A) (s := s) (l := l) (b := b) (items := its.toArray) (items2 := its2.toArray) (e := fun _ => true) ⟨o1, e, h1, n, h3⟩ ⟨o2, e2, g1, n2, g3⟩ hs (by omega) fun j a1 a2 => by
    obtain ⟨z, ez, rz⟩ := vals_at r j (by simpa using a1)
    obtain ⟨z2, ez2, rz2⟩ := vals_at r2 j (by simpa using a2)
    rw [ez] at ez2
    obtain rfl := Option.some.inj ez2
    have := eqAt_V (A := X.A.in1) (s := s) rz rz2 rfl rfl
    have t : eqV (V.str z) (V.str z) = true := by
      show (z == z) = true
      exact beq_self_eq_true z
    rw [t] at this
    simpa using this
  have kk : (!(List.range its.toArray.size).all fun _ => true) = false := by simp
  rw [kk] at k
  exact k X.prog X.w _ _ ⟨.bl false, H, I, rfl, q⟩
end NS

set_option maxRecDepth 100000
set_option maxHeartbeats 8000000
namespace Sg
open PySem PySem.Spec PyProof.Rows L2 Dr Gd Er Cm Ow XT TM Tw SD CO CQ NS
abbrev sLaw9 : Stmt := top 66
structure LTxt9 (mg : Str → Option Value) : Prop where
  rng : mg "range" = none
  max : mg "max" = none
  min : mg "min" = none
  len : mg "len" = none
  lst : mg "list" = none
  rep : mg "repr" = none
  isi : mg "isinstance" = none
  tup : mg "tuple" = none
/-- what stands before an order is made -/
structure Wb (K : PySem.W.Frag) (C p lp x lo a1 a2 : Addr) (xs : List V) (ps : List (Str × Int)) (o : Ord) (H : Hp) : Prop where
  f : ∃ a b, H p = some (feedO a b)
  dl : SqL K (L2.del H p) lp xs
  d : DpAll K (L2.del H p) xs (prD ps)
  s : SgAt C (L2.del H p) x ps
  ol : SqL K (L2.del H p) lo [.ref a1, .ref a2]
  r : SqL K (L2.del H p) a1 (o.1.map V.str)
  l : SqL K (L2.del H p) a2 (o.2.map V.str)
section
variable {K : PySem.W.Frag} {C CO p lp x lo a1 a2 m : Addr} {xs : List V} {ps : List (Str × Int)} {o : Ord} {H H' : Hp}
theorem Wb.same (W : Wb K C p lp x lo a1 a2 xs ps o H) (s : Same H H') : Wb K C p lp x lo a1 a2 xs ps o H' := by
  obtain ⟨a, b, f⟩ := W.f
  have sd := SameX.del (p := p) (Same.x s)
  exact ⟨⟨a, b, s _ _ f⟩, Same.seq sd W.dl, dpAll_same sd _ _ W.d, W.s.same sd, Same.seq sd W.ol, Same.seq sd W.r, Same.seq sd W.l⟩
theorem Wb.lo' (W : Wb K C p lp x lo a1 a2 xs ps o H) : SqL K H lo [.ref a1, .ref a2] := Same.seq del_sub W.ol
theorem Wb.row (W : Wb K C p lp x lo a1 a2 xs ps o H) : SqL K H a1 (o.1.map V.str) := Same.seq del_sub W.r
theorem Wb.lot (W : Wb K C p lp x lo a1 a2 xs ps o H) : SqL K H a2 (o.2.map V.str) := Same.seq del_sub W.l
theorem Wb.sg (W : Wb K C p lp x lo a1 a2 xs ps o H) : SgAt C H x ps := W.s.same del_sub
theorem Wb.wo (W : Wb K C p lp x lo a1 a2 xs ps o H) (h : OrAt K C CO (L2.del H p) m x ps o.1 o.2) : Wo K C CO p lp x lo a1 a2 m xs ps o H := ⟨W.f, W.dl, W.d, W.s, W.ol, W.r, W.l, h⟩
theorem ord_parts {v : V} (h : Dp K H v (ordD o)) : ∃ lo a1 a2, v = .ref lo ∧ SqL K H lo [.ref a1, .ref a2] ∧ SqL K H a1 (o.1.map V.str) ∧ SqL K H a2 (o.2.map V.str) := by
  cases h with
  | lst k1 k2 =>
    cases k2 with
    | cons v1 k2 =>
      cases k2 with
      | cons v2 k2 =>
        cases k2
        cases v1 with
        | lst m1 m2 =>
          obtain rfl := nm_vs m2
          cases v2 with
          | lst n1 n2 =>
            obtain rfl := nm_vs n2
            exact ⟨_, _, _, rfl, k1, m1, n1⟩
end
theorem OrF.rev {ps : List (Str × Int)} {o : Ord} (h : OrF ps o) : lotsOf ps (nmL o.2.reverse) = some o.2.reverse := by
  show chL (waysOf ps) [] (o.2.reverse.map .str) = _
  rw [chL_all (fun z hz => h.lm z (List.mem_reverse.mp hz)) ((List.reverse_perm _).nodup_iff.mpr h.ln) (by intro z _ hz; cases hz), List.nil_append]
theorem row_tail {ps : List (Str × Int)} {o : Ord} (h : OrF ps o) (h1 : 1 ≤ ps.length) : rowOf ps (nmL (o.1.drop 1)) = none := by
  unfold rowOf
  cases hc : chO (nmsOf ps) (nmL (o.1.drop 1)) with
  | none => rfl
  | some r =>
    obtain ⟨a, b, zs, e, e2⟩ := chL_mem (show chL (nmsOf ps) [] ((o.1.drop 1).map .str) = some r from hc) List.nodup_nil (by intro z hz; cases hz)
    have hl := congrArg List.length e
    rw [List.length_map, List.length_map, List.length_drop] at hl
    rw [List.nil_append] at e2
    subst e2
    show (if r.length = ps.length then _ else _) = _
    rw [if_neg]
    have := h.rl
    omega
def spLaw9 (K : PySem.W.Frag) : Sp := fun vs H Q _ => ∃ (a : Addr) (ns : List Int), vs = [.ref a] ∧ SqL K H a (ns.map V.int) ∧ ns.length < 1000 ∧ ∀ H', Q (.bl true) H'
theorem bad_term {ps : List (Str × Int)} (h : ∀ p ∈ ps, wordIn Lc p.1 = true) {d : PyData} (ht : isTerm ps d = true) : isTerm ps (.tuple [d]) = false := by
  cases d with
  | str z => exact isT_odd (arOf_no (up_no h (by rw [isTerm] at ht; exact ht)))
  | _ => exact isT_odd rfl
theorem fit_bad {d : PyData} {W D : Nat} (h : Fit W D d) (hw : W ≤ 4000) (hd : D ≤ 50) : TOk d ∧ Shw d :=
  ⟨⟨h.ok, Nat.le_trans (tsz_wt d) (by have := h.wt; omega)⟩, ⟨h.sh, h.nd, fit_shown h (by omega), by have := h.dep; omega⟩⟩
theorem Shw.q {d : PyData} (h : Shw d) {K : PySem.W.Frag} {H : Hp} {v : V} (hv : Dp K H v d) {Q : VK} (q : Q (.str d.shown) H) : rRepr K [v] H Q := ⟨v, d, rfl, hv, h.sh, h.nd, h.sz, h.dp, q⟩
section
variable {P : Program} {w : World} {K : PySem.W.Frag} {mg : Str → Option Value} {base : Heap} {cN cC cB cA cL cT C CO fi fo fF fD fT fP fM fO fR fG fH fB fE : Addr} {di do' dF dD dT dP dM dO dR dG dH dB dE : FuncData} {np ng lp' lg tp tg fe : Addr} {dn dl dt de : FuncData} {fl pn gn pw gw fe2 fh : Addr} {dl2 dn2 dw2 de2 dh2 : FuncData}
theorem scLw9 : FnScope ["script", "k", "feed", "pairs", "signs", "order", "handed", "made", "bad", "right", "nth"] ["script"] (defScope sLaw9) := ⟨rfl, rfl, rfl, by decide +kernel, rfl, by decide +kernel, by decide +kernel⟩
theorem ok_law9 {f : Addr} {fd : FuncData} (F : Fun K "law" "law" sLaw9 f fd) (T : LTxt9 mg) (MK : MkS P w K mg base cN cC cB C fi di) (OM : OrM P w K mg base C CO np ng lp' lg tp tg fe dn dl dt de) (M : SgM P w K mg base C fl pn gn pw gw fe2 fh dl2 dn2 dw2 de2 dh2) (gO : mg "Order" = some (.ref CO))
    (GF : Cal P w K mg base CX0 1 "_law_feed" fF dF ["script", "k"] (spFeed K)) (GD : Cal P w K mg base CX0 3 "_law_drawn_signs" fD dD ["feed"] (spDrawn K)) (GP : Cal P w K mg base CX0 2 "_law_pick" fP dP ["feed", "some"] (spPick K))
    (GM : Cal P w K mg base CX0 5 "_law_made" fM dM ["signs", "names", "lots"] (spMadeO K C CO)) (GO : Cal P w K mg base CX0 2 "_law_odd_lists" fO dO ["feed", "some"] (spOddL K)) (GE : Cal P w K mg base CX0 7 "_law_orders" fE dE ["pairs"] (spOrders K))
    (GR : Cal P w K mg base CX0 8 "_law_rest_right" fR dR ["feed", "pairs", "signs", "order", "made"] (spRest K C CO)) (GT : Cal P w K mg base CX0 5 "_law_term" fT dT ["feed", "pairs", "deep", "letters"] (spTerm K 3)) (GB : Cal P w K mg base CX0 1 "_law_bad_terms" fB dB ["pairs"] (spBad K))
    (GG : CalG P w K mg base CX0 7 "_law_bad" fG dG ["nth", "made", "s", "t"] (spBadT K C CO)) : FnG P w K mg base CX0 9 f fd ["script"] (spLaw9 K) := by
  refine okG F scLw9 (fun vs H Q E h => ?_) (fun cdv A outer s H vs Q E hgd hr h => ?_)
  · obtain ⟨a, ns, rfl, _⟩ := h
    rfl
  · obtain ⟨a, ns, rfl, hsc, hlen, q⟩ := h
    have r1 : Room 1 (A.deeper (envOfC "law" (defScope sLaw9) s.heap.objs.size f cdv)) := hr.mono (by decide)
    have r2 : Room 2 (A.deeper (envOfC "law" (defScope sLaw9) s.heap.objs.size f cdv)) := hr.mono (by decide)
    have r3 : Room 3 (A.deeper (envOfC "law" (defScope sLaw9) s.heap.objs.size f cdv)) := hr.mono (by decide)
    have r4 : Room 4 (A.deeper (envOfC "law" (defScope sLaw9) s.heap.objs.size f cdv)) := hr.mono (by decide)
    have r5 : Room 5 (A.deeper (envOfC "law" (defScope sLaw9) s.heap.objs.size f cdv)) := hr.mono (by decide)
    have r7 : Room 7 (A.deeper (envOfC "law" (defScope sLaw9) s.heap.objs.size f cdv)) := hr.mono (by decide)
    have r8 : Room 8 (A.deeper (envOfC "law" (defScope sLaw9) s.heap.objs.size f cdv)) := hr.mono (by decide)
    have hu : (A.deeper (envOfC "law" (defScope sLaw9) s.heap.objs.size f cdv)).units + 70 < cLine := by
      have := hr.un
      omega
    have nd := scLw9.nd
    refine ⟨_, pss_cons (ps_for PassesOwn.never rfl (pi_range1 (by rfl) T.rng (pa_cons (pe_callB (call_max2 rfl) (by rfl) T.max boot_max (pa_cons pe_int (pa_cons (pe_callB (call_min2 rfl) (by rfl) T.min (by decide +kernel) (pa_cons pe_int (pa_cons (pe_callB call_len (by rfl) T.len PySem.boot_len (pa_cons (pv 0) pa_nil)) pa_nil))) pa_nil))) pa_nil)) (pg_name (i := 1) nd rfl (Or.inl rfl))
      (pss_cons (ps_set (i := 2) nd rfl (Or.inl rfl) (pe_call GF.ok r1 rfl GF.g GF.kp GF.b .nil pass0 (pa_cons (pv 0) (pa_cons (pv 1) pa_nil))))
      (pss_cons (ps_set (i := 3) nd rfl (Or.inl rfl) (pe_call GD.ok r3 rfl GD.g GD.kp GD.b .nil pass0 (pa_cons (pv 2) pa_nil)))
      (pss_cons (ps_par (i := 4) (j := 5) rfl nd rfl rfl (by decide) rfl rfl (pa_cons (pe_make MK.mm MK.ok r4 rfl MK.g MK.b .nil passL (pa_cons (pe_callTy call_list_of (by rfl) T.lst (by decide +kernel) (pa_cons (pv 3) pa_nil)) pa_nil))
        (pa_cons (pe_call GP.ok r2 rfl GP.g GP.kp GP.b .nil pass0 (pa_cons (pv 2) (pa_cons (pe_call GE.ok r7 rfl GE.g GE.kp GE.b .nil pass0 (pa_cons (pv 3) pa_nil)) pa_nil))) pa_nil)) (by rfl))
      (pss_cons (ps_set (i := 6) nd rfl (Or.inl rfl) (pe_lst (pa_cons (pe_callTy call_list_of (by rfl) T.lst (by decide +kernel) (pa_cons (pe_ix ix_list (pv 5) pe_int fun _ _ => rfl) pa_nil)) (pa_cons (pe_revL (pe_ix ix_list (pv 5) pe_int fun _ _ => rfl)) pa_nil))))
      (pss_cons (ps_set (i := 7) nd rfl (Or.inl rfl) (pe_call GM.ok r5 rfl GM.g GM.kp GM.b .nil pass0 (pa_cons (pv 4) (pa_cons (pe_ix ix_list (pv 6) pe_int fun _ _ => rfl) (pa_cons (pe_ix ix_list (pv 6) pe_int fun _ _ => rfl) pa_nil)))))
      (pss_cons (ps_if (pt_cmpR (op_neD hr.units) (pv 6) (pe_lst (pa_cons (pe_ix ix_list (pv 5) pe_int fun _ _ => rfl) (pa_cons (pe_revL (pe_ix ix_list (pv 5) pe_int fun _ _ => rfl)) pa_nil))) (nomark _)) (pss_one (ps_ret pe_bl)) pss_nil)
      (pss_cons (ps_expr (pe_bm PySem.F.plainAttrs_list PySem.F.slot_list_append PySem.F.type_list_append mt_append (pe_ix ix_list (pv 6) pe_int fun _ _ => rfl) (pa_cons pe_non pa_nil)))
      (C8.pss_cut (ps_expr (pe_bm PySem.F.plainAttrs_list PySem.F.slot_list_append PySem.F.type_list_append mt_append (pe_ix ix_list (pv 6) pe_int fun _ _ => rfl) (pa_cons pe_non pa_nil)))
      (pss_cons (ps_if (PW.pt (pw_or (pt_not (pt_val (pe_callB call_isi (by rfl) T.isi (by decide +kernel) (pa_cons (pv 7) (pa_cons (pe_glob (v := .ref CO) rfl gO rfl) pa_nil)))))
          (pw_or (pt_cmpR (op_neD hr.units) (pe_prop (pv 7) OM.x.cl OM.np OM.no r2 OM.nb .nil pass0 rfl) (pe_ix ix_list (pv 5) pe_int fun _ _ => rfl) (nomark _))
          (pw_or (pt_cmpR (op_neD hr.units) (pe_prop (pv 7) OM.x.cl OM.lp OM.lo r2 OM.lb .nil pass0 rfl) (pe_ix ix_list (pv 5) pe_int fun _ _ => rfl) (nomark _))
          (pw_or1 (pt_cmpR (op_neOwn M.eo r2 M.ea M.ef M.eb pass0 M.ne M.x.cm) (pe_fld (pv 7) rfl) (pv 4) (nomark _))))))) (pss_one (ps_ret pe_bl)) pss_nil)
      (pss_cons (ps_expr (pe_bm0 PySem.F.plainAttrs_list PySem.F.slot_list_clear PySem.F.type_list_clear mt_clear (pe_prop (pv 7) OM.x.cl OM.np OM.no r2 OM.nb .nil pass0 rfl)))
      (pss_cons (ps_expr (pe_bm PySem.F.plainAttrs_list PySem.F.slot_list_append PySem.F.type_list_append mt_append (pe_prop (pv 7) OM.x.cl OM.lp OM.lo r2 OM.lb .nil pass0 rfl) (pa_cons pe_non pa_nil)))
      (C8.pss_cut (ps_if (PW.pt (pw_or (pt_cmpR (op_neD hr.units) (pe_prop (pv 7) OM.x.cl OM.np OM.no r2 OM.nb .nil pass0 rfl) (pe_ix ix_list (pv 5) pe_int fun _ _ => rfl) (nomark _))
          (pw_or (pt_cmpR (op_neD hr.units) (pe_prop (pv 7) OM.x.cl OM.lp OM.lo r2 OM.lb .nil pass0 rfl) (pe_ix ix_list (pv 5) pe_int fun _ _ => rfl) (nomark _))
          (pw_or1 (pt_not (pt_val (pe_callB call_isi (by rfl) T.isi (by decide +kernel) (pa_cons (pe_prop (pv 7) OM.x.cl OM.tp OM.to r2 OM.tb .nil pass0 rfl) (pa_cons (pe_bltn (v := .ty "tuple") (by rfl) T.tup (by decide +kernel) rfl) pa_nil))))))))) (pss_one (ps_ret pe_bl)) pss_nil)
      (C8.pss_cut (ps_for PassesOwn.never rfl (pi_list (pe_op op_catQ (pe_call GO.ok r2 rfl GO.g GO.kp GO.b .nil pass0 (pa_cons (pv 2) (pa_cons (pe_ix ix_list (pv 5) pe_int fun _ _ => rfl) pa_nil))) (pe_lst (pa_cons (pe_slice sl_list (pe_ix ix_list (pv 5) pe_int fun _ _ => rfl) (po_some pe_int) po_none) pa_nil)))) (pg_name (i := 8) nd rfl (Or.inl rfl))
        (pss_one (ps_if (PW.pt (pw_or (pt_cmpR op_ne (pe_call GM.ok r5 rfl GM.g GM.kp GM.b .nil pass0 (pa_cons (pv 4) (pa_cons (pv 8) (pa_cons (pe_lst pa_nil) pa_nil)))) pe_str (nomark _))
          (pw_or1 (pt_cmpR op_ne (pe_call GM.ok r5 rfl GM.g GM.kp GM.b .nil pass0 (pa_cons (pv 4) (pa_cons (pv 8) (pa_cons pe_non pa_nil)))) pe_str (nomark _))))) (pss_one (ps_ret pe_bl)) pss_nil)))
      (pss_cons (ps_if (pt_not (pt_val (pe_call GR.ok r8 rfl GR.g GR.kp GR.b .nil pass0 (pa_cons (pv 2) (pa_cons (pv 3) (pa_cons (pv 4) (pa_cons (pv 5) (pa_cons (pv 7) pa_nil)))))))) (pss_one (ps_ret pe_bl)) pss_nil)
      (C8.pss_cut (ps_set (i := 9) nd rfl (Or.inl rfl) (pe_call GT.ok r5 rfl GT.g GT.kp GT.b .nil pass0 (pa_cons (pv 2) (pa_cons (pv 3) (pa_cons pe_int (pa_cons (pe_lst (pa_cons pe_str pa_nil)) pa_nil))))))
      (C8.pss_cut (ps_for PassesOwn.never rfl (pi_list (pe_op op_catQ (pe_call GB.ok r1 rfl GB.g GB.kp GB.b .nil pass0 (pa_cons (pv 3) pa_nil)) (pe_lst (pa_cons (pe_tup (pa_cons pe_str (pa_cons (pv 9) pa_nil))) (pa_cons (pe_tup (pa_cons (pv 9) pa_nil)) (pa_cons (pe_tup (pa_cons pe_int (pa_cons pe_str pa_nil))) pa_nil)))))) (pg_name (i := 8) nd rfl (Or.inl rfl))
        (pss_one (ps_for PassesOwn.never rfl (pi_range1 (by rfl) T.rng (pa_cons pe_int pa_nil)) (pg_name (i := 10) nd rfl (Or.inl rfl))
          (pss_one (ps_if (pt_cmpR (op_neSame hr.units) (pe_lst (pa_cons (pe_callG GG.ok hgd r7 rfl GG.g GG.kp GG.b .nil pass0 (pa_cons (pv 10) (pa_cons (pv 7) (pa_cons (pv 8) (pa_cons pe_non pa_nil))))) (pa_cons (pe_callG GG.ok hgd r7 rfl GG.g GG.kp GG.b .nil pass0 (pa_cons (pv 10) (pa_cons (pv 7) (pa_cons (pv 9) (pa_cons (pv 8) pa_nil))))) pa_nil)))
            (pe_lst (pa_cons (pe_callB (call_reprD hgd hu) (by rfl) T.rep (by decide +kernel) (pa_cons (pv 8) pa_nil)) (pa_cons (pe_callB (call_reprD hgd hu) (by rfl) T.rep (by decide +kernel) (pa_cons (pv 8) pa_nil)) pa_nil))) (nomark _)) (pss_one (ps_ret pe_bl)) pss_nil)))))
      (pss_one (ps_if (pt_cmpR (op_neD hr.units) (pe_lst (pa_cons (pe_prop (pv 7) OM.x.cl OM.np OM.no r2 OM.nb .nil pass0 rfl) (pa_cons (pe_prop (pv 7) OM.x.cl OM.lp OM.lo r2 OM.lb .nil pass0 rfl) pa_nil))) (pv 5) (nomark _)) (pss_one (ps_ret pe_bl)) pss_nil)))))))))))))))))))
      (pss_one (ps_ret pe_bl)), ?_⟩
    have big : (1000 : Nat) ≤ sizeLine := by decide
    have em : Hand (.list []) := ⟨by decide, fun ds e => by injection e with e; rw [← e]; simp⟩
    have en : Hand .none := ⟨by decide, fun ds e => by cases e⟩
    refine ⟨_, rfl, _, _, rfl, .inl ⟨_, hsc, rfl⟩, _, _, rfl, _, _, rfl, ?_⟩
    generalize hj : (if (if ((ns.map V.int).length : Int) < 2 then ((ns.map V.int).length : Int) else 2) > 1 then (if ((ns.map V.int).length : Int) < 2 then ((ns.map V.int).length : Int) else 2) else 1) = j
    have j1 : 1 ≤ j ∧ j ≤ 2 := by
      rw [← hj]
      split <;> (split at * <;> omega)
    refine ⟨j, rfl, by omega, by omega, ?_⟩
    refine for_it (walk_range (lo := 0) (n := j.toNat)) (fun i σ H' => ∃ c1 c2 c3 c4 c5 c6 c7 c8 c9 c10 : Option V, σ = [some (.ref a), c1, c2, c3, c4, c5, c6, c7, c8, c9, c10] ∧ Same H H')
      ⟨none, none, none, none, none, none, none, none, none, none, rfl, Same.refl H⟩ (fun _ _ _ _ _ => trivial) (fun i z σ Hx H0 hi hp hy => ?_) (fun σ H' hp => ?_)
    · obtain ⟨c1, c2, c3, c4, c5, c6, c7, c8, c9, c10, rfl, sm0⟩ := hp
      obtain ⟨rfl, hz⟩ := hy
      have hz : z = V.int (i : Int) := by
        rw [hz]
        show V.int (0 + (i : Int)) = _
        rw [Int.zero_add]
      subst hz
      have hi2 : i < 1000 := by omega
      refine ⟨_, rfl, _, rfl, a, ns, i, rfl, Same.seq sm0 hsc, hi2, fun p fx fy hp => ?_⟩
      have hp0 : H p = none := Same.free sm0 hp
      have sm1 : Same H (L2.upd H0 p (feedO fx fy)) := Same.trans sm0 (same_upd hp)
      refine ⟨_, rfl, p, fx, fy, rfl, upd_same, fun v ps x2 y2 H2 sx2 f2 hv hg => ?_⟩
      have sm2 : Same H H2 := same_viaX sm1 hp0 sx2
      have hf := hg.fine
      have okS := hf.sg
      have pl4 : ps.length ≤ 4 := hg.2.1
      have hv0 := hv
      cases hv with
      | lst g1 g2 =>
        rename_i lv xs
        refine ⟨_, rfl, lv, xs, rfl, .inl (Same.seq del_sub g1), fun l hl => ?_⟩
        have sl := same_upd (o := .lst xs) hl
        have el : (L2.upd H2 l (.lst xs)) l = some (.lst xs) := upd_same
        have dl : DpAll K (L2.upd H2 l (.lst xs)) xs (prD ps) := dpAll_same (Same.trans del_sub sl) _ _ g2
        have f3 := sl _ _ f2
        have sm3 := Same.trans sm2 sl
        have sd3 := SameX.del (p := p) (Same.x sl)
        generalize (L2.upd H2 l (.lst xs)) = H3 at el dl f3 sm3 sd3 ⊢
        intro x dx hx hdx hne
        refine ⟨x, .ref l, psD ps, dx, rfl, upd_same, .lst (SqL.of (xs := xs) ?_) (dpAll_same (fun b o e => ?_) _ _ dl), shorts_fine (fun q hq => (hf.2.2.2 q hq).1), ?_⟩
        · rw [upd_ne (ne_of_none el hx), upd_ne (ne_of_none el hdx)]
          exact el
        · rw [upd_ne (ne_of_none e hx), upd_ne (ne_of_none e hdx)]
          exact e
        · rw [made_fine hf]
          intro H4 s4 hS4
          refine ⟨rfl, ?_⟩
          have s34 := same_ins hx hdx s4
          have sm4 := Same.trans sm3 s34
          have f4 := s34 _ _ f3
          have sd4 := Same.trans sd3 (SameX.del (p := p) (Same.x s34))
          have hS4' : SgAt C (L2.del H4 p) x ps := by
            obtain ⟨q1, q2, q3, q4⟩ := hS4
            have n3 : x ≠ p := ne_of q3 f4 (by intro z; cases z)
            have n4 : q2 ≠ p := ne_of q4 f4 (by intro z; cases z)
            exact ⟨q1, q2, by rw [del_ne n3]; exact q3, by rw [del_ne n4]; exact q4⟩
          refine ⟨_, rfl, _, rfl, .ref lv, ps, rfl, dp_same (Same.trans sd4 del_sub) _ _ hv0, okS, fun pd ud os HH sH hpd ed hos h0 h1 dd => ?_⟩
          have fH := sH _ _ f4
          have sdH := SameX.del (p := p) (Same.x sH)
          have ludd : ud.length = os.length := (dpAll_len dd).trans (List.length_map ..)
          have pdp : pd ≠ p := fun z => by rw [z, f4] at hpd; cases hpd
          refine ⟨p, x2, y2, fH, .inl ⟨pd, ud, rfl, SqL.of ed, pdp, by omega, by omega, fun v wa wb hv => ?_⟩⟩
          obtain ⟨d, hd, hvd⟩ := dpAll_mem dd hv
          obtain ⟨o, ho, rfl⟩ := List.mem_map.mp hd
          have hof := (hos o ho).f okS.nd
          have ok := hof.ok okS
          have l5 := hof.l5 okS
          obtain ⟨lo, a1, a2, rfl, o1, o2, o3⟩ := ord_parts (ord_del hvd fH)
          have W5 : Wb K C p lv x lo a1 a2 xs ps o (L2.upd HH p (feedO wa wb)) := ⟨⟨wa, wb, upd_same⟩, (by rw [del_upd]; exact Same.seq (Same.trans sd4 sdH) g1), (by rw [del_upd]; exact dpAll_same (Same.trans sd4 sdH) _ _ g2), (by rw [del_upd]; exact hS4'.same sdH), (by rw [del_upd]; exact o1), (by rw [del_upd]; exact o2), (by rw [del_upd]; exact o3)⟩
          have sm5 : Same H (L2.upd HH p (feedO wa wb)) := same_viaX (Same.trans sm4 sH) hp0 ((SameX.refl p HH).upd)
          generalize (L2.upd HH p (feedO wa wb)) = H5 at W5 sm5 ⊢
          clear hv hvd o1 o2 o3 hd dd ed hpd sH fH sdH pdp ludd
          refine ⟨_, _, rfl, ?_⟩
          refine ⟨_, rfl, lo, _, 0, .ref a1, rfl, rfl, W5.lo', rfl, a1, _, rfl, .inl W5.row, fun l1 hl1 => ?_⟩
          have t1 := same_upd (o := .lst (o.1.map V.str)) hl1
          have e1 : (L2.upd H5 l1 (.lst (o.1.map V.str))) l1 = some (.lst (o.1.map V.str)) := upd_same
          generalize (L2.upd H5 l1 (.lst (o.1.map V.str))) = H6 at t1 e1 ⊢
          have W6 := W5.same t1
          refine ⟨_, rfl, lo, _, 1, .ref a2, rfl, rfl, W6.lo', rfl, a2, _, rfl, W6.lot, fun l2 hl2 => ?_⟩
          rw [← List.map_reverse]
          have t2 := same_upd (o := .lst (o.2.reverse.map V.str)) hl2
          have e2 : (L2.upd H6 l2 (.lst (o.2.reverse.map V.str))) l2 = some (.lst (o.2.reverse.map V.str)) := upd_same
          generalize (L2.upd H6 l2 (.lst (o.2.reverse.map V.str))) = H7 at t2 e2 ⊢
          have W7 := W6.same t2
          have l12 : l1 ≠ l2 := ne_of_none e1 hl2
          have hl2' : H5 l2 = none := Same.free t1 hl2
          refine ⟨(by show 2 ≤ sizeLine; decide), fun lh hlh => ?_⟩
          have t3 := same_upd (o := .lst [V.ref l1, .ref l2]) hlh
          have eh : (L2.upd H7 lh (.lst [V.ref l1, .ref l2])) lh = some (.lst [V.ref l1, .ref l2]) := upd_same
          have hl1h : lh ≠ l1 := fun z => by rw [z, t2 _ _ e1] at hlh; cases hlh
          have hl2h : lh ≠ l2 := fun z => by rw [z, e2] at hlh; cases hlh
          generalize (L2.upd H7 lh (.lst [V.ref l1, .ref l2])) = H8 at t3 eh ⊢
          have W8 := W7.same t3
          have e18 := t3 _ _ (t2 _ _ e1)
          have e28 := t3 _ _ e2
          have s58 := Same.trans t1 (Same.trans t2 t3)
          have okv : ∀ z ∈ o.2.reverse, PyData.strOk z = true := fun z hz => ok.l z (List.mem_reverse.mp hz)
          refine ⟨_, rfl, _, rfl, lh, _, 0, .ref l1, rfl, rfl, SqL.of eh, rfl, _, rfl, lh, _, 1, .ref l2, rfl, rfl, SqL.of eh, rfl, ?_⟩
          refine ⟨x, .ref l1, nmL o.1, .ref l2, nmL o.2.reverse, ps, rfl, W8.sg, okS, nmL_dp e18, nmL_dp e28, hand_nm ok.r (by omega), hand_nm okv (by rw [List.length_reverse]; omega), ?_⟩
          unfold MEnd
          rw [hof.row, hof.rev]
          intro m H9 ls s9 hm0 hpl hsl hO
          have els := Srt.uniq ls o.2 (hpl.trans (List.reverse_perm _)) hsl hof.ls
          subst els
          have W9 := W8.same s9
          have e19 := s9 _ _ e18
          have e29 := s9 _ _ e28
          have eh9 := s9 _ _ eh
          obtain ⟨fa8, fb8, f8⟩ := W8.f
          refine ⟨_, rfl, _, rfl, lo, _, 0, .ref a1, rfl, rfl, W9.lo', rfl, _, rfl, lo, _, 1, .ref a2, rfl, rfl, W9.lo', rfl, a2, _, rfl, W9.lot, fun l3 hl3 => ?_⟩
          rw [← List.map_reverse]
          have t4 := same_upd (o := .lst (o.2.reverse.map V.str)) hl3
          have e3 : (L2.upd H9 l3 (.lst (o.2.reverse.map V.str))) l3 = some (.lst (o.2.reverse.map V.str)) := upd_same
          generalize (L2.upd H9 l3 (.lst (o.2.reverse.map V.str))) = HA at t4 e3 ⊢
          refine ⟨(by show 2 ≤ sizeLine; decide), fun l4 hl4 => ?_⟩
          have t5 := same_upd (o := .lst [V.ref a1, .ref l3]) hl4
          have e4 : (L2.upd HA l4 (.lst [V.ref a1, .ref l3])) l4 = some (.lst [V.ref a1, .ref l3]) := upd_same
          generalize (L2.upd HA l4 (.lst [V.ref a1, .ref l3])) = HB at t5 e4 ⊢
          have s9B := Same.trans t4 t5
          have WB := W9.same s9B
          have shR : SeqAt.shaped (ordD (o.1, o.2.reverse)) = true := sh_two ⟨nmL_shaped ok.r, Nat.le_trans (nm_depth _) (by decide)⟩ ⟨nmL_shaped okv, Nat.le_trans (nm_depth _) (by decide)⟩
          refine ⟨ordD (o.1, o.2.reverse), ordD (o.1, o.2.reverse), .lst (SqL.of (s9B _ _ eh9)) (.cons (nmL_dp (s9B _ _ e19)) (.cons (nmL_dp (s9B _ _ e29)) .nil)), .lst (SqL.of e4) (.cons (.lst WB.row (dp_strs _)) (.cons (nmL_dp (t5 _ _ e3)) .nil)), shR, shR, _, rfl, ?_⟩
          rw [ord_eqv, decide_eq_true rfl, decide_eq_true rfl]
          refine iteF ?_
          have e1B := s9B _ _ e19
          have e2B := s9B _ _ e29
          have ehB := s9B _ _ eh9
          refine ⟨_, rfl, lh, _, 0, .ref l1, rfl, rfl, SqL.of ehB, rfl, .inl ⟨rfl, _, SqL.of e1B⟩, l1, _, .non, rfl, rfl, e1B, (by rw [List.length_map]; omega), ?_⟩
          have ehC : (L2.upd HB l1 (.lst (o.1.map V.str ++ [V.non]))) lh = some (.lst [V.ref l1, .ref l2]) := by rw [upd_ne hl1h]; exact ehB
          have e2C : (L2.upd HB l1 (.lst (o.1.map V.str ++ [V.non]))) l2 = some (.lst (o.2.reverse.map V.str)) := by rw [upd_ne l12.symm]; exact e2B
          refine ⟨fun σ' H' => ∃ c8 c9 c10, σ' = [some (.ref a), some (.int (i : Int)), some (.ref p), some (.ref lv), some (.ref x), some (.ref lo), some (.ref lh), some (.ref m), c8, c9, c10] ∧ Same H H' ∧ Wo K C CO p lv x lo a1 a2 m xs ps o H', ?_, ?_⟩
          · refine ⟨_, rfl, lh, _, 1, .ref l2, rfl, rfl, SqL.of ehC, rfl, .inl ⟨rfl, _, SqL.of e2C⟩, l2, _, .non, rfl, rfl, e2C, (by rw [List.length_map, List.length_reverse]; omega), ?_⟩
            have sxC : Same H5 (L2.upd (L2.upd HB l1 (.lst (o.1.map V.str ++ [V.non]))) l2 (.lst (o.2.reverse.map V.str ++ [V.non]))) := fun b u e => by
              rw [upd_ne (ne_of_none e hl2'), upd_ne (ne_of_none e hl1)]
              exact s9B _ _ (s9 _ _ (s58 _ _ e))
            refine ⟨c8, c9, c10, rfl, Same.trans sm5 sxC, (W5.same sxC).wo (hO.same fun b u e => ?_)⟩
            obtain ⟨k1, k2⟩ := nl_inv e
            have bp : b ≠ p := fun z => k2 _ (z ▸ f8)
            have b1 : b ≠ l1 := fun z => k2 _ (z ▸ e18)
            have b2 : b ≠ l2 := fun z => k2 _ (z ▸ e28)
            rw [del_ne bp, upd_ne b2, upd_ne b1]
            exact s9B _ _ k1
          · clear hO W5 W6 W7 W8 W9 WB e1 e2 e3 e4 e18 e28 e19 e29 e1B e2B e2C ehB ehC eh eh9 t1 t2 t3 t4 t5 s9B s9 s58 sm5 hl1 hl2 hlh hl3 hl4
            rintro σ' H' ⟨c8, c9, c10, rfl, sm, W⟩
            have eqv1 : ∀ l : List Str, (!PyData.eqv (nmL l) (nmL l)) = false := fun l => by
              rw [show PyData.eqv (nmL l) (nmL l) = decide (l = l) from nm_eqv l l, decide_eq_true rfl]
              rfl
            have shr : SeqAt.shaped (nmL o.1) = true := nmL_shaped ok.r
            have shl : SeqAt.shaped (nmL o.2) = true := nmL_shaped ok.l
            obtain ⟨dm, ln, ll, tf, fs, ws, ma, mb, mc⟩ := id W.or
            refine ⟨_, rfl, .ref m, .ref CO, .ref CO, .ref CO, _, rfl, .own _, W.or.ty OM.x, OM.x.kO, _, rfl, iteF ?_⟩
            refine ⟨_, rfl, m, dm, _, rfl, ma, m, x, ps, o.1, o.2, rfl, W.or, fun p1 hp1 => ?_⟩
            have t1 := same_upd (o := .lst (o.1.map V.str)) hp1
            have e1 : (L2.upd H' p1 (.lst (o.1.map V.str))) p1 = some (.lst (o.1.map V.str)) := upd_same
            generalize (L2.upd H' p1 (.lst (o.1.map V.str))) = I1 at t1 e1 ⊢
            have W1 := W.same t1
            refine ⟨_, rfl, lo, _, 0, .ref a1, rfl, rfl, W1.lo', rfl, nmL o.1, nmL o.1, nmL_dp e1, .lst W1.row (dp_strs _), shr, shr, _, rfl, ?_⟩
            rw [eqv1]
            refine iteF ?_
            refine ⟨_, rfl, m, dm, _, rfl, t1 _ _ ma, m, x, ps, o.1, o.2, rfl, W1.or, fun p2 hp2 => ?_⟩
            have t2 := same_upd (o := .lst (o.2.map V.str)) hp2
            have e2 : (L2.upd I1 p2 (.lst (o.2.map V.str))) p2 = some (.lst (o.2.map V.str)) := upd_same
            generalize (L2.upd I1 p2 (.lst (o.2.map V.str))) = I2 at t2 e2 ⊢
            have W2 := W1.same t2
            have s2 := Same.trans t1 t2
            refine ⟨_, rfl, lo, _, 1, .ref a2, rfl, rfl, W2.lo', rfl, nmL o.2, nmL o.2, nmL_dp e2, .lst W2.lot (dp_strs _), shl, shl, _, rfl, ?_⟩
            rw [eqv1]
            refine iteF ?_
            obtain ⟨sx, sn, q1, q2⟩ := id W2.sg
            refine ⟨_, rfl, m, CO, dm, _, .ref x, rfl, s2 _ _ ma, OM.x.cl, OM.x.n1, rfl, _, rfl, x, sx, _, .ref C, rfl, q1, .inr ⟨x, C, sx, _, rfl, q1, rfl⟩, M.nC, x, .ref x, ps, rfl, W2.sg, okS.ok, .inr ⟨x, ps, rfl, W2.sg, okS.ok, fun I3 t3 => ⟨_, rfl, _, rfl, ?_⟩⟩⟩
            rw [decide_eq_true rfl]
            refine iteF ?_
            have W3 := W2.same t3
            have s3 := Same.trans s2 t3
            refine ⟨_, rfl, m, dm, _, rfl, s3 _ _ ma, m, x, ps, o.1, o.2, rfl, W3.or, fun p3 hp3 => ?_⟩
            refine ⟨.inl ⟨rfl, _, SqL.of upd_same⟩, p3, _, rfl, rfl, upd_same, ?_⟩
            have t4 : Same I3 (L2.upd (L2.upd I3 p3 (.lst (o.1.map V.str))) p3 (.lst [])) := fun b u e => by
              rw [upd_ne (ne_of_none e hp3), upd_ne (ne_of_none e hp3)]
              exact e
            generalize (L2.upd (L2.upd I3 p3 (.lst (o.1.map V.str))) p3 (.lst [])) = I4 at t4 ⊢
            have W4 := W3.same t4
            have s4 := Same.trans s3 t4
            refine ⟨_, rfl, m, dm, _, rfl, s4 _ _ ma, m, x, ps, o.1, o.2, rfl, W4.or, fun p4 hp4 => ?_⟩
            refine ⟨.inl ⟨rfl, _, SqL.of upd_same⟩, p4, _, .non, rfl, rfl, upd_same, (by rw [List.length_map]; omega), ?_⟩
            have t5 : Same I4 (L2.upd (L2.upd I4 p4 (.lst (o.2.map V.str))) p4 (.lst (o.2.map V.str ++ [V.non]))) := fun b u e => by
              rw [upd_ne (ne_of_none e hp4), upd_ne (ne_of_none e hp4)]
              exact e
            generalize (L2.upd (L2.upd I4 p4 (.lst (o.2.map V.str))) p4 (.lst (o.2.map V.str ++ [V.non]))) = I5 at t5 ⊢
            have W5 := W4.same t5
            have s5 := Same.trans s4 t5
            refine ⟨fun σ' H' => ∃ c8 c9 c10, σ' = [some (.ref a), some (.int (i : Int)), some (.ref p), some (.ref lv), some (.ref x), some (.ref lo), some (.ref lh), some (.ref m), c8, c9, c10] ∧ Same H H' ∧ Wo K C CO p lv x lo a1 a2 m xs ps o H', ?_, ?_⟩
            · refine ⟨_, rfl, m, dm, _, rfl, s5 _ _ ma, m, x, ps, o.1, o.2, rfl, W5.or, fun p6 hp6 => ?_⟩
              have t6 := same_upd (o := .lst (o.1.map V.str)) hp6
              have e6 : (L2.upd I5 p6 (.lst (o.1.map V.str))) p6 = some (.lst (o.1.map V.str)) := upd_same
              generalize (L2.upd I5 p6 (.lst (o.1.map V.str))) = I6 at t6 e6 ⊢
              have W6 := W5.same t6
              have s6 := Same.trans s5 t6
              refine ⟨_, rfl, lo, _, 0, .ref a1, rfl, rfl, W6.lo', rfl, nmL o.1, nmL o.1, nmL_dp e6, .lst W6.row (dp_strs _), shr, shr, _, rfl, ?_⟩
              rw [eqv1]
              refine iteF ?_
              refine ⟨_, rfl, m, dm, _, rfl, s6 _ _ ma, m, x, ps, o.1, o.2, rfl, W6.or, fun p7 hp7 => ?_⟩
              have t7 := same_upd (o := .lst (o.2.map V.str)) hp7
              have e7 : (L2.upd I6 p7 (.lst (o.2.map V.str))) p7 = some (.lst (o.2.map V.str)) := upd_same
              generalize (L2.upd I6 p7 (.lst (o.2.map V.str))) = I7 at t7 e7 ⊢
              have W7 := W6.same t7
              have s7 := Same.trans s6 t7
              refine ⟨_, rfl, lo, _, 1, .ref a2, rfl, rfl, W7.lo', rfl, nmL o.2, nmL o.2, nmL_dp e7, .lst W7.lot (dp_strs _), shl, shl, _, rfl, ?_⟩
              rw [eqv1]
              refine iteF ?_
              refine ⟨_, rfl, m, dm, _, rfl, s7 _ _ ma, m, x, ps, o.1, o.2, rfl, W7.or, fun tf' fs' ef => ?_⟩
              refine ⟨.ref tf', .ty "tuple", .type "tuple", .type "tuple", true, rfl, .ty _, .base (.tup ef), kit_ty (by decide +kernel), _, rfl, ?_⟩
              refine iteF ?_
              exact ⟨c8, c9, c10, rfl, Same.trans sm s7, W7⟩
            · clear W1 W2 W3 W4 W5 t1 t2 t3 t4 t5 s2 s3 s4 s5 e1 e2 hp1 hp2 hp3 hp4 q1 q2 W sm ma mb mc
              rintro σ' H' ⟨c8, c9, c10, rfl, sm, W⟩
              obtain ⟨fa, fb, ff⟩ := W.f
              have hq : ("q" : Str) ∉ nmsOf ps := hg.2.2.2.2.1
              have hem : ("" : Str) ∉ nmsOf ps := fun h => by
                obtain ⟨p, hp, e⟩ := List.mem_map.mp h
                have := (hg.2.2.2.1 p hp).1
                rw [e] at this
                exact absurd this (by decide)
              refine ⟨fun σ' H' => ∃ c8 c9 c10, σ' = [some (.ref a), some (.int (i : Int)), some (.ref p), some (.ref lv), some (.ref x), some (.ref lo), some (.ref lh), some (.ref m), c8, c9, c10] ∧ Same H H' ∧ Wo K C CO p lv x lo a1 a2 m xs ps o H', ?_, ?_⟩
              · refine ⟨_, rfl, _, rfl, lo, _, 0, .ref a1, rfl, rfl, W.lo', rfl, ?_⟩
                refine ⟨p, .ref a1, o.1, fa, fb, rfl, ff, .lst W.r (dp_strs _), by omega, ok.r, fun D us es ga gb IA sxA fA hD Dp' eD dD hodd hlen => ?_⟩
                have WA := W.step sxA fA
                have smA := same_viaX sm hp0 sxA
                have dA : DpAll K IA us es := dpAll_same (Same.trans del_sub del_sub) _ _ dD
                have lus := dpAll_len dA
                refine ⟨_, rfl, lo, _, 0, .ref a1, rfl, rfl, WA.lo', rfl, 1, rfl, a1, _, rfl, WA.row, fun p1 hp1 => ?_⟩
                rw [show cutV (o.1.map V.str) (some 1) none = (o.1.drop 1).map V.str from (cut_from _ 1).trans (List.map_drop ..).symm]
                have t1 := same_upd (o := .lst ((o.1.drop 1).map V.str)) hp1
                have e1 : (L2.upd IA p1 (.lst ((o.1.drop 1).map V.str))) p1 = some (.lst ((o.1.drop 1).map V.str)) := upd_same
                generalize (L2.upd IA p1 (.lst ((o.1.drop 1).map V.str))) = I1 at t1 e1 ⊢
                refine ⟨(by show 1 ≤ sizeLine; decide), fun p2 hp2 => ?_⟩
                have t2 := same_upd (o := .lst [V.ref p1]) hp2
                have e2 : (L2.upd I1 p2 (.lst [V.ref p1])) p2 = some (.lst [V.ref p1]) := upd_same
                generalize (L2.upd I1 p2 (.lst [V.ref p1])) = I2 at t2 e2 ⊢
                have s2 := Same.trans t1 t2
                refine ⟨D, p2, us, _, rfl, rfl, SqL.of (s2 _ _ eD), SqL.of e2, Nat.le_trans (show us.length + ([V.ref p1] : List V).length ≤ 1000 by rw [List.length_singleton]; omega) big, fun p3 hp3 => ?_⟩
                have t3 := same_upd (o := .lst (us ++ [V.ref p1])) hp3
                have e3 : (L2.upd I2 p3 (.lst (us ++ [V.ref p1]))) p3 = some (.lst (us ++ [V.ref p1])) := upd_same
                generalize (L2.upd I2 p3 (.lst (us ++ [V.ref p1]))) = I3 at t3 e3 ⊢
                have s3 := Same.trans s2 t3
                have W3 := WA.same s3
                have d3 : DpAll K I3 (us ++ [V.ref p1]) (es ++ [nmL (o.1.drop 1)]) := dpAll_app (dpAll_same s3 _ _ dA) (.cons (nmL_dp (t3 _ _ (t2 _ _ e1))) .nil)
                have badAll : ∀ e ∈ es ++ [nmL (o.1.drop 1)], Hand e ∧ rowOf ps e = none := fun e he => by
                  rcases List.mem_append.mp he with he | he
                  · exact ⟨(hodd e he).1, row_off (odd_cho (hodd e he) hq hem)⟩
                  · rw [List.mem_singleton.mp he]
                    exact ⟨hand_nm (fun z hz => ok.r z (List.mem_of_mem_drop hz)) (by rw [List.length_drop]; omega), row_tail hof hg.1⟩
                refine ⟨p3, rfl, ⟨_, SqL.of e3⟩, ?_⟩
                refine for_it (walk_list (xs := us ++ [V.ref p1])) (fun n σ H' => ∃ c8, σ = [some (.ref a), some (.int (i : Int)), some (.ref p), some (.ref lv), some (.ref x), some (.ref lo), some (.ref lh), some (.ref m), c8, c9, c10] ∧ Same I3 H')
                  ⟨_, rfl, Same.refl I3⟩ (fun n σ H' hn hp => by obtain ⟨_, _, sm⟩ := hp; exact SqL.of (sm _ _ e3)) (fun n y σ Hy H' hn hp hy => ?_) (fun σ H' hp => ?_)
                · obtain ⟨c8, rfl, sl⟩ := hp
                  obtain ⟨rfl, ey⟩ := hy
                  obtain ⟨e, he, hye⟩ := dpAll_get' d3 ey
                  obtain ⟨hh, hro⟩ := badAll e (List.mem_of_getElem? he)
                  have Wl := W3.same sl
                  refine ⟨_, rfl, _, rfl, Nat.zero_le _, fun q6 hq6 => ?_⟩
                  have t6 := same_upd (o := .lst []) hq6
                  refine ⟨x, y, e, .ref q6, .list [], ps, rfl, (Wl.same t6).sg, okS, dp_same (Same.trans sl t6) _ _ hye, .lst (SqL.of upd_same) .nil, hh, em, ?_⟩
                  generalize (L2.upd H' q6 (.lst [])) = I7 at t6 ⊢
                  unfold MEnd
                  rw [hro]
                  intro I8 t8
                  refine ⟨rfl, _, rfl, iteNS rfl ?_⟩
                  have s8 := Same.trans sl (Same.trans t6 t8)
                  have W8 := W3.same s8
                  refine ⟨_, rfl, _, rfl, x, y, e, .non, .none, ps, rfl, W8.sg, okS, dp_same s8 _ _ hye, .non, hh, en, ?_⟩
                  unfold MEnd
                  rw [hro]
                  intro I9 t9
                  exact ⟨rfl, _, rfl, iteNS rfl ⟨_, rfl, Same.trans s8 t9⟩⟩
                · obtain ⟨c8, rfl, sl⟩ := hp
                  exact ⟨_, _, _, rfl, Same.trans smA (Same.trans s3 sl), W3.same sl⟩
              · clear sm W ff hq hem
                rintro σ' H' ⟨c8, c9, c10, rfl, sm, W⟩
                refine ⟨_, rfl, _, rfl, _, rfl, _, rfl, _, rfl, p, lv, x, lo, a1, a2, m, xs, ps, o, rfl, W, hg, hof, fun fa fb I1 sx1 f1 => ⟨_, rfl, iteF ?_⟩⟩
                have W1 := W.step sx1 f1
                have sm1 := same_viaX sm hp0 sx1
                refine ⟨fun σ' H' => ∃ c8 c10 vt dt, σ' = [some (.ref a), some (.int (i : Int)), some (.ref p), some (.ref lv), some (.ref x), some (.ref lo), some (.ref lh), some (.ref m), c8, some vt, c10] ∧ Same H H' ∧ Wo K C CO p lv x lo a1 a2 m xs ps o H' ∧ Dp K H' vt dt ∧ isTerm ps dt = true ∧ Fit 148 2 dt, ?_, ?_⟩
                · refine ⟨_, rfl, _, rfl, (by show 1 ≤ sizeLine; decide), fun lz hlz => ?_⟩
                  have t2 := same_upd (o := .lst [V.str "X"]) hlz
                  have W2 := W1.same t2
                  have lzp : lz ≠ p := fun z => by rw [z, f1] at hlz; cases hlz
                  have e7 : L2.del (L2.upd I1 lz (.lst [V.str "X"])) p lz = some (.lst [V.str "X"]) := by rw [del_ne lzp, upd_same]
                  have f2 := t2 _ _ f1
                  generalize (L2.upd I1 lz (.lst [V.str "X"])) = I2 at t2 W2 e7 f2 ⊢
                  refine ⟨p, .ref lv, lz, ps, ["X"], fa, fb, 2, rfl, f2, .lst W2.dl W2.d, hg, e7, (by simp), (by decide), (fun z hz => ?_), by decide, fun vt dt a8 b8 I8 sx8 f8 hvt htt fit8 => ?_⟩
                  · rw [List.mem_singleton.mp hz]
                    decide +kernel
                  · exact ⟨_, _, vt, dt, rfl, same_viaX (Same.trans sm1 t2) hp0 sx8, W2.step sx8 f8, dp_same del_sub _ _ hvt, htt, fit8.mono (by decide) (by decide)⟩
                · clear sm W sm1 W1 sx1 f1
                  rintro σ' H' ⟨c8, c10, vt, dt, rfl, sm, W, hvt, htt, fit⟩
                  have hlo : ∀ p ∈ ps, wordIn Lc p.1 = true := fun p hp => (hg.2.2.2.1 p hp).1
                  obtain ⟨tk, sw⟩ := fit_bad fit (by decide) (by decide)
                  refine ⟨fun σ' H' => ∃ c6 c8 c9 c10, σ' = [some (.ref a), some (.int (i : Int)), some (.ref p), some (.ref lv), some (.ref x), some (.ref lo), c6, some (.ref m), c8, c9, c10] ∧ Same H H' ∧ Wo K C CO p lv x lo a1 a2 m xs ps o H', ?_, ?_⟩
                  · refine ⟨_, rfl, .ref lv, ps, rfl, W.dp, hg, fun pb ub IA ds sA hpb eb db hfit hno h0 h50 => ?_⟩
                    have dA : DpAll K IA ub ds := dpAll_same nw_same _ _ db
                    have lub := dpAll_len dA
                    refine ⟨_, rfl, (by show 2 ≤ sizeLine; decide), fun u1 hu1 => ?_⟩
                    have t1 := same_upd (o := .tup [V.str "q", vt]) hu1
                    have e1 : (L2.upd IA u1 (.tup [V.str "q", vt])) u1 = some (.tup [V.str "q", vt]) := upd_same
                    generalize (L2.upd IA u1 (.tup [V.str "q", vt])) = I1 at t1 e1 ⊢
                    refine ⟨_, rfl, (by show 1 ≤ sizeLine; decide), fun u2 hu2 => ?_⟩
                    have t2 := same_upd (o := .tup [vt]) hu2
                    have e2 : (L2.upd I1 u2 (.tup [vt])) u2 = some (.tup [vt]) := upd_same
                    generalize (L2.upd I1 u2 (.tup [vt])) = I2 at t2 e2 ⊢
                    refine ⟨(by show 2 ≤ sizeLine; decide), fun u3 hu3 => ?_⟩
                    have t3 := same_upd (o := .tup [V.int 0, .str "X"]) hu3
                    have e3 : (L2.upd I2 u3 (.tup [V.int 0, .str "X"])) u3 = some (.tup [V.int 0, .str "X"]) := upd_same
                    generalize (L2.upd I2 u3 (.tup [V.int 0, .str "X"])) = I3 at t3 e3 ⊢
                    refine ⟨(by show 3 ≤ sizeLine; decide), fun u4 hu4 => ?_⟩
                    have t4 := same_upd (o := .lst [V.ref u1, .ref u2, .ref u3]) hu4
                    have e4 : (L2.upd I3 u4 (.lst [V.ref u1, .ref u2, .ref u3])) u4 = some (.lst [V.ref u1, .ref u2, .ref u3]) := upd_same
                    generalize (L2.upd I3 u4 (.lst [V.ref u1, .ref u2, .ref u3])) = I4 at t4 e4 ⊢
                    have s4 := Same.trans t1 (Same.trans t2 (Same.trans t3 t4))
                    refine ⟨pb, u4, ub, _, rfl, rfl, SqL.of (s4 _ _ eb), SqL.of e4, Nat.le_trans (show ub.length + ([V.ref u1, .ref u2, .ref u3] : List V).length ≤ 1000 by show ub.length + 3 ≤ 1000; omega) big, fun u5 hu5 => ?_⟩
                    have t5 := same_upd (o := .lst (ub ++ [V.ref u1, .ref u2, .ref u3])) hu5
                    have e5 : (L2.upd I4 u5 (.lst (ub ++ [V.ref u1, .ref u2, .ref u3]))) u5 = some (.lst (ub ++ [V.ref u1, .ref u2, .ref u3])) := upd_same
                    generalize (L2.upd I4 u5 (.lst (ub ++ [V.ref u1, .ref u2, .ref u3]))) = I5 at t5 e5 ⊢
                    have s5 := Same.trans s4 t5
                    have sA5 := Same.trans sA s5
                    have W5 := W.same sA5
                    have hv5 := dp_same sA5 _ _ hvt
                    have d5 : DpAll K I5 (ub ++ [V.ref u1, .ref u2, .ref u3]) (ds ++ [.tuple [.str "q", dt], .tuple [dt], .tuple [.int 0, .str "X"]]) := dpAll_app (dpAll_same s5 _ _ dA)
                      (.cons (.tup (SqT.of (t5 _ _ (t4 _ _ (t3 _ _ (t2 _ _ e1))))) (.cons (.str _) (.cons hv5 .nil)))
                      (.cons (.tup (SqT.of (t5 _ _ (t4 _ _ (t3 _ _ e2)))) (.cons hv5 .nil))
                      (.cons (.tup (SqT.of (t5 _ _ (t4 _ _ e3))) (.cons (.int _) (.cons (.str _) .nil))) .nil)))
                    have badAll : ∀ e ∈ ds ++ [.tuple [.str "q", dt], .tuple [dt], .tuple [.int 0, .str "X"]], (TOk e ∧ Shw e) ∧ isTerm ps e = false := fun e he => by
                      rcases List.mem_append.mp he with he | he
                      · exact ⟨fit_bad (hfit e he) (by decide) (by decide), hno e he⟩
                      · simp only [List.mem_cons, List.not_mem_nil, or_false] at he
                        rcases he with rfl | rfl | rfl
                        · exact ⟨fit_bad (fit_tup (W := 148) (D := 2) (two_fit (by decide +kernel) fit)) (by show 2 * 149 ≤ 4000; decide) (by decide), isT_odd (arOf_no hg.2.2.2.2.1)⟩
                        · exact ⟨fit_bad (fit_tup (W := 148) (D := 2) (one_fit fit)) (by show 1 * 149 ≤ 4000; decide) (by decide), bad_term hlo htt⟩
                        · exact ⟨fit_bad (W := 300) (D := 5) (by decide +kernel) (by decide) (by decide), isT_odd rfl⟩
                    refine ⟨u5, rfl, ⟨_, SqL.of e5⟩, ?_⟩
                    refine for_it (walk_list (xs := ub ++ [V.ref u1, .ref u2, .ref u3])) (fun n σ H' => ∃ c8 c10, σ = [some (.ref a), some (.int (i : Int)), some (.ref p), some (.ref lv), some (.ref x), some (.ref lo), some (.ref lh), some (.ref m), c8, some vt, c10] ∧ Same I5 H')
                      ⟨_, _, rfl, Same.refl I5⟩ (fun n σ H' hn hp => by obtain ⟨_, _, _, sm⟩ := hp; exact SqL.of (sm _ _ e5)) (fun n y σ Hy H' hn hp hy => ?_) (fun σ H' hp => ?_)
                    · obtain ⟨c8, c10, rfl, sl⟩ := hp
                      obtain ⟨rfl, ey⟩ := hy
                      obtain ⟨e, he, hye⟩ := dpAll_get' d5 ey
                      obtain ⟨⟨tke, swe⟩, hne⟩ := badAll e (List.mem_of_getElem? he)
                      refine ⟨3, rfl, by decide, by decide, ?_⟩
                      refine for_it (walk_range (lo := 0) (n := (3 : Int).toNat)) (fun n σ H' => ∃ c10, σ = [some (.ref a), some (.int (i : Int)), some (.ref p), some (.ref lv), some (.ref x), some (.ref lo), some (.ref lh), some (.ref m), some y, some vt, c10] ∧ Same I5 H')
                        ⟨_, rfl, sl⟩ (fun _ _ _ _ _ => trivial) (fun n z σ Hz H' hn hp hz => ?_) (fun σ H' hp => ?_)
                      · obtain ⟨c10, rfl, sl⟩ := hp
                        obtain ⟨rfl, hz⟩ := hz
                        have hz : z = V.int (n : Int) := by
                          rw [hz]
                          show V.int (0 + (n : Int)) = _
                          rw [Int.zero_add]
                        subst hz
                        have Wl := W5.same sl
                        refine ⟨_, rfl, _, rfl, _, rfl, (n : Int), m, y, .non, x, ps, o.1, o.2, e, rfl, Wl.or, .inl ⟨dp_same sl _ _ hye, tke, hne⟩, swe, fun I6 t6 => ?_⟩
                        have s6 := Same.trans sl t6
                        have W6 := W5.same s6
                        refine ⟨_, rfl, _, rfl, _, rfl, _, rfl, (n : Int), m, vt, y, x, ps, o.1, o.2, e, rfl, W6.or, .inr ⟨dt, dp_same s6 _ _ hv5, tk, htt, dp_same s6 _ _ hye, tke, hne⟩, swe, fun I7 t7 => ?_⟩
                        have s7 := Same.trans s6 t7
                        refine ⟨(by show 2 ≤ sizeLine; decide), fun z1 hz1 => ?_⟩
                        have t8 := same_upd (o := .lst [V.str e.shown, .str e.shown]) hz1
                        have e8 : (L2.upd I7 z1 (.lst [V.str e.shown, .str e.shown])) z1 = some (.lst [V.str e.shown, .str e.shown]) := upd_same
                        generalize (L2.upd I7 z1 (.lst [V.str e.shown, .str e.shown])) = I8 at t8 e8 ⊢
                        have s8 := Same.trans s7 t8
                        refine ⟨_, rfl, y, e, rfl, dp_same s8 _ _ hye, swe.sh, swe.nd, swe.sz, swe.dp, _, rfl, y, e, rfl, dp_same s8 _ _ hye, swe.sh, swe.nd, swe.sz, swe.dp, ?_⟩
                        refine ⟨(by show 2 ≤ sizeLine; decide), fun z2 hz2 => ?_⟩
                        have t9 := same_upd (o := .lst [V.str e.shown, .str e.shown]) hz2
                        refine ⟨z1, z2, [e.shown, e.shown], rfl, rfl, SqL.of (t9 _ _ e8), SqL.of upd_same, _, rfl, iteF ?_⟩
                        exact ⟨_, rfl, Same.trans s8 t9⟩
                      · obtain ⟨c10, rfl, sl⟩ := hp
                        exact ⟨_, _, rfl, sl⟩
                    · obtain ⟨c8, c10, rfl, sl⟩ := hp
                      exact ⟨_, _, _, _, rfl, Same.trans sm (Same.trans sA5 sl), W5.same sl⟩
                  · clear sm W hvt
                    rintro σ' H' ⟨c6, c8, c9, c10, rfl, sm, W⟩
                    obtain ⟨dm, ln, ll, tf, fs, ws, ma, mb, mc⟩ := id W.or
                    refine ⟨_, rfl, m, dm, _, rfl, ma, m, x, ps, o.1, o.2, rfl, W.or, fun p1 hp1 => ?_⟩
                    have t1 := same_upd (o := .lst (o.1.map V.str)) hp1
                    have e1 : (L2.upd H' p1 (.lst (o.1.map V.str))) p1 = some (.lst (o.1.map V.str)) := upd_same
                    generalize (L2.upd H' p1 (.lst (o.1.map V.str))) = I1 at t1 e1 ⊢
                    have W1 := W.same t1
                    refine ⟨_, rfl, m, dm, _, rfl, t1 _ _ ma, m, x, ps, o.1, o.2, rfl, W1.or, fun p2 hp2 => ?_⟩
                    have t2 := same_upd (o := .lst (o.2.map V.str)) hp2
                    have e2 : (L2.upd I1 p2 (.lst (o.2.map V.str))) p2 = some (.lst (o.2.map V.str)) := upd_same
                    generalize (L2.upd I1 p2 (.lst (o.2.map V.str))) = I2 at t2 e2 ⊢
                    refine ⟨(by show 2 ≤ sizeLine; decide), fun p3 hp3 => ?_⟩
                    have t3 := same_upd (o := .lst [V.ref p1, .ref p2]) hp3
                    have e3 : (L2.upd I2 p3 (.lst [V.ref p1, .ref p2])) p3 = some (.lst [V.ref p1, .ref p2]) := upd_same
                    generalize (L2.upd I2 p3 (.lst [V.ref p1, .ref p2])) = I3 at t3 e3 ⊢
                    have s3 := Same.trans t1 (Same.trans t2 t3)
                    refine ⟨_, rfl, ordD o, ordD o, .lst (SqL.of e3) (.cons (nmL_dp (t3 _ _ (t2 _ _ e1))) (.cons (nmL_dp (t3 _ _ e2)) .nil)), (W.same s3).od, ord_sh ok, ord_sh ok, _, rfl, ?_⟩
                    rw [ord_eqv, decide_eq_true rfl, decide_eq_true rfl]
                    exact iteF ⟨_, _, _, _, _, _, _, _, _, _, rfl, Same.trans sm s3⟩
    · obtain ⟨c1, c2, c3, c4, c5, c6, c7, c8, c9, c10, rfl, sm⟩ := hp
      exact q H'
end
end Sg

set_option maxRecDepth 100000
set_option maxHeartbeats 4000000
namespace Gd
open PySem L2 PySem.Spec PyProof.Rows
/-- the only thing tracked at the law's entry: the script, where it is no object of the top's -/
def scr (K : PySem.W.Frag) (a : Addr) (vs : List Value) (ns : List Int) : Hp := fun b => if b = a ∧ K.lookup a = none then some (.frz { cls := .type "list", data := .seq vs.toArray } (.lst (ns.map V.int))) else none
section
variable {P : Program} {w : World} {K : PySem.W.Frag} {mg mb : Str → Option Value} {CX : CXT} {k : Nat} {fa a : Addr} {fd : FuncData} {x : Str} {sp : Sp} {s₁ : Shared} {vs : List Value} {ns : List Int}
theorem lawG (KX : K.In s₁.heap) (hns : s₁.heap.Ns mainGlobals mg) (hb : s₁.heap.Ns builtinsNs mb) (hbb : ∀ x : Str, x ≠ "__name__" → mb x = bootBuiltins x) (hlim : s₁.heap.NoLimit) (hg : s₁.gens = #[])
    (ha : s₁.heap.get? a = some { cls := .type "list", data := .seq vs.toArray }) (hi : IntsAre vs ns) (hl : ns.length ≤ sizeLine) (hr : Room k callerA)
    (F : ∀ base : Heap, K.In base → base.Ns mainGlobals mg → FnG P w K mg base CX k fa fd [x] sp) (hbind : ∀ (s : Shared) (u : Value), BindsTo s fd ⟨[u], []⟩ [(x, u)])
    (hsp : ∀ H : Hp, SqL K H a (ns.map V.int) → sp [.ref a] H (fun v _ => v = .bl true) fun _ _ _ => False)
    (hCX : ∀ H e s', CX [] H s₁ (fun _ _ _ => False) e s' → False) :
    codeAny (model P w) callerA (.call (.ref fa) ⟨[.ref a], []⟩) (fun r s' => r = .ok (.ret (.bool true)) ∧ OldK s₁.heap s'.heap ∧ s'.os = s₁.os ∧ AllBare s'.gens) s₁ := by
  have rv := vals_ints hi
  have lv := hi.length
  generalize hH : scr K a vs ns = H
  have cs : ∀ b, H b = none ∨ (b = a ∧ K.lookup a = none ∧ H b = some (.frz { cls := .type "list", data := .seq vs.toArray } (.lst (ns.map V.int)))) := fun b => by
    subst hH
    unfold scr
    by_cases z : b = a ∧ K.lookup a = none
    · rw [if_pos z]
      exact Or.inr ⟨z.1, z.2, rfl⟩
    · rw [if_neg z]
      exact Or.inl rfl
  have hS : SqL K H a (ns.map V.int) := by
    cases z : K.lookup a with
    | none =>
      refine .inl (.inr ⟨{ cls := .type "list", data := .seq vs.toArray }, ?_⟩)
      subst hH
      exact if_pos ⟨rfl, z⟩
    | some o =>
      have y := (KX a o z).symm.trans ha
      cases y
      exact .inr ⟨_, vs.toArray, _, z, rfl, rfl, rfl, by rw [List.size_toArray, lv]; exact hl, by simpa using rv⟩
  have hok : HOk P w H s₁.heap := fun b u e => by
    rcases cs b with z | ⟨rfl, _, z⟩
    · rw [z] at e
      cases e
    · rw [z] at e
      cases e
      exact ⟨ha, by rw [List.length_map]; exact hl, vs, _, rv, ha⟩
  have nh : ∀ {b o}, s₁.heap.get? b = some o → (∀ es ep, o.data = .dict es ep → True) → (b = a → K.lookup a = none → False) → H b = none := fun {b o} _ _ n => by
    rcases cs b with z | ⟨z1, z2, _⟩
    · exact z
    · exact (n z1 z2).elim
  have nsB : ∀ {b : Addr} {m : Str → Option Value}, s₁.heap.Ns b m → (hidT s₁.heap H).Ns b m := by
    rintro b m ⟨o, es, ep, e, d, r⟩
    refine ⟨o, es, ep, hidT_get e (nh e (fun _ _ _ => trivial) fun z _ => ?_), d, r⟩
    subst z
    rw [ha] at e
    cases e
    cases d
  have kB : K.In (hidT s₁.heap H) := fun b o e => hidT_get (KX b o e) (nh (KX b o e) (fun _ _ _ => trivial) fun z1 z2 => by rw [z1, z2] at e; cases e)
  obtain ⟨mc, c1, c2⟩ := hlim
  have hM : Mod K mg (hidT s₁.heap H) := ⟨kB, nsB hns, ⟨mb, nsB hb, hbb⟩, mc, nsB c1, c2⟩
  have e0 : Env0 P w K mg (hidT s₁.heap H) callerA [] s₁ H := ⟨rfl, hM, fun b o e => of_hidT e, Nat.le_of_eq (hidT_size _ _), trivial, (fun b z => by cases z), hok, .of_eq hg⟩
  refine codeAny_mono ((F _ kB (nsB hns)).go callerA [] s₁ H ⟨[.ref a], []⟩ [.ref a] [.ref a] _ _ rfl hr e0 (hbind s₁ (.ref a)) (.cons rfl .nil) (hsp H hS)) ?_
  intro r s' h
  cases r with
  | error e => exact (hCX H e s' h).elim
  | ok fl =>
    cases fl with
    | ret u =>
      obtain ⟨v, H', os, bare, un, hok', r', q⟩ := h
      obtain rfl : v = .bl true := q
      obtain rfl : u = Value.bool true := r'
      refine ⟨rfl, OldK.of_keep fun b o e => ?_, os, bare⟩
      rcases cs b with z | ⟨rfl, _, z⟩
      · exact un.keep b o e z (fun y => by cases y) (fun y => by cases y)
      · have z2 := un.frzs b _ _ z
        rw [ha] at e
        cases e
        exact (hok' b _ z2).1
    | next => exact False.elim h
    | brk => exact False.elim h
    | cont => exact False.elim h
end
/-- the goal that the head leaves, from the law's promise -/
theorem walkG {l : PySem.W.OpenLaw} {n k : Nat} {q : Program} {loose : List Str} {XP : (Str → Option Value) → Heap → Prop} {YP : World → Heap → Prop} {d : DefRec} {K : Params → PySem.W.Frag} {CX : World → CXT} {sp : World → Sp} {x : Str}
    (hn : l.most = some n) (hn2 : n ≤ sizeLine) (hdf : d.params.defaults = []) (hr : Room k callerA) (hY : ∀ (w : World) (h : Heap), YP w h → (K w.params).In h)
    (F : ∀ (w : World) (mg : Str → Option Value) (fa : Addr) (h : Heap), (K w.params).In h → h.Ns mainGlobals mg → mg d.name = some (.ref fa) →
      ∃ fd : FuncData, (∀ (s : Shared) (u : Value), BindsTo s fd ⟨[u], []⟩ [(x, u)]) ∧ ∀ base : Heap, (K w.params).In base → base.Ns mainGlobals mg → FnG l.prog w (K w.params) mg base (CX w) k fa fd [x] (sp w))
    (hsp : ∀ (w : World) (H : Hp) (a : Addr) (ns : List Int), ns.length ≤ n → (∀ z ∈ ns, Builtin.Int.intBits z ≤ 1048576) → SqL (K w.params) H a (ns.map V.int) → sp w [.ref a] H (fun v _ => v = .bl true) fun _ _ _ => False)
    (hCX : ∀ (w : World) (H : Hp) (s : Shared) (e : Value) (s' : Shared), CX w [] H s (fun _ _ _ => False) e s' → False) :
    PySem.W.WalkO q loose XP YP l.row.toRowW d [] (fun f vs => PySem.call f vs) := by
  refine Att.attach_callB hn hdf ?_
  intro w s₀ s₁ mg mb fa o pm cd doc a vs ns G Y ho hd hcd hmg hobj hints hlen hbits hg
  obtain ⟨fd, hb, hF⟩ := F w mg fa _ (hY w _ Y) G.T.g hmg
  exact lawG (hY w _ Y) G.T.g G.T.b G.T.builtins G.T.nolimit hg hobj hints (Nat.le_trans hlen hn2) hr hF hb (fun H hS => hsp w H a ns hlen hbits hS) fun H e s' => hCX w H s₁ e s'
end Gd

set_option maxRecDepth 100000
set_option maxHeartbeats 8000000
namespace Sg
open PySem PySem.W PySem.Spec PyProof.Rows L2 Dr Gd Er Cm Ow XT TM Tw SD CO CQ NS
/-- one own error as the top has made it -/
structure Cl1 (P : Program) (K : Frag) (mg : Str → Option Value) (x : Str) (fl : Option Str) (C f : Addr) : Prop where
  e : ErrC P K x fl C f
  g : mg x = some (.ref C)
  xf : XfC K C
  r : subIn K (.ref C) (.type "BaseException") = some true ∧ typeIn K (.ref C) = some (.type "type")
section
variable {P : Program} {K : Frag} {h : Heap} {mg : Str → Option Value} {x : Str} {fl : Option Str} {C f : Addr}
theorem mkCl1 {nm q : Str} {N : Addr} {bs bm : List Value} {sn : List Str} {sub : List Value} {ab : Bool} {col : Option Bool} {dd : Option Addr} {k0 k1 k2 k3 k5 : Option Value}
    {oc doc pm ct ccl cl : Value} {od an cdd cld : Option Addr} {osl ccs csl : Array (Option Value)} {cc cda : Addr} {qual z file : Str} {kz : Nat} {tf : Tok} {vs : Array Value} {p p' p0 p1 p2 p3 p4 p5 q1 q2 q3 q4 : Pos}
    (X : K.In h) (G : h.Ns mainGlobals mg)
    (any : nsIn K cStatics "thirdparty.any" = some none) (top : (P.main.scope.names.lookup ("super" : Str)).isSome = false)
    (aC : nsIn K mainGlobals x = some (some (.ref C))) (kC : keepIn K (.ref C) = true)
    (hC : K.lookup C = some (excClassObj nm q C N bs bm true sn sub ab col dd k0 k1 k2 k3 k5 "ValueError.__new__")) (hbm : PySem.HandSPX.refsVE bm = true)
    (sa : findIn K (.ref C) "__setattr__" = some (some (.builtin "object.__setattr__")))
    (iC : findIn K (.ref C) "__init__" = some (some (.ref f))) (tI : typeIn K (.ref f) = some (.type "function"))
    (lF : K.lookup f = some ⟨oc, od, .func (ksFn "__init__" qual (pars fl p p') (body fl z kz p0 p1 p2 p3 p4 p5 q1 q2 q3 q4) (scp fl) .none .none doc pm an (.ref cda) ct cc), osl⟩) (hcd : codeIn K (.ref cda) qual = true)
    (lc : K.lookup cda = some ⟨ccl, cdd, .fields vs, ccs⟩) (hv : vs[2]? = some (.str file tf)) (hfile : ((P.main.file : Str) == file) = true)
    (lcell : K.lookup cc = some ⟨cl, cld, .cell (some (.ref C)), csl⟩)
    (along : ks_superIn K C C "__init__" = some (some (.builtin "ValueError.__init__"))) (subVE : subIn K (.ref C) (.type "ValueError") = some true) (mro : mroIn K C (.ref C) = some true)
    (noF : ∀ y, fl = some y → findIn K (.ref C) y = some none)
    (ga : findIn K (.ref C) "__getattribute__" = some (some (.builtin "BaseException.__getattribute__"))) (gg : findIn K (.ref C) "__getattr__" = some none) (exC : subIn K (.ref C) (.type "BaseException") = some true) (hdC : hasDictIn K C = true)
    (tC : typeIn K (.ref C) = some (.type "type"))
    (ev : EvP z kz p0 p1 p2 p3 p4 p5) (bd : BdP fl (ksFn "__init__" qual (pars fl p p') (body fl z kz p0 p1 p2 p3 p4 p5 q1 q2 q3 q4) (scp fl) .none .none doc pm an (.ref cda) ct cc))
    (kS : (names fl).lookup ("super" : Str) = some .globalImplicit) (kF : (names fl).lookup ("__class__" : Str) = some .free) (kL : (names fl).lookup ("self" : Str) = some .local)
    (kP : ∀ y, fl = some y → (names fl).lookup y = some .local ∧ (y == ("self" : Str)) = false ∧ (y == ("__debug__" : Str)) = false) : Cl1 P K mg x fl C f where
  e := ⟨kC, ⟨nm, q, N, bs, bm, sn, sub, ab, col, dd, k0, k1, k2, k3, k5, hC, hbm⟩, sa, iC, tI,
    ⟨oc, od, doc, pm, an, ct, osl, cc, cda, qual, z, kz, p, p', p0, p1, p2, p3, p4, p5, q1, q2, q3, q4, lF, hcd, ev, bd, ⟨ccl, cdd, vs, ccs, file, tf, lc, hv, hfile⟩, cl, cld, csl, lcell⟩,
    any, along, subVE, mro, top, noF, kS, kF, kL, kP⟩
  g := mg_of X G aC
  xf := ⟨ga, gg, exC, hdC⟩
  r := ⟨exC, tC⟩
end

/-- which of the caught classes is which, and whose kind an instance is, by one look -/
def lookB (K : Frag) (cA cL cT C CO : Addr) : Bool :=
  decide (exmOne K (.ref cA) (.ref cA) = some true) && (decide (exmOne K (.ref cL) (.ref cA) = some false) && (decide (exmOne K (.ref cL) (.ref cL) = some true) && (decide (exmOne K (.ref cT) (.ref cT) = some true) &&
  (decide (kitOne K (.ref C) (.ref C) = some true) && (decide (kitOne K (.type "list") (.ref C) = some false) && (decide (kitOne K (.ref CO) (.ref CO) = some true) && (decide (kitOne K (.type "list") (.ref CO) = some false) && decide (kitOne K (.type "NoneType") (.ref CO) = some false))))))))

theorem all_mk {l : OpenLaw} {w : World} {K : Frag} {h : Heap} {mg : Str → Option Value} {fa cN cC cB cS cT cA cL eN eC eB eS eT eA eL C CO g0 g1 g2 g3 g4 g5 g6 g7 g8 g9 g10 g11 g12 g13 g14 g15 g16 g17 g18 g19 g20 g21 g22 g23 g24 g25 g26 g27 g28 g29 g30 g31 g32 g33 g34 g35 g36 g37 g38 g39 g40 g41 pp30 pp31 pp37 pp38 pp39 : Addr} {od0 an0 od1 an1 od2 an2 od3 an3 od4 an4 od5 an5 od6 an6 od7 an7 od8 an8 od9 an9 od10 an10 od11 an11 od12 an12 od13 an13 od14 an14 od15 an15 od16 an16 od17 an17 od18 an18 od19 an19 od20 an20 od21 an21 od22 an22 od23 an23 od24 an24 od25 an25 od26 an26 od27 an27 od28 an28 od29 an29 od30 an30 od31 an31 od32 an32 od33 an33 od34 an34 od35 an35 od36 an36 od37 an37 od38 an38 od39 an39 od40 an40 od41 an41 : Option Addr} {sl0 sl1 sl2 sl3 sl4 sl5 sl6 sl7 sl8 sl9 sl10 sl11 sl12 sl13 sl14 sl15 sl16 sl17 sl18 sl19 sl20 sl21 sl22 sl23 sl24 sl25 sl26 sl27 sl28 sl29 sl30 sl31 sl32 sl33 sl34 sl35 sl36 sl37 sl38 sl39 sl40 sl41 : Array (Option Value)} {oc0 kV0 dc0 pm0 cd0 ct0 oc1 kV1 dc1 pm1 cd1 ct1 oc2 kV2 dc2 pm2 cd2 ct2 oc3 kV3 dc3 pm3 cd3 ct3 oc4 kV4 dc4 pm4 cd4 ct4 oc5 kV5 dc5 pm5 cd5 ct5 oc6 kV6 dc6 pm6 cd6 ct6 oc7 kV7 dc7 pm7 cd7 ct7 oc8 kV8 dc8 pm8 cd8 ct8 oc9 kV9 dc9 pm9 cd9 ct9 oc10 kV10 dc10 pm10 cd10 ct10 oc11 kV11 dc11 pm11 cd11 ct11 oc12 kV12 dc12 pm12 cd12 ct12 oc13 kV13 dc13 pm13 cd13 ct13 oc14 kV14 dc14 pm14 cd14 ct14 oc15 kV15 dc15 pm15 cd15 ct15 oc16 kV16 dc16 pm16 cd16 ct16 oc17 kV17 dc17 pm17 cd17 ct17 oc18 kV18 dc18 pm18 cd18 ct18 oc19 kV19 dc19 pm19 cd19 ct19 oc20 kV20 dc20 pm20 cd20 ct20 oc21 kV21 dc21 pm21 cd21 ct21 oc22 kV22 dc22 pm22 cd22 ct22 oc23 kV23 dc23 pm23 cd23 ct23 oc24 kV24 dc24 pm24 cd24 ct24 oc25 kV25 dc25 pm25 cd25 ct25 oc26 kV26 dc26 pm26 cd26 ct26 oc27 kV27 dc27 pm27 cd27 ct27 oc28 kV28 dc28 pm28 cd28 ct28 oc29 kV29 dc29 pm29 cd29 ct29 oc30 kV30 dc30 pm30 cd30 ct30 oc31 kV31 dc31 pm31 cd31 ct31 oc32 kV32 dc32 pm32 cd32 ct32 oc33 kV33 dc33 pm33 cd33 ct33 oc34 kV34 dc34 pm34 cd34 ct34 oc35 kV35 dc35 pm35 cd35 ct35 oc36 kV36 dc36 pm36 cd36 ct36 oc37 kV37 dc37 pm37 cd37 ct37 oc38 kV38 dc38 pm38 cd38 ct38 oc39 kV39 dc39 pm39 cd39 ct39 oc40 kV40 dc40 pm40 cd40 ct40 oc41 kV41 dc41 pm41 cd41 ct41 : Value} {rest30 rest31 rest37 rest38 rest39 : List Value} {n1 n2 n3 : Int} {zS zU : Str} {t1 t2 t3 t4 t5 : Tok} (X : K.In h) (G : h.Ns mainGlobals mg) (hfa : mg "law" = some (.ref fa))
    (h0 : Cl1 l.prog K mg "NoList" none cN eN) (h1 : Cl1 l.prog K mg "BadCount" none cC eC) (h2 : Cl1 l.prog K mg "BadSign" (some "number") cB eB) (h3 : Cl1 l.prog K mg "NoSign" (some "name") cS eS) (h4 : Cl1 l.prog K mg "BadTerm" (some "value") cT eT) (h5 : Cl1 l.prog K mg "BadNames" none cA eA) (h6 : Cl1 l.prog K mg "BadLots" none cL eL)
    (a0 : nsIn K mainGlobals "is_whole" = some (some (.ref g0))) (l0 : K.lookup g0 = some ⟨oc0, od0, .func (fnOf "is_whole" "is_whole" (defArgs sWhole) (defBody sWhole) (defScope sWhole) .none kV0 dc0 pm0 an0 cd0 ct0), sl0⟩) (d0 : codeIn K cd0 "is_whole" = true) (k0 : keepIn K (.ref g0) = true)
    (a1 : nsIn K mainGlobals "is_word" = some (some (.ref g1))) (l1 : K.lookup g1 = some ⟨oc1, od1, .func (fnOf "is_word" "is_word" (defArgs sWord) (defBody sWord) (defScope sWord) .none kV1 dc1 pm1 an1 cd1 ct1), sl1⟩) (d1 : codeIn K cd1 "is_word" = true) (k1 : keepIn K (.ref g1) = true)
    (a2 : nsIn K mainGlobals "is_tuple_of" = some (some (.ref g2))) (l2 : K.lookup g2 = some ⟨oc2, od2, .func (fnOf "is_tuple_of" "is_tuple_of" (defArgs sTupOf) (defBody sTupOf) (defScope sTupOf) .none kV2 dc2 pm2 an2 cd2 ct2), sl2⟩) (d2 : codeIn K cd2 "is_tuple_of" = true) (k2 : keepIn K (.ref g2) = true)
    (a3 : nsIn K mainGlobals "is_choice" = some (some (.ref g3))) (l3 : K.lookup g3 = some ⟨oc3, od3, .func (fnOf "is_choice" "is_choice" (defArgs sChoice) (defBody sChoice) (defScope sChoice) .none kV3 dc3 pm3 an3 cd3 ct3), sl3⟩) (d3 : codeIn K cd3 "is_choice" = true) (k3 : keepIn K (.ref g3) = true)
    (a4 : nsIn K mainGlobals "_is_sign" = some (some (.ref g4))) (l4 : K.lookup g4 = some ⟨oc4, od4, .func (fnOf "_is_sign" "_is_sign" (defArgs sIsSign) (defBody sIsSign) (defScope sIsSign) .none kV4 dc4 pm4 an4 cd4 ct4), sl4⟩) (d4 : codeIn K cd4 "_is_sign" = true) (k4 : keepIn K (.ref g4) = true)
    (a5 : nsIn K mainGlobals "is_term" = some (some (.ref g5))) (l5 : K.lookup g5 = some ⟨oc5, od5, .func (fnOf "is_term" "is_term" (defArgs sIsTerm) (defBody sIsTerm) (defScope sIsTerm) .none kV5 dc5 pm5 an5 cd5 ct5), sl5⟩) (d5 : codeIn K cd5 "is_term" = true) (k5 : keepIn K (.ref g5) = true)
    (a6 : nsIn K mainGlobals "_has_head" = some (some (.ref g6))) (l6 : K.lookup g6 = some ⟨oc6, od6, .func (fnOf "_has_head" "_has_head" (defArgs sHead) (defBody sHead) (defScope sHead) .none kV6 dc6 pm6 an6 cd6 ct6), sl6⟩) (d6 : codeIn K cd6 "_has_head" = true) (k6 : keepIn K (.ref g6) = true)
    (a7 : nsIn K mainGlobals "look_at_terms" = some (some (.ref g7))) (l7 : K.lookup g7 = some ⟨oc7, od7, .func (fnOf "look_at_terms" "look_at_terms" (defArgs sLookT) (defBody sLookT) (defScope sLookT) .none kV7 dc7 pm7 an7 cd7 ct7), sl7⟩) (d7 : codeIn K cd7 "look_at_terms" = true) (k7 : keepIn K (.ref g7) = true)
    (a8 : nsIn K mainGlobals "_facts_of" = some (some (.ref g8))) (l8 : K.lookup g8 = some ⟨oc8, od8, .func (fnOf "_facts_of" "_facts_of" (defArgs sFactsOf) (defBody sFactsOf) (defScope sFactsOf) .none kV8 dc8 pm8 an8 cd8 ct8), sl8⟩) (d8 : codeIn K cd8 "_facts_of" = true) (k8 : keepIn K (.ref g8) = true)
    (a9 : nsIn K mainGlobals "steps" = some (some (.ref g9))) (l9 : K.lookup g9 = some ⟨oc9, od9, .func (fnOf "steps" "steps" (defArgs sSteps) (defBody sSteps) (defScope sSteps) .none kV9 dc9 pm9 an9 cd9 ct9), sl9⟩) (d9 : codeIn K cd9 "steps" = true) (k9 : keepIn K (.ref g9) = true)
    (a10 : nsIn K mainGlobals "shows_steps" = some (some (.ref g10))) (l10 : K.lookup g10 = some ⟨oc10, od10, .func (fnOf "shows_steps" "shows_steps" (defArgs sShows) (defBody sShows) (defScope sShows) .none kV10 dc10 pm10 an10 cd10 ct10), sl10⟩) (d10 : codeIn K cd10 "shows_steps" = true) (k10 : keepIn K (.ref g10) = true)
    (a11 : nsIn K mainGlobals "_law_feed" = some (some (.ref g11))) (l11 : K.lookup g11 = some ⟨oc11, od11, .func (fnOf "_law_feed" "_law_feed" (defArgs sFeed) (defBody sFeed) (defScope sFeed) .none kV11 dc11 pm11 an11 cd11 ct11), sl11⟩) (d11 : codeIn K cd11 "_law_feed" = true) (k11 : keepIn K (.ref g11) = true)
    (a12 : nsIn K mainGlobals "_law_take" = some (some (.ref g12))) (l12 : K.lookup g12 = some ⟨oc12, od12, .func (fnOf "_law_take" "_law_take" (defArgs sTake) (defBody sTake) (defScope sTake) .none kV12 dc12 pm12 an12 cd12 ct12), sl12⟩) (d12 : codeIn K cd12 "_law_take" = true) (k12 : keepIn K (.ref g12) = true)
    (a13 : nsIn K mainGlobals "_law_pick" = some (some (.ref g13))) (l13 : K.lookup g13 = some ⟨oc13, od13, .func (fnOf "_law_pick" "_law_pick" (defArgs sPick) (defBody sPick) (defScope sPick) .none kV13 dc13 pm13 an13 cd13 ct13), sl13⟩) (d13 : codeIn K cd13 "_law_pick" = true) (k13 : keepIn K (.ref g13) = true)
    (a14 : nsIn K mainGlobals "_law_known_signs" = some (some (.ref g14))) (l14 : K.lookup g14 = some ⟨oc14, od14, .func (fnOf "_law_known_signs" "_law_known_signs" (defArgs sKnown) (defBody sKnown) (defScope sKnown) .none kV14 dc14 pm14 an14 cd14 ct14), sl14⟩) (d14 : codeIn K cd14 "_law_known_signs" = true) (k14 : keepIn K (.ref g14) = true)
    (a15 : nsIn K mainGlobals "_law_drawn_signs" = some (some (.ref g15))) (l15 : K.lookup g15 = some ⟨oc15, od15, .func (fnOf "_law_drawn_signs" "_law_drawn_signs" (defArgs sDrawn) (defBody sDrawn) (defScope sDrawn) .none kV15 dc15 pm15 an15 cd15 ct15), sl15⟩) (d15 : codeIn K cd15 "_law_drawn_signs" = true) (k15 : keepIn K (.ref g15) = true)
    (a16 : nsIn K mainGlobals "_law_ways" = some (some (.ref g16))) (l16 : K.lookup g16 = some ⟨oc16, od16, .func (fnOf "_law_ways" "_law_ways" (defArgs sLways) (defBody sLways) (defScope sLways) .none kV16 dc16 pm16 an16 cd16 ct16), sl16⟩) (d16 : codeIn K cd16 "_law_ways" = true) (k16 : keepIn K (.ref g16) = true)
    (a17 : nsIn K mainGlobals "_law_term" = some (some (.ref g17))) (l17 : K.lookup g17 = some ⟨oc17, od17, .func (fnOf "_law_term" "_law_term" (defArgs sTerm) (defBody sTerm) (defScope sTerm) .none kV17 dc17 pm17 an17 cd17 ct17), sl17⟩) (d17 : codeIn K cd17 "_law_term" = true) (k17 : keepIn K (.ref g17) = true)
    (a18 : nsIn K mainGlobals "_law_rows" = some (some (.ref g18))) (l18 : K.lookup g18 = some ⟨oc18, od18, .func (fnOf "_law_rows" "_law_rows" (defArgs sRows) (defBody sRows) (defScope sRows) .none kV18 dc18 pm18 an18 cd18 ct18), sl18⟩) (d18 : codeIn K cd18 "_law_rows" = true) (k18 : keepIn K (.ref g18) = true)
    (a19 : nsIn K mainGlobals "_law_lots" = some (some (.ref g19))) (l19 : K.lookup g19 = some ⟨oc19, od19, .func (fnOf "_law_lots" "_law_lots" (defArgs sLots) (defBody sLots) (defScope sLots) .none kV19 dc19 pm19 an19 cd19 ct19), sl19⟩) (d19 : codeIn K cd19 "_law_lots" = true) (k19 : keepIn K (.ref g19) = true)
    (a20 : nsIn K mainGlobals "_law_orders" = some (some (.ref g20))) (l20 : K.lookup g20 = some ⟨oc20, od20, .func (fnOf "_law_orders" "_law_orders" (defArgs sOrders) (defBody sOrders) (defScope sOrders) .none kV20 dc20 pm20 an20 cd20 ct20), sl20⟩) (d20 : codeIn K cd20 "_law_orders" = true) (k20 : keepIn K (.ref g20) = true)
    (a21 : nsIn K mainGlobals "_law_program_order" = some (some (.ref g21))) (l21 : K.lookup g21 = some ⟨oc21, od21, .func (fnOf "_law_program_order" "_law_program_order" (defArgs sPO) (defBody sPO) (defScope sPO) .none kV21 dc21 pm21 an21 cd21 ct21), sl21⟩) (d21 : codeIn K cd21 "_law_program_order" = true) (k21 : keepIn K (.ref g21) = true)
    (a22 : nsIn K mainGlobals "_law_bad_terms" = some (some (.ref g22))) (l22 : K.lookup g22 = some ⟨oc22, od22, .func (fnOf "_law_bad_terms" "_law_bad_terms" (defArgs sBad) (defBody sBad) (defScope sBad) .none kV22 dc22 pm22 an22 cd22 ct22), sl22⟩) (d22 : codeIn K cd22 "_law_bad_terms" = true) (k22 : keepIn K (.ref g22) = true)
    (a23 : nsIn K mainGlobals "_law_near_signs" = some (some (.ref g23))) (l23 : K.lookup g23 = some ⟨oc23, od23, .func (fnOf "_law_near_signs" "_law_near_signs" (defArgs sNear) (defBody sNear) (defScope sNear) .none kV23 dc23 pm23 an23 cd23 ct23), sl23⟩) (d23 : codeIn K cd23 "_law_near_signs" = true) (k23 : keepIn K (.ref g23) = true)
    (a24 : nsIn K mainGlobals "_law_made" = some (some (.ref g24))) (l24 : K.lookup g24 = some ⟨oc24, od24, .func (fnOf "_law_made" "_law_made" (defArgs sMadeO) (defBody sMadeO) (defScope sMadeO) .none kV24 dc24 pm24 an24 cd24 ct24), sl24⟩) (d24 : codeIn K cd24 "_law_made" = true) (k24 : keepIn K (.ref g24) = true)
    (a25 : nsIn K mainGlobals "_law_bad" = some (some (.ref g25))) (l25 : K.lookup g25 = some ⟨oc25, od25, .func (fnOf "_law_bad" "_law_bad" (defArgs sBadT) (defBody sBadT) (defScope sBadT) .none kV25 dc25 pm25 an25 cd25 ct25), sl25⟩) (d25 : codeIn K cd25 "_law_bad" = true) (k25 : keepIn K (.ref g25) = true)
    (a26 : nsIn K mainGlobals "_law_odd_lists" = some (some (.ref g26))) (l26 : K.lookup g26 = some ⟨oc26, od26, .func (fnOf "_law_odd_lists" "_law_odd_lists" (defArgs sOddL) (defBody sOddL) (defScope sOddL) .none kV26 dc26 pm26 an26 cd26 ct26), sl26⟩) (d26 : codeIn K cd26 "_law_odd_lists" = true) (k26 : keepIn K (.ref g26) = true)
    (a27 : nsIn K mainGlobals "_law_rest_right" = some (some (.ref g27))) (l27 : K.lookup g27 = some ⟨oc27, od27, .func (fnOf "_law_rest_right" "_law_rest_right" (defArgs sRest) (defBody sRest) (defScope sRest) .none kV27 dc27 pm27 an27 cd27 ct27), sl27⟩) (d27 : codeIn K cd27 "_law_rest_right" = true) (k27 : keepIn K (.ref g27) = true)
    (a28 : nsIn K mainGlobals "law" = some (some (.ref g28))) (l28 : K.lookup g28 = some ⟨oc28, od28, .func (fnOf "law" "law" (defArgs sLaw9) (defBody sLaw9) (defScope sLaw9) .none kV28 dc28 pm28 an28 cd28 ct28), sl28⟩) (d28 : codeIn K cd28 "law" = true) (k28 : keepIn K (.ref g28) = true)
    (aC : nsIn K mainGlobals "Signs" = some (some (.ref C))) (kC : keepIn K (.ref C) = true) (mkC : makesIn K C = true) (pgC : plainGet K C Str.empty = true) (hdC : hasDictIn K C = true) (poC : plainOver K C = true) (saC : findIn K (.ref C) "__setattr__" = some (some (.builtin "object.__setattr__"))) (caC : findIn K (.ref C) "__class__" = some (some (.builtin "object.__class__"))) (cmC : mroIn K C (.type "object") = some true) (neC : findIn K (.ref C) "__ne__" = some (some (.builtin "object.__ne__"))) (nfC : notFirst K C (.ref C) = true) (nfLC : notFirst K C (.type "list") = true) (na0C : findIn K (.ref C) "_arities" = some none)
    (aCO : nsIn K mainGlobals "Order" = some (some (.ref CO))) (kCO : keepIn K (.ref CO) = true) (mkCO : makesIn K CO = true) (pgCO : plainGet K CO Str.empty = true) (hdCO : hasDictIn K CO = true) (poCO : plainOver K CO = true) (saCO : findIn K (.ref CO) "__setattr__" = some (some (.builtin "object.__setattr__"))) (caCO : findIn K (.ref CO) "__class__" = some (some (.builtin "object.__class__"))) (cmCO : mroIn K CO (.type "object") = some true) (neCO : findIn K (.ref CO) "__ne__" = some (some (.builtin "object.__ne__"))) (nfCO : notFirst K CO (.ref CO) = true) (nfLCO : notFirst K CO (.type "list") = true) (na0CO : findIn K (.ref CO) "signs" = some none) (na1CO : findIn K (.ref CO) "_names" = some none) (na2CO : findIn K (.ref CO) "_lots" = some none) (na3CO : findIn K (.ref CO) "_facts" = some none)
    (cgX : specialIn K (.builtin "object.__class__") "__get__" = some (some (.builtin "getset_descriptor.__get__"))) (ctX : takesIn K (.builtin "object.__class__") = some true) (nfN : notFirst K CO (.type "NoneType") = true)
    (fa29 : findIn K (.ref C) "__init__" = some (some (.ref g29))) (fn29 : isFn K (.ref g29) = true)
    (l29 : K.lookup g29 = some ⟨oc29, od29, .func (fnOf "__init__" "Signs.__init__" (defArgs sInit) (defBody sInit) (defScope sInit) .none kV29 dc29 pm29 an29 cd29 ct29), sl29⟩) (d29 : codeIn K cd29 "Signs.__init__" = true) (k29 : keepIn K (.ref g29) = true)
    (fa30 : findIn K (.ref C) "names" = some (some (.ref pp30))) (fg30 : specialIn K (.ref pp30) "__get__" = some (some (.builtin "property.__get__"))) (ft30 : takesIn K (.ref pp30) = some true) (fr30 : recIn K pp30 "property" = some (.ref g30 :: rest30))
    (l30 : K.lookup g30 = some ⟨oc30, od30, .func (fnOf "names" "Signs.names" (defArgs sNames) (defBody sNames) (defScope sNames) .none kV30 dc30 pm30 an30 cd30 ct30), sl30⟩) (d30 : codeIn K cd30 "Signs.names" = true) (k30 : keepIn K (.ref g30) = true)
    (fa31 : findIn K (.ref C) "ways" = some (some (.ref pp31))) (fg31 : specialIn K (.ref pp31) "__get__" = some (some (.builtin "property.__get__"))) (ft31 : takesIn K (.ref pp31) = some true) (fr31 : recIn K pp31 "property" = some (.ref g31 :: rest31))
    (l31 : K.lookup g31 = some ⟨oc31, od31, .func (fnOf "ways" "Signs.ways" (defArgs sWays) (defBody sWays) (defScope sWays) .none kV31 dc31 pm31 an31 cd31 ct31), sl31⟩) (d31 : codeIn K cd31 "Signs.ways" = true) (k31 : keepIn K (.ref g31) = true)
    (fa32 : findIn K (.ref C) "arity" = some (some (.ref g32))) (fn32 : isFn K (.ref g32) = true)
    (l32 : K.lookup g32 = some ⟨oc32, od32, .func (fnOf "arity" "Signs.arity" (defArgs sArity) (defBody sArity) (defScope sArity) .none kV32 dc32 pm32 an32 cd32 ct32), sl32⟩) (d32 : codeIn K cd32 "Signs.arity" = true) (k32 : keepIn K (.ref g32) = true)
    (fa33 : findIn K (.ref C) "__contains__" = some (some (.ref g33))) (fn33 : isFn K (.ref g33) = true)
    (l33 : K.lookup g33 = some ⟨oc33, od33, .func (fnOf "__contains__" "Signs.__contains__" (defArgs sHas) (defBody sHas) (defScope sHas) .none kV33 dc33 pm33 an33 cd33 ct33), sl33⟩) (d33 : codeIn K cd33 "Signs.__contains__" = true) (k33 : keepIn K (.ref g33) = true)
    (fa34 : findIn K (.ref C) "__len__" = some (some (.ref g34))) (fn34 : isFn K (.ref g34) = true)
    (l34 : K.lookup g34 = some ⟨oc34, od34, .func (fnOf "__len__" "Signs.__len__" (defArgs sLen) (defBody sLen) (defScope sLen) .none kV34 dc34 pm34 an34 cd34 ct34), sl34⟩) (d34 : codeIn K cd34 "Signs.__len__" = true) (k34 : keepIn K (.ref g34) = true)
    (fa35 : findIn K (.ref C) "__eq__" = some (some (.ref g35))) (fn35 : isFn K (.ref g35) = true)
    (l35 : K.lookup g35 = some ⟨oc35, od35, .func (fnOf "__eq__" "Signs.__eq__" (defArgs sEq) (defBody sEq) (defScope sEq) .none kV35 dc35 pm35 an35 cd35 ct35), sl35⟩) (d35 : codeIn K cd35 "Signs.__eq__" = true) (k35 : keepIn K (.ref g35) = true)
    (fa36 : findIn K (.ref CO) "__init__" = some (some (.ref g36))) (fn36 : isFn K (.ref g36) = true)
    (l36 : K.lookup g36 = some ⟨oc36, od36, .func (fnOf "__init__" "Order.__init__" (defArgs sOInit) (defBody sOInit) (defScope sOInit) .none kV36 dc36 pm36 an36 cd36 ct36), sl36⟩) (d36 : codeIn K cd36 "Order.__init__" = true) (k36 : keepIn K (.ref g36) = true)
    (fa37 : findIn K (.ref CO) "names" = some (some (.ref pp37))) (fg37 : specialIn K (.ref pp37) "__get__" = some (some (.builtin "property.__get__"))) (ft37 : takesIn K (.ref pp37) = some true) (fr37 : recIn K pp37 "property" = some (.ref g37 :: rest37))
    (l37 : K.lookup g37 = some ⟨oc37, od37, .func (fnOf "names" "Order.names" (defArgs sONames) (defBody sONames) (defScope sONames) .none kV37 dc37 pm37 an37 cd37 ct37), sl37⟩) (d37 : codeIn K cd37 "Order.names" = true) (k37 : keepIn K (.ref g37) = true)
    (fa38 : findIn K (.ref CO) "lots" = some (some (.ref pp38))) (fg38 : specialIn K (.ref pp38) "__get__" = some (some (.builtin "property.__get__"))) (ft38 : takesIn K (.ref pp38) = some true) (fr38 : recIn K pp38 "property" = some (.ref g38 :: rest38))
    (l38 : K.lookup g38 = some ⟨oc38, od38, .func (fnOf "lots" "Order.lots" (defArgs sOLots) (defBody sOLots) (defScope sOLots) .none kV38 dc38 pm38 an38 cd38 ct38), sl38⟩) (d38 : codeIn K cd38 "Order.lots" = true) (k38 : keepIn K (.ref g38) = true)
    (fa39 : findIn K (.ref CO) "facts" = some (some (.ref pp39))) (fg39 : specialIn K (.ref pp39) "__get__" = some (some (.builtin "property.__get__"))) (ft39 : takesIn K (.ref pp39) = some true) (fr39 : recIn K pp39 "property" = some (.ref g39 :: rest39))
    (l39 : K.lookup g39 = some ⟨oc39, od39, .func (fnOf "facts" "Order.facts" (defArgs sOFacts) (defBody sOFacts) (defScope sOFacts) .none kV39 dc39 pm39 an39 cd39 ct39), sl39⟩) (d39 : codeIn K cd39 "Order.facts" = true) (k39 : keepIn K (.ref g39) = true)
    (fa40 : findIn K (.ref CO) "__call__" = some (some (.ref g40))) (fn40 : isFn K (.ref g40) = true)
    (l40 : K.lookup g40 = some ⟨oc40, od40, .func (fnOf "__call__" "Order.__call__" (defArgs sOCall) (defBody sOCall) (defScope sOCall) .none kV40 dc40 pm40 an40 cd40 ct40), sl40⟩) (d40 : codeIn K cd40 "Order.__call__" = true) (k40 : keepIn K (.ref g40) = true)
    (fa41 : findIn K (.ref CO) "__eq__" = some (some (.ref g41))) (fn41 : isFn K (.ref g41) = true)
    (l41 : K.lookup g41 = some ⟨oc41, od41, .func (fnOf "__eq__" "Order.__eq__" (defArgs sOEq) (defBody sOEq) (defScope sOEq) .none kV41 dc41 pm41 an41 cd41 ct41), sl41⟩) (d41 : codeIn K cd41 "Order.__eq__" = true) (k41 : keepIn K (.ref g41) = true)
    (fiX : fnIn K g40 = true)
    (z0 : nsIn K mainGlobals "super" = some none) (z1 : nsIn K mainGlobals "enumerate" = some none) (z2 : nsIn K mainGlobals "list" = some none) (z3 : nsIn K mainGlobals "isinstance" = some none) (z4 : nsIn K mainGlobals "int" = some none) (z5 : nsIn K mainGlobals "bool" = some none) (z6 : nsIn K mainGlobals "str" = some none) (z7 : nsIn K mainGlobals "tuple" = some none) (z8 : nsIn K mainGlobals "len" = some none) (z9 : nsIn K mainGlobals "all" = some none) (z10 : nsIn K mainGlobals "max" = some none) (z11 : nsIn K mainGlobals "abs" = some none) (z12 : nsIn K mainGlobals "min" = some none) (z13 : nsIn K mainGlobals "range" = some none) (z14 : nsIn K mainGlobals "repr" = some none) (z15 : nsIn K mainGlobals "sorted" = some none)
    (v1 : nsIn K mainGlobals "MOST_LETTERS" = some (some (.int n1 t1))) (v2 : nsIn K mainGlobals "MOST_SIGNS" = some (some (.int n2 t2))) (v3 : nsIn K mainGlobals "MOST_ARGUMENTS" = some (some (.int n3 t3))) (v4 : nsIn K mainGlobals "SMALL" = some (some (.str zS t4))) (v5 : nsIn K mainGlobals "CAPITAL" = some (some (.str zU t5))) (w1 : n1 = 8) (w2 : n2 = 5) (w3 : n3 = 3) (w4 : zS = Lc) (w5 : zU = Uc) (kb : lookB K cA cL cT C CO = true)
    : ∃ fd : FuncData, (∀ (s : Shared) (v : Value), BindsTo s fd ⟨[v], []⟩ [("script", v)]) ∧ ∀ base : Heap, K.In base → base.Ns mainGlobals mg → FnG l.prog w K mg base CX0 9 fa fd ["script"] (spLaw9 K) := by
  have e := hfa.symm.trans (mg_of X G a28)
  cases e
  subst w1 w2 w3 w4 w5
  have nn := fun {y : Str} (z : nsIn K mainGlobals y = some none) => mg_none_of X G z
  unfold lookB at kb
  simp only [Bool.and_eq_true, decide_eq_true_eq] at kb
  obtain ⟨b1, b2, b3, b4, b5, b6, b7, b8, b9⟩ := kb
  have F0 := fun_mk (st := sWhole) l0 d0 k0
  have B0 := F0.binds (ps := ["value"]) fun _ _ _ _ _ _ us hl => match us, hl with | [_], _ => rfl
  have F1 := fun_mk (st := sWord) l1 d1 k1
  have B1 := F1.binds (ps := ["value", "letters"]) fun _ _ _ _ _ _ us hl => match us, hl with | [_, _], _ => rfl
  have F2 := fun_mk (st := sTupOf) l2 d2 k2
  have B2 := F2.binds (ps := ["value", "many"]) fun _ _ _ _ _ _ us hl => match us, hl with | [_, _], _ => rfl
  have F3 := fun_mk (st := sChoice) l3 d3 k3
  have B3 := F3.binds (ps := ["value", "names"]) fun _ _ _ _ _ _ us hl => match us, hl with | [_, _], _ => rfl
  have F4 := fun_mk (st := sIsSign) l4 d4 k4
  have B4 := F4.binds (ps := ["value"]) fun _ _ _ _ _ _ us hl => match us, hl with | [_], _ => rfl
  have F5 := fun_mk (st := sIsTerm) l5 d5 k5
  have B5 := F5.binds (ps := ["signs", "value"]) fun _ _ _ _ _ _ us hl => match us, hl with | [_, _], _ => rfl
  have F6 := fun_mk (st := sHead) l6 d6 k6
  have B6 := F6.binds (ps := ["signs", "value"]) fun _ _ _ _ _ _ us hl => match us, hl with | [_, _], _ => rfl
  have F7 := fun_mk (st := sLookT) l7 d7 k7
  have B7 := F7.binds (ps := ["signs", "s", "t"]) fun _ _ _ _ _ _ us hl => match us, hl with | [_, _, _], _ => rfl
  have F8 := fun_mk (st := sFactsOf) l8 d8 k8
  have B8 := F8.binds (ps := ["names", "lots", "ways"]) fun _ _ _ _ _ _ us hl => match us, hl with | [_, _, _], _ => rfl
  have F9 := fun_mk (st := sSteps) l9 d9 k9
  have B9 := F9.binds (ps := ["order", "s", "t"]) fun _ _ _ _ _ _ us hl => match us, hl with | [_, _, _], _ => rfl
  have F10 := fun_mk (st := sShows) l10 d10 k10
  have B10 := F10.binds (ps := ["order", "s", "t", "value"]) fun _ _ _ _ _ _ us hl => match us, hl with | [_, _, _, _], _ => rfl
  have F11 := fun_mk (st := sFeed) l11 d11 k11
  have B11 := F11.binds (ps := ["script", "k"]) fun _ _ _ _ _ _ us hl => match us, hl with | [_, _], _ => rfl
  have F12 := fun_mk (st := sTake) l12 d12 k12
  have B12 := F12.binds (ps := ["feed", "many"]) fun _ _ _ _ _ _ us hl => match us, hl with | [_, _], _ => rfl
  have F13 := fun_mk (st := sPick) l13 d13 k13
  have B13 := F13.binds (ps := ["feed", "some"]) fun _ _ _ _ _ _ us hl => match us, hl with | [_, _], _ => rfl
  have F14 := fun_mk (st := sKnown) l14 d14 k14
  have B14 := F14.binds (ps := []) fun _ _ _ _ _ _ us hl => match us, hl with | [], _ => rfl
  have F15 := fun_mk (st := sDrawn) l15 d15 k15
  have B15 := F15.binds (ps := ["feed"]) fun _ _ _ _ _ _ us hl => match us, hl with | [_], _ => rfl
  have F16 := fun_mk (st := sLways) l16 d16 k16
  have B16 := F16.binds (ps := ["pairs"]) fun _ _ _ _ _ _ us hl => match us, hl with | [_], _ => rfl
  have F17 := fun_mk (st := sTerm) l17 d17 k17
  have B17 := F17.binds (ps := ["feed", "pairs", "deep", "letters"]) fun _ _ _ _ _ _ us hl => match us, hl with | [_, _, _, _], _ => rfl
  have F18 := fun_mk (st := sRows) l18 d18 k18
  have B18 := F18.binds (ps := ["names"]) fun _ _ _ _ _ _ us hl => match us, hl with | [_], _ => rfl
  have F19 := fun_mk (st := sLots) l19 d19 k19
  have B19 := F19.binds (ps := ["names"]) fun _ _ _ _ _ _ us hl => match us, hl with | [_], _ => rfl
  have F20 := fun_mk (st := sOrders) l20 d20 k20
  have B20 := F20.binds (ps := ["pairs"]) fun _ _ _ _ _ _ us hl => match us, hl with | [_], _ => rfl
  have F21 := fun_mk (st := sPO) l21 d21 k21
  have B21 := F21.binds (ps := ["pairs", "order"]) fun _ _ _ _ _ _ us hl => match us, hl with | [_, _], _ => rfl
  have F22 := fun_mk (st := sBad) l22 d22 k22
  have B22 := F22.binds (ps := ["pairs"]) fun _ _ _ _ _ _ us hl => match us, hl with | [_], _ => rfl
  have F23 := fun_mk (st := sNear) l23 d23 k23
  have B23 := F23.binds (ps := ["pairs"]) fun _ _ _ _ _ _ us hl => match us, hl with | [_], _ => rfl
  have F24 := fun_mk (st := sMadeO) l24 d24 k24
  have B24 := F24.binds (ps := ["signs", "names", "lots"]) fun _ _ _ _ _ _ us hl => match us, hl with | [_, _, _], _ => rfl
  have F25 := fun_mk (st := sBadT) l25 d25 k25
  have B25 := F25.binds (ps := ["nth", "made", "s", "t"]) fun _ _ _ _ _ _ us hl => match us, hl with | [_, _, _, _], _ => rfl
  have F26 := fun_mk (st := sOddL) l26 d26 k26
  have B26 := F26.binds (ps := ["feed", "some"]) fun _ _ _ _ _ _ us hl => match us, hl with | [_, _], _ => rfl
  have F27 := fun_mk (st := sRest) l27 d27 k27
  have B27 := F27.binds (ps := ["feed", "pairs", "signs", "order", "made"]) fun _ _ _ _ _ _ us hl => match us, hl with | [_, _, _, _, _], _ => rfl
  have F28 := fun_mk (st := sLaw9) l28 d28 k28
  have F29 := fun_mk (st := sInit) l29 d29 k29
  have B29 := F29.binds (ps := ["self", "pairs"]) fun _ _ _ _ _ _ us hl => match us, hl with | [_, _], _ => rfl
  have F30 := fun_mk (st := sNames) l30 d30 k30
  have B30 := F30.binds (ps := ["self"]) fun _ _ _ _ _ _ us hl => match us, hl with | [_], _ => rfl
  have F31 := fun_mk (st := sWays) l31 d31 k31
  have B31 := F31.binds (ps := ["self"]) fun _ _ _ _ _ _ us hl => match us, hl with | [_], _ => rfl
  have F32 := fun_mk (st := sArity) l32 d32 k32
  have B32 := F32.binds (ps := ["self", "name"]) fun _ _ _ _ _ _ us hl => match us, hl with | [_, _], _ => rfl
  have F33 := fun_mk (st := sHas) l33 d33 k33
  have B33 := F33.binds (ps := ["self", "name"]) fun _ _ _ _ _ _ us hl => match us, hl with | [_, _], _ => rfl
  have F34 := fun_mk (st := sLen) l34 d34 k34
  have B34 := F34.binds (ps := ["self"]) fun _ _ _ _ _ _ us hl => match us, hl with | [_], _ => rfl
  have F35 := fun_mk (st := sEq) l35 d35 k35
  have B35 := F35.binds (ps := ["self", "other"]) fun _ _ _ _ _ _ us hl => match us, hl with | [_, _], _ => rfl
  have F36 := fun_mk (st := sOInit) l36 d36 k36
  have B36 := F36.binds (ps := ["self", "signs", "names", "lots"]) fun _ _ _ _ _ _ us hl => match us, hl with | [_, _, _, _], _ => rfl
  have F37 := fun_mk (st := sONames) l37 d37 k37
  have B37 := F37.binds (ps := ["self"]) fun _ _ _ _ _ _ us hl => match us, hl with | [_], _ => rfl
  have F38 := fun_mk (st := sOLots) l38 d38 k38
  have B38 := F38.binds (ps := ["self"]) fun _ _ _ _ _ _ us hl => match us, hl with | [_], _ => rfl
  have F39 := fun_mk (st := sOFacts) l39 d39 k39
  have B39 := F39.binds (ps := ["self"]) fun _ _ _ _ _ _ us hl => match us, hl with | [_], _ => rfl
  have F40 := fun_mk (st := sOCall) l40 d40 k40
  have B40 := F40.binds (ps := ["self", "s", "t"]) fun _ _ _ _ _ _ us hl => match us, hl with | [_, _, _], _ => rfl
  have F41 := fun_mk (st := sOEq) l41 d41 k41
  have B41 := F41.binds (ps := ["self", "other"]) fun _ _ _ _ _ _ us hl => match us, hl with | [_, _], _ => rfl
  have TK : KTxt mg := ⟨nn z3, nn z4, nn z5, nn z6, nn z7, nn z8, nn z9, ⟨t1, mg_of X G v1⟩⟩
  have DT : DTxt mg := ⟨nn z8, nn z10, nn z11, nn z4⟩
  have LT : LTxt9 mg := ⟨nn z13, nn z10, nn z12, nn z8, nn z2, nn z14, nn z3, nn z7⟩
  have RT9 : RTxt mg := ⟨TK, nn z13, nn z2⟩
  have KN : Kn K mg g0 g1 g2 _ _ _ := ⟨TK, F0, F1, F2, mg_of X G a0, mg_of X G a1, mg_of X G a2, ⟨t4, mg_of X G v4⟩, ⟨t3, mg_of X G v3⟩⟩
  have KE1 : Ke l.prog K mg cN cC cB cS eN eC eB eS := ⟨h0.e, h1.e, h2.e, h3.e, h0.g, h1.g, h2.g, h3.g, h0.r, h1.r, h2.r, h3.r, nn z0, nn z1, nn z2, ⟨t2, mg_of X G v2⟩⟩
  have KEO : KeO l.prog K mg cA cL eA eL := ⟨h5.e, h6.e, h5.g, h6.g, h5.r, h6.r, nn z0⟩
  have KET : KeT l.prog K mg cT eT := ⟨h4.e, h4.g, h4.r, nn z0⟩
  have KXO : KxO K cA cL := ⟨b1, b2, b3⟩
  have KXT : KxT K cT := ⟨b4, h4.xf, h4.e.noF _ rfl⟩
  have SC : SClx K C := ⟨⟨⟨pgC, hdC, poC, saC⟩, na0C⟩, caC, cgX, ctX, cmC, b5, b6⟩
  have OC : OClx K CO := ⟨⟨⟨pgCO, hdCO, poCO, saCO⟩, na0CO, na1CO, na2CO, na3CO⟩, caCO, cgX, ctX, cmCO, b7, b8, b9⟩
  refine ⟨fnOf "law" "law" (defArgs sLaw9) (defBody sLaw9) (defScope sLaw9) .none kV28 dc28 pm28 an28 cd28 ct28, fun s v => .of_eq rfl, fun base _ _ => ?_⟩
  have hH : HasAt K C g33 _ := ⟨F33, fa33, fn33⟩
  have MK : MkS l.prog w K mg base cN cC cB C g29 _ := ⟨⟨mkC, fa29, fn29, kC⟩, ok_init F29 KN F4 (mg_of X G a4) KE1 SC.toSCl, B29, mg_of X G aC⟩
  have SM : SgM l.prog w K mg base C g34 pp30 g30 pp31 g31 g35 g33 _ _ _ _ _ := ⟨SC, fa34, fn34, ok_len F34 TK SC.toSCl, B34, ⟨fa30, fg30, ft30, _, fr30⟩, ok_names F30 (nn z2) SC.toSCl, B30, ⟨fa31, fg31, ft31, _, fr31⟩, ok_ways F31 (nn z15) SC.toSCl, B31, fa35, fn35, ok_eq F35 TK (nn z2) (mg_of X G aC) SC, B35, neC, fa33, fn33, ok_has F33 TK SC.toSCl, B33, nfC, nfLC⟩
  have AA : ArAt l.prog w K mg base cS C g32 _ := ⟨⟨fa32, fn32, k32⟩, ok_arity F32 TK KE1 SC.toSCl hH, B32⟩
  have GF : Cal l.prog w K mg base CX0 1 "_law_feed" g11 _ ["script", "k"] (spFeed K) := ⟨ok_feed F11 DT, mg_of X G a11, k11, B11⟩
  have GT : Cal l.prog w K mg base CX0 1 "_law_take" g12 _ ["feed", "many"] spTake := ⟨ok_take F12 DT, mg_of X G a12, k12, B12⟩
  have GP : Cal l.prog w K mg base CX0 2 "_law_pick" g13 _ ["feed", "some"] (spPick K) := ⟨ok_pick F13 DT F12 B12 (mg_of X G a12), mg_of X G a13, k13, B13⟩
  have GK : Cal l.prog w K mg base CX0 1 "_law_known_signs" g14 _ [] (spKnown K) := ⟨ok_known F14, mg_of X G a14, k14, B14⟩
  have GD : Cal l.prog w K mg base CX0 3 "_law_drawn_signs" g15 _ ["feed"] (spDrawn K) := ⟨ok_drawn F15 GT GP GK (nn z4) (nn z13), mg_of X G a15, k15, B15⟩
  have GW : Cal l.prog w K mg base CX0 1 "is_word" g1 _ ["value", "letters"] (spWord K) := ⟨ok_word F1 TK, mg_of X G a1, k1, B1⟩
  have GH : Cal l.prog w K mg base CX0 3 "_has_head" g6 _ ["signs", "value"] (spHead K C) := ⟨ok_head F6 TK SC.toSCl hH AA, mg_of X G a6, k6, B6⟩
  have GI : Cal l.prog w K mg base CX0 4 "is_term" g5 _ ["signs", "value"] (spIsT K C) := ⟨ok_isTerm F5 TK GH GW ⟨t5, mg_of X G v5⟩, mg_of X G a5, k5, B5⟩
  have GM : Cal l.prog w K mg base CX0 5 "_law_term" g17 _ ["feed", "pairs", "deep", "letters"] (spTerm K 3) := ⟨ok_term F17 (mg_of X G a17) GT GP (nn z10) (nn z7) (nn z13) 3, mg_of X G a17, k17, B17⟩
  have GB : Cal l.prog w K mg base CX0 1 "_law_bad_terms" g22 _ ["pairs"] (spBad K) := ⟨ok_bad F22, mg_of X G a22, k22, B22⟩
  have GLw : Cal l.prog w K mg base CX0 1 "_law_ways" g16 _ ["pairs"] (spLw K) := ⟨ok_lways F16 (nn z15), mg_of X G a16, k16, B16⟩
  have GN : Cal l.prog w K mg base CX0 1 "_law_near_signs" g23 _ ["pairs"] (spNear K) := ⟨ok_near F23, mg_of X G a23, k23, B23⟩
  have GC : Cal l.prog w K mg base CX0 1 "is_choice" g3 _ ["value", "names"] (spChoice K) := ⟨ok_choice F3 TK (nn z2), mg_of X G a3, k3, B3⟩
  have GFo : Cal l.prog w K mg base CX0 1 "_facts_of" g8 _ ["names", "lots", "ways"] (spFactsOf K) := ⟨ok_factsOf F8 (nn z1) (nn z15) (nn z7), mg_of X G a8, k8, B8⟩
  have MO : MkO l.prog w K mg base cA cL C CO g36 _ := ⟨⟨mkCO, fa36, fn36, kCO⟩, ok_oinit F36 TK KEO OC.toOCl SM GC GFo (nn z2) (nn z15), B36, mg_of X G aCO⟩
  have GLk : Cal l.prog w K mg base (L2.CX l.prog w) 5 "look_at_terms" g7 _ ["signs", "s", "t"] (spLookT K cT C) := ⟨ok_lookT F7 KET GI, mg_of X G a7, k7, B7⟩
  have GS : Cal l.prog w K mg base (L2.CX l.prog w) 6 "steps" g9 _ ["order", "s", "t"] (spRef K cT C CO) := ⟨ok_stepsR F9 OC.toOCl GLk, mg_of X G a9, k9, B9⟩
  have GSh : Cal l.prog w K mg base (L2.CX l.prog w) 6 "shows_steps" g10 _ ["order", "s", "t", "value"] (spRef3 K cT C CO) := ⟨ok_showsR F10 OC.toOCl GLk, mg_of X G a10, k10, B10⟩
  have OCc : OCall l.prog w K mg base cT C CO g40 _ := ⟨⟨fa40, fn40, fiX⟩, ok_ocall F40 OC.toOCl GLk, B40⟩
  have OM : OrM l.prog w K mg base C CO pp37 g37 pp38 g38 pp39 g39 g41 _ _ _ _ := ⟨OC, ⟨fa37, fg37, ft37, _, fr37⟩, ok_onames F37 (nn z2) OC.toOCl, B37, ⟨fa38, fg38, ft38, _, fr38⟩, ok_olots F38 (nn z2) OC.toOCl, B38, ⟨fa39, fg39, ft39, _, fr39⟩, ok_ofacts F39 OC.toOCl, B39, fa41, fn41, ok_oeq F41 TK (mg_of X G aCO) OC SM, B41, neCO, nfCO, nfLCO, nfN⟩
  have GRw : Cal l.prog w K mg base CX0 6 "_law_rows" g18 _ ["names"] (spRows K 6) := ⟨ok_rows F18 (mg_of X G a18) 6, mg_of X G a18, k18, B18⟩
  have GLo : Cal l.prog w K mg base CX0 1 "_law_lots" g19 _ ["names"] (spLots K) := ⟨ok_lots F19 (nn z15), mg_of X G a19, k19, B19⟩
  have GOd : Cal l.prog w K mg base CX0 7 "_law_orders" g20 _ ["pairs"] (spOrders K) := ⟨ok_orders F20 GRw GLo GLw, mg_of X G a20, k20, B20⟩
  have GPo : Cal l.prog w K mg base CX0 5 "_law_program_order" g21 _ ["pairs", "order"] (spPO K C CO) := ⟨ok_po F21 MK MO (nn z2), mg_of X G a21, k21, B21⟩
  have GMd : Cal l.prog w K mg base CX0 5 "_law_made" g24 _ ["signs", "names", "lots"] (spMadeO K C CO) := ⟨ok_madeO F24 KEO KXO MO, mg_of X G a24, k24, B24⟩
  have GG : CalG l.prog w K mg base CX0 7 "_law_bad" g25 _ ["nth", "made", "s", "t"] (spBadT K C CO) := ⟨ok_badT F25 KET KXT OCc GS GSh (nn z14), mg_of X G a25, k25, B25⟩
  have GO : Cal l.prog w K mg base CX0 2 "_law_odd_lists" g26 _ ["feed", "some"] (spOddL K) := ⟨ok_oddL F26 TK GT, mg_of X G a26, k26, B26⟩
  have GR : Cal l.prog w K mg base CX0 8 "_law_rest_right" g27 _ ["feed", "pairs", "signs", "order", "made"] (spRest K C CO) := ⟨ok_rest F27 RT9 MK MO OM GMd GO GN GLw GOd GP GPo, mg_of X G a27, k27, B27⟩
  exact ok_law9 F28 LT MK OM SM (mg_of X G aCO) GF GD GP GMd GO GOd GR GM GB GG
theorem walk {l : OpenLaw} {q : Program} {loose : List Str} {XP : (Str → Option Value) → Heap → Prop} {YP : World → Heap → Prop} {d : DefRec} {K : Params → Frag} (hn : l.most = some 63) (hdf : d.params.defaults = []) (hY : ∀ (w : World) (h : Heap), YP w h → (K w.params).In h)
    (F : ∀ (w : World) (mg : Str → Option Value) (fa : Addr) (h : Heap), (K w.params).In h → h.Ns mainGlobals mg → mg d.name = some (.ref fa) →
      ∃ fd : FuncData, (∀ (s : Shared) (u : Value), BindsTo s fd ⟨[u], []⟩ [("script", u)]) ∧ ∀ base : Heap, (K w.params).In base → base.Ns mainGlobals mg → FnG l.prog w (K w.params) mg base CX0 9 fa fd ["script"] (spLaw9 (K w.params))) :
    WalkO q loose XP YP l.row.toRowW d [] (fun f vs => PySem.call f vs) :=
  walkG (n := 63) (k := 9) (x := "script") (CX := fun _ => CX0) (sp := fun w => spLaw9 (K w.params)) hn (by decide) hdf ⟨rfl, by decide, by decide⟩ hY F (fun _ _ a ns hl _ hS => ⟨a, ns, rfl, hS, Nat.lt_of_le_of_lt hl (by decide), fun _ => rfl⟩) fun _ _ _ _ _ z => z
end Sg

open PySem PySem.W PyProof.Rows
local macro_rules | `(tactic| walk_at "mkcl") => `(tactic| (
  refine' Sg.mkCl1 (by assumption) (by assumption) ?any ?top ?aC ?kC ?hC ?hbm ?sa ?iC ?tI ?lF ?hcd ?lc ?hv ?hfile ?lcell ?along ?subVE ?mro ?noF ?ga ?gg ?exC ?hdC ?tC ?ev ?bd ?kS ?kF ?kL ?kP;
  (case any => k_is); (case top => decide +kernel); (case aC => k_is); (case kC => k_is); (case hC => k_is); (case hbm => rfl); (case sa => k_is); (case iC => k_is); (case tI => k_is);
  (case lF => k_is); (case hcd => k_is); (case lc => k_is); (case hv => rfl); (case hfile => decide +kernel); (case lcell => k_is); (case along => kernel_rfl); (case subVE => k_is); (case mro => k_is);
  (case noF => (intro y hy; cases hy; try k_is)); (case ga => k_is); (case gg => k_is); (case exC => k_is); (case hdC => k_is); (case tC => k_is);
  (case ev => exact fun env => ⟨⟨_, rfl⟩, rfl⟩); (case bd => first | exact fun e v => ⟨rfl, rfl⟩ | exact fun e => rfl); (case kS => rfl); (case kF => rfl); (case kL => rfl); (case kP => (intro y hy; cases hy; try decide +kernel)); (all_goals exact (⟨0, 0, 0, 0⟩ : Pos))))
set_option maxRecDepth 100000 in
set_option maxHeartbeats 0 in
theorem PySem.Challenge.cw_shutbyrings_k09_what_is_an_order_holds : PySem.Challenge.rw_shutbyrings_k09_what_is_an_order.Holds := by
  w_on; o_law; k_head; (case hw => w_witness2)
  k_fill
  refine Sg.walk (l := PySem.Challenge.rw_shutbyrings_k09_what_is_an_order) rfl rfl (fun w h Y => PySem.W.kIn_of Y) ?F
  case F =>
    intro w mg fa h KX G hmg
    refine' Sg.all_mk KX G hmg ?h0 ?h1 ?h2 ?h3 ?h4 ?h5 ?h6 ?a0 ?l0 ?d0 ?k0 ?a1 ?l1 ?d1 ?k1 ?a2 ?l2 ?d2 ?k2 ?a3 ?l3 ?d3 ?k3 ?a4 ?l4 ?d4 ?k4 ?a5 ?l5 ?d5 ?k5 ?a6 ?l6 ?d6 ?k6 ?a7 ?l7 ?d7 ?k7 ?a8 ?l8 ?d8 ?k8 ?a9 ?l9 ?d9 ?k9 ?a10 ?l10 ?d10 ?k10 ?a11 ?l11 ?d11 ?k11 ?a12 ?l12 ?d12 ?k12 ?a13 ?l13 ?d13 ?k13 ?a14 ?l14 ?d14 ?k14 ?a15 ?l15 ?d15 ?k15 ?a16 ?l16 ?d16 ?k16 ?a17 ?l17 ?d17 ?k17 ?a18 ?l18 ?d18 ?k18 ?a19 ?l19 ?d19 ?k19 ?a20 ?l20 ?d20 ?k20 ?a21 ?l21 ?d21 ?k21 ?a22 ?l22 ?d22 ?k22 ?a23 ?l23 ?d23 ?k23 ?a24 ?l24 ?d24 ?k24 ?a25 ?l25 ?d25 ?k25 ?a26 ?l26 ?d26 ?k26 ?a27 ?l27 ?d27 ?k27 ?a28 ?l28 ?d28 ?k28 ?aC ?kC ?mkC ?pgC ?hdC ?poC ?saC ?caC ?cmC ?neC ?nfC ?nfLC ?na0C ?aCO ?kCO ?mkCO ?pgCO ?hdCO ?poCO ?saCO ?caCO ?cmCO ?neCO ?nfCO ?nfLCO ?na0CO ?na1CO ?na2CO ?na3CO ?cgX ?ctX ?nfN ?fa29 ?fn29 ?l29 ?d29 ?k29 ?fa30 ?fg30 ?ft30 ?fr30 ?l30 ?d30 ?k30 ?fa31 ?fg31 ?ft31 ?fr31 ?l31 ?d31 ?k31 ?fa32 ?fn32 ?l32 ?d32 ?k32 ?fa33 ?fn33 ?l33 ?d33 ?k33 ?fa34 ?fn34 ?l34 ?d34 ?k34 ?fa35 ?fn35 ?l35 ?d35 ?k35 ?fa36 ?fn36 ?l36 ?d36 ?k36 ?fa37 ?fg37 ?ft37 ?fr37 ?l37 ?d37 ?k37 ?fa38 ?fg38 ?ft38 ?fr38 ?l38 ?d38 ?k38 ?fa39 ?fg39 ?ft39 ?fr39 ?l39 ?d39 ?k39 ?fa40 ?fn40 ?l40 ?d40 ?k40 ?fa41 ?fn41 ?l41 ?d41 ?k41 ?fiX ?z0 ?z1 ?z2 ?z3 ?z4 ?z5 ?z6 ?z7 ?z8 ?z9 ?z10 ?z11 ?z12 ?z13 ?z14 ?z15 ?v1 ?v2 ?v3 ?v4 ?v5 ?w1 ?w2 ?w3 ?w4 ?w5 ?kb
    (case h0 => walk_at "mkcl")
    (case h1 => walk_at "mkcl")
    (case h2 => walk_at "mkcl")
    (case h3 => walk_at "mkcl")
    (case h4 => walk_at "mkcl")
    (case h5 => walk_at "mkcl")
    (case h6 => walk_at "mkcl")
    (case a0 => k_is)
    (case l0 => k_is)
    (case d0 => k_is)
    (case k0 => k_is)
    (case a1 => k_is)
    (case l1 => k_is)
    (case d1 => k_is)
    (case k1 => k_is)
    (case a2 => k_is)
    (case l2 => k_is)
    (case d2 => k_is)
    (case k2 => k_is)
    (case a3 => k_is)
    (case l3 => k_is)
    (case d3 => k_is)
    (case k3 => k_is)
    (case a4 => k_is)
    (case l4 => k_is)
    (case d4 => k_is)
    (case k4 => k_is)
    (case a5 => k_is)
    (case l5 => k_is)
    (case d5 => k_is)
    (case k5 => k_is)
    (case a6 => k_is)
    (case l6 => k_is)
    (case d6 => k_is)
    (case k6 => k_is)
    (case a7 => k_is)
    (case l7 => k_is)
    (case d7 => k_is)
    (case k7 => k_is)
    (case a8 => k_is)
    (case l8 => k_is)
    (case d8 => k_is)
    (case k8 => k_is)
    (case a9 => k_is)
    (case l9 => k_is)
    (case d9 => k_is)
    (case k9 => k_is)
    (case a10 => k_is)
    (case l10 => k_is)
    (case d10 => k_is)
    (case k10 => k_is)
    (case a11 => k_is)
    (case l11 => k_is)
    (case d11 => k_is)
    (case k11 => k_is)
    (case a12 => k_is)
    (case l12 => k_is)
    (case d12 => k_is)
    (case k12 => k_is)
    (case a13 => k_is)
    (case l13 => k_is)
    (case d13 => k_is)
    (case k13 => k_is)
    (case a14 => k_is)
    (case l14 => k_is)
    (case d14 => k_is)
    (case k14 => k_is)
    (case a15 => k_is)
    (case l15 => k_is)
    (case d15 => k_is)
    (case k15 => k_is)
    (case a16 => k_is)
    (case l16 => k_is)
    (case d16 => k_is)
    (case k16 => k_is)
    (case a17 => k_is)
    (case l17 => k_is)
    (case d17 => k_is)
    (case k17 => k_is)
    (case a18 => k_is)
    (case l18 => k_is)
    (case d18 => k_is)
    (case k18 => k_is)
    (case a19 => k_is)
    (case l19 => k_is)
    (case d19 => k_is)
    (case k19 => k_is)
    (case a20 => k_is)
    (case l20 => k_is)
    (case d20 => k_is)
    (case k20 => k_is)
    (case a21 => k_is)
    (case l21 => k_is)
    (case d21 => k_is)
    (case k21 => k_is)
    (case a22 => k_is)
    (case l22 => k_is)
    (case d22 => k_is)
    (case k22 => k_is)
    (case a23 => k_is)
    (case l23 => k_is)
    (case d23 => k_is)
    (case k23 => k_is)
    (case a24 => k_is)
    (case l24 => k_is)
    (case d24 => k_is)
    (case k24 => k_is)
    (case a25 => k_is)
    (case l25 => k_is)
    (case d25 => k_is)
    (case k25 => k_is)
    (case a26 => k_is)
    (case l26 => k_is)
    (case d26 => k_is)
    (case k26 => k_is)
    (case a27 => k_is)
    (case l27 => k_is)
    (case d27 => k_is)
    (case k27 => k_is)
    (case a28 => k_is)
    (case l28 => k_is)
    (case d28 => k_is)
    (case k28 => k_is)
    (case aC => k_is)
    (case kC => k_is)
    (case mkC => k_is)
    (case pgC => k_is)
    (case hdC => k_is)
    (case poC => k_is)
    (case saC => k_is)
    (case caC => k_is)
    (case cmC => k_is)
    (case neC => k_is)
    (case nfC => k_is)
    (case nfLC => k_is)
    (case na0C => k_is)
    (case aCO => k_is)
    (case kCO => k_is)
    (case mkCO => k_is)
    (case pgCO => k_is)
    (case hdCO => k_is)
    (case poCO => k_is)
    (case saCO => k_is)
    (case caCO => k_is)
    (case cmCO => k_is)
    (case neCO => k_is)
    (case nfCO => k_is)
    (case nfLCO => k_is)
    (case na0CO => k_is)
    (case na1CO => k_is)
    (case na2CO => k_is)
    (case na3CO => k_is)
    (case cgX => k_is)
    (case ctX => k_is)
    (case nfN => k_is)
    (case fa29 => k_is)
    (case fn29 => k_is)
    (case l29 => k_is)
    (case d29 => k_is)
    (case k29 => k_is)
    (case fa30 => k_is)
    (case fg30 => k_is)
    (case ft30 => k_is)
    (case fr30 => k_is)
    (case l30 => k_is)
    (case d30 => k_is)
    (case k30 => k_is)
    (case fa31 => k_is)
    (case fg31 => k_is)
    (case ft31 => k_is)
    (case fr31 => k_is)
    (case l31 => k_is)
    (case d31 => k_is)
    (case k31 => k_is)
    (case fa32 => k_is)
    (case fn32 => k_is)
    (case l32 => k_is)
    (case d32 => k_is)
    (case k32 => k_is)
    (case fa33 => k_is)
    (case fn33 => k_is)
    (case l33 => k_is)
    (case d33 => k_is)
    (case k33 => k_is)
    (case fa34 => k_is)
    (case fn34 => k_is)
    (case l34 => k_is)
    (case d34 => k_is)
    (case k34 => k_is)
    (case fa35 => k_is)
    (case fn35 => k_is)
    (case l35 => k_is)
    (case d35 => k_is)
    (case k35 => k_is)
    (case fa36 => k_is)
    (case fn36 => k_is)
    (case l36 => k_is)
    (case d36 => k_is)
    (case k36 => k_is)
    (case fa37 => k_is)
    (case fg37 => k_is)
    (case ft37 => k_is)
    (case fr37 => k_is)
    (case l37 => k_is)
    (case d37 => k_is)
    (case k37 => k_is)
    (case fa38 => k_is)
    (case fg38 => k_is)
    (case ft38 => k_is)
    (case fr38 => k_is)
    (case l38 => k_is)
    (case d38 => k_is)
    (case k38 => k_is)
    (case fa39 => k_is)
    (case fg39 => k_is)
    (case ft39 => k_is)
    (case fr39 => k_is)
    (case l39 => k_is)
    (case d39 => k_is)
    (case k39 => k_is)
    (case fa40 => k_is)
    (case fn40 => k_is)
    (case l40 => k_is)
    (case d40 => k_is)
    (case k40 => k_is)
    (case fa41 => k_is)
    (case fn41 => k_is)
    (case l41 => k_is)
    (case d41 => k_is)
    (case k41 => k_is)
    (case z0 => k_is)
    (case z1 => k_is)
    (case z2 => k_is)
    (case z3 => k_is)
    (case z4 => k_is)
    (case z5 => k_is)
    (case z6 => k_is)
    (case z7 => k_is)
    (case z8 => k_is)
    (case z9 => k_is)
    (case z10 => k_is)
    (case z11 => k_is)
    (case z12 => k_is)
    (case z13 => k_is)
    (case z14 => k_is)
    (case z15 => k_is)
    (case fiX => first | k_is | kernel_rfl | rfl)
    (case v1 => k_is); (case v2 => k_is); (case v3 => k_is); (case v4 => k_is); (case v5 => k_is)
    (case w1 => rfl); (case w2 => rfl); (case w3 => rfl); (case w4 => decide +kernel); (case w5 => decide +kernel)
    (case kb => kernel_rfl)
