import PyProof.Rows.All
import Wide.All
import OpenK.AllK
import Wide.FinOn
import HandS.Base
import HandS.Call
import HandS.List
import HandS.Ends
import HandS.Words
import HandS.WordsList
import HandS.More
import HandS.EndBits
import KE.KExcSuper
import HandS.Exc
import HandS.ExcInit
import HandS.ExcField
import HandS.ExcIs
import KE.KExcIs
import HandS.ForMost
import HandS.Walk
import HandS.ExcValue
import PySem.Challenge.RW_shutbyrings_k56_errors_and_fields
set_option Elab.async false
set_option linter.all false
set_option maxRecDepth 100000
set_option maxHeartbeats 2000000
namespace Dr
open PySem L2 PyProof.Rows
def top (i : Nat) : Stmt := PySem.Challenge.pw_shutbyrings_k56_errors_and_fields.main.body.getD i (.Pass ⟨0, 0, 0, 0⟩)
abbrev sFeed : Stmt := top 25
abbrev sTake : Stmt := top 26
abbrev sPick : Stmt := top 27
structure DTxt (mg : Str → Option Value) : Prop where
  len : mg "len" = none
  max : mg "max" = none
  abs : mg "abs" = none
  int : mg "int" = none
def feedO (x y : Int) : HO := .lst [.int x, .int y]
def spFeed (K : PySem.W.Frag) : Sp := fun vs H Q _ => ∃ (a : Addr) (ns : List Int) (k : Nat), vs = [.ref a, .int (k : Int)] ∧ SqL K H a (ns.map V.int) ∧ k < 1000 ∧
  ∀ (p : Addr) (x y : Int), H p = none → Q (.ref p) (upd H p (feedO x y))
def spTake : Sp := fun vs H Q _ => ∃ (p : Addr) (x y m : Int), vs = [.ref p, .int m] ∧ H p = some (feedO x y) ∧ 0 < m ∧ m < 1000000 ∧
  ∀ (r x' y' : Int), 0 ≤ r → r < m → Q (.int r) (upd H p (feedO x' y'))
section
variable {P : Program} {w : World} {K : PySem.W.Frag} {mg : Str → Option Value} {base : Heap}
theorem scF : FnScope ["script", "k", "cell", "digits", "state"] ["script", "k"] (defScope sFeed) := ⟨rfl, rfl, rfl, by decide +kernel, rfl, by decide +kernel, by decide +kernel⟩
theorem ok_feed {f : Addr} {fd : FuncData} (F : Fun K "_law_feed" "_law_feed" sFeed f fd) (T : DTxt mg) : FnOk P w K mg base CX0 1 f fd ["script", "k"] (spFeed K) := by
  refine F.ok scF (fun vs H Q E h => ?_) (fun cdv A outer s H vs Q E hr h => ?_)
  · obtain ⟨a, ns, k, rfl, _⟩ := h
    rfl
  · obtain ⟨a, ns, k, rfl, hs, hk, q⟩ := h
    refine ⟨_, pss_cons (ps_set (i := 2) scF.nd rfl (Or.inl rfl) (pe_ifExp (pt_cmpR op_lt (pv 1) (pe_callB call_len (by rfl) T.len PySem.boot_len (pa_cons (pv 0) pa_nil)) (nomark _)) (pe_ix ix_list (pv 0) (pv 1) fun _ _ => rfl) (pe_op op_add (pe_op op_mul pe_int (pv 1)) pe_int)))
      (pss_cons (ps_set (i := 3) scF.nd rfl (Or.inl rfl) (pe_callB (call_max2 rfl) (by rfl) T.max boot_max (pa_cons pe_int (pa_cons (pe_op op_sub (pe_callB call_abs (by rfl) T.abs boot_abs (pa_cons (pv 2) pa_nil)) (pe_op op_pow pe_int pe_int)) pa_nil))))
      (pss_cons (ps_set (i := 4) scF.nd rfl (Or.inl rfl) (pe_op op_mod (pe_callTy call_int1 (by rfl) T.int (by decide +kernel) (pa_cons (pe_op op_add (pe_op op_add (pe_op op_mul (pv 2) pe_int) (pe_op op_mul pe_int (pv 1))) pe_int) pa_nil)) pe_int))
      (pss_one (ps_ret (pe_lst (pa_cons (pv 3) (pa_cons (pv 4) pa_nil))))))), ?_⟩
    refine ⟨_, rfl, _, rfl, _, _, rfl, .inl ⟨_, hs, rfl⟩, _, _, rfl, rfl, _, rfl, ?_⟩
    have he : (10 : Int) ^ (18 : Int).toNat = 1000000000000000000 := by decide
    have h7 : CMul 7919 (k : Int) := .inl ⟨by decide, by decide⟩
    have hC : ∀ c : Int, CMul c 6364136223846793005 := fun c => .inr ⟨by decide, by decide⟩
    have hP : CPow 10 18 := ⟨by decide, by decide, by decide⟩
    refine ite2 (fun h1 => ?_) (fun h1 => ?_)
    · have hkl : k < (ns.map V.int).length := by
        have := of_decide_eq_true h1
        omega
      obtain ⟨c, hc⟩ : ∃ c : Int, (ns.map V.int)[k]? = some (V.int c) := by
        rw [List.length_map] at hkl
        exact ⟨ns[k], by rw [List.getElem?_map, List.getElem?_eq_getElem hkl]; rfl⟩
      refine ⟨_, rfl, _, rfl, _, _, _, _, rfl, rfl, hs, atI_nat hc, ?_⟩
      refine ⟨_, rfl, _, rfl, _, _, rfl, rfl, hP, _, _, rfl, rfl, _, _, rfl, ?_⟩
      refine ⟨_, rfl, _, _, rfl, rfl, hC _, _, rfl, _, _, rfl, rfl, h7, _, _, rfl, rfl, _, _, rfl, rfl, .inl ⟨_, rfl, _, _, rfl, rfl, (by show (0 : Int) < 2305843009213693951; decide), ?_⟩⟩
      exact ⟨_, rfl, _, rfl, (by show 2 ≤ sizeLine; decide), fun p hp => q p _ _ hp⟩
    · refine ⟨_, rfl, _, _, rfl, rfl, .inl ⟨by decide, by decide⟩, _, _, rfl, rfl, ?_⟩
      refine ⟨_, rfl, _, rfl, _, _, rfl, rfl, hP, _, _, rfl, rfl, _, _, rfl, ?_⟩
      refine ⟨_, rfl, _, _, rfl, rfl, hC _, _, rfl, _, _, rfl, rfl, h7, _, _, rfl, rfl, _, _, rfl, rfl, .inl ⟨_, rfl, _, _, rfl, rfl, (by show (0 : Int) < 2305843009213693951; decide), ?_⟩⟩
      exact ⟨_, rfl, _, rfl, (by show 2 ≤ sizeLine; decide), fun p hp => q p _ _ hp⟩
theorem scT : FnScope ["feed", "many", "digit"] ["feed", "many"] (defScope sTake) := ⟨rfl, rfl, rfl, by decide +kernel, rfl, by decide +kernel, by decide +kernel⟩
theorem feed0 {H : Hp} {p : Addr} {x y : Int} (h : H p = some (feedO x y)) : SqL K H p [.int x, .int y] := SqL.of h
theorem at0 {x y : Int} : atI [V.int x, V.int y] 0 = some (.int x) := rfl
theorem at1 {x y : Int} : atI [V.int x, V.int y] 1 = some (.int y) := rfl
theorem upd2 {H : Hp} {p : Addr} {o u : HO} : upd (upd H p o) p u = upd H p u := by
  funext b
  by_cases h : b = p
  · subst h
    rw [upd_same, upd_same]
  · rw [upd_ne h, upd_ne h, upd_ne h]
theorem ok_take {f : Addr} {fd : FuncData} (F : Fun K "_law_take" "_law_take" sTake f fd) (T : DTxt mg) : FnOk P w K mg base CX0 1 f fd ["feed", "many"] spTake := by
  refine F.ok scT (fun vs H Q E h => ?_) (fun cdv A outer s H vs Q E hr h => ?_)
  · obtain ⟨p, x, y, m, rfl, _⟩ := h
    rfl
  · obtain ⟨p, x, y, m, rfl, hp, hm0, hm1, q⟩ := h
    refine ⟨_, pss_cons (ps_if (pt_cmpR op_gt (pe_ix ix_list (pv 0) pe_int fun _ _ => rfl) pe_int (nomark _))
        (pss_cons (ps_set (i := 2) scT.nd rfl (Or.inl rfl) (pe_op op_mod (pe_callTy call_int1 (by rfl) T.int (by decide +kernel) (pa_cons (pe_ix ix_list (pv 0) pe_int fun _ _ => rfl) pa_nil)) (pv 1)))
        (pss_cons (ps_asg (pe_op op_fdiv (pe_ix ix_list (pv 0) pe_int fun _ _ => rfl) (pv 1)) (pg_sub (pv 0) pe_int set_list))
        (pss_one (ps_ret (pv 2))))) pss_nil)
      (pss_cons (ps_asg (pe_op op_mod (pe_callTy call_int1 (by rfl) T.int (by decide +kernel) (pa_cons (pe_op op_add (pe_op op_mul (pe_ix ix_list (pv 0) pe_int fun _ _ => rfl) pe_int) pe_int) pa_nil)) pe_int) (pg_sub (pv 0) pe_int set_list))
      (pss_one (ps_ret (pe_op op_mod (pe_callTy call_int1 (by rfl) T.int (by decide +kernel) (pa_cons (pe_op op_fdiv (pe_ix ix_list (pv 0) pe_int fun _ _ => rfl) pe_int) pa_nil)) (pv 1))))), ?_⟩
    have hS := feed0 (K := K) hp
    refine ⟨_, rfl, _, _, _, _, rfl, rfl, hS, at0, _, _, rfl, rfl, _, rfl, ?_⟩
    refine ite2 (fun h1 => ?_) (fun h1 => ?_)
    · refine ⟨_, rfl, _, _, _, _, rfl, rfl, hS, at0, .inl ⟨_, rfl, _, rfl, _, _, rfl, rfl, hm0, ?_⟩⟩
      refine ⟨_, rfl, _, _, _, _, rfl, rfl, hS, at0, _, rfl, _, _, rfl, rfl, ⟨hm0, by omega⟩, ?_⟩
      refine ⟨_, rfl, _, _, _, 0, rfl, rfl, hp, rfl, _, rfl, ?_⟩
      exact q _ _ _ (Int.emod_nonneg _ (by omega)) (Int.emod_lt_of_pos _ hm0)
    · refine ⟨_, rfl, _, _, _, _, rfl, rfl, hS, at1, _, _, rfl, rfl, .inr ⟨by decide, by decide⟩, _, _, rfl, rfl, .inl ⟨_, rfl, _, _, rfl, rfl, (by show (0 : Int) < 2305843009213693951; decide), ?_⟩⟩
      refine ⟨_, rfl, _, _, _, 1, rfl, rfl, hp, rfl, ?_⟩
      refine ⟨_, rfl, _, _, _, _, rfl, rfl, SqL.of upd_same, at1, _, _, rfl, rfl, ⟨by decide, by decide⟩, .inl ⟨_, rfl, _, rfl, _, _, rfl, rfl, hm0, ?_⟩⟩
      exact q _ _ _ (Int.emod_nonneg _ (by omega)) (Int.emod_lt_of_pos _ hm0)
def spPick (K : PySem.W.Frag) : Sp := fun vs H Q _ => ∃ (p : Addr) (x y : Int), H p = some (feedO x y) ∧
  ((∃ (l : Addr) (xs : List V), vs = [.ref p, .ref l] ∧ SqL K H l xs ∧ l ≠ p ∧ 0 < xs.length ∧ xs.length < 1000000 ∧
      ∀ (v : V) (x' y' : Int), v ∈ xs → Q v (upd H p (feedO x' y'))) ∨
   (∃ (z : Str), vs = [.ref p, .str z] ∧ 0 < z.length ∧ z.length < 1000000 ∧
      ∀ (c : Nat) (x' y' : Int), c ∈ z.cps.toList → Q (.str ⟨#[c]⟩) (upd H p (feedO x' y'))))
theorem atI_in {α : Type} {xs : List α} {r : Int} (h0 : 0 ≤ r) (h1 : r < (xs.length : Int)) : ∃ v, atI xs r = some v ∧ v ∈ xs := by
  have h2 : r.toNat < xs.length := by omega
  refine ⟨xs[r.toNat], ?_, List.getElem_mem h2⟩
  unfold atI ixN
  rw [if_pos h0, if_pos h1]
  exact List.getElem?_eq_getElem h2
theorem scK : FnScope ["feed", "some"] ["feed", "some"] (defScope sPick) := ⟨rfl, rfl, rfl, by decide +kernel, rfl, by decide +kernel, by decide +kernel⟩
theorem seq_upd {H : Hp} {l p : Addr} {xs : List V} {o : HO} (h : SqL K H l xs) (n : l ≠ p) : SqL K (upd H p o) l xs := by
  rcases h with (h | ⟨u, h⟩) | h
  · exact .inl (.inl (by rw [upd_ne n]; exact h))
  · exact .inl (.inr ⟨u, by rw [upd_ne n]; exact h⟩)
  · exact .inr h
theorem ok_pick {f fT : Addr} {fd fdT : FuncData} (F : Fun K "_law_pick" "_law_pick" sPick f fd) (T : DTxt mg) (FT : Fun K "_law_take" "_law_take" sTake fT fdT) (bT : Binds K fdT ["feed", "many"] []) (gT : mg "_law_take" = some (.ref fT)) :
    FnOk P w K mg base CX0 2 f fd ["feed", "some"] (spPick K) := by
  have GT : FnOk P w K mg base CX0 1 fT fdT ["feed", "many"] spTake := ok_take FT T
  refine F.ok scK (fun vs H Q E h => ?_) (fun cdv A outer s H vs Q E hr h => ?_)
  · obtain ⟨p, x, y, _, ⟨l, xs, rfl, _⟩ | ⟨z, rfl, _⟩⟩ := h <;> rfl
  · refine ⟨_, pss_one (ps_ret (pe_ix ix_seq (pv 1) (pe_call GT hr (by rfl) gT FT.kp bT .nil pass0 (pa_cons (pv 0) (pa_cons (pe_callB call_len (by rfl) T.len PySem.boot_len (pa_cons (pv 1) pa_nil)) pa_nil))) fun _ _ => rfl)), ?_⟩
    obtain ⟨p, x, y, hp, ⟨l, xs, rfl, hl, hn, h0, h1, q⟩ | ⟨z, rfl, h0, h1, q⟩⟩ := h
    · refine ⟨_, rfl, _, rfl, _, rfl, _, _, rfl, .inl ⟨_, hl, rfl⟩, ?_⟩
      refine ⟨p, x, y, _, rfl, hp, by omega, by omega, fun r x' y' hr0 hr1 => ?_⟩
      have e : r = ((r.toNat : Nat) : Int) := by omega
      have hlt : r.toNat < xs.length := by omega
      refine .inl ⟨_, _, _, _, rfl, rfl, seq_upd hl hn, (by rw [e]; exact atI_nat (List.getElem?_eq_getElem hlt)), ?_⟩
      exact q _ _ _ (List.getElem_mem hlt)
    · refine ⟨_, rfl, _, rfl, _, rfl, _, z.length, rfl, ⟨Nat.le_trans (Nat.le_of_lt h1) (by decide), rfl⟩, ?_⟩
      refine ⟨p, x, y, _, rfl, hp, by omega, by omega, fun r x' y' hr0 hr1 => ?_⟩
      have el : z.length = z.cps.toList.length := by simp [Str.length]
      obtain ⟨c, hc, hm⟩ := atI_in (xs := z.cps.toList) hr0 (by omega)
      exact .inr (.inr ⟨_, _, _, rfl, rfl, Nat.le_trans (Nat.le_of_lt h1) (by decide), hc, q _ _ _ hm⟩)
end
end Dr

set_option maxRecDepth 100000
set_option maxHeartbeats 2000000
/-! A promise of a def that is called where no guard stands (so that repr may be asked in it). -/
namespace Gd
open PySem L2 PySem.Spec PyProof.Rows
structure FnG (P : Program) (w : World) (K : PySem.W.Frag) (mg : Str → Option Value) (base : Heap) (CX : CXT) (k : Nat) (f : Addr) (fd : FuncData) (ps : List Str) (sp : Sp) : Prop where
  len : ∀ vs H Q E, sp vs H Q E → vs.length = ps.length
  go : ∀ (A : Around) (outer : List Env) (s : Shared) (H : Hp) (args : Args) (us : List Value) (vs : List V) (Q : VK) (E : XK),
    A.guards = some [] → Room k A → Env0 P w K mg base A outer s H → BindsTo s fd args (ps.zip us) → Vals vs us →
    sp vs H Q E → codeAny (model P w) A (.call (.ref f) args) (CR CX outer P w H s Q E) s
section
variable {P : Program} {w : World} {K : PySem.W.Frag} {mg : Str → Option Value} {base : Heap} {CX : CXT} {k : Nat} {f : Addr} {fd : FuncData} {ps : List Str} {sp : Sp}
theorem FnG.of (F : FnOk P w K mg base CX k f fd ps sp) : FnG P w K mg base CX k f fd ps sp := ⟨F.len, fun A o s H a us vs Q E _ => F.run A o s H a us vs Q E⟩
theorem FnG.weaker {sp' : Sp} (F : FnG P w K mg base CX k f fd ps sp) (h : ∀ vs H Q E, sp' vs H Q E → sp vs H Q E) : FnG P w K mg base CX k f fd ps sp' :=
  ⟨fun vs H Q E q => F.len vs H Q E (h _ _ _ _ q), fun A o s H a us vs Q E g r e b v q => F.go A o s H a us vs Q E g r e b v (h _ _ _ _ q)⟩
theorem okG {x qual : Str} {st : Stmt} {N : List Str} (F : Fun K x qual st f fd) (S : FnScope N ps (defScope st)) (len : ∀ vs H Q E, sp vs H Q E → vs.length = ps.length)
    (body : ∀ (cdv : Value) (A : Around) (outer : List Env) (s : Shared) (H : Hp) (vs : List V) (Q : VK) (E : XK), A.guards = some [] →
      Room k (A.deeper (envOfC qual (defScope st) s.heap.objs.size f cdv)) → sp vs H Q E →
      ∃ t, PSs (cxOf CX P w K mg base N qual (defScope st) f cdv A outer s H E).nox (defBody st) t ∧ t { nx := fun _ H' => Q .non H', rt := Q } (start N vs) H) :
    FnG P w K mg base CX (k + 1) f fd ps sp := by
  obtain ⟨oc, od, kV, doc, pm, an, cdv, ct, osl, rfl, lk, hcd⟩ := F.ex
  constructor
  · exact len
  · intro A outer s H args us vs Q E hg hr e0 hb r hsp
    have nl := len _ _ _ _ hsp
    have kb : ∀ b o, base.get? b = some o → s.heap.get? b = some o := fun b o z => (e0.bs b o z).1
    have KX : K.In s.heap := e0.mod.kin.keeps kb
    have kinds : ∀ y ∈ ps.zip us, (defScope st).names.lookup y.1 = some .local ∨ ((defScope st).names.lookup y.1 = some .cell ∧ ((cellsFrom (s.heap.objs.size + 1) (defScope st).names []).lookup y.1).isSome = true) := by
      rintro ⟨n, v⟩ hy
      cases S.par n (List.of_mem_zip hy).1 with
      | inl q => exact Or.inl q
      | inr q => exact Or.inr ⟨q, PySem.W.cellsFrom_some _ _ _ (Or.inl q)⟩
    refine codeAny_call_function hr.depth (KX _ _ lk) rfl S.co S.gen rfl (PySem.W.codeRec_of KX hcd) (hb _ _ _ _ (wpAny_newFunctionEnv_cells S.kind kinds fun env he s1 x => ?_))
    subst he
    obtain ⟨t, ht, hq⟩ := body cdv A outer s H vs Q E hg (hr.deeper _) hsp
    refine ⟨(e0.mod.nolimit.keeps kb).keeps x.toInCall.keep, codeAny_func ?_⟩
    refine wpAny_mono (ht.nox.run [] s1 (start N vs) H _ (inv_start S hr.hd e0 nl r x) hq) (fun fl s' hs => ?_) fun e s' hs => hs
    cases fl with
    | ret u =>
      obtain ⟨v, σ', H', J, rv, q⟩ := hs
      exact ⟨v, H', J.os, J.bare, J.base, J.hok, rv, q⟩
    | next =>
      obtain ⟨σ', H', J, q⟩ := hs
      exact ⟨V.non, H', J.os, J.bare, J.base, J.hok, rfl, q⟩
    | brk => exact hs.choose_spec.choose_spec.2.elim
    | cont => exact hs.choose_spec.choose_spec.2.elim
end
section
variable {X : Cx} {CX : CXT} {k : Nat} {f : Addr} {fd : FuncData} {ps : List Str} {sp : Sp} {dvs : List V} {ds : List Value} {E : XK} {x : Str} {p pos : Pos} {e : Expr} {es : List Expr} {t : TA}
theorem runG {pins : List (Addr × Obj)} {σ : L2.St} {H : Hp} {s : Shared} {Q : VK} {us : List Value} {vs : List V} (F : FnG X.prog X.w X.K X.mg X.base CX k f fd ps sp) (hg : X.A.guards = some []) (hr : Room k X.A)
    (hb : L2.Binds X.K fd ps ds) (hd : Vals dvs ds) (hx : Passes CX X E) (I : Inv X pins σ H s) (r : Vals vs us) (h : sp (vs ++ dvs) H Q E) :
    wpAny (model X.prog X.w) X.A (call (.ref f) us) (EP X pins σ Q) X.xe s := by
  have r2 := r.append hd
  have nl : (us ++ ds).length = ps.length := r2.length.symm.trans (F.len _ _ _ _ h)
  refine wpAny_call (codeAny_mono (F.go X.A X.stack s H ⟨us, []⟩ _ _ Q E hg hr I.env0 (hb s us I.kIn nl) r2 h) ?_)
  intro r s' hq
  cases r with
  | error er => exact hx pins σ H s er s' I hq
  | ok fl => cases fl <;> first | exact I.after hq | exact False.elim hq
/-- f(e, ..) where f's promise asks that no guard stands -/
theorem pe_callG (F : FnG X.prog X.w X.K X.mg X.base CX k f fd ps sp) (hgd : X.A.guards = some []) (hr : Room k X.A) (hg : Gl X x) (hm : X.mg x = some (.ref f)) (hk : PySem.W.keepIn X.K (.ref f) = true)
    (hb : L2.Binds X.K fd ps ds) (hd : Vals dvs ds) (hx : Passes CX X E) (ha : PA X (e :: es) t)
    (hdb : (x == ("__debug__" : Str)) = false := by decide) (he : starEach (e :: es) X.env = (false, eval e X.env) :: starEach es X.env := by rfl) (hpl : (backTo pos (starEach es X.env)).any (·.1) = false := by rfl) :
    PE X (.Call (.Name x p) (e :: es) [] pos) (tCall sp dvs E t) := by
  constructor
  intro pins s σ H Q I h
  refine wpAny_Call_Name_kw (ld_glob I hg hm ?_ hdb)
  refine PySem.W.callWith_K (h₀ := X.base) I.ok.mod.kin hk (thn (ha.run pos pins s σ H _ I h) ?_) he hpl
  rintro us s1 ⟨vs, H1, I1, r, q⟩
  exact ⟨I1.kIn, runG F hgd hr hb hd hx I1 r q⟩
end
/-! ### repr of data -/
section
variable {X : Cx}
/-- repr(v): v is data d -/
def rRepr (K : PySem.W.Frag) : List V → Hp → VK → Prop := fun xs H Q => ∃ (v : V) (d : PyData), xs = [v] ∧ Dp K H v d ∧ d.showable = true ∧ d.hasDict = false ∧ d.shown.length ≤ sizeLine ∧ d.depth ≤ 60 ∧ Q (.str d.shown) H
theorem call_reprD (hg : X.A.guards = some []) (hu : X.A.units + 70 < cLine) : CallR X (.builtin "repr") (rRepr X.K) := by
  intro pins s σ H xs us Q I r h
  obtain ⟨v, d, rfl, hd, hs, hn, hz, hdp, q⟩ := h
  obtain ⟨u, rfl, ru⟩ := vals1 r
  cases hd with
  | non =>
    cases ru
    rw [PyData.shown_none] at q
    exact PySem.P.repr_of_none ⟨.str _, H, I.tok _, ⟨_, rfl⟩, q⟩
  | bl b =>
    cases ru
    rw [PyData.shown_bool] at q
    exact PySem.P.repr_of_bool ⟨.str _, H, I.tok _, ⟨_, rfl⟩, q⟩
  | int i =>
    obtain ⟨t, rfl⟩ := ru
    rw [PyData.shown_int] at q
    exact PySem.P.repr_of_int (by simpa [PyData.showable] using hs) ⟨.str _, H, I.tok _, ⟨_, rfl⟩, q⟩
  | str z =>
    obtain ⟨t, rfl⟩ := ru
    rw [PyData.shown_str] at q hz
    exact PySem.P.repr_of_str ⟨.str _, H, I.tok _, ⟨_, rfl⟩, q⟩
  | @lst a xs ds h1 h2 =>
    obtain rfl : u = Value.ref a := ru
    obtain ⟨as, rd⟩ := Dp.reads I _ _ _ (Dp.lst h1 h2) (rfl : RelV (.ref a) (.ref a))
    exact PySem.repr_of_reads' rd hs (fun z => by rw [hn] at z; cases z) hg (by omega) (fun _ _ e => e) (fun h' u tk k => ⟨.str _, H, I.kept (t' := tk) k, ⟨_, rfl⟩, q⟩) hz
  | @tup a xs ds h1 h2 =>
    obtain rfl : u = Value.ref a := ru
    obtain ⟨as, rd⟩ := Dp.reads I _ _ _ (Dp.tup h1 h2) (rfl : RelV (.ref a) (.ref a))
    exact PySem.repr_of_reads' rd hs (fun z => by rw [hn] at z; cases z) hg (by omega) (fun _ _ e => e) (fun h' u tk k => ⟨.str _, H, I.kept (t' := tk) k, ⟨_, rfl⟩, q⟩) hz
end
end Gd

set_option maxRecDepth 100000
set_option maxHeartbeats 2000000
/-! Own errors over an own error over ValueError, each with an __init__ that says super().__init__('..') and keeps its argument, made as values. -/
namespace Er
open PySem PySem.W PySem.Calls PyProof.Rows PySem.HandSPX
/-- the text of such an __init__ -/
def sup (z : Str) (k : Nat) (p0 p1 p2 p3 p4 p5 : Pos) : Stmt :=
  .Expr (.Call (.Attribute (.Call (.Name "super" p0) [] [] p1) "__init__" p2) [.Constant (.str z) k p3] [] p4) p5
def keepS (fl : Str) (q1 q2 q3 q4 : Pos) : Stmt := .Assign [.Attribute (.Name "self" q1) fl q2] (.Name fl q3) q4
def body : Option Str → Str → Nat → Pos → Pos → Pos → Pos → Pos → Pos → Pos → Pos → Pos → Pos → List Stmt
  | none, z, k, p0, p1, p2, p3, p4, p5, _, _, _, _ => [sup z k p0 p1 p2 p3 p4 p5]
  | some fl, z, k, p0, p1, p2, p3, p4, p5, q1, q2, q3, q4 => [sup z k p0 p1 p2 p3 p4 p5, keepS fl q1 q2 q3 q4]
def pars : Option Str → Pos → Pos → Arguments
  | none, p, _ => { posonlyargs := [], args := [{ arg := "self", annotation := none, pos := p }], vararg := none, kwonlyargs := [], kw_defaults := [], kwarg := none, defaults := [] }
  | some fl, p, q => { posonlyargs := [], args := [{ arg := "self", annotation := none, pos := p }, { arg := fl, annotation := none, pos := q }], vararg := none, kwonlyargs := [], kw_defaults := [], kwarg := none, defaults := [] }
def names : Option Str → List (Str × NameKind)
  | none => [("self", .local), ("__class__", .free), ("super", .globalImplicit)]
  | some fl => [("self", .local), (fl, .local), ("__class__", .free), ("super", .globalImplicit)]
def scp (o : Option Str) : Scope := { kind := .function, names := names o, isGenerator := false, isCoroutine := false, more := [] }
/-- how the call super().__init__('..') is read (by its places) -/
def EvP (z : Str) (kz : Nat) (p0 p1 p2 p3 p4 p5 : Pos) : Prop := ∀ env : Env, (∃ pl, eval (.Call (.Attribute (.Call (.Name "super" p0) [] [] p1) "__init__" p2) [.Constant (.str z) kz p3] [] p4) env = (do
      let ov ← attributeBase (.Call (.Name "super" p0) [] [] p1) "__init__" env (eval (.Call (.Name "super" p0) [] [] p1) env)
      standAt p2.atName
      let (f, first) ← holding [ov] (getMethod ov "__init__" pl)
      callWith p4 f first (backTo p4 (starEach [.Constant (.str z) kz p3] env)) [])) ∧
    swapsWith (.Call (.Attribute (.Call (.Name "super" p0) [] [] p1) "__init__" p2) [.Constant (.str z) kz p3] [] p4) none p5.line env = pure false
/-- how its arguments bind -/
def BdP : Option Str → FuncData → Prop
  | none, fd => ∀ e, bindArgs fd ⟨[e], []⟩ = pure [(("self" : Str), e)]
  | some f, fd => ∀ e v, bindArgs fd ⟨[e, v], []⟩ = pure [(("self" : Str), e), (f, v)] ∧ bindArgs fd ⟨[e], [(f, v)]⟩ = pure [(("self" : Str), e), (f, v)]
/-- what the written part says of the class at C, of its __init__ at fI -/
structure ErrC (P : Program) (K : Frag) (x : Str) (fl : Option Str) (C fI : Addr) : Prop where
  kC : keepIn K (.ref C) = true
  cls : ∃ nm q N bs bm sn sub ab col dd k0 k1 k2 k3 k5, K.lookup C = some (excClassObj nm q C N bs bm true sn sub ab col dd k0 k1 k2 k3 k5 "ValueError.__new__") ∧ refsVE bm = true
  sa : findIn K (.ref C) "__setattr__" = some (some (.builtin "object.__setattr__"))
  iC : findIn K (.ref C) "__init__" = some (some (.ref fI))
  tI : typeIn K (.ref fI) = some (.type "function")
  fn : ∃ (oc : Value) (od : Option Addr) (doc pm : Value) (an : Option Addr) (ct : Value) (osl : Array (Option Value)) (cc cda : Addr) (qual z : Str) (kz : Nat) (p p' p0 p1 p2 p3 p4 p5 q1 q2 q3 q4 : Pos),
    K.lookup fI = some ⟨oc, od, .func (ksFn "__init__" qual (pars fl p p') (body fl z kz p0 p1 p2 p3 p4 p5 q1 q2 q3 q4) (scp fl) .none .none doc pm an (.ref cda) ct cc), osl⟩ ∧ codeIn K (.ref cda) qual = true ∧
    EvP z kz p0 p1 p2 p3 p4 p5 ∧ BdP fl (ksFn "__init__" qual (pars fl p p') (body fl z kz p0 p1 p2 p3 p4 p5 q1 q2 q3 q4) (scp fl) .none .none doc pm an (.ref cda) ct cc) ∧ (∃ (ccl : Value) (cdd : Option Addr) (vs : Array Value) (ccs : Array (Option Value)) (file : Str) (tf : Tok), K.lookup cda = some ⟨ccl, cdd, .fields vs, ccs⟩ ∧ vs[2]? = some (.str file tf) ∧ ((P.main.file : Str) == file) = true) ∧
    ∃ (cl : Value) (cld : Option Addr) (csl : Array (Option Value)), K.lookup cc = some ⟨cl, cld, .cell (some (.ref C)), csl⟩
  any : nsIn K cStatics "thirdparty.any" = some none
  along : ks_superIn K C C "__init__" = some (some (.builtin "ValueError.__init__"))
  subVE : subIn K (.ref C) (.type "ValueError") = some true
  mro : mroIn K C (.ref C) = some true
  top : (P.main.scope.names.lookup ("super" : Str)).isSome = false
  noF : ∀ f, fl = some f → findIn K (.ref C) f = some none
  kS : (names fl).lookup ("super" : Str) = some .globalImplicit
  kF : (names fl).lookup ("__class__" : Str) = some .free
  kL : (names fl).lookup ("self" : Str) = some .local
  kP : ∀ f, fl = some f → (names fl).lookup f = some .local ∧ (f == ("self" : Str)) = false ∧ (f == ("__debug__" : Str)) = false
theorem one_size (v : Value) : [v].length ≤ sizeLine := by
  rw [sizeLine_eq]
  exact (by decide : 1 ≤ 16777216)
section
variable {P : Program} {w : World} {A : Around} {E : Value → Shared → Prop} {R : Result → Shared → Prop} {K : Frag} {mg mb : Str → Option Value} {x : Str} {fl : Option Str} {C fI : Addr}
/-- the first row of __init__ -/
theorem sup_run (T : ErrC P K x fl C fI) {hh : Heap} {g : Array GenState} {d : Drawn} {t : Nat} {os : OsState} {e t0 cc cda L : Addr} {m : Str → Option Value} {q z : Str} {kz : Nat} {bd : List Stmt} {p0 p1 p2 p3 p4 p5 : Pos} {fd : FuncData} {Q : Flow → Shared → Prop}
    (ev : EvP z kz p0 p1 p2 p3 p4 p5) (X : K.In hh) (G : hh.Ns mainGlobals mg) (hmg : mg "super" = none) (B : hh.Ns builtinsNs mb) (hmb : mb "super" = some (.type "super")) (he : hh.get? e = some (excO C t0))
    (hns : hh.Ns L m) (hv : m "self" = some (.ref e)) (hf : ∃ of, hh.get? fI = some of ∧ of.data = .func fd) (hp : ∃ ar, (fd.params.posonlyargs ++ fd.params.args).head? = some ar ∧ ar.arg = ("self" : Str))
    (hcode : ∃ oc vs file tf, hh.get? cda = some oc ∧ oc.data = .fields vs ∧ vs[2]? = some (.str file tf) ∧ ((P.main.file : Str) == file) = true) (hcell : hh.IsCell cc (some (.ref C)))
    (hq : ∀ h' t1 tk, (∀ b o, b ≠ e → hh.get? b = some o → h'.get? b = some o) → h'.get? e = some (excO C t1) → Q .next ⟨h', g, d, tk, os⟩) :
    _root_.PySem.wpAt (model P w) A (.func bd (ksEnv q (scp fl) L fI (.ref cda) cc)) (exec (sup z kz p0 p1 p2 p3 p4 p5) (ksEnv q (scp fl) L fI (.ref cda) cc)) Q E ⟨hh, g, d, t, os⟩ := by
  obtain ⟨nm, q', N, bs, bm, sn, sub, ab, col, dd, k0, k1, k2, k3, k5, hC, hbm⟩ := T.cls
  have hcl : clsIn K C = some { name := nm, bases := bs, mro := .ref C :: bm, ns := N, qualname := q', hasDict := true, slotNames := sn, subclasses := sub, abstract := ab, collection := col, hasDel := false } := by
    unfold clsIn
    rw [hC] <;> rfl
  have I : InstAt hh e (excO C t0) C none := ⟨he, rfl, rfl, trivial⟩
  have neC : e ≠ C := ks_ne X I hcl
  obtain ⟨of, hf1, hf2⟩ := hf
  obtain ⟨ar, har, har2⟩ := hp
  obtain ⟨oc, vs, file, tf, hc1, hc2, hc3, hc4⟩ := hcode
  unfold sup
  obtain ⟨⟨pl, ev1⟩, ev2⟩ := ev (ksEnv q (scp fl) L fI (.ref cda) cc)
  refine ks_wpAt_Expr_any (ks_wpAt_MethodCall ?_ ev1) rfl ev2
  refine ks_wpAt_super_base (env := ksEnv q (scp fl) L fI (.ref cda) cc) T.kS T.kF rfl rfl hf1 hf2 har rfl hc1 hc2 hc3 hc4 T.top ?_
  refine ks_loadName_global rfl T.kS (loadGlobal_builtin (env := ksEnv q (scp fl) L fI (.ref cda) cc) G hmg B hmb ⟨rfl, ?_⟩)
  refine wpAny_loadName_free rfl T.kF rfl hcell ?_
  rw [har2]
  refine wpAny_loadName_local rfl T.kL hns hv ?_
  refine ks_wpAny_isType_cls (X _ _ hC) rfl ⟨rfl, ?_⟩
  refine ks_wpAny_call_super (X _ _ hC) rfl he rfl (fun c z => by cases z) (looks_mroIn X T.mro) (fun h1 hso k1 => ?_)
  have X1 : K.In h1 := X.keeps k1
  have I1 : InstAt h1 e (excO C t0) C none := ⟨k1 _ _ he, rfl, rfl, trivial⟩
  have hal : alongIn K "__init__" (((Value.ref C :: bm).dropWhile (· != .ref C)).drop 1) = some (some (.builtin "ValueError.__init__")) := by
    have z := T.along
    unfold ks_superIn at z
    rw [hcl] at z
    exact z
  refine kxs_getMethod kxs_ValueError hso (looks_opaque X1 T.any) (l₀ := .ref C :: bm) (fun A Q E s k q => wpAny_bind ((looks_clsIn X1 hcl) A _ E s k (wpAny_pure q))) rfl X1 hal (I1.type.andThen (looks_subIn X1 T.subVE)) neC rfl ?_
  have hu : (h1.push (kxs_mw "ValueError.__init__" e)).get? h1.objs.size = some (kxs_mw "ValueError.__init__" e) := Heap.get?_push_at rfl rfl
  have k2 : ∀ b o, hh.get? b = some o → (h1.push (kxs_mw "ValueError.__init__" e)).get? b = some o := fun b o q => Heap.get?_push_of_some _ (k1 b o q)
  refine kxs_callWith (i := "ValueError.__init__") (x := e) rfl ?_
  refine evalArgs_plain (Calls.spliced_cons (Calls.Constant_str (k := kz) (pos := p3) (Calls.spliced_nil ⟨hu, ?_⟩)))
  refine wpAny_call (codeAny_of_tree ?_)
  show wpAny _ A.in1 (callAny (.ref h1.objs.size) ⟨_, []⟩) _ _ _
  simp only [callAny]
  refine wpAny_bind (wpAny_load hu ?_)
  have c1 : (Value.type "method-wrapper" == Value.type "method" || Value.type "method-wrapper" == Value.type "builtin_function_or_method" || Value.type "method-wrapper" == Value.type "method-wrapper") = true := by decide
  simp only [kxs_mw, c1, if_true]
  refine KFB.if_so (by decide) ?_
  have FB := PySem.F.excBase_ValueError
  refine wpAny_bind (check_bound_init FB.toExcCallFacts (k2 _ _ (X _ _ hC)) (k2 _ _ he) rfl ?_)
  refine wpAny_bind (wpAny_pure (wpAny_pure ⟨plainId_quiet FB.init.plain _, codeAny_builtin FB.initEntry ?_⟩))
  refine exc_init_tree (cls := .ref C) (t0 := t0) (dv := none) (c2 := .none) (c3 := .none) (b4 := .bool false) (k2 _ _ he) (one_size _) fun h2 k3 e2 _ => ?_
  exact hq h2 _ _ (fun b o hb z => k3 b o hb (k2 b o z)) e2
theorem noCell (o : Option Str) : ∀ y ∈ names o, y.2 ≠ .cell := by
  intro y hy
  cases o <;> simp only [names, List.mem_cons, List.not_mem_nil, or_false] at hy
  · rcases hy with rfl | rfl | rfl <;> exact fun z => by cases z
  · rcases hy with rfl | rfl | rfl | rfl <;> exact fun z => by cases z
/-- what an exception is behind its making: its dict (none where it keeps nothing) -/
def fsOf : Option Str → List Value → List (Str × Value)
  | some f, [_, v] => [(f, v)]
  | _, _ => []
theorem err_init0 (T : ErrC P K x none C fI) {s : Shared} {e t0 : Addr} (X : K.In s.heap) (lim : s.heap.NoLimit) (G : s.heap.Ns mainGlobals mg) (hmg : mg "super" = none) (B : s.heap.Ns builtinsNs mb) (hmb : mb "super" = some (.type "super"))
    (he : s.heap.get? e = some (excO C t0)) (hroom : A.depth < recursionLimit)
    (hq : ∀ h' t1 tk, (∀ b o, b ≠ e → s.heap.get? b = some o → h'.get? b = some o) → h'.get? e = some (excO C t1) → R (.ok (.ret .none)) { s with heap := h', toks := tk }) :
    codeAny (model P w) A (.call (.ref fI) ⟨[.ref e], []⟩) R s := by
  obtain ⟨oc, od, doc, pm, an, ct, osl, cc, cda, qual, z, kz, p, p', p0, p1, p2, p3, p4, p5, q1, q2, q3, q4, hf, hcd, ev, bd, ⟨ccl, cdd, vs, ccs, file, tf, hc1, hc2, hc3⟩, cl, cld, csl, hcell⟩ := T.fn
  refine ks_codeAny_call_defAt (binds := [("self", .ref e)]) hroom (X _ _ hf) rfl lim (codeRec_of X hcd) rfl (BindsTo.of_eq (by first | rfl | with_unfolding_all rfl)) (noCell none) (by
    intro y hy
    obtain rfl : y = (("self" : Str), Value.ref e) := by simpa using hy
    exact T.kL) (fun h1 hns k1 => ?_) rfl rfl rfl
  obtain ⟨hh, g, d, t, os⟩ := s
  have X1 : K.In h1 := X.keeps k1
  show _root_.PySem.wpAt _ _ _ (execs (sup z kz p0 p1 p2 p3 p4 p5 :: []) _) _ _ _
  refine ks_wpAt_execs_cons (sup_run (m := fun y => [(("self" : Str), Value.ref e)].reverse.lookup y) T ev X1 (G.keeps k1) hmg (B.keeps k1) hmb (k1 _ _ he) hns (by with_unfolding_all rfl) ⟨_, X1 _ _ hf, rfl⟩ ⟨_, rfl, rfl⟩ ⟨_, vs, file, tf, X1 _ _ hc1, rfl, hc2, hc3⟩ ⟨_, X1 _ _ hcell, rfl⟩ fun h2 t1 tk k2 e2 => ?_)
  exact wpAt_of_wpAny (wpAny_execs_nil (hq h2 t1 tk (fun b o hb z => k2 b o hb (k1 b o z)) e2))
def args1 (f : Str) (v : Value) (e : Value) (byName : Bool) : Args := if byName = true then ⟨[e], [(f, v)]⟩ else ⟨[e, v], []⟩
theorem err_init1 {f : Str} (T : ErrC P K x (some f) C fI) {s : Shared} {e t0 : Addr} {v : Value} {bn : Bool} (X : K.In s.heap) (lim : s.heap.NoLimit) (G : s.heap.Ns mainGlobals mg) (hmg : mg "super" = none) (B : s.heap.Ns builtinsNs mb) (hmb : mb "super" = some (.type "super"))
    (he : s.heap.get? e = some (excO C t0)) (hne : K.lookup e = none) (hroom : A.depth < recursionLimit)
    (hq : ∀ h' t1 tk dx, (∀ b o, b ≠ e → s.heap.get? b = some o → h'.get? b = some o) → h'.get? e = some { cls := .ref C, dict := some dx, data := .fields #[.ref t1, .none, .none, .none, .bool false, .none] } →
      s.heap.objs.size ≤ dx → dx ≠ e → h'.Ns1 dx (fun y => if y = f then some v else none) → R (.ok (.ret .none)) { s with heap := h', toks := tk }) :
    codeAny (model P w) A (.call (.ref fI) (args1 f v (.ref e) bn)) R s := by
  obtain ⟨oc, od, doc, pm, an, ct, osl, cc, cda, qual, z, kz, p, p', p0, p1, p2, p3, p4, p5, q1, q2, q3, q4, hf, hcd, ev, bd, ⟨ccl, cdd, vs, ccs, file, tf, hc1, hc2, hc3⟩, cl, cld, csl, hcell⟩ := T.fn
  obtain ⟨nm, q', N, bs, bm, sn, sub, ab, col, dd, k0, k1, k2, k3, k5, hC, hbm⟩ := T.cls
  have hcl : clsIn K C = some { name := nm, bases := bs, mro := .ref C :: bm, ns := N, qualname := q', hasDict := true, slotNames := sn, subclasses := sub, abstract := ab, collection := col, hasDel := false } := by
    unfold clsIn
    rw [hC] <;> rfl
  obtain ⟨kf1, kf2, kf3⟩ := T.kP f rfl
  have hbd : BindsTo s (ksFn "__init__" qual (pars (some f) p p') (body (some f) z kz p0 p1 p2 p3 p4 p5 q1 q2 q3 q4) (scp (some f)) .none .none doc pm an (.ref cda) ct cc) (args1 f v (.ref e) bn) [("self", .ref e), (f, v)] := by
    cases bn
    · exact BindsTo.of_eq (bd _ _).1
    · exact BindsTo.of_eq (bd _ _).2
  refine ks_codeAny_call_defAt (binds := [("self", .ref e), (f, v)]) hroom (X _ _ hf) rfl lim (codeRec_of X hcd) rfl hbd (noCell (some f)) (by
    intro y hy
    rcases List.mem_cons.mp hy with rfl | hy
    · exact T.kL
    · obtain rfl : y = (f, v) := by simpa using hy
      exact kf1) (fun h1 hns kk => ?_) rfl rfl rfl
  obtain ⟨hh, g, d, t, os⟩ := s
  have X1 : K.In h1 := X.keeps kk
  have nsf : f ≠ ("self" : Str) := by simpa using kf2
  have lf : [(("self" : Str), Value.ref e), (f, v)].reverse.lookup f = some v := by simp [List.lookup]
  have ls : [(("self" : Str), Value.ref e), (f, v)].reverse.lookup ("self" : Str) = some (Value.ref e) := by
    have z : (("self" : Str) == f) = false := by simpa using (Ne.symm nsf)
    simp [List.lookup, z]
  have heL : e ≠ hh.objs.size := Nat.ne_of_lt (Heap.lt_size he)
  show _root_.PySem.wpAt _ _ _ (execs (sup z kz p0 p1 p2 p3 p4 p5 :: [keepS f q1 q2 q3 q4]) _) _ _ _
  refine ks_wpAt_execs_cons (sup_run (m := fun y => [(("self" : Str), Value.ref e), (f, v)].reverse.lookup y) T ev X1 (G.keeps kk) hmg (B.keeps kk) hmb (kk _ _ he) hns ls ⟨_, X1 _ _ hf, rfl⟩ ⟨_, rfl, rfl⟩ ⟨_, vs, file, tf, X1 _ _ hc1, rfl, hc2, hc3⟩ ⟨_, X1 _ _ hcell, rfl⟩ fun h2 t1 tk k4 e2 => ?_)
  have X2 : K.In h2 := fun a o q => k4 a o (fun y => by rw [y, hne] at q; cases q) (X1 a o q)
  obtain ⟨oL, esL, epL, hL, rL⟩ := hns
  have hns2 : h2.Ns hh.objs.size (fun y => [(("self" : Str), Value.ref e), (f, v)].reverse.lookup y) := ⟨oL, esL, epL, k4 _ _ (Ne.symm heL) hL, rL⟩
  refine wpAt_of_wpAny (wpAny_execs_cons (plainObj_wpAny_Assign_Attribute ?_))
  refine wpAny_Name (wpAny_loadName_local rfl kf1 hns2 lf ?_) kf3
  refine wpAny_Name (wpAny_loadName_local rfl T.kL hns2 ls ?_) (by decide)
  refine set_plain X2 (ox := excO C t1) (od := none) ⟨e2, rfl, rfl, trivial⟩ T.sa ?_
  refine exc_osa X2 e2 hcl (show refsVE (.ref C :: bm) = true from hbm) rfl (T.noF f rfl) (fun h3 tk3 dx k5 dn dne hx3 hn3 => ?_)
  have zz : hh.objs.size ≤ dx := Nat.le_trans (Nat.le_of_lt (Heap.lt_size (k4 _ _ (Ne.symm heL) hL))) dn
  exact wpAny_execs_nil (hq h3 t1 tk3 dx (fun b o hb z => k5 b o hb (k4 b o hb (kk b o z))) hx3 zz dne hn3)
end
end Er

set_option maxRecDepth 100000
set_option maxHeartbeats 2000000
namespace Er
open PySem PySem.W PySem.Calls PyProof.Rows PySem.HandSPX
section
variable {P : Program} {w : World} {A : Around} {E : Value → Shared → Prop} {R : Result → Shared → Prop} {h : Heap} {g : Array GenState} {d : Drawn} {t : Nat} {os : OsState}
variable {nm q : Str} {C N : Addr} {bs bm : List Value} {sn : List Str} {sub : List Value} {ab : Bool} {col : Option Bool} {dd : Option Addr} {k0 k1 k2 k3 k5 : Option Value}
/-- the class's own part of the making, with arguments by name -/
theorem newKw {kw : List (Str × Value)} (hbm : refsVE bm = true)
    (hC : h.get? C = some (excClassObj nm q C N bs bm true sn sub ab col dd k0 k1 k2 k3 k5 "ValueError.__new__"))
    (hq : R (.ok (.ret (.ref (h.objs.size + 1)))) ⟨(h.push (kdv_tup [])).push (excO C h.objs.size), g, d, t, os⟩) :
    codeAny (model P w) A (.builtin "ValueError.__new__" ⟨[.ref C], kw⟩) R ⟨h, g, d, t, os⟩ := by
  have FB := PySem.F.excBase_ValueError
  have ends := FB.ends
  have hT := fun Y => refsVE_contains Y bm hbm
  have cB : (Value.ref C :: bm).contains (.type "ValueError") = true := by rw [List.contains_cons, hT, FB.hasB, Bool.or_true]
  have cA : (Value.ref C :: bm).contains (.type "AttributeError") = false := by rw [List.contains_cons, hT, FB.noAttr]; rfl
  have cN : (Value.ref C :: bm).contains (.type "NameError") = false := by rw [List.contains_cons, hT, FB.noName]; rfl
  refine codeAny_builtinAt FB.entry ?_
  unfold Builtin.«BaseException.__new__»
  refine _root_.PySem.wpAt_bind ?_
  refine _root_.PySem.wpAt_bind (_root_.PySem.wpAt_stack fun p below => _root_.PySem.wpAt_of_wpAny ?_)
  wp_walk
  refine _root_.PySem.wpAt_of_wpAny ?_
  rw [FB.owner]
  repeat (first | with_reducible refine wpAny_madeHere_exc FB.canon hC ?_ | with_reducible refine wpAny_loadPart_at hC ?_ | (with_reducible refine wpAny_isSubtype_exc hC ?_; first | rw [cB] | rw [cA] | rw [cN]) | wp_step)
  rw [Heap.size_push]
  exact hq
theorem checkKw {kw : List (Str × Value)} {M : Model} {Q : Unit → Shared → Prop} (hbm : refsVE bm = true)
    (hC : h.get? C = some (excClassObj nm q C N bs bm true sn sub ab col dd k0 k1 k2 k3 k5 "ValueError.__new__")) (hq : Q () ⟨h, g, d, t, os⟩) :
    wpAny M A (checkBuiltinCall "ValueError.__new__" ⟨[.ref C], kw⟩) Q E ⟨h, g, d, t, os⟩ := by
  have FB := PySem.F.excBase_ValueError
  have cB : (Value.ref C :: bm).contains (.type "ValueError") = true := by rw [List.contains_cons, refsVE_contains "ValueError" bm hbm, FB.hasB, Bool.or_true]
  have st := FB.noStar
  simp only [checkBuiltinCall, FB.newKind, FB.newSplit, FB.newRow]
  repeat (first
    | refine wpAny_loadPart_at hC ?_
    | (refine wpAny_isSubtype_exc hC ?_; rw [cB])
    | refine wpAny_staticBase_exc hC ?_
    | refine wpAny_madeBy_exc hC ?_
    | simp only [bne_self_eq_false, Bool.false_eq_true, if_false]
    | wp_step)
  exact hq
theorem typeKw {kw : List (Str × Value)} {fI : Addr} {Q : Fin → Shared → Prop} (hbm : refsVE bm = true)
    (hC : h.get? C = some (excClassObj nm q C N bs bm true sn sub ab col dd k0 k1 k2 k3 k5 "ValueError.__new__"))
    (hi : Looks (model P w) h (typeLookup (.ref C) "__init__") (some (.ref fI))) (hb : ∀ self, Looks (model P w) h (bindSpecial (.ref fI) self) (.ref fI, [self]))
    (hq : codeAny (model P w) A (.call (.ref fI) ⟨[.ref (h.objs.size + 1)], kw⟩)
      (fun r s' => match r with | .ok (.ret v) => v = .none ∧ Q (.done (.ret (.ref (h.objs.size + 1)))) s' | .ok _ => False | .error e => E e s')
      ⟨(h.push (kdv_tup [])).push (excO C h.objs.size), g, d, t, os⟩) :
    wpAny (model P w) A (Builtin.«type.__call__» ⟨[.ref C], kw⟩) Q E ⟨h, g, d, t, os⟩ := by
  have FB := PySem.F.excBase_ValueError
  repeat (first | with_reducible refine wpAny_loadPart_at hC ?_ | with_reducible refine wpAny_madeBy_exc hC ?_ | wp_step)
  refine codeAny_call_builtin_code (Code.quiet_builtin _ FB.quiet) (checkKw hbm hC (newKw hbm hC ?_))
  have kk : ∀ b o, h.get? b = some o → ((h.push (kdv_tup [])).push (excO C h.objs.size)).get? b = some o := fun b o z => Heap.get?_push_of_some _ (Heap.get?_push_of_some _ z)
  have e1 : ((h.push (kdv_tup [])).push (excO C h.objs.size)).get? (h.objs.size + 1) = some (excO C h.objs.size) := by heap_get
  have cC : (Value.ref C :: bm).contains (.ref C) = true := by simp
  show wpAny _ _ _ _ _ _
  unfold isInstance
  repeat (first
    | with_reducible refine wpAny_loadPart_at e1 ?_
    | (with_reducible refine wpAny_isSubtype_exc (kk _ _ hC) ?_; rw [cC])
    | wp_step)
  show wpAny _ _ (typeLookup (.ref C) _) _ _ _
  refine (hi.keeps kk).at (wpAny_holding (wpAny_bind (((hb (.ref (h.objs.size + 1))).keeps kk).at ?_)))
  refine wpAny_bind (wpAny_call (codeAny_mono hq fun r s' z => ?_))
  cases r with
  | error e => exact z
  | ok fl =>
    cases fl with
    | ret v =>
      obtain ⟨rfl, z⟩ := z
      first
        | exact wpAny_pure (wpAny_pure z)
        | (wp_walk; exact z)
    | next => exact z.elim
    | brk => exact z.elim
    | cont => exact z.elim
theorem callKw {kw : List (Str × Value)} {fI : Addr} (hbm : refsVE bm = true)
    (hC : h.get? C = some (excClassObj nm q C N bs bm true sn sub ab col dd k0 k1 k2 k3 k5 "ValueError.__new__"))
    (hi : Looks (model P w) h (typeLookup (.ref C) "__init__") (some (.ref fI))) (hb : ∀ self, Looks (model P w) h (bindSpecial (.ref fI) self) (.ref fI, [self]))
    (hq : codeAny (model P w) (A.under (.builtin "type.__call__" ⟨[.ref C], kw⟩)) (.call (.ref fI) ⟨[.ref (h.objs.size + 1)], kw⟩) (InitBack (h.objs.size + 1) R)
      ⟨(h.push (kdv_tup [])).push (excO C h.objs.size), g, d, t, os⟩) :
    codeAny (model P w) A (.call (.ref C) ⟨[], kw⟩) R ⟨h, g, d, t, os⟩ := by
  have f1 := tc_lookup
  have f2 := tc_bind (.ref C)
  have ty : (⟨h, g, d, t, os⟩ : Shared).TypeIs (.ref C) "type" := ⟨_, hC, rfl⟩
  refine codeAny_of_tree ?_
  show wpAny _ _ (callAny (.ref C) _) _ _ _
  repeat (any_goals (first | assumption | with_reducible refine wpAny_loadPart_at hC ?_ | wp_step))
  refine ⟨rfl, codeAny_call_builtin_at (Code.quiet_builtin _ (by decide +kernel)) entry_typeCall (wpAny_check_type_call_sub hC (typeKw hbm hC hi hb ?_))⟩
  refine codeAny_mono hq fun r s' z => ?_
  rcases r with e | (v | _ | _ | _) <;> exact z
end
end Er

set_option maxRecDepth 100000
set_option maxHeartbeats 2000000
namespace Er
open PySem PySem.Spec PyProof.Rows L2
section
variable {X : Cx} {pins : List (Addr × Obj)} {σ : L2.St} {H : Hp} {s : Shared}
/-- two new objects, tracked -/
theorem laid2 {h' : Heap} {a b : Addr} {oa ob : HO} {t' : Nat} (I : Inv X pins σ H s) (k : ∀ c u, s.heap.get? c = some u → h'.get? c = some u) (ha : s.heap.objs.size ≤ a) (hb : s.heap.objs.size ≤ b)
    (na : ObjOk X.prog X.w (upd (upd H b ob) a oa) h' a oa) (nb : a ≠ b → ObjOk X.prog X.w (upd (upd H b ob) a oa) h' b ob) : Inv X pins σ (upd (upd H b ob) a oa) { s with heap := h', toks := t' } := by
  have fa : H a = none := I.hok.fresh ha
  have fb : H b = none := I.hok.fresh hb
  have ne : ∀ {c u}, H c = some u → c ≠ a ∧ c ≠ b := fun {c u} q => ⟨ne_of_none q fa, ne_of_none q fb⟩
  have nh : ∀ {c u}, s.heap.get? c = some u → c ≠ a ∧ c ≠ b := fun {c u} q => ⟨Nat.ne_of_lt (Nat.lt_of_lt_of_le (Heap.lt_size q) ha), Nat.ne_of_lt (Nat.lt_of_lt_of_le (Heap.lt_size q) hb)⟩
  have up : ∀ {c}, c ≠ a → c ≠ b → upd (upd H b ob) a oa c = H c := fun {c} h1 h2 => by rw [upd_ne h1, upd_ne h2]
  refine I.un ⟨fun c u q _ _ _ => k c u q, fun c u q _ _ _ => ⟨u.slots, k c u q⟩, fun c u q n _ => by rw [up (nh q).1 (nh q).2]; exact n, fun c u q _ => ⟨u, k c u q⟩,
    fun c xs q => by rw [up (ne q).1 (ne q).2]; exact q, fun c o u q => by rw [up (ne q).1 (ne q).2]; exact q, fun c ps q => ⟨#[], by rw [up (ne q).1 (ne q).2, q]; simp⟩⟩ ?_
  intro c u q
  by_cases h1 : c = a
  · subst h1
    rw [upd_same] at q
    cases q
    exact na
  · by_cases h2 : c = b
    · subst h2
      rw [upd_ne h1, upd_same] at q
      cases q
      exact nb (Ne.symm h1)
    · rw [up h1 h2] at q
      exact (I.hok c u q).stay (fun e v _ z => k e v z) (fun e z => by rw [up (ne z).1 (ne z).2]; exact z) fun e xs z => by rw [up (ne z).1 (ne z).2]; exact z
end
section
variable {X : Cx} {x f : Str} {C fI : Addr} {k : Nat} {e : Expr} {te : TE} {p pos kp : Pos}
/-- what the world about says of the name super -/
structure SupOk (X : Cx) : Prop where
  mg : X.mg "super" = none
theorem facts {pins : List (Addr × Obj)} {σ : L2.St} {H : Hp} {s : Shared} (I : Inv X pins σ H s) : s.heap.NoLimit ∧ s.heap.Ns mainGlobals X.mg ∧ ∃ mb, s.heap.Ns builtinsNs mb ∧ mb "super" = some (.type "super") := by
  obtain ⟨mb, b1, b2⟩ := I.mod.blt
  exact ⟨I.mod.nolimit.keeps I.bk, I.mod.glob.keeps I.bk, mb, b1.keeps I.bk, (b2 _ (by decide +kernel)).trans (by decide +kernel)⟩
/-- C() as a value -/
def tErr0 (C : Addr) : TE := fun σ H Q => ∀ a, H a = none → Q (.ref a) (upd H a (exo a C none))
/-- C(e) as a value -/
def tErr1 (C : Addr) (f : Str) (te : TE) : TE := fun σ H Q => te σ H fun v H1 => ∀ a d, H1 a = none → H1 d = none → d ≠ a → Q (.ref a) (upd (upd H1 d (exd d [(f, v)])) a (exo a C (some d)))
theorem pe_err0 (T : ErrC X.prog X.K x none C fI) (S : X.mg "super" = none) (hr : Room k X.A) (hg : Gl X x) (hm : X.mg x = some (.ref C)) (hdb : (x == ("__debug__" : Str)) = false := by decide) :
    PE X (.Call (.Name x p) [] [] pos) (tErr0 C) := by
  constructor
  intro pins s σ H Q I h
  refine wpAny_Call_Name_kw (ld_glob I hg hm ?_ hdb)
  refine PySem.W.callWith_K0 I.kIn T.kC ?_
  show wpAny _ _ (call (.ref C) []) _ _ _
  obtain ⟨nm, q, N, bs, bm, sn, sub, ab, col, dd, k0, k1, k2, k3, k5, hC, hbm⟩ := T.cls
  obtain ⟨lim, G, mb, B, hmb⟩ := facts I
  obtain ⟨hp, g, dr, tk, os⟩ := s
  have X0 : X.K.In hp := I.kIn
  have kk : ∀ b o, hp.get? b = some o → ((hp.push (PySem.W.kdv_tup [])).push (PySem.HandSPX.excO C hp.objs.size)).get? b = some o := fun b o z => Heap.get?_push_of_some _ (Heap.get?_push_of_some _ z)
  have e1 : ((hp.push (PySem.W.kdv_tup [])).push (PySem.HandSPX.excO C hp.objs.size)).get? (hp.objs.size + 1) = some (PySem.HandSPX.excO C hp.objs.size) := by heap_get
  refine wpAny_call (callKw hbm (X0 _ _ hC) (PySem.W.looks_findIn X0 T.iC) (fun self => PySem.W.bind_fn X0 self T.tI) ?_)
  refine err_init0 (s := ⟨(hp.push (PySem.W.kdv_tup [])).push (PySem.HandSPX.excO C hp.objs.size), g, dr, tk, os⟩) T (X0.keeps kk) (lim.keeps kk) (G.keeps kk) S (B.keeps kk) hmb e1 ?_ ?_
  · have := hr.dp
    show X.A.depth + 1 < recursionLimit
    omega
  · intro h' t1 tk' k' e'
    have hn : H (hp.objs.size + 1) = none := I.hok.fresh (Nat.le_succ _)
    refine ⟨rfl, .ref (hp.objs.size + 1), upd H (hp.objs.size + 1) (exo (hp.objs.size + 1) C none), ?_, rfl, h _ hn⟩
    exact I.laid (t' := tk') (fun b o z => k' b o (Nat.ne_of_lt (Nat.lt_succ_of_lt (Heap.lt_size z))) (kk b o z)) (Nat.le_succ _) (exo_ok e')
theorem vals_one {v : V} {us : List Value} (r : Vals [v] us) : ∃ u, us = [u] ∧ RelV v u := by
  cases r with
  | cons a b => cases b; exact ⟨_, rfl, a⟩
/-- the making itself, behind the argument's reading -/
theorem make1 (T : ErrC X.prog X.K x (some f) C fI) (S : X.mg "super" = none) (hr : Room k X.A) (bn : Bool) {pins : List (Addr × Obj)} {σ : L2.St} {H1 : Hp} {s1 : Shared} {v : V} {u : Value} {Q : VK} (I1 : Inv X pins σ H1 s1) (ru : RelV v u)
    (q : ∀ a d, H1 a = none → H1 d = none → d ≠ a → Q (.ref a) (upd (upd H1 d (exd d [(f, v)])) a (exo a C (some d)))) :
    wpAny (model X.prog X.w) X.A (call (.ref C) (if bn = true then [] else [u]) (if bn = true then [(f, u)] else [])) (EP X pins σ Q) X.xe s1 := by
  obtain ⟨nm, qn, N, bs, bm, sn, sub, ab, col, dd, k0, k1, k2, k3, k5, hC, hbm⟩ := T.cls
  obtain ⟨lim, G, mb, B, hmb⟩ := facts I1
  obtain ⟨hp, g, dr, tk, os⟩ := s1
  have X0 : X.K.In hp := I1.kIn
  have fin : ∀ l : List Value, ∀ A' : Around, A'.depth < recursionLimit → ∀ R : Result → Shared → Prop, (∀ h' tk', (∃ w' H', Inv X pins σ H' ⟨h', g, dr, tk', os⟩ ∧ RelV w' (.ref (hp.objs.size + 1)) ∧ Q w' H') → R (.ok (.ret .none)) ⟨h', g, dr, tk', os⟩) →
      codeAny (model X.prog X.w) A' (.call (.ref fI) (args1 f u (.ref (hp.objs.size + 1)) bn)) R ⟨(hp.push (PySem.W.kdv_tup l)).push (PySem.HandSPX.excO C hp.objs.size), g, dr, tk, os⟩ := by
    intro l A' hA R hR
    have kk : ∀ b o, hp.get? b = some o → ((hp.push (PySem.W.kdv_tup l)).push (PySem.HandSPX.excO C hp.objs.size)).get? b = some o := fun b o z => Heap.get?_push_of_some _ (Heap.get?_push_of_some _ z)
    have e1 : ((hp.push (PySem.W.kdv_tup l)).push (PySem.HandSPX.excO C hp.objs.size)).get? (hp.objs.size + 1) = some (PySem.HandSPX.excO C hp.objs.size) := by heap_get
    have hne : X.K.lookup (hp.objs.size + 1) = none := by
      cases z : X.K.lookup (hp.objs.size + 1) with
      | none => rfl
      | some o => exact absurd (Nat.lt_of_succ_lt (Heap.lt_size (X0 _ _ z))) (Nat.lt_irrefl _)
    refine err_init1 (s := ⟨(hp.push (PySem.W.kdv_tup l)).push (PySem.HandSPX.excO C hp.objs.size), g, dr, tk, os⟩) T (X0.keeps kk) (lim.keeps kk) (G.keeps kk) S (B.keeps kk) hmb e1 hne hA ?_
    intro h' t1 tk' dx k' e' dn dne hns
    have dn' : hp.objs.size ≤ dx := by
      have z : hp.objs.size ≤ ((hp.push (PySem.W.kdv_tup l)).push (PySem.HandSPX.excO C hp.objs.size)).objs.size := by
        rw [Heap.size_push, Heap.size_push]
        omega
      exact Nat.le_trans z dn
    have fa : H1 (hp.objs.size + 1) = none := I1.hok.fresh (Nat.le_succ _)
    have fd : H1 dx = none := I1.hok.fresh dn'
    refine hR h' tk' ⟨.ref (hp.objs.size + 1), _, ?_, rfl, q _ dx fa fd dne⟩
    refine laid2 (t' := tk') I1 (fun b o z => k' b o (Nat.ne_of_lt (Nat.lt_succ_of_lt (Heap.lt_size z))) (kk b o z)) (Nat.le_succ _) dn' (exo_ok e') fun _ => exd_ok hns fun y => ?_
    exact relO_put (fs := []) (mA := fun _ => none) ru (fun _ => True.intro) y
  cases bn with
  | false =>
    refine wpAny_call (PySem.HandSPX.call_own (rest := [u]) F.excBase_ValueError (fun Y => PySem.HandSPX.refsVE_contains Y bm hbm) (X0 _ _ hC) (PySem.W.looks_findIn X0 T.iC) (fun self => PySem.W.bind_fn X0 self T.tI) (one_size u) ?_)
    refine fin [u] _ ?_ _ fun h' tk' hh => ⟨rfl, hh⟩
    have := hr.dp
    show X.A.depth + 1 < recursionLimit
    omega
  | true =>
    refine wpAny_call (callKw hbm (X0 _ _ hC) (PySem.W.looks_findIn X0 T.iC) (fun self => PySem.W.bind_fn X0 self T.tI) ?_)
    refine fin [] _ ?_ _ fun h' tk' hh => ⟨rfl, hh⟩
    have := hr.dp
    show X.A.depth + 1 < recursionLimit
    omega
theorem pe_err1 (T : ErrC X.prog X.K x (some f) C fI) (S : X.mg "super" = none) (hr : Room k X.A) (hg : Gl X x) (hm : X.mg x = some (.ref C)) (he : PE X e te) (hdb : (x == ("__debug__" : Str)) = false := by decide)
    (hs : starEach [e] X.env = (false, eval e X.env) :: starEach [] X.env := by rfl) : PE X (.Call (.Name x p) [e] [] pos) (tErr1 C f te) := by
  constructor
  intro pins s σ H Q I h
  refine wpAny_Call_Name_kw (ld_glob I hg hm (PySem.W.callWith_K (h₀ := X.base) I.ok.mod.kin T.kC ?_ hs (by rfl)) hdb)
  rw [hs]
  refine Calls.spliced_cons (thn (he.run pins s σ H _ I h) ?_)
  rintro u s1 ⟨v, H1, I1, r1, q1⟩
  exact Calls.spliced_nil ⟨I1.kIn, make1 T S hr false I1 r1 q1⟩
/-- C(f=e) -/
theorem pe_err1k (T : ErrC X.prog X.K x (some f) C fI) (S : X.mg "super" = none) (hr : Room k X.A) (hg : Gl X x) (hm : X.mg x = some (.ref C)) (he : PE X e te) (hdb : (x == ("__debug__" : Str)) = false := by decide)
    (hall : (backToKw pos (keywordEach [⟨some f, e, kp⟩] X.env)).all (·.1.isSome) = true := by rfl) (hks : (backToKw pos (keywordEach [⟨some f, e, kp⟩] X.env)).filterMap (·.1) = [f] := by rfl)
    (hpl : ((backTo pos (starEach [] X.env)).any (·.1) || (backToKw pos (keywordEach [⟨some f, e, kp⟩] X.env)).any (·.1.isNone)) = false := by rfl) :
    PE X (.Call (.Name x p) [] [⟨some f, e, kp⟩] pos) (tErr1 C f te) := by
  constructor
  intro pins s σ H Q I h
  refine wpAny_Call_Name_kw (ld_glob I hg hm (PySem.W.callWith_KW0 (h₀ := X.base) I.ok.mod.kin T.kC hall ?_ hpl) hdb)
  show wpAny _ _ (evalAll ((do let v ← eval e X.env; standAt pos; pure v) :: [])) _ _ s
  refine wpAny_evalAll_cons (wpAny_bind (thn (he.run pins s σ H _ I h) ?_))
  rintro u s1 ⟨v, H1, I1, r1, q1⟩
  refine wpAny_bind (wpAny_standAt (wpAny_pure (wpAny_evalAll_nil ⟨I1.kIn, ?_⟩)))
  rw [hks]
  exact make1 T S hr true I1 r1 q1
/-- e.n of a made error -/
def tErrF (K : PySem.W.Frag) (n : Str) (te : TE) : TE := fun σ H Q => te σ H fun y H1 => ∃ (a C d : Addr) (fs : List (Str × V)) (v : V), y = .ref a ∧ XfC K C ∧ PySem.W.findIn K (.ref C) n = some none ∧
  H1 a = some (exo a C (some d)) ∧ H1 d = some (exd d fs) ∧ fs.lookup n = some v ∧ Q v H1
theorem pe_errF {n : Str} (he : PE X e te) (hb : attributeBase e n X.env (eval e X.env) = eval e X.env := by rfl) : PE X (.Attribute e n pos) (tErrF X.K n te) := by
  constructor
  intro pins s σ H Q I h
  refine attr_of hb (thn (he.run pins s σ H _ I h) ?_)
  rintro u s1 ⟨y, H1, I1, rx, a, C, d, fs, v, rfl, T, hno, ea, ed, l, q⟩
  obtain rfl : u = Value.ref a := rx
  obtain ⟨t1, ho⟩ := exo_at I1.hok ea
  obtain ⟨mA, hns, hr⟩ := exd_at I1.hok ed
  obtain ⟨od, hod, hl⟩ := lookIn_ns hns
  obtain ⟨u, hu, ru⟩ := RelO.some_of (v := v) (o := mA n) (by rw [← l]; exact hr n)
  have J : PySem.W.InstAt s1.heap a _ C (some od) := ⟨ho, rfl, rfl, hod⟩
  exact HandSPX.exc_get I1.kIn J T.ga T.gg T.exC (PySem.W.findObj_own T.hdC hno rfl (by rw [hl, hu])) (handed_of ru) ⟨v, H1, I1.tok _, ru, q⟩
/-- isinstance(a made error, c) -/
def rIsErr (K : PySem.W.Frag) : List V → Hp → VK → Prop := fun xs H Q => ∃ (a C : Addr) (d : Option Addr) (c : V) (cv : Value) (b : Bool), xs = [.ref a, c] ∧ ExcC K C ∧ (PySem.W.clsIn K C).isSome = true ∧ H a = some (exo a C d) ∧
  (∀ dd, d = some dd → ∃ fs, H dd = some (exd dd fs)) ∧ (∀ u, RelV c u → u = cv) ∧ PySem.W.kitOne K (.ref C) cv = some b ∧ Q (.bl b) H
theorem call_isErr : CallR X (.builtin "isinstance") (rIsErr X.K) := by
  intro pins s σ H xs us Q I r h
  obtain ⟨a, C, d, c, cv, b, rfl, T, hcl, ea, ed, hcv, ek, q⟩ := h
  cases r with
  | cons rx rr =>
    cases rr with
    | cons rt rr =>
      cases rr
      cases rx
      obtain rfl := hcv _ rt
      obtain ⟨t1, ho⟩ := exo_at I.hok ea
      have J : ∃ od, PySem.W.InstAt s.heap a { cls := .ref C, dict := d, data := .fields #[.ref t1, .none, .none, .none, .bool false, .none] } C od := by
        cases d with
        | none => exact ⟨none, ho, rfl, rfl, trivial⟩
        | some dd =>
          obtain ⟨fs, e2⟩ := ed dd rfl
          obtain ⟨mA, hns, _⟩ := exd_at I.hok e2
          obtain ⟨od, hod, _⟩ := lookIn_ns hns
          exact ⟨some od, ho, rfl, rfl, hod⟩
      obtain ⟨od, J⟩ := J
      exact PySem.W.kia_one (PySem.W.kitx_exc hcl T.hg T.hk T.hs T.ha T.hn T.ht T.hm) I.kIn J ek (fun z => nomatch z) fun tk => ⟨.bl b, H, I.kept (t' := tk) fun _ _ z => z, rfl, q⟩
end
end Er

set_option maxRecDepth 100000
set_option maxHeartbeats 4000000
namespace Er
open PySem PySem.Spec PyProof.Rows L2 Dr Gd
/-! ### made errors, told loosely -/
def ErrAt (C : Addr) (H : Hp) (v : V) : Prop := ∃ a d, v = .ref a ∧ H a = some (exo a C d) ∧ ∀ dd, d = some dd → ∃ fs, H dd = some (exd dd fs)
theorem ErrAt.mono {C : Addr} {H H' : Hp} {v : V} (s : Same H H') (h : ErrAt C H v) : ErrAt C H' v := by
  obtain ⟨a, d, e, ha, hd⟩ := h
  exact ⟨a, d, e, s _ _ ha, fun dd z => let ⟨fs, q⟩ := hd dd z; ⟨fs, s _ _ q⟩⟩
def ErrsAt : List Addr → Hp → List V → Prop
  | [], _, vs => vs = []
  | C :: Cs, H, vs => ∃ v r, vs = v :: r ∧ ErrAt C H v ∧ ErrsAt Cs H r
theorem ErrsAt.mono : ∀ {Cs : List Addr} {H H' : Hp} {vs : List V}, Same H H' → ErrsAt Cs H vs → ErrsAt Cs H' vs
  | [], _, _, _, _, h => h
  | _ :: _, _, _, _, s, ⟨v, r, e, h, t⟩ => ⟨v, r, e, h.mono s, ErrsAt.mono s t⟩
theorem ErrsAt.append : ∀ {Cs Ds : List Addr} {H : Hp} {vs ws : List V}, ErrsAt Cs H vs → ErrsAt Ds H ws → ErrsAt (Cs ++ Ds) H (vs ++ ws)
  | [], _, _, _, _, h, g => by rw [show _ = [] from h]; exact g
  | _ :: _, _, _, _, _, ⟨v, r, e, h, t⟩, g => by subst e; exact ⟨v, r ++ _, rfl, h, ErrsAt.append t g⟩
theorem ErrsAt.length : ∀ {Cs : List Addr} {H : Hp} {vs : List V}, ErrsAt Cs H vs → vs.length = Cs.length
  | [], _, _, h => by rw [show _ = [] from h]; rfl
  | _ :: _, _, _, ⟨v, r, e, _, t⟩ => by subst e; rw [List.length_cons, List.length_cons, ErrsAt.length t]
theorem ErrsAt.get : ∀ {Cs : List Addr} {H : Hp} {vs : List V} {i : Nat} {v : V}, ErrsAt Cs H vs → vs[i]? = some v → ∃ C, Cs[i]? = some C ∧ ErrAt C H v
  | [], _, vs, i, v, h, q => by rw [show vs = [] from h] at q; simp at q
  | C :: _, _, _, 0, v, ⟨w, r, e, h, t⟩, q => by
    subst e
    have : w = v := by simpa using q
    subst this
    exact ⟨C, rfl, h⟩
  | _ :: _, _, _, i + 1, v, ⟨w, r, e, h, t⟩, q => by
    subst e
    have q' : r[i]? = some v := by simpa using q
    obtain ⟨C, h1, h2⟩ := ErrsAt.get t q'
    exact ⟨C, by simpa using h1, h2⟩
theorem same_upd {H : Hp} {a : Addr} {o : HO} (h : H a = none) : Same H (upd H a o) := fun b u e => by rw [upd_ne (ne_of_none e h)]; exact e
def tNew (C : Addr) : TE := fun _ H Q => ∀ v H1, Same H H1 → ErrAt C H1 v → Q v H1
def tNews (Cs : List Addr) : TA := fun _ H Q => ∀ vs H1, Same H H1 → ErrsAt Cs H1 vs → Q vs H1
section
variable {X : Cx} {x f : Str} {C fI : Addr} {k : Nat} {e : Expr} {es : List Expr} {te : TE} {p pos kp : Pos} {Cs : List Addr}
theorem pe_imp {t t' : TE} (h : ∀ σ H Q, t' σ H Q → t σ H Q) (q : PE X e t) : PE X e t' := ⟨fun pins s σ H Q I z => q.run pins s σ H Q I (h σ H Q z)⟩
theorem pa_imp {t t' : TA} (h : ∀ σ H Q, t' σ H Q → t σ H Q) (q : PA X es t) : PA X es t' := ⟨fun pos pins s σ H Q I z => q.run pos pins s σ H Q I (h σ H Q z)⟩
theorem err_same {H : Hp} {a : Addr} {v : V} {d : Addr} (n1 : H a = none) (n2 : H d = none) (ne : d ≠ a) : Same H (upd (upd H d (exd d [(f, v)])) a (exo a C (some d))) := fun b u e => by
  rw [upd_ne (ne_of_none e n1), upd_ne (ne_of_none e n2)]
  exact e
theorem pe_new0 (T : ErrC X.prog X.K x none C fI) (S : X.mg "super" = none) (hr : Room k X.A) (hm : X.mg x = some (.ref C)) (hg : Gl X x := by rfl) (hdb : (x == ("__debug__" : Str)) = false := by decide) : PE X (.Call (.Name x p) [] [] pos) (tNew C) :=
  pe_imp (fun σ H Q h a n => h _ _ (same_upd n) ⟨a, none, rfl, upd_same, fun dd z => by cases z⟩) (pe_err0 T S hr hg hm hdb)
theorem pe_new1 (T : ErrC X.prog X.K x (some f) C fI) (S : X.mg "super" = none) (hr : Room k X.A) (hm : X.mg x = some (.ref C)) (he : PE X e te) (hte : ∀ σ H Q, (∀ v H1, Same H H1 → Q v H1) → te σ H Q) (hg : Gl X x := by rfl)
    (hdb : (x == ("__debug__" : Str)) = false := by decide) (hs : starEach [e] X.env = (false, eval e X.env) :: starEach [] X.env := by rfl) : PE X (.Call (.Name x p) [e] [] pos) (tNew C) :=
  pe_imp (fun σ H Q h => hte σ H _ fun v H1 s a d n1 n2 ne => h _ _ (s.trans (err_same n1 n2 ne)) ⟨a, some d, rfl, upd_same, fun dd z => by
    cases z
    exact ⟨_, by rw [upd_ne ne, upd_same]⟩⟩) (pe_err1 T S hr hg hm he hdb hs)
theorem pa_new_nil : PA X [] (tNews []) := pa_imp (fun σ H Q h => h [] H (Same.refl H) rfl) pa_nil
theorem pa_new_cons (he : PE X e (tNew C)) (hr : PA X es (tNews Cs)) (hs : starEach (e :: es) X.env = (false, eval e X.env) :: starEach es X.env := by rfl) : PA X (e :: es) (tNews (C :: Cs)) :=
  pa_imp (fun σ H Q h v H1 s1 a1 vs H2 s2 a2 => h _ _ (s1.trans s2) ⟨v, vs, rfl, a1.mono s2, a2⟩) (pa_cons he hr hs)
/-- C(e).f: the very thing that was handed in -/
def tFld (te : TE) : TE := fun σ H Q => te σ H fun v H1 => ∀ H2, Same H1 H2 → Q v H2
theorem lk1 (f : Str) (v : V) : [(f, v)].lookup f = some v := by simp [List.lookup]
theorem pe_fldP (T : ErrC X.prog X.K x (some f) C fI) (Y : XfC X.K C) (S : X.mg "super" = none) (hr : Room k X.A) (hm : X.mg x = some (.ref C)) (he : PE X e te)
    (mono : ∀ σ H (Q Q' : VK), (∀ v H1, Q v H1 → Q' v H1) → te σ H Q → te σ H Q') (hg : Gl X x := by rfl)
    (hb : attributeBase (.Call (.Name x p) [e] [] pos) f X.env (eval (.Call (.Name x p) [e] [] pos) X.env) = eval (.Call (.Name x p) [e] [] pos) X.env := by rfl)
    (hdb : (x == ("__debug__" : Str)) = false := by decide) (hs : starEach [e] X.env = (false, eval e X.env) :: starEach [] X.env := by rfl) : PE X (.Attribute (.Call (.Name x p) [e] [] pos) f kp) (tFld te) :=
  pe_imp (fun σ H Q h => mono σ H _ _ (fun v H1 q a d n1 n2 ne => ⟨a, C, d, [(f, v)], v, rfl, Y, T.noF f rfl, upd_same, by rw [upd_ne ne, upd_same], lk1 f v, q _ (err_same n1 n2 ne)⟩) h) (pe_errF (te := tErr1 C f te) (pe_err1 T S hr hg hm he hdb hs) hb)
theorem pe_fldK {kp2 : Pos} (T : ErrC X.prog X.K x (some f) C fI) (Y : XfC X.K C) (S : X.mg "super" = none) (hr : Room k X.A) (hm : X.mg x = some (.ref C)) (he : PE X e te)
    (mono : ∀ σ H (Q Q' : VK), (∀ v H1, Q v H1 → Q' v H1) → te σ H Q → te σ H Q') (hg : Gl X x := by rfl)
    (hb : attributeBase (.Call (.Name x p) [] [⟨some f, e, kp2⟩] pos) f X.env (eval (.Call (.Name x p) [] [⟨some f, e, kp2⟩] pos) X.env) = eval (.Call (.Name x p) [] [⟨some f, e, kp2⟩] pos) X.env := by rfl)
    (hdb : (x == ("__debug__" : Str)) = false := by decide)
    (hall : (backToKw pos (keywordEach [⟨some f, e, kp2⟩] X.env)).all (·.1.isSome) = true := by rfl) (hks : (backToKw pos (keywordEach [⟨some f, e, kp2⟩] X.env)).filterMap (·.1) = [f] := by rfl)
    (hpl : ((backTo pos (starEach [] X.env)).any (·.1) || (backToKw pos (keywordEach [⟨some f, e, kp2⟩] X.env)).any (·.1.isNone)) = false := by rfl) : PE X (.Attribute (.Call (.Name x p) [] [⟨some f, e, kp2⟩] pos) f kp) (tFld te) :=
  pe_imp (fun σ H Q h => mono σ H _ _ (fun v H1 q a d n1 n2 ne => ⟨a, C, d, [(f, v)], v, rfl, Y, T.noF f rfl, upd_same, by rw [upd_ne ne, upd_same], lk1 f v, q _ (err_same n1 n2 ne)⟩) h) (pe_errF (te := tErr1 C f te) (pe_err1k T S hr hg hm he hdb hall hks hpl) hb)
theorem mono_var (i : Nat) : ∀ σ H (Q Q' : VK), (∀ v H1, Q v H1 → Q' v H1) → tVar i σ H Q → tVar i σ H Q' := fun σ H Q Q' h ⟨v, e, q⟩ => ⟨v, e, h _ _ q⟩
end
/-! ### the classes by number -/
def nm : Nat → Str
  | 0 => "NoList" | 1 => "NoTuple" | 2 => "BadCount" | 3 => "BadSign" | 4 => "NoSign" | 5 => "BadTerm" | 6 => "BadNames" | 7 => "BadLots" | 8 => "BadFact" | 9 => "NotPossible" | 10 => "BadRule" | 11 => "BadBar"
  | 12 => "NoRule" | 13 => "Unlike" | 14 => "NotServed" | 15 => "Misfit" | 16 => "TooMany" | 17 => "NoOrder" | 18 => "BadSeen" | 19 => "NoFact" | 20 => "NoMark" | _ => "BadText"
def fl : Nat → Option Str
  | 3 => some "number" | 4 => some "name" | 5 => some "value" | 8 => some "number" | 10 => some "number" | 11 => some "number" | 12 => some "number" | 14 => some "tree" | 17 => some "number" | 18 => some "number" | 19 => some "fact"
  | 20 => some "number" | 21 => some "line" | _ => none
/-- T56c: what the law asks of the text as the top has made it -/
structure T56 (P : Program) (K : PySem.W.Frag) (mg : Str → Option Value) (C f : Nat → Addr) (R : Addr) : Prop where
  e : ∀ i, i < 22 → ErrC P K (nm i) (fl i) (C i) (f i)
  g : ∀ i, i < 22 → mg (nm i) = some (.ref (C i))
  xf : ∀ i, i < 22 → XfC K (C i)
  xc : ∀ i, i < 22 → ExcC K (C i)
  xcl : ∀ i, i < 22 → (PySem.W.clsIn K (C i)).isSome = true
  kit : ∀ i j, i < 22 → j < 22 → PySem.W.kitOne K (.ref (C i)) (.ref (C j)) = some (decide (i = j))
  kitR : ∀ i, i < 22 → PySem.W.kitOne K (.ref (C i)) (.ref R) = some true
  kitV : ∀ i, i < 22 → PySem.W.kitOne K (.ref (C i)) (.type "ValueError") = some true
  gR : mg "RingError" = some (.ref R)
  sup : mg "super" = none
  isi : mg "isinstance" = none
  rep : mg "repr" = none
  enu : mg "enumerate" = none
  rng : mg "range" = none
  min : mg "min" = none
  ve : mg "ValueError" = none
  d : DTxt mg
end Er

set_option maxRecDepth 100000
set_option maxHeartbeats 4000000
namespace Er
open PySem PySem.Spec PyProof.Rows L2 Dr Gd
abbrev sKinds : Stmt := top 28
abbrev sFields : Stmt := top 29
abbrev sLaw : Stmt := top 30
section
variable {X : Cx} {x : Str} {C f : Nat → Addr} {R : Addr} {e : Expr} {es : List Expr} {p p1 p2 pos : Pos}
def tKd (C : Nat → Addr) (j : Nat) : TE := fun σ H Q => ∃ v i, σ[0]? = some (some v) ∧ i < 22 ∧ ErrAt (C i) H v ∧ Q (.bl (decide (i = j))) H
def kinds (i : Nat) (js : List Nat) : List V := js.map fun j => .bl (decide (i = j))
def tKds (C : Nat → Addr) (js : List Nat) : TA := fun σ H Q => ∃ v i, σ[0]? = some (some v) ∧ i < 22 ∧ ErrAt (C i) H v ∧ Q (kinds i js) H
theorem pe_kd (T : T56 X.prog X.K X.mg C f R) (j : Nat) (hj : j < 22) (hm : X.mg x = some (.ref (C j))) (h0 : X.N[0]? = some ("thing" : Str) := by rfl) (hg : Gl X "isinstance" := by rfl) (hx : Gl X x := by rfl) (hd : (x == ("__debug__" : Str)) = false := by decide)
    (hv : Vis X.env.scope "thing" := by first | exact Or.inl rfl | exact Or.inr (Or.inl rfl))
    (hs1 : starEach [.Name "thing" p1, .Name x p2] X.env = (false, eval (.Name "thing" p1) X.env) :: starEach [.Name x p2] X.env := by rfl) (hs2 : starEach [.Name x p2] X.env = (false, eval (.Name x p2) X.env) :: starEach [] X.env := by rfl) (hpl : (backTo pos (starEach [.Name x p2] X.env)).any (·.1) = false := by rfl) :
    PE X (.Call (.Name "isinstance" p) [.Name "thing" p1, .Name x p2] [] pos) (tKd C j) := by
  refine pe_imp (fun σ H Q h => ?_) (pe_callB call_isErr hg T.isi (by decide +kernel) (pa_cons (pe_var h0 hv) (pa_cons (pe_glob hx hm (v := .ref (C j)) rfl hd) pa_nil hs2) hs1) (by decide) (by decide) hs1 hpl)
  obtain ⟨v, i, hv, hi, ⟨a, d, rfl, ha, hd⟩, q⟩ := h
  exact ⟨_, hv, a, C i, d, .ref (C j), .ref (C j), decide (i = j), rfl, T.xc i hi, T.xcl i hi, ha, hd, fun u r => r, T.kit i j hi hj, q⟩
theorem pa_kd_nil : PA X [] (tKds C []) := pa_imp (fun σ H Q ⟨_, _, _, _, _, q⟩ => q) pa_nil
theorem pa_kd_cons {j : Nat} {js : List Nat} (he : PE X e (tKd C j)) (hr : PA X es (tKds C js)) (hs : starEach (e :: es) X.env = (false, eval e X.env) :: starEach es X.env := by rfl) : PA X (e :: es) (tKds C (j :: js)) :=
  pa_imp (fun σ H Q ⟨v, i, hv, hi, ha, q⟩ => ⟨v, i, hv, hi, ha, v, i, hv, hi, ha, q⟩) (pa_cons he hr hs)
end
theorem kd_core {C : Nat → Addr} {H : Hp} {v : V} {l : Addr} {i : Nat} {js ks : List Nat} {Q : VK} (hi : i < 22) (hv : ErrAt (C i) H v) (hl : H l = some (.lst (kinds i ks))) (hz : ks.length + js.length ≤ 100)
    (h : ∀ p H', Same H H' → H' p = some (.lst (kinds i (ks ++ js))) → Q (.ref p) H') : tOp rCat (tVar 1) (tLst (tKds C js)) [some v, some (.ref l)] H Q := by
  have big : (100 : Nat) ≤ sizeLine := by decide
  have ln : ∀ ms : List Nat, (kinds i ms).length = ms.length := fun ms => List.length_map ..
  refine ⟨_, rfl, v, i, rfl, hi, hv, (by rw [ln]; omega), fun p hp => ?_⟩
  have s0 := same_upd (o := .lst (kinds i js)) hp
  refine ⟨l, p, _, _, rfl, rfl, s0 _ _ hl, upd_same, (by rw [ln, ln]; omega), fun p2 hp2 => ?_⟩
  refine h p2 _ (s0.trans (same_upd hp2)) ?_
  rw [upd_same]
  exact congrArg (fun l => some (HO.lst l)) (List.map_append ..).symm
theorem kd_step {C : Nat → Addr} {H : Hp} {v : V} {l : Addr} {i : Nat} {js ks : List Nat} {D : Ends} {rest : TS} (hi : i < 22) (hv : ErrAt (C i) H v) (hl : H l = some (.lst (kinds i ks))) (hz : ks.length + js.length ≤ 100)
    (h : ∀ p H', Same H H' → H' p = some (.lst (kinds i (ks ++ js))) → rest D [some v, some (.ref p)] H') : tSeq (tAsg (tOp rCat (tVar 1) (tLst (tKds C js))) (gName 1)) rest D [some v, some (.ref l)] H :=
  kd_core hi hv hl hz fun p H' s e => h p H' s e
def spKinds (C : Nat → Addr) : Sp := fun vs H Q _ => ∃ v i, vs = [v] ∧ i < 22 ∧ ErrAt (C i) H v ∧ ∀ p H', Same H H' → H' p = some (.lst (kinds i (List.range 22))) → Q (.ref p) H'
section
variable {P : Program} {w : World} {K : PySem.W.Frag} {mg : Str → Option Value} {base : Heap} {C f : Nat → Addr} {R : Addr}
theorem scKd : FnScope ["thing", "found"] ["thing"] (defScope sKinds) := ⟨rfl, rfl, rfl, by decide +kernel, rfl, by decide +kernel, by decide +kernel⟩
theorem ok_kinds {fa : Addr} {fd : FuncData} (F : Fun K "_law_kinds" "_law_kinds" sKinds fa fd) (T : T56 P K mg C f R) : FnOk P w K mg base CX0 1 fa fd ["thing"] (spKinds C) := by
  refine F.ok scKd (fun vs H Q E h => ?_) (fun cdv A outer s H vs Q E hr h => ?_)
  · obtain ⟨v, i, rfl, _⟩ := h
    rfl
  · obtain ⟨v, i, rfl, hi, hv, q⟩ := h
    have g := fun j hj => T.g j hj
    refine ⟨_, pss_cons (ps_set (i := 1) scKd.nd rfl (Or.inl rfl) (pe_lst (pa_kd_cons (pe_kd T 0 (by decide) (g 0 (by decide))) (pa_kd_cons (pe_kd T 1 (by decide) (g 1 (by decide))) (pa_kd_cons (pe_kd T 2 (by decide) (g 2 (by decide))) pa_kd_nil)))))
      (pss_cons (ps_set (i := 1) scKd.nd rfl (Or.inl rfl) (pe_op op_cat (pv 1) (pe_lst (pa_kd_cons (pe_kd T 3 (by decide) (g 3 (by decide))) (pa_kd_cons (pe_kd T 4 (by decide) (g 4 (by decide))) (pa_kd_cons (pe_kd T 5 (by decide) (g 5 (by decide))) pa_kd_nil))))))
      (pss_cons (ps_set (i := 1) scKd.nd rfl (Or.inl rfl) (pe_op op_cat (pv 1) (pe_lst (pa_kd_cons (pe_kd T 6 (by decide) (g 6 (by decide))) (pa_kd_cons (pe_kd T 7 (by decide) (g 7 (by decide))) (pa_kd_cons (pe_kd T 8 (by decide) (g 8 (by decide))) pa_kd_nil))))))
      (pss_cons (ps_set (i := 1) scKd.nd rfl (Or.inl rfl) (pe_op op_cat (pv 1) (pe_lst (pa_kd_cons (pe_kd T 9 (by decide) (g 9 (by decide))) (pa_kd_cons (pe_kd T 10 (by decide) (g 10 (by decide))) (pa_kd_cons (pe_kd T 11 (by decide) (g 11 (by decide))) pa_kd_nil))))))
      (pss_cons (ps_set (i := 1) scKd.nd rfl (Or.inl rfl) (pe_op op_cat (pv 1) (pe_lst (pa_kd_cons (pe_kd T 12 (by decide) (g 12 (by decide))) (pa_kd_cons (pe_kd T 13 (by decide) (g 13 (by decide))) (pa_kd_cons (pe_kd T 14 (by decide) (g 14 (by decide))) pa_kd_nil))))))
      (pss_cons (ps_set (i := 1) scKd.nd rfl (Or.inl rfl) (pe_op op_cat (pv 1) (pe_lst (pa_kd_cons (pe_kd T 15 (by decide) (g 15 (by decide))) (pa_kd_cons (pe_kd T 16 (by decide) (g 16 (by decide))) (pa_kd_cons (pe_kd T 17 (by decide) (g 17 (by decide))) pa_kd_nil))))))
      (pss_cons (ps_set (i := 1) scKd.nd rfl (Or.inl rfl) (pe_op op_cat (pv 1) (pe_lst (pa_kd_cons (pe_kd T 18 (by decide) (g 18 (by decide))) (pa_kd_cons (pe_kd T 19 (by decide) (g 19 (by decide))) (pa_kd_cons (pe_kd T 20 (by decide) (g 20 (by decide))) pa_kd_nil))))))
      (pss_one (ps_ret (pe_op op_cat (pv 1) (pe_lst (pa_kd_cons (pe_kd T 21 (by decide) (g 21 (by decide))) pa_kd_nil))))))))))), ?_⟩
    refine ⟨v, i, rfl, hi, hv, (by rw [kinds, List.length_map]; decide), fun p hp => ?_⟩
    have s0 := same_upd (o := .lst (kinds i [0, 1, 2])) hp
    refine kd_step hi (hv.mono s0) upd_same (by decide) (fun p H1 s1 h1 => ?_)
    have s1 := s0.trans s1
    refine kd_step hi (hv.mono s1) h1 (by decide) (fun p H2 s2 h2 => ?_)
    have s2 := s1.trans s2
    refine kd_step hi (hv.mono s2) h2 (by decide) (fun p H3 s3 h3 => ?_)
    have s3 := s2.trans s3
    refine kd_step hi (hv.mono s3) h3 (by decide) (fun p H4 s4 h4 => ?_)
    have s4 := s3.trans s4
    refine kd_step hi (hv.mono s4) h4 (by decide) (fun p H5 s5 h5 => ?_)
    have s5 := s4.trans s5
    refine kd_step hi (hv.mono s5) h5 (by decide) (fun p H6 s6 h6 => ?_)
    have s6 := s5.trans s6
    exact kd_core hi (hv.mono s6) h6 (by decide) (fun p H7 s7 h7 => q p H7 (s6.trans s7) h7)
end
end Er

set_option maxRecDepth 100000
set_option maxHeartbeats 4000000
namespace Er
open PySem PySem.Spec PyProof.Rows L2 Dr Gd
theorem seqT_same {K : PySem.W.Frag} {H H' : Hp} {a : Addr} {xs : List V} (e : Same H H') (h : SqT K H a xs) : SqT K H' a xs := by
  rcases h with (h | ⟨o, h⟩) | h
  · exact .inl (.inl (e _ _ h))
  · exact .inl (.inr ⟨o, e _ _ h⟩)
  · exact .inr h
mutual
theorem dp_same {K : PySem.W.Frag} {H H' : Hp} (s : Same H H') : ∀ (d : PyData) (v : V), Dp K H v d → Dp K H' v d
  | .none, _, h => by cases h; exact .non
  | .bool b, _, h => by cases h; exact .bl b
  | .int i, _, h => by cases h; exact .int i
  | .str x, _, h => by cases h; exact .str x
  | .list ds, _, h => by
    cases h with
    | lst h1 h2 => exact .lst (s.seq h1) (dpAll_same s ds _ h2)
  | .tuple ds, _, h => by
    cases h with
    | tup h1 h2 => exact .tup (seqT_same s h1) (dpAll_same s ds _ h2)
  | .dict kvs, _, h => by cases h
theorem dpAll_same {K : PySem.W.Frag} {H H' : Hp} (s : Same H H') : ∀ (ds : List PyData) (vs : List V), DpAll K H vs ds → DpAll K H' vs ds
  | [], _, h => by cases h; exact .nil
  | d :: ds, _, h => by
    cases h with
    | cons a b => exact .cons (dp_same s d _ a) (dpAll_same s ds _ b)
end
theorem dpAll_rep {K : PySem.W.Frag} {H : Hp} {v : V} {d : PyData} (h : Dp K H v d) : ∀ n, DpAll K H (List.replicate n v) (List.replicate n d)
  | 0 => .nil
  | n + 1 => by rw [List.replicate_succ, List.replicate_succ]; exact .cons h (dpAll_rep h n)
/-- data that can be shown -/
structure Okd (d : PyData) : Prop where
  sh : d.showable = true
  nd : d.hasDict = false
  sz : d.shown.length ≤ 1000
  dp : d.depth ≤ 10
theorem rep_sh {d : PyData} (h : d.showable = true) : ∀ n, PyData.showableAll (List.replicate n d) = true
  | 0 => by simp [PyData.showableAll]
  | n + 1 => by rw [List.replicate_succ]; simp [PyData.showableAll, h, rep_sh h n]
theorem rep_nd {d : PyData} (h : d.hasDict = false) : ∀ n, PyData.hasDictAll (List.replicate n d) = false
  | 0 => by simp [PyData.hasDictAll]
  | n + 1 => by rw [List.replicate_succ]; simp [PyData.hasDictAll, h, rep_nd h n]
theorem rep_dp {d : PyData} (h : d.depth ≤ 10) : ∀ n, PyData.depthAll (List.replicate n d) ≤ 10
  | 0 => by simp [PyData.depthAll]
  | n + 1 => by
    rw [List.replicate_succ]
    simp only [PyData.depthAll]
    exact Nat.max_le.mpr ⟨h, rep_dp h n⟩
theorem rep_shown (d : PyData) : ∀ n, PyData.shownAll (List.replicate n d) = List.replicate n d.shown
  | 0 => by simp [PyData.shownAll]
  | n + 1 => by rw [List.replicate_succ, List.replicate_succ, PyData.shownAll_cons, rep_shown d n]
theorem rep_ok {d : PyData} (h : Okd d) {n : Nat} (hn : n ≤ 100) : (PyData.list (List.replicate n d)).showable = true ∧ (PyData.list (List.replicate n d)).hasDict = false ∧ (PyData.list (List.replicate n d)).shown.length ≤ sizeLine ∧ (PyData.list (List.replicate n d)).depth ≤ 60 := by
  refine ⟨by simpa only [PyData.showable] using rep_sh h.sh n, by simpa only [PyData.hasDict] using rep_nd h.nd n, ?_, ?_⟩
  · have e : (PyData.list (List.replicate n d)).shown = listText (List.replicate n d.shown) := by simp only [PyData.shown, rep_shown]
    rw [e, sizeLine_eq]
    have z := listText_len_le (List.replicate n d.shown)
    rw [List.map_replicate, List.sum_replicate_nat, List.length_replicate] at z
    have y : n * d.shown.length ≤ 100 * 1000 := Nat.mul_le_mul hn h.sz
    omega
  · simp only [PyData.depth]
    have := rep_dp h.dp n
    omega
def tRepN (n : Nat) : TA := fun σ H Q => ∃ v, σ[0]? = some (some v) ∧ ∀ H2, Same H H2 → Q (List.replicate n v) H2
section
variable {X : Cx} {e : Expr} {es : List Expr}
theorem pa_fr_nil : PA X [] (tRepN 0) := pa_imp (fun σ H Q ⟨_, _, q⟩ => q H (Same.refl H)) pa_nil
theorem pa_fr_cons {n : Nat} (he : PE X e (tFld (tVar 0))) (hr : PA X es (tRepN n)) (hs : starEach (e :: es) X.env = (false, eval e X.env) :: starEach es X.env := by rfl) : PA X (e :: es) (tRepN (n + 1)) :=
  pa_imp (fun σ H Q ⟨v, hv, q⟩ => ⟨v, hv, fun H2 s2 => ⟨v, hv, fun H3 s3 => q H3 (s2.trans s3)⟩⟩) (pa_cons he hr hs)
end
theorem fr_core {H : Hp} {v t : V} {l : Addr} {n m : Nat} {Q : VK} (hl : H l = some (.lst (List.replicate n v))) (hz : n + m ≤ 100)
    (h : ∀ p H', Same H H' → H' p = some (.lst (List.replicate (n + m) v)) → Q (.ref p) H') : tOp rCat (tVar 2) (tLst (tRepN m)) [some v, some t, some (.ref l)] H Q := by
  have big : (100 : Nat) ≤ sizeLine := by decide
  refine ⟨_, rfl, v, rfl, fun H2 s2 => ⟨by rw [List.length_replicate]; omega, fun p hp => ?_⟩⟩
  have s0 := s2.trans (same_upd (o := .lst (List.replicate m v)) hp)
  refine ⟨l, p, _, _, rfl, rfl, s0 _ _ hl, upd_same, (by rw [List.length_replicate, List.length_replicate]; omega), fun p2 hp2 => ?_⟩
  refine h p2 _ (s0.trans (same_upd hp2)) ?_
  rw [upd_same, List.replicate_append_replicate]
theorem fr_step {H : Hp} {v t : V} {l : Addr} {n m : Nat} {D : Ends} {rest : TS} (hl : H l = some (.lst (List.replicate n v))) (hz : n + m ≤ 100)
    (h : ∀ p H', Same H H' → H' p = some (.lst (List.replicate (n + m) v)) → rest D [some v, some t, some (.ref p)] H') : tSeq (tAsg (tOp rCat (tVar 2) (tLst (tRepN m))) (gName 2)) rest D [some v, some t, some (.ref l)] H :=
  fr_core hl hz fun p H' s e => h p H' s e
def spFields (K : PySem.W.Frag) : Sp := fun vs H Q _ => ∃ v d, vs = [v] ∧ Dp K H v d ∧ Okd d ∧ ∀ H', Same H H' → Q (.bl true) H'
section
variable {P : Program} {w : World} {K : PySem.W.Frag} {mg : Str → Option Value} {base : Heap} {C f : Nat → Addr} {R : Addr}
theorem scFr : FnScope ["odd", "shown", "found"] ["odd"] (defScope sFields) := ⟨rfl, rfl, rfl, by decide +kernel, rfl, by decide +kernel, by decide +kernel⟩
theorem ok_fields {fa : Addr} {fd : FuncData} (F : Fun K "_law_fields_right" "_law_fields_right" sFields fa fd) (T : T56 P K mg C f R) : FnG P w K mg base CX0 2 fa fd ["odd"] (spFields K) := by
  refine okG F scFr (fun vs H Q E h => ?_) (fun cdv A outer s H vs Q E hgd hr h => ?_)
  · obtain ⟨v, d, rfl, _⟩ := h
    rfl
  · obtain ⟨v, d, rfl, hd, od, q⟩ := h
    have hr1 : Room 1 _ := hr
    have hu : (A.deeper (envOfC "_law_fields_right" (defScope sFields) s.heap.objs.size fa cdv)).units + 70 < cLine := by
      have := hr.un
      omega
    refine ⟨_, pss_cons (ps_set (i := 1) scFr.nd rfl (Or.inl rfl) (pe_callB (call_reprD hgd hu) (by rfl) T.rep (by decide +kernel) (pa_cons (pv 0) pa_nil)))
      (pss_cons (ps_set (i := 2) scFr.nd rfl (Or.inl rfl) (pe_lst (pa_fr_cons (pe_fldP (T.e 3 (by decide)) (T.xf 3 (by decide)) T.sup hr1 (T.g 3 (by decide)) (pv 0) (mono_var 0)) (pa_fr_cons (pe_fldK (T.e 3 (by decide)) (T.xf 3 (by decide)) T.sup hr1 (T.g 3 (by decide)) (pv 0) (mono_var 0)) (pa_fr_cons (pe_fldP (T.e 4 (by decide)) (T.xf 4 (by decide)) T.sup hr1 (T.g 4 (by decide)) (pv 0) (mono_var 0)) (pa_fr_cons (pe_fldK (T.e 4 (by decide)) (T.xf 4 (by decide)) T.sup hr1 (T.g 4 (by decide)) (pv 0) (mono_var 0)) pa_fr_nil))))))
      (pss_cons (ps_set (i := 2) scFr.nd rfl (Or.inl rfl) (pe_op op_cat (pv 2) (pe_lst (pa_fr_cons (pe_fldP (T.e 5 (by decide)) (T.xf 5 (by decide)) T.sup hr1 (T.g 5 (by decide)) (pv 0) (mono_var 0)) (pa_fr_cons (pe_fldK (T.e 5 (by decide)) (T.xf 5 (by decide)) T.sup hr1 (T.g 5 (by decide)) (pv 0) (mono_var 0)) (pa_fr_cons (pe_fldP (T.e 8 (by decide)) (T.xf 8 (by decide)) T.sup hr1 (T.g 8 (by decide)) (pv 0) (mono_var 0)) (pa_fr_cons (pe_fldK (T.e 8 (by decide)) (T.xf 8 (by decide)) T.sup hr1 (T.g 8 (by decide)) (pv 0) (mono_var 0)) pa_fr_nil)))))))
      (pss_cons (ps_set (i := 2) scFr.nd rfl (Or.inl rfl) (pe_op op_cat (pv 2) (pe_lst (pa_fr_cons (pe_fldP (T.e 10 (by decide)) (T.xf 10 (by decide)) T.sup hr1 (T.g 10 (by decide)) (pv 0) (mono_var 0)) (pa_fr_cons (pe_fldK (T.e 10 (by decide)) (T.xf 10 (by decide)) T.sup hr1 (T.g 10 (by decide)) (pv 0) (mono_var 0)) (pa_fr_cons (pe_fldP (T.e 11 (by decide)) (T.xf 11 (by decide)) T.sup hr1 (T.g 11 (by decide)) (pv 0) (mono_var 0)) (pa_fr_cons (pe_fldK (T.e 11 (by decide)) (T.xf 11 (by decide)) T.sup hr1 (T.g 11 (by decide)) (pv 0) (mono_var 0)) pa_fr_nil)))))))
      (pss_cons (ps_set (i := 2) scFr.nd rfl (Or.inl rfl) (pe_op op_cat (pv 2) (pe_lst (pa_fr_cons (pe_fldP (T.e 12 (by decide)) (T.xf 12 (by decide)) T.sup hr1 (T.g 12 (by decide)) (pv 0) (mono_var 0)) (pa_fr_cons (pe_fldK (T.e 12 (by decide)) (T.xf 12 (by decide)) T.sup hr1 (T.g 12 (by decide)) (pv 0) (mono_var 0)) (pa_fr_cons (pe_fldP (T.e 14 (by decide)) (T.xf 14 (by decide)) T.sup hr1 (T.g 14 (by decide)) (pv 0) (mono_var 0)) (pa_fr_cons (pe_fldK (T.e 14 (by decide)) (T.xf 14 (by decide)) T.sup hr1 (T.g 14 (by decide)) (pv 0) (mono_var 0)) pa_fr_nil)))))))
      (pss_cons (ps_set (i := 2) scFr.nd rfl (Or.inl rfl) (pe_op op_cat (pv 2) (pe_lst (pa_fr_cons (pe_fldP (T.e 17 (by decide)) (T.xf 17 (by decide)) T.sup hr1 (T.g 17 (by decide)) (pv 0) (mono_var 0)) (pa_fr_cons (pe_fldK (T.e 17 (by decide)) (T.xf 17 (by decide)) T.sup hr1 (T.g 17 (by decide)) (pv 0) (mono_var 0)) (pa_fr_cons (pe_fldP (T.e 18 (by decide)) (T.xf 18 (by decide)) T.sup hr1 (T.g 18 (by decide)) (pv 0) (mono_var 0)) (pa_fr_cons (pe_fldK (T.e 18 (by decide)) (T.xf 18 (by decide)) T.sup hr1 (T.g 18 (by decide)) (pv 0) (mono_var 0)) pa_fr_nil)))))))
      (pss_cons (ps_set (i := 2) scFr.nd rfl (Or.inl rfl) (pe_op op_cat (pv 2) (pe_lst (pa_fr_cons (pe_fldP (T.e 19 (by decide)) (T.xf 19 (by decide)) T.sup hr1 (T.g 19 (by decide)) (pv 0) (mono_var 0)) (pa_fr_cons (pe_fldK (T.e 19 (by decide)) (T.xf 19 (by decide)) T.sup hr1 (T.g 19 (by decide)) (pv 0) (mono_var 0)) (pa_fr_cons (pe_fldP (T.e 20 (by decide)) (T.xf 20 (by decide)) T.sup hr1 (T.g 20 (by decide)) (pv 0) (mono_var 0)) (pa_fr_cons (pe_fldK (T.e 20 (by decide)) (T.xf 20 (by decide)) T.sup hr1 (T.g 20 (by decide)) (pv 0) (mono_var 0)) pa_fr_nil)))))))
      (pss_cons (ps_if (pt_cmpR op_ne (pe_callB (call_reprD hgd hu) (by rfl) T.rep (by decide +kernel) (pa_cons (pe_op op_cat (pv 2) (pe_lst (pa_fr_cons (pe_fldP (T.e 21 (by decide)) (T.xf 21 (by decide)) T.sup hr1 (T.g 21 (by decide)) (pv 0) (mono_var 0)) (pa_fr_cons (pe_fldK (T.e 21 (by decide)) (T.xf 21 (by decide)) T.sup hr1 (T.g 21 (by decide)) (pv 0) (mono_var 0)) pa_fr_nil)))) pa_nil)) (pe_callB (call_reprD hgd hu) (by rfl) T.rep (by decide +kernel) (pa_cons (pe_op op_rep (pe_lst (pa_cons (pv 0) pa_nil)) pe_int) pa_nil)) (nomark _)) (pss_one (ps_ret pe_bl)) pss_nil)
      (pss_one (ps_ret (pe_cmpR op_eq (pe_callB (call_reprD hgd hu) (by rfl) T.rep (by decide +kernel) (pa_cons (pv 0) pa_nil)) (pv 1) (nomark _))))))))))), ?_⟩
    -- shown = repr(odd)
    refine ⟨_, rfl, v, d, rfl, hd, od.sh, od.nd, Nat.le_trans od.sz (by decide), Nat.le_trans od.dp (by decide), ?_⟩
    refine ⟨v, rfl, fun H0 s0 => ⟨by rw [List.length_replicate]; decide, fun p hp => ?_⟩⟩
    have s0 := s0.trans (same_upd (o := .lst (List.replicate 4 v)) hp)
    refine fr_step (n := 4) (m := 4) upd_same (by decide) (fun p H1 s1 h1 => ?_)
    have s1 := s0.trans s1
    refine fr_step (n := 8) (m := 4) h1 (by decide) (fun p H2 s2 h2 => ?_)
    have s2 := s1.trans s2
    refine fr_step (n := 12) (m := 4) h2 (by decide) (fun p H3 s3 h3 => ?_)
    have s3 := s2.trans s3
    refine fr_step (n := 16) (m := 4) h3 (by decide) (fun p H4 s4 h4 => ?_)
    have s4 := s3.trans s4
    refine fr_step (n := 20) (m := 4) h4 (by decide) (fun p H5 s5 h5 => ?_)
    have s5 := s4.trans s5
    obtain ⟨o1, o2, o3, o4⟩ := rep_ok od (n := 26) (by decide)
    -- repr(found + [..])
    refine fr_core (n := 24) (m := 2) h5 (by decide) (fun p6 H6 s6 h6 => ?_)
    have s6 := s5.trans s6
    refine ⟨_, .list (List.replicate 26 d), rfl, .lst (SqL.of h6) (dpAll_rep (dp_same s6 d v hd) 26), o1, o2, o3, o4, ?_⟩
    -- repr([odd] * 26)
    refine ⟨_, rfl, (by show 1 ≤ sizeLine; decide), fun p7 hp7 => ?_⟩
    refine ⟨p7, 26, [v], rfl, rfl, upd_same, by decide, by decide, (by show 1 * 26 ≤ sizeLine; decide), fun p8 hp8 => ?_⟩
    have s8 := (s6.trans (same_upd hp7)).trans (same_upd (o := .lst (List.replicate (26 : Int).toNat [v]).flatten) hp8)
    have e8 : (List.replicate (26 : Int).toNat [v]).flatten = List.replicate 26 v := rfl
    rw [e8] at s8 ⊢
    refine ⟨_, .list (List.replicate 26 d), rfl, .lst (SqL.of upd_same) (dpAll_rep (dp_same s8 d v hd) 26), o1, o2, o3, o4, ?_⟩
    refine ⟨rfl, _, rfl, ?_⟩
    refine iteNS rfl ?_
    -- return repr(odd) == shown
    refine ⟨_, rfl, v, d, rfl, dp_same s8 d v hd, od.sh, od.nd, Nat.le_trans od.sz (by decide), Nat.le_trans od.dp (by decide), ?_⟩
    refine ⟨_, rfl, rfl, ?_⟩
    have e9 : decide (V.str d.shown = V.str d.shown) = true := decide_eq_true rfl
    rw [e9]
    exact q _ s8
end
end Er

set_option maxRecDepth 100000
set_option maxHeartbeats 4000000
namespace Er
open PySem PySem.Spec PyProof.Rows L2 Dr Gd
/-! ### ValueError() as a value -/
def veO (a : Addr) : HO := .ext fun h => PySem.W.KitAt a "ValueError" h
section
variable {X : Cx}
theorem call_VE : CallR X (.type "ValueError") (fun xs H Q => xs = [] ∧ ∀ a, H a = none → Q (.ref a) (upd H a (veO a))) := by
  intro pins s σ H xs us Q I r h
  obtain ⟨rfl, q⟩ := h
  cases r
  obtain ⟨hp, g, d, t, os⟩ := s
  refine wpAny_call_exc PySem.F.excCall_ValueError (fun h' a hm => ?_) (Nat.zero_le _)
  have hn : H a = none := I.hok.gone hm.new
  obtain ⟨t1, ht, _, _⟩ := hm.there
  refine ⟨.ref a, _, I.laidN (t' := t) hm.keeps hm.new hn ?_, rfl, q a hn⟩
  exact ⟨⟨_, ht, rfl⟩, ⟨_, ht⟩, fun h1 h2 ⟨o, z1, z2⟩ k => ⟨o, k o z1, z2⟩⟩
theorem call_isVE : CallR X (.builtin "isinstance") (fun xs H Q => ∃ (a : Addr) (c : V) (cv : Value) (b : Bool), xs = [.ref a, c] ∧ H a = some (veO a) ∧ (∀ u, RelV c u → u = cv) ∧ PySem.W.kitOne X.K (.type "ValueError") cv = some b ∧ Q (.bl b) H) := by
  intro pins s σ H xs us Q I r h
  obtain ⟨a, c, cv, b, rfl, ea, hcv, ek, q⟩ := h
  cases r with
  | cons rx rr =>
    cases rr with
    | cons rt rr =>
      cases rr
      cases rx
      obtain rfl := hcv _ rt
      have J : PySem.W.KitAt a "ValueError" s.heap := (I.hok a _ ea).1
      exact PySem.W.kia_one (PySem.W.kitx_bexc PySem.F.excAttr_ValueError PySem.F.lkClass_ValueError PySem.F.soClass_ValueError (by decide)) I.kIn J ek (fun z => nomatch z) fun tk => ⟨.bl b, H, I.kept (t' := tk) fun _ _ z => z, rfl, q⟩
end
theorem mk_core {H : Hp} {vs : List V} {Cs Ds : List Addr} {σ : L2.St} {l : Addr} {Q : VK} (h1 : σ[1]? = some (some (.ref l))) (hl : H l = some (.lst vs)) (he : ErrsAt Cs H vs) (hz : Cs.length + Ds.length ≤ 100)
    (h : ∀ p H' ws, Same H H' → H' p = some (.lst ws) → ErrsAt (Cs ++ Ds) H' ws → Q (.ref p) H') : tOp rCat (tVar 1) (tLst (tNews Ds)) σ H Q := by
  have big : (100 : Nat) ≤ sizeLine := by decide
  refine ⟨_, h1, fun ws H1 s1 e1 => ⟨by rw [e1.length]; omega, fun p hp => ?_⟩⟩
  have s2 := s1.trans (same_upd (o := .lst ws) hp)
  refine ⟨l, p, _, _, rfl, rfl, s2 _ _ hl, upd_same, (by rw [he.length, e1.length]; omega), fun p2 hp2 => ?_⟩
  have s3 := s2.trans (same_upd (o := .lst (vs ++ ws)) hp2)
  exact h p2 _ _ s3 upd_same ((he.mono s3).append (e1.mono ((same_upd hp).trans (same_upd hp2))))
/-- the law's own list beside the kinds -/
def dKs (i : Nat) : PyData := .list ((List.range 22).map fun j => .bool (decide (i = j)))
theorem dKs_shaped : ∀ i, i < 22 → SeqAt.shaped (dKs i) = true := by decide +kernel
theorem dKs_eqv : ∀ i, i < 22 → PyData.eqv (dKs i) (dKs i) = true := by decide +kernel
theorem dp_kinds {K : PySem.W.Frag} {H : Hp} (i : Nat) : ∀ js : List Nat, DpAll K H (kinds i js) (js.map fun j => .bool (decide (i = j)))
  | [] => .nil
  | j :: js => .cons (.bl _) (dp_kinds i js)
theorem kinds_eq (i n : Nat) : ((List.range n).map fun m : Nat => V.bl (decide (V.int (0 + (m : Int)) = V.int (i : Int)))) = kinds i (List.range n) := by
  unfold kinds
  refine List.map_congr_left fun m _ => congrArg V.bl ?_
  refine decide_eq_decide.mpr ⟨fun z => ?_, fun z => ?_⟩
  · injection z with z
    omega
  · subst z
    exact congrArg V.int (by omega)
theorem ok_non : Okd .none := ⟨by decide +kernel, by decide +kernel, by decide +kernel, by decide +kernel⟩
theorem ok_0 : Okd (.int 0) := ⟨by decide +kernel, by decide +kernel, by decide +kernel, by decide +kernel⟩
theorem ok_m5 : Okd (.int (-5)) := ⟨by decide +kernel, by decide +kernel, by decide +kernel, by decide +kernel⟩
theorem ok_t : Okd (.bool true) := ⟨by decide +kernel, by decide +kernel, by decide +kernel, by decide +kernel⟩
theorem ok_s : Okd (.str "text") := ⟨by decide +kernel, by decide +kernel, by decide +kernel, by decide +kernel⟩
theorem ok_e : Okd (.tuple []) := ⟨by decide +kernel, by decide +kernel, by decide +kernel, by decide +kernel⟩
theorem ok_12 : Okd (.tuple [.int 1, .list [.int 2]]) := ⟨by decide +kernel, by decide +kernel, by decide +kernel, by decide +kernel⟩
theorem ok_34 : Okd (.list [.int 3, .tuple [.int 4]]) := ⟨by decide +kernel, by decide +kernel, by decide +kernel, by decide +kernel⟩
theorem ok_39 : Okd (.int (10 ^ (39 : Int).toNat)) := ⟨by decide +kernel, by decide +kernel, by decide +kernel, by decide +kernel⟩
theorem ok_r {r : Int} (h0 : 0 ≤ r) (h1 : r < 100) : Okd (.int r) := by
  have z : r.natAbs < 10 ^ 12 := by
    have : (10 : Nat) ^ 12 = 1000000000000 := by decide
    omega
  refine ⟨?_, by simp [PyData.hasDict], Nat.le_trans (PyData.shown_int_le z) (by decide), by simp [PyData.depth]⟩
  simp only [PyData.showable, decide_eq_true_eq]
  exact log2_small (Nat.lt_of_lt_of_le z (by decide +kernel))
abbrev lawN : List Str := ["script", "made", "nth", "thing", "k", "feed", "some", "nr"]
/-- the law: a list of at most 63 ints is handed in, True comes out -/
def spLaw (K : PySem.W.Frag) : Sp := fun vs H Q _ => ∃ (a : Addr) (ns : List Int), vs = [.ref a] ∧ SqL K H a (ns.map V.int) ∧ ns.length ≤ 63 ∧ ∀ H', Q (.bl true) H'
section
variable {P : Program} {w : World} {K : PySem.W.Frag} {mg : Str → Option Value} {base : Heap} {C f : Nat → Addr} {R : Addr}
theorem scL : FnScope lawN ["script"] (defScope sLaw) := ⟨rfl, rfl, rfl, by decide +kernel, rfl, by decide +kernel, by decide +kernel⟩
theorem ok_law {fa fF fT fP fK fR : Addr} {fd dF dT dP dK dR : FuncData} (F : Fun K "law" "law" sLaw fa fd) (T : T56 P K mg C f R) (hVR : PySem.W.kitOne K (.type "ValueError") (.ref R) = some false)
    (FF : Fun K "_law_feed" "_law_feed" sFeed fF dF) (bF : L2.Binds K dF ["script", "k"] []) (gF : mg "_law_feed" = some (.ref fF))
    (FT : Fun K "_law_take" "_law_take" sTake fT dT) (bT : L2.Binds K dT ["feed", "many"] []) (gT : mg "_law_take" = some (.ref fT))
    (FP : Fun K "_law_pick" "_law_pick" sPick fP dP) (bP : L2.Binds K dP ["feed", "some"] []) (gP : mg "_law_pick" = some (.ref fP))
    (FKd : Fun K "_law_kinds" "_law_kinds" sKinds fK dK) (bKd : L2.Binds K dK ["thing"] []) (gKd : mg "_law_kinds" = some (.ref fK))
    (FR : Fun K "_law_fields_right" "_law_fields_right" sFields fR dR) (bR : L2.Binds K dR ["odd"] []) (gR : mg "_law_fields_right" = some (.ref fR)) : FnG P w K mg base CX0 3 fa fd ["script"] (spLaw K) := by
  have GF : FnOk P w K mg base CX0 1 fF dF ["script", "k"] (spFeed K) := ok_feed FF T.d
  have GT : FnOk P w K mg base CX0 1 fT dT ["feed", "many"] spTake := ok_take FT T.d
  have GP : FnOk P w K mg base CX0 2 fP dP ["feed", "some"] (spPick K) := ok_pick FP T.d FT bT gT
  have GKd : FnOk P w K mg base CX0 1 fK dK ["thing"] (spKinds C) := ok_kinds FKd T
  have GR : FnG P w K mg base CX0 2 fR dR ["odd"] (spFields K) := ok_fields FR T
  refine okG F scL (fun vs H Q E h => ?_) (fun cdv A outer s H vs Q E hgd hr h => ?_)
  · obtain ⟨a, ns, rfl, _⟩ := h
    rfl
  · obtain ⟨a, ns, rfl, hS, hlen, q⟩ := h
    have hr1 : Room 1 _ := hr.mono (by decide)
    have hu64 : (A.deeper (envOfC "law" (defScope sLaw) s.heap.objs.size fa cdv)).units + 64 < cLine := by
      have := hr.un
      omega
    refine ⟨_, pss_cons (ps_set (i := 1) scL.nd rfl (Or.inl rfl) (pe_lst (pa_new_cons (pe_new0 (T.e 0 (by decide)) T.sup hr (T.g 0 (by decide))) (pa_new_cons (pe_new0 (T.e 1 (by decide)) T.sup hr (T.g 1 (by decide))) (pa_new_cons (pe_new0 (T.e 2 (by decide)) T.sup hr (T.g 2 (by decide))) (pa_new_cons (pe_new1 (T.e 3 (by decide)) T.sup hr (T.g 3 (by decide)) pe_int (fun σ H Q h => h _ H (Same.refl H))) (pa_new_cons (pe_new1 (T.e 4 (by decide)) T.sup hr (T.g 4 (by decide)) pe_str (fun σ H Q h => h _ H (Same.refl H))) (pa_new_cons (pe_new1 (T.e 5 (by decide)) T.sup hr (T.g 5 (by decide)) pe_non (fun σ H Q h => h _ H (Same.refl H))) (pa_new_cons (pe_new0 (T.e 6 (by decide)) T.sup hr (T.g 6 (by decide))) (pa_new_cons (pe_new0 (T.e 7 (by decide)) T.sup hr (T.g 7 (by decide))) (pa_new_cons (pe_new1 (T.e 8 (by decide)) T.sup hr (T.g 8 (by decide)) pe_int (fun σ H Q h => h _ H (Same.refl H))) pa_new_nil)))))))))))
      (pss_cons (ps_set (i := 1) scL.nd rfl (Or.inl rfl) (pe_op op_cat (pv 1) (pe_lst (pa_new_cons (pe_new0 (T.e 9 (by decide)) T.sup hr (T.g 9 (by decide))) (pa_new_cons (pe_new1 (T.e 10 (by decide)) T.sup hr (T.g 10 (by decide)) pe_int (fun σ H Q h => h _ H (Same.refl H))) (pa_new_cons (pe_new1 (T.e 11 (by decide)) T.sup hr (T.g 11 (by decide)) pe_int (fun σ H Q h => h _ H (Same.refl H))) (pa_new_cons (pe_new1 (T.e 12 (by decide)) T.sup hr (T.g 12 (by decide)) pe_int (fun σ H Q h => h _ H (Same.refl H))) (pa_new_cons (pe_new0 (T.e 13 (by decide)) T.sup hr (T.g 13 (by decide))) (pa_new_cons (pe_new1 (T.e 14 (by decide)) T.sup hr (T.g 14 (by decide)) (pe_tup pa_nil) (fun σ H Q h => ⟨Nat.zero_le _, fun p hp => h _ _ (same_upd hp)⟩)) (pa_new_cons (pe_new0 (T.e 15 (by decide)) T.sup hr (T.g 15 (by decide))) (pa_new_cons (pe_new0 (T.e 16 (by decide)) T.sup hr (T.g 16 (by decide))) pa_new_nil)))))))))))
      (pss_cons (ps_set (i := 1) scL.nd rfl (Or.inl rfl) (pe_op op_cat (pv 1) (pe_lst (pa_new_cons (pe_new1 (T.e 17 (by decide)) T.sup hr (T.g 17 (by decide)) pe_int (fun σ H Q h => h _ H (Same.refl H))) (pa_new_cons (pe_new1 (T.e 18 (by decide)) T.sup hr (T.g 18 (by decide)) pe_int (fun σ H Q h => h _ H (Same.refl H))) (pa_new_cons (pe_new1 (T.e 19 (by decide)) T.sup hr (T.g 19 (by decide)) (pe_tup pa_nil) (fun σ H Q h => ⟨Nat.zero_le _, fun p hp => h _ _ (same_upd hp)⟩)) (pa_new_cons (pe_new1 (T.e 20 (by decide)) T.sup hr (T.g 20 (by decide)) pe_int (fun σ H Q h => h _ H (Same.refl H))) (pa_new_cons (pe_new1 (T.e 21 (by decide)) T.sup hr (T.g 21 (by decide)) pe_int (fun σ H Q h => h _ H (Same.refl H))) pa_new_nil))))))))
      (pss_cons (ps_for PassesOwn.never rfl (pi_enum (by rfl) T.enu (pa_cons (pv 1) pa_nil)) (pg_tup rfl (pgs_cons (pg_name (i := 2) scL.nd rfl (Or.inr rfl)) (pgs_cons (pg_name (i := 3) scL.nd rfl (Or.inl rfl)) pgs_nil))) (pss_cons (ps_if (pt_cmpR (op_neD hu64) (pe_call GKd hr1 (by rfl) gKd FKd.kp bKd .nil pass0 (pa_cons (pv 3) pa_nil)) (pe_lc (own := [("nr", 7)]) (g := gName 7) (tt := tYes) rfl scL.nd (pi_range1 (by rfl) T.rng (pa_cons pe_int pa_nil)) (blkOk_by (own := [("nr", 7)]) (N := lawN) (sc := defScope sLaw) (by decide +kernel)) (fun _ _ _ _ _ => pg_name (i := 7) scL.nd rfl (Or.inl rfl)) (fun _ _ _ _ _ => pts_nil) (fun _ _ _ _ _ => pe_cmpR op_eq (pv 7) (pv 2) (nomark _))) (nomark _)) (pss_one (ps_ret pe_bl)) pss_nil) (pss_one (ps_if (PW.pt (pw_or (pt_not (pt_val (pe_callB call_isErr (by rfl) T.isi (by decide +kernel) (pa_cons (pv 3) (pa_cons (pe_glob (by rfl) T.gR (v := .ref R) rfl) pa_nil))))) (pw_or1 (pt_not (pt_val (pe_callB call_isErr (by rfl) T.isi (by decide +kernel) (pa_cons (pv 3) (pa_cons (pe_bltn (v := .ty "ValueError") (by rfl) T.ve (by decide +kernel) rfl) pa_nil)))))))) (pss_one (ps_ret pe_bl)) pss_nil))))
      (pss_cons (ps_for PassesOwn.never rfl (pi_range1 (by rfl) T.rng (pa_cons (pe_callB (call_max2 rfl) (by rfl) T.d.max boot_max (pa_cons pe_int (pa_cons (pe_callB (call_min2 rfl) (by rfl) T.min (by decide +kernel) (pa_cons pe_int (pa_cons (pe_callB call_len (by rfl) T.d.len PySem.boot_len (pa_cons (pv 0) pa_nil)) pa_nil))) pa_nil))) pa_nil)) (pg_name (i := 4) scL.nd rfl (Or.inl rfl)) (pss_cons (ps_set (i := 5) scL.nd rfl (Or.inl rfl) (pe_call GF hr1 (by rfl) gF FF.kp bF .nil pass0 (pa_cons (pv 0) (pa_cons (pv 4) pa_nil)))) (pss_cons (ps_set (i := 6) scL.nd rfl (Or.inl rfl) (pe_lst (pa_cons pe_non (pa_cons pe_int (pa_cons (pe_un un_neg pe_int) (pa_cons pe_bl (pa_cons pe_str (pa_cons (pe_tup pa_nil) (pa_cons (pe_tup (pa_cons pe_int (pa_cons (pe_lst (pa_cons pe_int pa_nil)) pa_nil))) (pa_cons (pe_lst (pa_cons pe_int (pa_cons (pe_tup (pa_cons pe_int pa_nil)) pa_nil))) (pa_cons (pe_op op_pow pe_int pe_int) (pa_cons (pe_call GT hr1 (by rfl) gT FT.kp bT .nil pass0 (pa_cons (pv 5) (pa_cons pe_int pa_nil))) pa_nil)))))))))))) (pss_one (ps_if (pt_not (pt_val (pe_callG GR hgd hr (by rfl) gR FR.kp bR .nil pass0 (pa_cons (pe_call GP hr (by rfl) gP FP.kp bP .nil pass0 (pa_cons (pv 5) (pa_cons (pv 6) pa_nil))) pa_nil)))) (pss_one (ps_ret pe_bl)) pss_nil)))))
      (pss_one (ps_ret (pe_not (pe_callB call_isVE (by rfl) T.isi (by decide +kernel) (pa_cons (pe_callTy0 call_VE (by rfl) T.ve (by decide +kernel)) (pa_cons (pe_glob (by rfl) T.gR (v := .ref R) rfl) pa_nil)))))))))), ?_⟩
    -- made
    intro vs1 H1 s1 e1
    refine ⟨by rw [e1.length]; show 9 ≤ sizeLine; decide, fun p1 hp1 => ?_⟩
    have s1 := s1.trans (same_upd (o := .lst vs1) hp1)
    refine mk_core rfl upd_same (e1.mono (same_upd hp1)) (by show 9 + 8 ≤ 100; decide) (fun p2 H2 vs2 s2 h2 e2 => ?_)
    have s2 := s1.trans s2
    refine mk_core rfl h2 e2 (by show 17 + 5 ≤ 100; decide) (fun p3 H3 vs3 s3 h3 e3 => ?_)
    have s3 := s2.trans s3
    have e3 : ErrsAt ((List.range 22).map C) H3 vs3 := e3
    have n3 : vs3.length = 22 := by rw [e3.length]; rfl
    -- for nth, thing in enumerate(made)
    refine ⟨_, rfl, p3, vs3, rfl, SqL.of h3, for_it walk_enum (fun i σ H' => ∃ u v : Option V, σ = [some (.ref a), some (.ref p3), u, v, none, none, none, none] ∧ Same H3 H') ⟨none, none, rfl, Same.refl _⟩ (fun i σ H' _ ⟨_, _, _, s⟩ => s.seq (SqL.of h3)) ?_ ?_⟩
    · rintro i x σ H4 H5 hi ⟨u, v, rfl, s4⟩ ⟨t, x1, y, rfl, ht, rfl, hx1, hy⟩
      obtain rfl : x1 = .int (i : Nat) := (Option.some.inj hx1).symm
      rw [n3] at hi
      have s5 := s4.trans (same_upd (o := .tup [.int (i : Nat), y]) ht)
      obtain ⟨C', hC', hE⟩ := e3.get hy
      obtain rfl : C' = C i := by
        rw [List.getElem?_map, List.getElem?_range hi] at hC'
        exact (Option.some.inj hC').symm
      refine ⟨t, [.int (i : Nat), y], rfl, SqT.of upd_same, rfl, ?_⟩
      -- if _law_kinds(thing) != [nr == nth for nr in range(22)]
      refine ⟨_, _, rfl, _, _, rfl, rfl, ?_⟩
      refine ⟨_, rfl, y, i, rfl, hi, hE.mono s5, fun pk Hk sk hk => ?_⟩
      have s6 := s5.trans sk
      refine ⟨22, rfl, by decide, by decide, fun D hD => lc_range (lo := 0) (n := 22) (fun j H' => Same Hk H' ∧ H' D = some (.lst ((List.range j).map fun m : Nat => V.bl (decide (V.int (0 + (m : Int)) = V.int (i : Int)))))) ⟨same_upd hD, upd_same⟩ ?_ ?_⟩
      · rintro j H' hj ⟨s7, hDj⟩
        refine ⟨rfl, ?_⟩
        refine iteT (B := Same Hk H' ∧ H' D = some (.lst ((List.range (j + 1)).map fun m : Nat => V.bl (decide (V.int (0 + (m : Int)) = V.int (i : Int)))))) ?_
        refine ⟨_, rfl, _, rfl, rfl, _, hDj, (by rw [List.length_map, List.length_range]; exact Nat.lt_of_lt_of_le hj (by decide)), fun b o e => ?_, ?_⟩
        · rw [upd_ne (fun z => by rw [z, hD] at e; cases e)]
          exact s7 b o e
        · rw [upd_same, List.range_succ, List.map_append]
          rfl
      · rintro H' ⟨s7, hDn⟩
        rw [kinds_eq] at hDn
        have s8 := s6.trans s7
        refine ⟨dKs i, dKs i, .lst (SqL.of (s7 _ _ hk)) (dp_kinds i _), .lst (SqL.of hDn) (dp_kinds i _), dKs_shaped i hi, dKs_shaped i hi, ?_⟩
        rw [dKs_eqv i hi]
        refine ⟨_, rfl, iteF ?_⟩
        -- isinstance(thing, RingError), isinstance(thing, ValueError)
        obtain ⟨b, d, rfl, hb, hd⟩ := hE.mono s8
        refine ⟨_, rfl, b, C i, d, .ref R, .ref R, true, rfl, T.xc i hi, T.xcl i hi, hb, hd, fun u r => r, T.kitR i hi, _, rfl, ?_⟩
        refine iteF ?_
        refine ⟨_, rfl, b, C i, d, .ty "ValueError", .type "ValueError", true, rfl, T.xc i hi, T.xcl i hi, hb, hd, fun u r => r, T.kitV i hi, _, rfl, ?_⟩
        refine iteF ?_
        exact ⟨_, _, rfl, s8⟩
    · rintro σ H4 ⟨u, v, rfl, s4⟩
      have s5 := s3.trans s4
      have hS5 := s5.seq hS
      -- for k in range(max(1, min(2, len(script))))
      refine ⟨_, rfl, _, _, rfl, .inl ⟨_, hS5, rfl⟩, _, _, rfl, _, _, rfl, ?_⟩
      generalize hj : (if (if ((ns.map V.int).length : Int) < 2 then ((ns.map V.int).length : Int) else 2) > 1 then (if ((ns.map V.int).length : Int) < 2 then ((ns.map V.int).length : Int) else 2) else 1) = j
      have j1 : 1 ≤ j ∧ j ≤ 2 := by
        rw [← hj]
        split <;> (split at * <;> omega)
      refine ⟨j, rfl, by omega, by omega, for_range (lo := 0) (n := j.toNat) (fun i σ H' => ∃ t1 t2 t3 t4 t5 : Option V, σ = [some (.ref a), some (.ref p3), t1, t2, t3, t4, t5, none] ∧ Same H4 H') ⟨u, v, none, none, none, rfl, Same.refl _⟩ ?_ ?_⟩
      · rintro i σ H5 hi ⟨t1, t2, t3, t4, t5, rfl, s6⟩
        have e0 : (0 : Int) + (i : Int) = (i : Int) := by omega
        rw [e0]
        have hi2 : i < 1000 := by omega
        -- feed = _law_feed(script, k)
        refine ⟨_, rfl, _, rfl, a, ns, i, rfl, s6.seq hS5, hi2, fun pf x y hpf => ?_⟩
        have g6 : ∀ o, (upd H5 pf o) pf = some o := fun o => upd_same
        have s7 := same_upd (o := feedO x y) hpf
        -- some = [..]
        refine ⟨_, rfl, ⟨Nat.zero_le _, fun q0 hq0 => ?_⟩⟩
        have sa := same_upd (o := .tup []) hq0
        refine ⟨by show 1 ≤ sizeLine; decide, fun l1 hl1 => ⟨by show 2 ≤ sizeLine; decide, fun q1 hq1 => ?_⟩⟩
        have sb := same_upd (o := .lst [.int 2]) hl1
        have sc := same_upd (o := .tup [.int 1, .ref l1]) hq1
        refine ⟨by show 1 ≤ sizeLine; decide, fun q2 hq2 => ⟨by show 2 ≤ sizeLine; decide, fun l2 hl2 => ?_⟩⟩
        have sd := same_upd (o := .tup [.int 4]) hq2
        have se := same_upd (o := .lst [.int 3, .ref q2]) hl2
        have s6e := (((sa.trans sb).trans sc).trans sd).trans se
        have hpe := s6e _ _ (g6 (feedO x y))
        refine ⟨_, _, rfl, rfl, ⟨by decide, by decide, by decide⟩, ?_⟩
        refine ⟨_, rfl, pf, x, y, 100, rfl, hpe, by decide, by decide, fun r x' y' hr0 hr1 => ?_⟩
        refine ⟨by show 10 ≤ sizeLine; decide, fun l hl => ?_⟩
        -- _law_fields_right(_law_pick(feed, some))
        refine ⟨_, rfl, _, rfl, pf, x', y', (by rw [upd_ne (ne_of_none upd_same hl), upd_same]), .inl ⟨l, _, rfl, SqL.of upd_same, (fun z => by rw [z, upd_same] at hl; cases hl), by show 0 < 10; decide, by show 10 < 1000000; decide, fun v x2 y2 hv => ?_⟩⟩
        have up : ∀ {b o}, b ≠ pf → upd (upd (upd (upd (upd (upd H5 pf (feedO x y)) q0 (.tup [])) l1 (.lst [.int 2])) q1 (.tup [.int 1, .ref l1])) q2 (.tup [.int 4])) l2 (.lst [.int 3, .ref q2]) b = some o →
            ∀ xs, upd (upd (upd (upd (upd (upd (upd (upd H5 pf (feedO x y)) q0 (.tup [])) l1 (.lst [.int 2])) q1 (.tup [.int 1, .ref l1])) q2 (.tup [.int 4])) l2 (.lst [.int 3, .ref q2])) pf (feedO x' y')) l (.lst xs) b = some o := fun {b o} nb e xs => by
          have e2 : upd (upd (upd (upd (upd (upd (upd H5 pf (feedO x y)) q0 (.tup [])) l1 (.lst [.int 2])) q1 (.tup [.int 1, .ref l1])) q2 (.tup [.int 4])) l2 (.lst [.int 3, .ref q2])) pf (feedO x' y') b = some o := by
            rw [upd_ne nb]
            exact e
          exact same_upd hl _ _ e2
        have n0 : q0 ≠ pf := Ne.symm (ne_of_none (g6 (feedO x y)) hq0)
        have n1 : l1 ≠ pf := Ne.symm (ne_of_none (sa _ _ (g6 (feedO x y))) hl1)
        have n2 : q1 ≠ pf := Ne.symm (ne_of_none (sb _ _ (sa _ _ (g6 (feedO x y)))) hq1)
        have n3 : q2 ≠ pf := Ne.symm (ne_of_none (sc _ _ (sb _ _ (sa _ _ (g6 (feedO x y))))) hq2)
        have n4 : l2 ≠ pf := Ne.symm (ne_of_none (sd _ _ (sc _ _ (sb _ _ (sa _ _ (g6 (feedO x y)))))) hl2)
        generalize hxs : [V.non, V.int 0, V.int (-5), V.bl true, V.str (Str.ofString "text"), V.ref q0, V.ref q1, V.ref l2, V.int (10 ^ (39 : Int).toNat), V.int r] = xs at hv ⊢
        have UP : ∀ {b o}, b ≠ pf → upd (upd (upd (upd (upd (upd H5 pf (feedO x y)) q0 (.tup [])) l1 (.lst [.int 2])) q1 (.tup [.int 1, .ref l1])) q2 (.tup [.int 4])) l2 (.lst [.int 3, .ref q2]) b = some o →
            upd (upd (upd (upd (upd (upd (upd (upd (upd H5 pf (feedO x y)) q0 (.tup [])) l1 (.lst [.int 2])) q1 (.tup [.int 1, .ref l1])) q2 (.tup [.int 4])) l2 (.lst [.int 3, .ref q2])) pf (feedO x' y')) l (.lst xs)) pf (feedO x2 y2) b = some o := fun {b o} nb e => by
          rw [upd_ne nb]
          exact up nb e xs
        have o0 := UP n0 (se _ _ (sd _ _ (sc _ _ (sb _ _ upd_same))))
        have o1 := UP n1 (se _ _ (sd _ _ (sc _ _ upd_same)))
        have o2 := UP n2 (se _ _ (sd _ _ upd_same))
        have o3 := UP n3 (se _ _ upd_same)
        have o4 := UP n4 upd_same
        have sF : Same H5 (upd (upd (upd (upd (upd (upd (upd (upd (upd H5 pf (feedO x y)) q0 (.tup [])) l1 (.lst [.int 2])) q1 (.tup [.int 1, .ref l1])) q2 (.tup [.int 4])) l2 (.lst [.int 3, .ref q2])) pf (feedO x' y')) l (.lst xs)) pf (feedO x2 y2)) :=
          fun b o e => UP (ne_of_none e hpf) (s6e _ _ (s7 _ _ e))
        generalize upd (upd (upd (upd (upd (upd (upd (upd (upd H5 pf (feedO x y)) q0 (.tup [])) l1 (.lst [.int 2])) q1 (.tup [.int 1, .ref l1])) q2 (.tup [.int 4])) l2 (.lst [.int 3, .ref q2])) pf (feedO x' y')) l (.lst xs)) pf (feedO x2 y2) = HG at o0 o1 o2 o3 o4 sF ⊢
        have key : ∃ d, Dp K HG v d ∧ Okd d := by
          subst hxs
          simp only [List.mem_cons, List.not_mem_nil, or_false] at hv
          rcases hv with rfl | rfl | rfl | rfl | rfl | rfl | rfl | rfl | rfl | rfl
          · exact ⟨_, .non, ok_non⟩
          · exact ⟨_, .int _, ok_0⟩
          · exact ⟨_, .int _, ok_m5⟩
          · exact ⟨_, .bl _, ok_t⟩
          · exact ⟨_, .str _, ok_s⟩
          · exact ⟨_, .tup (SqT.of o0) .nil, ok_e⟩
          · exact ⟨_, .tup (SqT.of o2) (.cons (.int 1) (.cons (.lst (SqL.of o1) (.cons (.int 2) .nil)) .nil)), ok_12⟩
          · exact ⟨_, .lst (SqL.of o4) (.cons (.int 3) (.cons (.tup (SqT.of o3) (.cons (.int 4) .nil)) .nil)), ok_34⟩
          · exact ⟨_, .int _, ok_39⟩
          · exact ⟨_, .int _, ok_r hr0 hr1⟩
        obtain ⟨d, hd, od⟩ := key
        refine ⟨v, d, rfl, hd, od, fun H' sH => ⟨_, rfl, ?_⟩⟩
        refine iteF ?_
        exact ⟨_, _, _, _, _, rfl, (s6.trans sF).trans sH⟩
      · rintro σ H5 ⟨t1, t2, t3, t4, t5, rfl, s6⟩
        -- return not isinstance(ValueError(), RingError)
        refine ⟨rfl, fun b hb => ⟨b, .ref R, .ref R, false, rfl, upd_same, fun u r => r, hVR, ?_⟩⟩
        exact ⟨_, rfl, q _⟩
end
end Er

set_option maxRecDepth 100000
set_option maxHeartbeats 4000000
namespace Gd
open PySem L2 PySem.Spec PyProof.Rows
/-- the only thing tracked at the law's entry: the script, where it is no object of the top's -/
def scr (K : PySem.W.Frag) (a : Addr) (vs : List Value) (ns : List Int) : Hp := fun b => if b = a ∧ K.lookup a = none then some (.frz { cls := .type "list", data := .seq vs.toArray } (.lst (ns.map V.int))) else none
section
variable {P : Program} {w : World} {K : PySem.W.Frag} {mg mb : Str → Option Value} {CX : CXT} {k : Nat} {fa a : Addr} {fd : FuncData} {x : Str} {sp : Sp} {s₁ : Shared} {vs : List Value} {ns : List Int}
theorem lawG (KX : K.In s₁.heap) (hns : s₁.heap.Ns mainGlobals mg) (hb : s₁.heap.Ns builtinsNs mb) (hbb : ∀ x : Str, x ≠ "__name__" → mb x = bootBuiltins x) (hlim : s₁.heap.NoLimit) (hg : s₁.gens = #[])
    (ha : s₁.heap.get? a = some { cls := .type "list", data := .seq vs.toArray }) (hi : IntsAre vs ns) (hl : ns.length ≤ sizeLine) (hr : Room k callerA)
    (F : ∀ base : Heap, K.In base → base.Ns mainGlobals mg → FnG P w K mg base CX k fa fd [x] sp) (hbind : ∀ (s : Shared) (u : Value), BindsTo s fd ⟨[u], []⟩ [(x, u)])
    (hsp : ∀ H : Hp, SqL K H a (ns.map V.int) → sp [.ref a] H (fun v _ => v = .bl true) fun _ _ _ => False)
    (hCX : ∀ H e s', CX [] H s₁ (fun _ _ _ => False) e s' → False) :
    codeAny (model P w) callerA (.call (.ref fa) ⟨[.ref a], []⟩) (fun r s' => r = .ok (.ret (.bool true)) ∧ OldK s₁.heap s'.heap ∧ s'.os = s₁.os ∧ AllBare s'.gens) s₁ := by
  have rv := vals_ints hi
  have lv := hi.length
  generalize hH : scr K a vs ns = H
  have cs : ∀ b, H b = none ∨ (b = a ∧ K.lookup a = none ∧ H b = some (.frz { cls := .type "list", data := .seq vs.toArray } (.lst (ns.map V.int)))) := fun b => by
    subst hH
    unfold scr
    by_cases z : b = a ∧ K.lookup a = none
    · rw [if_pos z]
      exact Or.inr ⟨z.1, z.2, rfl⟩
    · rw [if_neg z]
      exact Or.inl rfl
  have hS : SqL K H a (ns.map V.int) := by
    cases z : K.lookup a with
    | none =>
      refine .inl (.inr ⟨{ cls := .type "list", data := .seq vs.toArray }, ?_⟩)
      subst hH
      exact if_pos ⟨rfl, z⟩
    | some o =>
      have y := (KX a o z).symm.trans ha
      cases y
      exact .inr ⟨_, vs.toArray, _, z, rfl, rfl, rfl, by rw [List.size_toArray, lv]; exact hl, by simpa using rv⟩
  have hok : HOk P w H s₁.heap := fun b u e => by
    rcases cs b with z | ⟨rfl, _, z⟩
    · rw [z] at e
      cases e
    · rw [z] at e
      cases e
      exact ⟨ha, by rw [List.length_map]; exact hl, vs, _, rv, ha⟩
  have nh : ∀ {b o}, s₁.heap.get? b = some o → (∀ es ep, o.data = .dict es ep → True) → (b = a → K.lookup a = none → False) → H b = none := fun {b o} _ _ n => by
    rcases cs b with z | ⟨z1, z2, _⟩
    · exact z
    · exact (n z1 z2).elim
  have nsB : ∀ {b : Addr} {m : Str → Option Value}, s₁.heap.Ns b m → (hidT s₁.heap H).Ns b m := by
    rintro b m ⟨o, es, ep, e, d, r⟩
    refine ⟨o, es, ep, hidT_get e (nh e (fun _ _ _ => trivial) fun z _ => ?_), d, r⟩
    subst z
    rw [ha] at e
    cases e
    cases d
  have kB : K.In (hidT s₁.heap H) := fun b o e => hidT_get (KX b o e) (nh (KX b o e) (fun _ _ _ => trivial) fun z1 z2 => by rw [z1, z2] at e; cases e)
  obtain ⟨mc, c1, c2⟩ := hlim
  have hM : Mod K mg (hidT s₁.heap H) := ⟨kB, nsB hns, ⟨mb, nsB hb, hbb⟩, mc, nsB c1, c2⟩
  have e0 : Env0 P w K mg (hidT s₁.heap H) callerA [] s₁ H := ⟨rfl, hM, fun b o e => of_hidT e, Nat.le_of_eq (hidT_size _ _), trivial, (fun b z => by cases z), hok, .of_eq hg⟩
  refine codeAny_mono ((F _ kB (nsB hns)).go callerA [] s₁ H ⟨[.ref a], []⟩ [.ref a] [.ref a] _ _ rfl hr e0 (hbind s₁ (.ref a)) (.cons rfl .nil) (hsp H hS)) ?_
  intro r s' h
  cases r with
  | error e => exact (hCX H e s' h).elim
  | ok fl =>
    cases fl with
    | ret u =>
      obtain ⟨v, H', os, bare, un, hok', r', q⟩ := h
      obtain rfl : v = .bl true := q
      obtain rfl : u = Value.bool true := r'
      refine ⟨rfl, OldK.of_keep fun b o e => ?_, os, bare⟩
      rcases cs b with z | ⟨rfl, _, z⟩
      · exact un.keep b o e z (fun y => by cases y) (fun y => by cases y)
      · have z2 := un.frzs b _ _ z
        rw [ha] at e
        cases e
        exact (hok' b _ z2).1
    | next => exact False.elim h
    | brk => exact False.elim h
    | cont => exact False.elim h
end
/-- the goal that the head leaves, from the law's promise -/
theorem walkG {l : PySem.W.OpenLaw} {n k : Nat} {q : Program} {loose : List Str} {XP : (Str → Option Value) → Heap → Prop} {YP : World → Heap → Prop} {d : DefRec} {K : Params → PySem.W.Frag} {CX : World → CXT} {sp : World → Sp} {x : Str}
    (hn : l.most = some n) (hn2 : n ≤ sizeLine) (hdf : d.params.defaults = []) (hr : Room k callerA) (hY : ∀ (w : World) (h : Heap), YP w h → (K w.params).In h)
    (F : ∀ (w : World) (mg : Str → Option Value) (fa : Addr) (h : Heap), (K w.params).In h → h.Ns mainGlobals mg → mg d.name = some (.ref fa) →
      ∃ fd : FuncData, (∀ (s : Shared) (u : Value), BindsTo s fd ⟨[u], []⟩ [(x, u)]) ∧ ∀ base : Heap, (K w.params).In base → base.Ns mainGlobals mg → FnG l.prog w (K w.params) mg base (CX w) k fa fd [x] (sp w))
    (hsp : ∀ (w : World) (H : Hp) (a : Addr) (ns : List Int), ns.length ≤ n → (∀ z ∈ ns, Builtin.Int.intBits z ≤ 1048576) → SqL (K w.params) H a (ns.map V.int) → sp w [.ref a] H (fun v _ => v = .bl true) fun _ _ _ => False)
    (hCX : ∀ (w : World) (H : Hp) (s : Shared) (e : Value) (s' : Shared), CX w [] H s (fun _ _ _ => False) e s' → False) :
    PySem.W.WalkO q loose XP YP l.row.toRowW d [] (fun f vs => PySem.call f vs) := by
  refine Att.attach_callB hn hdf ?_
  intro w s₀ s₁ mg mb fa o pm cd doc a vs ns G Y ho hd hcd hmg hobj hints hlen hbits hg
  obtain ⟨fd, hb, hF⟩ := F w mg fa _ (hY w _ Y) G.T.g hmg
  exact lawG (hY w _ Y) G.T.g G.T.b G.T.builtins G.T.nolimit hg hobj hints (Nat.le_trans hlen hn2) hr hF hb (fun H hS => hsp w H a ns hlen hbits hS) fun H e s' => hCX w H s₁ e s'
end Gd

set_option maxRecDepth 100000
set_option maxHeartbeats 4000000
namespace Er
open PySem PySem.W PySem.Spec PyProof.Rows L2 Dr Gd
/-- one class as the top has made it -/
structure Cl (P : Program) (K : Frag) (mg : Str → Option Value) (x : Str) (fl : Option Str) (C f : Addr) : Prop where
  e : ErrC P K x fl C f
  g : mg x = some (.ref C)
  xf : XfC K C
  xc : ExcC K C
  xcl : (clsIn K C).isSome = true
section
variable {P : Program} {K : Frag} {h : Heap} {mg : Str → Option Value} {x : Str} {fl : Option Str} {C f : Addr}
theorem mkCl {nm q : Str} {N : Addr} {bs bm : List Value} {sn : List Str} {sub : List Value} {ab : Bool} {col : Option Bool} {dd : Option Addr} {k0 k1 k2 k3 k5 : Option Value}
    {oc doc pm ct ccl cl : Value} {od an cdd cld : Option Addr} {osl ccs csl : Array (Option Value)} {cc cda : Addr} {qual z file : Str} {kz : Nat} {tf : Tok} {vs : Array Value} {p p' p0 p1 p2 p3 p4 p5 q1 q2 q3 q4 : Pos}
    (X : K.In h) (G : h.Ns mainGlobals mg)
    (any : nsIn K cStatics "thirdparty.any" = some none) (hn : specialIn K (.builtin "object.__class__") "__get__" = some (some (.builtin "getset_descriptor.__get__"))) (ht : takesIn K (.builtin "object.__class__") = some true) (top : (P.main.scope.names.lookup ("super" : Str)).isSome = false)
    (aC : nsIn K mainGlobals x = some (some (.ref C))) (kC : keepIn K (.ref C) = true)
    (hC : K.lookup C = some (excClassObj nm q C N bs bm true sn sub ab col dd k0 k1 k2 k3 k5 "ValueError.__new__")) (hbm : PySem.HandSPX.refsVE bm = true)
    (sa : findIn K (.ref C) "__setattr__" = some (some (.builtin "object.__setattr__")))
    (iC : findIn K (.ref C) "__init__" = some (some (.ref f))) (tI : typeIn K (.ref f) = some (.type "function"))
    (lF : K.lookup f = some ⟨oc, od, .func (ksFn "__init__" qual (pars fl p p') (body fl z kz p0 p1 p2 p3 p4 p5 q1 q2 q3 q4) (scp fl) .none .none doc pm an (.ref cda) ct cc), osl⟩) (hcd : codeIn K (.ref cda) qual = true)
    (lc : K.lookup cda = some ⟨ccl, cdd, .fields vs, ccs⟩) (hv : vs[2]? = some (.str file tf)) (hfile : ((P.main.file : Str) == file) = true)
    (lcell : K.lookup cc = some ⟨cl, cld, .cell (some (.ref C)), csl⟩)
    (along : ks_superIn K C C "__init__" = some (some (.builtin "ValueError.__init__"))) (subVE : subIn K (.ref C) (.type "ValueError") = some true) (mro : mroIn K C (.ref C) = some true)
    (noF : ∀ y, fl = some y → findIn K (.ref C) y = some none)
    (ga : findIn K (.ref C) "__getattribute__" = some (some (.builtin "BaseException.__getattribute__"))) (gg : findIn K (.ref C) "__getattr__" = some none) (exC : subIn K (.ref C) (.type "BaseException") = some true) (hdC : hasDictIn K C = true)
    (ha : findIn K (.ref C) "__class__" = some (some (.builtin "object.__class__"))) (hm : mroIn K C (.type "object") = some true)
    (ev : EvP z kz p0 p1 p2 p3 p4 p5) (bd : BdP fl (ksFn "__init__" qual (pars fl p p') (body fl z kz p0 p1 p2 p3 p4 p5 q1 q2 q3 q4) (scp fl) .none .none doc pm an (.ref cda) ct cc))
    (kS : (names fl).lookup ("super" : Str) = some .globalImplicit) (kF : (names fl).lookup ("__class__" : Str) = some .free) (kL : (names fl).lookup ("self" : Str) = some .local)
    (kP : ∀ y, fl = some y → (names fl).lookup y = some .local ∧ (y == ("self" : Str)) = false ∧ (y == ("__debug__" : Str)) = false) : Cl P K mg x fl C f where
  e := ⟨kC, ⟨nm, q, N, bs, bm, sn, sub, ab, col, dd, k0, k1, k2, k3, k5, hC, hbm⟩, sa, iC, tI,
    ⟨oc, od, doc, pm, an, ct, osl, cc, cda, qual, z, kz, p, p', p0, p1, p2, p3, p4, p5, q1, q2, q3, q4, lF, hcd, ev, bd, ⟨ccl, cdd, vs, ccs, file, tf, lc, hv, hfile⟩, cl, cld, csl, lcell⟩,
    any, along, subVE, mro, top, noF, kS, kF, kL, kP⟩
  g := mg_of X G aC
  xf := ⟨ga, gg, exC, hdC⟩
  xc := ⟨ga, gg, exC, hdC, ha, hn, ht, hm⟩
  xcl := let ⟨cd, hc, _⟩ := any_some hdC; by rw [hc]; rfl
end
/-- the kinds of all classes by one look -/
def kitB (K : Frag) (cs : List Addr) (R : Addr) : Bool :=
  ((List.range 22).all fun i => (List.range 22).all fun j => decide (kitOne K (.ref (cs.getD i 0)) (.ref (cs.getD j 0)) = some (decide (i = j)))) &&
  (((List.range 22).all fun i => decide (kitOne K (.ref (cs.getD i 0)) (.ref R) = some true)) && (((List.range 22).all fun i => decide (kitOne K (.ref (cs.getD i 0)) (.type "ValueError") = some true)) && decide (kitOne K (.type "ValueError") (.ref R) = some false)))
theorem allR {n : Nat} {p : Nat → Bool} (h : (List.range n).all p = true) (i : Nat) (hi : i < n) : p i = true := List.all_eq_true.mp h i (List.mem_range.mpr hi)
theorem mkT {P : Program} {K : Frag} {mg : Str → Option Value} {R c0 c1 c2 c3 c4 c5 c6 c7 c8 c9 c10 c11 c12 c13 c14 c15 c16 c17 c18 c19 c20 c21 f0 f1 f2 f3 f4 f5 f6 f7 f8 f9 f10 f11 f12 f13 f14 f15 f16 f17 f18 f19 f20 f21 : Addr}
    (h0 : Cl P K mg (nm 0) (Er.fl 0) c0 f0) (h1 : Cl P K mg (nm 1) (Er.fl 1) c1 f1) (h2 : Cl P K mg (nm 2) (Er.fl 2) c2 f2) (h3 : Cl P K mg (nm 3) (Er.fl 3) c3 f3) (h4 : Cl P K mg (nm 4) (Er.fl 4) c4 f4) (h5 : Cl P K mg (nm 5) (Er.fl 5) c5 f5) (h6 : Cl P K mg (nm 6) (Er.fl 6) c6 f6) (h7 : Cl P K mg (nm 7) (Er.fl 7) c7 f7)
    (h8 : Cl P K mg (nm 8) (Er.fl 8) c8 f8) (h9 : Cl P K mg (nm 9) (Er.fl 9) c9 f9) (h10 : Cl P K mg (nm 10) (Er.fl 10) c10 f10) (h11 : Cl P K mg (nm 11) (Er.fl 11) c11 f11) (h12 : Cl P K mg (nm 12) (Er.fl 12) c12 f12) (h13 : Cl P K mg (nm 13) (Er.fl 13) c13 f13) (h14 : Cl P K mg (nm 14) (Er.fl 14) c14 f14)
    (h15 : Cl P K mg (nm 15) (Er.fl 15) c15 f15) (h16 : Cl P K mg (nm 16) (Er.fl 16) c16 f16) (h17 : Cl P K mg (nm 17) (Er.fl 17) c17 f17) (h18 : Cl P K mg (nm 18) (Er.fl 18) c18 f18) (h19 : Cl P K mg (nm 19) (Er.fl 19) c19 f19) (h20 : Cl P K mg (nm 20) (Er.fl 20) c20 f20) (h21 : Cl P K mg (nm 21) (Er.fl 21) c21 f21)
    (kb : kitB K [c0, c1, c2, c3, c4, c5, c6, c7, c8, c9, c10, c11, c12, c13, c14, c15, c16, c17, c18, c19, c20, c21] R = true) (gR : mg "RingError" = some (.ref R)) (sup : mg "super" = none) (isi : mg "isinstance" = none) (rep : mg "repr" = none)
    (enu : mg "enumerate" = none) (rng : mg "range" = none) (min : mg "min" = none) (ve : mg "ValueError" = none) (d : DTxt mg) :
    ∃ C f : Nat → Addr, T56 P K mg C f R ∧ kitOne K (.type "ValueError") (.ref R) = some false := by
  unfold kitB at kb
  simp only [Bool.and_eq_true] at kb
  obtain ⟨kb1, kb2, kb3, kb4⟩ := kb
  have all : ∀ i, i < 22 → Cl P K mg (nm i) (Er.fl i) ([c0, c1, c2, c3, c4, c5, c6, c7, c8, c9, c10, c11, c12, c13, c14, c15, c16, c17, c18, c19, c20, c21].getD i 0) ([f0, f1, f2, f3, f4, f5, f6, f7, f8, f9, f10, f11, f12, f13, f14, f15, f16, f17, f18, f19, f20, f21].getD i 0) := by
    intro i hi
    match i, hi with
    | 0, _ => exact h0 | 1, _ => exact h1 | 2, _ => exact h2 | 3, _ => exact h3 | 4, _ => exact h4 | 5, _ => exact h5 | 6, _ => exact h6 | 7, _ => exact h7 | 8, _ => exact h8 | 9, _ => exact h9 | 10, _ => exact h10
    | 11, _ => exact h11 | 12, _ => exact h12 | 13, _ => exact h13 | 14, _ => exact h14 | 15, _ => exact h15 | 16, _ => exact h16 | 17, _ => exact h17 | 18, _ => exact h18 | 19, _ => exact h19 | 20, _ => exact h20 | 21, _ => exact h21
    | n + 22, hi => exact absurd hi (by omega)
  refine ⟨fun i => [c0, c1, c2, c3, c4, c5, c6, c7, c8, c9, c10, c11, c12, c13, c14, c15, c16, c17, c18, c19, c20, c21].getD i 0, fun i => [f0, f1, f2, f3, f4, f5, f6, f7, f8, f9, f10, f11, f12, f13, f14, f15, f16, f17, f18, f19, f20, f21].getD i 0,
    ⟨fun i hi => (all i hi).e, fun i hi => (all i hi).g, fun i hi => (all i hi).xf, fun i hi => (all i hi).xc, fun i hi => (all i hi).xcl,
      fun i j hi hj => of_decide_eq_true (allR (allR kb1 i hi) j hj), fun i hi => of_decide_eq_true (allR kb2 i hi), fun i hi => of_decide_eq_true (allR kb3 i hi), gR, sup, isi, rep, enu, rng, min, ve, d⟩, of_decide_eq_true kb4⟩
end Er

set_option maxRecDepth 100000
set_option maxHeartbeats 4000000
namespace Er
open PySem PySem.W PySem.Spec PyProof.Rows L2 Dr Gd
theorem all_mk {l : OpenLaw} {w : World} {K : Frag} {h : Heap} {mg : Str → Option Value}  {fa R c0 c1 c2 c3 c4 c5 c6 c7 c8 c9 c10 c11 c12 c13 c14 c15 c16 c17 c18 c19 c20 c21 : Addr} {e0 e1 e2 e3 e4 e5 e6 e7 e8 e9 e10 e11 e12 e13 e14 e15 e16 e17 e18 e19 e20 e21 g1 g2 g3 g4 g5 g6 : Addr} (X : K.In h) (G : h.Ns mainGlobals mg) (hfa : mg "law" = some (.ref fa))
    {od1 an1 od2 an2 od3 an3 od4 an4 od5 an5 od6 an6 : Option Addr} {sl1 sl2 sl3 sl4 sl5 sl6 : Array (Option Value)} {oc1 kV1 dc1 pm1 cd1 ct1 oc2 kV2 dc2 pm2 cd2 ct2 oc3 kV3 dc3 pm3 cd3 ct3 oc4 kV4 dc4 pm4 cd4 ct4 oc5 kV5 dc5 pm5 cd5 ct5 oc6 kV6 dc6 pm6 cd6 ct6 : Value}
    (h0 : Cl l.prog K mg "NoList" none c0 e0)
    (h1 : Cl l.prog K mg "NoTuple" none c1 e1)
    (h2 : Cl l.prog K mg "BadCount" none c2 e2)
    (h3 : Cl l.prog K mg "BadSign" (some "number") c3 e3)
    (h4 : Cl l.prog K mg "NoSign" (some "name") c4 e4)
    (h5 : Cl l.prog K mg "BadTerm" (some "value") c5 e5)
    (h6 : Cl l.prog K mg "BadNames" none c6 e6)
    (h7 : Cl l.prog K mg "BadLots" none c7 e7)
    (h8 : Cl l.prog K mg "BadFact" (some "number") c8 e8)
    (h9 : Cl l.prog K mg "NotPossible" none c9 e9)
    (h10 : Cl l.prog K mg "BadRule" (some "number") c10 e10)
    (h11 : Cl l.prog K mg "BadBar" (some "number") c11 e11)
    (h12 : Cl l.prog K mg "NoRule" (some "number") c12 e12)
    (h13 : Cl l.prog K mg "Unlike" none c13 e13)
    (h14 : Cl l.prog K mg "NotServed" (some "tree") c14 e14)
    (h15 : Cl l.prog K mg "Misfit" none c15 e15)
    (h16 : Cl l.prog K mg "TooMany" none c16 e16)
    (h17 : Cl l.prog K mg "NoOrder" (some "number") c17 e17)
    (h18 : Cl l.prog K mg "BadSeen" (some "number") c18 e18)
    (h19 : Cl l.prog K mg "NoFact" (some "fact") c19 e19)
    (h20 : Cl l.prog K mg "NoMark" (some "number") c20 e20)
    (h21 : Cl l.prog K mg "BadText" (some "line") c21 e21)
    (a1 : nsIn K mainGlobals "_law_feed" = some (some (.ref g1))) (l1 : K.lookup g1 = some ⟨oc1, od1, .func (fnOf "_law_feed" "_law_feed" (defArgs sFeed) (defBody sFeed) (defScope sFeed) .none kV1 dc1 pm1 an1 cd1 ct1), sl1⟩) (d1 : codeIn K cd1 "_law_feed" = true) (k1 : keepIn K (.ref g1) = true)
    (a2 : nsIn K mainGlobals "_law_take" = some (some (.ref g2))) (l2 : K.lookup g2 = some ⟨oc2, od2, .func (fnOf "_law_take" "_law_take" (defArgs sTake) (defBody sTake) (defScope sTake) .none kV2 dc2 pm2 an2 cd2 ct2), sl2⟩) (d2 : codeIn K cd2 "_law_take" = true) (k2 : keepIn K (.ref g2) = true)
    (a3 : nsIn K mainGlobals "_law_pick" = some (some (.ref g3))) (l3 : K.lookup g3 = some ⟨oc3, od3, .func (fnOf "_law_pick" "_law_pick" (defArgs sPick) (defBody sPick) (defScope sPick) .none kV3 dc3 pm3 an3 cd3 ct3), sl3⟩) (d3 : codeIn K cd3 "_law_pick" = true) (k3 : keepIn K (.ref g3) = true)
    (a4 : nsIn K mainGlobals "_law_kinds" = some (some (.ref g4))) (l4 : K.lookup g4 = some ⟨oc4, od4, .func (fnOf "_law_kinds" "_law_kinds" (defArgs sKinds) (defBody sKinds) (defScope sKinds) .none kV4 dc4 pm4 an4 cd4 ct4), sl4⟩) (d4 : codeIn K cd4 "_law_kinds" = true) (k4 : keepIn K (.ref g4) = true)
    (a5 : nsIn K mainGlobals "_law_fields_right" = some (some (.ref g5))) (l5 : K.lookup g5 = some ⟨oc5, od5, .func (fnOf "_law_fields_right" "_law_fields_right" (defArgs sFields) (defBody sFields) (defScope sFields) .none kV5 dc5 pm5 an5 cd5 ct5), sl5⟩) (d5 : codeIn K cd5 "_law_fields_right" = true) (k5 : keepIn K (.ref g5) = true)
    (a6 : nsIn K mainGlobals "law" = some (some (.ref g6))) (l6 : K.lookup g6 = some ⟨oc6, od6, .func (fnOf "law" "law" (defArgs sLaw) (defBody sLaw) (defScope sLaw) .none kV6 dc6 pm6 an6 cd6 ct6), sl6⟩) (d6 : codeIn K cd6 "law" = true) (k6 : keepIn K (.ref g6) = true)
    (kb : kitB K [c0, c1, c2, c3, c4, c5, c6, c7, c8, c9, c10, c11, c12, c13, c14, c15, c16, c17, c18, c19, c20, c21] R = true) (gR : nsIn K mainGlobals "RingError" = some (some (.ref R)))
    (z0 : nsIn K mainGlobals "super" = some none) (z1 : nsIn K mainGlobals "isinstance" = some none) (z2 : nsIn K mainGlobals "repr" = some none) (z3 : nsIn K mainGlobals "enumerate" = some none) (z4 : nsIn K mainGlobals "range" = some none)
    (z5 : nsIn K mainGlobals "min" = some none) (z6 : nsIn K mainGlobals "ValueError" = some none) (z7 : nsIn K mainGlobals "len" = some none) (z8 : nsIn K mainGlobals "max" = some none) (z9 : nsIn K mainGlobals "abs" = some none) (z10 : nsIn K mainGlobals "int" = some none) :
    ∃ fd : FuncData, (∀ (s : Shared) (v : Value), BindsTo s fd ⟨[v], []⟩ [("script", v)]) ∧ ∀ base : Heap, K.In base → base.Ns mainGlobals mg → FnG l.prog w K mg base CX0 3 fa fd ["script"] (spLaw K) := by
  have e := hfa.symm.trans (mg_of X G a6)
  cases e
  have nn := fun {y : Str} (z : nsIn K mainGlobals y = some none) => mg_none_of X G z
  obtain ⟨C, f, T, hVR⟩ := mkT h0 h1 h2 h3 h4 h5 h6 h7 h8 h9 h10 h11 h12 h13 h14 h15 h16 h17 h18 h19 h20 h21 kb (mg_of X G gR) (nn z0) (nn z1) (nn z2) (nn z3) (nn z4) (nn z5) (nn z6) ⟨nn z7, nn z8, nn z9, nn z10⟩
  have F1 := fun_mk (st := sFeed) l1 d1 k1
  have b1 := F1.binds (ps := ["script", "k"]) fun _ _ _ _ _ _ us hl => match us, hl with | [_, _], _ => rfl
  have F2 := fun_mk (st := sTake) l2 d2 k2
  have b2 := F2.binds (ps := ["feed", "many"]) fun _ _ _ _ _ _ us hl => match us, hl with | [_, _], _ => rfl
  have F3 := fun_mk (st := sPick) l3 d3 k3
  have b3 := F3.binds (ps := ["feed", "some"]) fun _ _ _ _ _ _ us hl => match us, hl with | [_, _], _ => rfl
  have F4 := fun_mk (st := sKinds) l4 d4 k4
  have b4 := F4.binds (ps := ["thing"]) fun _ _ _ _ _ _ us hl => match us, hl with | [_], _ => rfl
  have F5 := fun_mk (st := sFields) l5 d5 k5
  have b5 := F5.binds (ps := ["odd"]) fun _ _ _ _ _ _ us hl => match us, hl with | [_], _ => rfl
  have F6 := fun_mk (st := sLaw) l6 d6 k6
  exact ⟨fnOf "law" "law" (defArgs sLaw) (defBody sLaw) (defScope sLaw) .none kV6 dc6 pm6 an6 cd6 ct6, fun s v => .of_eq rfl, fun base _ _ => ok_law F6 T hVR F1 b1 (mg_of X G a1) F2 b2 (mg_of X G a2) F3 b3 (mg_of X G a3) F4 b4 (mg_of X G a4) F5 b5 (mg_of X G a5)⟩
theorem walk {l : OpenLaw} {q : Program} {loose : List Str} {XP : (Str → Option Value) → Heap → Prop} {YP : World → Heap → Prop} {d : DefRec} {K : Params → Frag} (hn : l.most = some 63) (hdf : d.params.defaults = []) (hY : ∀ (w : World) (h : Heap), YP w h → (K w.params).In h)
    (F : ∀ (w : World) (mg : Str → Option Value) (fa : Addr) (h : Heap), (K w.params).In h → h.Ns mainGlobals mg → mg d.name = some (.ref fa) →
      ∃ fd : FuncData, (∀ (s : Shared) (u : Value), BindsTo s fd ⟨[u], []⟩ [("script", u)]) ∧ ∀ base : Heap, (K w.params).In base → base.Ns mainGlobals mg → FnG l.prog w (K w.params) mg base CX0 3 fa fd ["script"] (spLaw (K w.params))) :
    WalkO q loose XP YP l.row.toRowW d [] (fun f vs => PySem.call f vs) :=
  walkG (n := 63) (k := 3) (x := "script") (CX := fun _ => CX0) (sp := fun w => spLaw (K w.params)) hn (by decide) hdf ⟨rfl, by decide, by decide⟩ hY F (fun _ _ a ns hl _ hS => ⟨a, ns, rfl, hS, hl, fun _ => rfl⟩) fun _ _ _ _ _ z => z
end Er

open PySem PySem.W PyProof.Rows
local macro_rules | `(tactic| walk_at "mkcl") => `(tactic| (
  refine' Er.mkCl (by assumption) (by assumption) ?any ?hn ?ht ?top ?aC ?kC ?hC ?hbm ?sa ?iC ?tI ?lF ?hcd ?lc ?hv ?hfile ?lcell ?along ?subVE ?mro ?noF ?ga ?gg ?exC ?hdC ?ha ?hm ?ev ?bd ?kS ?kF ?kL ?kP;
  (case any => k_is); (case hn => k_is); (case ht => k_is); (case top => decide +kernel); (case aC => k_is); (case kC => k_is); (case hC => k_is); (case hbm => rfl); (case sa => k_is); (case iC => k_is); (case tI => k_is);
  (case lF => k_is); (case hcd => k_is); (case lc => k_is); (case hv => rfl); (case hfile => decide +kernel); (case lcell => k_is); (case along => kernel_rfl); (case subVE => k_is); (case mro => k_is);
  (case noF => (intro y hy; cases hy; try k_is)); (case ga => k_is); (case gg => k_is); (case exC => k_is); (case hdC => k_is); (case ha => k_is); (case hm => k_is);
  (case ev => exact fun env => ⟨⟨_, rfl⟩, rfl⟩); (case bd => first | exact fun e v => ⟨rfl, rfl⟩ | exact fun e => rfl); (case kS => rfl); (case kF => rfl); (case kL => rfl); (case kP => (intro y hy; cases hy; try decide +kernel)); (all_goals exact (⟨0, 0, 0, 0⟩ : Pos))))
set_option maxRecDepth 100000 in
set_option maxHeartbeats 0 in
theorem PySem.Challenge.cw_shutbyrings_k56_errors_and_fields_holds : PySem.Challenge.rw_shutbyrings_k56_errors_and_fields.Holds := by
  w_on; o_law; k_head; (case hw => w_witness2)
  k_fill
  refine Er.walk (l := PySem.Challenge.rw_shutbyrings_k56_errors_and_fields) rfl rfl (fun w h Y => PySem.W.kIn_of Y) ?F
  case F =>
    intro w mg fa h KX G hmg
    refine' Er.all_mk KX G hmg ?h0 ?h1 ?h2 ?h3 ?h4 ?h5 ?h6 ?h7 ?h8 ?h9 ?h10 ?h11 ?h12 ?h13 ?h14 ?h15 ?h16 ?h17 ?h18 ?h19 ?h20 ?h21 ?a1 ?l1 ?d1 ?k1 ?a2 ?l2 ?d2 ?k2 ?a3 ?l3 ?d3 ?k3 ?a4 ?l4 ?d4 ?k4 ?a5 ?l5 ?d5 ?k5 ?a6 ?l6 ?d6 ?k6 ?kb ?gR ?z0 ?z1 ?z2 ?z3 ?z4 ?z5 ?z6 ?z7 ?z8 ?z9 ?z10
    (case h0 => walk_at "mkcl")
    (case h1 => walk_at "mkcl")
    (case h2 => walk_at "mkcl")
    (case h3 => walk_at "mkcl")
    (case h4 => walk_at "mkcl")
    (case h5 => walk_at "mkcl")
    (case h6 => walk_at "mkcl")
    (case h7 => walk_at "mkcl")
    (case h8 => walk_at "mkcl")
    (case h9 => walk_at "mkcl")
    (case h10 => walk_at "mkcl")
    (case h11 => walk_at "mkcl")
    (case h12 => walk_at "mkcl")
    (case h13 => walk_at "mkcl")
    (case h14 => walk_at "mkcl")
    (case h15 => walk_at "mkcl")
    (case h16 => walk_at "mkcl")
    (case h17 => walk_at "mkcl")
    (case h18 => walk_at "mkcl")
    (case h19 => walk_at "mkcl")
    (case h20 => walk_at "mkcl")
    (case h21 => walk_at "mkcl")
    (case a1 => k_is); (case l1 => k_is); (case d1 => k_is); (case k1 => k_is)
    (case a2 => k_is); (case l2 => k_is); (case d2 => k_is); (case k2 => k_is)
    (case a3 => k_is); (case l3 => k_is); (case d3 => k_is); (case k3 => k_is)
    (case a4 => k_is); (case l4 => k_is); (case d4 => k_is); (case k4 => k_is)
    (case a5 => k_is); (case l5 => k_is); (case d5 => k_is); (case k5 => k_is)
    (case a6 => k_is); (case l6 => k_is); (case d6 => k_is); (case k6 => k_is)
    (case gR => k_is); (case kb => kernel_rfl)
    (case z0 => k_is); (case z1 => k_is); (case z2 => k_is); (case z3 => k_is); (case z4 => k_is); (case z5 => k_is); (case z6 => k_is); (case z7 => k_is); (case z8 => k_is); (case z9 => k_is); (case z10 => k_is)
