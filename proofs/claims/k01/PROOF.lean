import PyProof.Rows.All
import Wide.All
import OpenK.AllK
import Wide.FinOn
import HandS.Base
import HandS.Call
import HandS.List
import HandS.Ends
import HandS.Words
import HandS.WordsList
import HandS.More
import HandS.EndBits
import KE.KExcSuper
import HandS.Exc
import HandS.ExcInit
import HandS.ExcField
import HandS.ExcIs
import KE.KExcIs
import HandS.ExcOwn
import HandS.TryMany
import HandS.WordsExc
import HandS.ForMost
import HandS.Walk
import HandS.IsInst
import HandS.OwnEq
import HandS.NamedTupSort
import HandS.ListItems
import HandS.Property
import HandS.Style
import PyProof.StrOps2
import PyProof.Rows.StrMeet
import PySem.Challenge.RW_shutbyrings_k01_what_are_signs
set_option Elab.async false
set_option linter.all false
set_option maxRecDepth 100000
set_option maxHeartbeats 2000000
namespace Dr
open PySem L2 PyProof.Rows
def top (i : Nat) : Stmt := PySem.Challenge.pw_shutbyrings_k01_what_are_signs.main.body.getD i (.Pass ⟨0, 0, 0, 0⟩)
abbrev sFeed : Stmt := top 18
abbrev sTake : Stmt := top 19
abbrev sPick : Stmt := top 20
structure DTxt (mg : Str → Option Value) : Prop where
  len : mg "len" = none
  max : mg "max" = none
  abs : mg "abs" = none
  int : mg "int" = none
def feedO (x y : Int) : HO := .lst [.int x, .int y]
def spFeed (K : PySem.W.Frag) : Sp := fun vs H Q _ => ∃ (a : Addr) (ns : List Int) (k : Nat), vs = [.ref a, .int (k : Int)] ∧ SqL K H a (ns.map V.int) ∧ k < 1000 ∧
  ∀ (p : Addr) (x y : Int), H p = none → Q (.ref p) (upd H p (feedO x y))
def spTake : Sp := fun vs H Q _ => ∃ (p : Addr) (x y m : Int), vs = [.ref p, .int m] ∧ H p = some (feedO x y) ∧ 0 < m ∧ m < 1000000 ∧
  ∀ (r x' y' : Int), 0 ≤ r → r < m → Q (.int r) (upd H p (feedO x' y'))
section
variable {P : Program} {w : World} {K : PySem.W.Frag} {mg : Str → Option Value} {base : Heap}
theorem scF : FnScope ["script", "k", "cell", "digits", "state"] ["script", "k"] (defScope sFeed) := ⟨rfl, rfl, rfl, by decide +kernel, rfl, by decide +kernel, by decide +kernel⟩
theorem ok_feed {f : Addr} {fd : FuncData} (F : Fun K "_law_feed" "_law_feed" sFeed f fd) (T : DTxt mg) : FnOk P w K mg base CX0 1 f fd ["script", "k"] (spFeed K) := by
  refine F.ok scF (fun vs H Q E h => ?_) (fun cdv A outer s H vs Q E hr h => ?_)
  · obtain ⟨a, ns, k, rfl, _⟩ := h
    rfl
  · obtain ⟨a, ns, k, rfl, hs, hk, q⟩ := h
    refine ⟨_, pss_cons (ps_set (i := 2) scF.nd rfl (Or.inl rfl) (pe_ifExp (pt_cmpR op_lt (pv 1) (pe_callB call_len (by rfl) T.len PySem.boot_len (pa_cons (pv 0) pa_nil)) (nomark _)) (pe_ix ix_list (pv 0) (pv 1) fun _ _ => rfl) (pe_op op_add (pe_op op_mul pe_int (pv 1)) pe_int)))
      (pss_cons (ps_set (i := 3) scF.nd rfl (Or.inl rfl) (pe_callB (call_max2 rfl) (by rfl) T.max boot_max (pa_cons pe_int (pa_cons (pe_op op_sub (pe_callB call_abs (by rfl) T.abs boot_abs (pa_cons (pv 2) pa_nil)) (pe_op op_pow pe_int pe_int)) pa_nil))))
      (pss_cons (ps_set (i := 4) scF.nd rfl (Or.inl rfl) (pe_op op_mod (pe_callTy call_int1 (by rfl) T.int (by decide +kernel) (pa_cons (pe_op op_add (pe_op op_add (pe_op op_mul (pv 2) pe_int) (pe_op op_mul pe_int (pv 1))) pe_int) pa_nil)) pe_int))
      (pss_one (ps_ret (pe_lst (pa_cons (pv 3) (pa_cons (pv 4) pa_nil))))))), ?_⟩
    refine ⟨_, rfl, _, rfl, _, _, rfl, .inl ⟨_, hs, rfl⟩, _, _, rfl, rfl, _, rfl, ?_⟩
    have he : (10 : Int) ^ (18 : Int).toNat = 1000000000000000000 := by decide
    have h7 : CMul 7919 (k : Int) := .inl ⟨by decide, by decide⟩
    have hC : ∀ c : Int, CMul c 6364136223846793005 := fun c => .inr ⟨by decide, by decide⟩
    have hP : CPow 10 18 := ⟨by decide, by decide, by decide⟩
    refine ite2 (fun h1 => ?_) (fun h1 => ?_)
    · have hkl : k < (ns.map V.int).length := by
        have := of_decide_eq_true h1
        omega
      obtain ⟨c, hc⟩ : ∃ c : Int, (ns.map V.int)[k]? = some (V.int c) := by
        rw [List.length_map] at hkl
        exact ⟨ns[k], by rw [List.getElem?_map, List.getElem?_eq_getElem hkl]; rfl⟩
      refine ⟨_, rfl, _, rfl, _, _, _, _, rfl, rfl, hs, atI_nat hc, ?_⟩
      refine ⟨_, rfl, _, rfl, _, _, rfl, rfl, hP, _, _, rfl, rfl, _, _, rfl, ?_⟩
      refine ⟨_, rfl, _, _, rfl, rfl, hC _, _, rfl, _, _, rfl, rfl, h7, _, _, rfl, rfl, _, _, rfl, rfl, .inl ⟨_, rfl, _, _, rfl, rfl, (by show (0 : Int) < 2305843009213693951; decide), ?_⟩⟩
      exact ⟨_, rfl, _, rfl, (by show 2 ≤ sizeLine; decide), fun p hp => q p _ _ hp⟩
    · refine ⟨_, rfl, _, _, rfl, rfl, .inl ⟨by decide, by decide⟩, _, _, rfl, rfl, ?_⟩
      refine ⟨_, rfl, _, rfl, _, _, rfl, rfl, hP, _, _, rfl, rfl, _, _, rfl, ?_⟩
      refine ⟨_, rfl, _, _, rfl, rfl, hC _, _, rfl, _, _, rfl, rfl, h7, _, _, rfl, rfl, _, _, rfl, rfl, .inl ⟨_, rfl, _, _, rfl, rfl, (by show (0 : Int) < 2305843009213693951; decide), ?_⟩⟩
      exact ⟨_, rfl, _, rfl, (by show 2 ≤ sizeLine; decide), fun p hp => q p _ _ hp⟩
theorem scT : FnScope ["feed", "many", "digit"] ["feed", "many"] (defScope sTake) := ⟨rfl, rfl, rfl, by decide +kernel, rfl, by decide +kernel, by decide +kernel⟩
theorem feed0 {H : Hp} {p : Addr} {x y : Int} (h : H p = some (feedO x y)) : SqL K H p [.int x, .int y] := SqL.of h
theorem at0 {x y : Int} : atI [V.int x, V.int y] 0 = some (.int x) := rfl
theorem at1 {x y : Int} : atI [V.int x, V.int y] 1 = some (.int y) := rfl
theorem upd2 {H : Hp} {p : Addr} {o u : HO} : upd (upd H p o) p u = upd H p u := by
  funext b
  by_cases h : b = p
  · subst h
    rw [upd_same, upd_same]
  · rw [upd_ne h, upd_ne h, upd_ne h]
theorem ok_take {f : Addr} {fd : FuncData} (F : Fun K "_law_take" "_law_take" sTake f fd) (T : DTxt mg) : FnOk P w K mg base CX0 1 f fd ["feed", "many"] spTake := by
  refine F.ok scT (fun vs H Q E h => ?_) (fun cdv A outer s H vs Q E hr h => ?_)
  · obtain ⟨p, x, y, m, rfl, _⟩ := h
    rfl
  · obtain ⟨p, x, y, m, rfl, hp, hm0, hm1, q⟩ := h
    refine ⟨_, pss_cons (ps_if (pt_cmpR op_gt (pe_ix ix_list (pv 0) pe_int fun _ _ => rfl) pe_int (nomark _))
        (pss_cons (ps_set (i := 2) scT.nd rfl (Or.inl rfl) (pe_op op_mod (pe_callTy call_int1 (by rfl) T.int (by decide +kernel) (pa_cons (pe_ix ix_list (pv 0) pe_int fun _ _ => rfl) pa_nil)) (pv 1)))
        (pss_cons (ps_asg (pe_op op_fdiv (pe_ix ix_list (pv 0) pe_int fun _ _ => rfl) (pv 1)) (pg_sub (pv 0) pe_int set_list))
        (pss_one (ps_ret (pv 2))))) pss_nil)
      (pss_cons (ps_asg (pe_op op_mod (pe_callTy call_int1 (by rfl) T.int (by decide +kernel) (pa_cons (pe_op op_add (pe_op op_mul (pe_ix ix_list (pv 0) pe_int fun _ _ => rfl) pe_int) pe_int) pa_nil)) pe_int) (pg_sub (pv 0) pe_int set_list))
      (pss_one (ps_ret (pe_op op_mod (pe_callTy call_int1 (by rfl) T.int (by decide +kernel) (pa_cons (pe_op op_fdiv (pe_ix ix_list (pv 0) pe_int fun _ _ => rfl) pe_int) pa_nil)) (pv 1))))), ?_⟩
    have hS := feed0 (K := K) hp
    refine ⟨_, rfl, _, _, _, _, rfl, rfl, hS, at0, _, _, rfl, rfl, _, rfl, ?_⟩
    refine ite2 (fun h1 => ?_) (fun h1 => ?_)
    · refine ⟨_, rfl, _, _, _, _, rfl, rfl, hS, at0, .inl ⟨_, rfl, _, rfl, _, _, rfl, rfl, hm0, ?_⟩⟩
      refine ⟨_, rfl, _, _, _, _, rfl, rfl, hS, at0, _, rfl, _, _, rfl, rfl, ⟨hm0, by omega⟩, ?_⟩
      refine ⟨_, rfl, _, _, _, 0, rfl, rfl, hp, rfl, _, rfl, ?_⟩
      exact q _ _ _ (Int.emod_nonneg _ (by omega)) (Int.emod_lt_of_pos _ hm0)
    · refine ⟨_, rfl, _, _, _, _, rfl, rfl, hS, at1, _, _, rfl, rfl, .inr ⟨by decide, by decide⟩, _, _, rfl, rfl, .inl ⟨_, rfl, _, _, rfl, rfl, (by show (0 : Int) < 2305843009213693951; decide), ?_⟩⟩
      refine ⟨_, rfl, _, _, _, 1, rfl, rfl, hp, rfl, ?_⟩
      refine ⟨_, rfl, _, _, _, _, rfl, rfl, SqL.of upd_same, at1, _, _, rfl, rfl, ⟨by decide, by decide⟩, .inl ⟨_, rfl, _, rfl, _, _, rfl, rfl, hm0, ?_⟩⟩
      exact q _ _ _ (Int.emod_nonneg _ (by omega)) (Int.emod_lt_of_pos _ hm0)
def spPick (K : PySem.W.Frag) : Sp := fun vs H Q _ => ∃ (p : Addr) (x y : Int), H p = some (feedO x y) ∧
  ((∃ (l : Addr) (xs : List V), vs = [.ref p, .ref l] ∧ SqL K H l xs ∧ l ≠ p ∧ 0 < xs.length ∧ xs.length < 1000000 ∧
      ∀ (v : V) (x' y' : Int), v ∈ xs → Q v (upd H p (feedO x' y'))) ∨
   (∃ (z : Str), vs = [.ref p, .str z] ∧ 0 < z.length ∧ z.length < 1000000 ∧
      ∀ (c : Nat) (x' y' : Int), c ∈ z.cps.toList → Q (.str ⟨#[c]⟩) (upd H p (feedO x' y'))))
theorem atI_in {α : Type} {xs : List α} {r : Int} (h0 : 0 ≤ r) (h1 : r < (xs.length : Int)) : ∃ v, atI xs r = some v ∧ v ∈ xs := by
  have h2 : r.toNat < xs.length := by omega
  refine ⟨xs[r.toNat], ?_, List.getElem_mem h2⟩
  unfold atI ixN
  rw [if_pos h0, if_pos h1]
  exact List.getElem?_eq_getElem h2
theorem scK : FnScope ["feed", "some"] ["feed", "some"] (defScope sPick) := ⟨rfl, rfl, rfl, by decide +kernel, rfl, by decide +kernel, by decide +kernel⟩
theorem seq_upd {H : Hp} {l p : Addr} {xs : List V} {o : HO} (h : SqL K H l xs) (n : l ≠ p) : SqL K (upd H p o) l xs := by
  rcases h with (h | ⟨u, h⟩) | h
  · exact .inl (.inl (by rw [upd_ne n]; exact h))
  · exact .inl (.inr ⟨u, by rw [upd_ne n]; exact h⟩)
  · exact .inr h
theorem ok_pick {f fT : Addr} {fd fdT : FuncData} (F : Fun K "_law_pick" "_law_pick" sPick f fd) (T : DTxt mg) (FT : Fun K "_law_take" "_law_take" sTake fT fdT) (bT : Binds K fdT ["feed", "many"] []) (gT : mg "_law_take" = some (.ref fT)) :
    FnOk P w K mg base CX0 2 f fd ["feed", "some"] (spPick K) := by
  have GT : FnOk P w K mg base CX0 1 fT fdT ["feed", "many"] spTake := ok_take FT T
  refine F.ok scK (fun vs H Q E h => ?_) (fun cdv A outer s H vs Q E hr h => ?_)
  · obtain ⟨p, x, y, _, ⟨l, xs, rfl, _⟩ | ⟨z, rfl, _⟩⟩ := h <;> rfl
  · refine ⟨_, pss_one (ps_ret (pe_ix ix_seq (pv 1) (pe_call GT hr (by rfl) gT FT.kp bT .nil pass0 (pa_cons (pv 0) (pa_cons (pe_callB call_len (by rfl) T.len PySem.boot_len (pa_cons (pv 1) pa_nil)) pa_nil))) fun _ _ => rfl)), ?_⟩
    obtain ⟨p, x, y, hp, ⟨l, xs, rfl, hl, hn, h0, h1, q⟩ | ⟨z, rfl, h0, h1, q⟩⟩ := h
    · refine ⟨_, rfl, _, rfl, _, rfl, _, _, rfl, .inl ⟨_, hl, rfl⟩, ?_⟩
      refine ⟨p, x, y, _, rfl, hp, by omega, by omega, fun r x' y' hr0 hr1 => ?_⟩
      have e : r = ((r.toNat : Nat) : Int) := by omega
      have hlt : r.toNat < xs.length := by omega
      refine .inl ⟨_, _, _, _, rfl, rfl, seq_upd hl hn, (by rw [e]; exact atI_nat (List.getElem?_eq_getElem hlt)), ?_⟩
      exact q _ _ _ (List.getElem_mem hlt)
    · refine ⟨_, rfl, _, rfl, _, rfl, _, z.length, rfl, ⟨Nat.le_trans (Nat.le_of_lt h1) (by decide), rfl⟩, ?_⟩
      refine ⟨p, x, y, _, rfl, hp, by omega, by omega, fun r x' y' hr0 hr1 => ?_⟩
      have el : z.length = z.cps.toList.length := by simp [Str.length]
      obtain ⟨c, hc, hm⟩ := atI_in (xs := z.cps.toList) hr0 (by omega)
      exact .inr (.inr ⟨_, _, _, rfl, rfl, Nat.le_trans (Nat.le_of_lt h1) (by decide), hc, q _ _ _ hm⟩)
end
end Dr

set_option maxRecDepth 100000
set_option maxHeartbeats 2000000
/-! A promise of a def that is called where no guard stands (so that repr may be asked in it). -/
namespace Gd
open PySem L2 PySem.Spec PyProof.Rows
structure FnG (P : Program) (w : World) (K : PySem.W.Frag) (mg : Str → Option Value) (base : Heap) (CX : CXT) (k : Nat) (f : Addr) (fd : FuncData) (ps : List Str) (sp : Sp) : Prop where
  len : ∀ vs H Q E, sp vs H Q E → vs.length = ps.length
  go : ∀ (A : Around) (outer : List Env) (s : Shared) (H : Hp) (args : Args) (us : List Value) (vs : List V) (Q : VK) (E : XK),
    A.guards = some [] → Room k A → Env0 P w K mg base A outer s H → BindsTo s fd args (ps.zip us) → Vals vs us →
    sp vs H Q E → codeAny (model P w) A (.call (.ref f) args) (CR CX outer P w H s Q E) s
section
variable {P : Program} {w : World} {K : PySem.W.Frag} {mg : Str → Option Value} {base : Heap} {CX : CXT} {k : Nat} {f : Addr} {fd : FuncData} {ps : List Str} {sp : Sp}
theorem FnG.of (F : FnOk P w K mg base CX k f fd ps sp) : FnG P w K mg base CX k f fd ps sp := ⟨F.len, fun A o s H a us vs Q E _ => F.run A o s H a us vs Q E⟩
theorem FnG.weaker {sp' : Sp} (F : FnG P w K mg base CX k f fd ps sp) (h : ∀ vs H Q E, sp' vs H Q E → sp vs H Q E) : FnG P w K mg base CX k f fd ps sp' :=
  ⟨fun vs H Q E q => F.len vs H Q E (h _ _ _ _ q), fun A o s H a us vs Q E g r e b v q => F.go A o s H a us vs Q E g r e b v (h _ _ _ _ q)⟩
theorem okG {x qual : Str} {st : Stmt} {N : List Str} (F : Fun K x qual st f fd) (S : FnScope N ps (defScope st)) (len : ∀ vs H Q E, sp vs H Q E → vs.length = ps.length)
    (body : ∀ (cdv : Value) (A : Around) (outer : List Env) (s : Shared) (H : Hp) (vs : List V) (Q : VK) (E : XK), A.guards = some [] →
      Room k (A.deeper (envOfC qual (defScope st) s.heap.objs.size f cdv)) → sp vs H Q E →
      ∃ t, PSs (cxOf CX P w K mg base N qual (defScope st) f cdv A outer s H E).nox (defBody st) t ∧ t { nx := fun _ H' => Q .non H', rt := Q } (start N vs) H) :
    FnG P w K mg base CX (k + 1) f fd ps sp := by
  obtain ⟨oc, od, kV, doc, pm, an, cdv, ct, osl, rfl, lk, hcd⟩ := F.ex
  constructor
  · exact len
  · intro A outer s H args us vs Q E hg hr e0 hb r hsp
    have nl := len _ _ _ _ hsp
    have kb : ∀ b o, base.get? b = some o → s.heap.get? b = some o := fun b o z => (e0.bs b o z).1
    have KX : K.In s.heap := e0.mod.kin.keeps kb
    have kinds : ∀ y ∈ ps.zip us, (defScope st).names.lookup y.1 = some .local ∨ ((defScope st).names.lookup y.1 = some .cell ∧ ((cellsFrom (s.heap.objs.size + 1) (defScope st).names []).lookup y.1).isSome = true) := by
      rintro ⟨n, v⟩ hy
      cases S.par n (List.of_mem_zip hy).1 with
      | inl q => exact Or.inl q
      | inr q => exact Or.inr ⟨q, PySem.W.cellsFrom_some _ _ _ (Or.inl q)⟩
    refine codeAny_call_function hr.depth (KX _ _ lk) rfl S.co S.gen rfl (PySem.W.codeRec_of KX hcd) (hb _ _ _ _ (wpAny_newFunctionEnv_cells S.kind kinds fun env he s1 x => ?_))
    subst he
    obtain ⟨t, ht, hq⟩ := body cdv A outer s H vs Q E hg (hr.deeper _) hsp
    refine ⟨(e0.mod.nolimit.keeps kb).keeps x.toInCall.keep, codeAny_func ?_⟩
    refine wpAny_mono (ht.nox.run [] s1 (start N vs) H _ (inv_start S hr.hd e0 nl r x) hq) (fun fl s' hs => ?_) fun e s' hs => hs
    cases fl with
    | ret u =>
      obtain ⟨v, σ', H', J, rv, q⟩ := hs
      exact ⟨v, H', J.os, J.bare, J.base, J.hok, rv, q⟩
    | next =>
      obtain ⟨σ', H', J, q⟩ := hs
      exact ⟨V.non, H', J.os, J.bare, J.base, J.hok, rfl, q⟩
    | brk => exact hs.choose_spec.choose_spec.2.elim
    | cont => exact hs.choose_spec.choose_spec.2.elim
end
section
variable {X : Cx} {CX : CXT} {k : Nat} {f : Addr} {fd : FuncData} {ps : List Str} {sp : Sp} {dvs : List V} {ds : List Value} {E : XK} {x : Str} {p pos : Pos} {e : Expr} {es : List Expr} {t : TA}
theorem runG {pins : List (Addr × Obj)} {σ : L2.St} {H : Hp} {s : Shared} {Q : VK} {us : List Value} {vs : List V} (F : FnG X.prog X.w X.K X.mg X.base CX k f fd ps sp) (hg : X.A.guards = some []) (hr : Room k X.A)
    (hb : L2.Binds X.K fd ps ds) (hd : Vals dvs ds) (hx : Passes CX X E) (I : Inv X pins σ H s) (r : Vals vs us) (h : sp (vs ++ dvs) H Q E) :
    wpAny (model X.prog X.w) X.A (call (.ref f) us) (EP X pins σ Q) X.xe s := by
  have r2 := r.append hd
  have nl : (us ++ ds).length = ps.length := r2.length.symm.trans (F.len _ _ _ _ h)
  refine wpAny_call (codeAny_mono (F.go X.A X.stack s H ⟨us, []⟩ _ _ Q E hg hr I.env0 (hb s us I.kIn nl) r2 h) ?_)
  intro r s' hq
  cases r with
  | error er => exact hx pins σ H s er s' I hq
  | ok fl => cases fl <;> first | exact I.after hq | exact False.elim hq
/-- f(e, ..) where f's promise asks that no guard stands -/
theorem pe_callG (F : FnG X.prog X.w X.K X.mg X.base CX k f fd ps sp) (hgd : X.A.guards = some []) (hr : Room k X.A) (hg : Gl X x) (hm : X.mg x = some (.ref f)) (hk : PySem.W.keepIn X.K (.ref f) = true)
    (hb : L2.Binds X.K fd ps ds) (hd : Vals dvs ds) (hx : Passes CX X E) (ha : PA X (e :: es) t)
    (hdb : (x == ("__debug__" : Str)) = false := by decide) (he : starEach (e :: es) X.env = (false, eval e X.env) :: starEach es X.env := by rfl) (hpl : (backTo pos (starEach es X.env)).any (·.1) = false := by rfl) :
    PE X (.Call (.Name x p) (e :: es) [] pos) (tCall sp dvs E t) := by
  constructor
  intro pins s σ H Q I h
  refine wpAny_Call_Name_kw (ld_glob I hg hm ?_ hdb)
  refine PySem.W.callWith_K (h₀ := X.base) I.ok.mod.kin hk (thn (ha.run pos pins s σ H _ I h) ?_) he hpl
  rintro us s1 ⟨vs, H1, I1, r, q⟩
  exact ⟨I1.kIn, runG F hgd hr hb hd hx I1 r q⟩
end
/-! ### repr of data -/
section
variable {X : Cx}
/-- repr(v): v is data d -/
def rRepr (K : PySem.W.Frag) : List V → Hp → VK → Prop := fun xs H Q => ∃ (v : V) (d : PyData), xs = [v] ∧ Dp K H v d ∧ d.showable = true ∧ d.hasDict = false ∧ d.shown.length ≤ sizeLine ∧ d.depth ≤ 60 ∧ Q (.str d.shown) H
theorem call_reprD (hg : X.A.guards = some []) (hu : X.A.units + 70 < cLine) : CallR X (.builtin "repr") (rRepr X.K) := by
  intro pins s σ H xs us Q I r h
  obtain ⟨v, d, rfl, hd, hs, hn, hz, hdp, q⟩ := h
  obtain ⟨u, rfl, ru⟩ := vals1 r
  cases hd with
  | non =>
    cases ru
    rw [PyData.shown_none] at q
    exact PySem.P.repr_of_none ⟨.str _, H, I.tok _, ⟨_, rfl⟩, q⟩
  | bl b =>
    cases ru
    rw [PyData.shown_bool] at q
    exact PySem.P.repr_of_bool ⟨.str _, H, I.tok _, ⟨_, rfl⟩, q⟩
  | int i =>
    obtain ⟨t, rfl⟩ := ru
    rw [PyData.shown_int] at q
    exact PySem.P.repr_of_int (by simpa [PyData.showable] using hs) ⟨.str _, H, I.tok _, ⟨_, rfl⟩, q⟩
  | str z =>
    obtain ⟨t, rfl⟩ := ru
    rw [PyData.shown_str] at q hz
    exact PySem.P.repr_of_str ⟨.str _, H, I.tok _, ⟨_, rfl⟩, q⟩
  | @lst a xs ds h1 h2 =>
    obtain rfl : u = Value.ref a := ru
    obtain ⟨as, rd⟩ := Dp.reads I _ _ _ (Dp.lst h1 h2) (rfl : RelV (.ref a) (.ref a))
    exact PySem.repr_of_reads' rd hs (fun z => by rw [hn] at z; cases z) hg (by omega) (fun _ _ e => e) (fun h' u tk k => ⟨.str _, H, I.kept (t' := tk) k, ⟨_, rfl⟩, q⟩) hz
  | @tup a xs ds h1 h2 =>
    obtain rfl : u = Value.ref a := ru
    obtain ⟨as, rd⟩ := Dp.reads I _ _ _ (Dp.tup h1 h2) (rfl : RelV (.ref a) (.ref a))
    exact PySem.repr_of_reads' rd hs (fun z => by rw [hn] at z; cases z) hg (by omega) (fun _ _ e => e) (fun h' u tk k => ⟨.str _, H, I.kept (t' := tk) k, ⟨_, rfl⟩, q⟩) hz
end
end Gd

set_option maxRecDepth 100000
set_option maxHeartbeats 2000000
/-! Own errors over an own error over ValueError, each with an __init__ that says super().__init__('..') and keeps its argument, made as values. -/
namespace Er
open PySem PySem.W PySem.Calls PyProof.Rows PySem.HandSPX
/-- the text of such an __init__ -/
def sup (z : Str) (k : Nat) (p0 p1 p2 p3 p4 p5 : Pos) : Stmt :=
  .Expr (.Call (.Attribute (.Call (.Name "super" p0) [] [] p1) "__init__" p2) [.Constant (.str z) k p3] [] p4) p5
def keepS (fl : Str) (q1 q2 q3 q4 : Pos) : Stmt := .Assign [.Attribute (.Name "self" q1) fl q2] (.Name fl q3) q4
def body : Option Str → Str → Nat → Pos → Pos → Pos → Pos → Pos → Pos → Pos → Pos → Pos → Pos → List Stmt
  | none, z, k, p0, p1, p2, p3, p4, p5, _, _, _, _ => [sup z k p0 p1 p2 p3 p4 p5]
  | some fl, z, k, p0, p1, p2, p3, p4, p5, q1, q2, q3, q4 => [sup z k p0 p1 p2 p3 p4 p5, keepS fl q1 q2 q3 q4]
def pars : Option Str → Pos → Pos → Arguments
  | none, p, _ => { posonlyargs := [], args := [{ arg := "self", annotation := none, pos := p }], vararg := none, kwonlyargs := [], kw_defaults := [], kwarg := none, defaults := [] }
  | some fl, p, q => { posonlyargs := [], args := [{ arg := "self", annotation := none, pos := p }, { arg := fl, annotation := none, pos := q }], vararg := none, kwonlyargs := [], kw_defaults := [], kwarg := none, defaults := [] }
def names : Option Str → List (Str × NameKind)
  | none => [("self", .local), ("__class__", .free), ("super", .globalImplicit)]
  | some fl => [("self", .local), (fl, .local), ("__class__", .free), ("super", .globalImplicit)]
def scp (o : Option Str) : Scope := { kind := .function, names := names o, isGenerator := false, isCoroutine := false, more := [] }
/-- how the call super().__init__('..') is read (by its places) -/
def EvP (z : Str) (kz : Nat) (p0 p1 p2 p3 p4 p5 : Pos) : Prop := ∀ env : Env, (∃ pl, eval (.Call (.Attribute (.Call (.Name "super" p0) [] [] p1) "__init__" p2) [.Constant (.str z) kz p3] [] p4) env = (do
      let ov ← attributeBase (.Call (.Name "super" p0) [] [] p1) "__init__" env (eval (.Call (.Name "super" p0) [] [] p1) env)
      standAt p2.atName
      let (f, first) ← holding [ov] (getMethod ov "__init__" pl)
      callWith p4 f first (backTo p4 (starEach [.Constant (.str z) kz p3] env)) [])) ∧
    swapsWith (.Call (.Attribute (.Call (.Name "super" p0) [] [] p1) "__init__" p2) [.Constant (.str z) kz p3] [] p4) none p5.line env = pure false
/-- how its arguments bind -/
def BdP : Option Str → FuncData → Prop
  | none, fd => ∀ e, bindArgs fd ⟨[e], []⟩ = pure [(("self" : Str), e)]
  | some f, fd => ∀ e v, bindArgs fd ⟨[e, v], []⟩ = pure [(("self" : Str), e), (f, v)] ∧ bindArgs fd ⟨[e], [(f, v)]⟩ = pure [(("self" : Str), e), (f, v)]
/-- what the written part says of the class at C, of its __init__ at fI -/
structure ErrC (P : Program) (K : Frag) (x : Str) (fl : Option Str) (C fI : Addr) : Prop where
  kC : keepIn K (.ref C) = true
  cls : ∃ nm q N bs bm sn sub ab col dd k0 k1 k2 k3 k5, K.lookup C = some (excClassObj nm q C N bs bm true sn sub ab col dd k0 k1 k2 k3 k5 "ValueError.__new__") ∧ refsVE bm = true
  sa : findIn K (.ref C) "__setattr__" = some (some (.builtin "object.__setattr__"))
  iC : findIn K (.ref C) "__init__" = some (some (.ref fI))
  tI : typeIn K (.ref fI) = some (.type "function")
  fn : ∃ (oc : Value) (od : Option Addr) (doc pm : Value) (an : Option Addr) (ct : Value) (osl : Array (Option Value)) (cc cda : Addr) (qual z : Str) (kz : Nat) (p p' p0 p1 p2 p3 p4 p5 q1 q2 q3 q4 : Pos),
    K.lookup fI = some ⟨oc, od, .func (ksFn "__init__" qual (pars fl p p') (body fl z kz p0 p1 p2 p3 p4 p5 q1 q2 q3 q4) (scp fl) .none .none doc pm an (.ref cda) ct cc), osl⟩ ∧ codeIn K (.ref cda) qual = true ∧
    EvP z kz p0 p1 p2 p3 p4 p5 ∧ BdP fl (ksFn "__init__" qual (pars fl p p') (body fl z kz p0 p1 p2 p3 p4 p5 q1 q2 q3 q4) (scp fl) .none .none doc pm an (.ref cda) ct cc) ∧ (∃ (ccl : Value) (cdd : Option Addr) (vs : Array Value) (ccs : Array (Option Value)) (file : Str) (tf : Tok), K.lookup cda = some ⟨ccl, cdd, .fields vs, ccs⟩ ∧ vs[2]? = some (.str file tf) ∧ ((P.main.file : Str) == file) = true) ∧
    ∃ (cl : Value) (cld : Option Addr) (csl : Array (Option Value)), K.lookup cc = some ⟨cl, cld, .cell (some (.ref C)), csl⟩
  any : nsIn K cStatics "thirdparty.any" = some none
  along : ks_superIn K C C "__init__" = some (some (.builtin "ValueError.__init__"))
  subVE : subIn K (.ref C) (.type "ValueError") = some true
  mro : mroIn K C (.ref C) = some true
  top : (P.main.scope.names.lookup ("super" : Str)).isSome = false
  noF : ∀ f, fl = some f → findIn K (.ref C) f = some none
  kS : (names fl).lookup ("super" : Str) = some .globalImplicit
  kF : (names fl).lookup ("__class__" : Str) = some .free
  kL : (names fl).lookup ("self" : Str) = some .local
  kP : ∀ f, fl = some f → (names fl).lookup f = some .local ∧ (f == ("self" : Str)) = false ∧ (f == ("__debug__" : Str)) = false
theorem one_size (v : Value) : [v].length ≤ sizeLine := by
  rw [sizeLine_eq]
  exact (by decide : 1 ≤ 16777216)
section
variable {P : Program} {w : World} {A : Around} {E : Value → Shared → Prop} {R : Result → Shared → Prop} {K : Frag} {mg mb : Str → Option Value} {x : Str} {fl : Option Str} {C fI : Addr}
/-- the first row of __init__ -/
theorem sup_run (T : ErrC P K x fl C fI) {hh : Heap} {g : Array GenState} {d : Drawn} {t : Nat} {os : OsState} {e t0 cc cda L : Addr} {m : Str → Option Value} {q z : Str} {kz : Nat} {bd : List Stmt} {p0 p1 p2 p3 p4 p5 : Pos} {fd : FuncData} {Q : Flow → Shared → Prop}
    (ev : EvP z kz p0 p1 p2 p3 p4 p5) (X : K.In hh) (G : hh.Ns mainGlobals mg) (hmg : mg "super" = none) (B : hh.Ns builtinsNs mb) (hmb : mb "super" = some (.type "super")) (he : hh.get? e = some (excO C t0))
    (hns : hh.Ns L m) (hv : m "self" = some (.ref e)) (hf : ∃ of, hh.get? fI = some of ∧ of.data = .func fd) (hp : ∃ ar, (fd.params.posonlyargs ++ fd.params.args).head? = some ar ∧ ar.arg = ("self" : Str))
    (hcode : ∃ oc vs file tf, hh.get? cda = some oc ∧ oc.data = .fields vs ∧ vs[2]? = some (.str file tf) ∧ ((P.main.file : Str) == file) = true) (hcell : hh.IsCell cc (some (.ref C)))
    (hq : ∀ h' t1 tk, (∀ b o, b ≠ e → hh.get? b = some o → h'.get? b = some o) → h'.get? e = some (excO C t1) → Q .next ⟨h', g, d, tk, os⟩) :
    _root_.PySem.wpAt (model P w) A (.func bd (ksEnv q (scp fl) L fI (.ref cda) cc)) (exec (sup z kz p0 p1 p2 p3 p4 p5) (ksEnv q (scp fl) L fI (.ref cda) cc)) Q E ⟨hh, g, d, t, os⟩ := by
  obtain ⟨nm, q', N, bs, bm, sn, sub, ab, col, dd, k0, k1, k2, k3, k5, hC, hbm⟩ := T.cls
  have hcl : clsIn K C = some { name := nm, bases := bs, mro := .ref C :: bm, ns := N, qualname := q', hasDict := true, slotNames := sn, subclasses := sub, abstract := ab, collection := col, hasDel := false } := by
    unfold clsIn
    rw [hC] <;> rfl
  have I : InstAt hh e (excO C t0) C none := ⟨he, rfl, rfl, trivial⟩
  have neC : e ≠ C := ks_ne X I hcl
  obtain ⟨of, hf1, hf2⟩ := hf
  obtain ⟨ar, har, har2⟩ := hp
  obtain ⟨oc, vs, file, tf, hc1, hc2, hc3, hc4⟩ := hcode
  unfold sup
  obtain ⟨⟨pl, ev1⟩, ev2⟩ := ev (ksEnv q (scp fl) L fI (.ref cda) cc)
  refine ks_wpAt_Expr_any (ks_wpAt_MethodCall ?_ ev1) rfl ev2
  refine ks_wpAt_super_base (env := ksEnv q (scp fl) L fI (.ref cda) cc) T.kS T.kF rfl rfl hf1 hf2 har rfl hc1 hc2 hc3 hc4 T.top ?_
  refine ks_loadName_global rfl T.kS (loadGlobal_builtin (env := ksEnv q (scp fl) L fI (.ref cda) cc) G hmg B hmb ⟨rfl, ?_⟩)
  refine wpAny_loadName_free rfl T.kF rfl hcell ?_
  rw [har2]
  refine wpAny_loadName_local rfl T.kL hns hv ?_
  refine ks_wpAny_isType_cls (X _ _ hC) rfl ⟨rfl, ?_⟩
  refine ks_wpAny_call_super (X _ _ hC) rfl he rfl (fun c z => by cases z) (looks_mroIn X T.mro) (fun h1 hso k1 => ?_)
  have X1 : K.In h1 := X.keeps k1
  have I1 : InstAt h1 e (excO C t0) C none := ⟨k1 _ _ he, rfl, rfl, trivial⟩
  have hal : alongIn K "__init__" (((Value.ref C :: bm).dropWhile (· != .ref C)).drop 1) = some (some (.builtin "ValueError.__init__")) := by
    have z := T.along
    unfold ks_superIn at z
    rw [hcl] at z
    exact z
  refine kxs_getMethod kxs_ValueError hso (looks_opaque X1 T.any) (l₀ := .ref C :: bm) (fun A Q E s k q => wpAny_bind ((looks_clsIn X1 hcl) A _ E s k (wpAny_pure q))) rfl X1 hal (I1.type.andThen (looks_subIn X1 T.subVE)) neC rfl ?_
  have hu : (h1.push (kxs_mw "ValueError.__init__" e)).get? h1.objs.size = some (kxs_mw "ValueError.__init__" e) := Heap.get?_push_at rfl rfl
  have k2 : ∀ b o, hh.get? b = some o → (h1.push (kxs_mw "ValueError.__init__" e)).get? b = some o := fun b o q => Heap.get?_push_of_some _ (k1 b o q)
  refine kxs_callWith (i := "ValueError.__init__") (x := e) rfl ?_
  refine evalArgs_plain (Calls.spliced_cons (Calls.Constant_str (k := kz) (pos := p3) (Calls.spliced_nil ⟨hu, ?_⟩)))
  refine wpAny_call (codeAny_of_tree ?_)
  show wpAny _ A.in1 (callAny (.ref h1.objs.size) ⟨_, []⟩) _ _ _
  simp only [callAny]
  refine wpAny_bind (wpAny_load hu ?_)
  have c1 : (Value.type "method-wrapper" == Value.type "method" || Value.type "method-wrapper" == Value.type "builtin_function_or_method" || Value.type "method-wrapper" == Value.type "method-wrapper") = true := by decide
  simp only [kxs_mw, c1, if_true]
  refine KFB.if_so (by decide) ?_
  have FB := PySem.F.excBase_ValueError
  refine wpAny_bind (check_bound_init FB.toExcCallFacts (k2 _ _ (X _ _ hC)) (k2 _ _ he) rfl ?_)
  refine wpAny_bind (wpAny_pure (wpAny_pure ⟨plainId_quiet FB.init.plain _, codeAny_builtin FB.initEntry ?_⟩))
  refine exc_init_tree (cls := .ref C) (t0 := t0) (dv := none) (c2 := .none) (c3 := .none) (b4 := .bool false) (k2 _ _ he) (one_size _) fun h2 k3 e2 _ => ?_
  exact hq h2 _ _ (fun b o hb z => k3 b o hb (k2 b o z)) e2
theorem noCell (o : Option Str) : ∀ y ∈ names o, y.2 ≠ .cell := by
  intro y hy
  cases o <;> simp only [names, List.mem_cons, List.not_mem_nil, or_false] at hy
  · rcases hy with rfl | rfl | rfl <;> exact fun z => by cases z
  · rcases hy with rfl | rfl | rfl | rfl <;> exact fun z => by cases z
/-- what an exception is behind its making: its dict (none where it keeps nothing) -/
def fsOf : Option Str → List Value → List (Str × Value)
  | some f, [_, v] => [(f, v)]
  | _, _ => []
theorem err_init0 (T : ErrC P K x none C fI) {s : Shared} {e t0 : Addr} (X : K.In s.heap) (lim : s.heap.NoLimit) (G : s.heap.Ns mainGlobals mg) (hmg : mg "super" = none) (B : s.heap.Ns builtinsNs mb) (hmb : mb "super" = some (.type "super"))
    (he : s.heap.get? e = some (excO C t0)) (hroom : A.depth < recursionLimit)
    (hq : ∀ h' t1 tk, (∀ b o, b ≠ e → s.heap.get? b = some o → h'.get? b = some o) → h'.get? e = some (excO C t1) → R (.ok (.ret .none)) { s with heap := h', toks := tk }) :
    codeAny (model P w) A (.call (.ref fI) ⟨[.ref e], []⟩) R s := by
  obtain ⟨oc, od, doc, pm, an, ct, osl, cc, cda, qual, z, kz, p, p', p0, p1, p2, p3, p4, p5, q1, q2, q3, q4, hf, hcd, ev, bd, ⟨ccl, cdd, vs, ccs, file, tf, hc1, hc2, hc3⟩, cl, cld, csl, hcell⟩ := T.fn
  refine ks_codeAny_call_defAt (binds := [("self", .ref e)]) hroom (X _ _ hf) rfl lim (codeRec_of X hcd) rfl (BindsTo.of_eq (by first | rfl | with_unfolding_all rfl)) (noCell none) (by
    intro y hy
    obtain rfl : y = (("self" : Str), Value.ref e) := by simpa using hy
    exact T.kL) (fun h1 hns k1 => ?_) rfl rfl rfl
  obtain ⟨hh, g, d, t, os⟩ := s
  have X1 : K.In h1 := X.keeps k1
  show _root_.PySem.wpAt _ _ _ (execs (sup z kz p0 p1 p2 p3 p4 p5 :: []) _) _ _ _
  refine ks_wpAt_execs_cons (sup_run (m := fun y => [(("self" : Str), Value.ref e)].reverse.lookup y) T ev X1 (G.keeps k1) hmg (B.keeps k1) hmb (k1 _ _ he) hns (by with_unfolding_all rfl) ⟨_, X1 _ _ hf, rfl⟩ ⟨_, rfl, rfl⟩ ⟨_, vs, file, tf, X1 _ _ hc1, rfl, hc2, hc3⟩ ⟨_, X1 _ _ hcell, rfl⟩ fun h2 t1 tk k2 e2 => ?_)
  exact wpAt_of_wpAny (wpAny_execs_nil (hq h2 t1 tk (fun b o hb z => k2 b o hb (k1 b o z)) e2))
def args1 (f : Str) (v : Value) (e : Value) (byName : Bool) : Args := if byName = true then ⟨[e], [(f, v)]⟩ else ⟨[e, v], []⟩
theorem err_init1 {f : Str} (T : ErrC P K x (some f) C fI) {s : Shared} {e t0 : Addr} {v : Value} {bn : Bool} (X : K.In s.heap) (lim : s.heap.NoLimit) (G : s.heap.Ns mainGlobals mg) (hmg : mg "super" = none) (B : s.heap.Ns builtinsNs mb) (hmb : mb "super" = some (.type "super"))
    (he : s.heap.get? e = some (excO C t0)) (hne : K.lookup e = none) (hroom : A.depth < recursionLimit)
    (hq : ∀ h' t1 tk dx, (∀ b o, b ≠ e → s.heap.get? b = some o → h'.get? b = some o) → h'.get? e = some { cls := .ref C, dict := some dx, data := .fields #[.ref t1, .none, .none, .none, .bool false, .none] } →
      s.heap.objs.size ≤ dx → dx ≠ e → h'.Ns1 dx (fun y => if y = f then some v else none) → R (.ok (.ret .none)) { s with heap := h', toks := tk }) :
    codeAny (model P w) A (.call (.ref fI) (args1 f v (.ref e) bn)) R s := by
  obtain ⟨oc, od, doc, pm, an, ct, osl, cc, cda, qual, z, kz, p, p', p0, p1, p2, p3, p4, p5, q1, q2, q3, q4, hf, hcd, ev, bd, ⟨ccl, cdd, vs, ccs, file, tf, hc1, hc2, hc3⟩, cl, cld, csl, hcell⟩ := T.fn
  obtain ⟨nm, q', N, bs, bm, sn, sub, ab, col, dd, k0, k1, k2, k3, k5, hC, hbm⟩ := T.cls
  have hcl : clsIn K C = some { name := nm, bases := bs, mro := .ref C :: bm, ns := N, qualname := q', hasDict := true, slotNames := sn, subclasses := sub, abstract := ab, collection := col, hasDel := false } := by
    unfold clsIn
    rw [hC] <;> rfl
  obtain ⟨kf1, kf2, kf3⟩ := T.kP f rfl
  have hbd : BindsTo s (ksFn "__init__" qual (pars (some f) p p') (body (some f) z kz p0 p1 p2 p3 p4 p5 q1 q2 q3 q4) (scp (some f)) .none .none doc pm an (.ref cda) ct cc) (args1 f v (.ref e) bn) [("self", .ref e), (f, v)] := by
    cases bn
    · exact BindsTo.of_eq (bd _ _).1
    · exact BindsTo.of_eq (bd _ _).2
  refine ks_codeAny_call_defAt (binds := [("self", .ref e), (f, v)]) hroom (X _ _ hf) rfl lim (codeRec_of X hcd) rfl hbd (noCell (some f)) (by
    intro y hy
    rcases List.mem_cons.mp hy with rfl | hy
    · exact T.kL
    · obtain rfl : y = (f, v) := by simpa using hy
      exact kf1) (fun h1 hns kk => ?_) rfl rfl rfl
  obtain ⟨hh, g, d, t, os⟩ := s
  have X1 : K.In h1 := X.keeps kk
  have nsf : f ≠ ("self" : Str) := by simpa using kf2
  have lf : [(("self" : Str), Value.ref e), (f, v)].reverse.lookup f = some v := by simp [List.lookup]
  have ls : [(("self" : Str), Value.ref e), (f, v)].reverse.lookup ("self" : Str) = some (Value.ref e) := by
    have z : (("self" : Str) == f) = false := by simpa using (Ne.symm nsf)
    simp [List.lookup, z]
  have heL : e ≠ hh.objs.size := Nat.ne_of_lt (Heap.lt_size he)
  show _root_.PySem.wpAt _ _ _ (execs (sup z kz p0 p1 p2 p3 p4 p5 :: [keepS f q1 q2 q3 q4]) _) _ _ _
  refine ks_wpAt_execs_cons (sup_run (m := fun y => [(("self" : Str), Value.ref e), (f, v)].reverse.lookup y) T ev X1 (G.keeps kk) hmg (B.keeps kk) hmb (kk _ _ he) hns ls ⟨_, X1 _ _ hf, rfl⟩ ⟨_, rfl, rfl⟩ ⟨_, vs, file, tf, X1 _ _ hc1, rfl, hc2, hc3⟩ ⟨_, X1 _ _ hcell, rfl⟩ fun h2 t1 tk k4 e2 => ?_)
  have X2 : K.In h2 := fun a o q => k4 a o (fun y => by rw [y, hne] at q; cases q) (X1 a o q)
  obtain ⟨oL, esL, epL, hL, rL⟩ := hns
  have hns2 : h2.Ns hh.objs.size (fun y => [(("self" : Str), Value.ref e), (f, v)].reverse.lookup y) := ⟨oL, esL, epL, k4 _ _ (Ne.symm heL) hL, rL⟩
  refine wpAt_of_wpAny (wpAny_execs_cons (plainObj_wpAny_Assign_Attribute ?_))
  refine wpAny_Name (wpAny_loadName_local rfl kf1 hns2 lf ?_) kf3
  refine wpAny_Name (wpAny_loadName_local rfl T.kL hns2 ls ?_) (by decide)
  refine set_plain X2 (ox := excO C t1) (od := none) ⟨e2, rfl, rfl, trivial⟩ T.sa ?_
  refine exc_osa X2 e2 hcl (show refsVE (.ref C :: bm) = true from hbm) rfl (T.noF f rfl) (fun h3 tk3 dx k5 dn dne hx3 hn3 => ?_)
  have zz : hh.objs.size ≤ dx := Nat.le_trans (Nat.le_of_lt (Heap.lt_size (k4 _ _ (Ne.symm heL) hL))) dn
  exact wpAny_execs_nil (hq h3 t1 tk3 dx (fun b o hb z => k5 b o hb (k4 b o hb (kk b o z))) hx3 zz dne hn3)
end
end Er

set_option maxRecDepth 100000
set_option maxHeartbeats 2000000
namespace Er
open PySem PySem.W PySem.Calls PyProof.Rows PySem.HandSPX
section
variable {P : Program} {w : World} {A : Around} {E : Value → Shared → Prop} {R : Result → Shared → Prop} {h : Heap} {g : Array GenState} {d : Drawn} {t : Nat} {os : OsState}
variable {nm q : Str} {C N : Addr} {bs bm : List Value} {sn : List Str} {sub : List Value} {ab : Bool} {col : Option Bool} {dd : Option Addr} {k0 k1 k2 k3 k5 : Option Value}
/-- the class's own part of the making, with arguments by name -/
theorem newKw {kw : List (Str × Value)} (hbm : refsVE bm = true)
    (hC : h.get? C = some (excClassObj nm q C N bs bm true sn sub ab col dd k0 k1 k2 k3 k5 "ValueError.__new__"))
    (hq : R (.ok (.ret (.ref (h.objs.size + 1)))) ⟨(h.push (kdv_tup [])).push (excO C h.objs.size), g, d, t, os⟩) :
    codeAny (model P w) A (.builtin "ValueError.__new__" ⟨[.ref C], kw⟩) R ⟨h, g, d, t, os⟩ := by
  have FB := PySem.F.excBase_ValueError
  have ends := FB.ends
  have hT := fun Y => refsVE_contains Y bm hbm
  have cB : (Value.ref C :: bm).contains (.type "ValueError") = true := by rw [List.contains_cons, hT, FB.hasB, Bool.or_true]
  have cA : (Value.ref C :: bm).contains (.type "AttributeError") = false := by rw [List.contains_cons, hT, FB.noAttr]; rfl
  have cN : (Value.ref C :: bm).contains (.type "NameError") = false := by rw [List.contains_cons, hT, FB.noName]; rfl
  refine codeAny_builtinAt FB.entry ?_
  unfold Builtin.«BaseException.__new__»
  refine _root_.PySem.wpAt_bind ?_
  refine _root_.PySem.wpAt_bind (_root_.PySem.wpAt_stack fun p below => _root_.PySem.wpAt_of_wpAny ?_)
  wp_walk
  refine _root_.PySem.wpAt_of_wpAny ?_
  rw [FB.owner]
  repeat (first | with_reducible refine wpAny_madeHere_exc FB.canon hC ?_ | with_reducible refine wpAny_loadPart_at hC ?_ | (with_reducible refine wpAny_isSubtype_exc hC ?_; first | rw [cB] | rw [cA] | rw [cN]) | wp_step)
  rw [Heap.size_push]
  exact hq
theorem checkKw {kw : List (Str × Value)} {M : Model} {Q : Unit → Shared → Prop} (hbm : refsVE bm = true)
    (hC : h.get? C = some (excClassObj nm q C N bs bm true sn sub ab col dd k0 k1 k2 k3 k5 "ValueError.__new__")) (hq : Q () ⟨h, g, d, t, os⟩) :
    wpAny M A (checkBuiltinCall "ValueError.__new__" ⟨[.ref C], kw⟩) Q E ⟨h, g, d, t, os⟩ := by
  have FB := PySem.F.excBase_ValueError
  have cB : (Value.ref C :: bm).contains (.type "ValueError") = true := by rw [List.contains_cons, refsVE_contains "ValueError" bm hbm, FB.hasB, Bool.or_true]
  have st := FB.noStar
  simp only [checkBuiltinCall, FB.newKind, FB.newSplit, FB.newRow]
  repeat (first
    | refine wpAny_loadPart_at hC ?_
    | (refine wpAny_isSubtype_exc hC ?_; rw [cB])
    | refine wpAny_staticBase_exc hC ?_
    | refine wpAny_madeBy_exc hC ?_
    | simp only [bne_self_eq_false, Bool.false_eq_true, if_false]
    | wp_step)
  exact hq
theorem typeKw {kw : List (Str × Value)} {fI : Addr} {Q : Fin → Shared → Prop} (hbm : refsVE bm = true)
    (hC : h.get? C = some (excClassObj nm q C N bs bm true sn sub ab col dd k0 k1 k2 k3 k5 "ValueError.__new__"))
    (hi : Looks (model P w) h (typeLookup (.ref C) "__init__") (some (.ref fI))) (hb : ∀ self, Looks (model P w) h (bindSpecial (.ref fI) self) (.ref fI, [self]))
    (hq : codeAny (model P w) A (.call (.ref fI) ⟨[.ref (h.objs.size + 1)], kw⟩)
      (fun r s' => match r with | .ok (.ret v) => v = .none ∧ Q (.done (.ret (.ref (h.objs.size + 1)))) s' | .ok _ => False | .error e => E e s')
      ⟨(h.push (kdv_tup [])).push (excO C h.objs.size), g, d, t, os⟩) :
    wpAny (model P w) A (Builtin.«type.__call__» ⟨[.ref C], kw⟩) Q E ⟨h, g, d, t, os⟩ := by
  have FB := PySem.F.excBase_ValueError
  repeat (first | with_reducible refine wpAny_loadPart_at hC ?_ | with_reducible refine wpAny_madeBy_exc hC ?_ | wp_step)
  refine codeAny_call_builtin_code (Code.quiet_builtin _ FB.quiet) (checkKw hbm hC (newKw hbm hC ?_))
  have kk : ∀ b o, h.get? b = some o → ((h.push (kdv_tup [])).push (excO C h.objs.size)).get? b = some o := fun b o z => Heap.get?_push_of_some _ (Heap.get?_push_of_some _ z)
  have e1 : ((h.push (kdv_tup [])).push (excO C h.objs.size)).get? (h.objs.size + 1) = some (excO C h.objs.size) := by heap_get
  have cC : (Value.ref C :: bm).contains (.ref C) = true := by simp
  show wpAny _ _ _ _ _ _
  unfold isInstance
  repeat (first
    | with_reducible refine wpAny_loadPart_at e1 ?_
    | (with_reducible refine wpAny_isSubtype_exc (kk _ _ hC) ?_; rw [cC])
    | wp_step)
  show wpAny _ _ (typeLookup (.ref C) _) _ _ _
  refine (hi.keeps kk).at (wpAny_holding (wpAny_bind (((hb (.ref (h.objs.size + 1))).keeps kk).at ?_)))
  refine wpAny_bind (wpAny_call (codeAny_mono hq fun r s' z => ?_))
  cases r with
  | error e => exact z
  | ok fl =>
    cases fl with
    | ret v =>
      obtain ⟨rfl, z⟩ := z
      first
        | exact wpAny_pure (wpAny_pure z)
        | (wp_walk; exact z)
    | next => exact z.elim
    | brk => exact z.elim
    | cont => exact z.elim
theorem callKw {kw : List (Str × Value)} {fI : Addr} (hbm : refsVE bm = true)
    (hC : h.get? C = some (excClassObj nm q C N bs bm true sn sub ab col dd k0 k1 k2 k3 k5 "ValueError.__new__"))
    (hi : Looks (model P w) h (typeLookup (.ref C) "__init__") (some (.ref fI))) (hb : ∀ self, Looks (model P w) h (bindSpecial (.ref fI) self) (.ref fI, [self]))
    (hq : codeAny (model P w) (A.under (.builtin "type.__call__" ⟨[.ref C], kw⟩)) (.call (.ref fI) ⟨[.ref (h.objs.size + 1)], kw⟩) (InitBack (h.objs.size + 1) R)
      ⟨(h.push (kdv_tup [])).push (excO C h.objs.size), g, d, t, os⟩) :
    codeAny (model P w) A (.call (.ref C) ⟨[], kw⟩) R ⟨h, g, d, t, os⟩ := by
  have f1 := tc_lookup
  have f2 := tc_bind (.ref C)
  have ty : (⟨h, g, d, t, os⟩ : Shared).TypeIs (.ref C) "type" := ⟨_, hC, rfl⟩
  refine codeAny_of_tree ?_
  show wpAny _ _ (callAny (.ref C) _) _ _ _
  repeat (any_goals (first | assumption | with_reducible refine wpAny_loadPart_at hC ?_ | wp_step))
  refine ⟨rfl, codeAny_call_builtin_at (Code.quiet_builtin _ (by decide +kernel)) entry_typeCall (wpAny_check_type_call_sub hC (typeKw hbm hC hi hb ?_))⟩
  refine codeAny_mono hq fun r s' z => ?_
  rcases r with e | (v | _ | _ | _) <;> exact z
end
end Er

set_option maxRecDepth 100000
set_option maxHeartbeats 2000000
namespace Er
open PySem PySem.Spec PyProof.Rows L2
section
variable {X : Cx} {pins : List (Addr × Obj)} {σ : L2.St} {H : Hp} {s : Shared}
/-- two new objects, tracked -/
theorem laid2 {h' : Heap} {a b : Addr} {oa ob : HO} {t' : Nat} (I : Inv X pins σ H s) (k : ∀ c u, s.heap.get? c = some u → h'.get? c = some u) (ha : s.heap.objs.size ≤ a) (hb : s.heap.objs.size ≤ b)
    (na : ObjOk X.prog X.w (upd (upd H b ob) a oa) h' a oa) (nb : a ≠ b → ObjOk X.prog X.w (upd (upd H b ob) a oa) h' b ob) : Inv X pins σ (upd (upd H b ob) a oa) { s with heap := h', toks := t' } := by
  have fa : H a = none := I.hok.fresh ha
  have fb : H b = none := I.hok.fresh hb
  have ne : ∀ {c u}, H c = some u → c ≠ a ∧ c ≠ b := fun {c u} q => ⟨ne_of_none q fa, ne_of_none q fb⟩
  have nh : ∀ {c u}, s.heap.get? c = some u → c ≠ a ∧ c ≠ b := fun {c u} q => ⟨Nat.ne_of_lt (Nat.lt_of_lt_of_le (Heap.lt_size q) ha), Nat.ne_of_lt (Nat.lt_of_lt_of_le (Heap.lt_size q) hb)⟩
  have up : ∀ {c}, c ≠ a → c ≠ b → upd (upd H b ob) a oa c = H c := fun {c} h1 h2 => by rw [upd_ne h1, upd_ne h2]
  refine I.un ⟨fun c u q _ _ _ => k c u q, fun c u q _ _ _ => ⟨u.slots, k c u q⟩, fun c u q n _ => by rw [up (nh q).1 (nh q).2]; exact n, fun c u q _ => ⟨u, k c u q⟩,
    fun c xs q => by rw [up (ne q).1 (ne q).2]; exact q, fun c o u q => by rw [up (ne q).1 (ne q).2]; exact q, fun c ps q => ⟨#[], by rw [up (ne q).1 (ne q).2, q]; simp⟩⟩ ?_
  intro c u q
  by_cases h1 : c = a
  · subst h1
    rw [upd_same] at q
    cases q
    exact na
  · by_cases h2 : c = b
    · subst h2
      rw [upd_ne h1, upd_same] at q
      cases q
      exact nb (Ne.symm h1)
    · rw [up h1 h2] at q
      exact (I.hok c u q).stay (fun e v _ z => k e v z) (fun e z => by rw [up (ne z).1 (ne z).2]; exact z) fun e xs z => by rw [up (ne z).1 (ne z).2]; exact z
end
section
variable {X : Cx} {x f : Str} {C fI : Addr} {k : Nat} {e : Expr} {te : TE} {p pos kp : Pos}
/-- what the world about says of the name super -/
structure SupOk (X : Cx) : Prop where
  mg : X.mg "super" = none
theorem facts {pins : List (Addr × Obj)} {σ : L2.St} {H : Hp} {s : Shared} (I : Inv X pins σ H s) : s.heap.NoLimit ∧ s.heap.Ns mainGlobals X.mg ∧ ∃ mb, s.heap.Ns builtinsNs mb ∧ mb "super" = some (.type "super") := by
  obtain ⟨mb, b1, b2⟩ := I.mod.blt
  exact ⟨I.mod.nolimit.keeps I.bk, I.mod.glob.keeps I.bk, mb, b1.keeps I.bk, (b2 _ (by decide +kernel)).trans (by decide +kernel)⟩
/-- C() as a value -/
def tErr0 (C : Addr) : TE := fun σ H Q => ∀ a, H a = none → Q (.ref a) (upd H a (exo a C none))
/-- C(e) as a value -/
def tErr1 (C : Addr) (f : Str) (te : TE) : TE := fun σ H Q => te σ H fun v H1 => ∀ a d, H1 a = none → H1 d = none → d ≠ a → Q (.ref a) (upd (upd H1 d (exd d [(f, v)])) a (exo a C (some d)))
theorem pe_err0 (T : ErrC X.prog X.K x none C fI) (S : X.mg "super" = none) (hr : Room k X.A) (hg : Gl X x) (hm : X.mg x = some (.ref C)) (hdb : (x == ("__debug__" : Str)) = false := by decide) :
    PE X (.Call (.Name x p) [] [] pos) (tErr0 C) := by
  constructor
  intro pins s σ H Q I h
  refine wpAny_Call_Name_kw (ld_glob I hg hm ?_ hdb)
  refine PySem.W.callWith_K0 I.kIn T.kC ?_
  show wpAny _ _ (call (.ref C) []) _ _ _
  obtain ⟨nm, q, N, bs, bm, sn, sub, ab, col, dd, k0, k1, k2, k3, k5, hC, hbm⟩ := T.cls
  obtain ⟨lim, G, mb, B, hmb⟩ := facts I
  obtain ⟨hp, g, dr, tk, os⟩ := s
  have X0 : X.K.In hp := I.kIn
  have kk : ∀ b o, hp.get? b = some o → ((hp.push (PySem.W.kdv_tup [])).push (PySem.HandSPX.excO C hp.objs.size)).get? b = some o := fun b o z => Heap.get?_push_of_some _ (Heap.get?_push_of_some _ z)
  have e1 : ((hp.push (PySem.W.kdv_tup [])).push (PySem.HandSPX.excO C hp.objs.size)).get? (hp.objs.size + 1) = some (PySem.HandSPX.excO C hp.objs.size) := by heap_get
  refine wpAny_call (callKw hbm (X0 _ _ hC) (PySem.W.looks_findIn X0 T.iC) (fun self => PySem.W.bind_fn X0 self T.tI) ?_)
  refine err_init0 (s := ⟨(hp.push (PySem.W.kdv_tup [])).push (PySem.HandSPX.excO C hp.objs.size), g, dr, tk, os⟩) T (X0.keeps kk) (lim.keeps kk) (G.keeps kk) S (B.keeps kk) hmb e1 ?_ ?_
  · have := hr.dp
    show X.A.depth + 1 < recursionLimit
    omega
  · intro h' t1 tk' k' e'
    have hn : H (hp.objs.size + 1) = none := I.hok.fresh (Nat.le_succ _)
    refine ⟨rfl, .ref (hp.objs.size + 1), upd H (hp.objs.size + 1) (exo (hp.objs.size + 1) C none), ?_, rfl, h _ hn⟩
    exact I.laid (t' := tk') (fun b o z => k' b o (Nat.ne_of_lt (Nat.lt_succ_of_lt (Heap.lt_size z))) (kk b o z)) (Nat.le_succ _) (exo_ok e')
theorem vals_one {v : V} {us : List Value} (r : Vals [v] us) : ∃ u, us = [u] ∧ RelV v u := by
  cases r with
  | cons a b => cases b; exact ⟨_, rfl, a⟩
/-- the making itself, behind the argument's reading -/
theorem make1 (T : ErrC X.prog X.K x (some f) C fI) (S : X.mg "super" = none) (hr : Room k X.A) (bn : Bool) {pins : List (Addr × Obj)} {σ : L2.St} {H1 : Hp} {s1 : Shared} {v : V} {u : Value} {Q : VK} (I1 : Inv X pins σ H1 s1) (ru : RelV v u)
    (q : ∀ a d, H1 a = none → H1 d = none → d ≠ a → Q (.ref a) (upd (upd H1 d (exd d [(f, v)])) a (exo a C (some d)))) :
    wpAny (model X.prog X.w) X.A (call (.ref C) (if bn = true then [] else [u]) (if bn = true then [(f, u)] else [])) (EP X pins σ Q) X.xe s1 := by
  obtain ⟨nm, qn, N, bs, bm, sn, sub, ab, col, dd, k0, k1, k2, k3, k5, hC, hbm⟩ := T.cls
  obtain ⟨lim, G, mb, B, hmb⟩ := facts I1
  obtain ⟨hp, g, dr, tk, os⟩ := s1
  have X0 : X.K.In hp := I1.kIn
  have fin : ∀ l : List Value, ∀ A' : Around, A'.depth < recursionLimit → ∀ R : Result → Shared → Prop, (∀ h' tk', (∃ w' H', Inv X pins σ H' ⟨h', g, dr, tk', os⟩ ∧ RelV w' (.ref (hp.objs.size + 1)) ∧ Q w' H') → R (.ok (.ret .none)) ⟨h', g, dr, tk', os⟩) →
      codeAny (model X.prog X.w) A' (.call (.ref fI) (args1 f u (.ref (hp.objs.size + 1)) bn)) R ⟨(hp.push (PySem.W.kdv_tup l)).push (PySem.HandSPX.excO C hp.objs.size), g, dr, tk, os⟩ := by
    intro l A' hA R hR
    have kk : ∀ b o, hp.get? b = some o → ((hp.push (PySem.W.kdv_tup l)).push (PySem.HandSPX.excO C hp.objs.size)).get? b = some o := fun b o z => Heap.get?_push_of_some _ (Heap.get?_push_of_some _ z)
    have e1 : ((hp.push (PySem.W.kdv_tup l)).push (PySem.HandSPX.excO C hp.objs.size)).get? (hp.objs.size + 1) = some (PySem.HandSPX.excO C hp.objs.size) := by heap_get
    have hne : X.K.lookup (hp.objs.size + 1) = none := by
      cases z : X.K.lookup (hp.objs.size + 1) with
      | none => rfl
      | some o => exact absurd (Nat.lt_of_succ_lt (Heap.lt_size (X0 _ _ z))) (Nat.lt_irrefl _)
    refine err_init1 (s := ⟨(hp.push (PySem.W.kdv_tup l)).push (PySem.HandSPX.excO C hp.objs.size), g, dr, tk, os⟩) T (X0.keeps kk) (lim.keeps kk) (G.keeps kk) S (B.keeps kk) hmb e1 hne hA ?_
    intro h' t1 tk' dx k' e' dn dne hns
    have dn' : hp.objs.size ≤ dx := by
      have z : hp.objs.size ≤ ((hp.push (PySem.W.kdv_tup l)).push (PySem.HandSPX.excO C hp.objs.size)).objs.size := by
        rw [Heap.size_push, Heap.size_push]
        omega
      exact Nat.le_trans z dn
    have fa : H1 (hp.objs.size + 1) = none := I1.hok.fresh (Nat.le_succ _)
    have fd : H1 dx = none := I1.hok.fresh dn'
    refine hR h' tk' ⟨.ref (hp.objs.size + 1), _, ?_, rfl, q _ dx fa fd dne⟩
    refine laid2 (t' := tk') I1 (fun b o z => k' b o (Nat.ne_of_lt (Nat.lt_succ_of_lt (Heap.lt_size z))) (kk b o z)) (Nat.le_succ _) dn' (exo_ok e') fun _ => exd_ok hns fun y => ?_
    exact relO_put (fs := []) (mA := fun _ => none) ru (fun _ => True.intro) y
  cases bn with
  | false =>
    refine wpAny_call (PySem.HandSPX.call_own (rest := [u]) F.excBase_ValueError (fun Y => PySem.HandSPX.refsVE_contains Y bm hbm) (X0 _ _ hC) (PySem.W.looks_findIn X0 T.iC) (fun self => PySem.W.bind_fn X0 self T.tI) (one_size u) ?_)
    refine fin [u] _ ?_ _ fun h' tk' hh => ⟨rfl, hh⟩
    have := hr.dp
    show X.A.depth + 1 < recursionLimit
    omega
  | true =>
    refine wpAny_call (callKw hbm (X0 _ _ hC) (PySem.W.looks_findIn X0 T.iC) (fun self => PySem.W.bind_fn X0 self T.tI) ?_)
    refine fin [] _ ?_ _ fun h' tk' hh => ⟨rfl, hh⟩
    have := hr.dp
    show X.A.depth + 1 < recursionLimit
    omega
theorem pe_err1 (T : ErrC X.prog X.K x (some f) C fI) (S : X.mg "super" = none) (hr : Room k X.A) (hg : Gl X x) (hm : X.mg x = some (.ref C)) (he : PE X e te) (hdb : (x == ("__debug__" : Str)) = false := by decide)
    (hs : starEach [e] X.env = (false, eval e X.env) :: starEach [] X.env := by rfl) : PE X (.Call (.Name x p) [e] [] pos) (tErr1 C f te) := by
  constructor
  intro pins s σ H Q I h
  refine wpAny_Call_Name_kw (ld_glob I hg hm (PySem.W.callWith_K (h₀ := X.base) I.ok.mod.kin T.kC ?_ hs (by rfl)) hdb)
  rw [hs]
  refine Calls.spliced_cons (thn (he.run pins s σ H _ I h) ?_)
  rintro u s1 ⟨v, H1, I1, r1, q1⟩
  exact Calls.spliced_nil ⟨I1.kIn, make1 T S hr false I1 r1 q1⟩
/-- C(f=e) -/
theorem pe_err1k (T : ErrC X.prog X.K x (some f) C fI) (S : X.mg "super" = none) (hr : Room k X.A) (hg : Gl X x) (hm : X.mg x = some (.ref C)) (he : PE X e te) (hdb : (x == ("__debug__" : Str)) = false := by decide)
    (hall : (backToKw pos (keywordEach [⟨some f, e, kp⟩] X.env)).all (·.1.isSome) = true := by rfl) (hks : (backToKw pos (keywordEach [⟨some f, e, kp⟩] X.env)).filterMap (·.1) = [f] := by rfl)
    (hpl : ((backTo pos (starEach [] X.env)).any (·.1) || (backToKw pos (keywordEach [⟨some f, e, kp⟩] X.env)).any (·.1.isNone)) = false := by rfl) :
    PE X (.Call (.Name x p) [] [⟨some f, e, kp⟩] pos) (tErr1 C f te) := by
  constructor
  intro pins s σ H Q I h
  refine wpAny_Call_Name_kw (ld_glob I hg hm (PySem.W.callWith_KW0 (h₀ := X.base) I.ok.mod.kin T.kC hall ?_ hpl) hdb)
  show wpAny _ _ (evalAll ((do let v ← eval e X.env; standAt pos; pure v) :: [])) _ _ s
  refine wpAny_evalAll_cons (wpAny_bind (thn (he.run pins s σ H _ I h) ?_))
  rintro u s1 ⟨v, H1, I1, r1, q1⟩
  refine wpAny_bind (wpAny_standAt (wpAny_pure (wpAny_evalAll_nil ⟨I1.kIn, ?_⟩)))
  rw [hks]
  exact make1 T S hr true I1 r1 q1
/-- e.n of a made error -/
def tErrF (K : PySem.W.Frag) (n : Str) (te : TE) : TE := fun σ H Q => te σ H fun y H1 => ∃ (a C d : Addr) (fs : List (Str × V)) (v : V), y = .ref a ∧ XfC K C ∧ PySem.W.findIn K (.ref C) n = some none ∧
  H1 a = some (exo a C (some d)) ∧ H1 d = some (exd d fs) ∧ fs.lookup n = some v ∧ Q v H1
theorem pe_errF {n : Str} (he : PE X e te) (hb : attributeBase e n X.env (eval e X.env) = eval e X.env := by rfl) : PE X (.Attribute e n pos) (tErrF X.K n te) := by
  constructor
  intro pins s σ H Q I h
  refine attr_of hb (thn (he.run pins s σ H _ I h) ?_)
  rintro u s1 ⟨y, H1, I1, rx, a, C, d, fs, v, rfl, T, hno, ea, ed, l, q⟩
  obtain rfl : u = Value.ref a := rx
  obtain ⟨t1, ho⟩ := exo_at I1.hok ea
  obtain ⟨mA, hns, hr⟩ := exd_at I1.hok ed
  obtain ⟨od, hod, hl⟩ := lookIn_ns hns
  obtain ⟨u, hu, ru⟩ := RelO.some_of (v := v) (o := mA n) (by rw [← l]; exact hr n)
  have J : PySem.W.InstAt s1.heap a _ C (some od) := ⟨ho, rfl, rfl, hod⟩
  exact HandSPX.exc_get I1.kIn J T.ga T.gg T.exC (PySem.W.findObj_own T.hdC hno rfl (by rw [hl, hu])) (handed_of ru) ⟨v, H1, I1.tok _, ru, q⟩
/-- isinstance(a made error, c) -/
def rIsErr (K : PySem.W.Frag) : List V → Hp → VK → Prop := fun xs H Q => ∃ (a C : Addr) (d : Option Addr) (c : V) (cv : Value) (b : Bool), xs = [.ref a, c] ∧ ExcC K C ∧ (PySem.W.clsIn K C).isSome = true ∧ H a = some (exo a C d) ∧
  (∀ dd, d = some dd → ∃ fs, H dd = some (exd dd fs)) ∧ (∀ u, RelV c u → u = cv) ∧ PySem.W.kitOne K (.ref C) cv = some b ∧ Q (.bl b) H
theorem call_isErr : CallR X (.builtin "isinstance") (rIsErr X.K) := by
  intro pins s σ H xs us Q I r h
  obtain ⟨a, C, d, c, cv, b, rfl, T, hcl, ea, ed, hcv, ek, q⟩ := h
  cases r with
  | cons rx rr =>
    cases rr with
    | cons rt rr =>
      cases rr
      cases rx
      obtain rfl := hcv _ rt
      obtain ⟨t1, ho⟩ := exo_at I.hok ea
      have J : ∃ od, PySem.W.InstAt s.heap a { cls := .ref C, dict := d, data := .fields #[.ref t1, .none, .none, .none, .bool false, .none] } C od := by
        cases d with
        | none => exact ⟨none, ho, rfl, rfl, trivial⟩
        | some dd =>
          obtain ⟨fs, e2⟩ := ed dd rfl
          obtain ⟨mA, hns, _⟩ := exd_at I.hok e2
          obtain ⟨od, hod, _⟩ := lookIn_ns hns
          exact ⟨some od, ho, rfl, rfl, hod⟩
      obtain ⟨od, J⟩ := J
      exact PySem.W.kia_one (PySem.W.kitx_exc hcl T.hg T.hk T.hs T.ha T.hn T.ht T.hm) I.kIn J ek (fun z => nomatch z) fun tk => ⟨.bl b, H, I.kept (t' := tk) fun _ _ z => z, rfl, q⟩
end
end Er

set_option maxRecDepth 100000
set_option maxHeartbeats 2000000
/-! Own errors (super().__init__('..')) raised. -/
namespace Er
open PySem PySem.Spec PyProof.Rows L2
section
variable {X : Cx} {x f : Str} {C fI : Addr} {k : Nat} {e : Expr} {te : TE} {p pos kp : Pos}
theorem pmk_err0 (T : ErrC X.prog X.K x none C fI) (S : X.mg "super" = none) (hr : Room k X.A) (rC : Raises X (.ref C)) (hm : X.mg x = some (.ref C)) (hg : Gl X x := by rfl) (hdb : (x == ("__debug__" : Str)) = false := by decide) :
    PMk X (.Call (.Name x p) [] [] pos) (fun σ H Q => Q (.ref C) none H) := by
  intro pins s σ H Q I h
  refine wpAny_Call_Name_kw (ld_glob I hg hm (PySem.W.callWith_K0 I.kIn T.kC ?_) hdb)
  show wpAny _ _ (call (.ref C) []) _ _ _
  obtain ⟨nm, q, N, bs, bm, sn, sub, ab, col, dd, k0, k1, k2, k3, k5, hC, hbm⟩ := T.cls
  obtain ⟨lim, G, mb, B, hmb⟩ := facts I
  obtain ⟨hp, g, dr, tk, os⟩ := s
  have X0 : X.K.In hp := I.kIn
  have kk : ∀ b o, hp.get? b = some o → ((hp.push (PySem.W.kdv_tup [])).push (PySem.HandSPX.excO C hp.objs.size)).get? b = some o := fun b o z => Heap.get?_push_of_some _ (Heap.get?_push_of_some _ z)
  have e1 : ((hp.push (PySem.W.kdv_tup [])).push (PySem.HandSPX.excO C hp.objs.size)).get? (hp.objs.size + 1) = some (PySem.HandSPX.excO C hp.objs.size) := by heap_get
  refine wpAny_call (callKw hbm (X0 _ _ hC) (PySem.W.looks_findIn X0 T.iC) (fun self => PySem.W.bind_fn X0 self T.tI) ?_)
  refine err_init0 (s := ⟨(hp.push (PySem.W.kdv_tup [])).push (PySem.HandSPX.excO C hp.objs.size), g, dr, tk, os⟩) T (X0.keeps kk) (lim.keeps kk) (G.keeps kk) S (B.keeps kk) hmb e1 ?_ ?_
  · have := hr.dp
    show X.A.depth + 1 < recursionLimit
    omega
  · intro h' t1 tk' k' e'
    have hn : H (hp.objs.size + 1) = none := I.hok.fresh (Nat.le_succ _)
    have hq : hp.get? (hp.objs.size + 1) = none := by
      cases z : hp.get? (hp.objs.size + 1) with
      | none => rfl
      | some o => exact absurd (Nat.lt_of_succ_lt (Heap.lt_size z)) (Nat.lt_irrefl _)
    exact ⟨rfl, hp.objs.size + 1, _, _, ⟨hp, g, dr, tk, os⟩, H, .ref C, none, rfl, I, fun b o z => k' b o (Nat.ne_of_lt (Nat.lt_succ_of_lt (Heap.lt_size z))) (kk b o z), hq, e', ⟨rfl, rfl⟩, rfl, rfl, hn, rfl, I.bare, rC, h⟩
theorem pmk_err1 (T : ErrC X.prog X.K x (some f) C fI) (S : X.mg "super" = none) (hr : Room k X.A) (rC : Raises X (.ref C)) (hm : X.mg x = some (.ref C)) (he : PE X e te) (hg : Gl X x := by rfl) (hdb : (x == ("__debug__" : Str)) = false := by decide)
    (hs : starEach [e] X.env = (false, eval e X.env) :: starEach [] X.env := by rfl) : PMk X (.Call (.Name x p) [e] [] pos) (fun σ H Q => te σ H fun v H1 => ∀ d, H1 d = none → Q (.ref C) (some d) (upd H1 d (.xd [(f, v)]))) := by
  intro pins s σ H Q I h
  refine wpAny_Call_Name_kw (ld_glob I hg hm (PySem.W.callWith_K (h₀ := X.base) I.ok.mod.kin T.kC ?_ hs (by rfl)) hdb)
  rw [hs]
  refine Calls.spliced_cons (thn (he.run pins s σ H _ I h) ?_)
  rintro u s1 ⟨v, H1, I1, ru, q1⟩
  refine Calls.spliced_nil ⟨I1.kIn, ?_⟩
  show wpAny _ _ (call (.ref C) [u]) _ _ _
  obtain ⟨nm, qn, N, bs, bm, sn, sub, ab, col, dd, k0, k1, k2, k3, k5, hC, hbm⟩ := T.cls
  obtain ⟨lim, G, mb, B, hmb⟩ := facts I1
  obtain ⟨hp, g, dr, tk, os⟩ := s1
  have X0 : X.K.In hp := I1.kIn
  have kk : ∀ b o, hp.get? b = some o → ((hp.push (PySem.W.kdv_tup [u])).push (PySem.HandSPX.excO C hp.objs.size)).get? b = some o := fun b o z => Heap.get?_push_of_some _ (Heap.get?_push_of_some _ z)
  have e1 : ((hp.push (PySem.W.kdv_tup [u])).push (PySem.HandSPX.excO C hp.objs.size)).get? (hp.objs.size + 1) = some (PySem.HandSPX.excO C hp.objs.size) := by heap_get
  have hne : X.K.lookup (hp.objs.size + 1) = none := by
    cases z : X.K.lookup (hp.objs.size + 1) with
    | none => rfl
    | some o => exact absurd (Nat.lt_of_succ_lt (Heap.lt_size (X0 _ _ z))) (Nat.lt_irrefl _)
  refine wpAny_call (PySem.HandSPX.call_own (rest := [u]) F.excBase_ValueError (fun Y => PySem.HandSPX.refsVE_contains Y bm hbm) (X0 _ _ hC) (PySem.W.looks_findIn X0 T.iC) (fun self => PySem.W.bind_fn X0 self T.tI) (one_size u) ?_)
  refine err_init1 (bn := false) (s := ⟨(hp.push (PySem.W.kdv_tup [u])).push (PySem.HandSPX.excO C hp.objs.size), g, dr, tk, os⟩) T (X0.keeps kk) (lim.keeps kk) (G.keeps kk) S (B.keeps kk) hmb e1 hne ?_ ?_
  · have := hr.dp
    show X.A.depth + 1 < recursionLimit
    omega
  · intro h' t1 tk' dx k' e' dn dne hns
    have dn' : hp.objs.size ≤ dx := by
      have z : hp.objs.size ≤ ((hp.push (PySem.W.kdv_tup [u])).push (PySem.HandSPX.excO C hp.objs.size)).objs.size := by
        rw [Heap.size_push, Heap.size_push]
        omega
      exact Nat.le_trans z dn
    have fa : H1 (hp.objs.size + 1) = none := I1.hok.fresh (Nat.le_succ _)
    have fd : H1 dx = none := I1.hok.fresh dn'
    have old : ∀ b o, hp.get? b = some o → h'.get? b = some o := fun b o z => k' b o (Nat.ne_of_lt (Nat.lt_succ_of_lt (Heap.lt_size z))) (kk b o z)
    have J := laid2 (t' := tk') I1 old (Nat.le_succ _) dn' (oa := exo (hp.objs.size + 1) C (some dx)) (ob := exd dx [(f, v)]) (exo_ok e') fun _ => exd_ok hns fun y => relO_put (fs := []) (mA := fun _ => none) ru (fun _ => True.intro) y
    have nh : ∀ {c u}, hp.get? c = some u → c ≠ hp.objs.size + 1 ∧ c ≠ dx := fun {c u} q => ⟨Nat.ne_of_lt (Nat.lt_succ_of_lt (Heap.lt_size q)), Nat.ne_of_lt (Nat.lt_of_lt_of_le (Heap.lt_size q) dn')⟩
    have ea : (upd (upd H1 dx (exd dx [(f, v)])) (hp.objs.size + 1) (exo (hp.objs.size + 1) C (some dx))) (hp.objs.size + 1) = some (exo (hp.objs.size + 1) C (some dx)) := upd_same
    have ed : (upd (upd H1 dx (exd dx [(f, v)])) (hp.objs.size + 1) (exo (hp.objs.size + 1) C (some dx))) dx = some (exd dx [(f, v)]) := by rw [upd_ne dne, upd_same]
    have un : Un (frs X.stack) [] (upd H1 (hp.objs.size + 1) (exo (hp.objs.size + 1) C none)) (upd (upd H1 dx (exd dx [(f, v)])) (hp.objs.size + 1) (exo (hp.objs.size + 1) C (some dx))) hp h' := by
      have go : ∀ {c : Addr} {o : HO}, (upd H1 (hp.objs.size + 1) (exo (hp.objs.size + 1) C none)) c = some o → o ≠ exo (hp.objs.size + 1) C none → (upd (upd H1 dx (exd dx [(f, v)])) (hp.objs.size + 1) (exo (hp.objs.size + 1) C (some dx))) c = some o := fun {c o} q ne => by
        have h1 : c ≠ hp.objs.size + 1 := fun z => by
          rw [z, upd_same] at q
          exact ne (Option.some.inj q).symm
        rw [upd_ne h1] at q
        rw [upd_ne h1, upd_ne (ne_of_none q fd)]
        exact q
      refine ⟨fun c o z _ _ _ => old c o z, fun c o z _ _ _ => ⟨o.slots, old c o z⟩, fun c o z n _ => ?_, fun c o z _ => ⟨o, old c o z⟩, fun c xs q => go q fun z => exo_tup z.symm, fun c o w q => go q fun z => exo_frz z.symm, fun c ps q => ⟨#[], by rw [go q fun z => exo_tbl z.symm]; simp⟩⟩
      rw [upd_ne (nh z).1] at n
      rw [upd_ne (nh z).1, upd_ne (nh z).2]
      exact n
    refine ⟨rfl, mk_end (d1 := dr) (t1 := tk) (os1 := os) (g1 := g) rC I1 (Nat.le_succ _) (fun _ _ z => z) un J.hok rfl I1.bare ea ed fd ?_⟩
    have eq1 : upd (del (upd (upd H1 dx (exd dx [(f, v)])) (hp.objs.size + 1) (exo (hp.objs.size + 1) C (some dx))) (hp.objs.size + 1)) dx (.xd [(f, v)]) = upd H1 dx (.xd [(f, v)]) := by
      funext b
      by_cases h1 : b = dx
      · subst h1
        rw [upd_same, upd_same]
      · rw [upd_ne h1, upd_ne h1]
        by_cases h2 : b = hp.objs.size + 1
        · subst h2
          rw [del_same, fa]
        · rw [del_ne h2, upd_ne h2, upd_ne h1]
    rw [eq1]
    exact q1 dx fd
end
end Er

set_option maxRecDepth 100000
set_option maxHeartbeats 4000000
namespace Cm
open PySem PySem.Spec PyProof.Rows L2
theorem same_upd {H : Hp} {p : Addr} {o : HO} (h : H p = none) : Same H (upd H p o) := fun b u e => by
  have : b ≠ p := fun z => by rw [z, h] at e; cases e
  rw [upd_ne this]; exact e
theorem seqT_same {K : PySem.W.Frag} {H H' : Hp} {a : Addr} {xs : List V} (e : Same H H') (h : SqT K H a xs) : SqT K H' a xs := by
  rcases h with (h | ⟨o, h⟩) | h
  · exact .inl (.inl (e _ _ h))
  · exact .inl (.inr ⟨o, e _ _ h⟩)
  · exact .inr h
mutual
theorem dp_same {K : PySem.W.Frag} {H H' : Hp} (s : Same H H') : ∀ (d : PyData) (v : V), Dp K H v d → Dp K H' v d
  | .none, _, h => by cases h; exact .non
  | .bool b, _, h => by cases h; exact .bl b
  | .int i, _, h => by cases h; exact .int i
  | .str x, _, h => by cases h; exact .str x
  | .list ds, _, h => by
    cases h with
    | lst h1 h2 => exact .lst (s.seq h1) (dpAll_same s ds _ h2)
  | .tuple ds, _, h => by
    cases h with
    | tup h1 h2 => exact .tup (seqT_same s h1) (dpAll_same s ds _ h2)
  | .dict kvs, _, h => by cases h
theorem dpAll_same {K : PySem.W.Frag} {H H' : Hp} (s : Same H H') : ∀ (ds : List PyData) (vs : List V), DpAll K H vs ds → DpAll K H' vs ds
  | [], _, h => by cases h; exact .nil
  | d :: ds, _, h => by
    cases h with
    | cons a b => exact .cons (dp_same s d _ a) (dpAll_same s ds _ b)
end
theorem dpAll_len {K : PySem.W.Frag} {H : Hp} : ∀ {vs : List V} {ds : List PyData}, DpAll K H vs ds → vs.length = ds.length
  | [], [], _ => rfl
  | _ :: _, _ :: _, h => by
    cases h with
    | cons _ b => exact congrArg (· + 1) (dpAll_len b)
theorem dpAll_get {K : PySem.W.Frag} {H : Hp} : ∀ {vs : List V} {ds : List PyData} {i : Nat} {d : PyData}, DpAll K H vs ds → ds[i]? = some d → ∃ v, vs[i]? = some v ∧ Dp K H v d
  | [], [], i, d, _, h => by simp at h
  | v :: vs, e :: ds, i, d, h, g => by
    cases h with
    | cons a b =>
      cases i with
      | zero => simp at g; subst g; exact ⟨v, rfl, a⟩
      | succ i =>
        simp at g
        obtain ⟨u, h1, h2⟩ := dpAll_get b g
        exact ⟨u, by simpa using h1, h2⟩
theorem dpAll_get' {K : PySem.W.Frag} {H : Hp} {vs : List V} {ds : List PyData} {i : Nat} {v : V} (h : DpAll K H vs ds) (g : vs[i]? = some v) : ∃ d, ds[i]? = some d ∧ Dp K H v d := by
  have hi : i < ds.length := by
    rw [← dpAll_len h]
    exact (List.getElem?_eq_some_iff.mp g).1
  obtain ⟨u, h1, h2⟩ := dpAll_get h (List.getElem?_eq_getElem hi)
  rw [g] at h1
  cases h1
  exact ⟨_, List.getElem?_eq_getElem hi, h2⟩
theorem dpAll_app {K : PySem.W.Frag} {H : Hp} : ∀ {vs us : List V} {ds es : List PyData}, DpAll K H vs ds → DpAll K H us es → DpAll K H (vs ++ us) (ds ++ es)
  | [], us, [], es, _, h => h
  | v :: vs, us, d :: ds, es, h, g => by
    cases h with
    | cons a b => exact .cons a (dpAll_app b g)
end Cm

set_option maxRecDepth 100000
set_option maxHeartbeats 4000000
namespace Sg
open PySem PySem.Spec PyProof.Rows L2 Dr Gd Er
/-! ### the mirror: values as data -/
def tyD : PyData → String
  | .none => "NoneType" | .bool _ => "bool" | .int _ => "int" | .str _ => "str" | .list _ => "list" | .tuple _ => "tuple" | .dict _ => "dict"
theorem ty_dp {K : PySem.W.Frag} {H : Hp} {v : V} {d : PyData} (h : Dp K H v d) : TyX K H v (.type (tyD d)) := by
  cases h with
  | non => exact .base .non
  | bl b => exact .base (.bl b)
  | int i => exact .base (.int i)
  | str x => exact .base (.str x)
  | lst h _ =>
    rcases h with (h | ⟨o, h⟩) | ⟨o, its, n, e, c, _⟩
    · exact .base (.lst h)
    · exact .base (.frz h)
    · exact .kList e c
  | tup h _ =>
    rcases h with (h | ⟨o, h⟩) | ⟨o, its, n, e, c, _⟩
    · exact .base (.tup h)
    · exact .fTuple h
    · exact .kTuple e c
def isWhole : PyData → Bool
  | .int _ => true
  | _ => false
def wordIn (L z : Str) : Bool := decide (1 ≤ z.length) && (decide (z.length ≤ 8) && z.cps.toList.all fun c => decide (c ∈ L.cps.toList))
def isWord (L : Str) : PyData → Bool
  | .str z => wordIn L z
  | _ => false
def isTup (n : Int) : PyData → Bool
  | .tuple ds => decide ((ds.length : Int) = n)
  | _ => false
abbrev sWhole : Stmt := top 9
abbrev sWord : Stmt := top 10
abbrev sTupOf : Stmt := top 11
structure KTxt (mg : Str → Option Value) : Prop where
  isi : mg "isinstance" = none
  int : mg "int" = none
  bool : mg "bool" = none
  str : mg "str" = none
  tup : mg "tuple" = none
  len : mg "len" = none
  all : mg "all" = none
  ml : ∃ t, mg "MOST_LETTERS" = some (.int 8 t)
def spWhole (K : PySem.W.Frag) : Sp := fun vs H Q _ => ∃ v d, vs = [v] ∧ Dp K H v d ∧ Q (.bl (isWhole d)) H
def spTupOf (K : PySem.W.Frag) : Sp := fun vs H Q _ => ∃ v d n, vs = [v, .int n] ∧ Dp K H v d ∧ Q (.bl (isTup n d)) H
def spWord (K : PySem.W.Frag) : Sp := fun vs H Q _ => ∃ v d L, vs = [v, .str L] ∧ Dp K H v d ∧ (∀ z, d = .str z → z.length ≤ sizeLine) ∧ ∀ H', Same H H' → Q (.bl (isWord L d)) H'
def kB (a b : String) : Option Bool := kitB a b
theorem k_int (d : PyData) : kitB (tyD d) "int" = some (isWhole d || (match d with | .bool _ => true | _ => false)) := by
  cases d
  · exact (by decide +kernel : kitB "NoneType" "int" = some false)
  · exact (by decide +kernel : kitB "bool" "int" = some true)
  · exact (by decide +kernel : kitB "int" "int" = some true)
  · exact (by decide +kernel : kitB "str" "int" = some false)
  · exact (by decide +kernel : kitB "list" "int" = some false)
  · exact (by decide +kernel : kitB "tuple" "int" = some false)
  · exact (by decide +kernel : kitB "dict" "int" = some false)
theorem k_bool (d : PyData) : kitB (tyD d) "bool" = some (match d with | .bool _ => true | _ => false) := by
  cases d
  · exact (by decide +kernel : kitB "NoneType" "bool" = some false)
  · exact (by decide +kernel : kitB "bool" "bool" = some true)
  · exact (by decide +kernel : kitB "int" "bool" = some false)
  · exact (by decide +kernel : kitB "str" "bool" = some false)
  · exact (by decide +kernel : kitB "list" "bool" = some false)
  · exact (by decide +kernel : kitB "tuple" "bool" = some false)
  · exact (by decide +kernel : kitB "dict" "bool" = some false)
theorem k_str (d : PyData) : kitB (tyD d) "str" = some (match d with | .str _ => true | _ => false) := by
  cases d
  · exact (by decide +kernel : kitB "NoneType" "str" = some false)
  · exact (by decide +kernel : kitB "bool" "str" = some false)
  · exact (by decide +kernel : kitB "int" "str" = some false)
  · exact (by decide +kernel : kitB "str" "str" = some true)
  · exact (by decide +kernel : kitB "list" "str" = some false)
  · exact (by decide +kernel : kitB "tuple" "str" = some false)
  · exact (by decide +kernel : kitB "dict" "str" = some false)
theorem k_tup (d : PyData) : kitB (tyD d) "tuple" = some (match d with | .tuple _ => true | _ => false) := by
  cases d
  · exact (by decide +kernel : kitB "NoneType" "tuple" = some false)
  · exact (by decide +kernel : kitB "bool" "tuple" = some false)
  · exact (by decide +kernel : kitB "int" "tuple" = some false)
  · exact (by decide +kernel : kitB "str" "tuple" = some false)
  · exact (by decide +kernel : kitB "list" "tuple" = some false)
  · exact (by decide +kernel : kitB "tuple" "tuple" = some true)
  · exact (by decide +kernel : kitB "dict" "tuple" = some false)
theorem k_list (d : PyData) : kitB (tyD d) "list" = some (match d with | .list _ => true | _ => false) := by
  cases d
  · exact (by decide +kernel : kitB "NoneType" "list" = some false)
  · exact (by decide +kernel : kitB "bool" "list" = some false)
  · exact (by decide +kernel : kitB "int" "list" = some false)
  · exact (by decide +kernel : kitB "str" "list" = some false)
  · exact (by decide +kernel : kitB "list" "list" = some true)
  · exact (by decide +kernel : kitB "tuple" "list" = some false)
  · exact (by decide +kernel : kitB "dict" "list" = some false)
section
variable {P : Program} {w : World} {K : PySem.W.Frag} {mg : Str → Option Value} {base : Heap}
theorem scWh : FnScope ["value"] ["value"] (defScope sWhole) := ⟨rfl, rfl, rfl, by decide +kernel, rfl, by decide +kernel, by decide +kernel⟩
theorem ok_whole {f : Addr} {fd : FuncData} (F : Fun K "is_whole" "is_whole" sWhole f fd) (T : KTxt mg) : FnOk P w K mg base CX0 1 f fd ["value"] (spWhole K) := by
  refine F.ok scWh (fun vs H Q E h => ?_) (fun cdv A outer s H vs Q E hr h => ?_)
  · obtain ⟨v, d, rfl, _⟩ := h
    rfl
  · obtain ⟨v, d, rfl, hd, q⟩ := h
    refine ⟨_, pss_one (ps_ret (pe_and (pe_callB call_isi (by rfl) T.isi (by decide +kernel) (pa_cons (pv 0) (pa_cons (pe_bltn (v := .ty "int") (by rfl) T.int (by decide +kernel) rfl) pa_nil)))
      (pe_one (pe_not (pe_callB call_isi (by rfl) T.isi (by decide +kernel) (pa_cons (pv 0) (pa_cons (pe_bltn (v := .ty "bool") (by rfl) T.bool (by decide +kernel) rfl) pa_nil))))))), ?_⟩
    refine ⟨_, rfl, v, .ty "int", .type (tyD d), .type "int", _, rfl, .ty _, ty_dp hd, kit_ty (k_int d), _, rfl, ?_⟩
    refine ite2 (fun c => ?_) (fun c => ?_)
    · refine ⟨_, rfl, v, .ty "bool", .type (tyD d), .type "bool", _, rfl, .ty _, ty_dp hd, kit_ty (k_bool d), _, rfl, ?_⟩
      cases d <;> first | exact q | (simp [isWhole] at c)
    · cases d <;> first | exact q | (simp [isWhole] at c)
end
end Sg

set_option maxRecDepth 100000
set_option maxHeartbeats 4000000
namespace Sg
open PySem PySem.Spec PyProof.Rows L2 Dr Gd Er Cm
theorem lcYes {σ : L2.St} {H : Hp} {A B : Hp → Prop} (h : A H) : tYes σ H (fun b H3 => if b = true then A H3 else B H3) := by
  show (if true = true then A H else B H)
  rw [if_pos rfl]
  exact h
section
variable {P : Program} {w : World} {K : PySem.W.Frag} {mg : Str → Option Value} {base : Heap}
theorem scTo : FnScope ["value", "many"] ["value", "many"] (defScope sTupOf) := ⟨rfl, rfl, rfl, by decide +kernel, rfl, by decide +kernel, by decide +kernel⟩
theorem ok_tupOf {f : Addr} {fd : FuncData} (F : Fun K "is_tuple_of" "is_tuple_of" sTupOf f fd) (T : KTxt mg) : FnOk P w K mg base CX0 1 f fd ["value", "many"] (spTupOf K) := by
  refine F.ok scTo (fun vs H Q E h => ?_) (fun cdv A outer s H vs Q E hr h => ?_)
  · obtain ⟨v, d, n, rfl, _⟩ := h
    rfl
  · obtain ⟨v, d, n, rfl, hd, q⟩ := h
    refine ⟨_, pss_one (ps_ret (pe_and (pe_callB call_isi (by rfl) T.isi (by decide +kernel) (pa_cons (pv 0) (pa_cons (pe_bltn (v := .ty "tuple") (by rfl) T.tup (by decide +kernel) rfl) pa_nil)))
      (pe_one (pe_cmpR op_eq (pe_callB call_len_seq (by rfl) T.len PySem.boot_len (pa_cons (pv 0) pa_nil)) (pv 1) (nomark _))))), ?_⟩
    refine ⟨_, rfl, v, .ty "tuple", .type (tyD d), .type "tuple", _, rfl, .ty _, ty_dp hd, kit_ty (k_tup d), _, rfl, ?_⟩
    refine ite2 (fun c => ?_) (fun c => ?_)
    · cases d with
      | tuple ds =>
        cases hd with
        | tup h1 h2 =>
          rename_i a xs
          refine ⟨_, rfl, a, _, rfl, .inr h1, _, rfl, rfl, ?_⟩
          rw [dpAll_len h2]
          have e : decide (V.int (ds.length : Int) = V.int n) = isTup n (.tuple ds) := by
            unfold isTup
            congr 1
            exact propext ⟨fun h => by cases h; rfl, fun h => by rw [h]⟩
          rw [e]
          exact q
      | _ => exact absurd c (by simp)
    · cases d <;> first | exact q | (simp at c)
theorem scWo : FnScope ["value", "letters", "letter"] ["value", "letters"] (defScope sWord) := ⟨rfl, rfl, rfl, by decide +kernel, rfl, by decide +kernel, by decide +kernel⟩
theorem ok_word {f : Addr} {fd : FuncData} (F : Fun K "is_word" "is_word" sWord f fd) (T : KTxt mg) : FnOk P w K mg base CX0 1 f fd ["value", "letters"] (spWord K) := by
  obtain ⟨t8, ml⟩ := T.ml
  refine F.ok scWo (fun vs H Q E h => ?_) (fun cdv A outer s H vs Q E hr h => ?_)
  · obtain ⟨v, d, L, rfl, _⟩ := h
    rfl
  · obtain ⟨v, d, L, rfl, hd, hz, q⟩ := h
    refine ⟨_, pss_cons (ps_if (PW.pt (pw_or (pt_not (pt_val (pe_callB call_isi (by rfl) T.isi (by decide +kernel) (pa_cons (pv 0) (pa_cons (pe_bltn (v := .ty "str") (by rfl) T.str (by decide +kernel) rfl) pa_nil)))))
        (pw_or1 (pt_not (pt_chain op_le op_le pe_int (pe_callB call_len_str (by rfl) T.len PySem.boot_len (pa_cons (pv 0) pa_nil)) (pe_glob (v := .int 8) rfl ml ⟨_, rfl⟩)))))) (pss_one (ps_ret pe_bl)) pss_nil)
      (pss_one (ps_ret (pe_callB (cr_all rfl) (by rfl) T.all (by decide +kernel) (pa_cons
        (pe_lc (own := [("letter", 2)]) (g := gName 2) (tt := tYes) rfl scWo.nd (pi_str (pv 0)) (blkOk_by (N := ["value", "letters", "letter"]) (sc := defScope sWord) (by decide +kernel)) (fun _ _ _ _ _ => pg_name (i := 2) scWo.nd rfl (Or.inl rfl)) (fun _ _ _ _ _ => pts_nil) (fun _ _ _ _ _ => pe_cmpR op_in_sign (pv 2) (pv 1) (by rfl))) pa_nil)))), ?_⟩
    refine ⟨_, rfl, v, .ty "str", .type (tyD d), .type "str", _, rfl, .ty _, ty_dp hd, kit_ty (k_str d), _, rfl, ?_⟩
    cases d with
    | str z =>
      cases hd
      refine iteF ?_
      refine ⟨_, rfl, _, rfl, hz z rfl, _, _, rfl, rfl, _, rfl, ?_⟩
      have done : ∀ b : Bool, b = wordIn L z → ∀ H', Same H H' → Q (.bl b) H' := fun b e H' s => by
        rw [e]
        exact q H' s
      have zl : (z.length : Nat) = z.cps.size := rfl
      refine ite2 (fun c1 => ?_) (fun c1 => ?_)
      · refine ⟨_, _, rfl, rfl, _, rfl, ?_⟩
        have c1 := of_decide_eq_true c1
        refine ite2 (fun c2 => ?_) (fun c2 => ?_)
        · exact done _ (by simp [wordIn] at *; omega) H (Same.refl H)
        · have c2 : (z.length : Int) ≤ 8 := by simpa using c2
          refine ⟨_, rfl, z, rfl, fun D hD => ?_⟩
          refine lc_it walk_str (fun i H1 => ∃ bs : List Bool, bs = (z.cps.toList.take i).map (fun c => decide (c ∈ L.cps.toList)) ∧ H1 = upd H D (.lst (bs.map V.bl))) ⟨[], by simp, rfl⟩ (fun _ _ _ _ => trivial) (fun i x H1 H2 hi hp hy => ?_) (fun H1 hp => ?_)
          · obtain ⟨bs, rfl, rfl⟩ := hp
            obtain ⟨rfl, c, hc, rfl⟩ := hy
            refine ⟨rfl, lcYes ?_⟩
            refine ⟨_, rfl, _, rfl, c, L, rfl, rfl, _, upd_same, ?_, (z.cps.toList.take (i + 1)).map (fun c => decide (c ∈ L.cps.toList)), ?_, ?_⟩
            · rw [List.length_map, List.length_map, List.length_take]
              have : i < 8 := by omega
              exact Nat.lt_of_le_of_lt (Nat.min_le_left _ _) (Nat.lt_trans this (by decide))
            · exact rfl
            · rw [upd2]
              have e : z.cps.toList[i]? = some c := by rw [Array.getElem?_toList]; exact hc
              have hi' : i < z.cps.toList.length := by simpa using hi
              rw [List.take_succ, e]
              simp
          · obtain ⟨bs, e, rfl⟩ := hp
            refine ⟨D, bs, rfl, SqL.of upd_same, ?_⟩
            refine done _ ?_ _ (same_upd hD)
            rw [e, List.take_of_length_le (by simp)]
            unfold wordIn
            rw [decide_eq_true (show 1 ≤ z.length by omega), decide_eq_true (show z.length ≤ 8 by omega), Bool.true_and, Bool.true_and, List.all_map]
            rfl
      · exact ⟨_, rfl, iteT (done _ (by simp [wordIn] at *; omega) H (Same.refl H))⟩
    | _ => exact iteT (q H (Same.refl H))
end
end Sg

set_option maxRecDepth 100000
set_option maxHeartbeats 4000000
namespace Sg
open PySem PySem.Spec PyProof.Rows L2 Dr Gd Er Cm
abbrev sIsSign : Stmt := top 16
def Lc : Str := "abcdefghijklmnopqrstuvwxyz"
def isAr : PyData → Bool
  | .int n => decide (0 ≤ n) && decide (n ≤ 3)
  | _ => false
def isSign : PyData → Bool
  | .tuple ds => (match ds with
    | [x, y] => isWord Lc x && isAr y
    | _ => false)
  | _ => false
/-- texts that stand first in pairs are no longer than a line -/
def Short : PyData → Prop
  | .tuple [.str z, _] => z.length ≤ sizeLine
  | _ => True
structure Kn (K : PySem.W.Frag) (mg : Str → Option Value) (f1 f2 f3 : Addr) (d1 d2 d3 : FuncData) : Prop where
  t : KTxt mg
  F1 : Fun K "is_whole" "is_whole" sWhole f1 d1
  F2 : Fun K "is_word" "is_word" sWord f2 d2
  F3 : Fun K "is_tuple_of" "is_tuple_of" sTupOf f3 d3
  g1 : mg "is_whole" = some (.ref f1)
  g2 : mg "is_word" = some (.ref f2)
  g3 : mg "is_tuple_of" = some (.ref f3)
  sm : ∃ t, mg "SMALL" = some (.str Lc t)
  ma : ∃ t, mg "MOST_ARGUMENTS" = some (.int 3 t)
section
variable {P : Program} {w : World} {K : PySem.W.Frag} {mg : Str → Option Value} {base : Heap} {f1 f2 f3 : Addr} {d1 d2 d3 : FuncData}
theorem Kn.b1 (k : Kn K mg f1 f2 f3 d1 d2 d3) : Binds K d1 ["value"] [] := k.F1.binds fun _ _ _ _ _ _ us hl => match us, hl with | [_], _ => rfl
theorem Kn.b2 (k : Kn K mg f1 f2 f3 d1 d2 d3) : Binds K d2 ["value", "letters"] [] := k.F2.binds fun _ _ _ _ _ _ us hl => match us, hl with | [_, _], _ => rfl
theorem Kn.b3 (k : Kn K mg f1 f2 f3 d1 d2 d3) : Binds K d3 ["value", "many"] [] := k.F3.binds fun _ _ _ _ _ _ us hl => match us, hl with | [_, _], _ => rfl
theorem scIs : FnScope ["value"] ["value"] (defScope sIsSign) := ⟨rfl, rfl, rfl, by decide +kernel, rfl, by decide +kernel, by decide +kernel⟩
def spIsSign (K : PySem.W.Frag) : Sp := fun vs H Q _ => ∃ v d, vs = [v] ∧ Dp K H v d ∧ Short d ∧ ∀ H', Same H H' → Q (.bl (isSign d)) H'
theorem ok_isSign {f : Addr} {fd : FuncData} (F : Fun K "_is_sign" "_is_sign" sIsSign f fd) (T : Kn K mg f1 f2 f3 d1 d2 d3) : FnOk P w K mg base CX0 2 f fd ["value"] (spIsSign K) := by
  obtain ⟨tS, mS⟩ := T.sm
  obtain ⟨tA, mA⟩ := T.ma
  refine F.ok scIs (fun vs H Q E h => ?_) (fun cdv A outer s H vs Q E hr h => ?_)
  · obtain ⟨v, d, rfl, _⟩ := h
    rfl
  · obtain ⟨v, d, rfl, hd, hs, q⟩ := h
    refine ⟨_, pss_cons (ps_if (PW.pt (pw_or (pt_not (pt_val (pe_call (ok_tupOf T.F3 T.t) hr rfl T.g3 T.F3.kp T.b3 .nil pass0 (pa_cons (pv 0) (pa_cons pe_int pa_nil)))))
        (pw_or1 (pt_not (pt_val (pe_call (ok_word T.F2 T.t) hr rfl T.g2 T.F2.kp T.b2 .nil pass0 (pa_cons (pe_ix ix_tup (pv 0) pe_int fun _ _ => rfl) (pa_cons (pe_glob (v := .str Lc) rfl mS ⟨_, rfl⟩) pa_nil)))))))) (pss_one (ps_ret pe_bl)) pss_nil)
      (pss_one (ps_ret (pe_and (pe_call (ok_whole T.F1 T.t) hr rfl T.g1 T.F1.kp T.b1 .nil pass0 (pa_cons (pe_ix ix_tup (pv 0) pe_int fun _ _ => rfl) pa_nil))
        (pe_one (pe_chain op_le op_le pe_int (pe_ix ix_tup (pv 0) pe_int fun _ _ => rfl) (pe_glob (v := .int 3) rfl mA ⟨_, rfl⟩)))))), ?_⟩
    refine ⟨_, rfl, v, d, 2, rfl, hd, _, rfl, ?_⟩
    have no : isTup 2 d = false → isSign d = false := fun e => by
      cases d with
      | tuple ds =>
        match ds with
        | [] => rfl
        | [_] => rfl
        | [x, y] => simp [isTup] at e
        | _ :: _ :: _ :: _ => rfl
      | _ => rfl
    refine ite2 (fun c => ?_) (fun c => ?_)
    · have c : isTup 2 d = false := by simpa using c
      have z := q H (Same.refl H)
      rw [no c] at z
      exact z
    · cases d with
      | tuple ds =>
        match ds, hd, c with
        | [x, y], hd, _ =>
          cases hd with
          | tup h1 h2 =>
            rename_i a xs
            cases h2 with
            | cons hx h2 =>
              cases h2 with
              | cons hy h2 =>
                cases h2
                rename_i vx vy
                refine ⟨_, rfl, a, _, 0, vx, rfl, rfl, h1, rfl, ?_⟩
                refine ⟨vx, x, Lc, rfl, hx, (fun z e => by subst e; exact hs), fun H1 s1 => ⟨_, rfl, ?_⟩⟩
                refine ite2 (fun c2 => ?_) (fun c2 => ?_)
                · have c2 : isWord Lc x = false := by simpa using c2
                  have z := q H1 s1
                  have e : isSign (.tuple [x, y]) = false := by
                    show (isWord Lc x && isAr y) = false; rw [c2]; rfl
                  rw [e] at z
                  exact z
                · have c2 : isWord Lc x = true := by simpa using c2
                  have e : isSign (.tuple [x, y]) = isAr y := by
                    show (isWord Lc x && isAr y) = _; rw [c2]; rfl
                  have q := fun H' (s : Same H H') => q H' s
                  rw [e] at q
                  refine ⟨_, rfl, a, _, 1, vy, rfl, rfl, seqT_same s1 h1, rfl, ?_⟩
                  refine ⟨vy, y, rfl, dp_same s1 _ _ hy, _, rfl, ?_⟩
                  refine ite2 (fun c3 => ?_) (fun c3 => ?_)
                  · cases y with
                    | int n =>
                      cases hy
                      refine ⟨_, rfl, a, _, 1, _, rfl, rfl, seqT_same s1 h1, rfl, ?_⟩
                      refine ⟨_, _, rfl, rfl, _, rfl, ?_⟩
                      refine ite2 (fun c4 => ?_) (fun c4 => ?_)
                      · refine ⟨_, _, rfl, rfl, ?_⟩
                        have z := q H1 s1
                        rw [show isAr (.int n) = decide (n ≤ 3) from by show (decide (0 ≤ n) && decide (n ≤ 3)) = _; rw [show decide (0 ≤ n) = true from c4]; rfl] at z
                        exact z
                      · have z := q H1 s1
                        rw [show isAr (.int n) = false from by show (decide (0 ≤ n) && decide (n ≤ 3)) = _; rw [show decide (0 ≤ n) = false from by simpa using c4]; rfl] at z
                        exact z
                    | _ => cases c3
                  · have z := q H1 s1
                    rw [show isAr y = false from by cases y <;> first | rfl | exact absurd rfl c3] at z
                    exact z
      | _ => exact absurd rfl c
end
end Sg

set_option maxRecDepth 100000
set_option maxHeartbeats 4000000
/-! in, ==, != by an own __contains__, __eq__, with both answers; C(..) where what is raised is wished for at the caller's slots. -/
namespace Ow
open PySem PySem.Spec PyProof.Rows L2
section
variable {X : Cx} {CX : CXT} {n : Nat} {C f : Addr} {fd : FuncData} {ps : List Str} {sp : Sp} {E : XK}
theorem own_call (F : FnOk X.prog X.w X.K X.mg X.base CX n f fd ps sp) (hb : Binds X.K fd ps []) (hx : Passes CX X E) {A : Around} (sb : Sub X n A) {pins : List (Addr × Obj)} {s : Shared} {σ : L2.St} {H : Hp} {a : Addr} {y : V} {u : Value} {G : Bool → Hp → Prop}
    (I : Inv X pins σ H s) (ry : RelV y u) (h : sp [.ref a, y] H (fun v H' => ∃ b, v = .bl b ∧ G b H') E) :
    wpAny (model X.prog X.w) A (call (.ref f) [.ref a, u]) (fun r s' => ∃ b H', r = .bool b ∧ Inv X pins σ H' s' ∧ G b H') X.xe s := by
  have e0 : Env0 X.prog X.w X.K X.mg X.base A X.stack s H := by
    have e := I.env0
    exact ⟨by rw [sb.fr]; exact e.frames, e.mod, e.bs, e.bsz, e.funs, e.frf, e.hok, e.bare⟩
  have hl := F.len _ _ _ _ h
  have r2 : Vals [V.ref a, y] [Value.ref a, u] := .cons rfl (.cons ry .nil)
  refine wpAny_call (codeAny_mono (F.run A X.stack s H ⟨[.ref a, u], []⟩ [.ref a, u] [.ref a, y] _ E sb.room e0 (by
    have := hb s [.ref a, u] I.kIn (by simpa using hl)
    simpa using this) r2 h) fun r s' hq => ?_)
  cases r with
  | error e => exact hx pins σ H s e s' I hq
  | ok fl =>
    cases fl with
    | ret w =>
      obtain ⟨z, H', I', rz, b, ez, q⟩ := I.after hq
      subst ez
      cases rz
      exact ⟨b, H', rfl, I', q⟩
    | next => exact False.elim hq
    | brk => exact False.elim hq
    | cont => exact False.elim hq
/-- x in o, o of a class with an own __contains__ -/
def rInOwn (C : Addr) (sp : Sp) (E : XK) : R2 := fun x y H Q => ∃ a dx fs, y = .ref a ∧ H a = some (.ins C dx fs) ∧ sp [.ref a, x] H (fun v H' => ∃ b, v = .bl b ∧ Q (.bl b) H') E
def rNotInOwn (C : Addr) (sp : Sp) (E : XK) : R2 := fun x y H Q => ∃ a dx fs, y = .ref a ∧ H a = some (.ins C dx fs) ∧ sp [.ref a, x] H (fun v H' => ∃ b, v = .bl b ∧ Q (.bl (!b)) H') E
theorem op_inOwn (F : FnOk X.prog X.w X.K X.mg X.base CX n f fd ps sp) (hr : Room n X.A) (hs : PySem.W.findIn X.K (.ref C) "__contains__" = some (some (.ref f))) (hf : PySem.W.isFn X.K (.ref f) = true) (hb : Binds X.K fd ps []) (hx : Passes CX X E) :
    OpR X (compareOp .In) (rInOwn C sp E) := by
  intro pins s σ H x y v u Q I rx ry h
  obtain ⟨a, dx, fs, rfl, ha, h⟩ := h
  cases ry
  obtain ⟨mA, J, _⟩ := ins_get I.hok ha
  obtain ⟨od, J, _⟩ := J.look
  obtain ⟨m, hF⟩ := I.fr
  refine PySem.W.in_K hF I.ok.mod.kin J hs hf (wpAny_mono (own_call F hb hx ⟨hr, rfl⟩ I rx h) (fun r s' q => ?_) fun _ _ z => z)
  obtain ⟨b, H', rfl, I', q⟩ := q
  exact wpAny_truthy_bool ⟨.bl b, H', I', rfl, q⟩
theorem op_notInOwn (F : FnOk X.prog X.w X.K X.mg X.base CX n f fd ps sp) (hr : Room n X.A) (hs : PySem.W.findIn X.K (.ref C) "__contains__" = some (some (.ref f))) (hf : PySem.W.isFn X.K (.ref f) = true) (hb : Binds X.K fd ps []) (hx : Passes CX X E) :
    OpR X (compareOp .NotIn) (rNotInOwn C sp E) := by
  intro pins s σ H x y v u Q I rx ry h
  obtain ⟨a, dx, fs, rfl, ha, h⟩ := h
  cases ry
  obtain ⟨mA, J, _⟩ := ins_get I.hok ha
  obtain ⟨od, J, _⟩ := J.look
  obtain ⟨m, hF⟩ := I.fr
  refine PySem.W.notIn_K hF I.ok.mod.kin J hs hf (wpAny_mono (own_call F hb hx ⟨hr, rfl⟩ I rx h) (fun r s' q => ?_) fun _ _ z => z)
  obtain ⟨b, H', rfl, I', q⟩ := q
  exact wpAny_truthy_bool ⟨.bl (!b), H', I', rfl, q⟩
/-- the type of the right one, seen by the model -/
def TyR (K : PySem.W.Frag) (H : Hp) (y : V) (tb : Value) : Prop := TyX K H y tb ∨ ∃ a C dx fs, y = .ref a ∧ H a = some (.ins C dx fs) ∧ tb = .ref C
theorem TyR.looks {pins : List (Addr × Obj)} {σ : L2.St} {H : Hp} {s : Shared} {y : V} {u tb : Value} (t : TyR X.K H y tb) (I : Inv X pins σ H s) (ry : RelV y u) : PySem.W.Looks (model X.prog X.w) s.heap (typeOf u) tb := by
  rcases t with t | ⟨a, C, dx, fs, rfl, ha, rfl⟩
  · obtain ⟨Pq, Z, p, _⟩ := kit_of I ry t
    exact Z.ty _ _ I.kIn p
  · cases ry
    obtain ⟨mA, J, _⟩ := ins_get I.hok ha
    obtain ⟨od, J, _⟩ := J.look
    exact J.type
def rEqOwn (K : PySem.W.Frag) (C : Addr) (sp : Sp) (E : XK) : R2 := fun x y H Q => ∃ a dx fs tb, x = .ref a ∧ H a = some (.ins C dx fs) ∧ TyR K H y tb ∧ PySem.W.notFirst K C tb = true ∧ sp [.ref a, y] H (fun v H' => ∃ b, v = .bl b ∧ Q (.bl b) H') E
def rNeOwn (K : PySem.W.Frag) (C : Addr) (sp : Sp) (E : XK) : R2 := fun x y H Q => ∃ a dx fs tb, x = .ref a ∧ H a = some (.ins C dx fs) ∧ TyR K H y tb ∧ PySem.W.notFirst K C tb = true ∧ sp [.ref a, y] H (fun v H' => ∃ b, v = .bl b ∧ Q (.bl (!b)) H') E
theorem op_eqOwn (F : FnOk X.prog X.w X.K X.mg X.base CX n f fd ps sp) (hr : Room n X.A) (hs : PySem.W.findIn X.K (.ref C) "__eq__" = some (some (.ref f))) (hf : PySem.W.isFn X.K (.ref f) = true) (hb : Binds X.K fd ps []) (hx : Passes CX X E) :
    OpR X (compareOp .Eq) (rEqOwn X.K C sp E) := by
  intro pins s σ H x y v u Q I rx ry h
  obtain ⟨a, dx, fs, tb, rfl, ha, ty, nf, h⟩ := h
  cases rx
  obtain ⟨mA, J, _⟩ := ins_get I.hok ha
  obtain ⟨od, J, _⟩ := J.look
  obtain ⟨m, hF⟩ := I.fr
  show wpAny (model X.prog X.w) X.A (richCompare .Eq (.ref a) u) (EP X pins σ Q) X.xe s
  refine PySem.W.cmp_K (op := .Eq) hr.units0 hF I.ok.mod.kin J (ty.looks I ry) nf hs hf (wpAny_mono (own_call F hb hx ⟨hr, rfl⟩ I ry h) (fun r s' q => ?_) fun _ _ z => z)
  obtain ⟨b, H', rfl, I', q⟩ := q
  exact ⟨.bl b, H', I', rfl, q⟩
theorem op_neOwn (F : FnOk X.prog X.w X.K X.mg X.base CX n f fd ps sp) (hr : Room (n + 1) X.A) (hs : PySem.W.findIn X.K (.ref C) "__eq__" = some (some (.ref f))) (hf : PySem.W.isFn X.K (.ref f) = true) (hb : Binds X.K fd ps []) (hx : Passes CX X E)
    (hne : PySem.W.findIn X.K (.ref C) "__ne__" = some (some (.builtin "object.__ne__"))) (hm : PySem.W.mroIn X.K C (.type "object") = some true) : OpR X (compareOp .NotEq) (rNeOwn X.K C sp E) := by
  intro pins s σ H x y v u Q I rx ry h
  obtain ⟨a, dx, fs, tb, rfl, ha, ty, nf, h⟩ := h
  cases rx
  obtain ⟨mA, J, _⟩ := ins_get I.hok ha
  obtain ⟨od, J, _⟩ := J.look
  obtain ⟨m, hF⟩ := I.fr
  have hk := I.kIn
  have LT := ty.looks I ry
  have LJ := J.type (M := model X.prog X.w)
  show wpAny (model X.prog X.w) X.A (richCompare .NotEq (.ref a) u) (EP X pins σ Q) X.xe s
  have eq1 : wpAny (model X.prog X.w) X.A.in1 (callSpecialIfBound? (.ref a) "__eq__" [u]) (fun r s' => ∃ b H', r = some (.bool b) ∧ Inv X pins σ H' s' ∧ Q (.bl (!b)) H') X.xe s := by
    refine PySem.W.ifBound_K hk J hs hf (wpAny_mono (own_call F hb hx (Sub.in1 ⟨hr, rfl⟩) I ry h) (fun r s' q => ?_) fun _ _ z => z)
    obtain ⟨b, H', rfl, I', q⟩ := q
    exact ⟨b, H', rfl, I', q⟩
  have one : wpAny (model X.prog X.w) X.A (tryCompare (.ref a) (cmpInfo .NotEq).2.1 u) (fun r s' => ∃ v, r = some v ∧ EP X pins σ Q v s') X.xe s := by
    have hu1 : X.A.in1.units < cLine := (Sub.in1 (X := X) (n := n) ⟨hr, rfl⟩).room.units0
    unfold tryCompare
    refine wpAny_bind (NtL.csib (LJ.andThen (PySem.W.looks_findIn hk hne)) (PySem.F.cmp_object.ne.bind _) ?_)
    refine wpAny_call (codeAny_call_builtin PySem.F.cmp_object.ne.plain PySem.F.cmpEntry_ne (PySem.W.check_slot PySem.F.cmpKind_ne PySem.F.cmpSplit_ne (LJ.andThen (PySem.W.looks_mroIn hk hm)) (PySem.F.cmpArgs_ne _ _) ?_))
    unfold Builtin.«object.__ne__»
    repeat (first
      | with_reducible refine wpAny_cRoomFor hu1 ?_
      | (refine wpAny_bind (m := callSpecialIfBound? (.ref a) (Str.ofString "__eq__") [u]) (wpAny_mono eq1 (fun r s' hr => ?_) fun _ _ e => e))
      | wp_step)
    obtain ⟨b, H', rfl, I', q⟩ := hr
    have fin : ∃ w : Value, w = .bool (!b) ∧ EP X pins σ Q w s' := ⟨_, rfl, .bl (!b), H', I', rfl, q⟩
    obtain ⟨w, ew, fin⟩ := fin
    subst ew
    repeat (first | exact ⟨_, rfl, fin⟩ | exact wpAny_pure ⟨_, rfl, fin⟩ | exact wpAny_truthy_bool fin | (refine wpAny_bind (m := truthy (.bool _)) (wpAny_truthy_bool ?_)) | wp_step)
  unfold richCompare
  simp only [oneThing_ref]
  refine wpAny_holding (wpAny_bind (wpAny_cRoomFor hr.units0 ?_))
  refine wpAny_bind (LJ.here (wpAny_bind (LT.here ?_)))
  split
  · rename_i q
    have e : PySem.W.subIn X.K tb (.ref C) = some false := by
      rcases Bool.or_eq_true_iff.mp nf with e | e
      · rw [beq_iff_eq.mp e] at q; simp at q
      · exact beq_iff_eq.mp e
    refine wpAny_bind ((PySem.W.looks_subIn hk e).here ?_)
    simp only [Bool.false_eq_true, if_false]
    refine wpAny_bind (wpAny_mono one (fun r s' z => ?_) fun _ _ e => e)
    obtain ⟨v, rfl, hq⟩ := z
    exact wpAny_pure hq
  · refine wpAny_bind (wpAny_pure ?_)
    simp only [Bool.false_eq_true, if_false]
    refine wpAny_bind (wpAny_mono one (fun r s' z => ?_) fun _ _ e => e)
    obtain ⟨v, rfl, hq⟩ := z
    exact wpAny_pure hq
end
end Ow

set_option maxRecDepth 100000
set_option maxHeartbeats 4000000
namespace Sg
open PySem PySem.Spec PyProof.Rows L2 Dr Gd Er Cm
abbrev sSigns : Stmt := top 15
/-- all but x as it was -/
def SameX (x : Addr) (H H' : Hp) : Prop := ∀ b o, H b = some o → b ≠ x → H' b = some o
theorem SameX.refl (x : Addr) (H : Hp) : SameX x H H := fun _ _ h _ => h
theorem SameX.trans {x : Addr} {H H1 H2 : Hp} (a : SameX x H H1) (b : SameX x H1 H2) : SameX x H H2 := fun c o h n => b c o (a c o h n) n
theorem Same.x {x : Addr} {H H' : Hp} (s : Same H H') : SameX x H H' := fun b o h _ => s b o h
theorem SameX.upd {x : Addr} {H H1 : Hp} {o : HO} (s : SameX x H H1) : SameX x H (L2.upd H1 x o) := fun b u h n => by
  rw [upd_ne n]; exact s b u h n
theorem SameX.new {x p : Addr} {H H1 : Hp} {o : HO} (s : SameX x H H1) (hp : H p = none) : SameX x H (L2.upd H1 p o) := fun b u h n => by
  rw [upd_ne (ne_of_none h hp)]; exact s b u h n
structure SeqK (K : PySem.W.Frag) (H H' : Hp) : Prop where
  l : ∀ a xs, SqL K H a xs → SqL K H' a xs
  t : ∀ a xs, SqT K H a xs → SqT K H' a xs
mutual
theorem dp_seq {K : PySem.W.Frag} {H H' : Hp} (s : SeqK K H H') : ∀ (d : PyData) (v : V), Dp K H v d → Dp K H' v d
  | .none, _, h => by cases h; exact .non
  | .bool b, _, h => by cases h; exact .bl b
  | .int i, _, h => by cases h; exact .int i
  | .str x, _, h => by cases h; exact .str x
  | .list ds, _, h => by
    cases h with
    | lst h1 h2 => exact .lst (s.l _ _ h1) (dpAll_seq s ds _ h2)
  | .tuple ds, _, h => by
    cases h with
    | tup h1 h2 => exact .tup (s.t _ _ h1) (dpAll_seq s ds _ h2)
  | .dict kvs, _, h => by cases h
theorem dpAll_seq {K : PySem.W.Frag} {H H' : Hp} (s : SeqK K H H') : ∀ (ds : List PyData) (vs : List V), DpAll K H vs ds → DpAll K H' vs ds
  | [], _, h => by cases h; exact .nil
  | d :: ds, _, h => by
    cases h with
    | cons a b => exact .cons (dp_seq s d _ a) (dpAll_seq s ds _ b)
end
theorem SameX.seqK {K : PySem.W.Frag} {x C dx : Addr} {fs : List (Str × V)} {H H' : Hp} (s : SameX x H H') (hx : H x = some (.ins C dx fs)) : SeqK K H H' := by
  refine ⟨fun a xs h => ?_, fun a xs h => ?_⟩
  · rcases h with (h | ⟨o, h⟩) | h
    · exact .inl (.inl (s _ _ h (ne_of h hx (by intro z; cases z))))
    · exact .inl (.inr ⟨o, s _ _ h (ne_of h hx (by intro z; cases z))⟩)
    · exact .inr h
  · rcases h with (h | ⟨o, h⟩) | h
    · exact .inl (.inl (s _ _ h (ne_of h hx (by intro z; cases z))))
    · exact .inl (.inr ⟨o, s _ _ h (ne_of h hx (by intro z; cases z))⟩)
    · exact .inr h
/-! ### what a list of pairs makes -/
inductive Res where
  | ok (ps : List (Str × Int))
  | bad (i : Nat)
def prOf : PyData → Str × Int
  | .tuple ds => (match ds with
    | [.str z, .int n] => (z, n)
    | _ => ("", 0))
  | _ => ("", 0)
def hasN (ps : List (Str × Int)) (z : Str) : Bool := ps.any fun p => decide (p.1 = z)
def build : List PyData → List (Str × Int) → Nat → Res
  | [], acc, _ => .ok acc
  | d :: r, acc, i => if isSign d && !hasN acc (prOf d).1 then build r (acc ++ [prOf d]) (i + 1) else .bad i
def kvsOf (ps : List (Str × Int)) : List (Key × V) := ps.map fun p => (Sum.inr p.1, V.int p.2)
def SgAt (C : Addr) (H : Hp) (x : Addr) (ps : List (Str × Int)) : Prop := ∃ dx d, H x = some (.ins C dx [("_arities", .ref d)]) ∧ H d = some (.dK (kvsOf ps))
theorem isSign_pr {d : PyData} (h : isSign d = true) : ∃ z n, d = .tuple [.str z, .int n] ∧ prOf d = (z, n) ∧ wordIn Lc z = true ∧ 0 ≤ n ∧ n ≤ 3 := by
  cases d with
  | tuple ds =>
    match ds, h with
    | [x, y], h =>
      have h : (isWord Lc x && isAr y) = true := h
      rw [Bool.and_eq_true] at h
      obtain ⟨h1, h2⟩ := h
      cases x with
      | str z =>
        cases y with
        | int n =>
          have h2 : (decide (0 ≤ n) && decide (n ≤ 3)) = true := h2
          rw [Bool.and_eq_true] at h2
          exact ⟨z, n, rfl, rfl, h1, of_decide_eq_true h2.1, of_decide_eq_true h2.2⟩
        | _ => cases h2
      | _ => cases h1
  | _ => cases h
theorem kvs_val (ps : List (Str × Int)) (z : Str) : (valV (kvsOf ps) (Sum.inr z)).isSome = hasN ps z := by
  rw [← valV_any]
  unfold kvsOf hasN
  rw [List.any_map]
  congr 1
  funext p
  simp only [Function.comp]
  exact decide_eq_decide.mpr ⟨fun h => by injection h, fun h => by rw [h]⟩
theorem kvs_put {ps : List (Str × Int)} {z : Str} {n : Int} (h : hasN ps z = false) : putK (kvsOf ps) (Sum.inr z) (.int n) = kvsOf (ps ++ [(z, n)]) := by
  have e : valV (kvsOf ps) (Sum.inr z) = none := by
    have := kvs_val ps z
    rw [h] at this
    cases q : valV (kvsOf ps) (Sum.inr z) with
    | none => rfl
    | some v => rw [q] at this; cases this
  rw [putK_new _ e]
  unfold kvsOf
  rw [List.map_append]
  rfl
end Sg

set_option maxRecDepth 100000
set_option maxHeartbeats 4000000
namespace Sg
open PySem PySem.Spec PyProof.Rows L2 Dr Gd Er Cm
abbrev sInit : Stmt := inClass sSigns 0
inductive Made where
  | noList
  | count
  | sign (i : Nat)
  | ok (ps : List (Str × Int))
def madeL (ds : List PyData) : Made := if 1 ≤ ds.length ∧ ds.length ≤ 5 then (match build ds [] 0 with
    | .ok ps => .ok ps
    | .bad i => .sign i) else .count
def madeOf : PyData → Made
  | .list ds => madeL ds
  | _ => .noList
def Shorts : PyData → Prop
  | .list ds => ∀ e ∈ ds, Short e
  | _ => True
structure Ke (P : Program) (K : PySem.W.Frag) (mg : Str → Option Value) (cN cC cB cS eN eC eB eS : Addr) : Prop where
  hN : ErrC P K "NoList" none cN eN
  hC : ErrC P K "BadCount" none cC eC
  hB : ErrC P K "BadSign" (some "number") cB eB
  hS : ErrC P K "NoSign" (some "name") cS eS
  gN : mg "NoList" = some (.ref cN)
  gC : mg "BadCount" = some (.ref cC)
  gB : mg "BadSign" = some (.ref cB)
  gS : mg "NoSign" = some (.ref cS)
  rN : PySem.W.subIn K (.ref cN) (.type "BaseException") = some true ∧ PySem.W.typeIn K (.ref cN) = some (.type "type")
  rC : PySem.W.subIn K (.ref cC) (.type "BaseException") = some true ∧ PySem.W.typeIn K (.ref cC) = some (.type "type")
  rB : PySem.W.subIn K (.ref cB) (.type "BaseException") = some true ∧ PySem.W.typeIn K (.ref cB) = some (.type "type")
  rS : PySem.W.subIn K (.ref cS) (.type "BaseException") = some true ∧ PySem.W.typeIn K (.ref cS) = some (.type "type")
  sup : mg "super" = none
  enu : mg "enumerate" = none
  lst : mg "list" = none
  ms : ∃ t, mg "MOST_SIGNS" = some (.int 5 t)
structure SCl (K : PySem.W.Frag) (C : Addr) : Prop where
  cl : Cls K C
  na : NoAttr K C "_arities"
def InitEnd (cN cC cB C : Addr) (H : Hp) (x : Addr) (Q : VK) (E : XK) : Made → Prop
  | .noList => ∀ H', SameX x H H' → E (.ref cN) none H'
  | .count => ∀ H', SameX x H H' → E (.ref cC) none H'
  | .sign i => ∀ H' dd, SameX x H H' → H dd = none → H' dd = some (.xd [("number", .int i)]) → E (.ref cB) (some dd) H'
  | .ok ps => ∀ H', SameX x H H' → SgAt C H' x ps → Q .non H'
def spInit (K : PySem.W.Frag) (cN cC cB C : Addr) : Sp := fun vs H Q E => ∃ x v d dx, vs = [.ref x, v] ∧ H x = some (.ins C dx []) ∧ Dp K H v d ∧ Shorts d ∧ InitEnd cN cC cB C H x Q E (madeOf d)
theorem tyl (d : PyData) : kitB (tyD d) "list" = some (match d with | .list _ => true | _ => false) := k_list d
section
variable {P : Program} {w : World} {K : PySem.W.Frag} {mg : Str → Option Value} {base : Heap} {f1 f2 f3 f4 : Addr} {d1 d2 d3 d4 : FuncData} {cN cC cB cS eN eC eB eS C : Addr}
theorem scInit : FnScope ["self", "pairs", "number", "pair"] ["self", "pairs"] (defScope sInit) := ⟨rfl, rfl, rfl, by decide +kernel, rfl, by decide +kernel, by decide +kernel⟩
theorem ok_init {f : Addr} {fd : FuncData} (F : Fun K "__init__" "Signs.__init__" sInit f fd) (T : Kn K mg f1 f2 f3 d1 d2 d3) (G4 : Fun K "_is_sign" "_is_sign" sIsSign f4 d4) (g4 : mg "_is_sign" = some (.ref f4)) (Z : Ke P K mg cN cC cB cS eN eC eB eS) (S : SCl K C) :
    FnOk P w K mg base (L2.CX P w) 3 f fd ["self", "pairs"] (spInit K cN cC cB C) := by
  obtain ⟨tM, mM⟩ := Z.ms
  have b4 : Binds K d4 ["value"] [] := G4.binds fun _ _ _ _ _ _ us hl => match us, hl with | [_], _ => rfl
  refine F.okX scInit (fun vs H Q E h => ?_) (fun cdv A outer s H vs Q E hr h => ?_)
  · obtain ⟨x, v, d, dx, rfl, _⟩ := h
    rfl
  · obtain ⟨x, v, d, dx, rfl, hx, hd, hs, q⟩ := h
    have hu := hu_of hr
    refine ⟨_, pss_cons (ps_if (pt_not (pt_val (pe_callB call_isi (by rfl) T.t.isi (by decide +kernel) (pa_cons (pv 1) (pa_cons (pe_bltn (v := .ty "list") (by rfl) Z.lst (by decide +kernel) rfl) pa_nil)))))
        (pss_one (ps_raise rfl (takes_of rfl rfl rfl rfl) (pmk_err0 Z.hN Z.sup hr (raises_own Z.rN.1 Z.rN.2) Z.gN))) pss_nil)
      (pss_cons (ps_if (pt_not (pt_chain op_le op_le pe_int (pe_callB call_len_seq (by rfl) T.t.len PySem.boot_len (pa_cons (pv 1) pa_nil)) (pe_glob (v := .int 5) rfl mM ⟨_, rfl⟩)))
        (pss_one (ps_raise rfl (takes_of rfl rfl rfl rfl) (pmk_err0 Z.hC Z.sup hr (raises_own Z.rC.1 Z.rC.2) Z.gC))) pss_nil)
      (pss_cons (ps_fld (pv 0) pe_dnewK rfl)
      (pss_one (ps_for (passes_of rfl) rfl (pi_enum (by rfl) Z.enu (pa_cons (pv 1) pa_nil)) (pg_tup rfl (pgs_cons (pg_name (i := 2) scInit.nd rfl (Or.inl rfl)) (pgs_cons (pg_name (i := 3) scInit.nd rfl (Or.inl rfl)) pgs_nil)))
        (pss_cons (ps_if (PW.pt (pw_or (pt_not (pt_val (pe_call (ok_isSign G4 T) hr rfl g4 G4.kp b4 .nil pass0 (pa_cons (pv 3) pa_nil))))
            (pw_or1 (pt_cmp (pc_din hu (pe_ix ix_tup (pv 3) pe_int fun _ _ => rfl) (pe_fld (pv 0) rfl))))))
          (pss_one (ps_raise rfl (takes_of rfl rfl rfl rfl) (pmk_err1 Z.hB Z.sup hr (raises_own Z.rB.1 Z.rB.2) Z.gB (pv 2)))) pss_nil)
        (pss_one (ps_dput hu (pe_fld (pv 0) rfl) (pe_ix ix_tup (pv 3) pe_int fun _ _ => rfl) (pe_ix ix_tup (pv 3) pe_int fun _ _ => rfl) rfl))))))), ?_⟩
    refine ⟨_, rfl, v, .ty "list", .type (tyD d), .type "list", _, rfl, .ty _, ty_dp hd, kit_ty (k_list d), _, rfl, ?_⟩
    cases d with
    | list ds =>
      cases hd with
      | lst h1 h2 =>
        rename_i a xs
        have hl := dpAll_len h2
        refine iteF ?_
        have q : InitEnd cN cC cB C H x Q E (madeL ds) := q
        refine ⟨_, rfl, a, _, rfl, .inl h1, _, _, rfl, rfl, _, rfl, ?_⟩
        refine ite2 (fun c1 => ?_) (fun c1 => ?_)
        · have c1 := of_decide_eq_true c1
          refine ⟨_, _, rfl, rfl, _, rfl, ?_⟩
          refine ite2 (fun c2 => ?_) (fun c2 => ?_)
          · rw [show madeL ds = .count from if_neg (by simp at c2; omega)] at q
            exact q H (SameX.refl x H)
          · have c2 : (xs.length : Int) ≤ 5 := by simpa using c2
            unfold madeL at q
            rw [if_pos (show 1 ≤ ds.length ∧ ds.length ≤ 5 by omega)] at q
            refine fun dn hdn => ?_
            have hxd : x ≠ dn := ne_of_none hx hdn
            refine ⟨_, rfl, x, C, dx, [], rfl, (by rw [upd_ne hxd]; exact hx), S.cl, S.na, by decide, ?_⟩
            have s0 : SameX x H (L2.upd (L2.upd H dn (.dK [])) x (.ins C dx (putF "_arities" (.ref dn) []))) := ((SameX.refl x H).new hdn).upd
            refine ⟨_, rfl, a, xs, rfl, (s0.seqK hx).l _ _ h1, ?_⟩
            refine for_it (walk_enum (xs := xs)) (fun i σ H' => ∃ acc p r, σ = [some (.ref x), some (.ref a), p, r] ∧ SameX x H H' ∧ build ds [] 0 = build (ds.drop i) acc i ∧ acc.length ≤ i ∧ H' x = some (.ins C dx [("_arities", .ref dn)]) ∧ H' dn = some (.dK (kvsOf acc)))
              ⟨[], none, none, rfl, s0, rfl, Nat.le_refl _, upd_same, by rw [upd_ne hxd.symm, upd_same]; rfl⟩ (fun i σ H' hi hp => ?_) (fun i y σ H' H2 hi hp hy => ?_) (fun σ H' hp => ?_)
            · obtain ⟨acc, p, r, rfl, s1, _⟩ := hp
              exact (s1.seqK hx).l _ _ h1
            · obtain ⟨acc, p, r, rfl, s1, hb, hal, h3, h4⟩ := hp
              obtain ⟨T, n, z, rfl, hT, rfl, e1, e2⟩ := hy
              cases e1
              have hTn : x ≠ T := ne_of_none h3 hT
              have hTd : dn ≠ T := ne_of_none h4 hT
              have s2 : SameX x H (L2.upd H' T (.tup [.int (i : Nat), z])) := fun b o e n => by
                have := s1 b o e n
                rw [upd_ne (ne_of_none this hT)]
                exact this
              obtain ⟨dz, e3, hz⟩ := dpAll_get' h2 e2
              have e4 : ds.drop i = dz :: ds.drop (i + 1) := by
                obtain ⟨h, e⟩ := List.getElem?_eq_some_iff.mp e3
                rw [List.drop_eq_getElem_cons h, e]
              rw [e4] at hb
              refine ⟨T, _, rfl, SqT.of upd_same, rfl, ?_⟩
              refine ⟨_, _, rfl, _, _, rfl, rfl, ?_⟩
              have q' := q
              rw [hb] at q
              refine ⟨_, rfl, z, dz, rfl, dp_seq (s2.seqK hx) _ _ hz, hs dz (List.mem_of_getElem? e3), fun H3 s3 => ⟨_, rfl, ?_⟩⟩
              have s4 : SameX x H H3 := s2.trans (Same.x s3)
              have h5 : H3 x = some (.ins C dx [("_arities", .ref dn)]) := s3 _ _ (by rw [upd_ne hTn]; exact h3)
              have h6 : H3 dn = some (.dK (kvsOf acc)) := s3 _ _ (by rw [upd_ne hTd]; exact h4)
              have fail : (isSign dz && !hasN acc (prOf dz).1) = false → ∀ d, H3 d = none → E (.ref cB) (some d) (L2.upd H3 d (.xd [("number", .int (i : Nat))])) := fun e d hd => by
                have e5 : build (dz :: ds.drop (i + 1)) acc i = .bad i := by
                  unfold build
                  rw [if_neg (by rw [e]; simp)]
                rw [e5] at q
                exact q _ d (fun b o e n => by rw [upd_ne (ne_of_none (s4 b o e n) hd)]; exact s4 b o e n) (by
                  cases z : H d with
                  | none => rfl
                  | some o =>
                    by_cases hxx : d = x
                    · subst hxx; rw [h5] at hd; cases hd
                    · rw [s4 d o z hxx] at hd; cases hd) upd_same
              refine ite2 (fun c3 => ?_) (fun c3 => ?_)
              · have c3 : isSign dz = false := by simpa using c3
                exact ⟨_, rfl, fail (by rw [c3]; rfl)⟩
              · have c3 : isSign dz = true := by simpa using c3
                obtain ⟨zz, nn, rfl, epr, hw, hn0, hn3⟩ := isSign_pr c3
                cases hz with
                | tup g1 g2 =>
                  rename_i tz xz
                  cases g2 with
                  | cons gx g2 =>
                    cases g2 with
                    | cons gy g2 =>
                      cases g2
                      cases gx
                      cases gy
                      have g1 := (s4.seqK hx).t _ _ g1
                      refine ⟨_, rfl, tz, _, 0, .str zz, rfl, rfl, g1, rfl, ?_⟩
                      refine ⟨_, rfl, x, C, dx, _, .ref dn, rfl, h5, S.cl, S.na, rfl, ?_⟩
                      refine ⟨dn, _, rfl, DGet.k (k := Sum.inr zz) h6, _, rfl, ?_⟩
                      rw [kvs_val]
                      refine ite2 (fun c4 => ?_) (fun c4 => ?_)
                      · exact ⟨_, rfl, fail (by rw [c3, epr, c4]; rfl)⟩
                      · have c4 : hasN acc zz = false := by simpa using c4
                        refine ⟨_, rfl, tz, _, 1, .int nn, rfl, rfl, g1, rfl, ?_⟩
                        refine ⟨_, rfl, x, C, dx, _, .ref dn, rfl, h5, S.cl, S.na, rfl, ?_⟩
                        refine ⟨_, rfl, tz, _, 0, .str zz, rfl, rfl, g1, rfl, ?_⟩
                        have hi5 : acc.length < sizeLine := by
                          have : acc.length < 1000 := by omega
                          exact Nat.lt_trans this (by decide)
                        refine ⟨dn, _, rfl, DPut.k (k := Sum.inr zz) h6 (by unfold kvsOf; rw [List.length_map]; exact hi5), ?_⟩
                        refine ⟨acc ++ [(zz, nn)], _, _, rfl, ?_, ?_, ?_, ?_, ?_⟩
                        · exact s4.new hdn
                        · rw [hb]
                          conv => lhs; unfold build
                          rw [if_pos (by rw [c3, epr, c4]; rfl), epr]
                        · rw [List.length_append]
                          exact Nat.succ_le_succ hal
                        · rw [upd_ne hxd]; exact h5
                        · rw [upd_same, kvs_put c4]
            · obtain ⟨acc, p, r, rfl, s1, hb, hal, h3, h4⟩ := hp
              have e : build ds [] 0 = .ok acc := by
                rw [hb, hl, List.drop_length]
                unfold build
                rfl
              rw [e] at q
              exact q H' s1 ⟨dx, dn, h3, h4⟩
        · rw [show madeL ds = .count from if_neg (by simp at c1; omega)] at q
          exact ⟨_, rfl, iteT (q H (SameX.refl x H))⟩
    | _ => exact iteT (q H (SameX.refl x H))
end
end Sg

set_option maxRecDepth 100000
set_option maxHeartbeats 4000000
namespace Sg
open PySem PySem.Spec PyProof.Rows L2 Dr Gd Er Cm
abbrev sNames : Stmt := inClass sSigns 1
abbrev sWays : Stmt := inClass sSigns 2
abbrev sArity : Stmt := inClass sSigns 3
abbrev sHas : Stmt := inClass sSigns 4
abbrev sLen : Stmt := inClass sSigns 5
abbrev sEq : Stmt := inClass sSigns 6
def hasD (ps : List (Str × Int)) : PyData → Bool
  | .str z => hasN ps z
  | _ => false
def arOf (ps : List (Str × Int)) (z : Str) : Option Int := (ps.find? fun p => decide (p.1 = z)).map (·.2)
def arD (ps : List (Str × Int)) : PyData → Option Int
  | .str z => arOf ps z
  | _ => none
theorem kvs_valI (ps : List (Str × Int)) (z : Str) : valV (kvsOf ps) (Sum.inr z) = (arOf ps z).map V.int := by
  induction ps with
  | nil => rfl
  | cons p r ih =>
    by_cases h : p.1 = z
    · have e : arOf (p :: r) z = some p.2 := by unfold arOf; rw [List.find?_cons_of_pos (by simp [h])]; rfl
      rw [e]
      unfold kvsOf valV
      simp [h]
    · have e : arOf (p :: r) z = arOf r z := by unfold arOf; rw [List.find?_cons_of_neg (by simp [h])]
      rw [e, ← ih]
      unfold kvsOf valV
      simp [h]
theorem arOf_has (ps : List (Str × Int)) (z : Str) : (arOf ps z).isSome = hasN ps z := by
  rw [← kvs_val, kvs_valI]
  cases arOf ps z <;> rfl
def psD (ps : List (Str × Int)) : PyData := .list (ps.map fun p => .tuple [.str p.1, .int p.2])
theorem psD_eqvAll : ∀ ps qs : List (Str × Int), PyData.eqvAll (ps.map fun p => .tuple [.str p.1, .int p.2]) (qs.map fun p => .tuple [.str p.1, .int p.2]) = decide (ps = qs)
  | [], [] => rfl
  | [], _ :: _ => rfl
  | _ :: _, [] => rfl
  | p :: ps, q :: qs => by
    show (PyData.eqv (.tuple [.str p.1, .int p.2]) (.tuple [.str q.1, .int q.2]) && _) = _
    rw [psD_eqvAll ps qs]
    obtain ⟨a, b⟩ := p
    obtain ⟨c, d⟩ := q
    show (((a == c) && ((b == d) && true)) && decide (ps = qs)) = decide ((a, b) :: ps = (c, d) :: qs)
    rw [Bool.and_true]
    by_cases h1 : a = c <;> by_cases h2 : b = d <;> by_cases h3 : ps = qs <;> simp [h1, h2, h3]
theorem psD_eqv (ps qs : List (Str × Int)) : PyData.eqv (psD ps) (psD qs) = decide (ps = qs) := psD_eqvAll ps qs
def OkNames (ps : List (Str × Int)) : Prop := ∀ p ∈ ps, PyData.strOk p.1 = true
theorem psD_lay : ∀ ps : List (Str × Int), OkNames ps → PyData.canLayAll0 (ps.map fun p => .tuple [.str p.1, .int p.2]) = true
  | [], _ => rfl
  | p :: ps, h => by
    show (PyData.canLay0 (.tuple [.str p.1, .int p.2]) && _) = true
    rw [psD_lay ps fun q hq => h q (List.mem_cons_of_mem _ hq)]
    show ((PyData.strOk p.1 && (true && true)) && true) = true
    rw [h p List.mem_cons_self]
    rfl
theorem psD_dep : ∀ ps : List (Str × Int), PyData.depthAll (ps.map fun p => .tuple [.str p.1, .int p.2]) ≤ 2
  | [] => by simp [PyData.depthAll]
  | p :: ps => by
    have := psD_dep ps
    simp only [List.map_cons, PyData.depthAll]
    refine Nat.max_le.mpr ⟨?_, this⟩
    simp [PyData.depth, PyData.depthAll]
theorem psD_shaped {ps : List (Str × Int)} (h : OkNames ps) : SeqAt.shaped (psD ps) = true := by
  unfold SeqAt.shaped
  rw [Bool.and_eq_true]
  refine ⟨psD_lay ps h, decide_eq_true ?_⟩
  have := psD_dep ps
  show PyData.depth (.list _) ≤ 64
  simp only [PyData.depth]
  omega
/-- further facts of the class -/
structure SClx (K : PySem.W.Frag) (C : Addr) : Prop extends SCl K C where
  ca : PySem.W.findIn K (.ref C) "__class__" = some (some (.builtin "object.__class__"))
  cg : PySem.W.specialIn K (.builtin "object.__class__") "__get__" = some (some (.builtin "getset_descriptor.__get__"))
  ct : PySem.W.takesIn K (.builtin "object.__class__") = some true
  cm : PySem.W.mroIn K C (.type "object") = some true
  kC : PySem.W.kitOne K (.ref C) (.ref C) = some true
  kL : PySem.W.kitOne K (.type "list") (.ref C) = some false
theorem SClx.ty {K : PySem.W.Frag} {C : Addr} (S : SClx K C) {H : Hp} {x : Addr} {ps : List (Str × Int)} (h : SgAt C H x ps) : TyX K H (.ref x) (.ref C) := by
  obtain ⟨dx, d, h1, _⟩ := h
  exact .base (.ins h1 S.cl S.ca S.cg S.ct S.cm)
theorem SgAt.same {C x : Addr} {H H' : Hp} {ps : List (Str × Int)} (h : SgAt C H x ps) (s : Same H H') : SgAt C H' x ps := by
  obtain ⟨dx, d, h1, h2⟩ := h
  exact ⟨dx, d, s _ _ h1, s _ _ h2⟩
def spHas (K : PySem.W.Frag) (C : Addr) : Sp := fun vs H Q _ => ∃ x v d ps, vs = [.ref x, v] ∧ SgAt C H x ps ∧ Dp K H v d ∧ Q (.bl (hasD ps d)) H
def spLen (C : Addr) : Sp := fun vs H Q _ => ∃ x ps, vs = [.ref x] ∧ SgAt C H x ps ∧ Q (.int (ps.length : Nat)) H
def spAr (K : PySem.W.Frag) (cS C : Addr) : Sp := fun vs H Q E => ∃ x v d ps, vs = [.ref x, v] ∧ SgAt C H x ps ∧ Dp K H v d ∧
  (∀ n, arD ps d = some n → Q (.int n) H) ∧ (arD ps d = none → ∀ dd, H dd = none → E (.ref cS) (some dd) (L2.upd H dd (.xd [("name", v)])))
def spNames (C : Addr) : Sp := fun vs H Q _ => ∃ x ps, vs = [.ref x] ∧ SgAt C H x ps ∧ ∀ p, H p = none → Q (.ref p) (L2.upd H p (.lst (ps.map fun q => .str q.1)))
def waysOf (ps : List (Str × Int)) : List Str := (ps.filter fun p => decide (p.2 > 1)).map (·.1)
def spWays (C : Addr) : Sp := fun vs H Q _ => ∃ x ps, vs = [.ref x] ∧ SgAt C H x ps ∧ ps.length ≤ 5 ∧ (ps.map (·.1)).Nodup ∧ ∀ H' ys p, Same H H' → H p = none → ys.Perm (waysOf ps) → sortedS ys = true → H' p = some (.lst (ys.map V.str)) → Q (.ref p) H'
def spEq (K : PySem.W.Frag) (C : Addr) : Sp := fun vs H Q _ => ∃ x v ps, vs = [.ref x, v] ∧ SgAt C H x ps ∧ OkNames ps ∧
  ((∃ ds, Dp K H v (.list ds) ∧ Q (.bl false) H) ∨ ∃ y qs, v = .ref y ∧ SgAt C H y qs ∧ OkNames qs ∧ ∀ H', Same H H' → Q (.bl (decide (ps = qs))) H')
section
variable {P : Program} {w : World} {K : PySem.W.Frag} {mg : Str → Option Value} {base : Heap} {f1 f2 f3 f4 : Addr} {d1 d2 d3 d4 : FuncData} {cN cC cB cS eN eC eB eS C : Addr}
theorem scHas : FnScope ["self", "name"] ["self", "name"] (defScope sHas) := ⟨rfl, rfl, rfl, by decide +kernel, rfl, by decide +kernel, by decide +kernel⟩
theorem ok_has {f : Addr} {fd : FuncData} (F : Fun K "__contains__" "Signs.__contains__" sHas f fd) (T : KTxt mg) (S : SCl K C) : FnOk P w K mg base CX0 1 f fd ["self", "name"] (spHas K C) := by
  refine F.ok scHas (fun vs H Q E h => ?_) (fun cdv A outer s H vs Q E hr h => ?_)
  · obtain ⟨x, v, d, ps, rfl, _⟩ := h
    rfl
  · obtain ⟨x, v, d, ps, rfl, ⟨dx, dn, h1, h2⟩, hd, q⟩ := h
    have hu := hu_of hr
    refine ⟨_, pss_one (ps_ret (pe_and (pe_callB call_isi (by rfl) T.isi (by decide +kernel) (pa_cons (pv 1) (pa_cons (pe_bltn (v := .ty "str") (by rfl) T.str (by decide +kernel) rfl) pa_nil)))
      (pe_one (pe_cmp (pc_din hu (pv 1) (pe_fld (pv 0) rfl)) rfl)))), ?_⟩
    refine ⟨_, rfl, v, .ty "str", .type (tyD d), .type "str", _, rfl, .ty _, ty_dp hd, kit_ty (k_str d), _, rfl, ?_⟩
    cases d with
    | str z =>
      cases hd
      refine iteT ?_
      refine ⟨_, rfl, _, rfl, x, C, dx, _, .ref dn, rfl, h1, S.cl, S.na, rfl, ?_⟩
      refine ⟨dn, _, rfl, DGet.k (k := Sum.inr z) h2, ?_⟩
      rw [kvs_val]
      exact q
    | _ => exact iteF q
theorem scLen : FnScope ["self"] ["self"] (defScope sLen) := ⟨rfl, rfl, rfl, by decide +kernel, rfl, by decide +kernel, by decide +kernel⟩
theorem ok_len {f : Addr} {fd : FuncData} (F : Fun K "__len__" "Signs.__len__" sLen f fd) (T : KTxt mg) (S : SCl K C) : FnOk P w K mg base CX0 1 f fd ["self"] (spLen C) := by
  refine F.ok scLen (fun vs H Q E h => ?_) (fun cdv A outer s H vs Q E hr h => ?_)
  · obtain ⟨x, ps, rfl, _⟩ := h
    rfl
  · obtain ⟨x, ps, rfl, ⟨dx, dn, h1, h2⟩, q⟩ := h
    refine ⟨_, pss_one (ps_ret (pe_callB call_lenD (by rfl) T.len PySem.boot_len (pa_cons (pe_fld (pv 0) rfl) pa_nil))), ?_⟩
    refine ⟨_, rfl, x, C, dx, _, .ref dn, rfl, h1, S.cl, S.na, rfl, dn, _, rfl, h2, ?_⟩
    rw [show (kvsOf ps).length = ps.length from List.length_map ..]
    exact q
theorem scNm : FnScope ["self"] ["self"] (defScope sNames) := ⟨rfl, rfl, rfl, by decide +kernel, rfl, by decide +kernel, by decide +kernel⟩
theorem ok_names {f : Addr} {fd : FuncData} (F : Fun K "names" "Signs.names" sNames f fd) (hl : mg "list" = none) (S : SCl K C) : FnOk P w K mg base CX0 1 f fd ["self"] (spNames C) := by
  refine F.ok scNm (fun vs H Q E h => ?_) (fun cdv A outer s H vs Q E hr h => ?_)
  · obtain ⟨x, ps, rfl, _⟩ := h
    rfl
  · obtain ⟨x, ps, rfl, ⟨dx, dn, h1, h2⟩, q⟩ := h
    refine ⟨_, pss_one (ps_ret (pe_callTy (call_listD rfl) (by rfl) hl (by decide +kernel) (pa_cons (pe_fld (pv 0) rfl) pa_nil))), ?_⟩
    refine ⟨_, rfl, x, C, dx, _, .ref dn, rfl, h1, S.cl, S.na, rfl, dn, _, rfl, .inl h2, fun p hp => ?_⟩
    have e : (kvsOf ps).map (fun kv => kV kv.1) = ps.map fun q => V.str q.1 := by
      unfold kvsOf
      rw [List.map_map]
      rfl
    rw [e]
    exact q p hp
end
end Sg

set_option maxRecDepth 100000
set_option maxHeartbeats 4000000
namespace Sg
open PySem PySem.Spec PyProof.Rows L2 Dr Gd Er Cm Ow
theorem arOf_at : ∀ {ps : List (Str × Int)} {i : Nat} {z : Str} {n : Int}, (ps.map (·.1)).Nodup → ps[i]? = some (z, n) → arOf ps z = some n
  | [], i, z, n, _, h => by simp at h
  | p :: ps, 0, z, n, _, h => by
    simp at h
    subst h
    unfold arOf
    rw [List.find?_cons_of_pos (by simp)]
    rfl
  | p :: ps, i + 1, z, n, hn, h => by
    have h : ps[i]? = some (z, n) := by simpa using h
    obtain ⟨h1, h2⟩ := List.nodup_cons.mp (show (p.1 :: ps.map (·.1)).Nodup from hn)
    have hz : ¬ p.1 = z := fun e => h1 (by
      rw [e]
      exact List.mem_map.mpr ⟨(z, n), List.mem_of_getElem? h, rfl⟩)
    unfold arOf
    rw [List.find?_cons_of_neg (by simpa using hz)]
    exact arOf_at h2 h
section
variable {P : Program} {w : World} {K : PySem.W.Frag} {mg : Str → Option Value} {base : Heap} {f1 f2 f3 f4 fh : Addr} {d1 d2 d3 d4 dh : FuncData} {cN cC cB cS eN eC eB eS C : Addr}
structure HasAt (K : PySem.W.Frag) (C fh : Addr) (dh : FuncData) : Prop where
  F : Fun K "__contains__" "Signs.__contains__" sHas fh dh
  at_ : PySem.W.findIn K (.ref C) "__contains__" = some (some (.ref fh))
  fn : PySem.W.isFn K (.ref fh) = true
theorem HasAt.b (h : HasAt K C fh dh) : Binds K dh ["self", "name"] [] := h.F.binds fun _ _ _ _ _ _ us hl => match us, hl with | [_, _], _ => rfl
theorem scAr : FnScope ["self", "name"] ["self", "name"] (defScope sArity) := ⟨rfl, rfl, rfl, by decide +kernel, rfl, by decide +kernel, by decide +kernel⟩
theorem ok_arity {f : Addr} {fd : FuncData} (F : Fun K "arity" "Signs.arity" sArity f fd) (T : KTxt mg) (Z : Ke P K mg cN cC cB cS eN eC eB eS) (S : SCl K C) (h4 : HasAt K C fh dh) : FnOk P w K mg base (L2.CX P w) 2 f fd ["self", "name"] (spAr K cS C) := by
  refine F.okX scAr (fun vs H Q E h => ?_) (fun cdv A outer s H vs Q E hr h => ?_)
  · obtain ⟨x, v, d, ps, rfl, _⟩ := h
    rfl
  · obtain ⟨x, v, d, ps, rfl, hS, hd, q1, q2⟩ := h
    have hu := hu_of hr
    refine ⟨_, pss_cons (ps_if (pt_cmpR (op_notInOwn (ok_has h4.F T S) hr h4.at_ h4.fn h4.b pass0) (pv 1) (pv 0) (by rfl)) (pss_one (ps_raise rfl (takes_of rfl rfl rfl rfl) (pmk_err1 Z.hS Z.sup hr (raises_own Z.rS.1 Z.rS.2) Z.gS (pv 1)))) pss_nil)
      (pss_one (ps_ret (pe_dget hu (pe_fld (pv 0) rfl) (pv 1) fun _ _ => rfl))), ?_⟩
    obtain ⟨dx, dn, h1, h2⟩ := id hS
    refine ⟨_, rfl, _, rfl, x, dx, _, rfl, h1, x, v, d, ps, rfl, hS, hd, _, rfl, _, rfl, ?_⟩
    refine ite2 (fun c => ?_) (fun c => ?_)
    · have c : hasD ps d = false := by simpa using c
      have e : arD ps d = none := by
        cases d with
        | str z =>
          have c : hasN ps z = false := c
          rw [← arOf_has] at c
          show arOf ps z = none
          cases q : arOf ps z with
          | none => rfl
          | some n => rw [q] at c; cases c
        | _ => rfl
      exact ⟨_, rfl, q2 e⟩
    · have c : hasD ps d = true := by simpa using c
      cases d with
      | str z =>
        cases hd
        have c : hasN ps z = true := c
        rw [← arOf_has] at c
        obtain ⟨n, en⟩ := Option.isSome_iff_exists.mp c
        refine ⟨_, rfl, x, C, dx, _, .ref dn, rfl, h1, S.cl, S.na, rfl, ?_⟩
        refine ⟨_, rfl, dn, .int n, rfl, ?_, q1 n en⟩
        have e : (some (V.int n)) = valV (kvsOf ps) (Sum.inr z) := by rw [kvs_valI, en]; rfl
        rw [e]
        exact DGet.k (k := Sum.inr z) h2
      | _ => cases c
theorem scEq : FnScope ["self", "other"] ["self", "other"] (defScope sEq) := ⟨rfl, rfl, rfl, by decide +kernel, rfl, by decide +kernel, by decide +kernel⟩
theorem dp_items {K : PySem.W.Frag} {H : Hp} : ∀ {ts : List Addr} {ps : List (Str × Int)}, Paired (fun (t : Addr) (q : Key × V) => H t = some (.tup [kV q.1, q.2])) ts (kvsOf ps) → DpAll K H (ts.map V.ref) (ps.map fun p => .tuple [.str p.1, .int p.2])
  | [], [], _ => .nil
  | t :: ts, p :: ps, h => by
    cases h with
    | cons a b => exact .cons (.tup (SqT.of a) (.cons (.str _) (.cons (.int _) .nil))) (dp_items b)
theorem ok_eq {f : Addr} {fd : FuncData} (F : Fun K "__eq__" "Signs.__eq__" sEq f fd) (T : KTxt mg) (hl : mg "list" = none) (gC : mg "Signs" = some (.ref C)) (S : SClx K C) : FnOk P w K mg base CX0 1 f fd ["self", "other"] (spEq K C) := by
  refine F.ok scEq (fun vs H Q E h => ?_) (fun cdv A outer s H vs Q E hr h => ?_)
  · obtain ⟨x, v, ps, rfl, _⟩ := h
    rfl
  · obtain ⟨x, v, ps, rfl, hS, hok, h⟩ := h
    have hu := hu_of hr
    refine ⟨_, pss_one (ps_ret (pe_and (pe_callB call_isi (by rfl) T.isi (by decide +kernel) (pa_cons (pv 1) (pa_cons (pe_glob (v := .ref C) rfl gC rfl) pa_nil)))
      (pe_one (pe_cmpR (op_eqD hr.units) (LiI.pe_listItems rfl (pe_fld (pv 0) rfl) (by rfl) hl (by decide +kernel)) (LiI.pe_listItems rfl (pe_fld (pv 1) rfl) (by rfl) hl (by decide +kernel)) (nomark _))))), ?_⟩
    rcases h with ⟨ds, hd, q⟩ | ⟨y, qs, rfl, hY, hoy, q⟩
    · exact ⟨_, rfl, v, .ref C, .type "list", .ref C, _, rfl, .own _, ty_dp hd, S.kL, _, rfl, iteF q⟩
    · refine ⟨_, rfl, .ref y, .ref C, .ref C, .ref C, _, rfl, .own _, S.ty hY, S.kC, _, rfl, iteT ?_⟩
      obtain ⟨dx, dn, h1, h2⟩ := hS
      obtain ⟨dy, dm, g1, g2⟩ := hY
      refine ⟨_, rfl, x, C, dx, _, .ref dn, rfl, h1, S.cl, S.na, rfl, dn, _, rfl, h2, fun H1 p ts s1 hp hts hpt e1 e2 => ?_⟩
      refine ⟨_, rfl, y, C, dy, _, .ref dm, rfl, s1 _ _ g1, S.cl, S.na, rfl, dm, _, rfl, s1 _ _ g2, fun H2 p' ts' s2 hp' hts' hpt' e1' e2' => ?_⟩
      refine ⟨psD ps, psD qs, dp_same s2 _ _ (.lst (SqL.of e1) (dp_items e2)), .lst (SqL.of e1') (dp_items e2'), psD_shaped hok, psD_shaped hoy, ?_⟩
      rw [psD_eqv]
      exact q H2 (Same.trans s1 s2)
end
end Sg

set_option maxRecDepth 100000
set_option maxHeartbeats 4000000
namespace Sg
open PySem PySem.Spec PyProof.Rows L2 Dr Gd Er Cm Ow
section
variable {P : Program} {w : World} {K : PySem.W.Frag} {mg : Str → Option Value} {base : Heap} {f1 f2 f3 f4 fh : Addr} {d1 d2 d3 d4 dh : FuncData} {cN cC cB cS eN eC eB eS C : Addr}
theorem scWy : FnScope ["self", "name"] ["self"] (defScope sWays) := ⟨rfl, rfl, rfl, by decide +kernel, rfl, by decide +kernel, by decide +kernel⟩
theorem ways_take {ps : List (Str × Int)} {i : Nat} {z : Str} {n : Int} (h : ps[i]? = some (z, n)) : waysOf (ps.take (i + 1)) = if n > 1 then waysOf (ps.take i) ++ [z] else waysOf (ps.take i) := by
  unfold waysOf
  rw [List.take_succ, h]
  show ((ps.take i ++ [(z, n)]).filter _).map _ = _
  rw [List.filter_append]
  by_cases c : n > 1
  · rw [if_pos c, List.filter_cons_of_pos (by simpa using c), List.map_append]
    rfl
  · rw [if_neg c, List.filter_cons_of_neg (by simpa using c)]
    simp
theorem ways_len (ps : List (Str × Int)) : (waysOf ps).length ≤ ps.length := by
  unfold waysOf
  rw [List.length_map]
  exact List.length_filter_le _ _
theorem ok_ways {f : Addr} {fd : FuncData} (F : Fun K "ways" "Signs.ways" sWays f fd) (hs : mg "sorted" = none) (S : SCl K C) : FnOk P w K mg base CX0 1 f fd ["self"] (spWays C) := by
  refine F.ok scWy (fun vs H Q E h => ?_) (fun cdv A outer s H vs Q E hr h => ?_)
  · obtain ⟨x, ps, rfl, _⟩ := h
    rfl
  · obtain ⟨x, ps, rfl, ⟨dx, dn, h1, h2⟩, h5, nd, q⟩ := h
    have hu := hu_of hr
    refine ⟨_, pss_one (ps_ret (pe_callB cr_sortedS (by rfl) hs (by decide +kernel) (pa_cons (pe_lock
      (pe_lc (own := [("name", 1)]) (g := gName 1) (tt := tTest (tOp (rI0 fun i j => .bl (decide (j < i))) (tDGet (tFld K (tVar 0) "_arities") (tVar 1)) (tC (.int 1)))) rfl scWy.nd (pi_keys (pe_fld (pv 0) rfl)) (blkOk_by (N := ["self", "name"]) (sc := defScope sWays) (by decide +kernel)) (fun _ _ _ _ _ => pg_name (i := 1) scWy.nd rfl (Or.inl rfl))
        (fun _ _ _ _ _ => by
          refine pts_one ?_
          refine pt_cmpR op_gt ?_ pe_int (nomark _)
          refine pe_dget ?_ ?_ ?_ (fun _ _ => rfl)
          · exact hu
          · refine pe_fld ?_ ?_
            · exact pv 0
            · rfl
          · exact pv 1) (fun _ _ _ _ _ => pv 1))) pa_nil))), ?_⟩
    refine ⟨dn, .dK (kvsOf ps), h2, trivial, fun od => ?_⟩
    have hxd : x ≠ dn := ne_of h1 h2 (by intro z; cases z)
    have e1 : (L2.upd H dn (.frz od (.dK (kvsOf ps)))) x = some (.ins C dx [("_arities", .ref dn)]) := by rw [upd_ne hxd]; exact h1
    refine ⟨_, rfl, x, C, dx, _, .ref dn, rfl, e1, S.cl, S.na, rfl, dn, od, rfl, .inl ⟨_, upd_same, fun D hD => ?_⟩⟩
    have hDd : D ≠ dn := fun z => by rw [z, upd_same] at hD; cases hD
    have hDx : D ≠ x := fun z => by rw [z, e1] at hD; cases hD
    have hD0 : H D = none := by rw [upd_ne hDd] at hD; exact hD
    have lk : (kvsOf ps).length = ps.length := List.length_map ..
    refine lc_it (walk_keys (kvs := kvsOf ps)) (fun i H' => H' = L2.upd (L2.upd H dn (.frz od (.dK (kvsOf ps)))) D (.lst ((waysOf (ps.take i)).map V.str))) rfl (fun i H' hi hp => by rw [hp, upd_ne hDd.symm, upd_same]) (fun i y H1 H2 hi hp hy => ?_) (fun H' hp => ?_)
    · subst hp
      obtain ⟨rfl, k, v, ek, rfl⟩ := hy
      rw [lk] at hi
      obtain ⟨z, n, ep⟩ : ∃ z n, ps[i]? = some (z, n) := ⟨_, _, List.getElem?_eq_getElem hi⟩
      have ek' : (k, v) = (Sum.inr z, V.int n) := by
        unfold kvsOf at ek
        rw [List.getElem?_map, ep] at ek
        exact (Option.some.inj ek).symm
      cases ek'
      have g1 : (L2.upd (L2.upd H dn (.frz od (.dK (kvsOf ps)))) D (.lst ((waysOf (ps.take i)).map V.str))) x = some (.ins C dx [("_arities", .ref dn)]) := by rw [upd_ne hDx.symm]; exact e1
      have g2 : (L2.upd (L2.upd H dn (.frz od (.dK (kvsOf ps)))) D (.lst ((waysOf (ps.take i)).map V.str))) dn = some (.frz od (.dK (kvsOf ps))) := by rw [upd_ne hDd.symm, upd_same]
      refine ⟨rfl, ?_⟩
      refine ⟨_, rfl, x, C, dx, _, .ref dn, rfl, g1, S.cl, S.na, rfl, ?_⟩
      refine ⟨_, rfl, dn, .int n, rfl, .inl ⟨_, Sum.inr z, .inr ⟨_, g2⟩, rfl, by rw [kvs_valI, arOf_at nd ep]; rfl⟩, ?_⟩
      refine ⟨_, _, rfl, rfl, _, rfl, ?_⟩
      refine ite2 (fun c => ?_) (fun c => ?_)
      · have c : n > 1 := of_decide_eq_true c
        refine ⟨_, rfl, _, upd_same, ?_, ?_⟩
        · rw [List.length_map]
          have := ways_len (ps.take i)
          rw [List.length_take] at this
          exact Nat.lt_of_le_of_lt (Nat.le_trans this (Nat.le_trans (Nat.min_le_left _ _) (Nat.le_of_lt (Nat.lt_of_lt_of_le hi h5)))) (by decide)
        · rw [upd2, ways_take ep, if_pos c, List.map_append]
          rfl
      · have c : ¬ n > 1 := fun z => c (decide_eq_true z)
        rw [ways_take ep, if_neg c]
    · subst hp
      rw [lk, List.take_length]
      refine ⟨by rw [upd_ne hDd.symm, upd_same], ?_⟩
      have sm : Same H (L2.upd (L2.upd (L2.upd H dn (.frz od (.dK (kvsOf ps)))) D (.lst ((waysOf ps).map V.str))) dn (.dK (kvsOf ps))) := fun b o e => by
        by_cases hb : b = dn
        · subst hb
          rw [h2] at e
          cases e
          exact upd_same
        · rw [upd_ne hb, upd_ne (ne_of_none e hD0), upd_ne hb]
          exact e
      refine ⟨D, waysOf ps, rfl, SqL.of (by rw [upd_ne hDd, upd_same]), ?_, fun ys p hp1 hp2 hp3 => ?_⟩
      · have := ways_len ps
        omega
      · exact q _ ys p (Same.trans sm (same_upd hp3)) (Same.free sm hp3) hp1 hp2 upd_same
end
end Sg

set_option maxRecDepth 100000
set_option maxHeartbeats 4000000
/-! written data -/
namespace Sg
open PySem PySem.Spec PyProof.Rows L2 Dr Gd Er Cm Ow
/-- what is new in H' -/
def nw (H H' : Hp) : Hp := fun b => if H b = none then H' b else none
theorem nw_at {H H' : Hp} {b : Addr} {o : HO} (h : H b = none) (h' : H' b = some o) : nw H H' b = some o := by unfold nw; rw [if_pos h]; exact h'
theorem nw_inv {H H' : Hp} {b : Addr} {o : HO} (h : nw H H' b = some o) : H b = none ∧ H' b = some o := by
  unfold nw at h
  by_cases e : H b = none
  · rw [if_pos e] at h
    exact ⟨e, h⟩
  · rw [if_neg e] at h
    cases h
theorem nw_same {H H' : Hp} : Same (nw H H') H' := fun b o h => (nw_inv h).2
theorem nw_l {H H1 H2 : Hp} (s : Same H1 H2) : Same (nw H H1) (nw H H2) := fun b o h => nw_at (nw_inv h).1 (s _ _ (nw_inv h).2)
theorem nw_r {H H1 H2 : Hp} (s : Same H H1) : Same (nw H1 H2) (nw H H2) := fun b o h => nw_at (Same.free s (nw_inv h).1) (nw_inv h).2
theorem nw_del {H H' : Hp} {p : Addr} {o : HO} (h : H p = some o) : Same (nw H H') (del H' p) := fun b u e => by
  have hb : b ≠ p := fun z => by
    have := (nw_inv e).1
    rw [z, h] at this
    cases this
  rw [del_ne hb]
  exact (nw_inv e).2
def tDat (K : PySem.W.Frag) (c : L2.St → Prop) (d : PyData) : TE := fun σ H Q => c σ ∧ ∀ v H', Same H H' → Dp K (nw H H') v d → Q v H'
def taDat (K : PySem.W.Frag) (c : L2.St → Prop) (ds : List PyData) : TA := fun σ H Q => c σ ∧ ∀ vs H', Same H H' → DpAll K (nw H H') vs ds → Q vs H'
def tDatL (K : PySem.W.Frag) (c : L2.St → Prop) (ds : List PyData) : TE := fun σ H Q => c σ ∧ ∀ p vs H', Same H H' → H p = none → H' p = some (.lst vs) → DpAll K (nw H H') vs ds → Q (.ref p) H'
section
variable {X : Cx} {e : Expr} {es : List Expr}
theorem pe_imp {t t' : TE} (h : ∀ σ H Q, t' σ H Q → t σ H Q) (q : PE X e t) : PE X e t' := ⟨fun pins s σ H Q I z => q.run pins s σ H Q I (h σ H Q z)⟩
theorem pa_imp {t t' : TA} (h : ∀ σ H Q, t' σ H Q → t σ H Q) (q : PA X es t) : PA X es t' := ⟨fun pos pins s σ H Q I z => q.run pos pins s σ H Q I (h σ H Q z)⟩
end
section
variable {X : Cx} {c : L2.St → Prop} {e : Expr} {es : List Expr} {d : PyData} {ds : List PyData} {pos : Pos}
theorem pd_int {n : Int} {j : Nat} : PE X (.Constant (.int n) j pos) (tDat X.K c (.int n)) := pe_imp (fun σ H Q h => h.2 _ H (Same.refl H) (.int n)) pe_int
theorem pd_str {z : Str} {j : Nat} : PE X (.Constant (.str z) j pos) (tDat X.K c (.str z)) := pe_imp (fun σ H Q h => h.2 _ H (Same.refl H) (.str z)) pe_str
theorem pd_bl {b : Bool} {j : Nat} : PE X (.Constant (.bool b) j pos) (tDat X.K c (.bool b)) := pe_imp (fun σ H Q h => h.2 _ H (Same.refl H) (.bl b)) pe_bl
theorem pd_non {j : Nat} : PE X (.Constant .none j pos) (tDat X.K c .none) := pe_imp (fun σ H Q h => h.2 _ H (Same.refl H) .non) pe_non
theorem pd_neg {n : Int} {j : Nat} {p : Pos} : PE X (.UnaryOp .USub (.Constant (.int n) j p) pos) (tDat X.K c (.int (-n))) := pe_imp (fun σ H Q h => ⟨n, rfl, h.2 _ H (Same.refl H) (.int _)⟩) (pe_un un_neg pe_int)
theorem pd_nil : PA X [] (taDat X.K c []) := pa_imp (fun σ H Q h => h.2 _ H (Same.refl H) .nil) pa_nil
theorem pd_cons (he : PE X e (tDat X.K c d)) (hr : PA X es (taDat X.K c ds)) (hs : starEach (e :: es) X.env = (false, eval e X.env) :: starEach es X.env := by rfl) : PA X (e :: es) (taDat X.K c (d :: ds)) :=
  pa_imp (fun σ H Q h => ⟨h.1, fun v H1 s1 h1 => ⟨h.1, fun vs H2 s2 h2 => h.2 _ H2 (Same.trans s1 s2) (.cons (dp_same (nw_l s2) _ _ h1) (dpAll_same (nw_r s1) _ _ h2))⟩⟩) (pa_cons he hr hs)
theorem pd_lstL (h : PA X es (taDat X.K c ds)) (hl : ds.length ≤ 1000) : PE X (.List es pos) (tDatL X.K c ds) :=
  pe_imp (fun σ H Q h => ⟨h.1, fun vs H1 s1 h1 => ⟨by rw [dpAll_len h1]; exact Nat.le_trans hl (by decide), fun p hp => h.2 p vs _ (Same.trans s1 (same_upd hp)) (Same.free s1 hp) upd_same (dpAll_same (nw_l (same_upd hp)) _ _ h1)⟩⟩) (pe_lst h)
theorem pd_lst (h : PA X es (taDat X.K c ds)) (hl : ds.length ≤ 1000) : PE X (.List es pos) (tDat X.K c (.list ds)) :=
  pe_imp (fun σ H Q h => ⟨h.1, fun p vs H1 s1 hn h1 h2 => h.2 _ H1 s1 (.lst (SqL.of (nw_at hn h1)) h2)⟩) (pd_lstL h hl)
theorem pd_tup {x1 : Nat} (h : PA X es (taDat X.K c ds)) (hl : ds.length ≤ 1000) : PE X (.Tuple es x1 pos) (tDat X.K c (.tuple ds)) :=
  pe_imp (fun σ H Q h => ⟨h.1, fun vs H1 s1 h1 => ⟨by rw [dpAll_len h1]; exact Nat.le_trans hl (by decide), fun p hp => h.2 _ _ (Same.trans s1 (same_upd hp)) (.tup (SqT.of (nw_at (Same.free s1 hp) upd_same)) (dpAll_same (nw_l (same_upd hp)) _ _ h1))⟩⟩) (pe_tup h)
end
end Sg

set_option maxRecDepth 100000
set_option maxHeartbeats 4000000
namespace Sg
open PySem PySem.Spec PyProof.Rows L2 Dr Gd Er Cm Ow
abbrev sKnown : Stmt := top 21
def known1 : List (List (Str × Int)) := [[("plus", 2), ("s", 1), ("zero", 0)], [("f", 2), ("g", 1), ("a", 0)], [("f", 2), ("a", 0), ("b", 0)]]
def known2 : List (List (Str × Int)) := [[("g", 1), ("f", 2), ("h", 2)], [("a", 0), ("b", 0), ("c", 0)], [("f", 3), ("a", 0), ("b", 0)]]
def known3 : List (List (Str × Int)) := [[("f", 1), ("g", 1), ("h", 1)], [("times", 2), ("plus", 2), ("s", 1), ("zero", 0)]]
def known4 : List (List (Str × Int)) := [[("left", 2), ("above", 2), ("lots", 0)], [("order", 1), ("rule", 0), ("sign", 2)]]
def known5 : List (List (Str × Int)) := [[("b", 0), ("f", 2)], [("f", 2), ("g", 1), ("a", 0), ("b", 0)], [("f", 3)]]
def known : List (List (Str × Int)) := known1 ++ known2 ++ known3 ++ known4 ++ known5
def spKnown (K : PySem.W.Frag) : Sp := fun vs H Q _ => vs = [] ∧ ∀ p us H', Same H H' → H p = none → H' p = some (.lst us) → DpAll K (nw H H') us (known.map psD) → Q (.ref p) H'
theorem cat_dat {K : PySem.W.Frag} {c : L2.St → Prop} {σ : L2.St} {H0 H : Hp} {Q : VK} {l : Addr} {vs : List V} {ds es : List PyData} {i : Nat} (hv : σ[i]? = some (some (.ref l))) (s0 : Same H0 H) (hl : H l = some (.lst vs)) (hd : DpAll K (nw H0 H) vs ds) (hz : ds.length + es.length ≤ 1000) (hc : c σ)
    (h : ∀ p us H', Same H0 H' → H0 p = none → H' p = some (.lst us) → DpAll K (nw H0 H') us (ds ++ es) → Q (.ref p) H') : tOp rCat (tVar i) (tDatL K c es) σ H Q := by
  refine ⟨_, hv, hc, fun p us H1 s1 hp h1 h2 => ?_⟩
  refine ⟨l, p, _, _, rfl, rfl, s1 _ _ hl, h1, ?_, fun p2 hp2 => ?_⟩
  · rw [dpAll_len hd, dpAll_len h2]
    exact Nat.le_trans hz (by decide)
  · have s := Same.trans s0 s1
    exact h p2 _ _ (Same.trans s (same_upd hp2)) (Same.free s hp2) upd_same (dpAll_same (nw_l (same_upd hp2)) _ _ (dpAll_app (dpAll_same (nw_l s1) _ _ hd) (dpAll_same (nw_r s0) _ _ h2)))
section
variable {P : Program} {w : World} {K : PySem.W.Frag} {mg : Str → Option Value} {base : Heap}
theorem scKn : FnScope ["found"] [] (defScope sKnown) := ⟨rfl, rfl, rfl, by decide +kernel, rfl, by decide +kernel, by decide +kernel⟩
theorem ok_known {f : Addr} {fd : FuncData} (F : Fun K "_law_known_signs" "_law_known_signs" sKnown f fd) : FnOk P w K mg base CX0 1 f fd [] (spKnown K) := by
  refine F.ok scKn (fun vs H Q E h => ?_) (fun cdv A outer s H vs Q E hr h => ?_)
  · obtain ⟨rfl, _⟩ := h
    rfl
  · obtain ⟨rfl, q⟩ := h
    refine ⟨_, pss_cons (ps_set (i := 0) (te := tDatL K (fun _ => True) (known1.map psD)) scKn.nd rfl (Or.inl rfl) (pd_lstL (by repeat (first | exact pd_int | exact pd_str | exact pd_nil | refine pd_cons ?_ ?_ | refine pd_lst ?_ (by decide) | refine pd_tup ?_ (by decide))) (by decide)))
      (pss_cons (ps_set (i := 0) (te := tOp rCat (tVar 0) (tDatL K (fun _ => True) (known2.map psD))) scKn.nd rfl (Or.inl rfl) (pe_op op_cat (pv 0) (pd_lstL (by repeat (first | exact pd_int | exact pd_str | exact pd_nil | refine pd_cons ?_ ?_ | refine pd_lst ?_ (by decide) | refine pd_tup ?_ (by decide))) (by decide))))
      (pss_cons (ps_set (i := 0) (te := tOp rCat (tVar 0) (tDatL K (fun _ => True) (known3.map psD))) scKn.nd rfl (Or.inl rfl) (pe_op op_cat (pv 0) (pd_lstL (by repeat (first | exact pd_int | exact pd_str | exact pd_nil | refine pd_cons ?_ ?_ | refine pd_lst ?_ (by decide) | refine pd_tup ?_ (by decide))) (by decide))))
      (pss_cons (ps_set (i := 0) (te := tOp rCat (tVar 0) (tDatL K (fun _ => True) (known4.map psD))) scKn.nd rfl (Or.inl rfl) (pe_op op_cat (pv 0) (pd_lstL (by repeat (first | exact pd_int | exact pd_str | exact pd_nil | refine pd_cons ?_ ?_ | refine pd_lst ?_ (by decide) | refine pd_tup ?_ (by decide))) (by decide))))
      (pss_one (ps_ret (te := tOp rCat (tVar 0) (tDatL K (fun _ => True) (known5.map psD))) (pe_op op_cat (pv 0) (pd_lstL (by repeat (first | exact pd_int | exact pd_str | exact pd_nil | refine pd_cons ?_ ?_ | refine pd_lst ?_ (by decide) | refine pd_tup ?_ (by decide))) (by decide)))))))), ?_⟩
    refine ⟨trivial, fun p1 u1 H1 s1 n1 g1 e1 => ?_⟩
    refine cat_dat (i := 0) rfl s1 g1 e1 (by decide) trivial (fun p2 u2 H2 s2 n2 g2 e2 => ?_)
    refine cat_dat (i := 0) rfl s2 g2 e2 (by decide) trivial (fun p3 u3 H3 s3 n3 g3 e3 => ?_)
    refine cat_dat (i := 0) rfl s3 g3 e3 (by decide) trivial (fun p4 u4 H4 s4 n4 g4 e4 => ?_)
    exact cat_dat (i := 0) rfl s4 g4 e4 (by decide) trivial (fun p5 u5 H5 s5 n5 g5 e5 => q p5 u5 H5 s5 n5 g5 e5)
end
end Sg

set_option maxRecDepth 100000
set_option maxHeartbeats 4000000
namespace Sg
open PySem PySem.Spec PyProof.Rows L2 Dr Gd Er Cm Ow
abbrev sDrawn : Stmt := top 22
structure Cal (P : Program) (w : World) (K : PySem.W.Frag) (mg : Str → Option Value) (base : Heap) (CX : CXT) (k : Nat) (x : Str) (f : Addr) (fd : FuncData) (ps : List Str) (sp : Sp) : Prop where
  ok : FnOk P w K mg base CX k f fd ps sp
  g : mg x = some (.ref f)
  kp : PySem.W.keepIn K (.ref f) = true
  b : Binds K fd ps []
def names3 : List (List Str) := [["f", "g", "h", "k"], ["k", "f", "a", "g"], ["z", "ab", "b", "abcdefgh"]]
def allN : List Str := (known.flatten.map (·.1)) ++ names3.flatten
def Good (ps : List (Str × Int)) : Prop := 1 ≤ ps.length ∧ ps.length ≤ 4 ∧ (ps.map (·.1)).Nodup ∧ (∀ p ∈ ps, wordIn Lc p.1 = true ∧ 0 ≤ p.2 ∧ p.2 ≤ 3) ∧ (("q" : Str) ∉ ps.map (·.1)) ∧ ∀ p ∈ ps, p.1 ∈ allN
instance (ps : List (Str × Int)) : Decidable (Good ps) := by unfold Good; infer_instance
theorem known_good : ∀ ps ∈ known, Good ps := by decide +kernel
theorem names3_ok : ∀ N ∈ names3, N.length = 4 ∧ N.Nodup ∧ (∀ z ∈ N, wordIn Lc z = true) ∧ ("q" : Str) ∉ N ∧ ∀ z ∈ N, z ∈ allN := by decide +kernel
def nmD (N : List Str) : PyData := .list (N.map .str)
def spDrawn (K : PySem.W.Frag) : Sp := fun vs H Q _ => ∃ p x y, vs = [.ref p] ∧ H p = some (feedO x y) ∧
  ∀ v ps x' y' H', SameX p H H' → H' p = some (feedO x' y') → Dp K (del H' p) v (psD ps) → Good ps → Q v H'
theorem SameX.del {p : Addr} {H H' : Hp} (s : SameX p H H') : Same (L2.del H p) (L2.del H' p) := fun b o h => by
  by_cases hb : b = p
  · subst hb; rw [del_same] at h; cases h
  · rw [del_ne hb] at h ⊢
    exact s b o h hb
theorem del_upd {p : Addr} {H : Hp} {o : HO} : L2.del (L2.upd H p o) p = L2.del H p := by
  funext b
  by_cases hb : b = p
  · subst hb; rw [del_same, del_same]
  · rw [del_ne hb, del_ne hb, upd_ne hb]
theorem dpAll_mem {K : PySem.W.Frag} {H : Hp} {vs : List V} {ds : List PyData} {v : V} (h : DpAll K H vs ds) (m : v ∈ vs) : ∃ d ∈ ds, Dp K H v d := by
  obtain ⟨i, hi, e⟩ := List.getElem_of_mem m
  obtain ⟨d, h1, h2⟩ := dpAll_get' h (show vs[i]? = some v by rw [List.getElem?_eq_getElem hi, e])
  exact ⟨d, List.mem_of_getElem? h1, h2⟩
def prD (ps : List (Str × Int)) : List PyData := ps.map fun p => .tuple [.str p.1, .int p.2]
theorem seqT_updL {K : PySem.W.Frag} {H : Hp} {l t : Addr} {us xs : List V} {o : HO} (hl : H l = some (.lst us)) (h : SqT K H t xs) : SqT K (L2.upd H l o) t xs := by
  rcases h with (h | ⟨u, h⟩) | h
  · exact .inl (.inl (by rw [upd_ne (ne_of h hl (by intro z; cases z))]; exact h))
  · exact .inl (.inr ⟨u, by rw [upd_ne (ne_of h hl (by intro z; cases z))]; exact h⟩)
  · exact .inr h
theorem pr_updL {K : PySem.W.Frag} {H : Hp} {l : Addr} {us : List V} {o : HO} (hl : H l = some (.lst us)) : ∀ {ts : List V} {ps : List (Str × Int)}, DpAll K H ts (prD ps) → DpAll K (L2.upd H l o) ts (prD ps)
  | [], [], _ => .nil
  | _ :: _, [], h => by cases h
  | [], _ :: _, h => by cases h
  | t :: ts, p :: ps, h => by
    cases h with
    | cons a b =>
      cases a with
      | tup h1 h2 =>
        cases h2 with
        | cons a1 h2 =>
          cases h2 with
          | cons a2 h2 =>
            cases h2
            cases a1
            cases a2
            exact .cons (.tup (seqT_updL hl h1) (.cons (.str _) (.cons (.int _) .nil))) (pr_updL hl b)
theorem nm_vs {K : PySem.W.Frag} {H : Hp} : ∀ {vs : List V} {N : List Str}, DpAll K H vs (N.map .str) → vs = N.map V.str
  | [], [], _ => rfl
  | _ :: _, _ :: _, h => by
    cases h with
    | cons a b =>
      cases a
      rw [nm_vs b]
      rfl
section
variable {P : Program} {w : World} {K : PySem.W.Frag} {mg : Str → Option Value} {base : Heap} {fT fP fK : Addr} {dT dP dK : FuncData}
theorem scDr : FnScope ["feed", "names", "many", "found", "ways", "at", "arity"] ["feed"] (defScope sDrawn) := ⟨rfl, rfl, rfl, by decide +kernel, rfl, by decide +kernel, by decide +kernel⟩
theorem ok_drawn {f : Addr} {fd : FuncData} (F : Fun K "_law_drawn_signs" "_law_drawn_signs" sDrawn f fd) (GT : Cal P w K mg base CX0 1 "_law_take" fT dT ["feed", "many"] spTake) (GP : Cal P w K mg base CX0 2 "_law_pick" fP dP ["feed", "some"] (spPick K))
    (GK : Cal P w K mg base CX0 1 "_law_known_signs" fK dK [] (spKnown K)) (hi : mg "int" = none) (hrg : mg "range" = none) : FnOk P w K mg base CX0 3 f fd ["feed"] (spDrawn K) := by
  refine F.ok scDr (fun vs H Q E h => ?_) (fun cdv A outer s H vs Q E hr h => ?_)
  · obtain ⟨p, x, y, rfl, _⟩ := h
    rfl
  · obtain ⟨p, x, y, rfl, hp, q⟩ := h
    refine ⟨_, pss_cons (ps_if (pt_cmpR op_gt (pe_call GT.ok (hr.mono (by decide)) rfl GT.g GT.kp GT.b .nil pass0 (pa_cons (pv 0) (pa_cons pe_int pa_nil))) pe_int (nomark _))
        (pss_one (ps_ret (pe_call GP.ok hr rfl GP.g GP.kp GP.b .nil pass0 (pa_cons (pv 0) (pa_cons (pe_call0 GK.ok (hr.mono (by decide)) (by rfl) GK.g GK.kp GK.b .nil pass0) pa_nil))))) pss_nil)
      (pss_cons (ps_set (i := 1) scDr.nd rfl (Or.inl rfl) (pe_call GP.ok hr rfl GP.g GP.kp GP.b .nil pass0 (pa_cons (pv 0) (pa_cons (te := tDatL K (fun _ => True) (names3.map nmD)) (pd_lstL (by repeat (first | exact pd_int | exact pd_str | exact pd_nil | refine pd_cons ?_ ?_ | refine pd_lst ?_ (by decide) | refine pd_tup ?_ (by decide))) (by decide)) pa_nil))))
      (pss_cons (ps_par3 (i := 2) (j := 3) (l := 4) rfl scDr.nd rfl rfl rfl (by decide) (by decide) (by decide) rfl rfl rfl (pa_cons (pe_op op_add pe_int (pe_call GT.ok (hr.mono (by decide)) rfl GT.g GT.kp GT.b .nil pass0 (pa_cons (pv 0) (pa_cons pe_int pa_nil)))) (pa_cons (pe_lst pa_nil) (pa_cons pe_int pa_nil))) (by rfl))
      (pss_cons (ps_for PassesOwn.never rfl (pi_range1 (by rfl) hrg (pa_cons (pv 2) pa_nil)) (pg_name (i := 5) scDr.nd rfl (Or.inl rfl))
        (pss_cons (ps_set (i := 6) scDr.nd rfl (Or.inl rfl) (pe_call GT.ok (hr.mono (by decide)) rfl GT.g GT.kp GT.b .nil pass0 (pa_cons (pv 0) (pa_cons (pe_ifExp (pt_cmpR op_lt (pv 4) pe_int (nomark _)) pe_int pe_int) pa_nil))))
        (pss_cons (ps_set (i := 4) scDr.nd rfl (Or.inl rfl) (pe_op op_add (pv 4) (pe_callTy call_int1 (by rfl) hi (by decide +kernel) (pa_cons (pe_cmp (pc_ge (pv 6) pe_int) rfl) pa_nil))))
        (pss_one (ps_expr (pe_bm PySem.F.plainAttrs_list PySem.F.slot_list_append PySem.F.type_list_append mt_append (pv 3) (pa_cons (pe_tup (pa_cons (pe_ix ix_list (pv 1) (pv 5) fun _ _ => rfl) (pa_cons (pv 6) pa_nil))) pa_nil)))))))
      (pss_one (ps_ret (pv 3)))))), ?_⟩
    have big : (1000000 : Nat) ≤ sizeLine := by decide
    refine ⟨_, rfl, p, x, y, 3, rfl, hp, by decide, by decide, fun r1 x1 y1 hr0 hr1 => ?_⟩
    refine ⟨_, _, rfl, rfl, _, rfl, ?_⟩
    have s01 : SameX p H (L2.upd H p (feedO x1 y1)) := (SameX.refl p H).upd
    refine ite2 (fun _ => ?_) (fun _ => ?_)
    · refine ⟨_, rfl, rfl, fun pk us H1 s1 hn e1 e2 => ?_⟩
      have hpk : pk ≠ p := fun z => by rw [z, upd_same] at hn; cases hn
      have hus : us.length = 13 := dpAll_len e2
      refine ⟨p, x1, y1, s1 _ _ upd_same, .inl ⟨pk, us, rfl, SqL.of e1, hpk, by omega, by omega, fun v x2 y2 hv => ?_⟩⟩
      obtain ⟨d, hd, hvd⟩ := dpAll_mem e2 hv
      obtain ⟨ps, hps, rfl⟩ := List.mem_map.mp hd
      refine q v ps x2 y2 _ (s01.trans (Same.x s1)).upd upd_same ?_ (known_good ps hps)
      rw [del_upd]
      exact dp_same (nw_del upd_same) _ _ hvd
    · refine ⟨_, rfl, trivial, fun pk us H1 s1 hn e1 e2 => ?_⟩
      have hpk : pk ≠ p := fun z => by rw [z, upd_same] at hn; cases hn
      have hus : us.length = 3 := dpAll_len e2
      refine ⟨p, x1, y1, s1 _ _ upd_same, .inl ⟨pk, us, rfl, SqL.of e1, hpk, by omega, by omega, fun v x2 y2 hv => ?_⟩⟩
      obtain ⟨d, hd, hvd⟩ := dpAll_mem e2 hv
      obtain ⟨N, hN, rfl⟩ := List.mem_map.mp hd
      obtain ⟨n4, nnd, nw1, nq, nal⟩ := names3_ok N hN
      have hvd := dp_same (nw_del (H' := H1) upd_same) _ _ hvd
      have s02 : SameX p H (L2.upd H1 p (feedO x2 y2)) := (s01.trans (Same.x s1)).upd
      cases hvd with
      | lst g1 g2 =>
        rename_i ln vs
        obtain rfl := nm_vs g2
        refine ⟨_, rfl, p, x2, y2, 4, rfl, upd_same, by decide, by decide, fun r x3 y3 h0 h1 => ?_⟩
        rw [upd2]
        refine ⟨_, _, rfl, rfl, Nat.zero_le _, fun l hl => ⟨_, _, _, rfl, ?_⟩⟩
        have hlp : l ≠ p := fun z => by rw [z, upd_same] at hl; cases hl
        have hl1 : H1 l = none := by rw [upd_ne hlp] at hl; exact hl
        have hlB : L2.del H1 p l = none := by rw [del_ne hlp]; exact hl1
        refine ⟨_, rfl, 1 + r, rfl, by omega, by omega, ?_⟩
        have sB : Same (L2.del H1 p) (L2.upd (L2.upd H1 p (feedO x3 y3)) l (.lst [])) := fun b o e => by
          have hb : b ≠ p := fun z => by rw [z, del_same] at e; cases e
          rw [upd_ne (ne_of_none e hlB), upd_ne hb]
          rw [del_ne hb] at e
          exact e
        refine for_it (walk_range (lo := 0) (n := (1 + r).toNat)) (fun i σ H' => ∃ ps ts xx yy w5 c5 c6, σ = [some (.ref p), some (.ref ln), some (.int (1 + r)), some (.ref l), some (.int w5), c5, c6] ∧ Same (L2.del H1 p) H' ∧ H' p = some (feedO xx yy) ∧ H' l = some (.lst ts) ∧
            DpAll K (L2.del H' p) ts (prD ps) ∧ ps.map (·.1) = N.take i ∧ ∀ q ∈ ps, 0 ≤ q.2 ∧ q.2 ≤ 3)
          ⟨[], [], x3, y3, 0, none, none, rfl, sB, by rw [upd_ne hlp.symm, upd_same], upd_same, .nil, by simp, by simp⟩ (fun _ _ _ _ _ => trivial) (fun i z σ H2 H' hi hp' hy => ?_) (fun σ H' hp' => ?_)
        · obtain ⟨ps, ts, xx, yy, w5, c5, c6, rfl, sH, k1, k2, k3, k4, k5⟩ := hp'
          obtain ⟨rfl, rfl⟩ := hy
          have hi4 : i < N.length := by omega
          refine ⟨_, rfl, _, rfl, _, _, rfl, rfl, _, rfl, ?_⟩
          refine ite2 (fun _ => ?_) (fun _ => ?_)
          all_goals
            refine ⟨p, xx, yy, _, rfl, k1, by decide, by decide, fun a x4 y4 ha0 ha1 => ?_⟩
            have ha3 : a ≤ 3 := by omega
            refine ⟨_, rfl, _, rfl, _, _, rfl, rfl, .inr ⟨_, rfl, _, _, rfl, rfl, ?_⟩⟩
            have m2 : (L2.upd H' p (feedO x4 y4)) l = some (.lst ts) := by rw [upd_ne hlp]; exact k2
            have sH2 : Same (L2.del H1 p) (L2.upd H' p (feedO x4 y4)) := fun b o e => by
              have hb : b ≠ p := fun z => by rw [z, del_same] at e; cases e
              rw [upd_ne hb]
              exact sH b o e
            refine ⟨_, rfl, .inl ⟨rfl, _, SqL.of m2⟩, ?_⟩
            refine ⟨_, rfl, _, rfl, ln, _, _, .str (N[i]), rfl, rfl, Same.seq sH2 g1, ?_, _, rfl, (by show 2 ≤ sizeLine; decide), fun t ht => ?_⟩
            · rw [Int.zero_add]
              exact atI_nat (by rw [List.getElem?_map, List.getElem?_eq_getElem hi4]; rfl)
            · have htl : l ≠ t := ne_of_none m2 ht
              have htp : p ≠ t := ne_of_none (upd_same : (L2.upd H' p (feedO x4 y4)) p = _) ht
              have ets : ts.length ≤ 4 := by
                have e1 := dpAll_len k3
                have e2 := congrArg List.length k4
                rw [List.length_map, List.length_take] at e2
                have e3 : (prD ps).length = ps.length := List.length_map ..
                omega
              refine ⟨l, ts, _, rfl, rfl, by rw [upd_ne htl]; exact m2, by omega, ?_⟩
              refine ⟨ps ++ [(N[i], a)], ts ++ [.ref t], x4, y4, _, _, _, rfl, ?_, ?_, upd_same, ?_, ?_, ?_⟩
              · intro b o e
                rw [upd_ne (ne_of_none e hlB), upd_ne (ne_of_none (sH2 b o e) ht)]
                exact sH2 b o e
              · rw [upd_ne hlp.symm, upd_ne htp, upd_same]
              · have sD : Same (L2.del H' p) (L2.del (L2.upd (L2.upd H' p (feedO x4 y4)) t (.tup [.str (N[i]), .int a])) p) := by
                  refine SameX.del fun b o e hb => ?_
                  have e' : (L2.upd H' p (feedO x4 y4)) b = some o := by rw [upd_ne hb]; exact e
                  rw [upd_ne (ne_of_none e' ht)]
                  exact e'
                have k3' := dpAll_same sD _ _ k3
                have et : (L2.del (L2.upd (L2.upd H' p (feedO x4 y4)) t (.tup [.str (N[i]), .int a])) p) t = some (.tup [.str (N[i]), .int a]) := by rw [del_ne htp.symm, upd_same]
                have el : (L2.del (L2.upd (L2.upd H' p (feedO x4 y4)) t (.tup [.str (N[i]), .int a])) p) l = some (.lst ts) := by rw [del_ne hlp, upd_ne htl]; exact m2
                have k6 : DpAll K (L2.del (L2.upd (L2.upd H' p (feedO x4 y4)) t (.tup [.str (N[i]), .int a])) p) (ts ++ [.ref t]) (prD (ps ++ [(N[i], a)])) := by
                  unfold prD
                  rw [List.map_append]
                  exact dpAll_app k3' (.cons (.tup (SqT.of et) (.cons (.str _) (.cons (.int _) .nil))) .nil)
                have k7 := pr_updL (o := .lst (ts ++ [.ref t])) el k6
                have e9 : L2.del (L2.upd (L2.upd (L2.upd H' p (feedO x4 y4)) t (.tup [.str (N[i]), .int a])) l (.lst (ts ++ [.ref t]))) p = L2.upd (L2.del (L2.upd (L2.upd H' p (feedO x4 y4)) t (.tup [.str (N[i]), .int a])) p) l (.lst (ts ++ [.ref t])) := by
                  funext b
                  by_cases hb : b = p
                  · subst hb; rw [del_same, upd_ne hlp.symm, del_same]
                  · rw [del_ne hb]
                    by_cases hbl : b = l
                    · subst hbl; rw [upd_same, upd_same]
                    · rw [upd_ne hbl, upd_ne hbl, del_ne hb]
                rw [e9]
                exact k7
              · rw [List.map_append, k4, List.take_succ, List.getElem?_eq_getElem hi4]
                rfl
              · intro q hq
                rcases List.mem_append.mp hq with hq | hq
                · exact k5 q hq
                · rw [List.mem_singleton.mp hq]
                  exact ⟨ha0, ha3⟩
        · obtain ⟨ps, ts, xx, yy, w5, c5, c6, rfl, sH, k1, k2, k3, k4, k5⟩ := hp'
          have hps : ps.length = (1 + r).toNat := by
            have e2 := congrArg List.length k4
            rw [List.length_map, List.length_take] at e2
            omega
          refine ⟨_, rfl, ?_⟩
          refine q (.ref l) ps xx yy H' (fun b o e hb => ?_) k1 (.lst (SqL.of (by rw [del_ne hlp]; exact k2)) k3) ⟨by omega, by omega, ?_, ?_, ?_, ?_⟩
          · refine sH b o ?_
            rw [del_ne hb]
            exact s1 _ _ (by rw [upd_ne hb]; exact e)
          · rw [k4]
            exact List.Nodup.sublist (List.take_sublist _ _) nnd
          · intro q hq
            refine ⟨nw1 _ ?_, k5 q hq⟩
            have : q.1 ∈ ps.map (·.1) := List.mem_map.mpr ⟨q, hq, rfl⟩
            rw [k4] at this
            exact List.mem_of_mem_take this
          · rw [k4]
            exact fun m => nq (List.mem_of_mem_take m)
          · intro q hq
            have : q.1 ∈ ps.map (·.1) := List.mem_map.mpr ⟨q, hq, rfl⟩
            rw [k4] at this
            exact nal _ (List.mem_of_mem_take this)
end
end Sg

set_option maxRecDepth 100000
set_option maxHeartbeats 4000000
/-! several except clauses, each with or without a name. -/
namespace Tw
open PySem PySem.Spec PyProof.Rows L2
/-- an exception that has been caught, beside the state without it -/
structure Lies (X : Cx) (pins : List (Addr × Obj)) (a : Addr) (B : Heap) (sI : Shared) (σ : L2.St) (H : Hp) (cls : Value) (d : Option Addr) (s : Shared) : Prop where
  I : Inv X pins σ H sI
  nb : ∀ b o, sI.heap.get? b = some o → b ∉ frs X.stack → B.get? b = some o
  up : sI.heap.UpToSlots s.heap
  fl : HandSPX.FlyingZ B (X.env :: X.outer) a (Zc cls d) s.heap
  na : H a = none
  os : s.os = sI.os
  ag : AllBare s.gens
/-- the clauses, one behind the other, keep what is wished -/
def Hnd (X : Cx) (hs : List ExceptHandler) (W : Ends → WX) : Prop := ∀ pins D a B sI σ H cls d s, Lies X pins a B sI σ H cls d s → W D cls d σ H → wpAny (model X.prog X.w) X.A (handleBy (.ref a) X.env hs) (SP X pins D) X.xe s
section
variable {X : Cx} {pins : List (Addr × Obj)} {a : Addr} {B : Heap} {sI s : Shared} {σ : L2.St} {H : Hp} {cls : Value} {d : Option Addr} {W : Ends → WX} {Wout : WX}
theorem Lies.inv (L : Lies X pins a B sI σ H cls d s) : Inv X pins σ H s := L.I.landed L.nb L.fl.1 L.up L.os L.ag
theorem Lies.step (L : Lies X pins a B sI σ H cls d s) {h' : Heap} (fl : HandSPX.FlyingZ B (X.env :: X.outer) a (Zc cls d) h') (up : s.heap.UpToSlots h') : Lies X pins a B sI σ H cls d { s with heap := h' } := ⟨L.I, L.nb, L.up.trans up, fl, L.na, L.os, L.ag⟩
theorem Lies.suite (L : Lies X pins a B sI σ H cls d s) (hf : X.env.frame = some X.env.locals) : ∃ oe vs, s.heap.get? a = some oe ∧ Zc cls d oe ∧ oe.data = .fields vs ∧ Inv (X.suite a ((a, oe) :: (X.pn ++ pins))) [] σ H s := by
  obtain ⟨oe, vs, he, hz, hd⟩ := L.fl.there
  have far : a ∉ frs (X.env :: X.outer) := fun hm => by
    obtain ⟨_, o', e', no⟩ := L.fl.2.2.1.mem hm
    rw [he] at e'
    cases e'
    exact no _ hd
  refine ⟨oe, vs, he, hz, hd, L.inv.suite he hd L.na (fun z => far (List.mem_filterMap.mpr ⟨X.env, List.mem_cons_self, by rw [hf, z]⟩)) fun hm => ?_⟩
  obtain ⟨e, hx, q⟩ := List.mem_filterMap.mp hm
  exact far (List.mem_filterMap.mpr ⟨e, List.mem_cons_of_mem _ hx, q⟩)
theorem hnd_nil (hs : X.stack = X.env :: X.outer) (hf : X.env.frame = some X.env.locals) (tk : Takes X Wout) : Hnd X [] (fun _ => Wout) := by
  intro pins D a B sI σ H cls d s L w
  refine wpAny_handleBy_nil ?_
  obtain ⟨_, _, _, oe, vs, T, _, _, he, _, hd, h1, _⟩ := id L.fl
  unfold PySem.passOn
  refine wpAny_bind (wpAny_field he hd h1 ?_)
  rw [if_neg (show ¬ ((Value.ref T == Value.none) = true) from by simp)]
  have last : wpAny (model X.prog X.w) X.A (setFlight (.ref a) X.env.frame) (fun _ s4 => wpAny (model X.prog X.w) X.A (throw (.ref a) : Sem Flow) (SP X pins D) X.xe s4) X.xe s := by
    rw [hf]
    exact HandSPX.setFlight_upZ L.fl fun h4 held up4 => wpAny_throw (tk _ _ ⟨a, B, sI, pins, σ, H, cls, d, rfl, L.I, L.nb, L.up.trans up4, .inr (.inr (by rw [hs]; exact held)), L.na, L.os, L.ag, w⟩)
  first
    | exact wpAny_bind last
    | exact wpAny_bind (wpAny_pure (wpAny_bind last))
theorem named {x : Str} {c : Value} {np : Pos} {oe : Obj} {Q E : Value → Shared → Prop} (hc : Names X x c) (S : Inv (X.suite a ((a, oe) :: (X.pn ++ pins))) [] σ H s) (q : Q c s) : wpAny (model X.prog X.w) (X.A.mark (some (.ref a))) (eval (.Name x np) X.env) Q E s := by
  obtain ⟨h1, h2, h3 | ⟨h3, h4, h5⟩⟩ := hc
  · exact ld_glob (X := X.suite a ((a, oe) :: (X.pn ++ pins))) S h1 h3 q h2
  · exact ld_blt (X := X.suite a ((a, oe) :: (X.pn ++ pins))) S h1 h3 h4 q h5 h2
def wOne (K : PySem.W.Frag) (c : Value) (ts : Addr → Value → Option Addr → TS) (W : Ends → WX) : Ends → WX := fun D cls d σ H => ∃ b, PySem.W.exmOne K cls c = some b ∧ (b = true → ∀ a, H a = none → ts a cls d D σ H) ∧ (b = false → W D cls d σ H)
def wNm (K : PySem.W.Frag) (c : Value) (i : Nat) (ts : Addr → Value → Option Addr → TS) (W : Ends → WX) : Ends → WX := fun D cls d σ H => ∃ b, PySem.W.exmOne K cls c = some b ∧
  (b = true → ∀ a, H a = none → ts a cls d { nx := fun σ' H' => D.nx (σ'.set i none) H', rt := D.rt, bk := fun σ' H' => D.bk (σ'.set i none) H', ct := fun σ' H' => D.ct (σ'.set i none) H' } (σ.set i (some (.ref a))) H) ∧ (b = false → W D cls d σ H)
theorem hnd_one {x : Str} {c : Value} {ts : Addr → Value → Option Addr → TS} {b₀ : Stmt} {suite : List Stmt} {np pos' : Pos} {hds : List ExceptHandler} (hf : X.env.frame = some X.env.locals) (hc : Names X x c)
    (hsu : ∀ (a : Addr) (oe : Obj) (cls : Value) (d : Option Addr) (pn : List (Addr × Obj)), Zc cls d oe → (∃ vs, oe.data = .fields vs) → PSs (X.suite a ((a, oe) :: pn)) (b₀ :: suite) (ts a cls d)) (r : Hnd X hds W) :
    Hnd X (.ExceptHandler (some (.Name x np)) none (b₀ :: suite) pos' :: hds) (wOne X.K c ts W) := by
  intro pins D a B sI σ H cls d s L ⟨b, hb, yes, no⟩
  obtain ⟨oe, vs, he, hz, hd, S⟩ := L.suite hf
  have ty : PySem.W.Looks (model X.prog X.w) s.heap (typeOf (.ref a)) cls := fun A Q E s k q => wpAny_typeOf_ref (k _ _ he) (by rw [hz.1]; exact q)
  refine wpAny_handleBy_cons (codeAny_handlers_test (named hc S ((PySem.W.exm_one (M := model X.prog X.w) L.inv.kIn ty hb).here ?_))) (by intro q; cases q)
  cases b with
  | false => exact r pins D a B sI σ H cls d s L (no rfl)
  | true =>
    refine codeAny_handlers_suite (HandSPX.lands_againZ L.fl fun h4 fl4 up4 => ?_)
    obtain ⟨oe4, vs4, he4, hz4, hd4, S4⟩ := (L.step fl4 up4).suite hf
    refine wpAny_mono ((hsu a oe4 cls d (X.pn ++ pins) hz4 ⟨_, hd4⟩).run [] _ _ H _ S4 (yes rfl a L.na)) (fun f s6 z => ?_) (fun _ _ z => False.elim z)
    have ok := L.I.ok
    cases f with
    | next => exact let ⟨σ6, H6, S6, q6⟩ := z; ⟨σ6, H6, S6.unsuite ok, q6⟩
    | brk => exact let ⟨σ6, H6, S6, q6⟩ := z; ⟨σ6, H6, S6.unsuite ok, q6⟩
    | cont => exact let ⟨σ6, H6, S6, q6⟩ := z; ⟨σ6, H6, S6.unsuite ok, q6⟩
    | ret u => exact let ⟨v6, σ6, H6, S6, r6, q6⟩ := z; ⟨v6, σ6, H6, S6.unsuite ok, r6, q6⟩
theorem hnd_nm {x n : Str} {c : Value} {i : Nat} {ts : Addr → Value → Option Addr → TS} {b₀ : Stmt} {suite : List Stmt} {np pos' : Pos} {hds : List ExceptHandler} (hf : X.env.frame = some X.env.locals) (hN : X.N.Nodup) (hi : X.N[i]? = some n) (hl : X.env.kindOf n = some .local) (hc : Names X x c)
    (hsu : ∀ (a : Addr) (oe : Obj) (cls : Value) (d : Option Addr) (pn : List (Addr × Obj)), Zc cls d oe → (∃ vs, oe.data = .fields vs) → PSs (X.suite a ((a, oe) :: pn)) (b₀ :: suite) (ts a cls d)) (r : Hnd X hds W) :
    Hnd X (.ExceptHandler (some (.Name x np)) (some n) (b₀ :: suite) pos' :: hds) (wNm X.K c i ts W) := by
  intro pins D a B sI σ H cls d s L ⟨b, hb, yes, no⟩
  obtain ⟨oe, vs, he, hz, hd, S⟩ := L.suite hf
  have ty : PySem.W.Looks (model X.prog X.w) s.heap (typeOf (.ref a)) cls := fun A Q E s k q => wpAny_typeOf_ref (k _ _ he) (by rw [hz.1]; exact q)
  refine wpAny_handleBy_cons (codeAny_handlers_test (named hc S ((PySem.W.exm_one (M := model X.prog X.w) L.inv.kIn ty hb).here ?_))) (by intro q; cases q)
  cases b with
  | false => exact r pins D a B sI σ H cls d s L (no rfl)
  | true =>
    refine codeAny_handlers_suite_as (HandSPX.lands_againZ L.fl fun h4 fl4 up4 => ?_)
    obtain ⟨oe4, vs4, he4, hz4, hd4, S4⟩ := (L.step fl4 up4).suite hf
    refine store_ok (X := X.suite a ((a, oe4) :: (X.pn ++ pins))) (v := .ref a) S4 hN hi (.inl hl) rfl (fun s5 S5 => ?_) (.inr hl)
    refine wpAny_mono ((hsu a oe4 cls d (X.pn ++ pins) hz4 ⟨_, hd4⟩).run [] s5 _ H _ S5 (yes rfl a L.na)) (fun f s6 z => ?_) (fun _ _ z => False.elim z)
    have ok := L.I.ok
    have gone := fun {σ6 : L2.St} {H6 : Hp} {Q : Shared → Prop} (S6 : Inv (X.suite a ((a, oe4) :: (X.pn ++ pins))) [] σ6 H6 s6) (hq : ∀ s7, Inv X pins (σ6.set i none) H6 s7 → Q s7) => gone_ok (M := model X.prog X.w) (A := X.A) (E := X.xe) (pos := pos') (Q := fun _ s7 => Q s7) (S6.unsuite ok) hN hi hl hq
    cases f with
    | next => exact let ⟨σ6, H6, S6, q6⟩ := z; gone S6 fun s7 J => ⟨_, H6, J, q6⟩
    | brk => exact let ⟨σ6, H6, S6, q6⟩ := z; gone S6 fun s7 J => ⟨_, H6, J, q6⟩
    | cont => exact let ⟨σ6, H6, S6, q6⟩ := z; gone S6 fun s7 J => ⟨_, H6, J, q6⟩
    | ret u => exact let ⟨v6, σ6, H6, S6, r6, q6⟩ := z; gone S6 fun s7 J => ⟨v6, _, H6, J, r6, q6⟩
theorem ps_tryW {body : List Stmt} {h₀ : ExceptHandler} {hds : List ExceptHandler} {pos : Pos} {tb : WX → TS} (hs : X.stack = X.env :: X.outer) (hf : X.env.frame = some X.env.locals) (hh : Hnd X (h₀ :: hds) W)
    (hb : ∀ (W : WX) (pn : List (Addr × Obj)) (xe : Value → Shared → Prop), Takes (X.tr pn xe) W → PassesOwn (model X.prog X.w) X.A X.env xe → PSs (X.tr pn xe) body (tb W)) : PS X (.Try body (h₀ :: hds) [] [] pos) (fun D σ H => tb (W D) D σ H) := by
  refine ⟨fun pins s σ H D I h => ?_⟩
  have ok := I.ok
  have hfr : X.A.frames = some (X.env :: X.outer) := by rw [ok.frames, hs]
  refine wpAny_Try_except (wpAny_mono ((hb (W D) (X.pn ++ pins) _ (fun u s' xx => ?_) PassesOwn.looking).run [] s σ H D (I.toTry _) h) (fun f s1 z => ?_) (fun e s1 he => he))
  · obtain ⟨a, B, sI, pins', σ', H', cls, d, rfl, J', nb, up, sky, na, os, ag, w⟩ := xx
    have J : Inv X pins σ' H' sI := J'.ofTry ok
    refine Sky.land Zc.steady hfr hf (by rw [← hs]; exact sky) fun h3 fl3 up3 => ?_
    exact hh pins D a B sI σ' H' cls d { s' with heap := h3 } ⟨J, nb, up.trans up3, fl3, na, os, ag⟩ w
  · cases f with
    | next => exact let ⟨σ', H', J', q⟩ := z; wpAny_execs_nil ⟨σ', H', J'.ofTry ok, q⟩
    | brk => exact let ⟨σ', H', J', q⟩ := z; ⟨σ', H', J'.ofTry ok, q⟩
    | cont => exact let ⟨σ', H', J', q⟩ := z; ⟨σ', H', J'.ofTry ok, q⟩
    | ret u => exact let ⟨v, σ', H', J', r, q⟩ := z; ⟨v, σ', H', J'.ofTry ok, r, q⟩
end
section
variable {X : Cx} {CX : CXT} {k : Nat} {f C : Addr} {fd : FuncData} {ps : List Str} {sp : Sp} {E : L2.St → XK} {x m : Str} {p apos pos : Pos} {e o : Expr} {es : List Expr} {ta : TE} {t : TA}
/-- C(..), what is raised wished for at the slots -/
def tMakeS (C : Addr) (sp : Sp) (E : L2.St → XK) (t : TA) : TE := fun σ H Q => t σ H fun vs H1 => ∀ x dx, H1 x = none → H1 dx = none → dx ≠ x → sp (.ref x :: vs) (upd (upd H1 dx (.own x)) x (.ins C dx [])) (fun v H2 => v = .non ∧ Q (.ref x) H2) (E σ)
theorem pe_makeS (M : Mk X.K C f) (F : FnOk X.prog X.w X.K X.mg X.base CX k f fd ps sp) (hr : Room (k + 1) X.A) (hg : Gl X x) (hm : X.mg x = some (.ref C)) (hb : Binds X.K fd ps []) (hx : ∀ σ, PassesAt CX X σ (E σ))
    (ha : PA X (e :: es) t) (hdb : (x == ("__debug__" : Str)) = false := by decide) (he : starEach (e :: es) X.env = (false, eval e X.env) :: starEach es X.env := by rfl) (hpl : (backTo pos (starEach es X.env)).any (·.1) = false := by rfl) :
    PE X (.Call (.Name x p) (e :: es) [] pos) (tMakeS C sp E t) := by
  refine ⟨fun pins s σ H Q I h => wpAny_Call_Name_kw (ld_glob I hg hm ?_ hdb)⟩
  refine PySem.W.callWith_K (h₀ := X.base) I.ok.mod.kin M.kp (thn (ha.run pos pins s σ H _ I h) fun us s1 ⟨vs, H1, I1, r, q⟩ => ⟨I1.kIn, ?_⟩) he hpl
  have q1 := q (s1.heap.objs.size + 1) s1.heap.objs.size (I1.hok.fresh (Nat.le_succ _)) (I1.hok.fresh (Nat.le_refl _)) (Nat.ne_of_lt (Nat.lt_succ_self _))
  have I2 := Inv.made (C := C) I1
  have r2 : Vals (V.ref (s1.heap.objs.size + 1) :: vs) (Value.ref (s1.heap.objs.size + 1) :: us) := .cons rfl r
  have hl : (Value.ref (s1.heap.objs.size + 1) :: us).length = ps.length := by rw [← r2.length]; exact F.len _ _ _ _ q1
  have b := hb _ _ I2.kIn (by rw [List.append_nil]; exact hl)
  rw [List.append_nil] at b
  refine wpAny_call (make_map (f := f) I1.kIn M.makes M.init (beq_iff_eq.mp M.fn) (codeAny_mono (F.run _ X.stack _ _ _ _ _ _ (E σ) (hr.make C us []) (I2.env0.make C us []) b r2 q1) fun r s' z => ?_))
  cases r with
  | error e => exact hx σ pins _ _ e s' I2 z
  | ok fl =>
    cases fl with
    | ret u => exact let ⟨v, H', I3, rv, ev, q3⟩ := I2.after z; ⟨by subst ev; exact rv, ⟨V.ref (s1.heap.objs.size + 1), H', I3, rfl, q3⟩⟩
    | next => exact z.elim
    | brk => exact z.elim
    | cont => exact z.elim
/-- o.m(..), what is raised wished for at the slots -/
def tMethW (C : Addr) (m : Str) (sp : Sp) (E : L2.St → XK) (ta : TE) (t : TA) : TE := fun σ H Q => ta σ H fun x H1 => ∃ a dx fs, x = .ref a ∧ H1 a = some (.ins C dx fs) ∧ fs.lookup m = none ∧ t σ H1 fun vs H2 => sp (x :: vs) H2 Q (E σ)
theorem pe_methW {pl : Sem Bool} (he : PE X o ta) (c : Cls X.K C) (hm : Meth X.K C m f) (F : FnOk X.prog X.w X.K X.mg X.base CX k f fd ps sp) (hr : Room k X.A) (hb : Binds X.K fd ps []) (hx : ∀ σ, PassesAt CX X σ (E σ)) (ha : PA X (e :: es) t)
    (hst : starEach (e :: es) X.env = (false, eval e X.env) :: starEach es X.env := by rfl) (hpl : (backTo pos (starEach es X.env)).any (·.1) = false := by rfl)
    (ht : eval (.Call (.Attribute o m apos) (e :: es) [] pos) X.env = (do
      let ov ← eval o X.env
      standAt apos.atName
      let (f, first) ← holding [ov] (getMethod ov m pl)
      callWith pos f first (backTo pos (starEach (e :: es) X.env)) (backToKw pos (keywordEach [] X.env))) := by rfl) : PE X (.Call (.Attribute o m apos) (e :: es) [] pos) (tMethW C m sp E ta t) := by
  refine ⟨fun pins s σ H Q I h => PySem.W.methodCall_KW (pl := pl) (thn (he.run pins s σ H _ I h) fun u s1 ⟨x, H1, I1, rx, a, dx, fs, ex, ea, l, q⟩ => ?_) ht⟩
  subst ex
  cases rx
  refine getmeth_ok I1 ea c hm l (PySem.W.callWith_K (first := [.ref a]) (h₀ := X.base) I.ok.mod.kin hm.kp (thn (ha.run pos pins s1 σ H1 _ I1 q) fun us s2 ⟨vs, H2, I2, r, q2⟩ => ⟨I2.kIn, ?_⟩) hst hpl)
  exact run_fnS (us := .ref a :: us) (vs := .ref a :: vs) F hr hb (hx σ) I2 (.cons rfl r) q2
end
end Tw

set_option maxRecDepth 100000
set_option maxHeartbeats 4000000
namespace Sg
open PySem PySem.Spec PyProof.Rows L2 Dr Gd Er Cm Ow Tw
abbrev sMade : Stmt := top 25
abbrev sLar : Stmt := top 26
structure Kx (K : PySem.W.Frag) (cN cC cB cS : Addr) : Prop where
  nn : PySem.W.exmOne K (.ref cN) (.ref cN) = some true
  cn : PySem.W.exmOne K (.ref cC) (.ref cN) = some false
  cc : PySem.W.exmOne K (.ref cC) (.ref cC) = some true
  bn : PySem.W.exmOne K (.ref cB) (.ref cN) = some false
  bc : PySem.W.exmOne K (.ref cB) (.ref cC) = some false
  bb : PySem.W.exmOne K (.ref cB) (.ref cB) = some true
  ss : PySem.W.exmOne K (.ref cS) (.ref cS) = some true
  xB : XfC K cB
  xS : XfC K cS
  nB : PySem.W.findIn K (.ref cB) "number" = some none
  nS : PySem.W.findIn K (.ref cS) "name" = some none
/-- the class as it is made, and what its __init__ promises -/
structure MkS (P : Program) (w : World) (K : PySem.W.Frag) (mg : Str → Option Value) (base : Heap) (cN cC cB C fi : Addr) (di : FuncData) : Prop where
  mm : Mk K C fi
  ok : FnOk P w K mg base (L2.CX P w) 3 fi di ["self", "pairs"] (spInit K cN cC cB C)
  b : Binds K di ["self", "pairs"] []
  g : mg "Signs" = some (.ref C)
def MadeEnd (C : Addr) (H : Hp) (Q : VK) : Made → Prop
  | .noList => ∀ t H', Same H H' → H t = none → H' t = some (.tup [.str "list", .int 0]) → Q (.ref t) H'
  | .count => ∀ t H', Same H H' → H t = none → H' t = some (.tup [.str "count", .int 0]) → Q (.ref t) H'
  | .sign i => ∀ t H', Same H H' → H t = none → H' t = some (.tup [.str "sign", .int (i : Nat)]) → Q (.ref t) H'
  | .ok ps => ∀ x H', Same H H' → H x = none → SgAt C H' x ps → Q (.ref x) H'
def spMade (K : PySem.W.Frag) (C : Addr) : Sp := fun vs H Q _ => ∃ v d, vs = [v] ∧ Dp K H v d ∧ Shorts d ∧ MadeEnd C H Q (madeOf d)
theorem same_ins {H H' : Hp} {x dx C : Addr} (hx : H x = none) (hdx : H dx = none) (s : SameX x (L2.upd (L2.upd H dx (.own x)) x (.ins C dx [])) H') : Same H H' := fun b o e => by
  have n := ne_of_none e hx
  exact s b o (by rw [upd_ne n, upd_ne (ne_of_none e hdx)]; exact e) n
section
variable {P : Program} {w : World} {K : PySem.W.Frag} {mg : Str → Option Value} {base : Heap} {cN cC cB cS eN eC eB eS C fi : Addr} {di : FuncData}
theorem scMd : FnScope ["pairs", "e"] ["pairs"] (defScope sMade) := ⟨rfl, rfl, rfl, by decide +kernel, rfl, by decide +kernel, by decide +kernel⟩
theorem ok_made {f : Addr} {fd : FuncData} (F : Fun K "_law_made" "_law_made" sMade f fd) (Z : Ke P K mg cN cC cB cS eN eC eB eS) (XX : Kx K cN cC cB cS) (M : MkS P w K mg base cN cC cB C fi di) : FnOk P w K mg base CX0 5 f fd ["pairs"] (spMade K C) := by
  refine F.ok scMd (fun vs H Q E h => ?_) (fun cdv A outer s H vs Q E hr h => ?_)
  · obtain ⟨v, d, rfl, _⟩ := h
    rfl
  · obtain ⟨v, d, rfl, hd, hs, q⟩ := h
    refine ⟨_, pss_one (ps_tryW rfl rfl
      (hnd_one rfl ⟨rfl, by decide, .inl Z.gN⟩ (fun a oe cls d pn hz hf => pss_one (ps_ret (pe_tup (pa_cons pe_str (pa_cons pe_int pa_nil)))))
      (hnd_one rfl ⟨rfl, by decide, .inl Z.gC⟩ (fun a oe cls d pn hz hf => pss_one (ps_ret (pe_tup (pa_cons pe_str (pa_cons pe_int pa_nil)))))
      (hnd_nm (i := 1) rfl scMd.nd rfl rfl ⟨rfl, by decide, .inl Z.gB⟩ (fun a oe cls d pn hz hf => pss_one (ps_ret (pe_tup (pa_cons pe_str (pa_cons (pe_xf XX.xB XX.nB hz hf (pv 1)) pa_nil)))))
      (hnd_nil rfl rfl takes0))))
      (fun W pn xe tk _ => pss_one (ps_ret (pe_makeS M.mm M.ok hr rfl M.g M.b (fun σ => passAt tk σ) (pa_cons (pv 0) pa_nil))))), ?_⟩
    refine ⟨_, rfl, fun x dx hx hdx hne => ⟨x, v, d, dx, rfl, upd_same, ?_, hs, ?_⟩⟩
    · exact dp_same (fun b o e => by rw [upd_ne (ne_of_none e hx), upd_ne (ne_of_none e hdx)]; exact e) _ _ hd
    · cases hm : madeOf d with
      | noList =>
        rw [hm] at q
        intro H' s'
        have sm := same_ins hx hdx s'
        refine ⟨true, XX.nn, fun _ a ha => ⟨(by show 2 ≤ sizeLine; decide), fun t ht => ?_⟩, fun z => Bool.noConfusion z⟩
        exact q t _ (Same.trans sm (same_upd ht)) (Same.free sm ht) upd_same
      | count =>
        rw [hm] at q
        intro H' s'
        have sm := same_ins hx hdx s'
        refine ⟨false, XX.cn, fun z => Bool.noConfusion z, fun _ => ⟨true, XX.cc, fun _ a ha => ⟨(by show 2 ≤ sizeLine; decide), fun t ht => ?_⟩, fun z => Bool.noConfusion z⟩⟩
        exact q t _ (Same.trans sm (same_upd ht)) (Same.free sm ht) upd_same
      | sign i =>
        rw [hm] at q
        intro H' dd s' hdd e'
        have sm := same_ins hx hdx s'
        refine ⟨false, XX.bn, fun z => Bool.noConfusion z, fun _ => ⟨false, XX.bc, fun z => Bool.noConfusion z, fun _ => ⟨true, XX.bb, fun _ a ha => ?_, fun z => Bool.noConfusion z⟩⟩⟩
        refine ⟨_, rfl, rfl, rfl, dd, _, .int (i : Nat), rfl, e', rfl, (by show 2 ≤ sizeLine; decide), fun t ht => ?_⟩
        exact q t _ (Same.trans sm (same_upd ht)) (Same.free sm ht) upd_same
      | ok ps =>
        rw [hm] at q
        intro H' s' hS
        exact ⟨rfl, q x H' (same_ins hx hdx s') hx hS⟩
end
end Sg

set_option maxRecDepth 100000
set_option maxHeartbeats 4000000
namespace Sg
open PySem PySem.Spec PyProof.Rows L2 Dr Gd Er Cm Ow Tw
structure Okv (d : PyData) : Prop where
  sh : d.showable = true
  nd : d.hasDict = false
  sz : d.shown.length ≤ sizeLine
  dp : d.depth ≤ 60
structure ArAt (P : Program) (w : World) (K : PySem.W.Frag) (base : Heap) (mg : Str → Option Value) (cS C fa : Addr) (da : FuncData) : Prop where
  m : Meth K C "arity" fa
  ok : FnOk P w K mg base (L2.CX P w) 2 fa da ["self", "name"] (spAr K cS C)
  b : Binds K da ["self", "name"] []
def spLar (K : PySem.W.Frag) (C : Addr) : Sp := fun vs H Q _ => ∃ x v d ps, vs = [.ref x, v] ∧ SgAt C H x ps ∧ Dp K H v d ∧ (arD ps d = none → Okv d) ∧ (∀ n, arD ps d = some n → Q (.int n) H) ∧
  (arD ps d = none → ∀ t H', Same H H' → H t = none → H' t = some (.tup [.str "none", .str d.shown]) → Q (.ref t) H')
section
variable {P : Program} {w : World} {K : PySem.W.Frag} {mg : Str → Option Value} {base : Heap} {cN cC cB cS eN eC eB eS C fa : Addr} {da : FuncData}
theorem scLa : FnScope ["signs", "name", "e"] ["signs", "name"] (defScope sLar) := ⟨rfl, rfl, rfl, by decide +kernel, rfl, by decide +kernel, by decide +kernel⟩
theorem ok_lar {f : Addr} {fd : FuncData} (F : Fun K "_law_arity" "_law_arity" sLar f fd) (Z : Ke P K mg cN cC cB cS eN eC eB eS) (XX : Kx K cN cC cB cS) (S : SCl K C) (M : ArAt P w K base mg cS C fa da) (hrp : mg "repr" = none) : FnG P w K mg base CX0 3 f fd ["signs", "name"] (spLar K C) := by
  refine okG F scLa (fun vs H Q E h => ?_) (fun cdv A outer s H vs Q E hgd hr h => ?_)
  · obtain ⟨x, v, d, ps, rfl, _⟩ := h
    rfl
  · obtain ⟨x, v, d, ps, rfl, hS, hd, od, q1, q2⟩ := h
    have hu : (A.deeper (envOfC "_law_arity" (defScope sLar) s.heap.objs.size f cdv)).units + 70 < cLine := by
      have := hr.un
      omega
    obtain ⟨dx, dn, h1, h2⟩ := id hS
    refine ⟨_, pss_one (ps_tryW rfl rfl
      (hnd_nm (i := 2) rfl scLa.nd rfl rfl ⟨rfl, by decide, .inl Z.gS⟩ (fun a oe cls d pn hz hf => pss_one (ps_ret (pe_tup (pa_cons pe_str (pa_cons (pe_callB (show CallR _ (.builtin "repr") (rRepr K) from call_reprD hgd hu) (by rfl) hrp (by decide +kernel) (pa_cons (pe_xf XX.xS XX.nS hz hf (pv 2)) pa_nil)) pa_nil)))))
      (hnd_nil rfl rfl takes0))
      (fun W pn xe tk _ => pss_one (ps_ret (pe_methW (pv 0) S.cl M.m M.ok hr M.b (fun σ => passAt tk σ) (pa_cons (pv 1) pa_nil))))), ?_⟩
    refine ⟨_, rfl, x, dx, _, rfl, h1, rfl, _, rfl, x, v, d, ps, rfl, hS, hd, q1, fun e dd hdd => ?_⟩
    have od := od e
    refine ⟨true, XX.ss, fun _ a ha => ?_, fun z => Bool.noConfusion z⟩
    have sd : Same H (L2.upd H dd (.xd [("name", v)])) := same_upd hdd
    refine ⟨_, rfl, rfl, rfl, dd, _, v, rfl, upd_same, rfl, v, d, rfl, dp_same sd _ _ hd, od.sh, od.nd, od.sz, od.dp, ?_⟩
    exact ⟨(by show 2 ≤ sizeLine; decide), fun t ht => q2 e t _ (Same.trans sd (same_upd ht)) (Same.free sd ht) upd_same⟩
end
end Sg

set_option maxRecDepth 100000
set_option maxHeartbeats 4000000
namespace Sg
open PySem PySem.Spec PyProof.Rows L2 Dr Gd Er Cm Ow Tw
abbrev sLways : Stmt := top 23
def spLw (K : PySem.W.Frag) : Sp := fun vs H Q _ => ∃ v ps, vs = [v] ∧ Dp K H v (psD ps) ∧ ps.length ≤ 5 ∧ ∀ H' ys p, Same H H' → H p = none → ys.Perm (waysOf ps) → sortedS ys = true → H' p = some (.lst (ys.map V.str)) → Q (.ref p) H'
theorem pr_at {K : PySem.W.Frag} {H : Hp} {xs : List V} {ps : List (Str × Int)} {i : Nat} {y : V} (h : DpAll K H xs (prD ps)) (g : xs[i]? = some y) : ∃ z n t, ps[i]? = some (z, n) ∧ y = .ref t ∧ SqT K H t [.str z, .int n] := by
  obtain ⟨d, h1, h2⟩ := dpAll_get' h g
  unfold prD at h1
  rw [List.getElem?_map] at h1
  cases e : ps[i]? with
  | none => rw [e] at h1; cases h1
  | some p =>
    rw [e] at h1
    obtain rfl := Option.some.inj h1
    cases h2 with
    | tup g1 g2 =>
      cases g2 with
      | cons a g2 =>
        cases g2 with
        | cons b g2 =>
          cases g2
          cases a
          cases b
          exact ⟨p.1, p.2, _, rfl, rfl, g1⟩
section
variable {P : Program} {w : World} {K : PySem.W.Frag} {mg : Str → Option Value} {base : Heap}
theorem scLw : FnScope ["pairs", "name", "arity"] ["pairs"] (defScope sLways) := ⟨rfl, rfl, rfl, by decide +kernel, rfl, by decide +kernel, by decide +kernel⟩
theorem ok_lways {f : Addr} {fd : FuncData} (F : Fun K "_law_ways" "_law_ways" sLways f fd) (hs : mg "sorted" = none) : FnOk P w K mg base CX0 1 f fd ["pairs"] (spLw K) := by
  refine F.ok scLw (fun vs H Q E h => ?_) (fun cdv A outer s H vs Q E hr h => ?_)
  · obtain ⟨v, ps, rfl, _⟩ := h
    rfl
  · obtain ⟨v, ps, rfl, hd, h5, q⟩ := h
    refine ⟨_, pss_one (ps_ret (pe_callB cr_sortedS (by rfl) hs (by decide +kernel) (pa_cons
      (pe_lc (own := [("name", 1), ("arity", 2)]) (g := gTup K 2 (gCons (gName 1) (gCons (gName 2) gNil))) (tt := tTest (tOp (rI0 fun i j => .bl (decide (j ≤ i))) (tVar 2) (tC (.int 2)))) rfl scLw.nd (pi_list (pv 0))
        (blkOk_by (N := ["pairs", "name", "arity"]) (sc := defScope sLways) (by decide +kernel)) (fun _ _ _ _ _ => pg_tup rfl (pgs_cons (pg_name (i := 1) scLw.nd rfl (Or.inl rfl)) (pgs_cons (pg_name (i := 2) scLw.nd rfl (Or.inl rfl)) pgs_nil)))
        (fun _ _ _ _ _ => pts_one (pt_cmpR op_ge (pv 2) pe_int (nomark _))) (fun _ _ _ _ _ => pv 1)) pa_nil))), ?_⟩
    cases hd with
    | lst g1 g2 =>
      rename_i a xs
      have g2 : DpAll K H xs (prD ps) := g2
      have hl : xs.length = ps.length := (dpAll_len g2).trans (List.length_map ..)
      refine ⟨_, rfl, a, rfl, ⟨_, g1⟩, fun D hD => ?_⟩
      refine lc_it (walk_list (xs := xs)) (fun i H' => Same H H' ∧ H' D = some (.lst ((waysOf (ps.take i)).map V.str))) ⟨same_upd hD, upd_same⟩ (fun i H' hi hp => Same.seq hp.1 g1) (fun i y H1 H2 hi hp hy => ?_) (fun H' hp => ?_)
      · obtain ⟨rfl, ey⟩ := hy
        obtain ⟨sm, hDl⟩ := hp
        obtain ⟨z, n, t, ep, rfl, ht⟩ := pr_at g2 ey
        refine ⟨t, _, rfl, seqT_same sm ht, rfl, ?_⟩
        refine ⟨_, _, rfl, _, _, rfl, rfl, ?_⟩
        refine ⟨rfl, ?_⟩
        refine ⟨_, rfl, _, _, rfl, rfl, _, rfl, ?_⟩
        refine ite2 (fun c => ?_) (fun c => ?_)
        · have c : n > 1 := by
            have := of_decide_eq_true c
            omega
          refine ⟨_, rfl, _, hDl, ?_, ?_, ?_⟩
          · rw [List.length_map]
            have := ways_len (ps.take i)
            rw [List.length_take] at this
            have h6 : (waysOf (ps.take i)).length < 1000 := by omega
            exact Nat.lt_trans h6 (by decide)
          · exact fun b o e => by
              have : b ≠ D := fun z => by rw [z, hD] at e; cases e
              rw [upd_ne this]
              exact sm b o e
          · rw [upd_same, ways_take ep, if_pos c, List.map_append]
            rfl
        · have c : ¬ n > 1 := fun z => c (decide_eq_true (by omega))
          rw [ways_take ep, if_neg c]
          exact ⟨sm, hDl⟩
      · obtain ⟨sm, hDl⟩ := hp
        rw [hl, List.take_length] at hDl
        refine ⟨D, waysOf ps, rfl, SqL.of hDl, ?_, fun ys p hp1 hp2 hp3 => ?_⟩
        · have := ways_len ps
          omega
        · exact q _ ys p (Same.trans sm (same_upd hp3)) (Same.free sm hp3) hp1 hp2 upd_same
end
end Sg

set_option maxRecDepth 100000
set_option maxHeartbeats 4000000
namespace Sg
open PySem PySem.Spec PyProof.Rows L2 Dr Gd Er Cm Ow Tw
abbrev sNear : Stmt := top 24
theorem cut_take (xs : List V) (k : Nat) : cutV xs none (some (k : Int)) = xs.take k := by
  unfold cutV
  rw [HT.sIx_none, HT.sIx_nat, List.drop_zero, Nat.sub_zero]
  rcases Nat.le_total k xs.length with h | h
  · rw [Nat.min_eq_left h]
  · rw [Nat.min_eq_right h, List.take_length, List.take_of_length_le h]
theorem cut_drop (xs : List V) (k : Nat) : cutV xs (some (k : Int)) none = xs.drop k := by
  unfold cutV
  rw [HT.sIx_none, HT.sIx_nat]
  rcases Nat.le_total k xs.length with h | h
  · rw [Nat.min_eq_left h, List.take_of_length_le (by rw [List.length_drop]; omega)]
  · rw [Nat.min_eq_right h, List.drop_eq_nil_of_le h, List.drop_eq_nil_of_le (Nat.le_refl _), List.take_nil]
def nearA (n : Int) : Int := if n = 0 then 1 else if n = 1 then 0 else if n = 2 then 3 else 2
def nearPs (ps : List (Str × Int)) : List (Str × Int) := ps.map fun p => (p.1, nearA p.2)
def nearsOf (ps : List (Str × Int)) : List (List (Str × Int)) := [nearPs ps, (nearPs ps).take 1 ++ ps.drop 1, ps.reverse].filter fun q => !decide (q = ps)
theorem word_ok {z : Str} (h : wordIn Lc z = true) : PyData.strOk z = true := by
  unfold wordIn at h
  rw [Bool.and_eq_true, Bool.and_eq_true] at h
  have h2 := h.2.2
  rw [List.all_eq_true] at h2
  unfold PyData.strOk
  rw [Array.all_eq_true']
  intro c hc
  have := h2 c (by simpa using hc)
  have hm : c ∈ Lc.cps.toList := of_decide_eq_true this
  have all : ∀ c ∈ Lc.cps.toList, c < 0x110000 := by decide +kernel
  exact decide_eq_true (all c hm)
theorem good_ok {ps : List (Str × Int)} (h : Good ps) : OkNames ps := fun p hp => word_ok (h.2.2.2.1 p hp).1
theorem nearA_at {n : Int} (h0 : 0 ≤ n) (h3 : n ≤ 3) : atI [V.int 1, .int 0, .int 3, .int 2] n = some (.int (nearA n)) := by
  rcases (show n = 0 ∨ n = 1 ∨ n = 2 ∨ n = 3 by omega) with rfl | rfl | rfl | rfl <;> rfl
def spNear (K : PySem.W.Frag) : Sp := fun vs H Q _ => ∃ l xs ps, vs = [.ref l] ∧ H l = some (.lst xs) ∧ DpAll K H xs (prD ps) ∧ Good ps ∧ ∀ p us H', Same H H' → H p = none → H' p = some (.lst us) → DpAll K H' us ((nearsOf ps).map psD) → Q (.ref p) H'
theorem psD_eq (ps : List (Str × Int)) : psD ps = .list (prD ps) := rfl
theorem dpAll_drop {K : PySem.W.Frag} {H : Hp} : ∀ (k : Nat) {vs : List V} {ds : List PyData}, DpAll K H vs ds → DpAll K H (vs.drop k) (ds.drop k)
  | 0, _, _, h => h
  | k + 1, [], [], h => h
  | k + 1, v :: vs, d :: ds, h => by
    cases h with
    | cons a b => exact dpAll_drop k b
theorem dpAll_take {K : PySem.W.Frag} {H : Hp} : ∀ (k : Nat) {vs : List V} {ds : List PyData}, DpAll K H vs ds → DpAll K H (vs.take k) (ds.take k)
  | 0, _, _, _ => .nil
  | k + 1, [], [], _ => .nil
  | k + 1, v :: vs, d :: ds, h => by
    cases h with
    | cons a b => exact .cons a (dpAll_take k b)
theorem dpAll_rev {K : PySem.W.Frag} {H : Hp} : ∀ {vs : List V} {ds : List PyData}, DpAll K H vs ds → DpAll K H vs.reverse ds.reverse
  | [], [], _ => .nil
  | v :: vs, d :: ds, h => by
    cases h with
    | cons a b =>
      rw [List.reverse_cons, List.reverse_cons]
      exact dpAll_app (dpAll_rev b) (.cons a .nil)
theorem oks_near {ps : List (Str × Int)} (h : OkNames ps) : OkNames (nearPs ps) := fun q hq => by
  obtain ⟨p, hp, rfl⟩ := List.mem_map.mp hq
  exact h p hp
theorem oks_app {ps qs : List (Str × Int)} (h : OkNames ps) (g : OkNames qs) : OkNames (ps ++ qs) := fun q hq => (List.mem_append.mp hq).elim (h q) (g q)
section
variable {P : Program} {w : World} {K : PySem.W.Frag} {mg : Str → Option Value} {base : Heap}
theorem scNr : FnScope ["pairs", "near", "name", "arity", "some"] ["pairs"] (defScope sNear) := ⟨rfl, rfl, rfl, by decide +kernel, rfl, by decide +kernel, by decide +kernel⟩
theorem ok_near {f : Addr} {fd : FuncData} (F : Fun K "_law_near_signs" "_law_near_signs" sNear f fd) : FnOk P w K mg base CX0 1 f fd ["pairs"] (spNear K) := by
  refine F.ok scNr (fun vs H Q E h => ?_) (fun cdv A outer s H vs Q E hr h => ?_)
  · obtain ⟨l, xs, ps, rfl, _⟩ := h
    rfl
  · obtain ⟨l, xs, ps, rfl, hl, hd, hg, q⟩ := h
    refine ⟨_, pss_cons (ps_setLc (i := 1) (own := [("name", 2), ("arity", 3)]) (g := gTup K 2 (gCons (gName 2) (gCons (gName 3) gNil))) (tt := tYes) (te := tTup (tCons (tVar 2) (tCons (tOp (rIxL K) (tLst (tCons (tC (.int 1)) (tCons (tC (.int 0)) (tCons (tC (.int 3)) (tCons (tC (.int 2)) tNil))))) (tVar 3)) tNil))) (by rfl) scNr.nd rfl rfl (sw_true rfl rfl rfl (by decide +kernel)) (pi_list (pv 0))
        (blkOk_by (N := ["pairs", "near", "name", "arity", "some"]) (sc := defScope sNear) (by decide +kernel)) (fun _ _ _ _ _ => pg_tup rfl (pgs_cons (pg_name (i := 2) scNr.nd rfl (Or.inl rfl)) (pgs_cons (pg_name (i := 3) scNr.nd rfl (Or.inl rfl)) pgs_nil)))
        (fun _ _ _ _ _ => pts_nil) (fun _ _ _ _ _ => pe_tup (pa_cons (pv 2) (pa_cons (pe_ix ix_list (pe_lst (pa_cons pe_int (pa_cons pe_int (pa_cons pe_int (pa_cons pe_int pa_nil))))) (pv 3) fun _ _ => rfl) pa_nil))))
      (pss_one (ps_ret (pe_lc (own := [("some", 4)]) (g := gName 4) (tt := tTest (tOp (rNeD K) (tVar 4) (tVar 0))) rfl scNr.nd
        (pi_tup (pe_tup (pa_cons (pv 1) (pa_cons (pe_op op_cat (pe_slice sl_list (pv 1) po_none (po_some pe_int)) (pe_slice sl_list (pv 0) (po_some pe_int) po_none)) (pa_cons (pe_revL (pv 0)) pa_nil)))))
        (blkOk_by (N := ["pairs", "near", "name", "arity", "some"]) (sc := defScope sNear) (by decide +kernel)) (fun _ _ _ _ _ => pg_name (i := 4) scNr.nd rfl (Or.inl rfl))
        (fun _ _ _ _ _ => pts_one (pt_cmpR (op_neD hr.units) (pv 4) (pv 0) (nomark _))) (fun _ _ _ _ _ => pv 4)))), ?_⟩
    have hxl : xs.length = ps.length := (dpAll_len hd).trans (List.length_map ..)
    have ok := good_ok hg
    have pl4 : ps.length ≤ 4 := hg.2.1
    have big : (1000 : Nat) ≤ sizeLine := by decide
    refine ⟨_, rfl, l, rfl, ⟨_, SqL.of hl⟩, fun D hD => ?_⟩
    refine lc_it (walk_list (xs := xs)) (fun i H' => ∃ ns, Same H H' ∧ H' D = some (.lst ns) ∧ DpAll K H' ns (prD (nearPs (ps.take i)))) ⟨[], same_upd hD, upd_same, .nil⟩ (fun i H' hi hp => SqL.of (hp.choose_spec.1 _ _ hl)) (fun i y H1 H2 hi hp hy => ?_) (fun H' hp => ?_)
    · obtain ⟨rfl, ey⟩ := hy
      obtain ⟨ns, sm, hDl, hns⟩ := hp
      obtain ⟨z, n, t, ep, rfl, ht⟩ := pr_at hd ey
      have hz := hg.2.2.2.1 _ (List.mem_of_getElem? ep)
      refine ⟨t, _, rfl, seqT_same sm ht, rfl, ?_⟩
      refine ⟨_, _, rfl, _, _, rfl, rfl, ?_⟩
      refine ⟨rfl, lcYes ?_⟩
      refine ⟨_, rfl, (by show 4 ≤ sizeLine; decide), fun l4 hl4 => ?_⟩
      refine ⟨_, rfl, l4, _, _, _, rfl, rfl, SqL.of upd_same, nearA_at hz.2.1 hz.2.2, (by show 2 ≤ sizeLine; decide), fun T hT => ?_⟩
      have s4 := Same.trans (same_upd (o := .lst [V.int 1, .int 0, .int 3, .int 2]) hl4) (same_upd (o := .tup [V.str z, .int (nearA n)]) hT)
      have nl : ns.length < 1000 := by
        have := dpAll_len hns
        unfold prD nearPs at this
        rw [List.length_map, List.length_map, List.length_take] at this
        omega
      have hTD : T ≠ D := fun e => by
        rw [e] at hT
        have := (same_upd (o := .lst [V.int 1, .int 0, .int 3, .int 2]) hl4) _ _ hDl
        rw [this] at hT
        cases hT
      have hDl' := s4 _ _ hDl
      refine ⟨ns, hDl', by omega, ns ++ [.ref T], ?_, upd_same, ?_⟩
      · exact fun b o e => by
          have : b ≠ D := fun z => by rw [z, hD] at e; cases e
          rw [upd_ne this]
          exact s4 _ _ (sm b o e)
      · refine pr_updL hDl' ?_
        have e1 : nearPs (ps.take (i + 1)) = nearPs (ps.take i) ++ [(z, nearA n)] := by
          rw [List.take_succ, ep]
          unfold nearPs
          rw [List.map_append]
          rfl
        rw [e1]
        unfold prD
        rw [List.map_append]
        exact dpAll_app (dpAll_same s4 _ _ hns) (.cons (.tup (SqT.of upd_same) (.cons (.str _) (.cons (.int _) .nil))) .nil)
    · obtain ⟨ns, sm, hDl, hns⟩ := hp
      rw [hxl, List.take_length] at hns
      have hns : DpAll K H' ns (prD (nearPs ps)) := hns
      have hl' := sm _ _ hl
      have hd' := dpAll_same sm _ _ hd
      have nl : ns.length = ps.length := (dpAll_len hns).trans (by unfold prD nearPs; rw [List.length_map, List.length_map])
      refine ⟨_, rfl, _, rfl, 1, rfl, D, ns, rfl, SqL.of hDl, fun p1 hp1 => ?_⟩
      have s1 := same_upd (o := .lst (cutV ns none (some 1))) hp1
      refine ⟨_, rfl, 1, rfl, l, xs, rfl, SqL.of (s1 _ _ hl'), fun p2 hp2 => ?_⟩
      have s2 := Same.trans s1 (same_upd (o := .lst (cutV xs (some 1) none)) hp2)
      have c1 : cutV ns none (some 1) = ns.take 1 := cut_take ns 1
      have c2 : cutV xs (some 1) none = xs.drop 1 := cut_drop xs 1
      refine ⟨p1, p2, _, _, rfl, rfl, same_upd hp2 _ _ upd_same, upd_same, ?_, fun p3 hp3 => ?_⟩
      · have h1 := cutV_length ns none (some 1)
        have h2 := cutV_length xs (some 1) none
        omega
      · have s3 := Same.trans s2 (same_upd (o := .lst (cutV ns none (some 1) ++ cutV xs (some 1) none)) hp3)
        refine ⟨_, rfl, l, xs, rfl, SqL.of (s3 _ _ hl'), fun p4 hp4 => ⟨(by show 3 ≤ sizeLine; decide), fun T hT => ?_⟩⟩
        have s34 := Same.trans (same_upd (o := .lst xs.reverse) hp4) (same_upd (o := .tup [.ref D, .ref p3, .ref p4]) hT)
        have s4 := Same.trans s3 s34
        have v1 := Dp.lst (SqL.of (s4 _ _ hDl)) (dpAll_same s4 _ _ hns)
        have v2 : Dp K _ (.ref p3) (psD ((nearPs ps).take 1 ++ ps.drop 1)) := Dp.lst (SqL.of (s34 _ _ upd_same)) (by
          have e12 : cutV ns none (some 1) ++ cutV xs (some 1) none = ns.take 1 ++ xs.drop 1 := by rw [c1, c2]
          have e13 : prD ((nearPs ps).take 1 ++ ps.drop 1) = (prD (nearPs ps)).take 1 ++ (prD ps).drop 1 := by unfold prD; rw [List.map_append, List.map_take, List.map_drop]
          have z := dpAll_app (dpAll_take 1 (dpAll_same s4 _ _ hns)) (dpAll_drop 1 (dpAll_same s4 _ _ hd'))
          exact Eq.subst (motive := fun l => DpAll K _ l (prD ((nearPs ps).take 1 ++ ps.drop 1))) e12.symm (Eq.subst (motive := fun l => DpAll K _ _ l) e13.symm z))
        have v3 : Dp K _ (.ref p4) (psD ps.reverse) := Dp.lst (SqL.of (same_upd hT _ _ upd_same)) (by
          show DpAll K _ _ (prD _)
          unfold prD
          rw [List.map_reverse]
          exact dpAll_rev (dpAll_same s4 _ _ hd'))
        have sH := Same.trans sm s4
        have o1 : OkNames (nearPs ps) := oks_near ok
        have o2 : OkNames ((nearPs ps).take 1 ++ ps.drop 1) := oks_app (fun p hp => o1 p (List.mem_of_mem_take hp)) (fun p hp => ok p (List.mem_of_mem_drop hp))
        have o3 : OkNames ps.reverse := fun p hp => ok p (List.mem_reverse.mp hp)
        obtain ⟨cs, ecs⟩ : ∃ cs, cs = [nearPs ps, (nearPs ps).take 1 ++ ps.drop 1, ps.reverse] := ⟨_, rfl⟩
        have vall : DpAll K (L2.upd (L2.upd (L2.upd (L2.upd (L2.upd H' p1 (.lst (cutV ns none (some 1)))) p2 (.lst (cutV xs (some 1) none))) p3 (.lst (cutV ns none (some 1) ++ cutV xs (some 1) none))) p4 (.lst xs.reverse)) T (.tup [.ref D, .ref p3, .ref p4])) [.ref D, .ref p3, .ref p4] (cs.map psD) := by rw [ecs]; exact .cons v1 (.cons v2 (.cons v3 .nil))
        have oall : ∀ c ∈ cs, OkNames c := by
          rw [ecs]
          intro c hc
          simp only [List.mem_cons, List.not_mem_nil, or_false] at hc
          rcases hc with rfl | rfl | rfl
          · exact o1
          · exact o2
          · exact o3
        have q' : ∀ p us H', Same H H' → H p = none → H' p = some (.lst us) → DpAll K H' us ((cs.filter fun q => !decide (q = ps)).map psD) → Q (.ref p) H' := by rw [ecs]; exact q
        have c3 : cs.length = 3 := by rw [ecs]; rfl
        clear ecs
        refine ⟨T, rfl, ⟨_, SqT.of upd_same⟩, fun D2 hD2 => ?_⟩
        refine lc_it (walk_tup (xs := [.ref D, .ref p3, .ref p4])) (fun i H5 => ∃ us, Same (L2.upd (L2.upd (L2.upd (L2.upd (L2.upd H' p1 (.lst (cutV ns none (some 1)))) p2 (.lst (cutV xs (some 1) none))) p3 (.lst (cutV ns none (some 1) ++ cutV xs (some 1) none))) p4 (.lst xs.reverse)) T (.tup [.ref D, .ref p3, .ref p4])) H5 ∧ H5 D2 = some (.lst us) ∧ us.length ≤ i ∧ DpAll K (L2.upd (L2.upd (L2.upd (L2.upd (L2.upd H' p1 (.lst (cutV ns none (some 1)))) p2 (.lst (cutV xs (some 1) none))) p3 (.lst (cutV ns none (some 1) ++ cutV xs (some 1) none))) p4 (.lst xs.reverse)) T (.tup [.ref D, .ref p3, .ref p4])) us (((cs.take i).filter fun q => !decide (q = ps)).map psD))
          ⟨[], same_upd hD2, upd_same, Nat.le_refl _, .nil⟩ (fun i H5 hi hp => seqT_same hp.choose_spec.1 (SqT.of upd_same)) (fun i y H5 H6 hi hp hy => ?_) (fun H5 hp => ?_)
        · obtain ⟨rfl, ey⟩ := hy
          obtain ⟨us, s5, hD5, hu5, hus⟩ := hp
          obtain ⟨d, hd1, hd2⟩ := dpAll_get' vall ey
          rw [List.getElem?_map] at hd1
          cases ec : cs[i]? with
          | none => rw [ec] at hd1; cases hd1
          | some c =>
            rw [ec] at hd1
            obtain rfl := Option.some.inj hd1
            refine ⟨rfl, _, rfl, _, rfl, psD c, psD ps, dp_same s5 _ _ hd2, dp_same (Same.trans sH s5) _ _ (.lst (SqL.of hl) hd), psD_shaped (oall c (List.mem_of_getElem? ec)), psD_shaped ok, _, rfl, ?_⟩
            rw [psD_eqv]
            have e1 : cs.take (i + 1) = cs.take i ++ [c] := by rw [List.take_succ, ec]; rfl
            have hi3 : i < 3 := hi
            refine ite2 (fun hc => ?_) (fun hc => ?_)
            · refine ⟨_, rfl, us, hD5, Nat.lt_of_le_of_lt hu5 (Nat.lt_trans hi3 (by decide)), us ++ [y], ?_, upd_same, ?_, ?_⟩
              · exact fun b o e => by
                  have : b ≠ D2 := fun z => by rw [z, hD2] at e; cases e
                  rw [upd_ne this]
                  exact s5 b o e
              · rw [List.length_append]; exact Nat.succ_le_succ hu5
              · rw [e1, List.filter_append, show List.filter (fun q => !decide (q = ps)) [c] = [c] from List.filter_cons_of_pos (p := fun q => !decide (q = ps)) hc, List.map_append]
                exact dpAll_app hus (.cons hd2 .nil)
            · refine ⟨us, s5, hD5, Nat.le_succ_of_le hu5, ?_⟩
              rw [e1, List.filter_append, show List.filter (fun q => !decide (q = ps)) [c] = [] from List.filter_cons_of_neg (p := fun q => !decide (q = ps)) hc]
              simpa using hus
        · obtain ⟨us, s5, hD5, hu5, hus⟩ := hp
          rw [show cs.take [V.ref D, .ref p3, .ref p4].length = cs from by rw [show [V.ref D, V.ref p3, V.ref p4].length = cs.length from c3.symm]; exact List.take_length] at hus
          exact q' D2 us H5 (Same.trans sH s5) (Same.free sH hD2) hD5 (dpAll_same s5 _ _ hus)
end
end Sg

set_option maxRecDepth 100000
set_option maxHeartbeats 4000000
namespace Sg
open PySem PySem.Spec PyProof.Rows L2 Dr Gd Er Cm Ow Tw
abbrev sOdd : Stmt := top 28
def q9 : Str := ⟨(List.replicate 9 ("q" : Str).cps).foldl (· ++ ·) #[]⟩
section
variable {X : Cx}
theorem op_q9 : OpR X (binaryOp .Mult) (fun x y H Q => x = .str "q" ∧ y = .int 9 ∧ Q (.str q9) H) := by
  intro pins s σ H x y v u Q I rx ry h
  obtain ⟨rfl, rfl, q⟩ := h
  obtain ⟨t, rfl⟩ := rx
  obtain ⟨t', rfl⟩ := ry
  refine PySem.P.mul_str (by decide) (fun _ _ => by decide +kernel) (fun _ _ => by decide +kernel) ?_
  rw [if_neg (by decide), if_neg (by decide +kernel)]
  exact ⟨by decide +kernel, ⟨.str q9, H, I.tok _, ⟨_, rfl⟩, q⟩⟩
end
section
variable {X : Cx} {c : L2.St → Prop} {e : Expr} {es : List Expr} {d : PyData} {ds : List PyData} {pos : Pos}
theorem pd_pow30 {j k : Nat} {p1 p2 : Pos} : PE X (.BinOp (.Constant (.int 10) j p1) .Pow (.Constant (.int 30) k p2) pos) (tDat X.K c (.int (10 ^ 30))) :=
  pe_imp (fun σ H Q h => ⟨_, _, rfl, rfl, ⟨by decide, by decide, by decide⟩, h.2 _ H (Same.refl H) (.int _)⟩) (pe_op op_pow pe_int pe_int)
theorem pd_q9 {j k : Nat} {p1 p2 : Pos} : PE X (.BinOp (.Constant (.str "q") j p1) .Mult (.Constant (.int 9) k p2) pos) (tDat X.K c (.str q9)) :=
  pe_imp (fun σ H Q h => ⟨rfl, rfl, h.2 _ H (Same.refl H) (.str _)⟩) (pe_op op_q9 pe_str pe_int)
end
/-- the slot of the name -/
def cQ (z : Str) : L2.St → Prop := fun σ => σ[0]? = some (some (.str z))
theorem pd_name {X : Cx} {z x : Str} {pos : Pos} (hN : X.N[0]? = some x := by rfl) (hv : Vis X.env.scope x := by first | exact Or.inl rfl | exact Or.inr (Or.inl rfl) | exact Or.inr (Or.inr rfl)) (hd : (x == ("__debug__" : Str)) = false := by decide)
    (hcd : (x == ("__classdict__" : Str)) = false := by decide) : PE X (.Name x pos) (tDat X.K (cQ z) (.str z)) := pe_imp (fun σ H Q h => ⟨_, h.1, h.2 _ H (Same.refl H) (.str z)⟩) (pe_var hN hv hd hcd)
def odd1 (n : Str) : List PyData := [.none, .tuple [], .tuple [.str n], .list [.str n, .int 1], .tuple [.str n, .int 1, .int 0], .tuple [.str n, .int 4], .tuple [.str n, .int (-1)], .tuple [.str n, .bool true], .tuple [.str n, .none], .str n, .int 0]
def odd2 : List PyData := [.tuple [.str "", .int 1], .tuple [.str "F", .int 1], .tuple [.str "f1", .int 1], .tuple [.str "abcdefghi", .int 1], .tuple [.none, .int 1], .tuple [.int 0, .int 1], .tuple [.tuple [.str "f"], .int 1], .tuple [.list [.str "f"], .int 1], .tuple [.str "f g", .int 1]]
def odd3 : List PyData := [.tuple [.str "fG", .int 1], .tuple [.str "Fg", .int 1], .tuple [.str "a b", .int 0], .tuple [.str q9, .int 1]]
def odd4 (n : Str) : List PyData := [.tuple [.str n, .str "1"], .tuple [.str n, .tuple [.int 1]], .tuple [.str n, .list [.int 1]], .tuple [.str n, .bool false], .tuple [.str "f_", .int 0], .tuple [.str "X", .int 0], .tuple [.str n, .int (10 ^ 30)]]
def oddD (n : Str) : List PyData := odd1 n ++ odd2 ++ odd3 ++ odd4 n
def spOdd (K : PySem.W.Frag) : Sp := fun vs H Q _ => ∃ z, vs = [.str z] ∧ ∀ p us H', Same H H' → H p = none → H' p = some (.lst us) → DpAll K (nw H H') us (oddD z) → Q (.ref p) H'
section
variable {P : Program} {w : World} {K : PySem.W.Frag} {mg : Str → Option Value} {base : Heap}
theorem scOd : FnScope ["name", "odd"] ["name"] (defScope sOdd) := ⟨rfl, rfl, rfl, by decide +kernel, rfl, by decide +kernel, by decide +kernel⟩
theorem ok_odd {f : Addr} {fd : FuncData} (F : Fun K "_law_odd_pairs" "_law_odd_pairs" sOdd f fd) : FnOk P w K mg base CX0 1 f fd ["name"] (spOdd K) := by
  refine F.ok scOd (fun vs H Q E h => ?_) (fun cdv A outer s H vs Q E hr h => ?_)
  · obtain ⟨z, rfl, _⟩ := h
    rfl
  · obtain ⟨z, rfl, q⟩ := h
    refine ⟨_, pss_cons (ps_set (i := 1) (te := tDatL K (cQ z) (odd1 z)) scOd.nd rfl (Or.inl rfl) (pd_lstL (by repeat (first | exact pd_name | exact pd_int | exact pd_str | exact pd_bl | exact pd_non | exact pd_neg | exact pd_q9 | exact pd_pow30 | exact pd_nil | refine pd_cons ?_ ?_ | refine pd_lst ?_ (by first | decide | (simp only [List.length_cons, List.length_nil]; decide)) | refine pd_tup ?_ (by first | decide | (simp only [List.length_cons, List.length_nil]; decide)))) (by simp [odd1])))
      (pss_cons (ps_set (i := 1) (te := tOp rCat (tVar 1) (tDatL K (cQ z) odd2)) scOd.nd rfl (Or.inl rfl) (pe_op op_cat (pv 1) (pd_lstL (by repeat (first | exact pd_name | exact pd_int | exact pd_str | exact pd_bl | exact pd_non | exact pd_neg | exact pd_q9 | exact pd_pow30 | exact pd_nil | refine pd_cons ?_ ?_ | refine pd_lst ?_ (by first | decide | (simp only [List.length_cons, List.length_nil]; decide)) | refine pd_tup ?_ (by first | decide | (simp only [List.length_cons, List.length_nil]; decide)))) (by decide))))
      (pss_cons (ps_set (i := 1) (te := tOp rCat (tVar 1) (tDatL K (cQ z) odd3)) scOd.nd rfl (Or.inl rfl) (pe_op op_cat (pv 1) (pd_lstL (by repeat (first | exact pd_name | exact pd_int | exact pd_str | exact pd_bl | exact pd_non | exact pd_neg | exact pd_q9 | exact pd_pow30 | exact pd_nil | refine pd_cons ?_ ?_ | refine pd_lst ?_ (by first | decide | (simp only [List.length_cons, List.length_nil]; decide)) | refine pd_tup ?_ (by first | decide | (simp only [List.length_cons, List.length_nil]; decide)))) (by decide))))
      (pss_one (ps_ret (te := tOp rCat (tVar 1) (tDatL K (cQ z) (odd4 z))) (pe_op op_cat (pv 1) (pd_lstL (by repeat (first | exact pd_name | exact pd_int | exact pd_str | exact pd_bl | exact pd_non | exact pd_neg | exact pd_q9 | exact pd_pow30 | exact pd_nil | refine pd_cons ?_ ?_ | refine pd_lst ?_ (by first | decide | (simp only [List.length_cons, List.length_nil]; decide)) | refine pd_tup ?_ (by first | decide | (simp only [List.length_cons, List.length_nil]; decide)))) (by simp [odd4]))))))), ?_⟩
    refine ⟨rfl, fun p1 u1 H1 s1 n1 g1 e1 => ?_⟩
    refine cat_dat (i := 1) rfl s1 g1 e1 (by simp [odd1, odd2]) rfl (fun p2 u2 H2 s2 n2 g2 e2 => ?_)
    refine cat_dat (i := 1) rfl s2 g2 e2 (by simp [odd1, odd2, odd3]) rfl (fun p3 u3 H3 s3 n3 g3 e3 => ?_)
    exact cat_dat (i := 1) rfl s3 g3 e3 (by simp [odd1, odd2, odd3, odd4]) rfl (fun p4 u4 H4 s4 n4 g4 e4 => q p4 u4 H4 s4 n4 g4 e4)
end
end Sg

set_option maxRecDepth 100000
/-! two sorted lists of the same texts are the same -/
namespace Srt
open PySem PySem.Spec PyProof.Rows
def le (a b : Str) : Prop := ¬ b.cps.toList < a.cps.toList
theorem le_trans {a b c : Str} (h : le a b) (g : le b c) : le a c := by
  unfold le at *
  rw [List.not_lt] at *
  exact List.le_trans h g
theorem le_anti {a b : Str} (h : le a b) (g : le b a) : a = b := by
  unfold le at *
  rw [List.not_lt] at *
  have := List.le_antisymm h g
  obtain ⟨⟨x⟩⟩ := a
  obtain ⟨⟨y⟩⟩ := b
  simpa using this
theorem rise : ∀ (l : List Str) (p : Str), risingS p l = true → (∀ y ∈ l, le p y) ∧ sortedS l = true
  | [], p, _ => ⟨fun _ h => (by cases h), rfl⟩
  | x :: r, p, h => by
    have h : (!ltCps x.cps.toList p.cps.toList && risingS x r) = true := h
    rw [Bool.and_eq_true] at h
    have h1 : le p x := by
      have := h.1
      rw [ltCps_eq] at this
      unfold le
      simpa using this
    obtain ⟨g1, _⟩ := rise r x h.2
    refine ⟨fun y hy => ?_, h.2⟩
    rcases List.mem_cons.mp hy with rfl | hy
    · exact h1
    · exact le_trans h1 (g1 y hy)
theorem uniq : ∀ (ys zs : List Str), ys.Perm zs → sortedS ys = true → sortedS zs = true → ys = zs
  | [], zs, h, _, _ => (List.Perm.nil_eq h)
  | y :: ys, [], h, _, _ => absurd h.length_eq (by simp)
  | y :: ys, z :: zs, h, h1, h2 => by
    obtain ⟨a1, a2⟩ := rise ys y h1
    obtain ⟨b1, b2⟩ := rise zs z h2
    have e : y = z := by
      have m1 : y ∈ z :: zs := h.subset List.mem_cons_self
      have m2 : z ∈ y :: ys := h.symm.subset List.mem_cons_self
      rcases List.mem_cons.mp m1 with e | m1
      · exact e
      · rcases List.mem_cons.mp m2 with e | m2
        · exact e.symm
        · exact le_anti (a1 z m2) (b1 y m1)
    subst e
    rw [uniq ys zs (List.perm_cons y |>.mp h) a2 b2]
end Srt

set_option maxRecDepth 100000
set_option maxHeartbeats 4000000
namespace Sg
open PySem PySem.Spec PyProof.Rows L2 Dr Gd Er Cm Ow Tw
abbrev sIs : Stmt := top 27
section
variable {X : Cx} {CX : CXT} {n : Nat} {C f : Addr} {fd : FuncData} {ps : List Str} {sp : Sp} {E : XK}
/-- len(o), o of a class with an own __len__ -/
theorem call_lenOwn (F : FnOk X.prog X.w X.K X.mg X.base CX n f fd ["self"] sp) (hr : Room (n + 1) X.A) (hs : PySem.W.findIn X.K (.ref C) "__len__" = some (some (.ref f))) (hf : PySem.W.isFn X.K (.ref f) = true) (hb : Binds X.K fd ["self"] []) (hx : Passes CX X E) :
    CallR X (.builtin "len") (fun vs H Q => ∃ a dx fs, vs = [.ref a] ∧ H a = some (.ins C dx fs) ∧ sp [.ref a] H (fun v H' => ∃ k : Nat, v = .int (k : Nat) ∧ k < 1000 ∧ Q (.int (k : Nat)) H') E) := by
  intro pins s σ H xs us Q I r h
  obtain ⟨a, dx, fs, rfl, ha, h⟩ := h
  rw [Vals.ref1 r]
  obtain ⟨mA, J, _⟩ := ins_get I.hok ha
  obtain ⟨od, J, _⟩ := J.look
  obtain ⟨m, hF⟩ := I.fr
  have sb : Sub X n X.A.in1 := Sub.in1 ⟨hr, rfl⟩
  refine PySem.W.len_K hF I.ok.mod.kin J hs hf ?_
  have e0 : Env0 X.prog X.w X.K X.mg X.base X.A.in1 X.stack s H := by
    have e := I.env0
    exact ⟨by rw [sb.fr]; exact e.frames, e.mod, e.bs, e.bsz, e.funs, e.frf, e.hok, e.bare⟩
  have b := hb s [.ref a] I.kIn (by rfl)
  rw [List.append_nil] at b
  refine wpAny_call (codeAny_mono (F.run X.A.in1 X.stack s H ⟨[.ref a], []⟩ [.ref a] [.ref a] _ E sb.room e0 b (.cons rfl .nil) h) fun r s' hq => ?_)
  cases r with
  | error e => exact hx pins σ H s e s' I hq
  | ok fl =>
    cases fl with
    | ret w =>
      obtain ⟨z, H', I', rz, k, ez, hk, q⟩ := I.after hq
      subst ez
      obtain ⟨t, rfl⟩ := rz
      exact ⟨⟨by omega, by omega⟩, ⟨.int (k : Nat), H', I'.tok _, ⟨_, rfl⟩, q⟩⟩
    | next => exact False.elim hq
    | brk => exact False.elim hq
    | cont => exact False.elim hq
end
end Sg

set_option maxRecDepth 100000
set_option maxHeartbeats 4000000
namespace Sg
open PySem PySem.Spec PyProof.Rows L2 Dr Gd Er Cm Ow Tw
def Fine (ps : List (Str × Int)) : Prop := 1 ≤ ps.length ∧ ps.length ≤ 5 ∧ (ps.map (·.1)).Nodup ∧ ∀ p ∈ ps, wordIn Lc p.1 = true ∧ 0 ≤ p.2 ∧ p.2 ≤ 3
theorem Good.fine {ps : List (Str × Int)} (h : Good ps) : Fine ps := ⟨h.1, by have := h.2.1; omega, h.2.2.1, h.2.2.2.1⟩
theorem fine_ok {ps : List (Str × Int)} (h : Fine ps) : OkNames ps := fun p hp => word_ok (h.2.2.2 p hp).1
theorem sign_pr {z : Str} {n : Int} (h : wordIn Lc z = true) (h0 : 0 ≤ n) (h3 : n ≤ 3) : isSign (.tuple [.str z, .int n]) = true := by
  show (isWord Lc (.str z) && isAr (.int n)) = true
  rw [show isWord Lc (.str z) = true from h]
  show (decide (0 ≤ n) && decide (n ≤ 3)) = true
  simp [h0, h3]
theorem build_ok : ∀ (ps acc : List (Str × Int)) (i : Nat), (∀ p ∈ ps, wordIn Lc p.1 = true ∧ 0 ≤ p.2 ∧ p.2 ≤ 3) → ((acc ++ ps).map (·.1)).Nodup → build (prD ps) acc i = .ok (acc ++ ps)
  | [], acc, i, _, _ => by rw [List.append_nil]; rfl
  | p :: ps, acc, i, h, nd => by
    have hp := h p List.mem_cons_self
    have hn : hasN acc p.1 = false := by
      unfold hasN
      rw [List.any_eq_false]
      intro q hq e
      have e := of_decide_eq_true e
      rw [List.map_append] at nd
      exact (List.nodup_append.mp nd).2.2 q.1 (List.mem_map.mpr ⟨q, hq, rfl⟩) p.1 (by simp) e
    show (if isSign (.tuple [.str p.1, .int p.2]) && !hasN acc (prOf (.tuple [.str p.1, .int p.2])).1 then build (prD ps) (acc ++ [prOf (.tuple [.str p.1, .int p.2])]) (i + 1) else .bad i) = _
    rw [if_pos (by rw [sign_pr hp.1 hp.2.1 hp.2.2]; show (true && !hasN acc p.1) = true; rw [hn]; rfl)]
    have e := build_ok ps (acc ++ [p]) (i + 1) (fun q hq => h q (List.mem_cons_of_mem _ hq)) (by rw [List.append_assoc]; exact nd)
    rw [List.append_assoc] at e
    exact e
theorem made_fine {ps : List (Str × Int)} (h : Fine ps) : madeOf (psD ps) = .ok ps := by
  show madeL (prD ps) = _
  unfold madeL
  have e : (prD ps).length = ps.length := List.length_map ..
  rw [if_pos (by rw [e]; exact ⟨h.1, h.2.1⟩), build_ok ps [] 0 h.2.2.2 (by simpa using h.2.2.1)]
  rfl
theorem word_len {z : Str} (h : wordIn Lc z = true) : z.length ≤ sizeLine := by
  unfold wordIn at h
  rw [Bool.and_eq_true, Bool.and_eq_true] at h
  exact Nat.le_trans (of_decide_eq_true h.2.1) (by decide)
theorem shorts_fine {ps : List (Str × Int)} (h : ∀ p ∈ ps, wordIn Lc p.1 = true) : Shorts (psD ps) := by
  intro e he
  obtain ⟨p, hp, rfl⟩ := List.mem_map.mp he
  exact word_len (h p hp)
theorem names_lc {K : PySem.W.Frag} {H : Hp} {Q : VK} {v : V} {ps : List (Str × Int)} {a0 a2 a3 a4 a5 : Option V} (hd : Dp K H v (psD ps)) (h5 : ps.length ≤ 5)
    (h : ∀ D H', Same H H' → H D = none → H' D = some (.lst (ps.map fun p => .str p.1)) → Q (.ref D) H') :
    tLc (iList K (tVar 1)) (gTup K 2 (gCons (gName 4) (gCons (gName 5) gNil))) tYes (tVar 4) [4, 5] [a0, some v, a2, a3, a4, a5] H Q := by
  cases hd with
  | lst g1 g2 =>
    rename_i a xs
    have g2 : DpAll K H xs (prD ps) := g2
    have hl : xs.length = ps.length := (dpAll_len g2).trans (List.length_map ..)
    refine ⟨_, rfl, a, rfl, ⟨_, g1⟩, fun D hD => ?_⟩
    refine lc_it (walk_list (xs := xs)) (fun i H' => Same H H' ∧ H' D = some (.lst ((ps.take i).map fun p => V.str p.1))) ⟨same_upd hD, upd_same⟩ (fun i H' hi hp => Same.seq hp.1 g1) (fun i y H1 H2 hi hp hy => ?_) (fun H' hp => ?_)
    · obtain ⟨rfl, ey⟩ := hy
      obtain ⟨sm, hDl⟩ := hp
      obtain ⟨z, n, t, ep, rfl, ht⟩ := pr_at g2 ey
      refine ⟨t, _, rfl, seqT_same sm ht, rfl, ?_⟩
      refine ⟨_, _, rfl, _, _, rfl, rfl, ?_⟩
      refine ⟨rfl, lcYes ?_⟩
      refine ⟨_, rfl, _, hDl, ?_, ?_, ?_⟩
      · rw [List.length_map, List.length_take]
        have : min i ps.length < 1000 := by omega
        exact Nat.lt_trans this (by decide)
      · exact fun b o e => by
          have : b ≠ D := fun z => by rw [z, hD] at e; cases e
          rw [upd_ne this]
          exact sm b o e
      · rw [upd_same, List.take_succ, ep, List.map_append]
        rfl
    · obtain ⟨sm, hDl⟩ := hp
      rw [hl, List.take_length] at hDl
      exact h D H' sm hD hDl
def txD (zs : List Str) : PyData := .list (zs.map .str)
theorem tx_dp {K : PySem.W.Frag} {H : Hp} : ∀ zs : List Str, DpAll K H (zs.map V.str) (zs.map .str)
  | [] => .nil
  | z :: zs => .cons (.str z) (tx_dp zs)
theorem tx_lay : ∀ zs : List Str, (∀ z ∈ zs, PyData.strOk z = true) → PyData.canLayAll0 (zs.map .str) = true
  | [], _ => rfl
  | z :: zs, h => by
    show (PyData.strOk z && _) = true
    rw [h z List.mem_cons_self, tx_lay zs fun y hy => h y (List.mem_cons_of_mem _ hy)]
    rfl
theorem tx_dep : ∀ zs : List Str, PyData.depthAll (zs.map .str) ≤ 1
  | [] => by simp [PyData.depthAll]
  | z :: zs => by
    have := tx_dep zs
    simp only [List.map_cons, PyData.depthAll]
    exact Nat.max_le.mpr ⟨by simp [PyData.depth], this⟩
theorem tx_shaped {zs : List Str} (h : ∀ z ∈ zs, PyData.strOk z = true) : SeqAt.shaped (txD zs) = true := by
  unfold SeqAt.shaped
  rw [Bool.and_eq_true]
  refine ⟨tx_lay zs h, decide_eq_true ?_⟩
  have := tx_dep zs
  show PyData.depth (.list _) ≤ 64
  simp only [PyData.depth]
  omega
theorem tx_eqv {zs : List Str} (h : ∀ z ∈ zs, PyData.strOk z = true) : PyData.eqv (txD zs) (txD zs) = true := SeqAt.eqv_refl _ (tx_lay zs h)
end Sg

set_option maxRecDepth 100000
set_option maxHeartbeats 4000000
namespace Sg
open PySem PySem.Spec PyProof.Rows L2 Dr Gd Er Cm Ow Tw
/-- the class as the law asks it -/
structure SgM (P : Program) (w : World) (K : PySem.W.Frag) (mg : Str → Option Value) (base : Heap) (C fl pn gn pw gw fe fh : Addr) (dl dn dw de dh : FuncData) : Prop where
  x : SClx K C
  la : PySem.W.findIn K (.ref C) "__len__" = some (some (.ref fl))
  lf : PySem.W.isFn K (.ref fl) = true
  lo : FnOk P w K mg base CX0 1 fl dl ["self"] (spLen C)
  lb : Binds K dl ["self"] []
  np : PropOf K C "names" pn gn
  no : FnOk P w K mg base CX0 1 gn dn ["self"] (spNames C)
  nb : Binds K dn ["self"] []
  wp : PropOf K C "ways" pw gw
  wo : FnOk P w K mg base CX0 1 gw dw ["self"] (spWays C)
  wb : Binds K dw ["self"] []
  ea : PySem.W.findIn K (.ref C) "__eq__" = some (some (.ref fe))
  ef : PySem.W.isFn K (.ref fe) = true
  eo : FnOk P w K mg base CX0 1 fe de ["self", "other"] (spEq K C)
  eb : Binds K de ["self", "other"] []
  ne : PySem.W.findIn K (.ref C) "__ne__" = some (some (.builtin "object.__ne__"))
  ha : PySem.W.findIn K (.ref C) "__contains__" = some (some (.ref fh))
  hf : PySem.W.isFn K (.ref fh) = true
  ho : FnOk P w K mg base CX0 1 fh dh ["self", "name"] (spHas K C)
  hb : Binds K dh ["self", "name"] []
  nC : PySem.W.notFirst K C (.ref C) = true
  nL : PySem.W.notFirst K C (.type "list") = true
def spIs (K : PySem.W.Frag) (C : Addr) : Sp := fun vs H Q _ => ∃ x v ps, vs = [.ref x, v] ∧ SgAt C H x ps ∧ Dp K H v (psD ps) ∧ Fine ps ∧ ∀ H', Same H H' → Q (.bl true) H'
/-- a def of the law that asks for repr -/
structure CalG (P : Program) (w : World) (K : PySem.W.Frag) (mg : Str → Option Value) (base : Heap) (CX : CXT) (k : Nat) (x : Str) (f : Addr) (fd : FuncData) (ps : List Str) (sp : Sp) : Prop where
  ok : FnG P w K mg base CX k f fd ps sp
  g : mg x = some (.ref f)
  kp : PySem.W.keepIn K (.ref f) = true
  b : Binds K fd ps []
section
variable {P : Program} {w : World} {K : PySem.W.Frag} {mg : Str → Option Value} {base : Heap} {cN cC cB cS C fi fW fA : Addr} {di dW dA : FuncData} {fl pn gn pw gw fe fh : Addr} {dl dn dw de dh : FuncData}
theorem scIsL : FnScope ["signs", "pairs", "names", "ways", "name", "arity"] ["signs", "pairs"] (defScope sIs) := ⟨rfl, rfl, rfl, by decide +kernel, rfl, by decide +kernel, by decide +kernel⟩
theorem ok_is {f : Addr} {fd : FuncData} (F : Fun K "_law_is" "_law_is" sIs f fd) (T : KTxt mg) (M : SgM P w K mg base C fl pn gn pw gw fe fh dl dn dw de dh) (MK : MkS P w K mg base cN cC cB C fi di)
    (GW : Cal P w K mg base CX0 1 "_law_ways" fW dW ["pairs"] (spLw K)) (GA : CalG P w K mg base CX0 3 "_law_arity" fA dA ["signs", "name"] (spLar K C)) (hl : mg "list" = none) : FnG P w K mg base CX0 5 f fd ["signs", "pairs"] (spIs K C) := by
  refine okG F scIsL (fun vs H Q E h => ?_) (fun cdv A outer s H vs Q E hgd hr h => ?_)
  · obtain ⟨x, v, ps, rfl, _⟩ := h
    rfl
  · obtain ⟨x, v, ps, rfl, hS, hd, hf, q⟩ := h
    have r2 : Room 2 (A.deeper (envOfC "_law_is" (defScope sIs) s.heap.objs.size f cdv)) := hr.mono (by decide)
    have r3 : Room 3 (A.deeper (envOfC "_law_is" (defScope sIs) s.heap.objs.size f cdv)) := hr.mono (by decide)
    have r1 : Room 1 (A.deeper (envOfC "_law_is" (defScope sIs) s.heap.objs.size f cdv)) := hr.mono (by decide)
    refine ⟨_, pss_cons (ps_if (PW.pt (pw_or (pt_not (pt_val (pe_callB call_isi (by rfl) T.isi (by decide +kernel) (pa_cons (pv 0) (pa_cons (pe_glob (v := .ref C) rfl MK.g rfl) pa_nil)))))
        (pw_or1 (pt_cmpR op_ne (pe_callB (call_lenOwn M.lo r2 M.la M.lf M.lb pass0) (by rfl) T.len PySem.boot_len (pa_cons (pv 0) pa_nil)) (pe_callB call_len_seq (by rfl) T.len PySem.boot_len (pa_cons (pv 1) pa_nil)) (nomark _))))) (pss_one (ps_ret pe_bl)) pss_nil)
      (pss_cons (ps_par (i := 2) (j := 3) rfl scIsL.nd rfl rfl (by decide) rfl rfl (pa_cons (pe_prop (pv 0) M.x.cl M.np M.no r2 M.nb .nil pass0 rfl) (pa_cons (pe_prop (pv 0) M.x.cl M.wp M.wo r2 M.wb .nil pass0 rfl) pa_nil)) (by rfl))
      (pss_cons (ps_if (PW.pt (pw_or (pt_cmpR (op_neD hr.units) (pv 2) (pe_lc (own := [("name", 4), ("arity", 5)]) (g := gTup K 2 (gCons (gName 4) (gCons (gName 5) gNil))) (tt := tYes) (te := tVar 4) rfl scIsL.nd (pi_list (pv 1)) (blkOk_by (N := ["signs", "pairs", "names", "ways", "name", "arity"]) (sc := defScope sIs) (by decide +kernel))
          (fun _ _ _ _ _ => pg_tup rfl (pgs_cons (pg_name (i := 4) scIsL.nd rfl (Or.inl rfl)) (pgs_cons (pg_name (i := 5) scIsL.nd rfl (Or.inl rfl)) pgs_nil))) (fun _ _ _ _ _ => pts_nil) (fun _ _ _ _ _ => pv 4)) (nomark _))
          (pw_or1 (pt_cmpR (op_neD hr.units) (pv 3) (pe_call GW.ok r1 rfl GW.g GW.kp GW.b .nil pass0 (pa_cons (pv 1) pa_nil)) (nomark _))))) (pss_one (ps_ret pe_bl)) pss_nil)
      (pss_cons (ps_expr (pe_bm PySem.F.plainAttrs_list PySem.F.slot_list_append PySem.F.type_list_append mt_append (pv 2) (pa_cons pe_non pa_nil)))
      (pss_cons (ps_expr (pe_bm PySem.F.plainAttrs_list PySem.F.slot_list_append PySem.F.type_list_append mt_append (pv 3) (pa_cons pe_non pa_nil)))
      (pss_cons (ps_if (PW.pt (pw_or (pt_cmpR (op_neD hr.units) (pe_prop (pv 0) M.x.cl M.np M.no r2 M.nb .nil pass0 rfl) (pe_lc (own := [("name", 4), ("arity", 5)]) (g := gTup K 2 (gCons (gName 4) (gCons (gName 5) gNil))) (tt := tYes) (te := tVar 4) rfl scIsL.nd (pi_list (pv 1)) (blkOk_by (N := ["signs", "pairs", "names", "ways", "name", "arity"]) (sc := defScope sIs) (by decide +kernel))
          (fun _ _ _ _ _ => pg_tup rfl (pgs_cons (pg_name (i := 4) scIsL.nd rfl (Or.inl rfl)) (pgs_cons (pg_name (i := 5) scIsL.nd rfl (Or.inl rfl)) pgs_nil))) (fun _ _ _ _ _ => pts_nil) (fun _ _ _ _ _ => pv 4)) (nomark _))
          (pw_or1 (pt_cmpR (op_neD hr.units) (pe_prop (pv 0) M.x.cl M.wp M.wo r2 M.wb .nil pass0 rfl) (pe_call GW.ok r1 rfl GW.g GW.kp GW.b .nil pass0 (pa_cons (pv 1) pa_nil)) (nomark _))))) (pss_one (ps_ret pe_bl)) pss_nil)
      (pss_cons (ps_for PassesOwn.never rfl (pi_list (pv 1)) (pg_tup rfl (pgs_cons (pg_name (i := 4) scIsL.nd rfl (Or.inl rfl)) (pgs_cons (pg_name (i := 5) scIsL.nd rfl (Or.inl rfl)) pgs_nil)))
        (pss_one (ps_if (PW.pt (pw_or (pt_cmpR op_ne (pe_callG GA.ok hgd r3 rfl GA.g GA.kp GA.b .nil pass0 (pa_cons (pv 0) (pa_cons (pv 4) pa_nil))) (pv 5) (nomark _)) (pw_or1 (pt_cmpR (op_notInOwn M.ho r1 M.ha M.hf M.hb pass0) (pv 4) (pv 0) (by rfl))))) (pss_one (ps_ret pe_bl)) pss_nil)))
      (pss_one (ps_ret (pe_and (pe_cmpR (op_eqOwn M.eo r1 M.ea M.ef M.eb pass0) (pv 0) (pe_make MK.mm MK.ok hr rfl MK.g MK.b .nil passL (pa_cons (pe_callTy call_list_of (by rfl) hl (by decide +kernel) (pa_cons (pv 1) pa_nil)) pa_nil)) (nomark _))
        (pe_one (pe_cmpR (op_neOwn M.eo r2 M.ea M.ef M.eb pass0 M.ne M.x.cm) (pv 0) (pv 1) (nomark _)))))))))))), ?_⟩
    obtain ⟨dx, dn, h1, h2⟩ := id hS
    have p5 : ps.length ≤ 5 := hf.2.1
    have okn := fine_ok hf
    have ez : (ps.map fun q => V.str q.1) = (ps.map (·.1)).map V.str := (List.map_map ..).symm
    have zok : ∀ z ∈ ps.map (·.1), PyData.strOk z = true := fun z hz => by
      obtain ⟨p, hp, rfl⟩ := List.mem_map.mp hz
      exact okn p hp
    have wok : ∀ ys : List Str, ys.Perm (waysOf ps) → ∀ z ∈ ys, PyData.strOk z = true := fun ys hp z hz => by
      have : z ∈ waysOf ps := hp.subset hz
      obtain ⟨p, hp, rfl⟩ := List.mem_map.mp this
      exact okn p (List.mem_filter.mp hp).1
    have big : (1000 : Nat) ≤ sizeLine := by decide
    refine ⟨_, rfl, .ref x, .ref C, .ref C, .ref C, _, rfl, .own _, M.x.ty hS, M.x.kC, _, rfl, iteF ?_⟩
    have hd0 := hd
    cases hd with
    | lst g1 g2 =>
      rename_i a xs
      have g2 : DpAll K H xs (prD ps) := g2
      have hxl : xs.length = ps.length := (dpAll_len g2).trans (List.length_map ..)
      refine ⟨_, rfl, x, dx, _, rfl, h1, x, ps, rfl, hS, ps.length, rfl, by omega, ?_⟩
      refine ⟨_, rfl, a, _, rfl, .inl g1, rfl, _, rfl, ?_⟩
      refine iteNS (by rw [hxl]) ?_
      refine ⟨_, rfl, x, dx, _, rfl, h1, x, ps, rfl, hS, fun pN hpN => ?_⟩
      have s1 := same_upd (o := .lst (ps.map fun q => V.str q.1)) hpN
      refine ⟨_, rfl, x, dx, _, rfl, s1 _ _ h1, x, ps, rfl, hS.same s1, p5, hf.2.2.1, fun H2 ys pW s2 hpW hpm hso e2 => ?_⟩
      have s02 := Same.trans s1 s2
      have eN : H2 pN = some (.lst ((ps.map (·.1)).map V.str)) := by rw [← ez]; exact s2 _ _ upd_same
      have hpW0 : H pW = none := Same.free s1 hpW
      have hNW : pN ≠ pW := fun z => by rw [z] at hpN; rw [← z, upd_same] at hpW; cases hpW
      refine ⟨_, _, rfl, ?_⟩
      refine ⟨_, rfl, names_lc (dp_same s02 _ _ hd0) p5 (fun D H3 s3 hD e3 => ?_)⟩
      rw [ez] at e3
      have s03 := Same.trans s02 s3
      refine ⟨txD _, txD _, .lst (SqL.of (s3 _ _ eN)) (tx_dp _), .lst (SqL.of e3) (tx_dp _), tx_shaped zok, tx_shaped zok, _, rfl, ?_⟩
      rw [tx_eqv zok]
      refine iteF ?_
      refine ⟨_, rfl, _, rfl, .ref a, ps, rfl, dp_same s03 _ _ hd0, p5, fun H4 ys4 pW4 s4 hpW4 hpm4 hso4 e4 => ?_⟩
      have s04 := Same.trans s03 s4
      have ey : ys4 = ys := Srt.uniq _ _ (hpm4.trans hpm.symm) hso4 hso
      subst ey
      refine ⟨txD _, txD _, .lst (SqL.of (s4 _ _ (s3 _ _ e2))) (tx_dp _), .lst (SqL.of e4) (tx_dp _), tx_shaped (wok _ hpm), tx_shaped (wok _ hpm), _, rfl, ?_⟩
      rw [tx_eqv (wok _ hpm)]
      refine iteF ?_
      have eN4 := s4 _ _ (s3 _ _ eN)
      have eW4 := s4 _ _ (s3 _ _ e2)
      have zl : (ps.map (·.1)).length = ps.length := List.length_map ..
      have yl : ys4.length ≤ 5 := by
        have := hpm.length_eq
        have := ways_len ps
        omega
      refine ⟨_, rfl, .inl ⟨rfl, _, SqL.of eN4⟩, pN, _, .non, rfl, rfl, eN4, (by rw [List.length_map, zl]; omega), ?_⟩
      have s05 : Same H (L2.upd H4 pN (.lst ((ps.map (·.1)).map V.str ++ [.non]))) := fun b o e => by
        rw [upd_ne (ne_of_none e hpN)]
        exact s04 b o e
      have eW5 : (L2.upd H4 pN (.lst ((ps.map (·.1)).map V.str ++ [.non]))) pW = some (.lst (ys4.map V.str)) := by rw [upd_ne hNW.symm]; exact eW4
      refine ⟨_, rfl, .inl ⟨rfl, _, SqL.of eW5⟩, pW, _, .non, rfl, rfl, eW5, (by rw [List.length_map]; omega), ?_⟩
      have s06 : Same H (L2.upd (L2.upd H4 pN (.lst ((ps.map (·.1)).map V.str ++ [.non]))) pW (.lst (ys4.map V.str ++ [.non]))) := fun b o e => by
        rw [upd_ne (ne_of_none e hpW0)]
        exact s05 b o e
      generalize (L2.upd (L2.upd H4 pN (.lst ((ps.map (·.1)).map V.str ++ [.non]))) pW (.lst (ys4.map V.str ++ [.non]))) = H6 at s06 ⊢
      refine ⟨_, rfl, x, dx, _, rfl, s06 _ _ h1, x, ps, rfl, hS.same s06, fun p7 hp7 => ?_⟩
      have s67 := same_upd (o := .lst (ps.map fun q => V.str q.1)) hp7
      have s07 := Same.trans s06 s67
      refine names_lc (dp_same s07 _ _ hd0) p5 (fun D8 H8 s8 hD8 e8 => ?_)
      rw [ez] at e8
      have s08 := Same.trans s07 s8
      have e7 : H8 p7 = some (.lst ((ps.map (·.1)).map V.str)) := by rw [← ez]; exact s8 _ _ upd_same
      refine ⟨txD _, txD _, .lst (SqL.of e7) (tx_dp _), .lst (SqL.of e8) (tx_dp _), tx_shaped zok, tx_shaped zok, _, rfl, ?_⟩
      rw [tx_eqv zok]
      refine iteF ?_
      refine ⟨_, rfl, x, dx, _, rfl, s08 _ _ h1, x, ps, rfl, hS.same s08, p5, hf.2.2.1, fun H9 ys9 pW9 s9 hpW9 hpm9 hso9 e9 => ?_⟩
      have s09 := Same.trans s08 s9
      refine ⟨_, rfl, .ref a, ps, rfl, dp_same s09 _ _ hd0, p5, fun H10 ys10 pW10 s10 hpW10 hpm10 hso10 e10 => ?_⟩
      have s010 := Same.trans s09 s10
      have ey : ys10 = ys9 := Srt.uniq _ _ (hpm10.trans hpm9.symm) hso10 hso9
      subst ey
      refine ⟨txD _, txD _, .lst (SqL.of (s10 _ _ e9)) (tx_dp _), .lst (SqL.of e10) (tx_dp _), tx_shaped (wok _ hpm9), tx_shaped (wok _ hpm9), _, rfl, ?_⟩
      rw [tx_eqv (wok _ hpm9)]
      refine iteF ?_
      refine ⟨_, rfl, a, rfl, ⟨_, Same.seq s010 g1⟩, ?_⟩
      refine for_it (walk_list (xs := xs)) (fun i σ H' => ∃ c4 c5, σ = [some (.ref x), some (.ref a), some (.ref pN), some (.ref pW), c4, c5] ∧ Same H H') ⟨none, none, rfl, s010⟩ (fun i σ H' hi hp => by obtain ⟨_, _, _, sm⟩ := hp; exact Same.seq sm g1) (fun i y σ H1 H' hi hp hy => ?_) (fun σ H' hp => ?_)
      · obtain ⟨c4, c5, rfl, sm⟩ := hp
        obtain ⟨rfl, ey⟩ := hy
        obtain ⟨z, n, t, ep, rfl, ht⟩ := pr_at g2 ey
        have ea : arOf ps z = some n := arOf_at hf.2.2.1 ep
        have hz : hasN ps z = true := by rw [← arOf_has, ea]; rfl
        refine ⟨t, _, rfl, seqT_same sm ht, rfl, ?_⟩
        refine ⟨_, _, rfl, _, _, rfl, rfl, ?_⟩
        refine ⟨_, rfl, _, rfl, x, .str z, .str z, ps, rfl, hS.same sm, .str z, (fun e => by rw [show arD ps (.str z) = arOf ps z from rfl, ea] at e; cases e), (fun n' e => ?_), (fun e => by rw [show arD ps (.str z) = arOf ps z from rfl, ea] at e; cases e)⟩
        have en : n' = n := by
          rw [show arD ps (.str z) = arOf ps z from rfl, ea] at e
          exact (Option.some.inj e).symm
        subst en
        refine ⟨_, rfl, rfl, _, rfl, ?_⟩
        refine iteNS rfl ?_
        refine ⟨_, rfl, _, rfl, x, dx, _, rfl, sm _ _ h1, x, .str z, .str z, ps, rfl, hS.same sm, .str z, _, rfl, _, rfl, ?_⟩
        rw [show hasD ps (.str z) = true from hz]
        refine iteF ?_
        exact ⟨_, _, rfl, sm⟩
      · obtain ⟨c4, c5, rfl, sm⟩ := hp
        refine ⟨_, rfl, _, rfl, a, xs, rfl, .inl (Same.seq sm g1), fun l hl => ?_⟩
        have sl := Same.trans sm (same_upd (o := .lst xs) hl)
        intro y dy hy hdy hne
        refine ⟨y, .ref l, psD ps, dy, rfl, upd_same, ?_, shorts_fine (fun p hp => (hf.2.2.2 p hp).1), ?_⟩
        · refine .lst (SqL.of (xs := xs) ?_) (dpAll_same (fun b o e => ?_) _ _ g2)
          · have e : (L2.upd H' l (.lst xs)) l = some (.lst xs) := upd_same
            rw [upd_ne (ne_of_none e hy), upd_ne (ne_of_none e hdy)]
            exact e
          · have e := sl b o e
            rw [upd_ne (ne_of_none e hy), upd_ne (ne_of_none e hdy)]
            exact e
        · rw [made_fine hf]
          intro H11 s11 hSy
          refine ⟨rfl, ?_⟩
          have s011 : Same H H11 := Same.trans sl (same_ins hy hdy s11)
          obtain ⟨dy', dm, k1, k2⟩ := id hSy
          refine ⟨x, dx, _, .ref C, rfl, s011 _ _ h1, .inr ⟨y, C, dy', _, rfl, k1, rfl⟩, M.nC, x, .ref y, ps, rfl, hS.same s011, okn, .inr ⟨y, ps, rfl, hSy, okn, fun H12 s12 => ⟨_, rfl, _, rfl, ?_⟩⟩⟩
          have s012 := Same.trans s011 s12
          rw [decide_eq_true (show ps = ps from rfl)]
          refine iteT ?_
          exact ⟨_, rfl, _, rfl, x, dx, _, .type "list", rfl, s012 _ _ h1, .inl (ty_dp (dp_same s012 _ _ hd0)), M.nL, x, .ref a, ps, rfl, hS.same s012, okn, .inl ⟨prD ps, dp_same s012 _ _ hd0, false, rfl, q _ s012⟩⟩
end
end Sg

set_option maxRecDepth 100000
set_option maxHeartbeats 4000000
namespace Sg
open PySem PySem.Spec PyProof.Rows L2 Dr Gd Er Cm Ow Tw
abbrev sNrR : Stmt := top 29
theorem near_word {ps qs : List (Str × Int)} (hn : qs.map (·.1) = ps.map (·.1)) (hf : Fine ps) (ha : ∀ q ∈ qs, 0 ≤ q.2 ∧ q.2 ≤ 3) : Fine qs := by
  have hl : qs.length = ps.length := by
    have := congrArg List.length hn
    rwa [List.length_map, List.length_map] at this
  refine ⟨by rw [hl]; exact hf.1, by rw [hl]; exact hf.2.1, by rw [hn]; exact hf.2.2.1, fun q hq => ⟨?_, ha q hq⟩⟩
  have : q.1 ∈ ps.map (·.1) := by rw [← hn]; exact List.mem_map.mpr ⟨q, hq, rfl⟩
  obtain ⟨p, hp, e⟩ := List.mem_map.mp this
  rw [← e]
  exact (hf.2.2.2 p hp).1
theorem nearA_rng {n : Int} (h0 : 0 ≤ n) (h3 : n ≤ 3) : 0 ≤ nearA n ∧ nearA n ≤ 3 := by
  rcases (show n = 0 ∨ n = 1 ∨ n = 2 ∨ n = 3 by omega) with rfl | rfl | rfl | rfl <;> decide
theorem nears_fine {ps : List (Str × Int)} (hf : Fine ps) : ∀ qs ∈ nearsOf ps, Fine qs ∧ ps ≠ qs := by
  intro qs hq
  obtain ⟨hm, hne⟩ := List.mem_filter.mp hq
  have hne : ps ≠ qs := fun e => by rw [e] at hne; simp at hne
  have e1 : (nearPs ps).map (·.1) = ps.map (·.1) := by unfold nearPs; rw [List.map_map]; rfl
  have r1 : ∀ q ∈ nearPs ps, 0 ≤ q.2 ∧ q.2 ≤ 3 := fun q hq => by
    obtain ⟨p, hp, rfl⟩ := List.mem_map.mp hq
    exact nearA_rng (hf.2.2.2 p hp).2.1 (hf.2.2.2 p hp).2.2
  simp only [List.mem_cons, List.not_mem_nil, or_false] at hm
  rcases hm with rfl | rfl | rfl
  · exact ⟨near_word e1 hf r1, hne⟩
  · refine ⟨near_word ?_ hf fun q hq => ?_, hne⟩
    · rw [List.map_append, List.map_take, e1, List.map_drop, List.take_append_drop]
    · rcases List.mem_append.mp hq with hq | hq
      · exact r1 q (List.mem_of_mem_take hq)
      · have := hf.2.2.2 q (List.mem_of_mem_drop hq)
        exact ⟨this.2.1, this.2.2⟩
  · refine ⟨⟨by rw [List.length_reverse]; exact hf.1, by rw [List.length_reverse]; exact hf.2.1, ?_, fun q hq => hf.2.2.2 q (List.mem_reverse.mp hq)⟩, hne⟩
    rw [List.map_reverse]
    unfold List.Nodup
    rw [List.pairwise_reverse]
    exact List.Pairwise.imp (fun h => Ne.symm h) hf.2.2.1
theorem joinL_one : ∀ cs : List Nat, TL.joinL [] (cs.map fun c => [c]) = cs
  | [] => rfl
  | [c] => rfl
  | c :: d :: r => by
    show [c] ++ ([] ++ TL.joinL [] ((d :: r).map fun c => [c])) = _
    rw [joinL_one (d :: r)]
    rfl
theorem word_join {cs : List Nat} (h1 : 1 ≤ cs.length) (h8 : cs.length ≤ 8) (hc : ∀ c ∈ cs, c ∈ Lc.cps.toList) : wordIn Lc (Txt.join "" (cs.map fun c => (⟨#[c]⟩ : Str))) = true := by
  have e : (Txt.join "" (cs.map fun c => (⟨#[c]⟩ : Str))).cps.toList = cs := by
    rw [TL.join_eq]
    have := TL.tl_join "" (cs.map fun c => (⟨#[c]⟩ : Str))
    rw [List.map_map] at this
    exact this.trans (joinL_one cs)
  have el : (Txt.join "" (cs.map fun c => (⟨#[c]⟩ : Str))).length = cs.length := by
    show (Txt.join "" (cs.map fun c => (⟨#[c]⟩ : Str))).cps.size = _
    rw [← Array.length_toList, e]
  unfold wordIn
  rw [el, e, decide_eq_true h1, decide_eq_true h8, Bool.true_and, Bool.true_and, List.all_eq_true]
  exact fun c hx => decide_eq_true (hc c hx)
def spNrR (K : PySem.W.Frag) (C : Addr) : Sp := fun vs H Q _ => ∃ p x l xs ps a b, vs = [.ref p, .ref x, .ref l] ∧ H p = some (feedO a b) ∧ SgAt C H x ps ∧ H l = some (.lst xs) ∧ DpAll K H xs (prD ps) ∧ Good ps ∧
  ∀ a' b' H', SameX p H H' → H' p = some (feedO a' b') → Q (.bl true) H'
theorem sum_ones : ∀ cs : List Nat, ((cs.map fun c => (⟨#[c]⟩ : Str)).map (·.length)).sum = cs.length
  | [] => rfl
  | c :: cs => by
    rw [List.map_cons, List.map_cons, List.sum_cons, sum_ones cs]
    show 1 + cs.length = cs.length + 1
    omega
theorem fine1 (n : Int) (h0 : 0 ≤ n) (h3 : n ≤ 3) {z : Str} (hz : wordIn Lc z = true) : Fine [(z, n)] := ⟨by simp, by simp, by simp, fun p hp => by
  rw [List.mem_singleton.mp hp]
  exact ⟨hz, h0, h3⟩⟩
theorem f_word : wordIn Lc "f" = true := by decide +kernel
theorem SameX.same {x : Addr} {H H1 H2 : Hp} (a : SameX x H H1) (b : Same H1 H2) : SameX x H H2 := a.trans (Same.x b)
section
variable {P : Program} {w : World} {K : PySem.W.Frag} {mg : Str → Option Value} {base : Heap} {cN cC cB cS C fi fN fT fP fM fI : Addr} {di dN dT dP dM dI : FuncData} {fl pn gn pw gw fe fh : Addr} {dl dn dw de dh : FuncData}
theorem scNR : FnScope ["feed", "signs", "pairs", "letters", "word", "some", "turn"] ["feed", "signs", "pairs"] (defScope sNrR) := ⟨rfl, rfl, rfl, by decide +kernel, rfl, by decide +kernel, by decide +kernel⟩
theorem ok_nrR {f : Addr} {fd : FuncData} (F : Fun K "_law_near_right" "_law_near_right" sNrR f fd) (M : SgM P w K mg base C fl pn gn pw gw fe fh dl dn dw de dh) (MK : MkS P w K mg base cN cC cB C fi di)
    (GN : Cal P w K mg base CX0 1 "_law_near_signs" fN dN ["pairs"] (spNear K)) (GT : Cal P w K mg base CX0 1 "_law_take" fT dT ["feed", "many"] spTake) (GP : Cal P w K mg base CX0 2 "_law_pick" fP dP ["feed", "some"] (spPick K))
    (GM : Cal P w K mg base CX0 5 "_law_made" fM dM ["pairs"] (spMade K C)) (GI : CalG P w K mg base CX0 5 "_law_is" fI dI ["signs", "pairs"] (spIs K C)) (hl : mg "list" = none) (hrg : mg "range" = none) : FnG P w K mg base CX0 6 f fd ["feed", "signs", "pairs"] (spNrR K C) := by
  refine okG F scNR (fun vs H Q E h => ?_) (fun cdv A outer s H vs Q E hgd hr h => ?_)
  · obtain ⟨p, x, l, xs, ps, a, b, rfl, _⟩ := h
    rfl
  · obtain ⟨p, x, l, xs, ps, a, b, rfl, hp, hS, hl1, hd, hg, q⟩ := h
    have r1 : Room 1 (A.deeper (envOfC "_law_near_right" (defScope sNrR) s.heap.objs.size f cdv)) := hr.mono (by decide)
    have r2 : Room 2 (A.deeper (envOfC "_law_near_right" (defScope sNrR) s.heap.objs.size f cdv)) := hr.mono (by decide)
    have r4 : Room 4 (A.deeper (envOfC "_law_near_right" (defScope sNrR) s.heap.objs.size f cdv)) := hr.mono (by decide)
    refine ⟨_, pss_cons (ps_if (pt_cmpR (op_neD hr.units) (pe_lc (own := [("some", 5)]) (g := gName 5) (tt := tTest (tOp (rEqOwn K C (spEq K C) E0) (tVar 1) (tMake C (spInit K cN cC cB C) [] E0 (tCons (tCB (fun xs H Q => ∃ p ys, xs = [.ref p] ∧ (SqL K H p ys ∨ SqT K H p ys) ∧ ∀ l, H l = none → Q (.ref l) (L2.upd H l (.lst ys))) (tCons (tVar 5) tNil)) tNil)))) (te := tVar 5) rfl scNR.nd
          (pi_list (pe_call GN.ok r1 rfl GN.g GN.kp GN.b .nil pass0 (pa_cons (pv 2) pa_nil))) (blkOk_by (N := ["feed", "signs", "pairs", "letters", "word", "some", "turn"]) (sc := defScope sNrR) (by decide +kernel)) (fun _ _ _ _ _ => pg_name (i := 5) scNR.nd rfl (Or.inl rfl))
          (fun _ _ _ _ _ => pts_one (pt_cmpR (op_eqOwn M.eo r1 M.ea M.ef M.eb pass0) (pv 1) (pe_make MK.mm MK.ok r4 rfl MK.g MK.b .nil passL (pa_cons (pe_callTy call_list_of (by rfl) hl (by decide +kernel) (pa_cons (pv 5) pa_nil)) pa_nil)) (nomark _))) (fun _ _ _ _ _ => pv 5)) (pe_lst pa_nil) (nomark _)) (pss_one (ps_ret pe_bl)) pss_nil)
      (pss_cons (ps_set (i := 3) scNR.nd rfl (Or.inr rfl) pe_str)
      (pss_cons (ps_set (i := 4) scNR.nd rfl (Or.inl rfl) (pe_join pe_str (pe_lc (own := [("turn", 6)]) (g := gName 6) (tt := tYes) (te := tCall (spPick K) [] E0 (tCons (tVar 0) (tCons (tVar 3) tNil))) rfl scNR.nd
          (pi_range1 (by rfl) hrg (pa_cons (pe_op op_add pe_int (pe_call GT.ok r1 rfl GT.g GT.kp GT.b .nil pass0 (pa_cons (pv 0) (pa_cons pe_int pa_nil)))) pa_nil)) (blkOk_by (N := ["feed", "signs", "pairs", "letters", "word", "some", "turn"]) (sc := defScope sNrR) (by decide +kernel)) (fun _ _ _ _ _ => pg_name (i := 6) scNR.nd rfl (Or.inl rfl))
          (fun _ _ _ _ _ => pts_nil) (fun _ _ _ _ _ => pe_call GP.ok r2 rfl GP.g GP.kp GP.b .nil pass0 (pa_cons (pv 0) (pa_cons (pv 3) pa_nil))))))
      (pss_one (ps_ret (pe_and (pe_cmpR (op_neOwn M.eo r2 M.ea M.ef M.eb pass0 M.ne M.x.cm) (pe_make MK.mm MK.ok r4 rfl MK.g MK.b .nil passL (pa_cons (te := tDat K (fun _ => True) (psD [("f", 1)])) (pd_lst (by repeat (first | exact pd_int | exact pd_str | exact pd_nil | refine pd_cons ?_ ?_ | refine pd_lst ?_ (by decide) | refine pd_tup ?_ (by decide))) (by decide)) pa_nil))
          (pe_make MK.mm MK.ok r4 rfl MK.g MK.b .nil passL (pa_cons (te := tDat K (fun _ => True) (psD [("f", 0)])) (pd_lst (by repeat (first | exact pd_int | exact pd_str | exact pd_nil | refine pd_cons ?_ ?_ | refine pd_lst ?_ (by decide) | refine pd_tup ?_ (by decide))) (by decide)) pa_nil)) (nomark _))
        (pe_one (pe_callG GI.ok hgd hr rfl GI.g GI.kp GI.b .nil pass0 (pa_cons (pe_call GM.ok hr rfl GM.g GM.kp GM.b .nil pass0 (pa_cons (pe_lst (pa_cons (pe_tup (pa_cons (pv 4) (pa_cons pe_int pa_nil))) pa_nil)) pa_nil)) (pa_cons (pe_lst (pa_cons (pe_tup (pa_cons (pv 4) (pa_cons pe_int pa_nil))) pa_nil)) pa_nil))))))))), ?_⟩
    have ok := good_ok hg
    have hf := hg.fine
    have big : (1000 : Nat) ≤ sizeLine := by decide
    obtain ⟨dx, dn0, h1, h2⟩ := id hS
    refine ⟨_, rfl, l, xs, ps, rfl, hl1, hd, hg, fun pk us H1 s1 hn e1 e2 => ?_⟩
    refine ⟨pk, rfl, ⟨us, SqL.of e1⟩, fun D hD => ?_⟩
    refine lc_it (walk_list (xs := us)) (fun i H' => Same H1 H' ∧ H' D = some (.lst [])) ⟨same_upd hD, upd_same⟩ (fun i H' hi hp => Same.seq hp.1 (SqL.of e1)) (fun i y H5 H' hi hp hy => ?_) (fun H' hp => ?_)
    · obtain ⟨rfl, ey⟩ := hy
      obtain ⟨sm, hDl⟩ := hp
      obtain ⟨d, hd1, hd2⟩ := dpAll_get' e2 ey
      obtain ⟨qs, hqs, rfl⟩ := List.mem_map.mp (List.mem_of_getElem? hd1)
      obtain ⟨fq, nq⟩ := nears_fine hf qs hqs
      have hd3 := dp_same sm _ _ hd2
      cases hd3 with
      | lst g1 g2 =>
        rename_i aq xq
        refine ⟨rfl, ?_⟩
        refine ⟨_, rfl, _, rfl, aq, xq, rfl, .inl g1, fun l' hl' => ?_⟩
        have sl := same_upd (o := .lst xq) hl'
        intro yy dy hy hdy hne
        refine ⟨yy, .ref l', psD qs, dy, rfl, upd_same, ?_, shorts_fine (fun p hp => (fq.2.2.2 p hp).1), ?_⟩
        · refine .lst (SqL.of (xs := xq) ?_) (dpAll_same (fun b o e => ?_) _ _ g2)
          · have e : (L2.upd H' l' (.lst xq)) l' = some (.lst xq) := upd_same
            rw [upd_ne (ne_of_none e hy), upd_ne (ne_of_none e hdy)]
            exact e
          · have e := sl b o e
            rw [upd_ne (ne_of_none e hy), upd_ne (ne_of_none e hdy)]
            exact e
        · rw [made_fine fq]
          intro H11 s11 hSy
          refine ⟨rfl, ?_⟩
          have s5 : Same H' H11 := Same.trans sl (same_ins hy hdy s11)
          have s011 : Same H H11 := Same.trans s1 (Same.trans sm s5)
          obtain ⟨dy', dm, k1, k2⟩ := id hSy
          refine ⟨x, dx, _, .ref C, rfl, s011 _ _ h1, .inr ⟨yy, C, dy', _, rfl, k1, rfl⟩, M.nC, x, .ref yy, ps, rfl, hS.same s011, ok, .inr ⟨yy, qs, rfl, hSy, fine_ok fq, fun H12 s12 => ⟨_, rfl, _, rfl, ?_⟩⟩⟩
          rw [decide_eq_false nq]
          refine iteF ?_
          exact ⟨Same.trans sm (Same.trans s5 s12), s12 _ _ (s5 _ _ hDl)⟩
    · obtain ⟨sm, hDl⟩ := hp
      refine ⟨Nat.zero_le _, fun l2 hl2 => ?_⟩
      refine ⟨.list [], .list [], .lst (SqL.of (same_upd hl2 _ _ hDl)) .nil, .lst (SqL.of upd_same) .nil, by decide, by decide, _, rfl, iteF ?_⟩
      have s02 : Same H (L2.upd H' l2 (.lst [])) := Same.trans s1 (Same.trans sm (same_upd hl2))
      generalize (L2.upd H' l2 (.lst [])) = H2 at s02 ⊢
      refine ⟨⟨_, rfl⟩, ?_⟩
      refine ⟨_, rfl, p, a, b, 8, rfl, s02 _ _ hp, by decide, by decide, fun r a1 b1 hr0 hr1 => ?_⟩
      refine ⟨_, _, rfl, rfl, 1 + r, rfl, by omega, by omega, fun D3 hD3 => ?_⟩
      have hDp : D3 ≠ p := fun z => by rw [z, upd_same] at hD3; cases hD3
      have sx : SameX p H (L2.upd H2 p (feedO a1 b1)) := (Same.x s02).upd
      refine lc_it (walk_range (lo := 0) (n := (1 + r).toNat)) (fun i H' => ∃ (cs : List Nat) (aa bb : Int), SameX p H H' ∧ H' p = some (feedO aa bb) ∧ H' D3 = some (.lst ((cs.map fun c => (⟨#[c]⟩ : Str)).map V.str)) ∧ cs.length = i ∧ ∀ c ∈ cs, c ∈ Lc.cps.toList)
        ⟨[], a1, b1, fun b o e hb => by rw [upd_ne (ne_of_none (sx b o e hb) hD3)]; exact sx b o e hb, by rw [upd_ne hDp.symm, upd_same], upd_same, rfl, fun c hc => by cases hc⟩ (fun _ _ _ _ => trivial) (fun i y H5 H' hi hp' hy => ?_) (fun H' hp' => ?_)
      · obtain ⟨cs, aa, bb, sm, k1, k2, k3, k4⟩ := hp'
        obtain ⟨rfl, rfl⟩ := hy
        refine ⟨rfl, lcYes ?_⟩
        refine ⟨_, rfl, _, rfl, p, aa, bb, k1, .inr ⟨Lc, rfl, by decide +kernel, by decide +kernel, fun c a' b' hc => ?_⟩⟩
        refine ⟨_, by rw [upd_ne hDp]; exact k2, ?_, cs ++ [c], a', b', ?_, ?_, ?_, ?_, ?_⟩
        · rw [List.length_map, List.length_map, k3]
          have : i < 1000 := by omega
          omega
        · intro b o e hb
          have hbD : b ≠ D3 := by
            have h3 := sx b o e hb
            exact ne_of_none h3 hD3
          rw [upd_ne hbD, upd_ne hb]
          exact sm b o e hb
        · rw [upd_ne hDp.symm, upd_same]
        · rw [upd_same, List.map_append, List.map_append]
          rfl
        · rw [List.length_append, k3]
          rfl
        · intro d hd
          rcases List.mem_append.mp hd with hd | hd
          · exact k4 d hd
          · rw [List.mem_singleton.mp hd]
            exact hc
      · obtain ⟨cs, aa, bb, sm, k1, k2, k3, k4⟩ := hp'
        refine ⟨"", D3, _, rfl, rfl, .inl (SqL.of k2), ?_, ?_⟩
        · rw [sum_ones, List.length_map, k3]
          show (1 + r).toNat + (1 + r).toNat * 0 ≤ 16777216
          omega
        · have hw : wordIn Lc (Txt.join "" (cs.map fun c => (⟨#[c]⟩ : Str))) = true := word_join (by omega) (by omega) k4
          generalize Txt.join "" (cs.map fun c => (⟨#[c]⟩ : Str)) = word at hw ⊢
          refine ⟨trivial, fun v5 H5 s5 hv5 => ?_⟩
          intro y1 e1' hy1 he1 hne1
          refine ⟨y1, v5, psD [("f", 1)], e1', rfl, upd_same, dp_same (fun b o e => ?_) _ _ hv5, shorts_fine (fun p hp => by rw [List.mem_singleton.mp hp]; exact f_word), ?_⟩
          · have e := nw_same b o e
            rw [upd_ne (ne_of_none e hy1), upd_ne (ne_of_none e he1)]
            exact e
          · rw [made_fine (fine1 1 (by decide) (by decide) f_word)]
            intro H6 s6 hS6
            refine ⟨rfl, ?_⟩
            have s56 := Same.trans s5 (same_ins hy1 he1 s6)
            refine ⟨trivial, fun v7 H7 s7 hv7 => ?_⟩
            intro y2 e2' hy2 he2 hne2
            refine ⟨y2, v7, psD [("f", 0)], e2', rfl, upd_same, dp_same (fun b o e => ?_) _ _ hv7, shorts_fine (fun p hp => by rw [List.mem_singleton.mp hp]; exact f_word), ?_⟩
            · have e := nw_same b o e
              rw [upd_ne (ne_of_none e hy2), upd_ne (ne_of_none e he2)]
              exact e
            · rw [made_fine (fine1 0 (by decide) (by decide) f_word)]
              intro H8 s8 hS8
              refine ⟨rfl, ?_⟩
              have s78 := Same.trans s7 (same_ins hy2 he2 s8)
              have hS6' := hS6.same s78
              obtain ⟨q1, q2, q3, q4⟩ := id hS6'
              obtain ⟨t1, t2, t3, t4⟩ := id hS8
              refine ⟨y1, q1, _, .ref C, rfl, q3, .inr ⟨y2, C, t1, _, rfl, t3, rfl⟩, M.nC, y1, .ref y2, [("f", 1)], rfl, hS6', fine_ok (fine1 1 (by decide) (by decide) f_word), .inr ⟨y2, [("f", 0)], rfl, hS8, fine_ok (fine1 0 (by decide) (by decide) f_word), fun H9 s9 => ⟨_, rfl, _, rfl, ?_⟩⟩⟩
              rw [decide_eq_false (show ¬ [(("f" : Str), (1 : Int))] = [(("f" : Str), (0 : Int))] by decide +kernel)]
              refine iteT ?_
              have s09 := Same.trans s56 (Same.trans s78 s9)
              have k1' := s09 _ _ k1
              have fw := fine1 3 (by decide) (by decide) hw
              refine ⟨_, rfl, (by show 2 ≤ sizeLine; decide), fun t5 ht5 => ⟨(by show 1 ≤ sizeLine; decide), fun l5 hl5 => ?_⟩⟩
              have st := same_upd (o := .tup [.str word, .int 3]) ht5
              have sl := same_upd (o := .lst [.ref t5]) hl5
              refine ⟨.ref l5, psD [(word, 3)], rfl, .lst (SqL.of upd_same) (.cons (.tup (SqT.of (sl _ _ upd_same)) (.cons (.str _) (.cons (.int _) .nil))) .nil), shorts_fine (fun p hp => by rw [List.mem_singleton.mp hp]; exact hw), ?_⟩
              rw [made_fine fw]
              intro y3 H10 s10 _ hS10
              refine ⟨_, rfl, (by show 2 ≤ sizeLine; decide), fun t6 ht6 => ⟨(by show 1 ≤ sizeLine; decide), fun l6 hl6 => ?_⟩⟩
              have st6 := same_upd (o := .tup [.str word, .int 3]) ht6
              have sl6 := same_upd (o := .lst [.ref t6]) hl6
              refine ⟨y3, .ref l6, [(word, 3)], rfl, hS10.same (Same.trans st6 sl6), .lst (SqL.of upd_same) (.cons (.tup (SqT.of (sl6 _ _ upd_same)) (.cons (.str _) (.cons (.int _) .nil))) .nil), fw, fun H11 s11 => ?_⟩
              have s911 := Same.trans st (Same.trans sl (Same.trans s10 (Same.trans st6 (Same.trans sl6 s11))))
              exact q aa bb H11 (sm.same (Same.trans s09 s911)) (s911 _ _ k1')
end
end Sg

set_option maxRecDepth 100000
set_option maxHeartbeats 4000000
namespace Sg
open PySem PySem.Spec PyProof.Rows L2 Dr Gd Er Cm Ow Tw
theorem build_bad : ∀ (qs acc : List (Str × Int)) (i : Nat) (d : PyData) (rest : List PyData), (∀ p ∈ qs, wordIn Lc p.1 = true ∧ 0 ≤ p.2 ∧ p.2 ≤ 3) → ((acc ++ qs).map (·.1)).Nodup → (isSign d && !hasN (acc ++ qs) (prOf d).1) = false → build (prD qs ++ d :: rest) acc i = .bad (i + qs.length)
  | [], acc, i, d, rest, _, _, h => by
    rw [List.append_nil] at h
    show (if isSign d && !hasN acc (prOf d).1 then _ else _) = _
    rw [if_neg (by rw [h]; simp)]
    rfl
  | p :: qs, acc, i, d, rest, hv, nd, h => by
    have hp := hv p List.mem_cons_self
    have hn : hasN acc p.1 = false := by
      unfold hasN
      rw [List.any_eq_false]
      intro q hq e
      have e := of_decide_eq_true e
      rw [List.map_append] at nd
      exact (List.nodup_append.mp nd).2.2 q.1 (List.mem_map.mpr ⟨q, hq, rfl⟩) p.1 (by simp) e
    show (if isSign (.tuple [.str p.1, .int p.2]) && !hasN acc (prOf (.tuple [.str p.1, .int p.2])).1 then build (prD qs ++ d :: rest) (acc ++ [prOf (.tuple [.str p.1, .int p.2])]) (i + 1) else .bad i) = _
    rw [if_pos (by rw [sign_pr hp.1 hp.2.1 hp.2.2]; show (true && !hasN acc p.1) = true; rw [hn]; rfl)]
    have e := build_bad qs (acc ++ [p]) (i + 1) d rest (fun q hq => hv q (List.mem_cons_of_mem _ hq)) (by rw [List.append_assoc]; exact nd) (by rw [List.append_assoc]; exact h)
    refine e.trans ?_
    rw [List.length_cons]
    congr 1
    omega
/-- what stands at the drawn place makes no signs of the list -/
def BadAt (ps : List (Str × Int)) (a : Nat) (d : PyData) : Prop := (isSign d && !hasN (ps.take a) (prOf d).1) = false
theorem made_bad {ps : List (Str × Int)} {a : Nat} {d : PyData} {more : List PyData} (hf : Good ps) (ha : a ≤ ps.length) (hb : BadAt ps a d) (hm : more.length ≤ 1) (h5 : ps.length + 1 + more.length ≤ 5) : madeOf (.list (prD (ps.take a) ++ d :: (prD (ps.drop a) ++ more))) = .sign a := by
  show madeL _ = _
  unfold madeL
  have e1 : (prD (ps.take a) ++ d :: (prD (ps.drop a) ++ more)).length = ps.length + 1 + more.length := by
    unfold prD
    rw [List.length_append, List.length_cons, List.length_append, List.length_map, List.length_map, List.length_take, List.length_drop]
    omega
  rw [if_pos (by rw [e1]; omega)]
  rw [build_bad (ps.take a) [] 0 d (prD (ps.drop a) ++ more) (fun p hp => hf.2.2.2.1 p (List.mem_of_mem_take hp)) ?_ hb]
  · rw [List.length_take, Nat.min_eq_left ha, Nat.zero_add]
  · rw [List.nil_append, List.map_take]
    exact List.Nodup.sublist (List.take_sublist _ _) hf.2.2.1
structure Oki (d : PyData) : Prop where
  sh : d.showable = true
  nd : d.hasDict = false
  sz : d.shown.length ≤ 100
  dp : d.depth ≤ 10
instance (d : PyData) : Decidable (Oki d) := decidable_of_iff (d.showable = true ∧ d.hasDict = false ∧ d.shown.length ≤ 100 ∧ d.depth ≤ 10) ⟨fun h => ⟨h.1, h.2.1, h.2.2.1, h.2.2.2⟩, fun h => ⟨h.sh, h.nd, h.sz, h.dp⟩⟩
theorem all_oki : ∀ z ∈ allN, ∀ n ∈ [(0 : Int), 1, 2, 3], Oki (.tuple [.str z, .int n]) := by decide +kernel
theorem odd_oki : ∀ d ∈ oddD "q", Oki d := by decide +kernel
theorem odd_no : ∀ d ∈ oddD "q", isSign d = false := by decide +kernel
theorem pr_oki {ps : List (Str × Int)} (h : Good ps) : ∀ d ∈ prD ps, Oki d := by
  intro d hd
  obtain ⟨p, hp, rfl⟩ := List.mem_map.mp hd
  have h1 := h.2.2.2.1 p hp
  have h2 := h.2.2.2.2.2 p hp
  refine all_oki p.1 h2 p.2 ?_
  rcases (show p.2 = 0 ∨ p.2 = 1 ∨ p.2 = 2 ∨ p.2 = 3 by omega) with e | e | e | e <;> rw [e] <;> simp
theorem oki_all : ∀ ds : List PyData, (∀ d ∈ ds, Oki d) → PyData.showableAll ds = true ∧ PyData.hasDictAll ds = false ∧ PyData.depthAll ds ≤ 10 ∧ ((PyData.shownAll ds).map (·.length)).sum ≤ ds.length * 100 ∧ (PyData.shownAll ds).length = ds.length
  | [], _ => ⟨by simp [PyData.showableAll], by simp [PyData.hasDictAll], by simp [PyData.depthAll], by simp [PyData.shownAll], by simp [PyData.shownAll]⟩
  | d :: ds, h => by
    have hd := h d List.mem_cons_self
    obtain ⟨a, b, c, e, f⟩ := oki_all ds fun x hx => h x (List.mem_cons_of_mem _ hx)
    refine ⟨by simp [PyData.showableAll, hd.sh, a], by simp [PyData.hasDictAll, hd.nd, b], ?_, ?_, ?_⟩
    · simp only [PyData.depthAll]
      exact Nat.max_le.mpr ⟨hd.dp, c⟩
    · rw [PyData.shownAll_cons, List.map_cons, List.sum_cons, List.length_cons]
      have := hd.sz
      omega
    · rw [PyData.shownAll_cons, List.length_cons, List.length_cons, f]
theorem okv_list {ds : List PyData} (h : ∀ d ∈ ds, Oki d) (h9 : ds.length ≤ 9) : Okv (.list ds) := by
  obtain ⟨a, b, c, e, f⟩ := oki_all ds h
  refine ⟨by simpa only [PyData.showable] using a, by simpa only [PyData.hasDict] using b, ?_, ?_⟩
  · have e1 : (PyData.list ds).shown = listText (PyData.shownAll ds) := by simp only [PyData.shown]
    rw [e1, sizeLine_eq]
    have z := listText_len_le (PyData.shownAll ds)
    rw [f] at z
    omega
  · simp only [PyData.depth]
    omega
theorem odd_short : ∀ d ∈ oddD "q", Short d := by
  intro d hd
  simp only [oddD, odd1, odd2, odd3, odd4, List.cons_append, List.nil_append, List.mem_cons, List.not_mem_nil, or_false] at hd
  rcases hd with rfl | rfl | rfl | rfl | rfl | rfl | rfl | rfl | rfl | rfl | rfl | rfl | rfl | rfl | rfl | rfl | rfl | rfl | rfl | rfl | rfl | rfl | rfl | rfl | rfl | rfl | rfl | rfl | rfl | rfl | rfl <;>
    first | exact trivial | (show _ ≤ sizeLine; decide +kernel)
theorem pr_short {ps : List (Str × Int)} (h : Good ps) : ∀ d ∈ prD ps, Short d := by
  intro d hd
  obtain ⟨p, hp, rfl⟩ := List.mem_map.mp hd
  exact word_len (h.2.2.2.1 p hp).1
def badD : List PyData := [.str "q", .str "", .str "F", .none, .int 0, .tuple [.str "f"], .list [.str "f"], .bool true]
theorem badD_no : ("q" : Str) ∉ allN ∧ ("" : Str) ∉ allN ∧ ("F" : Str) ∉ allN := by decide +kernel
theorem not_has {ps : List (Str × Int)} (h : Good ps) {z : Str} (hz : z ∉ allN) : hasN ps z = false := by
  unfold hasN
  rw [List.any_eq_false]
  intro p hp e
  exact hz (by rw [← of_decide_eq_true e]; exact h.2.2.2.2.2 p hp)
theorem bad_has {ps : List (Str × Int)} (h : Good ps) : ∀ d ∈ badD, hasD ps d = false ∧ arD ps d = none := by
  have key : ∀ z : Str, z ∉ allN → hasD ps (.str z) = false ∧ arD ps (.str z) = none := fun z hz => by
    refine ⟨not_has h hz, ?_⟩
    have := arOf_has ps z
    rw [not_has h hz] at this
    show arOf ps z = none
    cases e : arOf ps z with
    | none => rfl
    | some n => rw [e] at this; cases this
  intro d hd
  simp only [badD, List.mem_cons, List.not_mem_nil, or_false] at hd
  rcases hd with rfl | rfl | rfl | rfl | rfl | rfl | rfl | rfl
  · exact key _ badD_no.1
  · exact key _ badD_no.2.1
  · exact key _ badD_no.2.2
  all_goals exact ⟨rfl, rfl⟩
def noneD (d : PyData) : PyData := .tuple [.str "none", .str d.shown]
theorem bad_ok : ∀ d ∈ badD, Oki d ∧ SeqAt.shaped (noneD d) = true ∧ PyData.eqv (noneD d) (noneD d) = true := by decide +kernel
end Sg

set_option maxRecDepth 100000
set_option maxHeartbeats 4000000
namespace Sg
open PySem PySem.Spec PyProof.Rows L2 Dr Gd Er Cm Ow Tw
/-- what stands while a cell of the law is walked -/
structure Wd (K : PySem.W.Frag) (C p l x : Addr) (xs : List V) (ps : List (Str × Int)) (H : Hp) : Prop where
  f : ∃ a b, H p = some (feedO a b)
  ll : H l = some (.lst xs)
  n : l ≠ p
  d : DpAll K (L2.del H p) xs (prD ps)
  s : SgAt C (L2.del H p) x ps
theorem del_same' {H : Hp} {p : Addr} : Same (L2.del H p) H := fun b o e => by
  by_cases hb : b = p
  · subst hb; rw [del_same] at e; cases e
  · rw [del_ne hb] at e; exact e
section
variable {K : PySem.W.Frag} {C p l x : Addr} {xs : List V} {ps : List (Str × Int)} {H H' : Hp}
theorem Wd.same (W : Wd K C p l x xs ps H) (s : Same H H') : Wd K C p l x xs ps H' := by
  obtain ⟨a, b, f⟩ := W.f
  exact ⟨⟨a, b, s _ _ f⟩, s _ _ W.ll, W.n, dpAll_same (SameX.del (Same.x s)) _ _ W.d, W.s.same (SameX.del (Same.x s))⟩
theorem Wd.step (W : Wd K C p l x xs ps H) (s : SameX p H H') {a b : Int} (f : H' p = some (feedO a b)) : Wd K C p l x xs ps H' :=
  ⟨⟨a, b, f⟩, s _ _ W.ll W.n, W.n, dpAll_same (SameX.del s) _ _ W.d, W.s.same (SameX.del s)⟩
theorem Wd.da (W : Wd K C p l x xs ps H) : DpAll K H xs (prD ps) := dpAll_same del_same' _ _ W.d
theorem Wd.sg (W : Wd K C p l x xs ps H) : SgAt C H x ps := W.s.same del_same'
theorem Wd.dp (W : Wd K C p l x xs ps H) : Dp K H (.ref l) (psD ps) := .lst (SqL.of W.ll) W.da
theorem Wd.len (W : Wd K C p l x xs ps H) : xs.length = ps.length := (dpAll_len W.d).trans (List.length_map ..)
end
theorem same_viaX {p : Addr} {H H1 H2 : Hp} (s : Same H H1) (hp : H p = none) (sx : SameX p H1 H2) : Same H H2 := fun b o e => sx b o (s b o e) (ne_of_none e hp)
def agA (n : Int) : Int := if (decide (n = 0)) = true then 1 else 0
def agPs (ps : List (Str × Int)) : List (Str × Int) := ps.map fun p => (p.1, agA p.2)
theorem cut_last (xs : List V) : cutV xs (some (-1)) none = xs.drop (xs.length - 1) := by
  unfold cutV
  rw [HT.sIx_none]
  have e : HT.sIx xs.length 0 (some (-1)) = xs.length - 1 := by
    show (if (-1 : Int) < 0 then ((-1 : Int) + (xs.length : Int)).toNat else min (-1 : Int).toNat xs.length) = _
    rw [if_pos (by decide)]
    omega
  rw [e, List.take_of_length_le (by rw [List.length_drop]; omega)]
def oneD (ps : List (Str × Int)) (n : Nat) : List PyData := oddD "q" ++ (prD (ps.take n)).take 1 ++ (prD (agPs (ps.take n))).take 1 ++ (prD (agPs (ps.take n))).drop ((agPs (ps.take n)).length - 1)
theorem has_take {ps : List (Str × Int)} {n : Nat} {q : Str × Int} (h : q ∈ ps.take n) : hasN (ps.take n) q.1 = true := List.any_eq_true.mpr ⟨q, h, decide_eq_true rfl⟩
theorem one_ok {ps : List (Str × Int)} {n : Nat} (hg : Good ps) : ∀ d ∈ oneD ps n, BadAt ps n d ∧ Short d ∧ Oki d := by
  have pr1 : ∀ d ∈ prD (ps.take n), BadAt ps n d ∧ Short d ∧ Oki d := fun d hd => by
    obtain ⟨p, hp, rfl⟩ := List.mem_map.mp hd
    refine ⟨?_, word_len (hg.2.2.2.1 p (List.mem_of_mem_take hp)).1, pr_oki hg _ (List.mem_map.mpr ⟨p, List.mem_of_mem_take hp, rfl⟩)⟩
    show (_ && !hasN (ps.take n) p.1) = false
    rw [has_take hp]
    simp
  have ag1 : ∀ d ∈ prD (agPs (ps.take n)), BadAt ps n d ∧ Short d ∧ Oki d := fun d hd => by
    obtain ⟨q, hq, rfl⟩ := List.mem_map.mp hd
    obtain ⟨p, hp, rfl⟩ := List.mem_map.mp hq
    have hp2 := List.mem_of_mem_take hp
    refine ⟨?_, word_len (hg.2.2.2.1 p hp2).1, ?_⟩
    · show (_ && !hasN (ps.take n) p.1) = false
      rw [has_take hp]
      simp
    · refine all_oki p.1 (hg.2.2.2.2.2 p hp2) (agA p.2) ?_
      unfold agA
      split <;> simp
  intro d hd
  unfold oneD at hd
  rcases List.mem_append.mp hd with hd | hd
  · rcases List.mem_append.mp hd with hd | hd
    · rcases List.mem_append.mp hd with hd | hd
      · refine ⟨?_, odd_short d hd, odd_oki d hd⟩
        unfold BadAt
        rw [odd_no d hd]
        rfl
      · exact pr1 d (List.mem_of_mem_take hd)
    · exact ag1 d (List.mem_of_mem_take hd)
  · exact ag1 d (List.mem_of_mem_drop hd)
def tg (z : Str) (n : Int) : PyData := .tuple [.str z, .int n]
theorem tg_shaped {z : Str} (n : Int) (h : PyData.strOk z = true) : SeqAt.shaped (tg z n) = true := by
  unfold SeqAt.shaped tg
  rw [Bool.and_eq_true]
  refine ⟨?_, decide_eq_true (by simp [PyData.depth, PyData.depthAll])⟩
  show (PyData.strOk z && (true && true)) = true
  rw [h]
  rfl
theorem tg_eqv (z : Str) (n : Int) : PyData.eqv (tg z n) (tg z n) = true := by
  show ((z == z) && ((n == n) && true)) = true
  simp
theorem tg_dp {K : PySem.W.Frag} {H : Hp} {t : Addr} {z : Str} {n : Int} (h : H t = some (.tup [.str z, .int n])) : Dp K H (.ref t) (tg z n) := .tup (SqT.of h) (.cons (.str z) (.cons (.int n) .nil))
theorem wrong_short {ps : List (Str × Int)} {n : Nat} {d : PyData} {more : List PyData} (hg : Good ps) (hd : Short d) (hm : ∀ e ∈ more, Short e) : Shorts (.list (prD (ps.take n) ++ d :: (prD (ps.drop n) ++ more))) := by
  intro e he
  have pr : ∀ qs : List (Str × Int), (∀ q ∈ qs, q ∈ ps) → ∀ e ∈ prD qs, Short e := fun qs hq e he => by
    obtain ⟨q, hq', rfl⟩ := List.mem_map.mp he
    exact word_len (hg.2.2.2.1 q (hq q hq')).1
  rcases List.mem_append.mp he with he | he
  · exact pr _ (fun q hq => List.mem_of_mem_take hq) e he
  · rcases List.mem_cons.mp he with rfl | he
    · exact hd
    · rcases List.mem_append.mp he with he | he
      · exact pr _ (fun q hq => List.mem_of_mem_drop hq) e he
      · exact hm e he
theorem wrong_okv {ps : List (Str × Int)} {n : Nat} {d : PyData} {more : List PyData} (hg : Good ps) (hn : n ≤ ps.length) (hd : Oki d) (hm : ∀ e ∈ more, Oki e) (h1 : more.length ≤ 1) : Okv (.list (prD (ps.take n) ++ d :: (prD (ps.drop n) ++ more))) := by
  refine okv_list (fun e he => ?_) ?_
  · have pr : ∀ qs : List (Str × Int), (∀ q ∈ qs, q ∈ ps) → ∀ e ∈ prD qs, Oki e := fun qs hq e he => by
      obtain ⟨q, hq', rfl⟩ := List.mem_map.mp he
      exact pr_oki hg _ (List.mem_map.mpr ⟨q, hq q hq', rfl⟩)
    rcases List.mem_append.mp he with he | he
    · exact pr _ (fun q hq => List.mem_of_mem_take hq) e he
    · rcases List.mem_cons.mp he with rfl | he
      · exact hd
      · rcases List.mem_append.mp he with he | he
        · exact pr _ (fun q hq => List.mem_of_mem_drop hq) e he
        · exact hm e he
  · have := hg.2.1
    unfold prD
    rw [List.length_append, List.length_cons, List.length_append, List.length_map, List.length_map, List.length_take, List.length_drop]
    omega
end Sg

set_option maxRecDepth 100000
set_option maxHeartbeats 8000000
namespace Sg
open PySem PySem.Spec PyProof.Rows L2 Dr Gd Er Cm Ow Tw
abbrev sLaw1 : Stmt := top 30
structure LTxt (mg : Str → Option Value) : Prop where
  rng : mg "range" = none
  max : mg "max" = none
  min : mg "min" = none
  len : mg "len" = none
  lst : mg "list" = none
  int : mg "int" = none
  rep : mg "repr" = none
  tup : mg "tuple" = none
theorem rep_dp {K : PySem.W.Frag} {H : Hp} {v : V} {d : PyData} (h : Dp K H v d) : ∀ n, DpAll K H (List.replicate n v) (List.replicate n d)
  | 0 => .nil
  | n + 1 => by rw [List.replicate_succ, List.replicate_succ]; exact .cons h (rep_dp h n)
def cntD : List PyData := [.list [], .list (List.replicate 6 (tg "q" 0)), .list (List.replicate 6 .none)]
theorem cnt_ok : ∀ d ∈ cntD, madeOf d = .count ∧ Shorts d := by
  intro d hd
  simp only [cntD, List.mem_cons, List.not_mem_nil, or_false] at hd
  rcases hd with rfl | rfl | rfl
  · exact ⟨by show madeL _ = _; unfold madeL; exact if_neg (by decide), fun e he => by cases he⟩
  · refine ⟨by show madeL _ = _; unfold madeL; exact if_neg (by decide), fun e he => ?_⟩
    rw [(List.mem_replicate.mp he).2]
    show _ ≤ sizeLine
    decide +kernel
  · refine ⟨by show madeL _ = _; unfold madeL; exact if_neg (by decide), fun e he => ?_⟩
    rw [(List.mem_replicate.mp he).2]
    trivial
theorem cnt_shaped : SeqAt.shaped (.list (prD (List.replicate 3 ("count", 0)))) = true ∧ PyData.eqv (.list (prD (List.replicate 3 ("count", 0)))) (.list (prD (List.replicate 3 ("count", 0)))) = true := by decide +kernel
def nlD (ps : List (Str × Int)) : List PyData := [.none, .tuple (prD ps), .str "signs", .int 0, .tuple []]
theorem nl_ok (ps : List (Str × Int)) : ∀ d ∈ nlD ps, madeOf d = .noList ∧ Shorts d := by
  intro d hd
  simp only [nlD, List.mem_cons, List.not_mem_nil, or_false] at hd
  rcases hd with rfl | rfl | rfl | rfl | rfl <;> exact ⟨rfl, trivial⟩
theorem oki_okv {d : PyData} (h : Oki d) : Okv d := ⟨h.sh, h.nd, Nat.le_trans h.sz (by decide), Nat.le_trans h.dp (by decide)⟩
theorem rev_fine {ps : List (Str × Int)} (hf : Fine ps) : Fine ps.reverse := by
  refine ⟨by rw [List.length_reverse]; exact hf.1, by rw [List.length_reverse]; exact hf.2.1, ?_, fun q hq => hf.2.2.2 q (List.mem_reverse.mp hq)⟩
  rw [List.map_reverse]
  unfold List.Nodup
  rw [List.pairwise_reverse]
  exact List.Pairwise.imp (fun h => Ne.symm h) hf.2.2.1
def spLaw1 (K : PySem.W.Frag) : Sp := fun vs H Q _ => ∃ (a : Addr) (ns : List Int), vs = [.ref a] ∧ SqL K H a (ns.map V.int) ∧ ns.length < 1000 ∧ ∀ H', Q (.bl true) H'
section
variable {P : Program} {w : World} {K : PySem.W.Frag} {mg : Str → Option Value} {base : Heap} {cN cC cB cS C fi fF fD fT fO fM fI fA fR : Addr} {di dF dD dT dO dM dI dA dR : FuncData} {fl pn gn pw gw fe fh : Addr} {dl dn dw de dh : FuncData}
theorem scLw1 : FnScope ["script", "k", "feed", "pairs", "handed", "signs", "at", "again", "one", "wrong", "held", "bad", "other", "name", "arity", "some"] ["script"] (defScope sLaw1) := ⟨rfl, rfl, rfl, by decide +kernel, rfl, by decide +kernel, by decide +kernel⟩
theorem ok_law1 {f : Addr} {fd : FuncData} (F : Fun K "law" "law" sLaw1 f fd) (T : LTxt mg) (M : SgM P w K mg base C fl pn gn pw gw fe fh dl dn dw de dh) (MK : MkS P w K mg base cN cC cB C fi di)
    (GF : Cal P w K mg base CX0 1 "_law_feed" fF dF ["script", "k"] (spFeed K)) (GD : Cal P w K mg base CX0 3 "_law_drawn_signs" fD dD ["feed"] (spDrawn K)) (GT : Cal P w K mg base CX0 1 "_law_take" fT dT ["feed", "many"] spTake) (GO : Cal P w K mg base CX0 1 "_law_odd_pairs" fO dO ["name"] (spOdd K))
    (GM : Cal P w K mg base CX0 5 "_law_made" fM dM ["pairs"] (spMade K C)) (GI : CalG P w K mg base CX0 5 "_law_is" fI dI ["signs", "pairs"] (spIs K C)) (GA : CalG P w K mg base CX0 3 "_law_arity" fA dA ["signs", "name"] (spLar K C))
    (GR : CalG P w K mg base CX0 6 "_law_near_right" fR dR ["feed", "signs", "pairs"] (spNrR K C)) : FnG P w K mg base CX0 7 f fd ["script"] (spLaw1 K) := by
  refine okG F scLw1 (fun vs H Q E h => ?_) (fun cdv A outer s H vs Q E hgd hr h => ?_)
  · obtain ⟨a, ns, rfl, _⟩ := h
    rfl
  · obtain ⟨a, ns, rfl, hsc, hlen, q⟩ := h
    have r1 : Room 1 (A.deeper (envOfC "law" (defScope sLaw1) s.heap.objs.size f cdv)) := hr.mono (by decide)
    have r2 : Room 2 (A.deeper (envOfC "law" (defScope sLaw1) s.heap.objs.size f cdv)) := hr.mono (by decide)
    have r3 : Room 3 (A.deeper (envOfC "law" (defScope sLaw1) s.heap.objs.size f cdv)) := hr.mono (by decide)
    have r4 : Room 4 (A.deeper (envOfC "law" (defScope sLaw1) s.heap.objs.size f cdv)) := hr.mono (by decide)
    have r5 : Room 5 (A.deeper (envOfC "law" (defScope sLaw1) s.heap.objs.size f cdv)) := hr.mono (by decide)
    have hu : (A.deeper (envOfC "law" (defScope sLaw1) s.heap.objs.size f cdv)).units + 70 < cLine := by
      have := hr.un
      omega
    have nd := scLw1.nd
    refine ⟨_, pss_cons (ps_for PassesOwn.never rfl (pi_range1 (by rfl) T.rng (pa_cons (pe_callB (call_max2 rfl) (by rfl) T.max boot_max (pa_cons pe_int (pa_cons (pe_callB (call_min2 rfl) (by rfl) T.min (by decide +kernel) (pa_cons pe_int (pa_cons (pe_callB call_len (by rfl) T.len PySem.boot_len (pa_cons (pv 0) pa_nil)) pa_nil))) pa_nil))) pa_nil)) (pg_name (i := 1) scLw1.nd rfl (Or.inl rfl))
      (pss_cons (ps_set (i := 2) scLw1.nd rfl (Or.inl rfl) (pe_call GF.ok r1 rfl GF.g GF.kp GF.b .nil pass0 (pa_cons (pv 0) (pa_cons (pv 1) pa_nil))))
      (pss_cons (ps_set (i := 3) scLw1.nd rfl (Or.inl rfl) (pe_callTy call_list_of (by rfl) T.lst (by decide +kernel) (pa_cons (pe_call GD.ok r3 rfl GD.g GD.kp GD.b .nil pass0 (pa_cons (pv 2) pa_nil)) pa_nil)))
      (pss_cons (ps_set (i := 4) scLw1.nd rfl (Or.inl rfl) (pe_callTy call_list_of (by rfl) T.lst (by decide +kernel) (pa_cons (pv 3) pa_nil)))
      (pss_cons (ps_set (i := 5) scLw1.nd rfl (Or.inl rfl) (pe_call GM.ok r5 rfl GM.g GM.kp GM.b .nil pass0 (pa_cons (pv 4) pa_nil)))
      (pss_cons (ps_if (pt_cmpR (op_neD hr.units) (pv 4) (pv 3) (nomark _)) (pss_one (ps_ret pe_bl)) pss_nil)
      (pss_cons (ps_expr (pe_bm0 PySem.F.plainAttrs_list PySem.F.slot_list_clear PySem.F.type_list_clear mt_clear (pv 4)))
      (pss_cons (ps_if (pt_not (pt_val (pe_callG GI.ok hgd r5 rfl GI.g GI.kp GI.b .nil pass0 (pa_cons (pv 5) (pa_cons (pv 3) pa_nil))))) (pss_one (ps_ret pe_bl)) pss_nil)
      (pss_cons (ps_set (i := 6) scLw1.nd rfl (Or.inl rfl) (pe_call GT.ok r1 rfl GT.g GT.kp GT.b .nil pass0 (pa_cons (pv 2) (pa_cons (pe_op op_add (pe_callB call_len_seq (by rfl) T.len PySem.boot_len (pa_cons (pv 3) pa_nil)) pe_int) pa_nil))))
      (pss_cons (ps_setLc (i := 7) (own := [("name", 13), ("arity", 14)]) (g := gTup K 2 (gCons (gName 13) (gCons (gName 14) gNil))) (tt := tYes) (te := tTup (tCons (tVar 13) (tCons (tCB (fun xs H Q => (∃ i, xs = [.int i] ∧ Q (.int i) H) ∨ ∃ k, xs = [.bl k] ∧ Q (.int (if k then 1 else 0)) H) (tCons (tEqI (tVar 14) (tC (.int 0))) tNil)) tNil)))
          (by rfl) scLw1.nd rfl rfl (sw_true rfl rfl rfl (by decide +kernel)) (pi_list (pe_slice sl_list (pv 3) po_none (po_some (pv 6)))) (blkOk_by (N := ["script", "k", "feed", "pairs", "handed", "signs", "at", "again", "one", "wrong", "held", "bad", "other", "name", "arity", "some"]) (sc := defScope sLaw1) (by decide +kernel))
          (fun _ _ _ _ _ => pg_tup rfl (pgs_cons (pg_name (i := 13) scLw1.nd rfl (Or.inl rfl)) (pgs_cons (pg_name (i := 14) scLw1.nd rfl (Or.inl rfl)) pgs_nil))) (fun _ _ _ _ _ => pts_nil) (fun _ _ _ _ _ => pe_tup (pa_cons (pv 13) (pa_cons (pe_callTy call_int1 (by rfl) T.int (by decide +kernel) (pa_cons (pe_cmp (pc_eqI (pv 14) pe_int) rfl) pa_nil)) pa_nil))))
      (pss_cons (ps_for PassesOwn.never rfl (pi_list (pe_op op_cat (pe_op op_cat (pe_op op_cat (pe_call GO.ok r1 rfl GO.g GO.kp GO.b .nil pass0 (pa_cons pe_str pa_nil)) (pe_slice sl_list (pe_slice sl_list (pv 3) po_none (po_some (pv 6))) po_none (po_some pe_int))) (pe_slice sl_list (pv 7) po_none (po_some pe_int))) (pe_slice sl_list (pv 7) (po_some (pe_un un_neg pe_int)) po_none))) (pg_name (i := 8) scLw1.nd rfl (Or.inl rfl))
        (pss_cons (ps_set (i := 9) scLw1.nd rfl (Or.inl rfl) (pe_op op_cat (pe_op op_cat (pe_slice sl_list (pv 3) po_none (po_some (pv 6))) (pe_lst (pa_cons (pv 8) pa_nil))) (pe_slice sl_list (pv 3) (po_some (pv 6)) po_none)))
        (pss_cons (ps_if (pt_cmpR op_le (pe_callB call_len_seq (by rfl) T.len PySem.boot_len (pa_cons (pv 9) pa_nil)) pe_int (nomark _)) (pss_one (ps_set (i := 9) scLw1.nd rfl (Or.inl rfl) (pe_op op_cat (pv 9) (pe_lst (pa_cons pe_non pa_nil))))) pss_nil)
        (pss_cons (ps_set (i := 10) scLw1.nd rfl (Or.inl rfl) (pe_callB (call_reprD hgd hu) (by rfl) T.rep (by decide +kernel) (pa_cons (pv 9) pa_nil)))
        (pss_one (ps_if (PW.pt (pw_or (pt_cmpR (op_neD hr.units) (pe_call GM.ok r5 rfl GM.g GM.kp GM.b .nil pass0 (pa_cons (pv 9) pa_nil)) (pe_tup (pa_cons pe_str (pa_cons (pv 6) pa_nil))) (nomark _)) (pw_or1 (pt_cmpR op_ne (pe_callB (call_reprD hgd hu) (by rfl) T.rep (by decide +kernel) (pa_cons (pv 9) pa_nil)) (pv 10) (nomark _))))) (pss_one (ps_ret pe_bl)) pss_nil))))))
      (pss_cons (ps_if (pt_cmpR (op_neD hr.units) (pe_lc (own := [("some", 15)]) (g := gName 15) (tt := tYes) (te := tCall (spMade K C) [] E0 (tCons (tVar 15) tNil)) rfl scLw1.nd
          (pi_tup (pe_tup (pa_cons (pe_lst pa_nil) (pa_cons (pe_op op_rep (pe_lst (pa_cons (pe_tup (pa_cons pe_str (pa_cons pe_int pa_nil))) pa_nil)) pe_int) (pa_cons (pe_op op_rep (pe_lst (pa_cons pe_non pa_nil)) pe_int) pa_nil))))) (blkOk_by (N := ["script", "k", "feed", "pairs", "handed", "signs", "at", "again", "one", "wrong", "held", "bad", "other", "name", "arity", "some"]) (sc := defScope sLaw1) (by decide +kernel))
          (fun _ _ _ _ _ => pg_name (i := 15) scLw1.nd rfl (Or.inl rfl)) (fun _ _ _ _ _ => pts_nil) (fun _ _ _ _ _ => pe_call GM.ok r5 rfl GM.g GM.kp GM.b .nil pass0 (pa_cons (pv 15) pa_nil)))
          (pe_op op_rep (pe_lst (pa_cons (pe_tup (pa_cons pe_str (pa_cons pe_int pa_nil))) pa_nil)) pe_int) (nomark _)) (pss_one (ps_ret pe_bl)) pss_nil)
      (pss_cons (ps_for PassesOwn.never rfl (pi_list (pe_lst (pa_cons pe_non (pa_cons (pe_callTy call_tuple_of (by rfl) T.tup (by decide +kernel) (pa_cons (pv 3) pa_nil)) (pa_cons pe_str (pa_cons pe_int (pa_cons (pe_tup pa_nil) pa_nil))))))) (pg_name (i := 11) scLw1.nd rfl (Or.inl rfl))
        (pss_one (ps_if (pt_cmpR (op_neD hr.units) (pe_call GM.ok r5 rfl GM.g GM.kp GM.b .nil pass0 (pa_cons (pv 11) pa_nil)) (pe_tup (pa_cons pe_str (pa_cons pe_int pa_nil))) (nomark _)) (pss_one (ps_ret pe_bl)) pss_nil)))
      (pss_cons (ps_for PassesOwn.never rfl (pi_list (tl := tDatL K (fun _ => True) badD) (pd_lstL (by repeat (first | exact pd_int | exact pd_str | exact pd_bl | exact pd_non | exact pd_nil | refine pd_cons ?_ ?_ | refine pd_lst ?_ (by decide) | refine pd_tup ?_ (by decide))) (by decide))) (pg_name (i := 11) scLw1.nd rfl (Or.inl rfl))
        (pss_one (ps_if (PW.pt (pw_or (pt_cmpR (op_neD hr.units) (pe_callG GA.ok hgd r3 rfl GA.g GA.kp GA.b .nil pass0 (pa_cons (pv 5) (pa_cons (pv 11) pa_nil))) (pe_tup (pa_cons pe_str (pa_cons (pe_callB (call_reprD hgd hu) (by rfl) T.rep (by decide +kernel) (pa_cons (pv 11) pa_nil)) pa_nil))) (nomark _)) (pw_or1 (pt_cmpR (op_inOwn M.ho r1 M.ha M.hf M.hb pass0) (pv 11) (pv 5) (by rfl))))) (pss_one (ps_ret pe_bl)) pss_nil)))
      (pss_cons (ps_if (pt_not (pt_val (pe_callG GR.ok hgd hr rfl GR.g GR.kp GR.b .nil pass0 (pa_cons (pv 2) (pa_cons (pv 5) (pa_cons (pv 3) pa_nil)))))) (pss_one (ps_ret pe_bl)) pss_nil)
      (pss_cons (ps_set (i := 12) scLw1.nd rfl (Or.inl rfl) (pe_callTy call_list_of (by rfl) T.lst (by decide +kernel) (pa_cons (pe_call GD.ok r3 rfl GD.g GD.kp GD.b .nil pass0 (pa_cons (pv 2) pa_nil)) pa_nil)))
      (pss_one (ps_if (PW.pt (pw_or (pt_cmpR op_ne (pe_cmpR (op_eqOwn M.eo r1 M.ea M.ef M.eb pass0) (pv 5) (pe_make MK.mm MK.ok r4 rfl MK.g MK.b .nil passL (pa_cons (pv 12) pa_nil)) (nomark _)) (pe_cmpR (op_eqD hr.units) (pv 3) (pv 12) (nomark _)) (nomark _))
          (pw_or1 (pt_cmpR op_ne (pe_cmpR (op_eqOwn M.eo r1 M.ea M.ef M.eb pass0) (pv 5) (pe_make MK.mm MK.ok r4 rfl MK.g MK.b .nil passL (pa_cons (pe_revL (pv 3)) pa_nil)) (nomark _)) (pe_cmpR (op_eqD hr.units) (pv 3) (pe_revL (pv 3)) (nomark _)) (nomark _))))) (pss_one (ps_ret pe_bl)) pss_nil))))))))))))))))))
      (pss_one (ps_ret pe_bl)), ?_⟩
    have big : (1000 : Nat) ≤ sizeLine := by decide
    refine ⟨_, rfl, _, _, rfl, .inl ⟨_, hsc, rfl⟩, _, _, rfl, _, _, rfl, ?_⟩
    generalize hj : (if (if ((ns.map V.int).length : Int) < 3 then ((ns.map V.int).length : Int) else 3) > 1 then (if ((ns.map V.int).length : Int) < 3 then ((ns.map V.int).length : Int) else 3) else 1) = j
    have j1 : 1 ≤ j ∧ j ≤ 3 := by
      rw [← hj]
      split <;> (split at * <;> omega)
    refine ⟨j, rfl, by omega, by omega, ?_⟩
    refine for_it (walk_range (lo := 0) (n := j.toNat)) (fun i σ H' => ∃ c1 c2 c3 c4 c5 c6 c7 c8 c9 c10 c11 c12 : Option V, σ = [some (.ref a), c1, c2, c3, c4, c5, c6, c7, c8, c9, c10, c11, c12, none, none, none] ∧ Same H H')
      ⟨none, none, none, none, none, none, none, none, none, none, none, none, rfl, Same.refl H⟩ (fun _ _ _ _ _ => trivial) (fun i z σ Hx H0 hi hp hy => ?_) (fun σ H' hp => ?_)
    · obtain ⟨c1, c2, c3, c4, c5, c6, c7, c8, c9, c10, c11, c12, rfl, sm0⟩ := hp
      obtain ⟨rfl, hz⟩ := hy
      have hz : z = V.int (i : Int) := by
        rw [hz]
        show V.int (0 + (i : Int)) = _
        rw [Int.zero_add]
      subst hz
      have hi2 : i < 1000 := by omega
      refine ⟨_, rfl, _, rfl, a, ns, i, rfl, Same.seq sm0 hsc, hi2, fun p fx fy hp => ?_⟩
      have hp0 : H p = none := Same.free sm0 hp
      have sm1 : Same H (L2.upd H0 p (feedO fx fy)) := Same.trans sm0 (same_upd hp)
      refine ⟨_, rfl, p, fx, fy, rfl, upd_same, fun v ps x2 y2 H2 sx2 f2 hv hg => ?_⟩
      have sm2 : Same H H2 := same_viaX sm1 hp0 sx2
      have hf := hg.fine
      have okn := good_ok hg
      have sho : Shorts (psD ps) := shorts_fine (fun q hq => (hf.2.2.2 q hq).1)
      have pl4 : ps.length ≤ 4 := hg.2.1
      cases hv with
      | lst g1 g2 =>
        rename_i lv xs
        refine ⟨lv, xs, rfl, .inl (Same.seq del_same' g1), fun l hl => ?_⟩
        have hlp : l ≠ p := fun z => by rw [z, f2] at hl; cases hl
        have sl := same_upd (o := .lst xs) hl
        refine ⟨_, rfl, l, xs, rfl, .inl (SqL.of upd_same), fun lh hlh => ?_⟩
        have slh := same_upd (o := .lst xs) hlh
        have hlhl : l ≠ lh := ne_of_none (upd_same : (L2.upd H2 l (.lst xs)) l = _) hlh
        have hlhp : p ≠ lh := ne_of_none (sl _ _ f2) hlh
        have d3 : DpAll K (L2.del (L2.upd H2 l (.lst xs)) p) xs (prD ps) := dpAll_same (SameX.del (Same.x sl)) _ _ g2
        have d4 : DpAll K (L2.upd (L2.upd H2 l (.lst xs)) lh (.lst xs)) xs (prD ps) := dpAll_same (Same.trans del_same' slh) _ _ d3
        refine ⟨_, rfl, .ref lh, psD ps, rfl, .lst (SqL.of upd_same) d4, sho, ?_⟩
        rw [made_fine hf]
        intro x H5 s5 hx5 hS5
        have f5 : H5 p = some (feedO x2 y2) := s5 _ _ (slh _ _ (sl _ _ f2))
        have l5 : H5 l = some (.lst xs) := s5 _ _ (slh _ _ upd_same)
        have lh5 : H5 lh = some (.lst xs) := s5 _ _ upd_same
        have sm5 : Same H H5 := Same.trans sm2 (Same.trans sl (Same.trans slh s5))
        refine ⟨_, rfl, _, rfl, psD ps, psD ps, .lst (SqL.of lh5) (dpAll_same s5 _ _ d4), .lst (SqL.of l5) (dpAll_same s5 _ _ d4), psD_shaped okn, psD_shaped okn, _, rfl, ?_⟩
        rw [psD_eqv]
        refine iteNS rfl ?_
        refine ⟨_, rfl, .inl ⟨rfl, _, SqL.of lh5⟩, lh, xs, rfl, rfl, lh5, ?_⟩
        have hlh0 : H lh = none := Same.free (Same.trans sm2 sl) hlh
        have s36 : Same (L2.upd H2 l (.lst xs)) (L2.upd H5 lh (.lst [])) := fun b o e => by
          rw [upd_ne (ne_of_none e hlh)]
          exact s5 _ _ (slh _ _ e)
        have sm6 : Same H (L2.upd H5 lh (.lst [])) := Same.trans (Same.trans sm2 sl) s36
        have W6 : Wd K C p l x xs ps (L2.upd H5 lh (.lst [])) := by
          refine ⟨⟨x2, y2, s36 _ _ (sl _ _ f2)⟩, s36 _ _ upd_same, hlp, dpAll_same (SameX.del (Same.x s36)) _ _ d3, ?_⟩
          obtain ⟨q1, q2, q3, q4⟩ := hS5
          have n1 : x ≠ lh := ne_of q3 lh5 (by intro z; cases z)
          have n2 : q2 ≠ lh := ne_of q4 lh5 (by intro z; cases z)
          have n3 : x ≠ p := ne_of q3 f5 (by intro z; cases z)
          have n4 : q2 ≠ p := ne_of q4 f5 (by intro z; cases z)
          exact ⟨q1, q2, by rw [del_ne n3, upd_ne n1]; exact q3, by rw [del_ne n4, upd_ne n2]; exact q4⟩
        generalize (L2.upd H5 lh (.lst [])) = H6 at sm6 W6 ⊢
        refine ⟨_, rfl, _, rfl, x, .ref l, ps, rfl, W6.sg, W6.dp, hf, fun H7 s7 => ⟨_, rfl, iteF ?_⟩⟩
        have W7 := W6.same s7
        have sm7 := Same.trans sm6 s7
        have hxl := W7.len
        obtain ⟨a7, b7, f7⟩ := W7.f
        refine ⟨_, rfl, _, rfl, l, _, rfl, .inl (SqL.of W7.ll), _, _, rfl, rfl, p, a7, b7, _, rfl, f7, by omega, by omega, fun r a8 b8 hr0 hr1 => ?_⟩
        obtain ⟨n, rfl⟩ := Int.eq_ofNat_of_zero_le hr0
        have hn : n ≤ ps.length := by omega
        have W8 : Wd K C p l x xs ps (L2.upd H7 p (feedO a8 b8)) := W7.step ((SameX.refl p H7).upd) upd_same
        have sm8 : Same H (L2.upd H7 p (feedO a8 b8)) := same_viaX sm7 hp0 ((SameX.refl p H7).upd)
        generalize (L2.upd H7 p (feedO a8 b8)) = H8 at sm8 W8 ⊢
        refine ⟨_, rfl, _, rfl, (n : Int), rfl, l, xs, rfl, SqL.of W8.ll, fun lp hlp8 => ?_⟩
        rw [cut_take]
        have W9 := W8.same (same_upd (o := .lst (xs.take n)) hlp8)
        have sm9 := Same.trans sm8 (same_upd (o := .lst (xs.take n)) hlp8)
        have e9 : (L2.upd H8 lp (.lst (xs.take n))) lp = some (.lst (xs.take n)) := upd_same
        generalize (L2.upd H8 lp (.lst (xs.take n))) = H9 at sm9 W9 e9 ⊢
        have d9 : DpAll K H9 (xs.take n) (prD (ps.take n)) := by
          unfold prD
          rw [List.map_take]
          exact dpAll_take n W9.da
        have tl : (xs.take n).length = n := by rw [List.length_take, hxl]; omega
        have tpl : (ps.take n).length = n := by rw [List.length_take]; omega
        refine ⟨lp, rfl, ⟨_, SqL.of e9⟩, fun D hD => ?_⟩
        refine lc_it (walk_list (xs := xs.take n)) (fun i H' => ∃ us, Same H9 H' ∧ H' D = some (.lst us) ∧ DpAll K H' us (prD (agPs ((ps.take n).take i)))) ⟨[], same_upd hD, upd_same, .nil⟩ (fun i H' hi hp => SqL.of (hp.choose_spec.1 _ _ e9)) (fun i y H1 H' hi hp hy => ?_) (fun H10 hp => ?_)
        · obtain ⟨rfl, ey⟩ := hy
          obtain ⟨us, sm, hDl, hus⟩ := hp
          obtain ⟨z, m, t, ep, rfl, ht⟩ := pr_at d9 ey
          refine ⟨t, _, rfl, seqT_same sm ht, rfl, ?_⟩
          refine ⟨_, _, rfl, _, _, rfl, rfl, ?_⟩
          refine ⟨rfl, lcYes ?_⟩
          refine ⟨_, rfl, _, rfl, _, _, rfl, rfl, .inr ⟨_, rfl, (by show 2 ≤ sizeLine; decide), fun T hT => ?_⟩⟩
          have s4 := same_upd (o := .tup [V.str z, .int (if (decide (m = 0)) = true then 1 else 0)]) hT
          have hDl' := s4 _ _ hDl
          have ul : us.length < 1000 := by
            have := dpAll_len hus
            unfold prD agPs at this
            rw [List.length_map, List.length_map, List.length_take, tpl] at this
            omega
          refine ⟨us, hDl', by omega, us ++ [.ref T], ?_, upd_same, ?_⟩
          · exact fun b o e => by
              rw [upd_ne (ne_of_none e hD)]
              exact s4 _ _ (sm b o e)
          · refine pr_updL hDl' ?_
            have e1 : agPs ((ps.take n).take (i + 1)) = agPs ((ps.take n).take i) ++ [(z, agA m)] := by
              rw [List.take_succ, ep]
              unfold agPs
              rw [List.map_append]
              rfl
            rw [e1]
            unfold prD
            rw [List.map_append]
            exact dpAll_app (dpAll_same s4 _ _ hus) (.cons (.tup (SqT.of upd_same) (.cons (.str _) (.cons (.int _) .nil))) .nil)
        · obtain ⟨us, s10, hD10, hus⟩ := hp
          rw [tl, show (ps.take n).take n = ps.take n from by rw [List.take_take, Nat.min_self]] at hus
          have W10 := W9.same s10
          have sm10 := Same.trans sm9 s10
          have usl : us.length = n := by
            have := dpAll_len hus
            unfold prD agPs at this
            rw [List.length_map, List.length_map, tpl] at this
            exact this
          refine ⟨"q", rfl, fun po uo H11 s11 hpo11 epo huo => ?_⟩
          have W11 := W10.same s11
          refine ⟨_, rfl, _, rfl, (n : Int), rfl, l, xs, rfl, SqL.of W11.ll, fun q1 hq1 => ?_⟩
          rw [cut_take]
          refine ⟨1, rfl, q1, _, rfl, SqL.of upd_same, fun q2 hq2 => ?_⟩
          rw [show cutV (xs.take n) none (some 1) = (xs.take n).take 1 from cut_take _ 1]
          have sq1 := same_upd (o := .lst (xs.take n)) hq1
          have sq2 := same_upd (o := .lst ((xs.take n).take 1)) hq2
          have s12 := Same.trans sq1 sq2
          have uol : uo.length = 31 := dpAll_len huo
          have tu : (us.take 1).length ≤ 1 := by rw [List.length_take]; omega
          have tx : ((xs.take n).take 1).length ≤ 1 := by rw [List.length_take]; omega
          refine ⟨po, q2, _, _, rfl, rfl, s12 _ _ epo, upd_same, by rw [List.length_take]; omega, fun q3 hq3 => ?_⟩
          have s13 := Same.trans s12 (same_upd (o := .lst (uo ++ (xs.take n).take 1)) hq3)
          have eD := s13 _ _ (s11 _ _ hD10)
          refine ⟨_, rfl, 1, rfl, D, us, rfl, SqL.of eD, fun q4 hq4 => ?_⟩
          rw [show cutV us none (some 1) = us.take 1 from cut_take _ 1]
          have s4 := same_upd (o := .lst (us.take 1)) hq4
          refine ⟨q3, q4, _, _, rfl, rfl, s4 _ _ upd_same, upd_same, by rw [List.length_append]; omega, fun q5 hq5 => ?_⟩
          have s5' := Same.trans s4 (same_upd (o := .lst (uo ++ (xs.take n).take 1 ++ us.take 1)) hq5)
          refine ⟨_, rfl, 1, rfl, -1, rfl, D, us, rfl, SqL.of (s5' _ _ eD), fun q6 hq6 => ?_⟩
          rw [cut_last]
          have s6 := same_upd (o := .lst (us.drop (us.length - 1))) hq6
          refine ⟨q5, q6, _, _, rfl, rfl, s6 _ _ upd_same, upd_same, by rw [List.length_append, List.length_append, List.length_drop]; omega, fun q7 hq7 => ?_⟩
          have s7' := same_upd (o := .lst (uo ++ (xs.take n).take 1 ++ us.take 1 ++ us.drop (us.length - 1))) hq7
          have s1L := Same.trans s13 (Same.trans s5' (Same.trans s6 s7'))
          have WL := W11.same s1L
          have smL := Same.trans sm10 (Same.trans s11 s1L)
          have eL : (L2.upd (L2.upd (L2.upd (L2.upd (L2.upd (L2.upd (L2.upd H11 q1 (.lst (xs.take n))) q2 (.lst ((xs.take n).take 1))) q3 (.lst (uo ++ (xs.take n).take 1))) q4 (.lst (us.take 1))) q5 (.lst (uo ++ (xs.take n).take 1 ++ us.take 1))) q6 (.lst (us.drop (us.length - 1)))) q7 (.lst (uo ++ (xs.take n).take 1 ++ us.take 1 ++ us.drop (us.length - 1)))) q7 = some (.lst (uo ++ (xs.take n).take 1 ++ us.take 1 ++ us.drop (us.length - 1))) := upd_same
          generalize (L2.upd (L2.upd (L2.upd (L2.upd (L2.upd (L2.upd (L2.upd H11 q1 (.lst (xs.take n))) q2 (.lst ((xs.take n).take 1))) q3 (.lst (uo ++ (xs.take n).take 1))) q4 (.lst (us.take 1))) q5 (.lst (uo ++ (xs.take n).take 1 ++ us.take 1))) q6 (.lst (us.drop (us.length - 1)))) q7 (.lst (uo ++ (xs.take n).take 1 ++ us.take 1 ++ us.drop (us.length - 1)))) = HL at s1L WL smL eL ⊢
          have dxs : DpAll K HL (xs.take n) (prD (ps.take n)) := by
            unfold prD
            rw [List.map_take]
            exact dpAll_take n WL.da
          have dus : DpAll K HL us (prD (agPs (ps.take n))) := dpAll_same (Same.trans s11 s1L) _ _ hus
          have agl : (prD (agPs (ps.take n))).length = us.length := (dpAll_len hus).symm
          have dL : DpAll K HL (uo ++ (xs.take n).take 1 ++ us.take 1 ++ us.drop (us.length - 1)) (oneD ps n) := by
            unfold oneD
            refine dpAll_app (dpAll_app (dpAll_app (dpAll_same (Same.trans nw_same s1L) _ _ huo) (dpAll_take 1 dxs)) (dpAll_take 1 dus)) ?_
            have e : (agPs (ps.take n)).length = us.length := by rw [← agl]; unfold prD; rw [List.length_map]
            rw [e]
            exact dpAll_drop _ dus
          generalize (uo ++ (xs.take n).take 1 ++ us.take 1 ++ us.drop (us.length - 1)) = os at eL dL ⊢
          refine ⟨q7, rfl, ⟨_, SqL.of eL⟩, ?_⟩
          refine for_it (walk_list (xs := os)) (fun m σ H' => ∃ c8 c9 c10 : Option V, σ = [some (.ref a), some (.int (i : Int)), some (.ref p), some (.ref l), some (.ref lh), some (.ref x), some (.int (n : Int)), some (.ref D), c8, c9, c10, c11, c12, none, none, none] ∧ Same HL H')
            ⟨_, _, _, rfl, Same.refl HL⟩ (fun m σ H' hm hp => by obtain ⟨_, _, _, _, sm⟩ := hp; exact SqL.of (sm _ _ eL)) (fun m y σ Hy H' hm hp hy => ?_) (fun σ H12 hp => ?_)
          · obtain ⟨c8, c9, c10, rfl, smw⟩ := hp
            obtain ⟨rfl, ey⟩ := hy
            obtain ⟨d, ed, hd⟩ := dpAll_get' dL ey
            obtain ⟨dB, dS, dO⟩ := one_ok hg d (List.mem_of_getElem? ed)
            have hd := dp_same smw _ _ hd
            have Ww := WL.same smw
            refine ⟨_, rfl, _, rfl, (n : Int), rfl, l, xs, rfl, SqL.of Ww.ll, fun w1 hw1 => ?_⟩
            rw [cut_take]
            have u1 := same_upd (o := .lst (xs.take n)) hw1
            refine ⟨_, rfl, (by show 1 ≤ sizeLine; decide), fun w2 hw2 => ?_⟩
            have u2 := same_upd (o := .lst [y]) hw2
            refine ⟨w1, w2, _, _, rfl, rfl, u2 _ _ upd_same, upd_same, (by rw [tl]; show n + 1 ≤ sizeLine; omega), fun w3 hw3 => ?_⟩
            have u3 := same_upd (o := .lst (xs.take n ++ [y])) hw3
            have u13 := Same.trans u1 (Same.trans u2 u3)
            refine ⟨_, rfl, _, rfl, (n : Int), rfl, l, xs, rfl, SqL.of (u13 _ _ Ww.ll), fun w4 hw4 => ?_⟩
            rw [cut_drop]
            have u4 := same_upd (o := .lst (xs.drop n)) hw4
            have dl : (xs.drop n).length = ps.length - n := by rw [List.length_drop, hxl]
            refine ⟨w3, w4, _, _, rfl, rfl, u4 _ _ upd_same, upd_same, by rw [List.length_append, tl, dl]; show n + 1 + _ ≤ _; omega, fun w5 hw5 => ?_⟩
            have u5 := same_upd (o := .lst (xs.take n ++ [y] ++ xs.drop n)) hw5
            have sw0 := Same.trans smw (Same.trans u13 (Same.trans u4 u5))
            have uu := Same.trans u13 (Same.trans u4 u5)
            have wE : (L2.upd (L2.upd (L2.upd (L2.upd (L2.upd H' w1 (.lst (xs.take n))) w2 (.lst [y])) w3 (.lst (xs.take n ++ [y]))) w4 (.lst (xs.drop n))) w5 (.lst (xs.take n ++ [y] ++ xs.drop n))) w5 = some (.lst (xs.take n ++ [y] ++ xs.drop n)) := upd_same
            have hd := dp_same uu _ _ hd
            have dW := (Ww.same uu).da
            have w0 : DpAll K (L2.upd (L2.upd (L2.upd (L2.upd (L2.upd H' w1 (.lst (xs.take n))) w2 (.lst [y])) w3 (.lst (xs.take n ++ [y]))) w4 (.lst (xs.drop n))) w5 (.lst (xs.take n ++ [y] ++ xs.drop n))) (xs.take n ++ [y] ++ xs.drop n) (prD (ps.take n) ++ d :: (prD (ps.drop n) ++ [])) := by
              rw [List.append_nil, show prD (ps.take n) ++ d :: prD (ps.drop n) = prD (ps.take n) ++ [d] ++ prD (ps.drop n) from by simp]
              unfold prD
              rw [List.map_take, List.map_drop]
              exact dpAll_app (dpAll_app (dpAll_take n dW) (.cons hd .nil)) (dpAll_drop n dW)
            generalize (L2.upd (L2.upd (L2.upd (L2.upd (L2.upd H' w1 (.lst (xs.take n))) w2 (.lst [y])) w3 (.lst (xs.take n ++ [y]))) w4 (.lst (xs.drop n))) w5 (.lst (xs.take n ++ [y] ++ xs.drop n))) = Hw at sw0 wE w0 hd dW ⊢
            have wl : (xs.take n ++ [y] ++ xs.drop n).length = ps.length + 1 := by
              rw [List.length_append, List.length_append, tl, dl]
              show n + 1 + (ps.length - n) = _
              omega
            refine ⟨_, rfl, w5, _, rfl, .inl (SqL.of wE), _, _, rfl, rfl, _, rfl, ?_⟩
            refine ite2 (fun hc => ?_) (fun hc => ?_)
            · have hc : ps.length + 1 ≤ 4 := by
                have := of_decide_eq_true hc
                omega
              refine ⟨_, rfl, (by show 1 ≤ sizeLine; decide), fun w6 hw6 => ?_⟩
              have u6 := same_upd (o := .lst [V.non]) hw6
              refine ⟨w5, w6, _, _, rfl, rfl, u6 _ _ wE, upd_same, by rw [wl]; show ps.length + 1 + 1 ≤ _; omega, fun w7 hw7 => ?_⟩
              have u7 := same_upd (o := .lst (xs.take n ++ [y] ++ xs.drop n ++ [V.non])) hw7
              have sw1 := Same.trans sw0 (Same.trans u6 u7)
              have wD : DpAll K (L2.upd (L2.upd Hw w6 (.lst [V.non])) w7 (.lst (xs.take n ++ [y] ++ xs.drop n ++ [V.non]))) (xs.take n ++ [y] ++ xs.drop n ++ [V.non]) (prD (ps.take n) ++ d :: (prD (ps.drop n) ++ [.none])) := by
                have z := dpAll_app (dpAll_same (Same.trans u6 u7) _ _ w0) (.cons .non .nil)
                rw [show prD (ps.take n) ++ d :: (prD (ps.drop n) ++ [.none]) = prD (ps.take n) ++ d :: (prD (ps.drop n) ++ []) ++ [.none] from by simp]
                exact z
              have wE := (upd_same : (L2.upd (L2.upd Hw w6 (.lst [V.non])) w7 (.lst (xs.take n ++ [y] ++ xs.drop n ++ [V.non]))) w7 = _)
              have hmO : ∀ e ∈ [PyData.none], Oki e := fun e he => by rw [List.mem_singleton.mp he]; decide +kernel
              have hmS : ∀ e ∈ [PyData.none], Short e := fun e he => by rw [List.mem_singleton.mp he]; trivial
              have okv := wrong_okv (more := [.none]) hg hn dO hmO (by decide)
              refine ⟨_, rfl, .ref w7, _, rfl, .lst (SqL.of wE) wD, okv.sh, okv.nd, okv.sz, okv.dp, ?_⟩
              refine ⟨_, rfl, .ref w7, _, rfl, .lst (SqL.of wE) wD, wrong_short (more := [.none]) hg dS hmS, ?_⟩
              rw [made_bad (more := [.none]) hg hn dB (by decide) (by show ps.length + 1 + 1 ≤ 5; omega)]
              intro t Ht st _ et
              refine ⟨_, rfl, (by show 2 ≤ sizeLine; decide), fun t2 ht2 => ?_⟩
              have st2 := same_upd (o := .tup [.str "sign", .int (n : Nat)]) ht2
              refine ⟨tg "sign" n, tg "sign" n, tg_dp (st2 _ _ et), tg_dp upd_same, tg_shaped _ (by decide +kernel), tg_shaped _ (by decide +kernel), _, rfl, ?_⟩
              rw [tg_eqv]
              refine iteF ?_
              have sw := Same.trans st st2
              refine ⟨_, rfl, .ref w7, _, rfl, .lst (SqL.of (sw _ _ wE)) (dpAll_same sw _ _ wD), okv.sh, okv.nd, okv.sz, okv.dp, ?_⟩
              refine ⟨_, rfl, rfl, _, rfl, iteNS rfl ?_⟩
              exact ⟨_, _, _, rfl, Same.trans sw1 sw⟩
            · have sw1 := sw0
              have wD := w0
              have hmO : ∀ e ∈ ([] : List PyData), Oki e := fun e he => by cases he
              have hmS : ∀ e ∈ ([] : List PyData), Short e := fun e he => by cases he
              have okv := wrong_okv (more := []) hg hn dO hmO (by decide)
              refine ⟨_, rfl, .ref w5, _, rfl, .lst (SqL.of wE) wD, okv.sh, okv.nd, okv.sz, okv.dp, ?_⟩
              refine ⟨_, rfl, .ref w5, _, rfl, .lst (SqL.of wE) wD, wrong_short (more := []) hg dS hmS, ?_⟩
              rw [made_bad (more := []) hg hn dB (by decide) (by show ps.length + 1 + 0 ≤ 5; omega)]
              intro t Ht st _ et
              refine ⟨_, rfl, (by show 2 ≤ sizeLine; decide), fun t2 ht2 => ?_⟩
              have st2 := same_upd (o := .tup [.str "sign", .int (n : Nat)]) ht2
              refine ⟨tg "sign" n, tg "sign" n, tg_dp (st2 _ _ et), tg_dp upd_same, tg_shaped _ (by decide +kernel), tg_shaped _ (by decide +kernel), _, rfl, ?_⟩
              rw [tg_eqv]
              refine iteF ?_
              have sw := Same.trans st st2
              refine ⟨_, rfl, .ref w5, _, rfl, .lst (SqL.of (sw _ _ wE)) (dpAll_same sw _ _ wD), okv.sh, okv.nd, okv.sz, okv.dp, ?_⟩
              refine ⟨_, rfl, rfl, _, rfl, iteNS rfl ?_⟩
              exact ⟨_, _, _, rfl, Same.trans sw1 sw⟩
          · obtain ⟨c8, c9, c10, rfl, s12⟩ := hp
            have W12 := WL.same s12
            have sm12 := Same.trans smL s12
            refine ⟨Nat.zero_le _, fun m1 hm1 => ?_⟩
            have t1 := same_upd (o := .lst []) hm1
            refine ⟨(by show 2 ≤ sizeLine; decide), fun m2 hm2 => ⟨(by show 1 ≤ sizeLine; decide), fun m3 hm3 => ?_⟩⟩
            have t2 := same_upd (o := .tup [.str "q", .int 0]) hm2
            have t3 := same_upd (o := .lst [.ref m2]) hm3
            refine ⟨m3, 6, _, rfl, rfl, upd_same, by decide, by decide, (by show 1 * 6 ≤ sizeLine; decide), fun m4 hm4 => ?_⟩
            have t4 := same_upd (o := .lst (List.replicate (6 : Int).toNat [V.ref m2]).flatten) hm4
            refine ⟨(by show 1 ≤ sizeLine; decide), fun m5 hm5 => ?_⟩
            have t5 := same_upd (o := .lst [V.non]) hm5
            refine ⟨m5, 6, _, rfl, rfl, upd_same, by decide, by decide, (by show 1 * 6 ≤ sizeLine; decide), fun m6 hm6 => ?_⟩
            have t6 := same_upd (o := .lst (List.replicate (6 : Int).toNat [V.non]).flatten) hm6
            refine ⟨(by show 3 ≤ sizeLine; decide), fun m7 hm7 => ?_⟩
            have t7 := same_upd (o := .tup [V.ref m1, .ref m4, .ref m6]) hm7
            have T17 := Same.trans t1 (Same.trans t2 (Same.trans t3 (Same.trans t4 (Same.trans t5 (Same.trans t6 t7)))))
            have T27 := Same.trans t2 (Same.trans t3 (Same.trans t4 (Same.trans t5 (Same.trans t6 t7))))
            have T37 := Same.trans t3 (Same.trans t4 (Same.trans t5 (Same.trans t6 t7)))
            have T57 := Same.trans t5 (Same.trans t6 t7)
            have k1 := T27 _ _ (upd_same : (L2.upd H12 m1 (.lst [])) m1 = _)
            have k2 := T37 _ _ (upd_same : (L2.upd (L2.upd H12 m1 (.lst [])) m2 (.tup [.str "q", .int 0])) m2 = _)
            have k4 := T57 _ _ (upd_same : (L2.upd (L2.upd (L2.upd (L2.upd H12 m1 (.lst [])) m2 (.tup [.str "q", .int 0])) m3 (.lst [.ref m2])) m4 (.lst (List.replicate (6 : Int).toNat [V.ref m2]).flatten)) m4 = _)
            have k6 := t7 _ _ (upd_same : (L2.upd (L2.upd (L2.upd (L2.upd (L2.upd (L2.upd H12 m1 (.lst [])) m2 (.tup [.str "q", .int 0])) m3 (.lst [.ref m2])) m4 (.lst (List.replicate (6 : Int).toNat [V.ref m2]).flatten)) m5 (.lst [V.non])) m6 (.lst (List.replicate (6 : Int).toNat [V.non]).flatten)) m6 = _)
            have k7 : (L2.upd (L2.upd (L2.upd (L2.upd (L2.upd (L2.upd (L2.upd H12 m1 (.lst [])) m2 (.tup [.str "q", .int 0])) m3 (.lst [.ref m2])) m4 (.lst (List.replicate (6 : Int).toNat [V.ref m2]).flatten)) m5 (.lst [V.non])) m6 (.lst (List.replicate (6 : Int).toNat [V.non]).flatten)) m7 (.tup [V.ref m1, .ref m4, .ref m6])) m7 = some (.tup [V.ref m1, .ref m4, .ref m6]) := upd_same
            have WM := W12.same T17
            have smM := Same.trans sm12 T17
            generalize (L2.upd (L2.upd (L2.upd (L2.upd (L2.upd (L2.upd (L2.upd H12 m1 (.lst [])) m2 (.tup [.str "q", .int 0])) m3 (.lst [.ref m2])) m4 (.lst (List.replicate (6 : Int).toNat [V.ref m2]).flatten)) m5 (.lst [V.non])) m6 (.lst (List.replicate (6 : Int).toNat [V.non]).flatten)) m7 (.tup [V.ref m1, .ref m4, .ref m6])) = HM at k1 k2 k4 k6 k7 WM smM ⊢
            have dM : DpAll K HM [V.ref m1, .ref m4, .ref m6] cntD := .cons (.lst (SqL.of k1) .nil) (.cons (.lst (SqL.of k4) (rep_dp (tg_dp k2) 6)) (.cons (.lst (SqL.of k6) (rep_dp .non 6)) .nil))
            refine ⟨m7, rfl, ⟨_, SqT.of k7⟩, fun D2 hD2 => ?_⟩
            refine lc_it (walk_tup (xs := [V.ref m1, .ref m4, .ref m6])) (fun m H' => ∃ us, Same HM H' ∧ H' D2 = some (.lst us) ∧ DpAll K H' us (prD (List.replicate m ("count", 0)))) ⟨[], same_upd hD2, upd_same, .nil⟩ (fun m H' hm hp => SqT.of (hp.choose_spec.1 _ _ k7)) (fun m y Hy H' hm hp hy => ?_) (fun H13 hp => ?_)
            · obtain ⟨rfl, ey⟩ := hy
              obtain ⟨us, sm, hDl, hus⟩ := hp
              obtain ⟨d, ed, hd⟩ := dpAll_get' dM ey
              obtain ⟨cm, cs⟩ := cnt_ok d (List.mem_of_getElem? ed)
              refine ⟨rfl, lcYes ?_⟩
              refine ⟨_, rfl, y, d, rfl, dp_same sm _ _ hd, cs, ?_⟩
              rw [cm]
              intro t Ht st _ et
              have ul : us.length < 1000 := by
                have := dpAll_len hus
                unfold prD at this
                rw [List.length_map, List.length_replicate] at this
                have : m < 3 := hm
                omega
              have hDt := st _ _ hDl
              refine ⟨us, hDt, by omega, us ++ [.ref t], ?_, upd_same, ?_⟩
              · exact fun b o e => by
                  rw [upd_ne (ne_of_none e hD2)]
                  exact st _ _ (sm b o e)
              · refine pr_updL hDt ?_
                rw [List.replicate_succ']
                unfold prD
                rw [List.map_append]
                exact dpAll_app (dpAll_same st _ _ hus) (.cons (tg_dp et) .nil)
            · obtain ⟨us, s13, hD13, hus⟩ := hp
              refine ⟨(by show 2 ≤ sizeLine; decide), fun b1 hb1 => ⟨(by show 1 ≤ sizeLine; decide), fun b2 hb2 => ?_⟩⟩
              have v1 := same_upd (o := .tup [.str "count", .int 0]) hb1
              have v2 := same_upd (o := .lst [.ref b1]) hb2
              refine ⟨b2, 3, _, rfl, rfl, upd_same, by decide, by decide, (by show 1 * 3 ≤ sizeLine; decide), fun b3 hb3 => ?_⟩
              have v3 := same_upd (o := .lst (List.replicate (3 : Int).toNat [V.ref b1]).flatten) hb3
              have v13 := Same.trans v1 (Same.trans v2 v3)
              refine ⟨.list (prD (List.replicate 3 ("count", 0))), .list (prD (List.replicate 3 ("count", 0))), dp_same v13 _ _ (.lst (SqL.of hD13) hus), .lst (SqL.of upd_same) (rep_dp (tg_dp (v3 _ _ (v2 _ _ upd_same))) 3), cnt_shaped.1, cnt_shaped.1, _, rfl, ?_⟩
              rw [cnt_shaped.2]
              refine iteF ?_
              have W14 := WM.same (Same.trans s13 v13)
              have sm14 := Same.trans smM (Same.trans s13 v13)
              generalize (L2.upd (L2.upd (L2.upd H13 b1 (.tup [.str "count", .int 0])) b2 (.lst [.ref b1])) b3 (.lst (List.replicate (3 : Int).toNat [V.ref b1]).flatten)) = H14 at W14 sm14 ⊢
              refine ⟨_, rfl, l, xs, rfl, .inl ⟨SqL.of W14.ll, fun b1 hb1 => ?_⟩⟩
              refine ⟨Nat.zero_le _, fun b2 hb2 => ⟨(by show 5 ≤ sizeLine; decide), fun b3 hb3 => ?_⟩⟩
              have v1 := same_upd (o := .tup xs) hb1
              have v2 := same_upd (o := .tup []) hb2
              have v3 := same_upd (o := .lst [V.non, .ref b1, .str "signs", .int 0, .ref b2]) hb3
              have v13 := Same.trans v1 (Same.trans v2 v3)
              have W15 := W14.same v13
              have sm15 := Same.trans sm14 v13
              have k1 := v3 _ _ (v2 _ _ (upd_same : (L2.upd H14 b1 (.tup xs)) b1 = _))
              have k2 := v3 _ _ (upd_same : (L2.upd (L2.upd H14 b1 (.tup xs)) b2 (.tup [])) b2 = _)
              have k3 : (L2.upd (L2.upd (L2.upd H14 b1 (.tup xs)) b2 (.tup [])) b3 (.lst [V.non, .ref b1, .str "signs", .int 0, .ref b2])) b3 = some (.lst [V.non, .ref b1, .str "signs", .int 0, .ref b2]) := upd_same
              generalize (L2.upd (L2.upd (L2.upd H14 b1 (.tup xs)) b2 (.tup [])) b3 (.lst [V.non, .ref b1, .str "signs", .int 0, .ref b2])) = H15 at W15 sm15 k1 k2 k3 ⊢
              have dB : DpAll K H15 [V.non, .ref b1, .str "signs", .int 0, .ref b2] (nlD ps) := .cons .non (.cons (.tup (SqT.of k1) W15.da) (.cons (.str _) (.cons (.int _) (.cons (.tup (SqT.of k2) .nil) .nil))))
              refine ⟨b3, rfl, ⟨_, SqL.of k3⟩, ?_⟩
              refine for_it (walk_list (xs := [V.non, .ref b1, .str "signs", .int 0, .ref b2])) (fun m σ H' => ∃ c11 : Option V, σ = [some (.ref a), some (.int (i : Int)), some (.ref p), some (.ref l), some (.ref lh), some (.ref x), some (.int (n : Int)), some (.ref D), c8, c9, c10, c11, c12, none, none, none] ∧ Same H15 H')
                ⟨_, rfl, Same.refl H15⟩ (fun m σ H' hm hp => by obtain ⟨_, _, sm⟩ := hp; exact SqL.of (sm _ _ k3)) (fun m y σ Hy H' hm hp hy => ?_) (fun σ H16 hp => ?_)
              · obtain ⟨c11, rfl, smw⟩ := hp
                obtain ⟨rfl, ey⟩ := hy
                obtain ⟨d, ed, hd⟩ := dpAll_get' dB ey
                obtain ⟨cm, cs⟩ := nl_ok ps d (List.mem_of_getElem? ed)
                refine ⟨_, rfl, y, d, rfl, dp_same smw _ _ hd, cs, ?_⟩
                rw [cm]
                intro t Ht st _ et
                refine ⟨(by show 2 ≤ sizeLine; decide), fun t2 ht2 => ?_⟩
                have st2 := same_upd (o := .tup [.str "list", .int 0]) ht2
                refine ⟨tg "list" 0, tg "list" 0, tg_dp (st2 _ _ et), tg_dp upd_same, tg_shaped _ (by decide +kernel), tg_shaped _ (by decide +kernel), _, rfl, ?_⟩
                rw [tg_eqv]
                exact iteF ⟨_, rfl, Same.trans smw (Same.trans st st2)⟩
              · obtain ⟨c11, rfl, s16⟩ := hp
                have W16 := W15.same s16
                have sm16 := Same.trans sm15 s16
                refine ⟨trivial, fun bl bs H17 s17 hbl ebl dbl => ?_⟩
                have W17 := W16.same s17
                have sm17 := Same.trans sm16 s17
                have dbl := dpAll_same nw_same _ _ dbl
                refine ⟨bl, rfl, ⟨_, SqL.of ebl⟩, ?_⟩
                refine for_it (walk_list (xs := bs)) (fun m σ H' => ∃ c11 : Option V, σ = [some (.ref a), some (.int (i : Int)), some (.ref p), some (.ref l), some (.ref lh), some (.ref x), some (.int (n : Int)), some (.ref D), c8, c9, c10, c11, c12, none, none, none] ∧ Same H17 H')
                  ⟨_, rfl, Same.refl H17⟩ (fun m σ H' hm hp => by obtain ⟨_, _, sm⟩ := hp; exact SqL.of (sm _ _ ebl)) (fun m y σ Hy H' hm hp hy => ?_) (fun σ H18 hp => ?_)
                · obtain ⟨c11, rfl, smw⟩ := hp
                  obtain ⟨rfl, ey⟩ := hy
                  obtain ⟨d, ed, hd⟩ := dpAll_get' dbl ey
                  have md := List.mem_of_getElem? ed
                  obtain ⟨hno, har⟩ := bad_has hg d md
                  obtain ⟨oki, bsh, beq⟩ := bad_ok d md
                  have hd := dp_same smw _ _ hd
                  have Ww := W17.same smw
                  refine ⟨_, rfl, _, rfl, x, y, d, ps, rfl, Ww.sg, hd, (fun _ => oki_okv oki), (fun m' e => by rw [har] at e; cases e), (fun _ t Ht st _ et => ?_)⟩
                  have okv := oki_okv oki
                  refine ⟨_, rfl, y, d, rfl, dp_same st _ _ hd, okv.sh, okv.nd, okv.sz, okv.dp, (by show 2 ≤ sizeLine; decide), fun t2 ht2 => ?_⟩
                  have st2 := same_upd (o := .tup [.str "none", .str d.shown]) ht2
                  refine ⟨noneD d, noneD d, .tup (SqT.of (st2 _ _ et)) (.cons (.str _) (.cons (.str _) .nil)), .tup (SqT.of upd_same) (.cons (.str _) (.cons (.str _) .nil)), bsh, bsh, _, rfl, ?_⟩
                  rw [beq]
                  refine iteF ?_
                  have sw := Same.trans st st2
                  have Wz := Ww.same sw
                  obtain ⟨dx', dn', z1, z2⟩ := id Wz.sg
                  refine ⟨_, rfl, _, rfl, x, dx', _, rfl, z1, x, y, d, ps, rfl, Wz.sg, dp_same sw _ _ hd, _, rfl, _, rfl, ?_⟩
                  rw [hno]
                  exact iteF ⟨_, rfl, Same.trans smw sw⟩
                · obtain ⟨c11, rfl, s18⟩ := hp
                  have W18 := W17.same s18
                  have sm18 := Same.trans sm17 s18
                  obtain ⟨a18, b18, f18⟩ := W18.f
                  refine ⟨_, rfl, _, rfl, _, rfl, p, x, l, xs, ps, a18, b18, rfl, f18, W18.sg, W18.ll, W18.da, hg, fun a19 b19 H19 sx19 f19 => ⟨_, rfl, iteF ?_⟩⟩
                  have W19 := W18.step sx19 f19
                  have sm19 := same_viaX sm18 hp0 sx19
                  refine ⟨_, rfl, p, a19, b19, rfl, f19, fun vo qs x20 y20 H20 sx20 f20 hvo hgo => ?_⟩
                  have W20 := W19.step sx20 f20
                  have sm20 := same_viaX sm19 hp0 sx20
                  have hfo := hgo.fine
                  cases hvo with
                  | lst o1 o2 =>
                    rename_i lo ys
                    have o2 : DpAll K (L2.del H20 p) ys (prD qs) := o2
                    refine ⟨lo, ys, rfl, .inl (Same.seq del_same' o1), fun lc hlc => ?_⟩
                    have sc := same_upd (o := .lst ys) hlc
                    have W21 := W20.same sc
                    have sm21 := Same.trans sm20 sc
                    have c21 : (L2.upd H20 lc (.lst ys)) lc = some (.lst ys) := upd_same
                    have d21 : DpAll K (L2.upd H20 lc (.lst ys)) ys (prD qs) := dpAll_same (Same.trans del_same' sc) _ _ o2
                    generalize (L2.upd H20 lc (.lst ys)) = H21 at W21 sm21 c21 d21 ⊢
                    refine ⟨_, rfl, _, rfl, ?_⟩
                    intro y1 e1 hy1 he1 hne1
                    refine ⟨y1, .ref lc, psD qs, e1, rfl, upd_same, .lst (SqL.of (xs := ys) ?_) (dpAll_same (fun b o e => ?_) _ _ d21), shorts_fine (fun q hq => (hfo.2.2.2 q hq).1), ?_⟩
                    · rw [upd_ne (ne_of_none c21 hy1), upd_ne (ne_of_none c21 he1)]
                      exact c21
                    · rw [upd_ne (ne_of_none e hy1), upd_ne (ne_of_none e he1)]
                      exact e
                    · rw [made_fine hfo]
                      intro H22 s22 hS22
                      refine ⟨rfl, ?_⟩
                      have s212 := same_ins hy1 he1 s22
                      have W22 := W21.same s212
                      obtain ⟨dx', dn', z1, z2⟩ := id W22.sg
                      obtain ⟨u1, u2, u3, u4⟩ := id hS22
                      refine ⟨x, dx', _, .ref C, rfl, z1, .inr ⟨y1, C, u1, _, rfl, u3, rfl⟩, M.nC, x, .ref y1, ps, rfl, W22.sg, okn, .inr ⟨y1, qs, rfl, hS22, fine_ok hfo, fun H23 s23 => ⟨_, rfl, ?_⟩⟩⟩
                      have W23 := W22.same s23
                      have s2123 := Same.trans s212 s23
                      refine ⟨_, rfl, _, rfl, psD ps, psD qs, W23.dp, .lst (SqL.of (s2123 _ _ c21)) (dpAll_same s2123 _ _ d21), psD_shaped okn, psD_shaped (fine_ok hfo), ?_⟩
                      rw [psD_eqv]
                      refine ⟨rfl, _, rfl, iteNS rfl ?_⟩
                      have hfr := rev_fine hf
                      refine ⟨_, rfl, _, rfl, l, xs, rfl, SqL.of W23.ll, fun lr hlr => ?_⟩
                      have sr := same_upd (o := .lst xs.reverse) hlr
                      have W24 := W23.same sr
                      have c24 : (L2.upd H23 lr (.lst xs.reverse)) lr = some (.lst xs.reverse) := upd_same
                      have d24 : DpAll K (L2.upd H23 lr (.lst xs.reverse)) xs.reverse (prD ps.reverse) := by
                        unfold prD
                        rw [List.map_reverse]
                        exact dpAll_rev W24.da
                      have sm24 := Same.trans sm21 (Same.trans s2123 sr)
                      generalize (L2.upd H23 lr (.lst xs.reverse)) = H24 at W24 c24 d24 sm24 ⊢
                      intro y2 e2 hy2 he2 hne2
                      refine ⟨y2, .ref lr, psD ps.reverse, e2, rfl, upd_same, .lst (SqL.of (xs := xs.reverse) ?_) (dpAll_same (fun b o e => ?_) _ _ d24), shorts_fine (fun q hq => (hfr.2.2.2 q hq).1), ?_⟩
                      · rw [upd_ne (ne_of_none c24 hy2), upd_ne (ne_of_none c24 he2)]
                        exact c24
                      · rw [upd_ne (ne_of_none e hy2), upd_ne (ne_of_none e he2)]
                        exact e
                      · rw [made_fine hfr]
                        intro H25 s25 hS25
                        refine ⟨rfl, ?_⟩
                        have s245 := same_ins hy2 he2 s25
                        have W25 := W24.same s245
                        obtain ⟨dx2, dn2, z3, z4⟩ := id W25.sg
                        obtain ⟨u5, u6, u7, u8⟩ := id hS25
                        refine ⟨x, dx2, _, .ref C, rfl, z3, .inr ⟨y2, C, u5, _, rfl, u7, rfl⟩, M.nC, x, .ref y2, ps, rfl, W25.sg, okn, .inr ⟨y2, ps.reverse, rfl, hS25, fine_ok hfr, fun H26 s26 => ⟨_, rfl, ?_⟩⟩⟩
                        have W26 := W25.same s26
                        refine ⟨_, rfl, _, rfl, l, xs, rfl, SqL.of W26.ll, fun lq hlq => ?_⟩
                        have sq := same_upd (o := .lst xs.reverse) hlq
                        have W27 := W26.same sq
                        refine ⟨psD ps, psD ps.reverse, W27.dp, .lst (SqL.of upd_same) (by
                          show DpAll K _ _ (prD ps.reverse)
                          unfold prD
                          rw [List.map_reverse]
                          exact dpAll_rev W27.da), psD_shaped okn, psD_shaped (fine_ok hfr), ?_⟩
                        rw [psD_eqv]
                        refine ⟨rfl, _, rfl, iteNS rfl ?_⟩
                        exact ⟨_, _, _, _, _, _, _, _, _, _, _, _, rfl, Same.trans sm24 (Same.trans s245 (Same.trans s26 sq))⟩
    · obtain ⟨c1, c2, c3, c4, c5, c6, c7, c8, c9, c10, c11, c12, rfl, sm0⟩ := hp
      exact q H'
end
end Sg

set_option maxRecDepth 100000
set_option maxHeartbeats 4000000
namespace Gd
open PySem L2 PySem.Spec PyProof.Rows
/-- the only thing tracked at the law's entry: the script, where it is no object of the top's -/
def scr (K : PySem.W.Frag) (a : Addr) (vs : List Value) (ns : List Int) : Hp := fun b => if b = a ∧ K.lookup a = none then some (.frz { cls := .type "list", data := .seq vs.toArray } (.lst (ns.map V.int))) else none
section
variable {P : Program} {w : World} {K : PySem.W.Frag} {mg mb : Str → Option Value} {CX : CXT} {k : Nat} {fa a : Addr} {fd : FuncData} {x : Str} {sp : Sp} {s₁ : Shared} {vs : List Value} {ns : List Int}
theorem lawG (KX : K.In s₁.heap) (hns : s₁.heap.Ns mainGlobals mg) (hb : s₁.heap.Ns builtinsNs mb) (hbb : ∀ x : Str, x ≠ "__name__" → mb x = bootBuiltins x) (hlim : s₁.heap.NoLimit) (hg : s₁.gens = #[])
    (ha : s₁.heap.get? a = some { cls := .type "list", data := .seq vs.toArray }) (hi : IntsAre vs ns) (hl : ns.length ≤ sizeLine) (hr : Room k callerA)
    (F : ∀ base : Heap, K.In base → base.Ns mainGlobals mg → FnG P w K mg base CX k fa fd [x] sp) (hbind : ∀ (s : Shared) (u : Value), BindsTo s fd ⟨[u], []⟩ [(x, u)])
    (hsp : ∀ H : Hp, SqL K H a (ns.map V.int) → sp [.ref a] H (fun v _ => v = .bl true) fun _ _ _ => False)
    (hCX : ∀ H e s', CX [] H s₁ (fun _ _ _ => False) e s' → False) :
    codeAny (model P w) callerA (.call (.ref fa) ⟨[.ref a], []⟩) (fun r s' => r = .ok (.ret (.bool true)) ∧ OldK s₁.heap s'.heap ∧ s'.os = s₁.os ∧ AllBare s'.gens) s₁ := by
  have rv := vals_ints hi
  have lv := hi.length
  generalize hH : scr K a vs ns = H
  have cs : ∀ b, H b = none ∨ (b = a ∧ K.lookup a = none ∧ H b = some (.frz { cls := .type "list", data := .seq vs.toArray } (.lst (ns.map V.int)))) := fun b => by
    subst hH
    unfold scr
    by_cases z : b = a ∧ K.lookup a = none
    · rw [if_pos z]
      exact Or.inr ⟨z.1, z.2, rfl⟩
    · rw [if_neg z]
      exact Or.inl rfl
  have hS : SqL K H a (ns.map V.int) := by
    cases z : K.lookup a with
    | none =>
      refine .inl (.inr ⟨{ cls := .type "list", data := .seq vs.toArray }, ?_⟩)
      subst hH
      exact if_pos ⟨rfl, z⟩
    | some o =>
      have y := (KX a o z).symm.trans ha
      cases y
      exact .inr ⟨_, vs.toArray, _, z, rfl, rfl, rfl, by rw [List.size_toArray, lv]; exact hl, by simpa using rv⟩
  have hok : HOk P w H s₁.heap := fun b u e => by
    rcases cs b with z | ⟨rfl, _, z⟩
    · rw [z] at e
      cases e
    · rw [z] at e
      cases e
      exact ⟨ha, by rw [List.length_map]; exact hl, vs, _, rv, ha⟩
  have nh : ∀ {b o}, s₁.heap.get? b = some o → (∀ es ep, o.data = .dict es ep → True) → (b = a → K.lookup a = none → False) → H b = none := fun {b o} _ _ n => by
    rcases cs b with z | ⟨z1, z2, _⟩
    · exact z
    · exact (n z1 z2).elim
  have nsB : ∀ {b : Addr} {m : Str → Option Value}, s₁.heap.Ns b m → (hidT s₁.heap H).Ns b m := by
    rintro b m ⟨o, es, ep, e, d, r⟩
    refine ⟨o, es, ep, hidT_get e (nh e (fun _ _ _ => trivial) fun z _ => ?_), d, r⟩
    subst z
    rw [ha] at e
    cases e
    cases d
  have kB : K.In (hidT s₁.heap H) := fun b o e => hidT_get (KX b o e) (nh (KX b o e) (fun _ _ _ => trivial) fun z1 z2 => by rw [z1, z2] at e; cases e)
  obtain ⟨mc, c1, c2⟩ := hlim
  have hM : Mod K mg (hidT s₁.heap H) := ⟨kB, nsB hns, ⟨mb, nsB hb, hbb⟩, mc, nsB c1, c2⟩
  have e0 : Env0 P w K mg (hidT s₁.heap H) callerA [] s₁ H := ⟨rfl, hM, fun b o e => of_hidT e, Nat.le_of_eq (hidT_size _ _), trivial, (fun b z => by cases z), hok, .of_eq hg⟩
  refine codeAny_mono ((F _ kB (nsB hns)).go callerA [] s₁ H ⟨[.ref a], []⟩ [.ref a] [.ref a] _ _ rfl hr e0 (hbind s₁ (.ref a)) (.cons rfl .nil) (hsp H hS)) ?_
  intro r s' h
  cases r with
  | error e => exact (hCX H e s' h).elim
  | ok fl =>
    cases fl with
    | ret u =>
      obtain ⟨v, H', os, bare, un, hok', r', q⟩ := h
      obtain rfl : v = .bl true := q
      obtain rfl : u = Value.bool true := r'
      refine ⟨rfl, OldK.of_keep fun b o e => ?_, os, bare⟩
      rcases cs b with z | ⟨rfl, _, z⟩
      · exact un.keep b o e z (fun y => by cases y) (fun y => by cases y)
      · have z2 := un.frzs b _ _ z
        rw [ha] at e
        cases e
        exact (hok' b _ z2).1
    | next => exact False.elim h
    | brk => exact False.elim h
    | cont => exact False.elim h
end
/-- the goal that the head leaves, from the law's promise -/
theorem walkG {l : PySem.W.OpenLaw} {n k : Nat} {q : Program} {loose : List Str} {XP : (Str → Option Value) → Heap → Prop} {YP : World → Heap → Prop} {d : DefRec} {K : Params → PySem.W.Frag} {CX : World → CXT} {sp : World → Sp} {x : Str}
    (hn : l.most = some n) (hn2 : n ≤ sizeLine) (hdf : d.params.defaults = []) (hr : Room k callerA) (hY : ∀ (w : World) (h : Heap), YP w h → (K w.params).In h)
    (F : ∀ (w : World) (mg : Str → Option Value) (fa : Addr) (h : Heap), (K w.params).In h → h.Ns mainGlobals mg → mg d.name = some (.ref fa) →
      ∃ fd : FuncData, (∀ (s : Shared) (u : Value), BindsTo s fd ⟨[u], []⟩ [(x, u)]) ∧ ∀ base : Heap, (K w.params).In base → base.Ns mainGlobals mg → FnG l.prog w (K w.params) mg base (CX w) k fa fd [x] (sp w))
    (hsp : ∀ (w : World) (H : Hp) (a : Addr) (ns : List Int), ns.length ≤ n → (∀ z ∈ ns, Builtin.Int.intBits z ≤ 1048576) → SqL (K w.params) H a (ns.map V.int) → sp w [.ref a] H (fun v _ => v = .bl true) fun _ _ _ => False)
    (hCX : ∀ (w : World) (H : Hp) (s : Shared) (e : Value) (s' : Shared), CX w [] H s (fun _ _ _ => False) e s' → False) :
    PySem.W.WalkO q loose XP YP l.row.toRowW d [] (fun f vs => PySem.call f vs) := by
  refine Att.attach_callB hn hdf ?_
  intro w s₀ s₁ mg mb fa o pm cd doc a vs ns G Y ho hd hcd hmg hobj hints hlen hbits hg
  obtain ⟨fd, hb, hF⟩ := F w mg fa _ (hY w _ Y) G.T.g hmg
  exact lawG (hY w _ Y) G.T.g G.T.b G.T.builtins G.T.nolimit hg hobj hints (Nat.le_trans hlen hn2) hr hF hb (fun H hS => hsp w H a ns hlen hbits hS) fun H e s' => hCX w H s₁ e s'
end Gd

set_option maxRecDepth 100000
set_option maxHeartbeats 8000000
namespace Sg
open PySem PySem.W PySem.Spec PyProof.Rows L2 Dr Gd Er Cm Ow Tw
/-- one own error as the top has made it -/
structure Cl1 (P : Program) (K : Frag) (mg : Str → Option Value) (x : Str) (fl : Option Str) (C f : Addr) : Prop where
  e : ErrC P K x fl C f
  g : mg x = some (.ref C)
  xf : XfC K C
  r : subIn K (.ref C) (.type "BaseException") = some true ∧ typeIn K (.ref C) = some (.type "type")
section
variable {P : Program} {K : Frag} {h : Heap} {mg : Str → Option Value} {x : Str} {fl : Option Str} {C f : Addr}
theorem mkCl1 {nm q : Str} {N : Addr} {bs bm : List Value} {sn : List Str} {sub : List Value} {ab : Bool} {col : Option Bool} {dd : Option Addr} {k0 k1 k2 k3 k5 : Option Value}
    {oc doc pm ct ccl cl : Value} {od an cdd cld : Option Addr} {osl ccs csl : Array (Option Value)} {cc cda : Addr} {qual z file : Str} {kz : Nat} {tf : Tok} {vs : Array Value} {p p' p0 p1 p2 p3 p4 p5 q1 q2 q3 q4 : Pos}
    (X : K.In h) (G : h.Ns mainGlobals mg)
    (any : nsIn K cStatics "thirdparty.any" = some none) (top : (P.main.scope.names.lookup ("super" : Str)).isSome = false)
    (aC : nsIn K mainGlobals x = some (some (.ref C))) (kC : keepIn K (.ref C) = true)
    (hC : K.lookup C = some (excClassObj nm q C N bs bm true sn sub ab col dd k0 k1 k2 k3 k5 "ValueError.__new__")) (hbm : PySem.HandSPX.refsVE bm = true)
    (sa : findIn K (.ref C) "__setattr__" = some (some (.builtin "object.__setattr__")))
    (iC : findIn K (.ref C) "__init__" = some (some (.ref f))) (tI : typeIn K (.ref f) = some (.type "function"))
    (lF : K.lookup f = some ⟨oc, od, .func (ksFn "__init__" qual (pars fl p p') (body fl z kz p0 p1 p2 p3 p4 p5 q1 q2 q3 q4) (scp fl) .none .none doc pm an (.ref cda) ct cc), osl⟩) (hcd : codeIn K (.ref cda) qual = true)
    (lc : K.lookup cda = some ⟨ccl, cdd, .fields vs, ccs⟩) (hv : vs[2]? = some (.str file tf)) (hfile : ((P.main.file : Str) == file) = true)
    (lcell : K.lookup cc = some ⟨cl, cld, .cell (some (.ref C)), csl⟩)
    (along : ks_superIn K C C "__init__" = some (some (.builtin "ValueError.__init__"))) (subVE : subIn K (.ref C) (.type "ValueError") = some true) (mro : mroIn K C (.ref C) = some true)
    (noF : ∀ y, fl = some y → findIn K (.ref C) y = some none)
    (ga : findIn K (.ref C) "__getattribute__" = some (some (.builtin "BaseException.__getattribute__"))) (gg : findIn K (.ref C) "__getattr__" = some none) (exC : subIn K (.ref C) (.type "BaseException") = some true) (hdC : hasDictIn K C = true)
    (tC : typeIn K (.ref C) = some (.type "type"))
    (ev : EvP z kz p0 p1 p2 p3 p4 p5) (bd : BdP fl (ksFn "__init__" qual (pars fl p p') (body fl z kz p0 p1 p2 p3 p4 p5 q1 q2 q3 q4) (scp fl) .none .none doc pm an (.ref cda) ct cc))
    (kS : (names fl).lookup ("super" : Str) = some .globalImplicit) (kF : (names fl).lookup ("__class__" : Str) = some .free) (kL : (names fl).lookup ("self" : Str) = some .local)
    (kP : ∀ y, fl = some y → (names fl).lookup y = some .local ∧ (y == ("self" : Str)) = false ∧ (y == ("__debug__" : Str)) = false) : Cl1 P K mg x fl C f where
  e := ⟨kC, ⟨nm, q, N, bs, bm, sn, sub, ab, col, dd, k0, k1, k2, k3, k5, hC, hbm⟩, sa, iC, tI,
    ⟨oc, od, doc, pm, an, ct, osl, cc, cda, qual, z, kz, p, p', p0, p1, p2, p3, p4, p5, q1, q2, q3, q4, lF, hcd, ev, bd, ⟨ccl, cdd, vs, ccs, file, tf, lc, hv, hfile⟩, cl, cld, csl, lcell⟩,
    any, along, subVE, mro, top, noF, kS, kF, kL, kP⟩
  g := mg_of X G aC
  xf := ⟨ga, gg, exC, hdC⟩
  r := ⟨exC, tC⟩
end
/-- which of the caught classes is which, and whose kind an instance is, by one look -/
def lookB (K : Frag) (cN cC cB cS C : Addr) : Bool :=
  decide (exmOne K (.ref cN) (.ref cN) = some true) && (decide (exmOne K (.ref cC) (.ref cN) = some false) && (decide (exmOne K (.ref cC) (.ref cC) = some true) && (decide (exmOne K (.ref cB) (.ref cN) = some false) && (decide (exmOne K (.ref cB) (.ref cC) = some false) &&
  (decide (exmOne K (.ref cB) (.ref cB) = some true) && (decide (exmOne K (.ref cS) (.ref cS) = some true) && (decide (kitOne K (.ref C) (.ref C) = some true) && decide (kitOne K (.type "list") (.ref C) = some false))))))))

theorem all_mk {l : OpenLaw} {w : World} {K : Frag} {h : Heap} {mg : Str → Option Value} {fa cN cC cB cS eN eC eB eS C g0 g1 g2 g3 g4 g5 g6 g7 g8 g9 g10 g11 g12 g13 g14 g15 g16 g17 g18 g19 g20 g21 g22 g23 pp18 pp19 : Addr} {od0 an0 od1 an1 od2 an2 od3 an3 od4 an4 od5 an5 od6 an6 od7 an7 od8 an8 od9 an9 od10 an10 od11 an11 od12 an12 od13 an13 od14 an14 od15 an15 od16 an16 od17 an17 od18 an18 od19 an19 od20 an20 od21 an21 od22 an22 od23 an23 : Option Addr} {sl0 sl1 sl2 sl3 sl4 sl5 sl6 sl7 sl8 sl9 sl10 sl11 sl12 sl13 sl14 sl15 sl16 sl17 sl18 sl19 sl20 sl21 sl22 sl23 : Array (Option Value)} {oc0 kV0 dc0 pm0 cd0 ct0 oc1 kV1 dc1 pm1 cd1 ct1 oc2 kV2 dc2 pm2 cd2 ct2 oc3 kV3 dc3 pm3 cd3 ct3 oc4 kV4 dc4 pm4 cd4 ct4 oc5 kV5 dc5 pm5 cd5 ct5 oc6 kV6 dc6 pm6 cd6 ct6 oc7 kV7 dc7 pm7 cd7 ct7 oc8 kV8 dc8 pm8 cd8 ct8 oc9 kV9 dc9 pm9 cd9 ct9 oc10 kV10 dc10 pm10 cd10 ct10 oc11 kV11 dc11 pm11 cd11 ct11 oc12 kV12 dc12 pm12 cd12 ct12 oc13 kV13 dc13 pm13 cd13 ct13 oc14 kV14 dc14 pm14 cd14 ct14 oc15 kV15 dc15 pm15 cd15 ct15 oc16 kV16 dc16 pm16 cd16 ct16 oc17 kV17 dc17 pm17 cd17 ct17 oc18 kV18 dc18 pm18 cd18 ct18 oc19 kV19 dc19 pm19 cd19 ct19 oc20 kV20 dc20 pm20 cd20 ct20 oc21 kV21 dc21 pm21 cd21 ct21 oc22 kV22 dc22 pm22 cd22 ct22 oc23 kV23 dc23 pm23 cd23 ct23 : Value} {rest18 rest19 : List Value} {n1 n2 n3 : Int} {zS : Str} {t1 t2 t3 t4 : Tok} (X : K.In h) (G : h.Ns mainGlobals mg) (hfa : mg "law" = some (.ref fa))
    (h0 : Cl1 l.prog K mg "NoList" none cN eN) (h1 : Cl1 l.prog K mg "BadCount" none cC eC) (h2 : Cl1 l.prog K mg "BadSign" (some "number") cB eB) (h3 : Cl1 l.prog K mg "NoSign" (some "name") cS eS)
    (a0 : nsIn K mainGlobals "is_whole" = some (some (.ref g0))) (l0 : K.lookup g0 = some ⟨oc0, od0, .func (fnOf "is_whole" "is_whole" (defArgs sWhole) (defBody sWhole) (defScope sWhole) .none kV0 dc0 pm0 an0 cd0 ct0), sl0⟩) (d0 : codeIn K cd0 "is_whole" = true) (k0 : keepIn K (.ref g0) = true)
    (a1 : nsIn K mainGlobals "is_word" = some (some (.ref g1))) (l1 : K.lookup g1 = some ⟨oc1, od1, .func (fnOf "is_word" "is_word" (defArgs sWord) (defBody sWord) (defScope sWord) .none kV1 dc1 pm1 an1 cd1 ct1), sl1⟩) (d1 : codeIn K cd1 "is_word" = true) (k1 : keepIn K (.ref g1) = true)
    (a2 : nsIn K mainGlobals "is_tuple_of" = some (some (.ref g2))) (l2 : K.lookup g2 = some ⟨oc2, od2, .func (fnOf "is_tuple_of" "is_tuple_of" (defArgs sTupOf) (defBody sTupOf) (defScope sTupOf) .none kV2 dc2 pm2 an2 cd2 ct2), sl2⟩) (d2 : codeIn K cd2 "is_tuple_of" = true) (k2 : keepIn K (.ref g2) = true)
    (a3 : nsIn K mainGlobals "_is_sign" = some (some (.ref g3))) (l3 : K.lookup g3 = some ⟨oc3, od3, .func (fnOf "_is_sign" "_is_sign" (defArgs sIsSign) (defBody sIsSign) (defScope sIsSign) .none kV3 dc3 pm3 an3 cd3 ct3), sl3⟩) (d3 : codeIn K cd3 "_is_sign" = true) (k3 : keepIn K (.ref g3) = true)
    (a4 : nsIn K mainGlobals "_law_feed" = some (some (.ref g4))) (l4 : K.lookup g4 = some ⟨oc4, od4, .func (fnOf "_law_feed" "_law_feed" (defArgs sFeed) (defBody sFeed) (defScope sFeed) .none kV4 dc4 pm4 an4 cd4 ct4), sl4⟩) (d4 : codeIn K cd4 "_law_feed" = true) (k4 : keepIn K (.ref g4) = true)
    (a5 : nsIn K mainGlobals "_law_take" = some (some (.ref g5))) (l5 : K.lookup g5 = some ⟨oc5, od5, .func (fnOf "_law_take" "_law_take" (defArgs sTake) (defBody sTake) (defScope sTake) .none kV5 dc5 pm5 an5 cd5 ct5), sl5⟩) (d5 : codeIn K cd5 "_law_take" = true) (k5 : keepIn K (.ref g5) = true)
    (a6 : nsIn K mainGlobals "_law_pick" = some (some (.ref g6))) (l6 : K.lookup g6 = some ⟨oc6, od6, .func (fnOf "_law_pick" "_law_pick" (defArgs sPick) (defBody sPick) (defScope sPick) .none kV6 dc6 pm6 an6 cd6 ct6), sl6⟩) (d6 : codeIn K cd6 "_law_pick" = true) (k6 : keepIn K (.ref g6) = true)
    (a7 : nsIn K mainGlobals "_law_known_signs" = some (some (.ref g7))) (l7 : K.lookup g7 = some ⟨oc7, od7, .func (fnOf "_law_known_signs" "_law_known_signs" (defArgs sKnown) (defBody sKnown) (defScope sKnown) .none kV7 dc7 pm7 an7 cd7 ct7), sl7⟩) (d7 : codeIn K cd7 "_law_known_signs" = true) (k7 : keepIn K (.ref g7) = true)
    (a8 : nsIn K mainGlobals "_law_drawn_signs" = some (some (.ref g8))) (l8 : K.lookup g8 = some ⟨oc8, od8, .func (fnOf "_law_drawn_signs" "_law_drawn_signs" (defArgs sDrawn) (defBody sDrawn) (defScope sDrawn) .none kV8 dc8 pm8 an8 cd8 ct8), sl8⟩) (d8 : codeIn K cd8 "_law_drawn_signs" = true) (k8 : keepIn K (.ref g8) = true)
    (a9 : nsIn K mainGlobals "_law_ways" = some (some (.ref g9))) (l9 : K.lookup g9 = some ⟨oc9, od9, .func (fnOf "_law_ways" "_law_ways" (defArgs sLways) (defBody sLways) (defScope sLways) .none kV9 dc9 pm9 an9 cd9 ct9), sl9⟩) (d9 : codeIn K cd9 "_law_ways" = true) (k9 : keepIn K (.ref g9) = true)
    (a10 : nsIn K mainGlobals "_law_near_signs" = some (some (.ref g10))) (l10 : K.lookup g10 = some ⟨oc10, od10, .func (fnOf "_law_near_signs" "_law_near_signs" (defArgs sNear) (defBody sNear) (defScope sNear) .none kV10 dc10 pm10 an10 cd10 ct10), sl10⟩) (d10 : codeIn K cd10 "_law_near_signs" = true) (k10 : keepIn K (.ref g10) = true)
    (a11 : nsIn K mainGlobals "_law_made" = some (some (.ref g11))) (l11 : K.lookup g11 = some ⟨oc11, od11, .func (fnOf "_law_made" "_law_made" (defArgs sMade) (defBody sMade) (defScope sMade) .none kV11 dc11 pm11 an11 cd11 ct11), sl11⟩) (d11 : codeIn K cd11 "_law_made" = true) (k11 : keepIn K (.ref g11) = true)
    (a12 : nsIn K mainGlobals "_law_arity" = some (some (.ref g12))) (l12 : K.lookup g12 = some ⟨oc12, od12, .func (fnOf "_law_arity" "_law_arity" (defArgs sLar) (defBody sLar) (defScope sLar) .none kV12 dc12 pm12 an12 cd12 ct12), sl12⟩) (d12 : codeIn K cd12 "_law_arity" = true) (k12 : keepIn K (.ref g12) = true)
    (a13 : nsIn K mainGlobals "_law_is" = some (some (.ref g13))) (l13 : K.lookup g13 = some ⟨oc13, od13, .func (fnOf "_law_is" "_law_is" (defArgs sIs) (defBody sIs) (defScope sIs) .none kV13 dc13 pm13 an13 cd13 ct13), sl13⟩) (d13 : codeIn K cd13 "_law_is" = true) (k13 : keepIn K (.ref g13) = true)
    (a14 : nsIn K mainGlobals "_law_odd_pairs" = some (some (.ref g14))) (l14 : K.lookup g14 = some ⟨oc14, od14, .func (fnOf "_law_odd_pairs" "_law_odd_pairs" (defArgs sOdd) (defBody sOdd) (defScope sOdd) .none kV14 dc14 pm14 an14 cd14 ct14), sl14⟩) (d14 : codeIn K cd14 "_law_odd_pairs" = true) (k14 : keepIn K (.ref g14) = true)
    (a15 : nsIn K mainGlobals "_law_near_right" = some (some (.ref g15))) (l15 : K.lookup g15 = some ⟨oc15, od15, .func (fnOf "_law_near_right" "_law_near_right" (defArgs sNrR) (defBody sNrR) (defScope sNrR) .none kV15 dc15 pm15 an15 cd15 ct15), sl15⟩) (d15 : codeIn K cd15 "_law_near_right" = true) (k15 : keepIn K (.ref g15) = true)
    (a16 : nsIn K mainGlobals "law" = some (some (.ref g16))) (l16 : K.lookup g16 = some ⟨oc16, od16, .func (fnOf "law" "law" (defArgs sLaw1) (defBody sLaw1) (defScope sLaw1) .none kV16 dc16 pm16 an16 cd16 ct16), sl16⟩) (d16 : codeIn K cd16 "law" = true) (k16 : keepIn K (.ref g16) = true)
    (aC : nsIn K mainGlobals "Signs" = some (some (.ref C))) (kC : keepIn K (.ref C) = true) (mkC : makesIn K C = true) (pgC : plainGet K C Str.empty = true) (hdC : hasDictIn K C = true) (poC : plainOver K C = true) (saC : findIn K (.ref C) "__setattr__" = some (some (.builtin "object.__setattr__"))) (naC : findIn K (.ref C) "_arities" = some none) (caC : findIn K (.ref C) "__class__" = some (some (.builtin "object.__class__"))) (cgC : specialIn K (.builtin "object.__class__") "__get__" = some (some (.builtin "getset_descriptor.__get__"))) (ctC : takesIn K (.builtin "object.__class__") = some true) (cmC : mroIn K C (.type "object") = some true) (neC : findIn K (.ref C) "__ne__" = some (some (.builtin "object.__ne__"))) (nfC : notFirst K C (.ref C) = true) (nfL : notFirst K C (.type "list") = true)
    (fa17 : findIn K (.ref C) "__init__" = some (some (.ref g17))) (fn17 : isFn K (.ref g17) = true)
    (l17 : K.lookup g17 = some ⟨oc17, od17, .func (fnOf "__init__" "Signs.__init__" (defArgs sInit) (defBody sInit) (defScope sInit) .none kV17 dc17 pm17 an17 cd17 ct17), sl17⟩) (d17 : codeIn K cd17 "Signs.__init__" = true) (k17 : keepIn K (.ref g17) = true)
    (fa18 : findIn K (.ref C) "names" = some (some (.ref pp18))) (fg18 : specialIn K (.ref pp18) "__get__" = some (some (.builtin "property.__get__"))) (ft18 : takesIn K (.ref pp18) = some true) (fr18 : recIn K pp18 "property" = some (.ref g18 :: rest18))
    (l18 : K.lookup g18 = some ⟨oc18, od18, .func (fnOf "names" "Signs.names" (defArgs sNames) (defBody sNames) (defScope sNames) .none kV18 dc18 pm18 an18 cd18 ct18), sl18⟩) (d18 : codeIn K cd18 "Signs.names" = true) (k18 : keepIn K (.ref g18) = true)
    (fa19 : findIn K (.ref C) "ways" = some (some (.ref pp19))) (fg19 : specialIn K (.ref pp19) "__get__" = some (some (.builtin "property.__get__"))) (ft19 : takesIn K (.ref pp19) = some true) (fr19 : recIn K pp19 "property" = some (.ref g19 :: rest19))
    (l19 : K.lookup g19 = some ⟨oc19, od19, .func (fnOf "ways" "Signs.ways" (defArgs sWays) (defBody sWays) (defScope sWays) .none kV19 dc19 pm19 an19 cd19 ct19), sl19⟩) (d19 : codeIn K cd19 "Signs.ways" = true) (k19 : keepIn K (.ref g19) = true)
    (fa20 : findIn K (.ref C) "arity" = some (some (.ref g20))) (fn20 : isFn K (.ref g20) = true)
    (l20 : K.lookup g20 = some ⟨oc20, od20, .func (fnOf "arity" "Signs.arity" (defArgs sArity) (defBody sArity) (defScope sArity) .none kV20 dc20 pm20 an20 cd20 ct20), sl20⟩) (d20 : codeIn K cd20 "Signs.arity" = true) (k20 : keepIn K (.ref g20) = true)
    (fa21 : findIn K (.ref C) "__contains__" = some (some (.ref g21))) (fn21 : isFn K (.ref g21) = true)
    (l21 : K.lookup g21 = some ⟨oc21, od21, .func (fnOf "__contains__" "Signs.__contains__" (defArgs sHas) (defBody sHas) (defScope sHas) .none kV21 dc21 pm21 an21 cd21 ct21), sl21⟩) (d21 : codeIn K cd21 "Signs.__contains__" = true) (k21 : keepIn K (.ref g21) = true)
    (fa22 : findIn K (.ref C) "__len__" = some (some (.ref g22))) (fn22 : isFn K (.ref g22) = true)
    (l22 : K.lookup g22 = some ⟨oc22, od22, .func (fnOf "__len__" "Signs.__len__" (defArgs sLen) (defBody sLen) (defScope sLen) .none kV22 dc22 pm22 an22 cd22 ct22), sl22⟩) (d22 : codeIn K cd22 "Signs.__len__" = true) (k22 : keepIn K (.ref g22) = true)
    (fa23 : findIn K (.ref C) "__eq__" = some (some (.ref g23))) (fn23 : isFn K (.ref g23) = true)
    (l23 : K.lookup g23 = some ⟨oc23, od23, .func (fnOf "__eq__" "Signs.__eq__" (defArgs sEq) (defBody sEq) (defScope sEq) .none kV23 dc23 pm23 an23 cd23 ct23), sl23⟩) (d23 : codeIn K cd23 "Signs.__eq__" = true) (k23 : keepIn K (.ref g23) = true)
    (z0 : nsIn K mainGlobals "super" = some none) (z1 : nsIn K mainGlobals "enumerate" = some none) (z2 : nsIn K mainGlobals "list" = some none) (z3 : nsIn K mainGlobals "isinstance" = some none) (z4 : nsIn K mainGlobals "int" = some none) (z5 : nsIn K mainGlobals "bool" = some none) (z6 : nsIn K mainGlobals "str" = some none) (z7 : nsIn K mainGlobals "tuple" = some none) (z8 : nsIn K mainGlobals "len" = some none) (z9 : nsIn K mainGlobals "all" = some none) (z10 : nsIn K mainGlobals "sorted" = some none) (z11 : nsIn K mainGlobals "max" = some none) (z12 : nsIn K mainGlobals "abs" = some none) (z13 : nsIn K mainGlobals "min" = some none) (z14 : nsIn K mainGlobals "range" = some none) (z15 : nsIn K mainGlobals "repr" = some none)
    (v1 : nsIn K mainGlobals "MOST_LETTERS" = some (some (.int n1 t1))) (v2 : nsIn K mainGlobals "MOST_SIGNS" = some (some (.int n2 t2))) (v3 : nsIn K mainGlobals "MOST_ARGUMENTS" = some (some (.int n3 t3))) (v4 : nsIn K mainGlobals "SMALL" = some (some (.str zS t4))) (w1 : n1 = 8) (w2 : n2 = 5) (w3 : n3 = 3) (w4 : zS = Lc) (kb : lookB K cN cC cB cS C = true)
    : ∃ fd : FuncData, (∀ (s : Shared) (v : Value), BindsTo s fd ⟨[v], []⟩ [("script", v)]) ∧ ∀ base : Heap, K.In base → base.Ns mainGlobals mg → FnG l.prog w K mg base CX0 7 fa fd ["script"] (spLaw1 K) := by
  have e := hfa.symm.trans (mg_of X G a16)
  cases e
  subst w1 w2 w3 w4
  have nn := fun {y : Str} (z : nsIn K mainGlobals y = some none) => mg_none_of X G z
  unfold lookB at kb
  simp only [Bool.and_eq_true, decide_eq_true_eq] at kb
  obtain ⟨b1, b2, b3, b4, b5, b6, b7, b8, b9⟩ := kb
  have F0 := fun_mk (st := sWhole) l0 d0 k0
  have B0 := F0.binds (ps := ["value"]) fun _ _ _ _ _ _ us hl => match us, hl with | [_], _ => rfl
  have F1 := fun_mk (st := sWord) l1 d1 k1
  have B1 := F1.binds (ps := ["value", "letters"]) fun _ _ _ _ _ _ us hl => match us, hl with | [_, _], _ => rfl
  have F2 := fun_mk (st := sTupOf) l2 d2 k2
  have B2 := F2.binds (ps := ["value", "many"]) fun _ _ _ _ _ _ us hl => match us, hl with | [_, _], _ => rfl
  have F3 := fun_mk (st := sIsSign) l3 d3 k3
  have B3 := F3.binds (ps := ["value"]) fun _ _ _ _ _ _ us hl => match us, hl with | [_], _ => rfl
  have F4 := fun_mk (st := sFeed) l4 d4 k4
  have B4 := F4.binds (ps := ["script", "k"]) fun _ _ _ _ _ _ us hl => match us, hl with | [_, _], _ => rfl
  have F5 := fun_mk (st := sTake) l5 d5 k5
  have B5 := F5.binds (ps := ["feed", "many"]) fun _ _ _ _ _ _ us hl => match us, hl with | [_, _], _ => rfl
  have F6 := fun_mk (st := sPick) l6 d6 k6
  have B6 := F6.binds (ps := ["feed", "some"]) fun _ _ _ _ _ _ us hl => match us, hl with | [_, _], _ => rfl
  have F7 := fun_mk (st := sKnown) l7 d7 k7
  have B7 := F7.binds (ps := []) fun _ _ _ _ _ _ us hl => match us, hl with | [], _ => rfl
  have F8 := fun_mk (st := sDrawn) l8 d8 k8
  have B8 := F8.binds (ps := ["feed"]) fun _ _ _ _ _ _ us hl => match us, hl with | [_], _ => rfl
  have F9 := fun_mk (st := sLways) l9 d9 k9
  have B9 := F9.binds (ps := ["pairs"]) fun _ _ _ _ _ _ us hl => match us, hl with | [_], _ => rfl
  have F10 := fun_mk (st := sNear) l10 d10 k10
  have B10 := F10.binds (ps := ["pairs"]) fun _ _ _ _ _ _ us hl => match us, hl with | [_], _ => rfl
  have F11 := fun_mk (st := sMade) l11 d11 k11
  have B11 := F11.binds (ps := ["pairs"]) fun _ _ _ _ _ _ us hl => match us, hl with | [_], _ => rfl
  have F12 := fun_mk (st := sLar) l12 d12 k12
  have B12 := F12.binds (ps := ["signs", "name"]) fun _ _ _ _ _ _ us hl => match us, hl with | [_, _], _ => rfl
  have F13 := fun_mk (st := sIs) l13 d13 k13
  have B13 := F13.binds (ps := ["signs", "pairs"]) fun _ _ _ _ _ _ us hl => match us, hl with | [_, _], _ => rfl
  have F14 := fun_mk (st := sOdd) l14 d14 k14
  have B14 := F14.binds (ps := ["name"]) fun _ _ _ _ _ _ us hl => match us, hl with | [_], _ => rfl
  have F15 := fun_mk (st := sNrR) l15 d15 k15
  have B15 := F15.binds (ps := ["feed", "signs", "pairs"]) fun _ _ _ _ _ _ us hl => match us, hl with | [_, _, _], _ => rfl
  have F16 := fun_mk (st := sLaw1) l16 d16 k16
  have F17 := fun_mk (st := sInit) l17 d17 k17
  have B17 := F17.binds (ps := ["self", "pairs"]) fun _ _ _ _ _ _ us hl => match us, hl with | [_, _], _ => rfl
  have F18 := fun_mk (st := sNames) l18 d18 k18
  have B18 := F18.binds (ps := ["self"]) fun _ _ _ _ _ _ us hl => match us, hl with | [_], _ => rfl
  have F19 := fun_mk (st := sWays) l19 d19 k19
  have B19 := F19.binds (ps := ["self"]) fun _ _ _ _ _ _ us hl => match us, hl with | [_], _ => rfl
  have F20 := fun_mk (st := sArity) l20 d20 k20
  have B20 := F20.binds (ps := ["self", "name"]) fun _ _ _ _ _ _ us hl => match us, hl with | [_, _], _ => rfl
  have F21 := fun_mk (st := sHas) l21 d21 k21
  have B21 := F21.binds (ps := ["self", "name"]) fun _ _ _ _ _ _ us hl => match us, hl with | [_, _], _ => rfl
  have F22 := fun_mk (st := sLen) l22 d22 k22
  have B22 := F22.binds (ps := ["self"]) fun _ _ _ _ _ _ us hl => match us, hl with | [_], _ => rfl
  have F23 := fun_mk (st := sEq) l23 d23 k23
  have B23 := F23.binds (ps := ["self", "other"]) fun _ _ _ _ _ _ us hl => match us, hl with | [_, _], _ => rfl
  have TK : KTxt mg := ⟨nn z3, nn z4, nn z5, nn z6, nn z7, nn z8, nn z9, ⟨t1, mg_of X G v1⟩⟩
  have DT : DTxt mg := ⟨nn z8, nn z11, nn z12, nn z4⟩
  have LT : LTxt mg := ⟨nn z14, nn z11, nn z13, nn z8, nn z2, nn z4, nn z15, nn z7⟩
  have KN : Kn K mg g0 g1 g2 _ _ _ := ⟨TK, F0, F1, F2, mg_of X G a0, mg_of X G a1, mg_of X G a2, ⟨t4, mg_of X G v4⟩, ⟨t3, mg_of X G v3⟩⟩
  have KE1 : Ke l.prog K mg cN cC cB cS eN eC eB eS := ⟨h0.e, h1.e, h2.e, h3.e, h0.g, h1.g, h2.g, h3.g, h0.r, h1.r, h2.r, h3.r, nn z0, nn z1, nn z2, ⟨t2, mg_of X G v2⟩⟩
  have KX : Kx K cN cC cB cS := ⟨b1, b2, b3, b4, b5, b6, b7, h2.xf, h3.xf, h2.e.noF _ rfl, h3.e.noF _ rfl⟩
  have SC : SClx K C := ⟨⟨⟨pgC, hdC, poC, saC⟩, naC⟩, caC, cgC, ctC, cmC, b8, b9⟩
  refine ⟨fnOf "law" "law" (defArgs sLaw1) (defBody sLaw1) (defScope sLaw1) .none kV16 dc16 pm16 an16 cd16 ct16, fun s v => .of_eq rfl, fun base _ _ => ?_⟩
  have hH : HasAt K C g21 _ := ⟨F21, fa21, fn21⟩
  have MK : MkS l.prog w K mg base cN cC cB C g17 _ := ⟨⟨mkC, fa17, fn17, kC⟩, ok_init F17 KN F3 (mg_of X G a3) KE1 SC.toSCl, B17, mg_of X G aC⟩
  have SM : SgM l.prog w K mg base C g22 pp18 g18 pp19 g19 g23 g21 _ _ _ _ _ := ⟨SC, fa22, fn22, ok_len F22 TK SC.toSCl, B22, ⟨fa18, fg18, ft18, _, fr18⟩, ok_names F18 (nn z2) SC.toSCl, B18, ⟨fa19, fg19, ft19, _, fr19⟩, ok_ways F19 (nn z10) SC.toSCl, B19, fa23, fn23, ok_eq F23 TK (nn z2) (mg_of X G aC) SC, B23, neC, fa21, fn21, ok_has F21 TK SC.toSCl, B21, nfC, nfL⟩
  have AA : ArAt l.prog w K base mg cS C g20 _ := ⟨⟨fa20, fn20, k20⟩, ok_arity F20 TK KE1 SC.toSCl hH, B20⟩
  have GF : Cal l.prog w K mg base CX0 1 "_law_feed" g4 _ ["script", "k"] (spFeed K) := ⟨ok_feed F4 DT, mg_of X G a4, k4, B4⟩
  have GT : Cal l.prog w K mg base CX0 1 "_law_take" g5 _ ["feed", "many"] spTake := ⟨ok_take F5 DT, mg_of X G a5, k5, B5⟩
  have GP : Cal l.prog w K mg base CX0 2 "_law_pick" g6 _ ["feed", "some"] (spPick K) := ⟨ok_pick F6 DT F5 B5 (mg_of X G a5), mg_of X G a6, k6, B6⟩
  have GK : Cal l.prog w K mg base CX0 1 "_law_known_signs" g7 _ [] (spKnown K) := ⟨ok_known F7, mg_of X G a7, k7, B7⟩
  have GD : Cal l.prog w K mg base CX0 3 "_law_drawn_signs" g8 _ ["feed"] (spDrawn K) := ⟨ok_drawn F8 GT GP GK (nn z4) (nn z14), mg_of X G a8, k8, B8⟩
  have GW : Cal l.prog w K mg base CX0 1 "_law_ways" g9 _ ["pairs"] (spLw K) := ⟨ok_lways F9 (nn z10), mg_of X G a9, k9, B9⟩
  have GN : Cal l.prog w K mg base CX0 1 "_law_near_signs" g10 _ ["pairs"] (spNear K) := ⟨ok_near F10, mg_of X G a10, k10, B10⟩
  have GM : Cal l.prog w K mg base CX0 5 "_law_made" g11 _ ["pairs"] (spMade K C) := ⟨ok_made F11 KE1 KX MK, mg_of X G a11, k11, B11⟩
  have GA : CalG l.prog w K mg base CX0 3 "_law_arity" g12 _ ["signs", "name"] (spLar K C) := ⟨ok_lar F12 KE1 KX SC.toSCl AA (nn z15), mg_of X G a12, k12, B12⟩
  have GI : CalG l.prog w K mg base CX0 5 "_law_is" g13 _ ["signs", "pairs"] (spIs K C) := ⟨ok_is F13 TK SM MK GW GA (nn z2), mg_of X G a13, k13, B13⟩
  have GO : Cal l.prog w K mg base CX0 1 "_law_odd_pairs" g14 _ ["name"] (spOdd K) := ⟨ok_odd F14, mg_of X G a14, k14, B14⟩
  have GR : CalG l.prog w K mg base CX0 6 "_law_near_right" g15 _ ["feed", "signs", "pairs"] (spNrR K C) := ⟨ok_nrR F15 SM MK GN GT GP GM GI (nn z2) (nn z14), mg_of X G a15, k15, B15⟩
  exact ok_law1 F16 LT SM MK GF GD GT GO GM GI GA GR
theorem walk {l : OpenLaw} {q : Program} {loose : List Str} {XP : (Str → Option Value) → Heap → Prop} {YP : World → Heap → Prop} {d : DefRec} {K : Params → Frag} (hn : l.most = some 63) (hdf : d.params.defaults = []) (hY : ∀ (w : World) (h : Heap), YP w h → (K w.params).In h)
    (F : ∀ (w : World) (mg : Str → Option Value) (fa : Addr) (h : Heap), (K w.params).In h → h.Ns mainGlobals mg → mg d.name = some (.ref fa) →
      ∃ fd : FuncData, (∀ (s : Shared) (u : Value), BindsTo s fd ⟨[u], []⟩ [("script", u)]) ∧ ∀ base : Heap, (K w.params).In base → base.Ns mainGlobals mg → FnG l.prog w (K w.params) mg base CX0 7 fa fd ["script"] (spLaw1 (K w.params))) :
    WalkO q loose XP YP l.row.toRowW d [] (fun f vs => PySem.call f vs) :=
  walkG (n := 63) (k := 7) (x := "script") (CX := fun _ => CX0) (sp := fun w => spLaw1 (K w.params)) hn (by decide) hdf ⟨rfl, by decide, by decide⟩ hY F (fun _ _ a ns hl _ hS => ⟨a, ns, rfl, hS, Nat.lt_of_le_of_lt hl (by decide), fun _ => rfl⟩) fun _ _ _ _ _ z => z
end Sg

open PySem PySem.W PyProof.Rows
local macro_rules | `(tactic| walk_at "mkcl") => `(tactic| (
  refine' Sg.mkCl1 (by assumption) (by assumption) ?any ?top ?aC ?kC ?hC ?hbm ?sa ?iC ?tI ?lF ?hcd ?lc ?hv ?hfile ?lcell ?along ?subVE ?mro ?noF ?ga ?gg ?exC ?hdC ?tC ?ev ?bd ?kS ?kF ?kL ?kP;
  (case any => k_is); (case top => decide +kernel); (case aC => k_is); (case kC => k_is); (case hC => k_is); (case hbm => rfl); (case sa => k_is); (case iC => k_is); (case tI => k_is);
  (case lF => k_is); (case hcd => k_is); (case lc => k_is); (case hv => rfl); (case hfile => decide +kernel); (case lcell => k_is); (case along => kernel_rfl); (case subVE => k_is); (case mro => k_is);
  (case noF => (intro y hy; cases hy; try k_is)); (case ga => k_is); (case gg => k_is); (case exC => k_is); (case hdC => k_is); (case tC => k_is);
  (case ev => exact fun env => ⟨⟨_, rfl⟩, rfl⟩); (case bd => first | exact fun e v => ⟨rfl, rfl⟩ | exact fun e => rfl); (case kS => rfl); (case kF => rfl); (case kL => rfl); (case kP => (intro y hy; cases hy; try decide +kernel)); (all_goals exact (⟨0, 0, 0, 0⟩ : Pos))))
set_option maxRecDepth 100000 in
set_option maxHeartbeats 0 in
theorem PySem.Challenge.cw_shutbyrings_k01_what_are_signs_holds : PySem.Challenge.rw_shutbyrings_k01_what_are_signs.Holds := by
  w_on; o_law; k_head; (case hw => w_witness2)
  k_fill
  refine Sg.walk (l := PySem.Challenge.rw_shutbyrings_k01_what_are_signs) rfl rfl (fun w h Y => PySem.W.kIn_of Y) ?F
  case F =>
    intro w mg fa h KX G hmg
    refine' Sg.all_mk KX G hmg ?h0 ?h1 ?h2 ?h3 ?a0 ?l0 ?d0 ?k0 ?a1 ?l1 ?d1 ?k1 ?a2 ?l2 ?d2 ?k2 ?a3 ?l3 ?d3 ?k3 ?a4 ?l4 ?d4 ?k4 ?a5 ?l5 ?d5 ?k5 ?a6 ?l6 ?d6 ?k6 ?a7 ?l7 ?d7 ?k7 ?a8 ?l8 ?d8 ?k8 ?a9 ?l9 ?d9 ?k9 ?a10 ?l10 ?d10 ?k10 ?a11 ?l11 ?d11 ?k11 ?a12 ?l12 ?d12 ?k12 ?a13 ?l13 ?d13 ?k13 ?a14 ?l14 ?d14 ?k14 ?a15 ?l15 ?d15 ?k15 ?a16 ?l16 ?d16 ?k16 ?aC ?kC ?mkC ?pgC ?hdC ?poC ?saC ?naC ?caC ?cgC ?ctC ?cmC ?neC ?nfC ?nfL ?fa17 ?fn17 ?l17 ?d17 ?k17 ?fa18 ?fg18 ?ft18 ?fr18 ?l18 ?d18 ?k18 ?fa19 ?fg19 ?ft19 ?fr19 ?l19 ?d19 ?k19 ?fa20 ?fn20 ?l20 ?d20 ?k20 ?fa21 ?fn21 ?l21 ?d21 ?k21 ?fa22 ?fn22 ?l22 ?d22 ?k22 ?fa23 ?fn23 ?l23 ?d23 ?k23 ?z0 ?z1 ?z2 ?z3 ?z4 ?z5 ?z6 ?z7 ?z8 ?z9 ?z10 ?z11 ?z12 ?z13 ?z14 ?z15 ?v1 ?v2 ?v3 ?v4 ?w1 ?w2 ?w3 ?w4 ?kb
    (case h0 => walk_at "mkcl")
    (case h1 => walk_at "mkcl")
    (case h2 => walk_at "mkcl")
    (case h3 => walk_at "mkcl")
    (case a0 => k_is)
    (case l0 => k_is)
    (case d0 => k_is)
    (case k0 => k_is)
    (case a1 => k_is)
    (case l1 => k_is)
    (case d1 => k_is)
    (case k1 => k_is)
    (case a2 => k_is)
    (case l2 => k_is)
    (case d2 => k_is)
    (case k2 => k_is)
    (case a3 => k_is)
    (case l3 => k_is)
    (case d3 => k_is)
    (case k3 => k_is)
    (case a4 => k_is)
    (case l4 => k_is)
    (case d4 => k_is)
    (case k4 => k_is)
    (case a5 => k_is)
    (case l5 => k_is)
    (case d5 => k_is)
    (case k5 => k_is)
    (case a6 => k_is)
    (case l6 => k_is)
    (case d6 => k_is)
    (case k6 => k_is)
    (case a7 => k_is)
    (case l7 => k_is)
    (case d7 => k_is)
    (case k7 => k_is)
    (case a8 => k_is)
    (case l8 => k_is)
    (case d8 => k_is)
    (case k8 => k_is)
    (case a9 => k_is)
    (case l9 => k_is)
    (case d9 => k_is)
    (case k9 => k_is)
    (case a10 => k_is)
    (case l10 => k_is)
    (case d10 => k_is)
    (case k10 => k_is)
    (case a11 => k_is)
    (case l11 => k_is)
    (case d11 => k_is)
    (case k11 => k_is)
    (case a12 => k_is)
    (case l12 => k_is)
    (case d12 => k_is)
    (case k12 => k_is)
    (case a13 => k_is)
    (case l13 => k_is)
    (case d13 => k_is)
    (case k13 => k_is)
    (case a14 => k_is)
    (case l14 => k_is)
    (case d14 => k_is)
    (case k14 => k_is)
    (case a15 => k_is)
    (case l15 => k_is)
    (case d15 => k_is)
    (case k15 => k_is)
    (case a16 => k_is)
    (case l16 => k_is)
    (case d16 => k_is)
    (case k16 => k_is)
    (case aC => k_is)
    (case kC => k_is)
    (case mkC => k_is)
    (case pgC => k_is)
    (case hdC => k_is)
    (case poC => k_is)
    (case saC => k_is)
    (case naC => k_is)
    (case caC => k_is)
    (case cgC => k_is)
    (case ctC => k_is)
    (case cmC => k_is)
    (case neC => k_is)
    (case nfC => k_is)
    (case nfL => k_is)
    (case fa17 => k_is)
    (case fn17 => k_is)
    (case l17 => k_is)
    (case d17 => k_is)
    (case k17 => k_is)
    (case fa18 => k_is)
    (case fg18 => k_is)
    (case ft18 => k_is)
    (case fr18 => k_is)
    (case l18 => k_is)
    (case d18 => k_is)
    (case k18 => k_is)
    (case fa19 => k_is)
    (case fg19 => k_is)
    (case ft19 => k_is)
    (case fr19 => k_is)
    (case l19 => k_is)
    (case d19 => k_is)
    (case k19 => k_is)
    (case fa20 => k_is)
    (case fn20 => k_is)
    (case l20 => k_is)
    (case d20 => k_is)
    (case k20 => k_is)
    (case fa21 => k_is)
    (case fn21 => k_is)
    (case l21 => k_is)
    (case d21 => k_is)
    (case k21 => k_is)
    (case fa22 => k_is)
    (case fn22 => k_is)
    (case l22 => k_is)
    (case d22 => k_is)
    (case k22 => k_is)
    (case fa23 => k_is)
    (case fn23 => k_is)
    (case l23 => k_is)
    (case d23 => k_is)
    (case k23 => k_is)
    (case z0 => k_is)
    (case z1 => k_is)
    (case z2 => k_is)
    (case z3 => k_is)
    (case z4 => k_is)
    (case z5 => k_is)
    (case z6 => k_is)
    (case z7 => k_is)
    (case z8 => k_is)
    (case z9 => k_is)
    (case z10 => k_is)
    (case z11 => k_is)
    (case z12 => k_is)
    (case z13 => k_is)
    (case z14 => k_is)
    (case z15 => k_is)
    (case v1 => k_is); (case v2 => k_is); (case v3 => k_is); (case v4 => k_is)
    (case w1 => rfl); (case w2 => rfl); (case w3 => rfl); (case w4 => decide +kernel)
    (case kb => kernel_rfl)
